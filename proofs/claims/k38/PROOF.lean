import PyProof.Rows.All
import Wide.All
import OpenK.AllK
import Wide.FinOn
import Lean
import PyProof.EqAt
import PyProof.EqKinds
import PyProof.TupleCall
import KE.KTupSum
import KE.KSortTup
import PyProof.SetKind
import PyProof.SetRoads
import PyProof.SetNew
import PyProof.DictKinds
import PyProof.NsDelKeeps
import PyProof.StrWalks
import KE.KEqDict
import KE.KDictList
import PyProof.AttrMissSeq
import PyProof.WalksMore
import KE.KDictOf
import PyProof.Rows.Range3
import KE.KItemsList
import PyProof.FactsAll.dict_3
import KE.KMinKey
import PyProof.Rows.CallKwBuiltin
import PyProof.TupleOfSeq
import KE.KLam
import KE.KNestM
import PySem.Challenge.RW_gaugewright_k38_cheapest_choices
open Option (isSome_iff_exists map_eq_some_iff map_some)
open Nat (le_of_eq le_of_lt le_refl le_succ le_trans lt_irrefl lt_of_lt_of_le mul_comm mul_le_mul ne_of_gt ne_of_lt succ_mul succ_ne_self zero_add zero_le)
open List (all_cons all_eq_true append_assoc append_nil cons_append drop_length drop_zero eq_nil_of_length_eq_zero filterMap_cons flatten_cons forIn_cons forall_mem_cons getD_eq_getElem?_getD getElem?_append_left getElem?_append_right getElem?_concat_length getElem?_cons_succ getElem?_cons_zero getElem?_eq_getElem getElem?_eq_none getElem?_map getElem?_range getElem?_set getElem?_set_ne getElem?_set_self getElem?_zip_eq_some getElem_mem length_append length_cons length_drop length_map length_nil length_range length_set length_singleton length_take lookup_cons map_append map_congr_left map_cons map_drop map_map map_nil map_set mem_append mem_append_left mem_append_right mem_cons mem_cons_of_mem mem_cons_self mem_filter mem_iff_getElem? mem_map mem_map_of_mem mem_of_getElem? mem_of_mem_drop mem_of_mem_take mem_range mem_reverse mem_singleton nil_append nodup_append nodup_cons nodup_nil not_mem_nil of_mem_zip replicate_succ reverse_cons set_cons_succ set_cons_zero size_toArray sum_append sum_cons take_add_one take_length take_of_length_le take_zero zip_cons_cons)
open PySem.Heap (get?_push_of_some get?_push_size get?_update_ne get?_update_other get?_update_self lt_size size_push)
open Array (length_toList)
theorem dz{p:Prop}[Decidable p](h:decide p=true:=by rfl):p:=of_decide_eq_true h
set_option Elab.async false
set_option linter.all false
set_option maxRecDepth 100000
set_option maxHeartbeats 8000000
noncomputable section
namespace L2
open PySem PySem.Spec PyProof.Rows
section
abbrev Key:=Sum Int Str
def ztz:Key->Value->Bool
 | .inl k,v=>Value.isInt k v
 | .inr x,v=>Value.isStrOf x v
def zvo(w:World):Key->Int
 | .inl k=>hashInt k
 | .inr x=>hashStr w x
theorem zaP:∀ {k:Key} {v:Value},ztz k v=true->(∃ i t,k=Sum.inl i/\v=Value.int i t)\/(∃ x t,k=Sum.inr x/\v=Value.str x t)
 | .inl i,v,h=>by
  obtain⟨t,e⟩:=Value.isInt_shape (k:=i) (v:=v) h;exact .inl ⟨i,t,rfl,e⟩
 | .inr x,v,h=>by
  obtain⟨t,e⟩:=Value.isStrOf_shape (x:=x) (v:=v) h;exact .inr ⟨x,t,rfl,e⟩
theorem ztb(a b:Int):decide ((Sum.inl a:Key)=Sum.inl b)=(a == b):=by
 by_cases e:a=b
 ·subst e; simp
 ·have h:¬ (Sum.inl a:Key)=Sum.inl b:=fun q=>e (Sum.inl.inj q);rw [decide_eq_false h];exact(beq_eq_false_iff_ne.mpr e).symm
theorem ztC(a b:Str):decide ((Sum.inr a:Key)=Sum.inr b)=decide (a=b):=by
 by_cases e:a=b
 ·subst e; simp
 ·have h:¬ (Sum.inr a:Key)=Sum.inr b:=fun q=>e (Sum.inr.inj q);rw [decide_eq_false h,decide_eq_false e]
theorem zty(a:Int)(b:Str):decide ((Sum.inl a:Key)=Sum.inr b)=false:=decide_eq_false (fun q=>nomatch q)
theorem zsY(a:Str)(b:Int):decide ((Sum.inr a:Key)=Sum.inl b)=false:=decide_eq_false (fun q=>nomatch q)
def zky(prog:Program)(w:World):PySem.KeyKind prog w Key where
 is:=ztz
 hash:=zvo w
 inj:=fun v a b ha hb=>by
  rcases zaP ha with ⟨i,t,rfl,rfl⟩ | ⟨x,t,rfl,rfl⟩
  ·rcases zaP hb with ⟨j,u,rfl,e⟩ | ⟨y,u,rfl,e⟩
   ·injection e with e1 _; rw [e1]
   ·exact nomatch e
  ·rcases zaP hb with ⟨j,u,rfl,e⟩ | ⟨y,u,rfl,e⟩
   ·exact nomatch e
   ·injection e with e1 _; rw [e1]
 byValue:=fun k v h=>by
  rcases zaP h with ⟨i,t,rfl,rfl⟩ | ⟨x,t,rfl,rfl⟩ <;> rfl
 pyHash:=fun hv h=>by
  rcases zaP hv with ⟨i,t,rfl,rfl⟩ | ⟨x,t,rfl,rfl⟩
  ·exact wpAny_pyHash_int h
  ·exact wpAny_pyHash_str h
 eqBool:=fun hu hv h=>by
  rcases zaP hu with ⟨i,t,rfl,rfl⟩ | ⟨x,t,rfl,rfl⟩
  ·rcases zaP hv with ⟨j,u,rfl,rfl⟩ | ⟨y,u,rfl,rfl⟩
   ·rw [ztb] at h; exact wpAny_eqBool_int h
   ·rw [zty] at h; exact SeqAt.EqAt.int_str i t y u _ _ _ _ h
  ·rcases zaP hv with ⟨j,u,rfl,rfl⟩ | ⟨y,u,rfl,rfl⟩
   ·rw [zsY] at h; exact SeqAt.EqAt.str_int x t j u _ _ _ _ h
   ·rw [ztC] at h; exact wpAny_eqBool_str h
 «strs»:=fun k x t v h=>by
  rcases zaP h with ⟨i,u,rfl,e⟩ | ⟨y,u,rfl,e⟩
  ·exact nomatch e
  ·injection e with e1 _
   subst e1;cases v <;> rfl
end
section
inductive V where
 | non | bl (b:Bool) | int (i:Int) | str (x:Str) | byt (b:Array UInt8) | flt (b:UInt64) | ref (a:Addr) | ty (n:String)
 deriving DecidableEq
def RelV:V->Value->Prop
 | .non,u=>u=Value.none
 | .bl b,u=>u=Value.bool b
 | .int i,u=>∃ t,u=Value.int i t
 | .str x,u=>∃ t,u=Value.str x t
 | .byt b,u=>∃ t,u=Value.bytes b t
 | .flt b,u=>∃ t,u=Value.float b t
 | .ref a,u=>u=Value.ref a
 | .ty n,u=>u=Value.type n
abbrev Vals:List V->List Value->Prop:=Paired RelV
theorem Vals.length{xs:List V}{us:List Value}(r:Vals xs us):xs.length=us.length:=Paired.length r
theorem Vals.get:∀ {xs:List V} {us:List Value} {i:Nat} {x:V},Vals xs us->xs[i]? = some x->∃ u,us[i]? = some u/\RelV x u
 | _,_,_,_,.nil,e=>by simp at e
 | _,_,0,_,.cons r _,e=>by simp at e; subst e; exact⟨_,rfl,r⟩
 | _,_,i+1,x,.cons _ t,e=>by
  obtain⟨u,h1,h2⟩:=Vals.get (i:=i) (x:=x) t (by simpa using e);exact⟨u,by simpa using h1,h2⟩
theorem Vals.set{x:V}{u:Value}(r:RelV x u):∀ {xs:List V} {us:List Value} (i:Nat),Vals xs us->Vals (xs.set i x) (us.set i u)
 | _,_,_,.nil=>.nil
 | _,_,0,.cons _ t=>.cons r t
 | _,_,i+1,.cons q t=>.cons q (Vals.set r i t)
theorem Vals.append:∀ {xs ys:List V} {us ws:List Value},Vals xs us->Vals ys ws->Vals (xs++ys) (us++ws)
 | _,_,_,_,.nil,s=>s
 | _,_,_,_,.cons r t,s=>.cons r (Vals.append t s)
theorem Vals.take:∀ {xs:List V} {us:List Value} (n:Nat),Vals xs us->Vals (xs.take n) (us.take n)
 | _,_,0,_=>.nil
 | _,_,_+1,.nil=>.nil
 | _,_,n+1,.cons r t=>.cons r (Vals.take n t)
theorem Vals.drop:∀ {xs:List V} {us:List Value} (n:Nat),Vals xs us->Vals (xs.drop n) (us.drop n)
 | _,_,0,r=>r
 | _,_,_+1,.nil=>.nil
 | _,_,n+1,.cons _ t=>Vals.drop n t
def RelO:Option V->Option Value->Prop
 | some v,some u=>RelV v u
 | none,none=>True
 | _,_=>False
def KV{κ:Type}:List (κ×V)->List (κ×Value)->Prop:=Paired fun(p:κ×V) (q:κ×Value)=>p.1=q.1/\RelV p.2 q.2
def kV:Key->V
 | .inl i=>.int i
 | .inr x=>.str x
inductive HO where
 | lst (xs:List V)
 | tup (xs:List V)
 | dK (kvs:List (Key×V)) | dT (kvs:List (List Key×V))
 | set (S:Int->Bool) (n:Nat)
 | ins (C dx:Addr) (fs:List (Str×V))
 | own (x:Addr)
 | xd (fs:List (Str×V))
 | met (f x:Addr)
 | rng (lo hi:Int)
 | frz (o:Obj) (u:HO)
 | tbl (ps:Array Value)
 | ext (φ:Heap->Prop)
abbrev Hp:=Addr->Option HO
def upd(H:Hp)(a:Addr)(o:HO):Hp:=fun b=>if b=a then some o else H b
theorem zad{H:Hp}{a:Addr}{o:HO}:upd H a o a=some o:=by unfold upd; rw [if_pos rfl]
theorem zO{H:Hp}{a b:Addr}{o:HO}(h:b≠a):upd H a o b=H b:=by unfold upd; rw [if_neg h]
theorem zri{H:Hp}{a:Addr}{o u:HO}:upd (upd H a o) a u=upd H a u:=by
 funext b; unfold upd; split <;> rfl
theorem zH{H:Hp}{a b:Addr}{o:HO}(h:H a=some o)(h':H b=none):a≠b:=by
 intro e; subst e; rw [h] at h'; cases h'
def TblOk(H:Hp)(ps qs:Array Value):Prop:=qs = #[]\/∃ (l c:Value) (q:Str) (t:Tok) (k:Addr) (oc:Obj) (vs:Array Value) (t':Tok),ps = #[l,c,.str q t]/\qs = #[l,c,.ref k]/\H k=some (.frz oc (.own 0))/\oc.data=.fields vs/\vs[1]? = some (.str q t')
theorem TblOk.stay{H H':Hp}{ps qs:Array Value}(x:TblOk H ps qs)(hf:∀ b o u,H b=some (.frz o u)->H' b=some (.frz o u)):TblOk H' ps qs:=by
 rcases x with x | ⟨l,c,q,t,k,oc,vs,t',e1,e2,e3,r⟩
 ·exact .inl x
 ·exact .inr ⟨l,c,q,t,k,oc,vs,t',e1,e2,hf _ _ _ e3,r⟩
section
variable (P:Program) (w:World)
def ObjOk(H:Hp)(h:Heap)(a:Addr):HO->Prop
 | .lst xs=>xs.length<=sizeLine/\∃ (its:List Value) (n:Nat),Vals xs its/\h.get? a=some { cls:=.type "list",data:=.seq its.toArray n }
 | .tup xs=>(xs.length<=sizeLine/\∃ o:Obj,h.get? a=some o/\o.dict=none)/\∃ its:List Value,Vals xs its/\IsTup h a its.toArray
 | .dK kvs=>kvs.length<=sizeLine/\(a == sysModules)=false/\∃ vs,KV kvs vs/\h.DictOf (zky P w) a vs
 | .dT kvs=>kvs.length<=sizeLine/\(a == sysModules)=false/\∃ xs:List (List Key×Addr×Value),
   Paired (fun(p:List Key×V) (q:List Key×Addr×Value)=>p.1=q.1/\H q.2.1=some (.tup (p.1.map kV))/\RelV p.2 q.2.2) kvs xs /\
   ∃ o es ep,h.get? a=some o/\o.ExactDict/\o.data=.dict es ep/\es.toList=xs.map (entryOfKey (tupleKind (zky P w)))/\(xs.map (·.1)).Nodup
 | .set S n=>h.SetOf (intKind P w) a S n
 | .ins C dx fs=>H dx=some (.own a)/\fs.length<=1000/\dx≠a/\h.get? a=some (W.instObj C dx) /\
   ∃ mA,h.Ns1 dx mA/\(∀ f,RelO (fs.lookup f) (mA f))/\PySem.Within mA (fs.map (·.1))
 | .own _=>∃ o,h.get? a=some o
 | .xd fs=>∃ mA,h.Ns1 a mA/\∀ f,RelO (fs.lookup f) (mA f)
 | .rng lo hi=>∃ t u v,h.get? a=some { cls:=.type "range",data:=.fields #[.int lo t,.int hi u,.int 1 v] }
 | .frz o u=>h.get? a=some o/\ObjOk H h a u
 | .tbl ps=>∃ qs:Array Value,h.get? a=some { cls:=.none,data:=.fields qs }/\TblOk H ps qs
 | .met f x=>h.get? a=some (W.methodObj (.ref f) (.ref x))
 | .ext φ=>φ h/\(∃ o,h.get? a=some o)/\∀ h1 h2:Heap,φ h1->(∀ o,h1.get? a=some o->h2.get? a=some o)->φ h2
def HOk(H:Hp)(h:Heap):Prop:=∀ a o,H a=some o->ObjOk P w H h a o
end
section
variable {P:Program} {w:World} {H H':Hp} {h h':Heap} {a:Addr} {o:HO}
theorem ObjOk.lt(x:ObjOk P w H h a o):a<h.objs.size:=by
 cases o with
 | lst xs=>obtain⟨_,_,_,_,e⟩:=x; exact lt_size e
 | tup xs=>obtain⟨_,_,_,p⟩:=x; exact p.lt
 | dK kvs=>obtain⟨_,_,_,_,o,_,_,e,_⟩:=x; exact lt_size e
 | dT kvs=>obtain⟨_,_,_,_,o,_,_,e,_⟩:=x; exact lt_size e
 | set S n=>obtain⟨o,_,_,_,e,_⟩:=x; exact lt_size e
 | ins C dx fs=>obtain⟨_,_,_,e,_⟩:=x; exact lt_size e
 | own y=>obtain⟨_,e⟩:=x; exact lt_size e
 | xd fs=>obtain⟨_,⟨_,_,_,e,_⟩,_⟩:=x; exact lt_size e
 | rng lo hi=>obtain⟨_,_,_,e⟩:=x; exact lt_size e
 | frz ob u=>obtain⟨e,_⟩:=x; exact lt_size e
 | tbl ps=>obtain⟨_,e,_⟩:=x; exact lt_size e
 | met f y=>exact lt_size (show h.get? a=some _ from x)
 | ext φ=>obtain⟨_,⟨_,e⟩,_⟩:=x; exact lt_size e
theorem Paired.mapP{α β:Type}{F G:α->β->Prop}:∀ {l₁:List α} {l₂:List β},Paired F l₁ l₂->(∀ a b,F a b->G a b)->Paired G l₁ l₂
 | _,_,.nil,_=>.nil
 | _,_,.cons r t,f=>.cons (f _ _ r) (Paired.mapP t f)
theorem ObjOk.stay(x:ObjOk P w H h a o)(k:∀ b u,(b=a\/H b=some (.own a))->h.get? b=some u->h'.get? b=some u)
  (ho:∀ b,H b=some (.own a)->H' b=some (.own a)) (ht:∀ b xs,H b=some (.tup xs)->H' b=some (.tup xs))
  (hf:∀ b o u,H b=some (.frz o u)->H' b=some (.frz o u):=by first | exact fun _ _ _ q=>q | (intro b o u q; rw [zO (zH q (by assumption))]; exact q)):ObjOk P w H' h' a o:=by
 induction o with
 | lst xs=>obtain⟨z,its,n,r,e⟩:=x; exact⟨z,its,n,r,k _ _ (.inl rfl) e⟩
 | tup xs=>obtain⟨⟨z,o2,e2,d2⟩,its,r,ob,e,c⟩:=x; exact⟨⟨z,o2,k _ _ (.inl rfl) e2,d2⟩,its,r,ob,k _ _ (.inl rfl) e,c⟩
 | dK kvs=>obtain⟨z,y,vs,r,ob,es,ep,e,c⟩:=x; exact⟨z,y,vs,r,ob,es,ep,k _ _ (.inl rfl) e,c⟩
 | dT kvs =>
  obtain⟨z,y,xs,r,ob,es,ep,e,c⟩:=x;exact⟨z,y,xs,Paired.mapP r fun p q z=>⟨z.1,ht _ _ z.2.1,z.2.2⟩,ob,es,ep,k _ _ (.inl rfl) e,c⟩
 | set S n=>obtain⟨ob,es,ep,t,e,c⟩:=x; exact⟨ob,es,ep,t,k _ _ (.inl rfl) e,c⟩
 | ins C dx fs =>
  obtain⟨d,z,ne,e,mA,⟨od,es,ep,e2,c⟩,r⟩:=x;exact⟨ho _ d,z,ne,k _ _ (.inl rfl) e,mA,⟨od,es,ep,k _ _ (.inr d) e2,c⟩,r⟩
 | own y=>obtain⟨ob,e⟩:=x; exact⟨ob,k _ _ (.inl rfl) e⟩
 | xd fs=>obtain⟨mA,⟨od,es,ep,e,c⟩,r⟩:=x; exact⟨mA,⟨od,es,ep,k _ _ (.inl rfl) e,c⟩,r⟩
 | rng lo hi=>obtain⟨t,u,v,e⟩:=x; exact⟨t,u,v,k _ _ (.inl rfl) e⟩
 | frz ob u ih=>obtain⟨e,q⟩:=x; exact⟨k _ _ (.inl rfl) e,ih q⟩
 | tbl ps =>
  obtain⟨qs,e,q⟩:=x;exact⟨qs,k a _ (.inl rfl) e,q.stay hf⟩
 | met f y =>
  have e:h.get? a=some (W.methodObj (.ref f) (.ref y)):=x;show h'.get? a=some (W.methodObj (.ref f) (.ref y));exact k a _ (.inl rfl) e
 | ext φ=>obtain⟨p,⟨o,e⟩,st⟩:=x; exact⟨st _ _ p fun o q=>k _ _ (.inl rfl) q,⟨o,k _ _ (.inl rfl) e⟩,st⟩
theorem HOk.lt(x:HOk P w H h)(e:H a=some o):a<h.objs.size:=(x a o e).lt
theorem HOk.fresh(x:HOk P w H h)(e:h.objs.size<=a):H a=none:=by
 cases q:H a with
 | none=>rfl
 | some u=>exact absurd (lt_of_lt_of_le (x.lt q) e) (lt_irrefl _)
theorem HOk.kept(x:HOk P w H h)(k:∀ b u,h.get? b=some u->h'.get? b=some u):HOk P w H h':=fun a o e =>
 (x a o e).stay (fun b u _ q=>k b u q) (fun _ q=>q) fun _ _ q=>q
theorem HOk.laid(x:HOk P w H h)(k:∀ b u,h.get? b=some u->h'.get? b=some u)(hp:h.objs.size<=a)(new:ObjOk P w (upd H a o) h' a o):HOk P w (upd H a o) h':=fun b u e=>by
 have hn:=x.fresh hp;by_cases hb:b=a
 ·subst hb; rw [zad] at e; cases e; exact new
 ·rw [zO hb] at e;exact(x b u e).stay (fun c v _ q=>k c v q) (fun c q=>by rw [zO (zH q hn)]; exact q) fun c xs q=>by rw [zO (zH q hn)]; exact q
end
def Rd(H:Hp)(a:Addr)(u:HO):Prop:=H a=some u\/∃ o,H a=some (.frz o u)
theorem Rd.ok{P:Program}{w:World}{H:Hp}{h:Heap}{a:Addr}{u:HO}(r:Rd H a u)(x:HOk P w H h):ObjOk P w H h a u:=by
 rcases r with r | ⟨o,r⟩
 ·exact x a u r
 ·obtain⟨_,q⟩:=x a _ r;exact q
def Mut:Option HO->Prop
 | some (.lst _)=>True
 | some (.dK _)=>True
 | some (.dT _)=>True
 | some (.set _ _)=>True
 | some (.ins _ _ _)=>True
 | some (.ext _)=>True
 | _=>False
section
variable {P:Program} {w:World} {H:Hp} {h h':Heap} {x e:Addr} {o':HO}
theorem HOk.write(ok:HOk P w H h)(mu:Mut (H x))(he:e=x\/H e=some (.own x))(k:∀ b u,b≠e->h.get? b=some u->h'.get? b=some u)(heo:∃ u,h'.get? e=some u)
  (new:ObjOk P w (upd H x o') h' x o'):HOk P w (upd H x o') h':=fun b u q=>by
 have nown:∀ c y,H c=some (.own y)->c≠x:=fun c y r z=>by subst z; rw [r] at mu; exact mu
 have ntup:∀ c xs,H c=some (.tup xs)->c≠x:=fun c xs r z=>by subst z; rw [r] at mu; exact mu
 have nfrz:∀ c o u,H c=some (.frz o u)->c≠x:=fun c o u r z=>by subst z; rw [r] at mu; exact mu
 by_cases hb:b=x
 ·subst hb; rw [zad] at q; cases q; exact new
 ·rw [zO hb] at q;by_cases hbe:b=e
  ·have q':H b=some (.own x):=by
    rcases he with z | z
    ·exact absurd (hbe.trans z) hb
    ·rw [hbe]; exact z
   rw [q] at q'; cases q';obtain⟨v,hv⟩:=heo;exact⟨v,by rw [hbe]; exact hv⟩
  ·refine(ok b u q).stay (fun c v hc r=>k c v ?_ r) (fun c r=>by rw [zO (nown c b r)]; exact r) (fun c xs r=>by rw [zO (ntup c xs r)]; exact r) fun c o u r=>by rw [zO (nfrz c o u r)]; exact r
   rcases hc with rfl | hc
   ·exact hbe
   ·rintro rfl;rcases he with z | z
    ·exact nown c b hc z
    ·rw [hc] at z; cases z; exact hb rfl
end
structure Un(fs ex:List Addr)(H H':Hp)(h h':Heap):Prop where
 keep:∀ b o,h.get? b=some o->H b=none->b∉fs->b∉ex->h'.get? b=some o
 slot:∀ b o,h.get? b=some o->H b=none->b∈fs->b∉ex->∃ sl,h'.get? b=some { o with slots:=sl }
 free:∀ b o,h.get? b=some o->H b=none->b∉ex->H' b=none
 there:∀ b o,h.get? b=some o->b∉ex->∃ o',h'.get? b=some o'
 tups:∀ b xs,H b=some (.tup xs)->H' b=some (.tup xs)
 frzs:∀ b o u,H b=some (.frz o u)->H' b=some (.frz o u)
 tbls:∀ b ps,H b=some (.tbl ps)->H' b=some (.tbl ps)
section
variable {fs fs' ex ex':List Addr} {H H1 H2:Hp} {h h1 h2 h':Heap} {a x e:Addr} {o:HO}
theorem Un.any(u:Un fs ex H H1 h h1){b:Addr}{ob:Obj}(q:h.get? b=some ob)(n:H b=none)(hx:b∉ex):∃ sl,h1.get? b=some { ob with slots:=sl }:=by
 by_cases hb:b∈fs
 ·exact u.slot b ob q n hb hx
 ·exact⟨ob.slots,u.keep b ob q n hb hx⟩
theorem Un.trans(a:Un fs ex H H1 h h1)(b:Un fs ex H1 H2 h1 h2):Un fs ex H H2 h h2 where
 keep:=fun c ob q n hc hx=>b.keep c ob (a.keep c ob q n hc hx) (a.free c ob q n hx) hc hx
 slot:=fun c ob q n hc hx=>by
  obtain⟨sl,e1⟩:=a.slot c ob q n hc hx;obtain⟨sl',e2⟩:=b.slot c _ e1 (a.free c ob q n hx) hc hx;exact⟨sl',e2⟩
 free:=fun c ob q n hx=>by
  obtain⟨o',e1⟩:=a.there c ob q hx;exact b.free c o' e1 (a.free c ob q n hx) hx
 there:=fun c ob q hx=>by
  obtain⟨o',e1⟩:=a.there c ob q hx;exact b.there c o' e1 hx
 tups:=fun c xs q=>b.tups c xs (a.tups c xs q)
 frzs:=fun c ob xs q=>b.frzs c ob xs (a.frzs c ob xs q)
 tbls:=fun c ps q=>b.tbls c _ (a.tbls c ps q)
theorem Un.kept(k:∀ b u,h.get? b=some u->h'.get? b=some u):Un fs ex H H h h' :=
 ⟨fun b ob q _ _ _=>k b ob q,fun b ob q _ _ _=>⟨ob.slots,k b ob q⟩,fun _ _ _ n _=>n,fun b ob q _=>⟨ob,k b ob q⟩,fun _ _ q=>q,fun _ _ _ q=>q,fun _ _ q=>q⟩
theorem Un.refl:Un fs ex H H h h:=Un.kept fun _ _ q=>q
theorem Un.laid(k:∀ b u,h.get? b=some u->h'.get? b=some u)(hp:h.objs.size<=a)(hn:H a=none):Un fs ex H (upd H a o) h h' where
 keep:=fun b u q _ _ _=>k b u q
 slot:=fun b u q _ _ _=>⟨u.slots,k b u q⟩
 free:=fun b u q n _=>by rw [zO (ne_of_lt (lt_of_lt_of_le (lt_size q) hp))]; exact n
 there:=fun b u q _=>⟨u,k b u q⟩
 tups:=fun b xs q=>by rw [zO (zH q hn)]; exact q
 frzs:=fun b u xs q=>by rw [zO (zH q hn)]; exact q
 tbls:=fun b ps q=>by rw [zO (zH q hn)]; exact q
theorem Un.write(mu:Mut (H x))(he:e=x\/H e=some (.own x))(k:∀ b u,b≠e->h.get? b=some u->h'.get? b=some u)(heo:∃ u,h'.get? e=some u):Un fs ex H (upd H x o) h h':=by
 have hx:∀ b,H b=none->b≠x:=fun b n z=>by subst z; rw [n] at mu; exact mu
 have hb:∀ b,H b=none->b≠e:=fun b n z=>by
  subst z;rcases he with r | r
  ·exact hx b n r
  ·rw [n] at r; cases r
 have hm:∀ b u,H b=some u->¬ Mut (some u)->b≠x:=fun b u q nm z=>by subst z; rw [q] at mu; exact nm mu
 refine⟨fun b u q n _ _=>k b u (hb b n) q,fun b u q n _ _=>⟨u.slots,k b u (hb b n) q⟩,fun b u q n _=>by rw [zO (hx b n)]; exact n,fun b u q _=>?_,
  fun b xs q=>by rw [zO (hm b _ q fun z=>z)]; exact q,fun b u xs q=>by rw [zO (hm b _ q fun z=>z)]; exact q,fun b ps q=>by rw [zO (hm b _ q fun z=>z)]; exact q⟩
 by_cases hbe:b=e
 ·subst hbe; exact heo
 ·exact⟨u,k b u hbe q⟩
theorem Un.mono(u:Un fs ex H H1 h h1)(hs:∀ b∈fs,b∈fs')(hx:∀ b∈ex,b∈ex'):Un fs' ex' H H1 h h1 :=
 ⟨fun b ob q n hb he=>u.keep b ob q n (fun z=>hb (hs b z)) fun z=>he (hx b z),fun _ _ q n _ he=>u.any q n fun z=>he (hx _ z),fun b ob q n he=>u.free b ob q n fun z=>he (hx b z),fun b ob q he=>u.there b ob q fun z=>he (hx b z),u.tups,u.frzs,u.tbls⟩
end
def trk(h:Heap)(H:Hp):List Addr:=(List.range h.objs.size).filter fun a=>(H a).isSome
def zoE(h:Heap)(H:Hp):Heap:=W.hideAll h (trk h H)
theorem zmY(h:Heap)(H:Hp):(zoE h H).objs.size=h.objs.size:=W.hideAll_size _ _
theorem zpc{h:Heap}{H:Hp}{b:Addr}{o:Obj}(e:h.get? b=some o)(n:H b=none):(zoE h H).get? b=some o :=
 W.hideAll_get _ e fun hm=>by
  have q:(H b).isSome=true:=(mem_filter.mp hm).2;rw [n] at q; simp at q
theorem zrA{h:Heap}{H:Hp}{b:Addr}{o:Obj}(e:(zoE h H).get? b=some o):h.get? b=some o/\H b=none:=by
 have e':h.get? b=some o:=W.of_hideAll (trk h H) e;refine⟨e',?_⟩;cases q:H b with
 | none=>rfl
 | some x =>
  have hm:b∈trk h H:=mem_filter.mpr ⟨mem_range.mpr (lt_size e'),by simp [q]⟩;have z:(zoE h H).get? b=none:=W.hideAll_none (trk h H) hm;rw [z] at e; cases e
def zrZ(g h:Heap)(L:Addr):List (Addr×Obj):=(List.range h.objs.size).filterMap fun a=>if a=L\/(g.get? a).isSome=true then none else (h.get? a).map fun o=>(a,o)
def rest(g h:Heap)(L d:Addr):List (Addr×Obj):=(zrZ g h L).filter fun p=>decide (p.1≠d)
end
section
def tabsG:List ((Addr×Addr)×Array Value):=[((294,292),#[rawInt ((107:Nat):Int),rawInt ((26:Nat):Int),.str (("cheapest" ++ ".<locals>.") ++ "<lambda>") 0]),((322,318),#[rawInt ((125:Nat):Int),rawInt ((33:Nat):Int),.str (("floor_of" ++ ".<locals>.") ++ "<lambda>") 0])]
def BltAt(base:Heap)(mg:Str->Option Value):Prop:=∃ bm ob,mg "__builtins__" = some (.ref bm)/\bm≠builtinsNs/\base.get? bm=some ob/\ob.cls=.type "module"/\ob.dict=some builtinsNs/\ob.data=.plain
structure Frf(fs:List Addr)(H:Hp):Prop where
 free:∀ b∈fs,H b=none
 tab:∀ q∈tabsG,H q.1.2=some (.tbl q.2)
structure Mod(K:W.Frag)(mg:Str->Option Value)(base:Heap):Prop where
 kin:K.In base
 glob:base.Ns mainGlobals mg
 blt:∃ mb,base.Ns builtinsNs mb/\∀ x:Str,x ≠ "__name__"->mb x=bootBuiltins x
 nolimit:base.NoLimit
 bm:BltAt base mg
 hd:∀ q∈tabsG,W.CodeHd base q.1.1 q.1.2
structure Cx where
 prog:Program
 w:World
 K:W.Frag
 mg:Str->Option Value
 base:Heap
 A:Around
 N:List Str
 s₀:Shared
 H₀:Hp
 env:Env
 outer:List Env
 stack:List Env
 ex:List Addr
 fn:Str->Bool
 calm:Bool
 pn:List (Addr×Obj)
 xe:Value->Shared->Prop
def frs(l:List Env):List Addr:=l.filterMap (·.frame)
abbrev Cx.fs (X:Cx):List Addr:=frs X.outer
def Vis(sc:Scope)(x:Str):Prop:=sc.names.lookup x=some .local\/sc.names.lookup x=some .cell\/sc.names.lookup x=some .free
def Loc(sc:Scope)(x:Str):Prop:=sc.names.lookup x=some .local\/sc.names.lookup x=some .cell
def Look(env:Env)(h:Heap)(m:Str->Option Value)(x:Str)(u:Value):Prop :=
 (env.kindOf x=some .local/\m x=some u)\/((env.kindOf x=some .cell\/env.kindOf x=some .free)/\∃ c,env.cells.lookup x=some c/\h.IsCell c (some u))
structure Cx.Ok(X:Cx):Prop where
 mod:Mod X.K X.mg X.base
 kind:X.env.scope.kind=.function
 glob:X.env.globals=mainGlobals
 blt:X.env.builtins=builtinsNs
 above:X.s₀.heap.objs.size<=X.env.locals
 inj:∀ x y c,X.env.cells.lookup x=some c->X.env.cells.lookup y=some c->x=y
 has:∀ x,(X.env.kindOf x=some .cell\/X.env.kindOf x=some .free)->∃ c,X.env.cells.lookup x=some c
 cab:∀ x c,X.fn x=true->X.env.cells.lookup x=some c->X.s₀.heap.objs.size<=c
 hd:X.calm=true->X.A.handled=none
 frames:X.A.frames=some X.stack
 stk:X.stack=X.outer\/(X.stack=X.env :: X.outer/\X.env.frame=some X.env.locals)
 exf:∀ b∈X.ex,b≠X.env.locals/\∀ x c,X.env.cells.lookup x=some c->c≠b
 bs:∀ b o,X.base.get? b=some o->X.s₀.heap.get? b=some o/\X.H₀ b=none
 bsz:X.base.objs.size<=X.s₀.heap.objs.size
 noex:∀ b o,X.base.get? b=some o->b∉X.ex
 exfs:∀ b∈X.ex,b∉X.fs
 funs:X.s₀.heap.FunFrames X.base X.outer
 frf:Frf X.fs X.H₀
structure Inv(X:Cx)(zj:List (Addr×Obj))(σ:List (Option V))(H:Hp)(s:Shared):Prop where
 ok:X.Ok
 os:s.os=X.s₀.os
 bare:AllBare s.gens
 base:Un X.fs X.ex X.H₀ H X.s₀.heap s.heap
 loc:∃ m,s.heap.Ns X.env.locals m/\∀ (i:Nat) (x:Str) (v:V),X.N[i]? = some x->σ[i]? = some (some v)->Vis X.env.scope x->∃ u,RelV v u/\Look X.env s.heap m x u
 cell:∀ x c,X.env.cells.lookup x=some c->∃ v,s.heap.IsCell c v
 free:H X.env.locals=none
 freeC:∀ x c,X.env.cells.lookup x=some c->H c=none
 pin:∀ p∈X.pn++zj,s.heap.get? p.1=some p.2/\H p.1=none/\p.1≠X.env.locals/\p.1∉X.fs/\∀ v,p.2.data≠.cell v
 hok:HOk X.prog X.w H s.heap
 len:σ.length=X.N.length
section
variable {X:Cx} {zj:List (Addr×Obj)} {σ:List (Option V)} {H H':Hp} {s:Shared} {h':Heap}
theorem Cx.Ok.nofr(ok:X.Ok){b:Addr}{o:Obj}(e:X.base.get? b=some o):b∉X.fs:=fun hb=>by
 have:=(ok.funs.mem hb).1;rw [e] at this; cases this
theorem Inv.bs(I:Inv X zj σ H s):∀ b o,X.base.get? b=some o->s.heap.get? b=some o/\H b=none:=fun b o e =>
 ⟨I.base.keep b o (I.ok.bs b o e).1 (I.ok.bs b o e).2 (I.ok.nofr e) (I.ok.noex b o e),I.base.free b o (I.ok.bs b o e).1 (I.ok.bs b o e).2 (I.ok.noex b o e)⟩
theorem Inv.bk(I:Inv X zj σ H s):∀ b o,X.base.get? b=some o->s.heap.get? b=some o:=fun b o e=>(I.bs b o e).1
theorem Inv.mod(I:Inv X zj σ H s):Mod X.K X.mg X.base:=I.ok.mod
theorem Inv.kIn(I:Inv X zj σ H s):X.K.In s.heap:=I.ok.mod.kin.keeps I.bk
theorem Inv.lt(I:Inv X zj σ H s):X.env.locals<s.heap.objs.size:=let ⟨_,hn,_⟩:=I.loc; hn.lt
theorem Inv.sz(I:Inv X zj σ H s):X.s₀.heap.objs.size<=s.heap.objs.size:=le_trans I.ok.above (le_of_lt I.lt)
theorem Inv.nofs(I:Inv X zj σ H s){a:Addr}(h:s.heap.objs.size<=a):a∉X.fs:=fun hb=>by
 obtain⟨_,o,ho,_⟩:=I.ok.funs.mem hb;exact absurd (lt_of_lt_of_le (lt_size ho) (le_trans I.sz h)) (lt_irrefl _)
theorem Inv.cne(I:Inv X zj σ H s):∀ x c,X.env.cells.lookup x=some c->c≠X.env.locals:=fun x c e z=>by
 obtain⟨v,o,ho,hd⟩:=I.cell x c e;obtain⟨m,⟨o',es,ep,ho',hd',_⟩,_⟩:=I.loc;rw [z,ho'] at ho; cases ho; rw [hd'] at hd; cases hd
theorem Inv.funs(I:Inv X zj σ H s):s.heap.FunFrames X.base X.outer:=by
 have all:∀ (l:List Env),(∀ b∈frs l,b∈X.fs)->X.s₀.heap.FunFrames X.base l->s.heap.FunFrames X.base l:=by
  intro l;induction l with
  | nil=>intro _ _; trivial
  | cons env r ih =>
   intro hs hl;obtain⟨hk,⟨L,o,hf,hn,ho,hd⟩,hr⟩:=hl;have hL:L∈X.fs:=hs L (by unfold frs; rw [filterMap_cons,hf]; exact mem_cons_self);obtain⟨sl,e⟩:=I.base.slot L o ho (I.ok.frf.free L hL) hL fun z=>I.ok.exfs L z hL;exact⟨hk,⟨L,_,hf,hn,e,hd⟩,ih (fun b hb=>hs b (by unfold frs; rw [filterMap_cons,hf]; exact mem_cons_of_mem _ hb)) hr⟩
 exact all X.outer (fun _ hb=>hb) I.ok.funs
theorem Inv.stack(I:Inv X zj σ H s):s.heap.FunFrames X.base X.stack:=by
 rcases I.ok.stk with e | ⟨e,hf⟩
 ·rw [e]; exact I.funs
 ·rw [e];obtain⟨m,hn,_⟩:=I.loc;refine .cons (by rw [I.ok.kind]; decide) hf hn ?_ I.funs;exact Heap.get?_none_of_le (le_trans I.ok.bsz I.ok.above)
theorem Inv.stkSub(I:Inv X zj σ H s):∀ b∈frs X.stack,b∈X.env.locals :: X.fs:=fun b hb=>by
 rcases I.ok.stk with e | ⟨e,hf⟩
 ·rw [e] at hb; exact mem_cons_of_mem _ hb
 ·rw [e] at hb;unfold frs at hb;rw [filterMap_cons,hf] at hb;exact hb
theorem Inv.stkFree(I:Inv X zj σ H s):Frf (frs X.stack) H:=⟨fun b hb=>by
 rcases mem_cons.mp (I.stkSub b hb) with e | hb
 ·rw [e]; exact I.free
 ·obtain⟨_,o,ho,_⟩:=I.ok.funs.mem hb;exact I.base.free b o ho (I.ok.frf.free b hb) fun z=>I.ok.exfs b z hb,fun q hq=>I.base.tbls _ _ (I.ok.frf.tab q hq)⟩
theorem Inv.step{g':Array GenState}{t':Nat}{d':Drawn}{ch:List Addr}(I:Inv X zj σ H s)
  (hch:∀ b∈ch,(b∈X.ex\/X.s₀.heap.objs.size<=b)/\b≠X.env.locals/\(∀ x c,X.env.cells.lookup x=some c->c≠b)/\∀ p∈X.pn++zj,p.1≠b)
  (keep:∀ b o,b≠X.env.locals->b∉X.fs->b∉ch->s.heap.get? b=some o->H b=none->h'.get? b=some o)
  (slot:∀ b o,b≠X.env.locals->b∈X.fs->b∉ch->s.heap.get? b=some o->H b=none->∃ sl,h'.get? b=some { o with slots:=sl }) (free:∀ b o,b∉ch->s.heap.get? b=some o->H b=none->H' b=none)
  (there:∀ b o,b∉ch->s.heap.get? b=some o->∃ o',h'.get? b=some o')
  (tups:∀ b xs,H b=some (.tup xs)->H' b=some (.tup xs)) (frzs:∀ b o u,H b=some (.frz o u)->H' b=some (.frz o u)) (tbls:∀ b ps,H b=some (.tbl ps)->H' b=some (.tbl ps))
  (ns:∀ m,s.heap.Ns X.env.locals m->h'.Ns X.env.locals m) (hok:HOk X.prog X.w H' h') (hg:AllBare g') :
  Inv X zj σ H' { s with heap:=h',gens:=g',drawn:=d',toks:=t' }:=by
 have neL:∀ b o,X.s₀.heap.get? b=some o->b≠X.env.locals:=fun b o e=>ne_of_lt (lt_of_lt_of_le (lt_size e) I.ok.above);have neC:∀ b o,X.s₀.heap.get? b=some o->b∉X.ex->b∉ch:=fun b o e hx hb=>by
  rcases(hch b hb).1 with z | z
  ·exact hx z
  ·exact absurd (lt_of_lt_of_le (lt_size e) z) (lt_irrefl _)
 have cellK:∀ x c,X.env.cells.lookup x=some c->∀ v,s.heap.IsCell c v->h'.IsCell c v:=fun x c e v ⟨o,ho,hd⟩=>by
  have nch:c∉ch:=fun z=>(hch c z).2.2.1 x c e rfl;by_cases hc:c∈X.fs
  ·obtain⟨sl,q⟩:=slot c o (I.cne x c e) hc nch ho (I.freeC x c e);exact⟨_,q,hd⟩
  ·exact⟨o,keep c o (I.cne x c e) hc nch ho (I.freeC x c e),hd⟩
 refine⟨I.ok,I.os,hg,⟨fun b o e n hb hx=>?_,fun b o e n hb hx=>?_,fun b o e n hx=>?_,fun b o e hx=>?_,fun b xs e=>tups b xs (I.base.tups b xs e),fun b o xs e=>frzs b o xs (I.base.frzs b o xs e),fun b ps e=>?_⟩,?_,fun x c e=>?_,?_,fun x c e=>?_,fun p hp=>?_,hok,I.len⟩
 ·exact keep b o (neL b o e) hb (neC b o e hx) (I.base.keep b o e n hb hx) (I.base.free b o e n hx)
 ·obtain⟨sl,e1⟩:=I.base.slot b o e n hb hx;obtain⟨sl',e2⟩:=slot b _ (neL b o e) hb (neC b o e hx) e1 (I.base.free b o e n hx);exact⟨sl',e2⟩
 ·obtain⟨o',e1⟩:=I.base.there b o e hx;exact free b o' (neC b o e hx) e1 (I.base.free b o e n hx)
 ·obtain⟨o',e1⟩:=I.base.there b o e hx;exact there b o' (neC b o e hx) e1
 ·exact tbls b _ (I.base.tbls b ps e)
 ·obtain⟨m,hn,hl⟩:=I.loc;refine⟨m,ns m hn,fun i x v e1 e2 e3=>?_⟩;obtain⟨u,r,l⟩:=hl i x v e1 e2 e3;refine⟨u,r,?_⟩;rcases l with l | ⟨k,c,e,z⟩
  ·exact .inl l
  ·exact .inr ⟨k,c,e,cellK x c e _ z⟩
 ·obtain⟨v,z⟩:=I.cell x c e;exact⟨v,cellK x c e v z⟩
 ·obtain⟨m,⟨o,_,_,ho,_⟩,_⟩:=I.loc;exact free _ o (fun z=>(hch _ z).2.1 rfl) ho I.free
 ·obtain⟨v,o,ho,hd⟩:=I.cell x c e;exact free c o (fun z=>(hch c z).2.2.1 x c e rfl) ho (I.freeC x c e)
 ·obtain⟨e,n,ne,nf,d⟩:=I.pin p hp;have nch:p.1∉ch:=fun z=>(hch p.1 z).2.2.2 p hp rfl;exact⟨keep p.1 p.2 ne nf nch e n,free p.1 p.2 nch e n,ne,nf,d⟩
theorem Inv.un{t':Nat}(I:Inv X zj σ H s)(u:Un X.fs [] H H' s.heap h')(hok:HOk X.prog X.w H' h'):Inv X zj σ H' { s with heap:=h',toks:=t' }:=by
 obtain⟨m,⟨o,es,ep,ho,r⟩,_⟩:=id I.loc;obtain⟨sl,hL⟩:=u.any ho I.free (by simp);exact I.step (g':=s.gens) (d':=s.drawn) (ch:=[]) (fun _ z=>nomatch z) (fun b o _ hb _ e n=>u.keep b o e n hb (by simp)) (fun b o _ hb _ e n=>u.slot b o e n hb (by simp)) (fun b o _ e n=>u.free b o e n (by simp)) (fun b o _ e=>u.there b o e (by simp)) u.tups u.frzs u.tbls (fun m' hm=>by
  obtain⟨o',es',ep',ho',r'⟩:=hm;rw [ho] at ho'; cases ho';exact⟨_,es',ep',hL,r'⟩) hok I.bare
theorem Inv.call{g':Array GenState}{t':Nat}{d':Drawn}{ch:List Addr}(I:Inv X zj σ H s)(u:Un (frs X.stack) ch H H' s.heap h')(hok:HOk X.prog X.w H' h')(hg:AllBare g')
  (hch:∀ b∈ch,(b∈X.ex\/X.s₀.heap.objs.size<=b)/\b≠X.env.locals/\(∀ x c,X.env.cells.lookup x=some c->c≠b)/\∀ p∈X.pn++zj,p.1≠b) :
  Inv X zj σ H' { s with heap:=h',gens:=g',drawn:=d',toks:=t' }:=by
 obtain⟨m,⟨o,es,ep,ho,r⟩,_⟩:=id I.loc;obtain⟨sl,hL⟩:=u.any ho I.free fun z=>(hch _ z).2.1 rfl;exact I.step (ch:=ch) hch (fun b o hL hb hc e n=>u.keep b o e n (fun z=>(mem_cons.mp (I.stkSub b z)).elim hL hb) hc) (fun b o _ _ hc e n=>u.any e n hc) (fun b o hc e n=>u.free b o e n hc) (fun b o hc e=>u.there b o e hc) u.tups u.frzs u.tbls (fun m' hm=>by
  obtain⟨o',es',ep',ho',r'⟩:=hm;rw [ho] at ho'; cases ho';exact⟨_,es',ep',hL,r'⟩) hok hg
theorem Inv.turned{t':Nat}{it:Addr}(I:Inv X zj σ H s)(k:∀ b o,b≠it->s.heap.get? b=some o->h'.get? b=some o)(hn:H it=none)(hL:it≠X.env.locals)
  (h1:it∈X.ex\/X.s₀.heap.objs.size<=it) (h2:∀ x c,X.env.cells.lookup x=some c->c≠it) (h3:∀ p∈X.pn++zj,p.1≠it):Inv X zj σ H { s with heap:=h',toks:=t' }:=by
 have nit:∀ b u,H b=some u->b≠it:=fun b u e z=>by rw [z,hn] at e; cases e
 refine I.step (g':=s.gens) (d':=s.drawn) (ch:=[it]) (fun b hb=>?_) (fun b o _ _ hc e _=>k b o (fun z=>hc (by simp [z])) e) (fun b o _ _ hc e _=>⟨o.slots,k b o (fun z=>hc (by simp [z])) e⟩) (fun _ _ _ _ n=>n)
  (fun b o hc e=>⟨o,k b o (fun z=>hc (by simp [z])) e⟩) (fun _ _ e=>e) (fun _ _ _ e=>e) (fun _ _ e=>e) (fun m hm=>?_) (fun b u e=>?_) I.bare
 ·have e:b=it:=by simpa using hb
  subst e;exact⟨h1,hL,h2,h3⟩
 ·obtain⟨o,es,ep,ho,r⟩:=hm;exact⟨o,es,ep,k _ o (Ne.symm hL) ho,r⟩
 ·refine(I.hok b u e).stay (fun c v hc q=>k c v ?_ q) (fun _ q=>q) fun _ _ q=>q;rcases hc with z | z
  ·rw [z]; exact nit b u e
  ·exact nit c _ z
theorem Inv.tok(I:Inv X zj σ H s)(t:Nat):Inv X zj σ H { s with toks:=t }:=I.un (h':=s.heap) (t':=t) Un.refl I.hok
theorem Inv.kept{t':Nat}(I:Inv X zj σ H s)(k:∀ b u,s.heap.get? b=some u->h'.get? b=some u):Inv X zj σ H { s with heap:=h',toks:=t' }:=I.un (Un.kept k) (I.hok.kept k)
theorem Inv.laid{a:Addr}{o:HO}{t':Nat}(I:Inv X zj σ H s)(k:∀ b u,s.heap.get? b=some u->h'.get? b=some u)(hp:s.heap.objs.size<=a)(new:ObjOk X.prog X.w (upd H a o) h' a o):
  Inv X zj σ (upd H a o) { s with heap:=h',toks:=t' }:=I.un (Un.laid k hp (I.hok.fresh hp)) (I.hok.laid k hp new)
theorem Inv.write{x e:Addr}{o:HO}{t':Nat}(I:Inv X zj σ H s)(mu:Mut (H x))(he:e=x\/H e=some (.own x))(k:∀ b u,b≠e->s.heap.get? b=some u->h'.get? b=some u)(heo:∃ u,h'.get? e=some u)
  (new:ObjOk X.prog X.w (upd H x o) h' x o):Inv X zj σ (upd H x o) { s with heap:=h',toks:=t' }:=I.un (Un.write mu he k heo) (I.hok.write mu he k heo new)
theorem Inv.pins_of{pins':List (Addr×Obj)}(I:Inv X zj σ H s)(h:∀ p∈pins',s.heap.get? p.1=some p.2/\H p.1=none/\p.1≠X.env.locals/\p.1∉X.fs/\∀ v,p.2.data≠.cell v):Inv X pins' σ H s :=
 ⟨I.ok,I.os,I.bare,I.base,I.loc,I.cell,I.free,I.freeC,fun p hp=>(mem_append.mp hp).elim (fun z=>I.pin p (mem_append_left _ z)) (h p),I.hok,I.len⟩
theorem zle{N:List Str}(hN:N.Nodup){i j:Nat}{x:Str}(a:N[i]? = some x)(b:N[j]? = some x):i=j:=by
 obtain⟨h1,e1⟩:=List.getElem?_eq_some_iff.mp a;obtain⟨h2,e2⟩:=List.getElem?_eq_some_iff.mp b;exact(List.getElem_inj hN).mp (e1.trans e2.symm)
theorem zmW{M:Model}{A:Around}{E:Value->Shared->Prop}{i:Nat}{x:Str}{v:V}{u:Value}{Q:Unit->Shared->Prop}(I:Inv X zj σ H s)(hN:X.N.Nodup)(hi:X.N[i]? = some x)(hx:Loc X.env.scope x)(r:RelV v u)
  (h:∀ s',Inv X zj (σ.set i (some v)) H s'->(∃ a,Heap.SameBut a s.heap s'.heap/\(a=X.env.locals\/X.env.cells.lookup x=some a))->Q () s') (hf:X.fn x=true\/X.env.scope.names.lookup x=some .local:=by first | exact .inl rfl | exact .inr rfl | assumption):wpAny M A (storeName X.env x u) Q E s:=by
 obtain⟨m,hn,hl⟩:=id I.loc;have hcls:(X.env.scope.kind == .class || (X.env.scope.kind == .module && X.env.locals != X.env.globals))=false:=by rw [I.ok.kind]; rfl
 have hiσ:i<σ.length:=by rw [I.len]; exact(List.getElem?_eq_some_iff.mp hi).1
 have cne:=I.cne;have tracked:∀ {a:Addr} {h':Heap},(∃ o,s.heap.get? a=some o/\H a=none)->Heap.SameBut a s.heap h'->HOk X.prog X.w H h':=fun {a h'} ha hs b ob e=>by
  obtain⟨_,_,hfree⟩:=ha;refine(I.hok b ob e).stay (fun c w' hc q=>(hs.2 c ?_).trans q) (fun _ q=>q) fun _ _ q=>q;rintro rfl;rcases hc with rfl | hc
  ·rw [hfree] at e; cases e
  ·rw [hfree] at hc; cases hc
 rcases hx with hk | hk
 ·refine wpAny_storeName_local hk hn (fun h' hn' hs=>?_) hcls;obtain⟨oL,_,_,hoL,_⟩:=id hn;refine h _ ⟨I.ok,I.os,I.bare,⟨fun b o e n hb hx=>?_,fun b o e n hb hx=>?_,I.base.free,fun b o e hx=>?_,I.base.tups,I.base.frzs,I.base.tbls⟩,⟨_,hn',fun j y v' e1 e2 e3=>?_⟩,fun y c e=>?_,I.free,I.freeC,fun p hp=>?_,tracked ⟨oL,hoL,I.free⟩ hs,by simpa using I.len⟩ ⟨_,hs,.inl rfl⟩
  ·exact(hs.2 b (ne_of_lt (lt_of_lt_of_le (lt_size e) I.ok.above))).trans (I.base.keep b o e n hb hx)
  ·obtain⟨sl,e1⟩:=I.base.slot b o e n hb hx;exact⟨sl,(hs.2 b (ne_of_lt (lt_of_lt_of_le (lt_size e) I.ok.above))).trans e1⟩
  ·obtain⟨o',e1⟩:=I.base.there b o e hx;exact⟨o',(hs.2 b (ne_of_lt (lt_of_lt_of_le (lt_size e) I.ok.above))).trans e1⟩
  ·by_cases hj:j=i
   ·subst hj;rw [hi] at e1; cases e1;rw [getElem?_set_self hiσ] at e2;cases e2;exact⟨u,r,.inl ⟨hk,by simp⟩⟩
   ·rw [getElem?_set_ne (Ne.symm hj)] at e2;obtain⟨u',r',q⟩:=hl j y v' e1 e2 e3;refine⟨u',r',?_⟩;rcases q with ⟨k,e⟩ | ⟨k,c,e,z⟩
    ·refine .inl ⟨k,?_⟩;have:y≠x:=fun e=>hj (zle hN e1 (e▸hi));simp [this,e]
    ·exact .inr ⟨k,c,e,z.sameBut hs (cne y c e)⟩
  ·obtain⟨w',z⟩:=I.cell y c e;exact⟨w',z.sameBut hs (cne y c e)⟩
  ·obtain⟨e,n,ne,nf,d⟩:=I.pin p hp;exact⟨(hs.2 p.1 ne).trans e,n,ne,nf,d⟩
 ·have hfn:X.fn x=true:=by
   rcases hf with z | z
   ·exact z
   ·rw [z] at hk; cases hk
  obtain⟨c,hc⟩:=I.ok.has x (.inl hk);obtain⟨w',z⟩:=I.cell x c hc;refine wpAny_storeName_cell I.ok.kind hk hc z (fun h' hc' hs=>?_);obtain⟨oc,hoc,hocd⟩:=id z;refine h { s with heap:=h' } ⟨I.ok,I.os,I.bare,⟨fun b o e n hb hx=>?_,fun b o e n hb hx=>?_,I.base.free,fun b o e hx=>?_,I.base.tups,I.base.frzs,I.base.tbls⟩,⟨m,hn.sameBut hs (Ne.symm (cne x c hc)),fun j y v' e1 e2 e3=>?_⟩,fun y c' e=>?_,I.free,I.freeC,fun p hp=>?_,tracked ⟨oc,hoc,I.freeC x c hc⟩ hs,by simpa using I.len⟩ ⟨c,hs,.inr hc⟩
  ·exact(hs.2 b (ne_of_lt (lt_of_lt_of_le (lt_size e) (I.ok.cab x c hfn hc)))).trans (I.base.keep b o e n hb hx)
  ·obtain⟨sl,e1⟩:=I.base.slot b o e n hb hx;exact⟨sl,(hs.2 b (ne_of_lt (lt_of_lt_of_le (lt_size e) (I.ok.cab x c hfn hc)))).trans e1⟩
  ·obtain⟨o',e1⟩:=I.base.there b o e hx;exact⟨o',(hs.2 b (ne_of_lt (lt_of_lt_of_le (lt_size e) (I.ok.cab x c hfn hc)))).trans e1⟩
  ·by_cases hj:j=i
   ·subst hj;rw [hi] at e1; cases e1;rw [getElem?_set_self hiσ] at e2;cases e2;exact⟨u,r,.inr ⟨.inl hk,c,hc,hc'⟩⟩
   ·rw [getElem?_set_ne (Ne.symm hj)] at e2;obtain⟨u',r',q⟩:=hl j y v' e1 e2 e3;refine⟨u',r',?_⟩;rcases q with q | ⟨k,c',e,z'⟩
    ·exact .inl q
    ·refine .inr ⟨k,c',e,z'.sameBut hs ?_⟩;rintro rfl;exact hj (zle hN e1 (I.ok.inj _ _ _ e hc▸hi))
  ·by_cases hcc:c'=c
   ·subst hcc; exact⟨_,hc'⟩
   ·obtain⟨w2,z2⟩:=I.cell y c' e;exact⟨w2,z2.sameBut hs hcc⟩
  ·obtain⟨e,n,ne,nf,d⟩:=I.pin p hp;refine⟨(hs.2 p.1 ?_).trans e,n,ne,nf,d⟩;intro q;rw [q,hoc] at e;have q':oc=p.2:=Option.some.inj e;exact d w' (by rw [<- q']; exact hocd)
theorem zfP{M:Model}{A:Around}{E:Value->Shared->Prop}{i:Nat}{x:Str}{v:V}{u:Value}{Q:Unit->Shared->Prop}(I:Inv X zj σ H s)(hN:X.N.Nodup)(hi:X.N[i]? = some x)(hx:Loc X.env.scope x)(r:RelV v u)
  (h:∀ s',Inv X zj (σ.set i (some v)) H s'->Q () s') (hf:X.fn x=true\/X.env.scope.names.lookup x=some .local:=by first | exact .inl rfl | exact .inr rfl | assumption):wpAny M A (storeName X.env x u) Q E s :=
 zmW I hN hi hx r (fun s' I' _=>h s' I') hf
theorem Inv.call'{s':Shared}{ch:List Addr}(I:Inv X zj σ H s)(ho:s'.os=s.os)(u:Un (frs X.stack) ch H H' s.heap s'.heap)(hok:HOk X.prog X.w H' s'.heap)(hg:AllBare s'.gens)
  (hch:∀ b∈ch,(b∈X.ex\/X.s₀.heap.objs.size<=b)/\b≠X.env.locals/\(∀ x c,X.env.cells.lookup x=some c->c≠b)/\∀ p∈X.pn++zj,p.1≠b):Inv X zj σ H' s':=by
 obtain⟨h',g',d',t',o'⟩:=s';have e:o'=s.os:=ho;subst e;exact I.call (g':=g') (t':=t') (d':=d') u hok hg hch
end
abbrev XK:=Value->Option Addr->Hp->Prop
abbrev St:=List (Option V)
abbrev VK:=V->Hp->Prop
abbrev TE:=St->Hp->VK->Prop
abbrev TT:=St->Hp->(Bool->Hp->Prop)->Prop
abbrev TA:=St->Hp->(List V->Hp->Prop)->Prop
structure Ends where
 nx:St->Hp->Prop
 rt:VK
 bk:St->Hp->Prop:=fun _ _=>False
 ct:St->Hp->Prop:=fun _ _=>False
abbrev TS:=Ends->St->Hp->Prop
def EP(X:Cx)(zj:List (Addr×Obj))(σ:St)(Q:VK)(u:Value)(s':Shared):Prop:=∃ v H',Inv X zj σ H' s'/\RelV v u/\Q v H'
def TP(X:Cx)(zj:List (Addr×Obj))(σ:St)(Q:Bool->Hp->Prop)(b:Bool)(s':Shared):Prop:=∃ H',Inv X zj σ H' s'/\Q b H'
def AP(X:Cx)(zj:List (Addr×Obj))(σ:St)(Q:List V->Hp->Prop)(us:List Value)(s':Shared):Prop:=∃ vs H',Inv X zj σ H' s'/\Vals vs us/\Q vs H'
def SP(X:Cx)(zj:List (Addr×Obj))(D:Ends)(f:Flow)(s':Shared):Prop :=
 match f with
 | .next=>∃ σ' H',Inv X zj σ' H' s'/\D.nx σ' H'
 | .brk=>∃ σ' H',Inv X zj σ' H' s'/\D.bk σ' H'
 | .cont=>∃ σ' H',Inv X zj σ' H' s'/\D.ct σ' H'
 | .ret u=>∃ v σ' H',Inv X zj σ' H' s'/\RelV v u/\D.rt v H'
def PE(X:Cx)(e:Expr)(t:TE):Prop :=
 ∀ (zj:List (Addr×Obj)) (s:Shared) (σ:St) (H:Hp) (Q:VK),Inv X zj σ H s->t σ H Q->wpAny (model X.prog X.w) X.A (eval e X.env) (EP X zj σ Q) X.xe s
def PT(X:Cx)(e:Expr)(t:TT):Prop :=
 ∀ (zj:List (Addr×Obj)) (s:Shared) (σ:St) (H:Hp) (Q:Bool->Hp->Prop),Inv X zj σ H s->t σ H Q->wpAny (model X.prog X.w) X.A (isTrue e X.env (eval e X.env)) (TP X zj σ Q) X.xe s
def PW(X:Cx)(e:Expr)(t:TT):Prop :=
 ∀ (whole:Sem Value) (zj:List (Addr×Obj)) (s:Shared) (σ:St) (H:Hp) (Q:Bool->Hp->Prop),Inv X zj σ H s->t σ H Q->wpAny (model X.prog X.w) X.A (isTrue e X.env whole) (TP X zj σ Q) X.xe s
theorem PW.pt{X:Cx}{e:Expr}{t:TT}(h:PW X e t):PT X e t:=h _
def PA(X:Cx)(es:List Expr)(t:TA):Prop :=
 ∀ (pos:Pos) (zj:List (Addr×Obj)) (s:Shared) (σ:St) (H:Hp) (Q:List V->Hp->Prop),Inv X zj σ H s->t σ H Q->wpAny (model X.prog X.w) X.A (spliced (backTo pos (starEach es X.env))) (AP X zj σ Q) X.xe s
def PS(X:Cx)(st:Stmt)(t:TS):Prop :=
 ∀ (zj:List (Addr×Obj)) (s:Shared) (σ:St) (H:Hp) (D:Ends),Inv X zj σ H s->t D σ H->wpAny (model X.prog X.w) X.A (exec st X.env) (SP X zj D) X.xe s
def PSs(X:Cx)(st:List Stmt)(t:TS):Prop :=
 ∀ (zj:List (Addr×Obj)) (s:Shared) (σ:St) (H:Hp) (D:Ends),Inv X zj σ H s->t D σ H->wpAny (model X.prog X.w) X.A (execs st X.env) (SP X zj D) X.xe s
theorem thn{α:Type}{t:Sem α}{Q Q':α->Shared->Prop}{M:Model}{A:Around}{E:Value->Shared->Prop}{s:Shared}(h:wpAny M A t Q E s)(hQ:∀ a s,Q a s->Q' a s):wpAny M A t Q' E s:=wpAny_mono h hQ fun _ _ x=>x
end
section
section
variable {X:Cx}
def zlv(i:Nat):TE:=fun σ H Q=>∃ v,σ[i]? = some (some v)/\Q v H
def tC(v:V):TE:=fun _ H Q=>Q v H
theorem zsA{i:Nat}{x:Str}{pos:Pos}(hN:X.N[i]? = some x)(hv:Vis X.env.scope x)(hd:(x == ("__debug__":Str))=false:=by decide)(hcd:(x == ("__classdict__":Str))=false:=by decide):PE X (.Name x pos) (zlv i):=by
 intro zj s σ H Q I h;obtain⟨v,e,h⟩:=h;obtain⟨m,hn,hl⟩:=I.loc;obtain⟨u,r,l⟩:=hl i x v hN e hv;have fin:EP X zj σ Q u s:=⟨v,H,I,r,h⟩;rcases l with ⟨hk,hm⟩ | ⟨hk,c,hc,hcell⟩
 ·exact wpAny_Name (wpAny_loadName_local I.ok.kind hk hn hm fin) hd
 ·rcases hk with hk | hk
  ·exact wpAny_Name (wpAny_loadName_cell I.ok.kind hk hc hcell fin) hd
  ·exact wpAny_Name (wpAny_loadName_free I.ok.kind hk hc hcell fin hcd) hd
theorem ze{i j pos}:PE X (.Constant (.int i) j pos) (tC (.int i)):=fun _ _ _ H _ I h=>wpAny_Constant_int ⟨.int i,H,I.tok _,⟨_,rfl⟩,h⟩
theorem zij{b j pos}:PE X (.Constant (.bool b) j pos) (tC (.bl b)):=fun _ _ _ H _ I h=>Constant_bool ⟨.bl b,H,I,rfl,h⟩
theorem zdA{j pos}:PE X (.Constant .none j pos) (tC .non):=fun _ _ _ H _ I h=>Constant_none ⟨.non,H,I,rfl,h⟩
theorem za1{x j pos}:PE X (.Constant (.str x) j pos) (tC (.str x)):=fun _ _ _ H _ I h=>Calls.Constant_str ⟨.str x,H,I.tok _,⟨_,rfl⟩,h⟩
def Gl(X:Cx)(x:Str):Prop:=X.env.kindOf x=some .globalImplicit
theorem zfj{E:Value->Shared->Prop}{zj:List (Addr×Obj)}{s:Shared}{σ:St}{H:Hp}{x:Str}{u:Value}{pos:Pos}{Q:Value->Shared->Prop}(I:Inv X zj σ H s)(hg:Gl X x)(hm:X.mg x=some u)(h:Q u s)
  (hd:(x == ("__debug__":Str))=false:=by decide):wpAny (model X.prog X.w) X.A (eval (.Name x pos) X.env) Q E s :=
 Calls.Name_function_global I.ok.kind hg (Calls.loadGlobal_global (by rw [I.ok.glob]; exact I.mod.glob.keeps I.bk) hm h) hd
theorem zdS{E:Value->Shared->Prop}{zj:List (Addr×Obj)}{s:Shared}{σ:St}{H:Hp}{x:Str}{u:Value}{pos:Pos}{Q:Value->Shared->Prop}(I:Inv X zj σ H s)(hg:Gl X x)(hm:X.mg x=none)(hv:bootBuiltins x=some u)(h:Q u s)
  (hn:x ≠ "__name__":=by decide) (hd:(x == ("__debug__":Str))=false:=by decide):wpAny (model X.prog X.w) X.A (eval (.Name x pos) X.env) Q E s:=by
 obtain⟨mb,h1,h2⟩:=I.mod.blt;exact Calls.Name_function_global I.ok.kind hg (Calls.loadGlobal_builtin (by rw [I.ok.glob]; exact I.mod.glob.keeps I.bk) hm (by rw [I.ok.blt]; exact h1.keeps I.bk) ((h2 x hn).trans hv) h) hd
theorem zcz{x:Str}{v:V}{u:Value}{pos:Pos}(hg:Gl X x)(hm:X.mg x=some u)(r:RelV v u)(hd:(x == ("__debug__":Str))=false:=by decide):PE X (.Name x pos) (tC v) :=
 fun _ _ _ H _ I h=>zfj I hg hm ⟨v,H,I,r,h⟩ hd
theorem zeZ{x:Str}{v:V}{u:Value}{pos:Pos}(hg:Gl X x)(hm:X.mg x=none)(hv:bootBuiltins x=some u)(r:RelV v u)(hn:x ≠ "__name__":=by decide)(hd:(x == ("__debug__":Str))=false:=by decide):PE X (.Name x pos) (tC v) :=
 fun _ _ _ H _ I h=>zdS I hg hm hv ⟨v,H,I,r,h⟩ hn hd
variable {a b:Expr} {ta tb:TE} {pos:Pos}
def tB(t:TE):TT:=fun σ H Q=>t σ H fun x H1=>∃ c,x=.bl c/\Q c H1
variable {tA tB':TT} {rest:List Expr}
def zu4(t u:TT):TT:=fun σ H Q=>t σ H fun c H1=>if c=true then u σ H1 Q else Q false H1
def tOr(t u:TT):TT:=fun σ H Q=>t σ H fun c H1=>if c=true then Q true H1 else u σ H1 Q
def zuX(t:TT):TT:=fun σ H Q=>t σ H fun c H1=>Q (!c) H1
theorem zm4(ha:PT X a tA):PW X (.BoolOp .And [a] pos) tA:=by
 intro wh zj s σ H Q I h;refine isTrue_and (thn (ha zj s σ H Q I h) fun c s1 e=>?_);cases c with
 | true=>exact isTrue_and_nil e
 | false=>exact e
theorem zhw(ha:PT X a tA):PW X (.BoolOp .Or [a] pos) tA:=by
 intro wh zj s σ H Q I h;refine isTrue_or (thn (ha zj s σ H Q I h) fun c s1 e=>?_);cases c with
 | false=>exact isTrue_or_nil e
 | true=>exact e
theorem zqf(ha:PT X a tA)(hb:PW X (.BoolOp .And (b :: rest) pos) tB'):PW X (.BoolOp .And (a :: b :: rest) pos) (zu4 tA tB'):=by
 intro wh zj s σ H Q I h;refine isTrue_and (thn (ha zj s σ H _ I h) fun c s1 ⟨H1,I1,q1⟩=>?_);cases c with
 | true=>exact hb wh zj s1 σ H1 Q I1 q1
 | false=>exact⟨H1,I1,q1⟩
theorem zkl(ha:PT X a tA)(hb:PW X (.BoolOp .Or (b :: rest) pos) tB'):PW X (.BoolOp .Or (a :: b :: rest) pos) (tOr tA tB'):=by
 intro wh zj s σ H Q I h;refine isTrue_or (thn (ha zj s σ H _ I h) fun c s1 ⟨H1,I1,q1⟩=>?_);cases c with
 | true=>exact⟨H1,I1,q1⟩
 | false=>exact hb wh zj s1 σ H1 Q I1 q1
theorem zfn(ha:PT X a tA):PT X (.UnaryOp .Not a pos) (zuX tA):=by
 intro zj s σ H Q I h;exact isTrue_not (ha zj s σ H (fun c H1=>Q (!c) H1) I h)
def ztX(ta tb:TE):TE:=fun σ H Q=>ta σ H fun x H1=>∃ c,x=.bl c/\if c=true then tb σ H1 Q else Q (.bl false) H1
def zsQ(ta:TE):TE:=fun σ H Q=>ta σ H fun x H1=>∃ c,x=.bl c/\Q (.bl (!c)) H1
theorem zkZ{op}{t:TE}(h:PE X a t):PE X (.BoolOp op [a] pos) t:=fun zj s σ H Q I hw=>BoolOp_one (h zj s σ H Q I hw)
theorem zjp(ha:PE X a ta)(hb:PE X (.BoolOp .And (b :: rest) pos) tb):PE X (.BoolOp .And (a :: b :: rest) pos) (ztX ta tb):=by
 intro zj s σ H Q I h;refine BoolOp_and (thn (ha zj s σ H _ I h) fun v s1 ⟨x,H1,I1,r1,q1⟩=>?_);obtain⟨c,rfl,q1⟩:=q1;cases r1;refine wpAny_truthy_bool ?_;cases c with
 | true=>exact hb zj s1 σ H1 Q I1 q1
 | false=>exact⟨.bl false,H1,I1,rfl,q1⟩
theorem zp4(ha:PE X a ta):PE X (.UnaryOp .Not a pos) (zsQ ta):=by
 intro zj s σ H Q I h;refine UnaryOp_ (thn (ha zj s σ H _ I h) fun v s1 ⟨x,H1,I1,r1,q1⟩=>?_);obtain⟨c,rfl,q1⟩:=q1;cases r1;exact not_of (wpAny_truthy_bool ⟨.bl (!c),H1,I1,rfl,q1⟩)
def tIf(t:TT)(ta tb:TE):TE:=fun σ H Q=>t σ H fun c H1=>if c=true then ta σ H1 Q else tb σ H1 Q
theorem zll{c:Expr}(hc:PT X c tA)(ha:PE X a ta)(hb:PE X b tb):PE X (.IfExp c a b pos) (tIf tA ta tb):=by
 intro zj s σ H Q I h;refine wpAny_IfExp (thn (hc zj s σ H _ I h) fun d s1 ⟨H1,I1,q1⟩=>?_);cases d with
 | true=>exact ha zj s1 σ H1 Q I1 q1
 | false=>exact hb zj s1 σ H1 Q I1 q1
end
end
section
def SqL(K:W.Frag)(H:Hp)(a:Addr)(xs:List V):Prop :=
 Rd H a (.lst xs) \/
  ∃ (o:Obj) (its:Array Value) (n:Nat),K.lookup a=some o/\o.cls=.type "list"/\o.dict=none/\o.data=.seq its n/\its.size<=sizeLine/\Vals xs its.toList
def SqT(K:W.Frag)(H:Hp)(a:Addr)(xs:List V):Prop :=
 Rd H a (.tup xs) \/
  ∃ (o:Obj) (its:Array Value) (n:Nat),K.lookup a=some o/\o.cls=.type "tuple"/\o.data=.seq its n/\its.size<=sizeLine/\Vals xs its.toList
def zvy:Value->Option V
 | .none=>some .non
 | .bool b=>some (.bl b)
 | .int i _=>some (.int i)
 | .str x _=>some (.str x)
 | .bytes b _=>some (.byt b)
 | .float b _=>some (.flt b)
 | .ref a=>some (.ref a)
 | .type n=>some (.ty n)
 | _=>none
theorem RelV.abs{x:V}{u:Value}(r:RelV x u):zvy u=some x:=by
 cases x with
 | non=>cases r; rfl
 | bl _=>cases r; rfl
 | int _=>obtain⟨t,rfl⟩:=r; rfl
 | str _=>obtain⟨t,rfl⟩:=r; rfl
 | byt _=>obtain⟨t,rfl⟩:=r; rfl
 | flt _=>obtain⟨t,rfl⟩:=r; rfl
 | ref _=>cases r; rfl
 | ty _=>cases r; rfl
theorem RelV.inj{x y:V}{u:Value}(r:RelV x u)(q:RelV y u):x=y:=Option.some.inj (r.abs.symm.trans q.abs)
theorem Vals.inj:∀ {xs ys:List V} {us:List Value},Vals xs us->Vals ys us->xs=ys
 | _,_,_,.nil,.nil=>rfl
 | _,_,_,.cons r t,.cons r' t'=>by rw [r.inj r',Vals.inj t t']
section
variable {X:Cx} {zj:List (Addr×Obj)} {σ:St} {H:Hp} {s:Shared} {a:Addr} {xs ys:List V}
theorem SqL.of{K:W.Frag}(h:H a=some (.lst xs)):SqL K H a xs:=.inl (.inl h)
theorem SqT.of{K:W.Frag}(h:H a=some (.tup xs)):SqT K H a xs:=.inl (.inl h)
theorem Inv.list(I:Inv X zj σ H s)(h:SqL X.K H a xs):∃ its:List Value,Vals xs its/\PlainL s.heap a its.toArray/\xs.length<=sizeLine:=by
 rcases h with h | ⟨o,its,n,hk,hc,hd,hs,hz,r⟩
 ·obtain⟨z,its,n,r,e⟩:=h.ok I.hok;exact⟨its,r,⟨_,n,e,rfl,rfl,rfl⟩,z⟩
 ·refine⟨its.toList,r,⟨o,n,I.kIn a o hk,hc,hd,by simpa using hs⟩,?_⟩;have e:=r.length;simp only [length_toList] at e;omega
theorem Inv.tuple(I:Inv X zj σ H s)(h:SqT X.K H a xs):∃ its:List Value,Vals xs its/\IsTup s.heap a its.toArray/\xs.length<=sizeLine:=by
 rcases h with h | ⟨o,its,n,hk,hc,hs,hz,r⟩
 ·obtain⟨z,its,r,p⟩:=h.ok I.hok;exact⟨its,r,p,z.1⟩
 ·refine⟨its.toList,r,⟨o,I.kIn a o hk,hc,n,by simpa using hs⟩,?_⟩;have e:=r.length;simp only [length_toList] at e;omega
theorem Inv.list_inj(I:Inv X zj σ H s)(h:SqL X.K H a xs)(h':SqL X.K H a ys):xs=ys:=by
 obtain⟨its,r,⟨o,n,e,_,_,d⟩,_⟩:=I.list h;obtain⟨its',r',⟨o',n',e',_,_,d'⟩,_⟩:=I.list h';rw [e] at e'; cases e';rw [d] at d';injection d' with d1 _
 have:its=its':=by simpa using congrArg Array.toList d1
 subst this;exact r.inj r'
theorem Inv.tuple_inj(I:Inv X zj σ H s)(h:SqT X.K H a xs)(h':SqT X.K H a ys):xs=ys:=by
 obtain⟨its,r,⟨o,e,_,n,d⟩,_⟩:=I.tuple h;obtain⟨its',r',⟨o',e',_,n',d'⟩,_⟩:=I.tuple h';rw [e] at e'; cases e';rw [d] at d';injection d' with d1 _
 have:its=its':=by simpa using congrArg Array.toList d1
 subst this;exact r.inj r'
end
abbrev Cx.wish (X:Cx) (E:Value->Shared->Prop):Cx:={ X with xe:=E }
abbrev Cx.nox (X:Cx):Cx:=X.wish fun _ _=>False
theorem Cx.Ok.wish{X:Cx}(ok:X.Ok)(E:Value->Shared->Prop):(X.wish E).Ok :=
 ⟨ok.mod,ok.kind,ok.glob,ok.blt,ok.above,ok.inj,ok.has,ok.cab,ok.hd,ok.frames,ok.stk,ok.exf,ok.bs,ok.bsz,ok.noex,ok.exfs,ok.funs,ok.frf⟩
theorem Cx.Ok.unwish{X:Cx}{E:Value->Shared->Prop}(ok:(X.wish E).Ok):X.Ok :=
 ⟨ok.mod,ok.kind,ok.glob,ok.blt,ok.above,ok.inj,ok.has,ok.cab,ok.hd,ok.frames,ok.stk,ok.exf,ok.bs,ok.bsz,ok.noex,ok.exfs,ok.funs,ok.frf⟩
section
variable {X:Cx} {zj:List (Addr×Obj)} {σ:St} {H:Hp} {s:Shared} {E:Value->Shared->Prop}
theorem Inv.wish(I:Inv X zj σ H s)(E:Value->Shared->Prop):Inv (X.wish E) zj σ H s:=⟨I.ok.wish E,I.os,I.bare,I.base,I.loc,I.cell,I.free,I.freeC,I.pin,I.hok,I.len⟩
theorem Inv.unwish(I:Inv (X.wish E) zj σ H s):Inv X zj σ H s:=⟨I.ok.unwish,I.os,I.bare,I.base,I.loc,I.cell,I.free,I.freeC,I.pin,I.hok,I.len⟩
theorem SP.unwish{D:Ends}{f:Flow}{s':Shared}(h:SP (X.wish E) zj D f s'):SP X zj D f s':=by
 cases f with
 | next=>obtain⟨σ',H',I,q⟩:=h; exact⟨σ',H',I.unwish,q⟩
 | brk=>obtain⟨σ',H',I,q⟩:=h; exact⟨σ',H',I.unwish,q⟩
 | cont=>obtain⟨σ',H',I,q⟩:=h; exact⟨σ',H',I.unwish,q⟩
 | ret u=>obtain⟨v,σ',H',I,r,q⟩:=h; exact⟨v,σ',H',I.unwish,r,q⟩
theorem PE.nox{e:Expr}{t:TE}(h:PE X.nox e t):PE X e t:=fun zj s σ H Q I hw =>
 wpAny_mono (h zj s σ H Q (I.wish _) hw) (fun _ _ ⟨v,H',I',r,q⟩=>⟨v,H',I'.unwish,r,q⟩) fun _ _ z=>False.elim z
theorem PT.nox{e:Expr}{t:TT}(h:PT X.nox e t):PT X e t:=fun zj s σ H Q I hw =>
 wpAny_mono (h zj s σ H Q (I.wish _) hw) (fun _ _ ⟨H',I',q⟩=>⟨H',I'.unwish,q⟩) fun _ _ z=>False.elim z
theorem PSs.nox{st:List Stmt}{t:TS}(h:PSs X.nox st t):PSs X st t:=fun zj s σ H D I hw =>
 wpAny_mono (h zj s σ H D (I.wish _) hw) (fun _ _ q=>q.unwish) fun _ _ z=>False.elim z
end
section
variable {X:Cx} {st:Stmt} {rest:List Stmt} {t u:TS} {e:Expr} {te:TE} {pos:Pos}
def zrF:TS:=fun D σ H=>D.nx σ H
def zk3(t u:TS):TS:=fun D σ H=>t { D with nx:=u D } σ H
theorem zX:PSs X [] zrF:=fun _ _ σ H _ I h=>wpAny_execs_nil ⟨σ,H,I,h⟩
theorem zd(h1:PS X st t)(h2:PSs X rest u):PSs X (st :: rest) (zk3 t u):=by
 intro zj s σ H D I h;refine wpAny_execs_cons (thn (h1 zj s σ H { D with nx:=u D } I h) fun f s1 q=>?_);cases f with
 | next =>
  obtain⟨σ',H',I',q⟩:=q;exact h2 zj s1 σ' H' D I' q
 | ret v=>exact q
 | brk=>exact q
 | cont=>exact q
theorem zm(h1:PS X st t):PSs X [st] t:=by
 intro zj s σ H D I h;refine wpAny_execs_cons (thn (h1 zj s σ H D I h) fun f s1 q=>?_);cases f with
 | next=>exact wpAny_execs_nil q
 | ret v=>exact q
 | brk=>exact q
 | cont=>exact q
theorem Inv.quiet{zj:List (Addr×Obj)}{σ:St}{H:Hp}{s:Shared}(I:Inv X zj σ H s):interactive X.env=false:=by simp [interactive,I.ok.kind]
def zoU(te:TE):TS:=fun D σ H=>te σ H fun _ H1=>D.nx σ H1
theorem za6(he:PE X e te)(hs:swapsWith e none pos.line X.env=pure false:=by rfl):PS X (.Expr e pos) (zoU te):=by
 intro zj s σ H D I h;exact wpAny_Expr_any (thn (he zj s σ H _ I h) fun v s1 ⟨x,H1,I1,r1,q1⟩=>⟨σ,H1,I1,q1⟩) I.quiet hs
def zuL(te:TE):TS:=fun D σ H=>te σ H D.rt
theorem zD(he:PE X e te):PS X (.Return (some e) pos) (zuL te):=by
 intro zj s σ H D I h;exact wpAny_Return_some (thn (he zj s σ H _ I h) fun v s1 ⟨x,H1,I1,r1,q1⟩=>⟨x,σ,H1,I1,r1,q1⟩)
def zq6(c:TT)(t u:TS):TS:=fun D σ H=>c σ H fun b H1=>if b=true then t D σ H1 else u D σ H1
theorem zbd{c:Expr}{a b:List Stmt}{tc:TT}(hc:PT X c tc)(ha:PSs X a t)(hb:PSs X b u):PS X (.If c a b pos) (zq6 tc t u):=by
 intro zj s σ H D I h;refine wpAny_If (thn (hc zj s σ H _ I h) fun d s1 ⟨H1,I1,q1⟩=>?_);cases d with
 | true=>exact ha zj s1 σ H1 D I1 q1
 | false=>exact hb zj s1 σ H1 D I1 q1
def zp2:TS:=fun _ _ _=>False
theorem zpr:PS X st zp2:=fun _ _ _ _ _ _ h=>h.elim
end
abbrev TG:=V->St->Hp->(St->Hp->Prop)->Prop
abbrev TGs:=List V->St->Hp->(St->Hp->Prop)->Prop
def PG(X:Cx)(target:Expr)(t:TG):Prop :=
 ∀ (zj:List (Addr×Obj)) (s:Shared) (σ:St) (H:Hp) (v:V) (u:Value) (Q:St->Hp->Prop),Inv X zj σ H s->RelV v u->t v σ H Q ->
  wpAny (model X.prog X.w) X.A (assign target X.env u) (fun _ s'=>∃ σ' H',Inv X zj σ' H' s'/\Q σ' H') X.xe s
def PGs(X:Cx)(ts:List Expr)(t:TGs):Prop :=
 ∀ (zj:List (Addr×Obj)) (s:Shared) (σ:St) (H:Hp) (vs:List V) (us:List Value) (Q:St->Hp->Prop),Inv X zj σ H s->Vals vs us->t vs σ H Q ->
  wpAny (model X.prog X.w) X.A (assignInOrder ((assignEach ts X.env).map (·.2)) us) (fun _ s'=>∃ σ' H',Inv X zj σ' H' s'/\Q σ' H') X.xe s
abbrev TSet:=V->V->V->Hp->(Hp->Prop)->Prop
def PSet(X:Cx)(t:TSet):Prop :=
 ∀ (zj:List (Addr×Obj)) (s:Shared) (σ:St) (H:Hp) (o i v:V) (ov iv u:Value) (Q:Hp->Prop),Inv X zj σ H s->RelV o ov->RelV i iv->RelV v u->t o i v H Q ->
  wpAny (model X.prog X.w) X.A (setItem ov iv u) (fun _ s'=>∃ H',Inv X zj σ H' s'/\Q H') X.xe s
section
variable {X:Cx} {pos:Pos}
def zma(i:Nat):TG:=fun v σ H Q=>Q (σ.set i (some v)) H
theorem zv{i:Nat}{x:Str}(hN:X.N.Nodup)(hi:X.N[i]? = some x)(hx:Loc X.env.scope x)(hf:X.fn x=true\/X.env.scope.names.lookup x=some .local:=by first | exact .inl rfl | exact .inr rfl | assumption):PG X (.Name x pos) (zma i):=by
 intro zj s σ H v u Q I r h;exact wpAny_assign_Name (zfP I hN hi hx r (fun s' I'=>⟨_,H,I',h⟩) hf)
def zva:TGs:=fun vs σ H Q=>vs=[]/\Q σ H
def zts(t:TG)(u:TGs):TGs:=fun vs σ H Q=>∃ v r,vs=v :: r/\t v σ H fun σ' H'=>u r σ' H' Q
theorem zbt:PGs X [] zva:=by
 intro zj s σ H vs us Q I r h;obtain⟨e,h⟩:=h;subst e;cases r;exact assignInOrder_nil ⟨σ,H,I,h⟩
theorem zL{e:Expr}{es:List Expr}{t:TG}{u:TGs}(h1:PG X e t)(h2:PGs X es u)
  (hs:(assignEach (e :: es) X.env).map (·.2)=assign e X.env :: (assignEach es X.env).map (·.2):=by rfl):PGs X (e :: es) (zts t u):=by
 intro zj s σ H vs us Q I r h;obtain⟨v,vr,e1,h⟩:=h;subst e1;cases r with
 | cons r rr =>
  rw [hs];refine assignInOrder_cons (thn (h1 zj s σ H _ _ _ I r h) fun _ s1 ⟨σ1,H1,I1,q1⟩=>?_);exact h2 zj s1 σ1 H1 _ _ Q I1 rr q1
def zuN(K:W.Frag)(n:Nat)(t:TGs):TG:=fun v σ H Q=>∃ a xs,v=.ref a/\SqT K H a xs/\xs.length=n/\t xs σ H Q
theorem zcw{es:List Expr}{k:Nat}{t:TGs}{n:Nat}(hc:X.calm=true)(h:PGs X es t)
  (hn:(assignEach es X.env).length=n:=by rfl) (hst:(assignEach es X.env).findIdx? (·.1)=none:=by rfl):PG X (.Tuple es k pos) (zuN X.K n t):=by
 intro zj s σ H v u Q I r hw;obtain⟨a,xs,e1,hq,hl,hw⟩:=hw;subst e1;cases r;obtain⟨its,rv,ht,hz⟩:=I.tuple hq;refine assign_Tuple_tuple (I.ok.hd hc) ht (by simp [hn,<- hl,rv.length]) hst fun h' hx=>?_;have I1:Inv X zj σ H { s with heap:=h' }:=I.kept (t':=s.toks) fun b o e=>hx b o (ne_of_lt (lt_size e)) e;exact h zj _ σ H xs _ Q I1 (by simpa using rv) hw
def zu8(to ti:TE)(t:TSet):TG:=fun v σ H Q=>to σ H fun o H1=>ti σ H1 fun i H2=>t o i v H2 fun H3=>Q σ H3
theorem zjf{o i:Expr}{to ti:TE}{t:TSet}(ho:PE X o to)(hi:PE X i ti)(hs:PSet X t)
  (ha:∀ v,assign (.Subscript o i pos) X.env v=(do
   let ov <- holding [v] (eval o X.env)
   let iv <- holding [v,ov] (eval i X.env)
   standAt pos
   holding [v,ov,iv] (setItem ov iv v)
   release [v,ov,iv] []):=by intro _; rfl):PG X (.Subscript o i pos) (zu8 to ti t):=by
 intro zj s σ H v u Q I r h;rw [ha];refine wpAny_bind (wpAny_holding (thn (ho zj s σ H _ I h) fun ov s1 ⟨x,H1,I1,r1,q1⟩=>?_));refine wpAny_bind (wpAny_holding (thn (hi zj s1 σ H1 _ I1 q1) fun iv s2 ⟨y,H2,I2,r2,q2⟩=>?_));refine wpAny_bind (wpAny_standAt (wpAny_bind (wpAny_holding (thn (hs zj s2 σ H2 x y v ov iv u _ I2 r1 r2 r q2) fun _ s3 ⟨H3,I3,q3⟩=>?_))));exact wpAny_release ⟨σ,H3,I3,q3⟩
def ztG(te:TE)(g:TG):TS:=fun D σ H=>te σ H fun x H1=>g x σ H1 D.nx
theorem zd2{tg e:Expr}{te:TE}{g:TG}(he:PE X e te)(hg:PG X tg g)(hs:swapsWithSole [tg] e pos.line X.env=pure false:=by rfl)(hw:swappedStores [tg] e X.env=pure none:=by rfl)
  (h1:(assignEach [tg] X.env).map (·.2)=[assign tg X.env]:=by rfl):PS X (.Assign [tg] e pos) (ztG te g):=by
 intro zj s σ H D I h;refine wpAny_Assign_stores (thn (he zj s σ H _ I h) fun v s1 ⟨x,H1,I1,r1,q1⟩=>?_) hs hw;rw [h1];exact thn (hg zj s1 σ H1 x v _ I1 r1 q1) fun _ s2 q=>q
theorem zu{i:Nat}{x:Str}{e:Expr}{te:TE}{pos':Pos}(hN:X.N.Nodup)(hi:X.N[i]? = some x)(hx:Loc X.env.scope x)(he:PE X e te)(hs:swapsWith e (some (.Name x pos')) pos.line X.env=pure false:=by rfl)(hf:X.fn x=true\/X.env.scope.names.lookup x=some .local:=by first | exact .inl rfl | exact .inr rfl | assumption):
  PS X (.Assign [.Name x pos'] e pos) (ztG te (zma i)):=by
 intro zj s σ H D I h;refine wpAny_Assign_Name (thn (he zj s σ H _ I h) fun v s1 ⟨y,H1,I1,r1,q1⟩=>?_) hs;exact zfP I1 hN hi hx r1 (fun s2 I2=>⟨_,H1,I2,q1⟩) hf
end
section
variable {X:Cx} {pos:Pos}
def zp3(c:TT)(tb:TS):TS:=fun D σ H=>∃ W:Nat->St->Hp->Prop,(∃ m,W m σ H)/\∀ m σ H,W m σ H ->
 c σ H fun b H1=>if b=true then ∃ N:St->Hp->Prop,(∀ σ' H',N σ' H'->∃ m',m'<m/\W m' σ' H')/\tb { D with nx:=N,ct:=N,bk:=D.nx } σ H1 else D.nx σ H1
theorem zoV{c:Expr}{body:List Stmt}{tc:TT}{tb:TS}(hp:PassesOwn (model X.prog X.w) X.A X.env X.xe)(hc:PT X c tc)(hb:PSs X body tb):PS X (.While c body [] pos) (zp3 tc tb):=by
 intro zj s σ H D I h;obtain⟨W,⟨m0,w0⟩,turn⟩:=h;refine wpAny_While (codeAny_whileLoop (fun n s'=>∃ σ' H',Inv X zj σ' H' s'/\W n σ' H') ?_ m0 ⟨σ,H,I,w0⟩);rintro n s1 ⟨σ1,H1,I1,w1⟩;refine wpAny_passesOwn hp (thn (hc zj s1 σ1 H1 _ I1 (turn n σ1 H1 w1)) fun b s2 ⟨H2,I2,q2⟩=>?_);cases b with
 | true =>
  obtain⟨N,hN,q2⟩:=q2;rw [if_pos rfl];refine wpAny_passesOwn hp (thn (hb zj s2 σ1 H2 _ I2 q2) fun f s3 q3=>?_);cases f with
  | next =>
   obtain⟨σ3,H3,I3,n3⟩:=q3;obtain⟨m',hm,w3⟩:=hN σ3 H3 n3;exact⟨m',hm,σ3,H3,I3,w3⟩
  | cont =>
   obtain⟨σ3,H3,I3,n3⟩:=q3;obtain⟨m',hm,w3⟩:=hN σ3 H3 n3;exact⟨m',hm,σ3,H3,I3,w3⟩
  | brk=>exact q3
  | ret v=>exact q3
 | false =>
  rw [if_neg Bool.false_ne_true];exact wpAny_execs_nil ⟨σ1,H2,I2,q2⟩
end
structure It where
 go:Nat->Hp->Prop
 yld:Nat->Hp->V->Hp->Prop
 stop:Nat->Hp->Prop
def FpOk(X:Cx)(zj:List (Addr×Obj))(H:Hp)(b:Addr):Prop :=
 H b=none/\b≠X.env.locals/\b∉X.fs/\(b∈X.ex\/X.s₀.heap.objs.size<=b)/\(∀ x c,X.env.cells.lookup x=some c->c≠b)/\∀ p∈X.pn++zj,p.1≠b
theorem Inv.fpOk{X:Cx}{zj:List (Addr×Obj)}{σ:St}{H H':Hp}{s:Shared}{b:Addr}(I:Inv X zj σ H s)(hb:s.heap.objs.size<=b)(hn:H' b=none):FpOk X zj H' b:=by
 refine⟨hn,ne_of_gt (lt_of_lt_of_le I.lt hb),I.nofs hb,.inr (le_trans I.sz hb),fun x c e z=>?_,fun p hp z=>?_⟩
 ·obtain⟨v,q⟩:=I.cell x c e;exact absurd (lt_of_lt_of_le q.lt (by rw [z]; exact hb)) (lt_irrefl _)
 ·exact absurd (lt_of_lt_of_le (lt_size (I.pin p hp).1) (by rw [z]; exact hb)) (lt_irrefl _)
structure Turn(P:Program)(w:World)(K:W.Frag)(tg:Expr)(J:It)(fp:List Addr)(it:Addr)(tn:Nat->Heap->Prop):Prop where
 mem:it∈fp
 obj:∀ i h,tn i h->∀ b∈fp,∃ o,h.get? b=some o/\∀ v,o.data≠.cell v
 keep:∀ i h h',tn i h->(∀ b∈fp,∀ o,h.get? b=some o->h'.get? b=some o)->tn i h'
 item:∀ (X:Cx),X.prog=P->X.w=w->X.K=K->X.calm=true->∀ (i:Nat) (zj:List (Addr×Obj)) (s:Shared) (σ:St) (H:Hp) (E:Value->Shared->Prop),Inv X zj σ H s->(∀ b∈fp,FpOk X zj H b)->tn i s.heap->J.go i H ->
  wpAny (model P w) X.A (pyNext (.ref it)) (fun r s1=>∃ u,r=some u /\
   wpAny (model P w) X.A (letOwnedTupleGo tg (.ref it) u) (fun _ s2=>∃ x H',Inv X zj σ H' s2/\RelV x u/\J.yld i H x H'/\tn (i+1) s2.heap/\∀ b∈fp,H' b=none) E s1) E s
 done:∀ (X:Cx),X.prog=P->X.w=w->X.K=K->X.calm=true->∀ (i:Nat) (zj:List (Addr×Obj)) (s:Shared) (σ:St) (H:Hp) (E:Value->Shared->Prop),Inv X zj σ H s->(∀ b∈fp,FpOk X zj H b)->tn i s.heap->J.stop i H ->
  wpAny (model P w) X.A (pyNext (.ref it)) (fun r s1=>r=none/\Inv X zj σ H s1) E s
 self:∀ (A:Around) (i:Nat) (s:Shared) (Q:Value->Shared->Prop) (E:Value->Shared->Prop),tn i s.heap->Q (.ref it) s->wpAny (model P w) A (pyIter (.ref it)) Q E s
abbrev TI:=St->Hp->(It->Hp->Prop)->Prop
def PIE(X:Cx)(zj:List (Addr×Obj))(σ:St)(tg:Expr)(R:It->Hp->Prop)(itv:Value)(s2:Shared):Prop :=
 ∃ (it:Addr) (fp:List Addr) (tn:Nat->Heap->Prop) (J:It) (H':Hp),itv=.ref it/\Inv X zj σ H' s2/\Turn X.prog X.w X.K tg J fp it tn/\tn 0 s2.heap/\(∀ b∈fp,FpOk X zj H' b)/\R J H'
def PI(X:Cx)(tg iter:Expr)(wi:TI):Prop :=
 ∀ (zj:List (Addr×Obj)) (s:Shared) (σ:St) (H:Hp) (R:It->Hp->Prop),Inv X zj σ H s->wi σ H R ->
  wpAny (model X.prog X.w) X.A (eval iter X.env) (fun v s1=>wpAny (model X.prog X.w) X.A (pyIter v) (PIE X zj σ tg R) X.xe s1) X.xe s
theorem zo9{M:Model}{A:Around}{E:Value->Shared->Prop}{s:Shared}{tg:Expr}{it:Addr}{u:Value}{o:Obj}{n:String}{vs:Array Value}{Q:Unit->Shared->Prop}(ho:s.heap.get? it=some o)(hc:o.cls=.type n)(hd:o.data=.fields vs)
    (hn:["enumerate","zip","dict_itemiterator","dict_reverseitemiterator","odict_iterator","itertools.zip_longest","itertools.pairwise"].contains n=false) (hQ:Q () s):wpAny M A (letOwnedTupleGo tg (.ref it) u) Q E s:=by
  unfold letOwnedTupleGo;cases tg <;> first
    | exact wpAny_pure hQ
    | (cases u <;> first
        | exact wpAny_pure hQ
        | (refine wpAny_bind (wpAny_load ho ?_)
           rw [hc,hd];show wpAny M A (if (["enumerate","zip","dict_itemiterator","dict_reverseitemiterator","odict_iterator","itertools.zip_longest","itertools.pairwise"].contains n && vs[0]? == some (rawInt _))=true then _ else _) Q E s;rw [if_neg (by intro h; rw [hn,Bool.false_and] at h; cases h)];exact wpAny_pure hQ))
def Itl(K:W.Frag)(a:Addr):It :=
 ⟨fun i H=>∃ xs x,SqL K H a xs/\xs[i]? = some x,fun i H x H'=>H'=H/\∀ xs,SqL K H a xs->xs[i]? = some x,fun i H=>∃ xs,SqL K H a xs/\xs.length<=i⟩
def Itt(K:W.Frag)(a:Addr):It :=
 ⟨fun i H=>∃ xs x,SqT K H a xs/\xs[i]? = some x,fun i H x H'=>H'=H/\∀ xs,SqT K H a xs->xs[i]? = some x,fun i H=>∃ xs,SqT K H a xs/\xs.length<=i⟩
def Itr(lo:Int)(n:Nat):It:=⟨fun i _=>i<n,fun i H x H'=>H'=H/\x=.int (lo+i),fun i _=>n<=i⟩
theorem ziG{P:Program}{w:World}{K:W.Frag}{tg:Expr}(a it:Addr):Turn P w K tg (Itl K a) [it] it (fun i h=>h.IsListIter it a i) where
 mem:=by simp
 obj:=fun i h st b hb=>by
  have e:b=it:=by simpa using hb
  subst e;obtain⟨o,e,c,d⟩:=st;exact⟨o,e,fun v z=>by rw [d] at z; cases z⟩
 keep:=fun i h h' st k=>st.at fun o e=>k it (by simp) o e
 item:=by
  intro X hP hw hK hc i zj s σ H E I hf st hg;subst hP hw hK;obtain⟨xs,x,hq,hx⟩:=hg;obtain⟨its,rv,p,hz⟩:=I.list hq;obtain⟨u,hu,ru⟩:=rv.get hx;obtain⟨f0,f1,f2,f3,f4,f5⟩:=hf it (by simp);refine wpAny_pyNext_list_item st p.isList (x:=u) (by simpa using hu) fun h' st' sb=>?_;have I1:Inv X zj σ H { s with heap:=h' }:=I.turned (t':=s.toks) (fun b o hb e=>(sb.2 b hb).trans e) f0 f1 f3 f4 f5;obtain⟨o,e,c,d⟩:=id st';exact⟨u,rfl,zo9 (s:={ s with heap:=h' }) e c d dz ⟨x,H,I1,ru,⟨rfl,fun ys hy=>by rw [I.list_inj hy hq]; exact hx⟩,st',fun b hb=>(hf b hb).1⟩⟩
 done:=by
  intro X hP hw hK hc i zj s σ H E I hf st hg;subst hP hw hK;obtain⟨xs,hq,hx⟩:=hg;obtain⟨its,rv,p,hz⟩:=I.list hq;obtain⟨f0,f1,f2,f3,f4,f5⟩:=hf it (by simp);have hl:=rv.length;exact wpAny_pyNext_list_end (I.ok.hd hc) st p.isList (by simp; omega) fun h' eb=>⟨rfl,I.turned (t':=s.toks) (fun b o hb e=>eb b o hb e) f0 f1 f3 f4 f5⟩
 self:=fun _ _ _ _ _ st h=>wpAny_pyIter_listiter st h
theorem zlX{P:Program}{w:World}{K:W.Frag}{tg:Expr}(a it:Addr):Turn P w K tg (Itt K a) [it] it (fun i h=>h.IsTupleIter it a i) where
 mem:=by simp
 obj:=fun i h st b hb=>by
  have e:b=it:=by simpa using hb
  subst e;obtain⟨o,e,c,d⟩:=st;exact⟨o,e,fun v z=>by rw [d] at z; cases z⟩
 keep:=fun i h h' st k=>st.at fun o e=>k it (by simp) o e
 item:=by
  intro X hP hw hK hc i zj s σ H E I hf st hg;subst hP hw hK;obtain⟨xs,x,hq,hx⟩:=hg;obtain⟨its,rv,p,hz⟩:=I.tuple hq;obtain⟨u,hu,ru⟩:=rv.get hx;obtain⟨f0,f1,f2,f3,f4,f5⟩:=hf it (by simp);refine wpAny_pyNext_tuple_item st (show s.heap.IsTuple a its.toArray from p) (x:=u) (by simpa using hu) fun h' st' sb=>?_;have I1:Inv X zj σ H { s with heap:=h' }:=I.turned (t':=s.toks) (fun b o hb e=>(sb.2 b hb).trans e) f0 f1 f3 f4 f5;obtain⟨o,e,c,d⟩:=id st';exact⟨u,rfl,zo9 (s:={ s with heap:=h' }) e c d dz ⟨x,H,I1,ru,⟨rfl,fun ys hy=>by rw [I.tuple_inj hy hq]; exact hx⟩,st',fun b hb=>(hf b hb).1⟩⟩
 done:=by
  intro X hP hw hK hc i zj s σ H E I hf st hg;subst hP hw hK;obtain⟨xs,hq,hx⟩:=hg;obtain⟨its,rv,p,hz⟩:=I.tuple hq;obtain⟨f0,f1,f2,f3,f4,f5⟩:=hf it (by simp);have hl:=rv.length;exact wpAny_pyNext_tuple_end (I.ok.hd hc) st (show s.heap.IsTuple a its.toArray from p) (by simp; omega) fun h' eb=>⟨rfl,I.turned (t':=s.toks) (fun b o hb e=>eb b o hb e) f0 f1 f3 f4 f5⟩
 self:=fun _ _ _ _ _ st h=>wpAny_pyIter_tupleiter st h
theorem zmf{P:Program}{w:World}{K:W.Frag}{tg:Expr}(it:Addr)(lo:Int)(n:Nat):Turn P w K tg (Itr lo n) [it] it (fun i h=>IsRangeIter h it (lo+(i:Nat)*1) ((n:Int) - (i:Nat)) 1) where
 mem:=by simp
 obj:=fun i h st b hb=>by
  have e:b=it:=by simpa using hb
  subst e;exact⟨_,st,fun v z=>by
   have z':Data.fields _=Data.cell v:=z;cases z'⟩
 keep:=fun i h h' st k=>k it (by simp) _ st
 item:=by
  intro X hP hw hK hc i zj s σ H E I hf st hg;subst hP hw hK;obtain⟨f0,f1,f2,f3,f4,f5⟩:=hf it (by simp);have W:=Walks.range (prog:=X.prog) (w:=X.w) (I.ok.hd hc) it lo 1 n;refine W.item i s _ _ hg st fun v h' tk hv st' kk=>?_;obtain⟨t,rfl⟩:=hv;have I1:Inv X zj σ H { s with heap:=h',toks:=tk }:=I.turned (fun b o hb e=>kk b o (by simpa using hb) e) f0 f1 f3 f4 f5;refine⟨_,rfl,zo9 (s:={ s with heap:=h',toks:=tk }) (n:="range_iterator") st' rfl rfl dz ⟨.int (lo+i),H,I1,⟨t,?_⟩,⟨rfl,rfl⟩,st',fun b hb=>(hf b hb).1⟩⟩;rw [Int.mul_one]
 done:=by
  intro X hP hw hK hc i zj s σ H E I hf st hg;subst hP hw hK;obtain⟨f0,f1,f2,f3,f4,f5⟩:=hf it (by simp);exact wpAny_pyNext_range_end (I.ok.hd hc) st (by have:n<=i:=hg; omega) fun h' eb=>⟨rfl,I.turned (t':=s.toks) (fun b o hb e=>eb b o hb e) f0 f1 f3 f4 f5⟩
 self:=fun _ _ _ _ _ st h=>wpAny_pyIter_rangeiter st h
end
section
section
variable {X:Cx} {tg:Expr}
def ztZ(K:W.Frag)(tl:TE):TI:=fun σ H R=>tl σ H fun x H1=>∃ a,x=.ref a/\(∃ xs,SqL K H1 a xs)/\R (Itl K a) H1
theorem zrW{l:Expr}{tl:TE}(hl:PE X l tl):PI X tg l (ztZ X.K tl):=by
 intro zj s σ H R I h;refine thn (hl zj s σ H _ I h) fun v s1 ⟨x,H1,I1,r1,q1⟩=>?_;obtain⟨a,e,⟨xs,hq⟩,q⟩:=q1;subst e;cases r1;obtain⟨its,rv,p,hz⟩:=I1.list hq;refine wpAny_pyIter_list p.isList ?_;refine⟨s1.heap.objs.size,[s1.heap.objs.size],_,_,H1,rfl,I1.kept (t':=s1.toks) fun b o e=>get?_push_of_some _ e,ziG a _,⟨_,get?_push_size _ rfl,rfl,rfl⟩,fun b hb=>?_,q⟩;have e:b=s1.heap.objs.size:=by simpa using hb
 subst e;exact I1.fpOk (le_refl _) (I1.hok.fresh (le_refl _))
def zuu(wi:TI)(g:TG)(tb:TS):TS:=fun D σ H=>wi σ H fun J H1=>∃ W:Nat->Nat->St->Hp->Prop,(∃ m,W 0 m σ H1)/\∀ i m σ H,W i m σ H ->
 (J.stop i H/\D.nx σ H)\/(J.go i H/\∃ N:St->Hp->Prop,(∀ σ' H',N σ' H'->∃ m',m'<m/\W (i+1) m' σ' H')/\∀ x H',J.yld i H x H'->g x σ H' fun σ2 H2=>tb { D with nx:=N,ct:=N,bk:=D.nx } σ2 H2)
def zjD(fp:List Addr)(h:Heap):List (Addr×Obj):=fp.filterMap fun b=>(h.get? b).map fun o=>(b,o)
theorem zdW{fp:List Addr}{h:Heap}{b:Addr}{o:Obj}(hb:b∈fp)(e:h.get? b=some o):(b,o)∈zjD fp h:=List.mem_filterMap.mpr ⟨b,hb,by rw [e]; rfl⟩
theorem zmQ{fp:List Addr}{h:Heap}{p:Addr×Obj}(hp:p∈zjD fp h):p.1∈fp/\h.get? p.1=some p.2:=by
 obtain⟨b,hb,e⟩:=List.mem_filterMap.mp hp;cases q:h.get? b with
 | none=>rw [q] at e; cases e
 | some o =>
  rw [q] at e;have e':(b,o)=p:=Option.some.inj e;subst e';exact⟨hb,q⟩
theorem Inv.pinned{zj:List (Addr×Obj)}{σ:St}{H:Hp}{s:Shared}{fp:List Addr}(I:Inv X zj σ H s)(hf:∀ b∈fp,FpOk X zj H b)(ho:∀ b∈fp,∃ o,s.heap.get? b=some o/\∀ v,o.data≠.cell v):Inv X (zj++zjD fp s.heap) σ H s :=
 I.pins_of fun p hp=>(mem_append.mp hp).elim (fun z=>I.pin p (mem_append_right _ z)) fun z=>by
  obtain⟨hb,e⟩:=zmQ z;obtain⟨f0,f1,f2,_⟩:=hf p.1 hb;obtain⟨o,e',d⟩:=ho p.1 hb;rw [e] at e'; cases e';exact⟨e,f0,f1,f2,d⟩
theorem Inv.unpinned{zj pl:List (Addr×Obj)}{σ:St}{H:Hp}{s:Shared}(I:Inv X (zj++pl) σ H s):Inv X zj σ H s:=I.pins_of fun p hp=>I.pin p (mem_append_right _ (mem_append_left _ hp))
theorem zbw{iter:Expr}{body:List Stmt}{wi:TI}{g:TG}{tb:TS}{pos:Pos}(hp:PassesOwn (model X.prog X.w) X.A X.env X.xe)(hc:X.calm=true)(hi:PI X tg iter wi)(hg:PG X tg g)(hb:PSs X body tb)
  (hs:∀ x,foldedSetIterable iter X.env x=pure x:=by intro _; rfl):PS X (.For tg iter body [] pos) (zuu wi g tb):=by
 intro zj s σ H D I h;refine wpAny_For (thn (hi zj s σ H _ I h) fun v s1 h1=>thn h1 fun itv s2 h2=>?_) hs;obtain⟨it,fp,tn,J,H2,e,I2,T,st2,f2,W,⟨m0,w0⟩,turn⟩:=h2;subst e
 -- what stays true of the iterator's objects through the loop
 have stat:∀ {H':Hp},(∀ b∈fp,H' b=none)->∀ b∈fp,FpOk X zj H' b:=fun hn b hb=>⟨hn b hb,(f2 b hb).2⟩;refine codeAny_forLoop_any (fun n s'=>∃ i σ' H',Inv X zj σ' H' s'/\tn i s'.heap/\(∀ b∈fp,H' b=none)/\W i n σ' H') ?_ m0 ⟨0,σ,H2,I2,st2,fun b hb=>(f2 b hb).1,w0⟩;rintro n s3 ⟨i,σ3,H3,I3,st3,fr3,w3⟩;rcases turn i n σ3 H3 w3 with ⟨stop,qn⟩ | ⟨go,N,hN,step⟩
 ·refine wpAny_passesOwn hp (thn (T.done X rfl rfl rfl hc i zj s3 σ3 H3 X.xe I3 (stat fr3) st3 stop) fun r s4 ⟨hr,I4⟩=>?_);subst hr;exact wpAny_execs_nil ⟨σ3,H3,I4,qn⟩
 ·refine wpAny_passesOwn hp (thn (T.item X rfl rfl rfl hc i zj s3 σ3 H3 X.xe I3 (stat fr3) st3 go) fun r s4 ⟨u,hr,h4⟩=>?_);subst hr;refine wpAny_passesOwn hp (thn h4 fun _ s5 ⟨x,H5,I5,r5,y5,st5,fr5⟩=>?_);have I5':=I5.pinned (stat fr5) (T.obj _ _ st5);refine wpAny_passesOwn hp (thn (hg _ s5 σ3 H5 x u _ I5' r5 (step x H5 y5)) fun _ s6 ⟨σ6,H6,I6,q6⟩=>?_);refine wpAny_passesOwn hp (thn (hb _ s6 σ6 H6 _ I6 q6) fun f s7 q7=>?_);have again:∀ {σ7:St} {H7:Hp},Inv X (zj++zjD fp s5.heap) σ7 H7 s7->N σ7 H7->∃ m,m<n/\∃ i σ' H',Inv X zj σ' H' s7/\tn i s7.heap/\(∀ b∈fp,H' b=none)/\W i m σ' H':=fun {σ7 H7} I7 n7=>by
   obtain⟨m',hm,w7⟩:=hN σ7 H7 n7;refine⟨m',hm,i+1,σ7,H7,I7.unpinned,T.keep _ _ _ st5 fun b hb o e=>(I7.pin (b,o) (mem_append_right _ (mem_append_right _ (zdW hb e)))).1,fun b hb=>?_,w7⟩;obtain⟨o,e,d⟩:=T.obj _ _ st5 b hb;exact(I7.pin (b,o) (mem_append_right _ (mem_append_right _ (zdW hb e)))).2.1
  cases f with
  | next=>obtain⟨σ7,H7,I7,n7⟩:=q7; exact again I7 n7
  | cont=>obtain⟨σ7,H7,I7,n7⟩:=q7; exact again I7 n7
  | brk=>obtain⟨σ7,H7,I7,q7⟩:=q7; exact⟨σ7,H7,I7.unpinned,q7⟩
  | ret v=>obtain⟨x7,σ7,H7,I7,r7,q7⟩:=q7; exact⟨x7,σ7,H7,I7.unpinned,r7,q7⟩
end
theorem zpb{K:W.Frag}{a:Addr}{xs:List V}{g:TG}{tb:TS}{D:Ends}{σ:St}{H:Hp}(Pv:Nat->St->Hp->Prop)(h0:Pv 0 σ H)(hl:∀ i σ H,i<=xs.length->Pv i σ H->SqL K H a xs)
  (hs:∀ i x σ H,xs[i]? = some x->Pv i σ H->g x σ H fun σ2 H2=>tb { D with nx:=Pv (i+1),ct:=Pv (i+1),bk:=D.nx } σ2 H2) (hd:∀ σ H,Pv xs.length σ H->D.nx σ H) :
  ∃ W:Nat->Nat->St->Hp->Prop,(∃ m,W 0 m σ H)/\∀ i m σ H,W i m σ H ->
   ((Itl K a).stop i H/\D.nx σ H)\/((Itl K a).go i H/\∃ N:St->Hp->Prop,(∀ σ' H',N σ' H'->∃ m',m'<m/\W (i+1) m' σ' H')/\∀ x H',(Itl K a).yld i H x H'->g x σ H' fun σ2 H2=>tb { D with nx:=N,ct:=N,bk:=D.nx } σ2 H2):=by
 refine⟨fun i m σ H=>m=xs.length - i/\i<=xs.length/\Pv i σ H,⟨xs.length,by simp,zero_le _,h0⟩,?_⟩;rintro i m σ H ⟨rfl,hi,p⟩;have q:=hl i σ H hi p;by_cases hlt:i<xs.length
 ·refine .inr ⟨⟨xs,xs[i],q,by simp [hlt]⟩,Pv (i+1),fun σ' H' p'=>⟨xs.length - (i+1),by omega,rfl,hlt,p'⟩,fun x H' y=>?_⟩;obtain⟨e,y⟩:=y;subst e;exact hs i x σ _ (y xs q) p
 ·have e:i=xs.length:=by omega
  subst e;exact .inl ⟨⟨xs,q,le_refl _⟩,hd σ H p⟩
end
section
abbrev R2:=V->V->Hp->VK->Prop
def OpR(X:Cx)(f:Value->Value->Sem Value)(r:R2):Prop :=
 ∀ (zj:List (Addr×Obj)) (s:Shared) (σ:St) (H:Hp) (x y:V) (v u:Value) (Q:VK),Inv X zj σ H s->RelV x v->RelV y u->r x y H Q ->
  wpAny (model X.prog X.w) X.A (f v u) (EP X zj σ Q) X.xe s
def UnR(X:Cx)(f:Value->Sem Value)(r:V->Hp->VK->Prop):Prop :=
 ∀ (zj:List (Addr×Obj)) (s:Shared) (σ:St) (H:Hp) (x:V) (v:Value) (Q:VK),Inv X zj σ H s->RelV x v->r x H Q ->
  wpAny (model X.prog X.w) X.A (f v) (EP X zj σ Q) X.xe s
def CallR(X:Cx)(f:Value)(r:List V->Hp->VK->Prop):Prop :=
 ∀ (zj:List (Addr×Obj)) (s:Shared) (σ:St) (H:Hp) (xs:List V) (us:List Value) (Q:VK),Inv X zj σ H s->Vals xs us->r xs H Q ->
  wpAny (model X.prog X.w) X.A (call f us) (EP X zj σ Q) X.xe s
def TruR(X:Cx)(r:V->Hp->(Bool->Hp->Prop)->Prop):Prop :=
 ∀ (zj:List (Addr×Obj)) (s:Shared) (σ:St) (H:Hp) (x:V) (v:Value) (Q:Bool->Hp->Prop),Inv X zj σ H s->RelV x v->r x H Q ->
  wpAny (model X.prog X.w) X.A (truthy v) (TP X zj σ Q) X.xe s
def tOp(r:R2)(ta tb:TE):TE:=fun σ H Q=>ta σ H fun x H1=>tb σ H1 fun y H2=>r x y H2 Q
def tUn(r:V->Hp->VK->Prop)(ta:TE):TE:=fun σ H Q=>ta σ H fun x H1=>r x H1 Q
def rI(C:Int->Int->Prop)(g:Int->Int->V):R2:=fun x y H Q=>∃ i j,x=.int i/\y=.int j/\C i j/\Q (g i j) H
def rI0(g:Int->Int->V):R2:=fun x y H Q=>∃ i j,x=.int i/\y=.int j/\Q (g i j) H
def rU(g:Int->V):V->Hp->VK->Prop:=fun x H Q=>∃ i,x=.int i/\Q (g i) H
section
variable {X:Cx} {a b c:Expr} {ta tb tc:TE} {pos:Pos}
theorem zum(ha:PE X a ta)(hb:PE X b tb){zj:List (Addr×Obj)}{s:Shared}{σ:St}{H:Hp}{R:V->V->Hp->Prop}(I:Inv X zj σ H s)
  (h:ta σ H fun x H1=>tb σ H1 fun y H2=>R x y H2) {Q:Value->Shared->Prop} {f:Value->Value->Sem Value}
  (hf:∀ v u s2 x y H2,Inv X zj σ H2 s2->RelV x v->RelV y u->R x y H2->wpAny (model X.prog X.w) X.A (f v u) Q X.xe s2) :
  wpAny (model X.prog X.w) X.A (eval a X.env) (fun v s₁=>wpAny (model X.prog X.w) X.A (eval b X.env) (fun u s₂=>wpAny (model X.prog X.w) X.A (f v u) Q X.xe s₂) X.xe s₁) X.xe s:=by
 refine thn (ha zj s σ H _ I h) fun v s1 ⟨x,H1,I1,r1,q1⟩=>?_;refine thn (hb zj s1 σ H1 _ I1 q1) fun u s2 ⟨y,H2,I2,r2,q2⟩=>?_;exact hf v u s2 x y H2 I2 r1 r2 q2
theorem zC{op:Operator}{r:R2}(ho:OpR X (binaryOp op) r)(ha:PE X a ta)(hb:PE X b tb):PE X (.BinOp a op b pos) (tOp r ta tb):=by
 intro zj s σ H Q I h;exact wpAny_BinOp (zum ha hb I h fun v u s2 x y H2 I2 rx ry q=>ho zj s2 σ H2 x y v u Q I2 rx ry q)
theorem ze5{op:UnaryOp}{r:V->Hp->VK->Prop}(ho:UnR X (unaryOp op) r)(ha:PE X a ta):PE X (.UnaryOp op a pos) (tUn r ta):=by
 intro zj s σ H Q I h;exact UnaryOp_ (thn (ha zj s σ H _ I h) fun v s1 ⟨x,H1,I1,r1,q1⟩=>ho zj s1 σ H1 x v Q I1 r1 q1)
theorem opI{f:Value->Value->Sem Value}{C:Int->Int->Prop}{g:Int->Int->Int}
  (rule:∀ (i j:Int) (t u:Tok) (s:Shared) (Q:Value->Shared->Prop) (E:Value->Shared->Prop),C i j->Q (.int (g i j) s.toks) { s with toks:=s.toks+1 }->wpAny (model X.prog X.w) X.A (f (.int i t) (.int j u)) Q E s) :
  OpR X f (rI C fun i j=>.int (g i j)):=by
 intro zj s σ H x y v u Q I rx ry h;obtain⟨i,j,rfl,rfl,hc,q⟩:=h;obtain⟨t,rfl⟩:=rx;obtain⟨t',rfl⟩:=ry;exact rule i j t t' s _ _ hc ⟨.int (g i j),H,I.tok _,⟨_,rfl⟩,q⟩
theorem zvf{f:Value->Value->Sem Value}{g:Int->Int->Int}
  (rule:∀ (i j:Int) (t u:Tok) (s:Shared) (Q:Value->Shared->Prop) (E:Value->Shared->Prop),Q (.int (g i j) s.toks) { s with toks:=s.toks+1 }->wpAny (model X.prog X.w) X.A (f (.int i t) (.int j u)) Q E s) :
  OpR X f (rI0 fun i j=>.int (g i j)):=by
 intro zj s σ H x y v u Q I rx ry h;obtain⟨i,j,rfl,rfl,q⟩:=h;obtain⟨t,rfl⟩:=rx;obtain⟨t',rfl⟩:=ry;exact rule i j t t' s _ _ ⟨.int (g i j),H,I.tok _,⟨_,rfl⟩,q⟩
theorem zt9{f:Value->Value->Sem Value}{g:Int->Int->Bool}
  (rule:∀ (i j:Int) (t u:Tok) (s:Shared) (Q:Value->Shared->Prop) (E:Value->Shared->Prop),Q (.bool (g i j)) s->wpAny (model X.prog X.w) X.A (f (.int i t) (.int j u)) Q E s) :
  OpR X f (rI0 fun i j=>.bl (g i j)):=by
 intro zj s σ H x y v u Q I rx ry h;obtain⟨i,j,rfl,rfl,q⟩:=h;obtain⟨t,rfl⟩:=rx;obtain⟨t',rfl⟩:=ry;exact rule i j t t' s _ _ ⟨.bl (g i j),H,I,rfl,q⟩
def CDivN(i j:Int):Prop:=j≠0/\j.natAbs<1073741824
def CPow(i j:Int):Prop:=0<=j/\j<=1000000/\i.natAbs<2 ^ 64
theorem zsM:OpR X (binaryOp .Add) (rI0 fun i j=>.int (i+j)):=zvf fun _ _ _ _ _ _ _ q=>add_int q
theorem zbO:OpR X (binaryOp .Sub) (rI0 fun i j=>.int (i - j)):=zvf fun _ _ _ _ _ _ _ q=>sub_int q
theorem zpi:OpR X (binaryOp .FloorDiv) (rI CDivN fun i j=>.int (i.fdiv j)):=opI fun _ _ _ _ _ _ _ hc q=>floordiv_int hc.1 q (.inl (PyProof.noPylong_small hc.2))
theorem zfo:OpR X (binaryOp .Mod) (rI (fun _ j=>0<j) fun i j=>.int (i % j)):=opI fun i j _ _ _ _ _ hc q=>by
 have h1:(0:Int)<j:=hc;exact mod_int' (by omega) (by rw [Int.fmod_eq_emod_of_nonneg i (by omega)]; exact q)
theorem zhD:OpR X (binaryOp .Pow) (rI CPow fun i j=>.int (i ^ j.toNat)):=opI fun _ _ _ _ _ _ _ hc q=>pow_int_small hc.1 hc.2.1 hc.2.2 q
theorem unI{f:Value->Sem Value}{g:Int->Int}
  (rule:∀ (i:Int) (t:Tok) (s:Shared) (Q:Value->Shared->Prop) (E:Value->Shared->Prop),Q (.int (g i) s.toks) { s with toks:=s.toks+1 }->wpAny (model X.prog X.w) X.A (f (.int i t)) Q E s) :
  UnR X f (rU fun i=>.int (g i)):=by
 intro zj s σ H x v Q I rx h;obtain⟨i,rfl,q⟩:=h;obtain⟨t,rfl⟩:=rx;exact rule i t s _ _ ⟨.int (g i),H,I.tok _,⟨_,rfl⟩,q⟩
theorem zcS:UnR X (unaryOp .USub) (rU fun i=>.int (-i)):=unI fun _ _ _ _ _ q=>neg_int q
end
section
variable {X:Cx} {a b c:Expr} {ta tb tc:TE} {pos:Pos}
theorem zns{zj:List (Addr×Obj)}{σ:St}{H:Hp}{s:Shared}{Q:VK}{k k':Bool}(I:Inv X zj σ H s)(q:Q (.bl k) H)(e:k=k'):EP X zj σ Q (.bool k') s:=by
 subst e;exact⟨.bl k,H,I,rfl,q⟩
theorem zl1:OpR X (compareOp .Lt) (rI0 fun i j=>.bl (decide (i<j))):=zt9 fun _ _ _ _ _ _ _ q=>lt_int q
theorem zrr:OpR X (compareOp .LtE) (rI0 fun i j=>.bl (decide (i<=j))):=zt9 fun _ _ _ _ _ _ _ q=>le_int q
theorem zi1:OpR X (compareOp .Gt) (rI0 fun i j=>.bl (decide (j<i))):=zt9 fun _ _ _ _ _ _ _ q=>gt_int q
theorem zsN:OpR X (compareOp .GtE) (rI0 fun i j=>.bl (decide (j<=i))):=zt9 fun _ _ _ _ _ _ _ q=>ge_int q
theorem ztw:OpR X (compareOp .Is) (fun x y H Q=>y=.non/\Q (.bl (decide (x=.non))) H):=by
 intro zj s σ H x y v u Q I rx ry h;obtain⟨rfl,q⟩:=h;cases ry;refine is_none_gen (zns I q ?_);cases x <;> first
  | (cases rx; rfl)
  | (obtain⟨t,rfl⟩:=rx; rfl)
theorem zq7:OpR X (compareOp .IsNot) (fun x y H Q=>y=.non/\Q (.bl (!decide (x=.non))) H):=by
 intro zj s σ H x y v u Q I rx ry h;obtain⟨rfl,q⟩:=h;cases ry;refine isnot_none_gen (zns I q ?_);cases x <;> first
  | (cases rx; rfl)
  | (obtain⟨t,rfl⟩:=rx; rfl)
theorem zjU:OpR X (compareOp .NotIn) (fun x y H Q=>∃ i j,x=.str i/\y=.str j/\Q (.bl (!(!(Builtin.Str.occurrences j i 0 j.length 1).isEmpty))) H):=by
 intro zj s σ H x y v u Q I rx ry h;obtain⟨i,j,rfl,rfl,q⟩:=h;obtain⟨t,rfl⟩:=rx;obtain⟨t',rfl⟩:=ry;exact notIn_str (zns I q rfl)
theorem OpR.or{f:Value->Value->Sem Value}{r r':R2}(h:OpR X f r)(h':OpR X f r'):OpR X f (fun x y H Q=>r x y H Q\/r' x y H Q):=by
 intro zj s σ H x y v u Q I rx ry q;rcases q with q | q
 ·exact h zj s σ H x y v u Q I rx ry q
 ·exact h' zj s σ H x y v u Q I rx ry q
theorem nomark(b:Expr){op:CmpOp}(h:op≠.In:=by decide)(h2:op≠.NotIn:=by decide):behindInMarks op b=false:=by
 have e1:(op == CmpOp.In)=false:=by cases op <;> first | rfl | exact absurd rfl h
 have e2:(op == CmpOp.NotIn)=false:=by cases op <;> first | rfl | exact absurd rfl h2
 cases b <;> simp [behindInMarks,e1,e2]
theorem zdP{op:CmpOp}{r:R2}(ho:OpR X (compareOp op) r)(ha:PE X a ta)(hb:PE X b tb)(hm:behindInMarks op b=false):PE X (.Compare a [op] [b] pos) (tOp r ta tb):=by
 intro zj s σ H Q I h;exact wpAny_Compare1 (zum ha hb I h fun v u s2 x y H2 I2 rx ry q=>ho zj s2 σ H2 x y v u Q I2 rx ry q) hm
def zq9(t:TE):TT:=fun σ H Q=>t σ H fun x H'=>∃ k,x=.bl k/\Q k H'
theorem zP{op:CmpOp}{r:R2}(ho:OpR X (compareOp op) r)(ha:PE X a ta)(hb:PE X b tb)(hm:behindInMarks op b=false):PT X (.Compare a [op] [b] pos) (zq9 (tOp r ta tb)):=by
 intro zj s σ H Q I h;refine wpAny_isTrue_Compare1 (thn (ha zj s σ H _ I h) fun v s1 ⟨x,H1,I1,r1,q1⟩=>thn (hb zj s1 σ H1 _ I1 q1) fun u s2 ⟨y,H2,I2,r2,q2⟩ =>
  thn (ho zj s2 σ H2 x y v u _ I2 r1 r2 q2) fun c s3 ⟨z,H3,I3,r3,k,e,q3⟩=>?_) hm
 subst e;cases r3;exact wpAny_truthy_bool ⟨H3,I3,q3⟩
def zqO(r r':R2)(ta tb tc:TE):TE:=fun σ H Q=>ta σ H fun x H1=>tb σ H1 fun y H2=>r x y H2 fun z H3=>∃ k,z=.bl k /\
 (if k=true then tc σ H3 fun w' H4=>r' y w' H4 Q else Q (.bl false) H3)
theorem zpk{op op':CmpOp}{r r':R2}(ho:OpR X (compareOp op) r)(ho':OpR X (compareOp op') r')(ha:PE X a ta)(hb:PE X b tb)(hc:PE X c tc)
  (hm:lastMarks [op,op'] [b,c]=false:=by with_unfolding_all rfl):PE X (.Compare a [op,op'] [b,c] pos) (zqO r r' ta tb tc):=by
 intro zj s σ H Q I h;refine Compare_chain (thn (ha zj s σ H _ I h) fun v s1 ⟨x,H1,I1,r1,q1⟩=>chain_link (thn (hb zj s1 σ H1 _ I1 q1) fun u s2 ⟨y,H2,I2,r2,q2⟩ =>
  thn (ho zj s2 σ H2 x y v u _ I2 r1 r2 q2) fun d s3 ⟨z,H3,I3,r3,k,e,q3⟩=>?_)) hm
 subst e;cases r3;refine wpAny_truthy_bool ?_;cases k with
 | false=>exact ite_ff ⟨.bl false,H3,I3,rfl,q3⟩
 | true=>exact ite_tt (chain_last (thn (hc zj s3 σ H3 _ I3 q3) fun w' s4 ⟨z',H4,I4,r4,q4⟩=>ho' zj s4 σ H4 y z' u w' Q I4 r2 r4 q4))
def TruV(K:W.Frag)(x:V)(H:Hp)(k:Bool):Prop :=
 match x with
 | .non=>k=false
 | .bl b=>k=b
 | .int i=>k=(i != 0)
 | .str y=>y.length<=sizeLine/\k=((y.length:Int) != 0)
 | .byt y=>y.size<=sizeLine/\k=((y.size:Int) != 0)
 | .ref p=>(∃ xs,SqL K H p xs/\k = !xs.isEmpty)\/(∃ xs,SqT K H p xs/\k = !xs.isEmpty)\/∃ kvs,H p=some (.dK kvs)/\k = !kvs.isEmpty
 | _=>False
theorem zlA{κ:Type}{kvs:List (κ×V)}{vs:List (κ×Value)}(r:KV kvs vs):(!vs.isEmpty) = !kvs.isEmpty:=by
 cases r <;> rfl
theorem zhf{xs:List V}{its:List Value}(r:Vals xs its):(!its.toArray.isEmpty) = !xs.isEmpty:=by
 cases r <;> simp
theorem line63:(sizeLine:Nat)<2 ^ 63:=by rw [sizeLine_eq]; decide
theorem zsR:TruR X (fun x H Q=>∃ k,TruV X.K x H k/\Q k H):=by
 intro zj s σ H x v Q I rx h;obtain⟨k,e,q⟩:=h;have hl:=line63;have hs:sizeLine=16777216:=sizeLine_eq;cases x with
 | non =>
  cases rx;have e':k=false:=e;subst e';exact truthy_none ⟨H,I,q⟩
 | bl b =>
  cases rx;have e':k=b:=e;subst e';exact wpAny_truthy_bool ⟨H,I,q⟩
 | int i =>
  obtain⟨t,rfl⟩:=rx;have e':k=(i != 0):=e;subst e';exact PySem.P.truthy_int ⟨H,I,q⟩
 | str y =>
  obtain⟨t,rfl⟩:=rx;obtain⟨hy,e'⟩:y.length<=sizeLine/\k=((y.length:Int) != 0):=e;subst e';exact PySem.P.truthy_str (by omega) ⟨H,I.tok _,q⟩
 | byt y =>
  obtain⟨t,rfl⟩:=rx;obtain⟨hy,e'⟩:y.size<=sizeLine/\k=((y.size:Int) != 0):=e;subst e';exact W.truthy_bytes (by omega) ⟨H,I.tok _,q⟩
 | ref p =>
  cases rx;have e':(∃ xs,SqL X.K H p xs/\k = !xs.isEmpty)\/(∃ xs,SqT X.K H p xs/\k = !xs.isEmpty)\/∃ kvs,H p=some (.dK kvs)/\k = !kvs.isEmpty:=e;rcases e' with ⟨xs,hx,e'⟩ | ⟨xs,hx,e'⟩ | ⟨kvs,hx,e'⟩
  ·subst e';obtain⟨its,r,pl,hz⟩:=I.list hx;have hlen:=r.length;exact wpAny_truthy_list pl.isList (by simp only [size_toArray]; omega) ⟨H,I.tok _,by rw [zhf r]; exact q⟩
  ·subst e';obtain⟨its,r,pl,hz⟩:=I.tuple hx;have hlen:=r.length;exact truthy_tuple pl (by simp only [size_toArray]; omega) ⟨H,I.tok _,by rw [zhf r]; exact q⟩
  ·subst e';obtain⟨hz,hS,vs,r,m⟩:kvs.length<=sizeLine/\(p == sysModules)=false/\∃ vs,KV kvs vs/\s.heap.DictOf (zky X.prog X.w) p vs:=I.hok p _ hx;have hlen:kvs.length=vs.length:=Paired.length r;exact wpAny_truthy_dict hS m (by omega) ⟨H,I.tok _,by rw [zlA r]; exact q⟩
 | _=>exact(show False from e).elim
theorem zbq(ha:PE X a ta)(he:∀ whole,isTrue a X.env whole=(do let v <- whole; standAt a.pos; holding [v] (truthy v))):
  PT X a (fun σ H Q=>ta σ H fun x H'=>∃ k,TruV X.K x H' k/\Q k H'):=by
 intro zj s σ H Q I h;exact isTrue_plain (thn (ha zj s σ H _ I h) fun v s1 ⟨x,H1,I1,r1,q1⟩=>zsR zj s1 σ H1 x v Q I1 r1 q1) (he _)
theorem zmi:OpR X (binaryOp .Add) (fun x y H Q=>∃ i j,x=.str i/\y=.str j/\i.length+j.length<=sizeLine/\Q (.str (i++j)) H):=by
 intro zj s σ H x y v u Q I rx ry h;obtain⟨i,j,rfl,rfl,hz,q⟩:=h;obtain⟨t,rfl⟩:=rx;obtain⟨t',rfl⟩:=ry;exact add_str (fun t' tk=>⟨.str (i++j),H,I.tok _,⟨_,rfl⟩,q⟩) hz
theorem vals1{x:V}{us:List Value}(r:Vals [x] us):∃ u,us=[u]/\RelV x u:=by
 cases r with
 | cons r1 r2=>cases r2; exact⟨_,rfl,r1⟩
theorem vals2{x y:V}{us:List Value}(r:Vals [x,y] us):∃ u w',us=[u,w']/\RelV x u/\RelV y w':=by
 cases r with
 | cons r1 r2 =>
  cases r2 with
  | cons r3 r4=>cases r4; exact⟨_,_,rfl,r1,r3⟩
theorem zgv(hc:X.calm=true):CallR X (.builtin "max") (fun xs H Q=>∃ i j,xs=[.int i,.int j]/\Q (.int (if j>i then j else i)) H):=by
 intro zj s σ H xs us Q I r h;obtain⟨i,j,rfl,q⟩:=h;obtain⟨u,w',rfl,⟨t,rfl⟩,⟨t',rfl⟩⟩:=vals2 r;refine max_two_ints (I.ok.hd hc) fun h' tk k=>⟨_,H,I.kept k,?_,q⟩;by_cases hj:j>i
 ·rw [if_pos hj,if_pos hj]; exact⟨_,rfl⟩
 ·rw [if_neg hj,if_neg hj]; exact⟨_,rfl⟩
theorem znK(hc:X.calm=true):CallR X (.builtin "min") (fun xs H Q=>∃ i j,xs=[.int i,.int j]/\Q (.int (if j<i then j else i)) H):=by
 intro zj s σ H xs us Q I r h;obtain⟨i,j,rfl,q⟩:=h;obtain⟨u,w',rfl,⟨t,rfl⟩,⟨t',rfl⟩⟩:=vals2 r;refine min_two_ints (I.ok.hd hc) fun h' tk k=>⟨_,H,I.kept k,?_,q⟩;by_cases hj:j<i
 ·rw [if_pos hj,if_pos hj]; exact⟨_,rfl⟩
 ·rw [if_neg hj,if_neg hj]; exact⟨_,rfl⟩
theorem znn:CallR X (.type "int") (fun xs H Q=>(∃ i,xs=[.int i]/\Q (.int i) H)\/∃ k,xs=[.bl k]/\Q (.int (if k then 1 else 0)) H):=by
 intro zj s σ H xs us Q I r h;rcases h with ⟨i,rfl,q⟩ | ⟨k,rfl,q⟩
 ·obtain⟨u,rfl,t,rfl⟩:=vals1 r;exact call_int_int ⟨.int i,H,I,⟨_,rfl⟩,q⟩
 ·obtain⟨u,rfl,r1⟩:=vals1 r;cases r1;exact call_int_bool ⟨.int (if k then 1 else 0),H,I.tok _,⟨_,rfl⟩,q⟩
end
end
section
structure ObjM(h:Heap)(x dx C:Addr)(mA:Str->Option Value):Prop where
 obj:h.get? x=some (W.instObj C dx)
 ns:h.Ns1 dx mA
 ne:dx≠x
theorem zi8{h:Heap}{dx:Addr}{mA:Str->Option Value}(n:h.Ns1 dx mA):∃ od,h.get? dx=some od/\∀ name,W.lookIn name od=some (mA name):=by
 obtain⟨o,es,ep,ho,hd,hk,_,hm⟩:=n;refine⟨o,ho,fun name=>?_⟩;have e:=hm name;unfold nsFind findBy at e;rw [<- Array.find?_toList] at e;unfold W.lookIn;rw [hd];dsimp only;split
 ·rename_i y q;rw [q] at e;exact congrArg some e
 ·rename_i q;rw [q] at e;have a:es.toList.any (·.refKey)=false:=by
   rw [List.any_eq_false];intro y hy;obtain⟨z,t,hkey⟩:=hk y (Array.mem_toList_iff.mp hy);simp [DictEntry.refKey,hkey]
  have a':¬ es.toList.any (·.refKey)=true:=by rw [a]; exact Bool.false_ne_true
  rw [if_neg a'];exact congrArg some e
theorem ObjM.look{h:Heap}{x dx C:Addr}{mA:Str->Option Value}(I:ObjM h x dx C mA):∃ od,W.InstAt h x (W.instObj C dx) C (some od)/\∀ name,W.lookIn name od=some (mA name) :=
 let ⟨od,ho,hl⟩:=zi8 I.ns
 ⟨od,⟨I.obj,rfl,rfl,ho⟩,hl⟩
def zkt(f:Str)(v:V):List (Str×V)->List (Str×V)
 | []=>[(f,v)]
 | (g,x) :: r=>if g=f then (g,v) :: r else (g,x) :: zkt f v r
theorem zee(f g:Str)(v:V):∀ fs:List (Str×V),(zkt f v fs).lookup g=if g=f then some v else fs.lookup g
 | []=>by
  show List.lookup g [(f,v)]=_;by_cases h:g=f
  ·have hb:(g == f)=true:=beq_iff_eq.mpr h;simp only [List.lookup,hb,if_pos h]
  ·have hb:(g == f)=false:=beq_eq_false_iff_ne.mpr h;simp only [List.lookup,hb,if_neg h]
 | (k,x) :: r=>by
  have ih:=zee f g v r;rw [show zkt f v ((k,x) :: r)=(if k=f then (k,v) :: r else (k,x) :: zkt f v r) from rfl];by_cases hk:k=f
  ·rw [if_pos hk];by_cases h:g=k
   ·have hb:(g == k)=true:=beq_iff_eq.mpr h;simp only [List.lookup,hb,if_pos (h.trans hk)]
   ·have hb:(g == k)=false:=beq_eq_false_iff_ne.mpr h;simp only [List.lookup,hb,if_neg (fun e:g=f=>h (e.trans hk.symm))]
  ·rw [if_neg hk];by_cases h:g=k
   ·have hb:(g == k)=true:=beq_iff_eq.mpr h;simp only [List.lookup,hb,if_neg (fun e:g=f=>hk (h.symm.trans e))]
   ·have hb:(g == k)=false:=beq_eq_false_iff_ne.mpr h;simp only [List.lookup,hb];exact ih
theorem zf0(f:Str)(v:V):∀ fs:List (Str×V),f∈(zkt f v fs).map (·.1)/\∀ g,g∈fs.map (·.1)->g∈(zkt f v fs).map (·.1)
 | []=>⟨by simp [zkt],fun g h=>by simp at h⟩
 | (k,x) :: r=>by
  obtain⟨i1,i2⟩:=zf0 f v r;rw [show zkt f v ((k,x) :: r)=(if k=f then (k,v) :: r else (k,x) :: zkt f v r) from rfl];by_cases hk:k=f
  ·rw [if_pos hk];subst hk;exact⟨by simp,fun g h=>by simpa using h⟩
  ·rw [if_neg hk];refine⟨?_,fun g h=>?_⟩
   ·rw [map_cons];exact mem_cons_of_mem _ i1
   ·rw [map_cons] at h ⊢;rcases mem_cons.mp h with e | e
    ·exact mem_cons.mpr (.inl e)
    ·exact mem_cons_of_mem _ (i2 g e)
theorem znh{v:V}{u:Value}(r:RelV v u):W.handedIn u=true:=by
 cases v with
 | non=>cases (show u=Value.none from r); rfl
 | bl b=>cases (show u=Value.bool b from r); rfl
 | int i=>obtain⟨t,e⟩:=(show ∃ t,u=Value.int i t from r); cases e; rfl
 | str x=>obtain⟨t,e⟩:=(show ∃ t,u=Value.str x t from r); cases e; rfl
 | byt b=>obtain⟨t,e⟩:=(show ∃ t,u=Value.bytes b t from r); cases e; rfl
 | flt b=>obtain⟨t,e⟩:=(show ∃ t,u=Value.float b t from r); cases e; rfl
 | ref a=>cases (show u=Value.ref a from r); rfl
 | ty n=>cases (show u=Value.type n from r); rfl
section
variable {P:Program} {w:World} {H H':Hp} {h h':Heap} {a C dx:Addr} {fs fs':List (Str×V)}
theorem zq4(hok:HOk P w H h)(e:H a=some (.ins C dx fs)):∃ mA,ObjM h a dx C mA/\(∀ f,RelO (fs.lookup f) (mA f))/\PySem.Within mA (fs.map (·.1))/\fs.length<=1000/\H dx=some (.own a):=by
 obtain⟨d,z,ne,ob,mA,n,r,q⟩:=(show ObjOk P w H h a (.ins C dx fs) from hok a _ e);exact⟨mA,⟨ob,n,ne⟩,r,q,z,d⟩
end
structure Cls(K:W.Frag)(C:Addr):Prop where
 pg:W.plainGet K C Str.empty=true
 hd:W.hasDictIn K C=true
 po:W.plainOver K C=true
 sa:W.findIn K (.ref C) "__setattr__" = some (some (.builtin "object.__setattr__"))
theorem Cls.get{K:W.Frag}{C:Addr}(c:Cls K C)(f:Str):W.plainGet K C f=true:=c.pg
def NoAttr(K:W.Frag)(C:Addr)(f:Str):Prop:=W.findIn K (.ref C) f=some none
section
variable {X:Cx} {zj:List (Addr×Obj)} {σ:St} {H:Hp} {s:Shared} {a C dx:Addr} {fs:List (Str×V)} {f:Str} {v:V} {A:Around} {E:Value->Shared->Prop}
theorem zrB{prog:Program}{w:World}{env:Env}{e:Expr}{f:Str}{pos:Pos}{s:Shared}{Q:Value->Shared->Prop}(hb:attributeBase e f env (eval e env)=eval e env)
  (h:wpAny (model prog w) A (eval e env) (fun o s₁=>wpAny (model prog w) A (getAttr o f true) Q E s₁) E s):wpAny (model prog w) A (eval (.Attribute e f pos) env) Q E s :=
 Attribute_any_ h (by rw [arm_eval_Attribute,hb])
end
section
variable {X:Cx} {zj:List (Addr×Obj)} {σ:St} {H:Hp} {s:Shared} {A:Around} {E:Value->Shared->Prop} {Q:Value->Shared->Prop} {c:Value} {b:Bool}
inductive TyOf (K:W.Frag) (H:Hp):V->Value->Prop where
 | non:TyOf K H .non (.type "NoneType")
 | bl (x:Bool):TyOf K H (.bl x) (.type "bool")
 | int (i:Int):TyOf K H (.int i) (.type "int")
 | str (x:Str):TyOf K H (.str x) (.type "str")
 | flt (x:UInt64):TyOf K H (.flt x) (.type "float")
 | lst {a:Addr} {xs:List V} (e:H a=some (.lst xs)):TyOf K H (.ref a) (.type "list")
 | frz {a:Addr} {o:Obj} {xs:List V} (e:H a=some (.frz o (.lst xs))):TyOf K H (.ref a) (.type "list")
 | tup {a:Addr} {xs:List V} (e:H a=some (.tup xs)):TyOf K H (.ref a) (.type "tuple")
 | dK {a:Addr} {kvs:List (Key×V)} (e:Rd H a (.dK kvs)):TyOf K H (.ref a) (.type "dict")
 | dT {a:Addr} {kvs:List (List Key×V)} (e:Rd H a (.dT kvs)):TyOf K H (.ref a) (.type "dict")
 | ins {a C dx:Addr} {fs:List (Str×V)} (e:H a=some (.ins C dx fs)) (cl:Cls K C) (ha:W.findIn K (.ref C) "__class__" = some (some (.builtin "object.__class__")))
   (hn:W.specialIn K (.builtin "object.__class__") "__get__" = some (some (.builtin "getset_descriptor.__get__"))) (htk:W.takesIn K (.builtin "object.__class__")=some true)
   (hm:W.mroIn K C (.type "object")=some true):TyOf K H (.ref a) (.ref C)
theorem zn8{x:V}{u t:Value}(I:Inv X zj σ H s)(rx:RelV x u)(ty:TyOf X.K H x t)(e:W.kitOne X.K t c=some b)(h:∀ tk,Q (.bool b) { s with toks:=tk }):
  wpAny (model X.prog X.w) A (call (.builtin "isinstance") [u,c]) Q E s:=by
 cases ty with
 | non=>cases (show u=Value.none from rx); exact W.kia_one W.kitx_none I.kIn True.intro e (fun z=>nomatch z) h
 | bl y=>cases (show u=Value.bool y from rx); exact W.kia_one W.kitx_bool I.kIn True.intro e (fun z=>nomatch z) h
 | int i=>obtain⟨t,q⟩:=(show ∃ t,u=Value.int i t from rx); cases q; exact W.kia_one W.kitx_int I.kIn True.intro e (fun z=>nomatch z) h
 | str y=>obtain⟨t,q⟩:=(show ∃ t,u=Value.str y t from rx); cases q; exact W.kia_one W.kitx_str I.kIn True.intro e (fun z=>nomatch z) h
 | flt y=>obtain⟨t,q⟩:=(show ∃ t,u=Value.float y t from rx); cases q; exact W.kia_one W.kitx_float I.kIn True.intro e (fun z=>nomatch z) h
 | @lst a xs ea =>
  cases (show u=Value.ref a from rx);obtain⟨_,_,n,_,h1⟩:=(show ObjOk X.prog X.w H s.heap a (.lst xs) from I.hok a _ ea);exact W.kia_one W.kitx_list I.kIn ⟨_,h1,rfl⟩ e (fun z=>nomatch z) h
 | @frz a ob xs ea =>
  cases (show u=Value.ref a from rx);obtain⟨_,_,_,n,_,h1⟩:=(show ObjOk X.prog X.w H s.heap a (.frz ob (.lst xs)) from I.hok a _ ea);exact W.kia_one W.kitx_list I.kIn ⟨_,h1,rfl⟩ e (fun z=>nomatch z) h
 | @tup a xs ea =>
  cases (show u=Value.ref a from rx);obtain⟨_,_,_,p⟩:=(show ObjOk X.prog X.w H s.heap a (.tup xs) from I.hok a _ ea);obtain⟨o,h1,h2,_⟩:=p;exact W.kia_one W.kitx_tuple I.kIn ⟨o,h1,h2⟩ e (fun z=>nomatch z) h
 | @dK a kvs ea =>
  cases (show u=Value.ref a from rx);obtain⟨_,_,vs,_,p⟩:=(show ObjOk X.prog X.w H s.heap a (.dK kvs) from ea.ok I.hok);obtain⟨o,es,ep,h1,h2,_⟩:=p;exact W.kia_one W.kitx_dict I.kIn ⟨o,h1,h2.1⟩ e (fun z=>nomatch z) h
 | @dT a kvs ea =>
  cases (show u=Value.ref a from rx);obtain⟨_,_,xs,_,o,es,ep,h1,h2,_⟩:=(show ObjOk X.prog X.w H s.heap a (.dT kvs) from ea.ok I.hok);exact W.kia_one W.kitx_dict I.kIn ⟨o,h1,h2.1⟩ e (fun z=>nomatch z) h
 | @ins a C dx fs ea cl ha hn htk hm =>
  cases (show u=Value.ref a from rx);obtain⟨mA,O,_⟩:=zq4 I.hok ea;obtain⟨od,J,_⟩:=O.look;exact W.kia_one (W.kitx_own (cl.get _) cl.hd ha hn htk hm) I.kIn J e (fun z=>nomatch z) h
end
end
section
structure Room(k:Nat)(A:Around):Prop where
 hd:A.handled=none
 dp:A.depth+3*k+5<recursionLimit
 un:A.units+16*k+200<cLine
theorem Room.mono{j k:Nat}{A:Around}(r:Room k A)(h:j<=k):Room j A:=⟨r.hd,by have:=r.dp; omega,by have:=r.un; omega⟩
theorem Room.deeper{k:Nat}{A:Around}(r:Room (k+1) A)(env:Env):Room k (A.deeper env) :=
 ⟨r.hd,by have:=r.dp; show A.depth+1+3*k+5<_; omega,by have:=r.un; show A.units+3+16*k+200<_; omega⟩
theorem Room.in1{k:Nat}{A:Around}(r:Room (k+1) A):Room k A.in1 :=
 ⟨r.hd,by have:=r.dp; show A.depth+3*k+5<_; omega,by have:=r.un; show A.units+1+16*k+200<_; omega⟩
theorem zmg{A:Around}{C:Addr}{us:List Value}{kw:List (Str×Value)}:(A.under (.builtin "type.__call__" ⟨.ref C :: us,kw⟩)).depth=A.depth+1:=by
 first | rfl | simp [Around.under,Code.weight,Code.isCreation,Code.isGuard,Code.isCaller,Code.frames,Code.isFrame,guardIds]
theorem zlG{A:Around}{C:Addr}{us:List Value}{kw:List (Str×Value)}:(A.under (.builtin "type.__call__" ⟨.ref C :: us,kw⟩)).units=A.units+1:=by
 first | rfl | simp [Around.under,Code.cUnits,Code.frames,Code.isFrame]
theorem Room.make{k:Nat}{A:Around}(r:Room (k+1) A)(C:Addr)(us:List Value)(kw:List (Str×Value)):Room k (A.under (.builtin "type.__call__" ⟨.ref C :: us,kw⟩)) :=
 ⟨r.hd,by have:=r.dp; rw [zmg]; omega,by have:=r.un; rw [zlG]; omega⟩
theorem Room.depth{k:Nat}{A:Around}(r:Room k A):A.depth<recursionLimit:=by have:=r.dp; omega
theorem Room.units{k:Nat}{A:Around}(r:Room k A):A.units+64<cLine:=by have:=r.un; omega
def zsb:TA:=fun _ H Q=>Q [] H
def zgm(ta:TE)(tr:TA):TA:=fun σ H Q=>ta σ H fun x H1=>tr σ H1 fun xs H2=>Q (x :: xs) H2
section
variable {X:Cx} {e:Expr} {es:List Expr} {te:TE} {t:TA} {pos:Pos}
theorem zc:PA X [] zsb:=fun _ _ _ _ H Q I h=>Calls.spliced_nil ⟨[],H,I,.nil,h⟩
theorem za(ha:PE X e te)(hr:PA X es t)(hs:starEach (e :: es) X.env=(false,eval e X.env) :: starEach es X.env:=by rfl):PA X (e :: es) (zgm te t):=by
 intro pos zj s σ H Q I h;rw [hs];show wpAny _ _ (spliced ((false,eval e X.env) :: backTo pos (starEach es X.env))) _ _ s;refine Calls.spliced_cons (thn (ha zj s σ H _ I h) fun u s1 ⟨x,H1,I1,r1,q1⟩=>?_);exact thn (hr pos zj s1 σ H1 _ I1 q1) fun us s2 ⟨xs,H2,I2,r2,q2⟩=>⟨x :: xs,H2,I2,.cons r1 r2,q2⟩
def zuo(t:TA):TE:=fun σ H Q=>t σ H fun xs H1=>xs.length<=sizeLine/\∀ p,H1 p=none->Q (.ref p) (upd H1 p (.tup xs))
def zsj(t:TA):TE:=fun σ H Q=>t σ H fun xs H1=>xs.length<=sizeLine/\∀ p,H1 p=none->Q (.ref p) (upd H1 p (.lst xs))
theorem zU{x1}(h:PA X es t):PE X (.Tuple es x1 pos) (zuo t):=by
 intro zj s σ H Q I hq;refine wpAny_Tuple_spliced (thn (h pos zj s σ H _ I hq) fun us s1 ⟨xs,H1,I1,r,z,q⟩=>⟨by rw [<- r.length]; exact z,?_⟩);have hf:H1 s1.heap.objs.size=none:=I1.hok.fresh (le_refl _);refine⟨.ref s1.heap.objs.size,upd H1 s1.heap.objs.size (.tup xs),I1.laid (t':=s1.toks) (fun b u e=>get?_push_of_some _ e) (le_refl _) ?_,rfl,q _ hf⟩;exact⟨⟨z,_,get?_push_size _ rfl,rfl⟩,us,r,⟨_,get?_push_size _ rfl,rfl,_,rfl⟩⟩
theorem zay(h:PA X es t):PE X (.List es pos) (zsj t):=by
 intro zj s σ H Q I hq;refine wpAny_List_spliced (thn (h pos zj s σ H _ I hq) fun us s1 ⟨xs,H1,I1,r,z,q⟩=>⟨by rw [<- r.length]; exact z,?_⟩);have hf:H1 s1.heap.objs.size=none:=I1.hok.fresh (le_refl _);refine⟨.ref s1.heap.objs.size,upd H1 s1.heap.objs.size (.lst xs),I1.laid (t':=s1.toks) (fun b u e=>get?_push_of_some _ e) (le_refl _) ?_,rfl,q _ hf⟩;exact⟨z,us,0,r,get?_push_size _ rfl⟩
end
abbrev Sp:=List V->Hp->VK->XK->Prop
abbrev CXT:=List Env->Hp->Shared->XK->Value->Shared->Prop
structure Env0(P:Program)(w:World)(K:W.Frag)(mg:Str->Option Value)(base:Heap)(A:Around)(outer:List Env)(s:Shared)(H:Hp):Prop where
 frames:A.frames=some outer
 mod:Mod K mg base
 bs:∀ b o,base.get? b=some o->s.heap.get? b=some o/\H b=none
 bsz:base.objs.size<=s.heap.objs.size
 funs:s.heap.FunFrames base outer
 frf:Frf (frs outer) H
 hok:HOk P w H s.heap
 bare:AllBare s.gens
def CE(outer:List Env)(P:Program)(w:World)(H:Hp)(s:Shared)(Q:VK)(u:Value)(s':Shared):Prop :=
 ∃ v H',s'.os=s.os/\AllBare s'.gens/\Un (frs outer) [] H H' s.heap s'.heap/\HOk P w H' s'.heap/\RelV v u/\Q v H'
def CR(CX:CXT)(outer:List Env)(P:Program)(w:World)(H:Hp)(s:Shared)(Q:VK)(E:XK)(r:Result)(s':Shared):Prop :=
 match r with
 | .ok (.ret u)=>CE outer P w H s Q u s'
 | .ok _=>False
 | .error e=>CX outer H s E e s'
structure FnOk(P:Program)(w:World)(K:W.Frag)(mg:Str->Option Value)(base:Heap)(CX:CXT)(k:Nat)(f:Addr)(fd:FuncData)(ps:List Str)(sp:Sp):Prop where
 len:∀ vs H Q E,sp vs H Q E->vs.length=ps.length
 run:∀ (A:Around) (outer:List Env) (s:Shared) (H:Hp) (args:Args) (us:List Value) (vs:List V) (Q:VK) (E:XK),Room k A->Env0 P w K mg base A outer s H->BindsTo s fd args (ps.zip us)->Vals vs us->sp vs H Q E ->
  codeAny (model P w) A (.call (.ref f) args) (CR CX outer P w H s Q E) s
theorem Env0.make{P:Program}{w:World}{K:W.Frag}{mg:Str->Option Value}{base:Heap}{A:Around}{outer:List Env}{s:Shared}{H:Hp}(e:Env0 P w K mg base A outer s H)(C:Addr)(us:List Value)(kw:List (Str×Value)):
  Env0 P w K mg base (A.under (.builtin "type.__call__" ⟨.ref C :: us,kw⟩)) outer s H:=⟨by first | exact e.frames | (simpa [Around.under,Code.envs,Code.isFrame,pushEnvs] using e.frames),e.mod,e.bs,e.bsz,e.funs,e.frf,e.hok,e.bare⟩
theorem Env0.in1{P:Program}{w:World}{K:W.Frag}{mg:Str->Option Value}{base:Heap}{A:Around}{outer:List Env}{s:Shared}{H:Hp}(e:Env0 P w K mg base A outer s H):
  Env0 P w K mg base A.in1 outer s H:=⟨e.frames,e.mod,e.bs,e.bsz,e.funs,e.frf,e.hok,e.bare⟩
section
variable {X:Cx} {zj:List (Addr×Obj)} {σ:St} {H:Hp} {s s':Shared}
theorem Inv.env0(I:Inv X zj σ H s):Env0 X.prog X.w X.K X.mg X.base X.A X.stack s H :=
 ⟨I.ok.frames,I.ok.mod,I.bs,le_trans I.ok.bsz I.sz,I.stack,I.stkFree,I.hok,I.bare⟩
theorem Inv.after{Q:VK}{u:Value}(I:Inv X zj σ H s)(h:CE X.stack X.prog X.w H s Q u s'):EP X zj σ Q u s':=by
 obtain⟨v,H',os,bare,un,hok,r,q⟩:=h;obtain⟨hh,g,d,t,os'⟩:=s';obtain rfl:os'=s.os:=os;exact⟨v,H',I.call (h':=hh) (g':=g) (d':=d) (t':=t) (ch:=[]) un hok bare (fun b z=>absurd z (by simp)),r,q⟩
end
def zgu(sp:Sp)(dvs:List V)(E:XK)(t:TA):TE:=fun σ H Q=>t σ H fun vs H1=>sp (vs++dvs) H1 Q E
def Binds(K:W.Frag)(fd:FuncData)(ps:List Str)(ds:List Value):Prop :=
 ∀ (s:Shared) (us:List Value),K.In s.heap->(us++ds).length=ps.length->BindsTo s fd ⟨us,[]⟩ (ps.zip (us++ds))
theorem Binds.all{K:W.Frag}{fd:FuncData}{ps:List Str}(h:∀ us:List Value,us.length=ps.length->bindArgs fd ⟨us,[]⟩=pure (ps.zip us)):Binds K fd ps []:=fun s us _ hl=>by
 rw [append_nil] at hl ⊢;exact .of_eq (h us hl)
def Passes(CX:CXT)(X:Cx)(E:XK):Prop:=∀ (zj:List (Addr×Obj)) (σ:St) (H:Hp) (s:Shared) (e:Value) (s':Shared),Inv X zj σ H s->CX X.stack H s E e s'->X.xe e s'
section
variable {X:Cx} {CX:CXT} {k:Nat} {f C:Addr} {fd:FuncData} {ps:List Str} {sp:Sp} {dvs:List V} {ds:List Value} {E:XK} {x m:Str} {p pos apos:Pos} {e o:Expr} {es:List Expr} {ta:TE} {t:TA}
theorem zs7{zj:List (Addr×Obj)}{σ:St}{H:Hp}{s:Shared}{Q:VK}{us:List Value}{vs:List V}(F:FnOk X.prog X.w X.K X.mg X.base CX k f fd ps sp)(hr:Room k X.A)(hb:Binds X.K fd ps ds)(hd:Vals dvs ds)(hx:Passes CX X E)
  (I:Inv X zj σ H s) (r:Vals vs us) (h:sp (vs++dvs) H Q E):wpAny (model X.prog X.w) X.A (call (.ref f) us) (EP X zj σ Q) X.xe s:=by
 have r2:Vals (vs++dvs) (us++ds):=r.append hd;have hl:(us++ds).length=ps.length:=by rw [<- r2.length]; exact F.len _ _ _ _ h
 refine wpAny_call (codeAny_mono (F.run X.A X.stack s H ⟨us,[]⟩ (us++ds) (vs++dvs) Q E hr I.env0 (hb s us I.kIn hl) r2 h) fun r s' hq=>?_);cases r with
 | error e=>exact hx zj σ H s e s' I hq
 | ok fl =>
  cases fl with
  | ret u=>exact I.after hq
  | next=>exact False.elim hq
  | brk=>exact False.elim hq
  | cont=>exact False.elim hq
theorem zj5(F:FnOk X.prog X.w X.K X.mg X.base CX k f fd ps sp)(hr:Room k X.A)(hg:Gl X x)(hm:X.mg x=some (.ref f))(hk:W.keepIn X.K (.ref f)=true)(hb:Binds X.K fd ps ds)(hd:Vals dvs ds)(hx:Passes CX X E)
  (ha:PA X (e :: es) t) (hdb:(x == ("__debug__":Str))=false:=by decide) (he:starEach (e :: es) X.env=(false,eval e X.env) :: starEach es X.env:=by rfl) (hpl:(backTo pos (starEach es X.env)).any (·.1)=false:=by rfl) :
  PE X (.Call (.Name x p) (e :: es) [] pos) (zgu sp dvs E t):=by
 intro zj s σ H Q I h;refine wpAny_Call_Name_kw (zfj I hg hm ?_ hdb);refine W.callWith_K (h₀:=X.base) I.ok.mod.kin hk (thn (ha pos zj s σ H _ I h) fun us s1 ⟨vs,H1,I1,r,q⟩=>⟨I1.kIn,?_⟩) he hpl;exact zs7 F hr hb hd hx I1 r q
end
structure FnScope(N P:List Str)(sc:Scope):Prop where
 kind:sc.kind=.function
 co:sc.isCoroutine=false
 gen:sc.isGenerator=false
 nd:N.Nodup
 pre:N.take P.length=P
 par:∀ x∈P,sc.names.lookup x=some .local\/sc.names.lookup x=some .cell
 nofree:∀ y∈sc.names,y.2≠.free
theorem ziL{kindOf:Str->Option NameKind}{x:Str}:∀ {binds:List (Str×Value)} {m:Str->Option Value},(∀ v,(x,v)∉binds)->bindL kindOf binds m x=m x
 | [],_,_=>rfl
 | (n,v) :: r,m,h=>by
  unfold bindL;rw [ziL fun w hw=>h w (mem_cons_of_mem _ hw)];split
  ·have:x≠n:=by rintro rfl; exact h v mem_cons_self
   simp [this]
  ·rfl
theorem zjR{kindOf:Str->Option NameKind}{x:Str}:∀ {binds:List (Str×Value)} {m:Str->Option Value},(∀ v,(x,v)∉binds)->bindC kindOf binds m x=m x
 | [],_,_=>rfl
 | (n,v) :: r,m,h=>by
  unfold bindC;rw [zjR fun w hw=>h w (mem_cons_of_mem _ hw)];split
  ·rfl
  ·have:x≠n:=by rintro rfl; exact h v mem_cons_self
   simp [this]
theorem zi7{kindOf:Str->Option NameKind}{x:Str}{v:Value}:∀ {P:List Str} {vs:List Value} {i:Nat} {m:Str->Option Value},P.Nodup->P[i]? = some x->vs[i]? = some v->kindOf x=some .local ->
  bindL kindOf (P.zip vs) m x=some v
 | [],_,_,_,_,h,_,_=>by simp at h
 | _ :: _,[],_,_,_,_,h,_=>by simp at h
 | p :: P,w :: vs,0,m,nd,h1,h2,hk=>by
  simp at h1 h2; subst h1; subst h2;show bindL kindOf ((p,w) :: P.zip vs) m p=_;unfold bindL;rw [ziL fun v hv=>(nodup_cons.mp nd).1 (of_mem_zip hv).1,if_pos hk];simp
 | p :: P,w :: vs,i+1,m,nd,h1,h2,hk=>by
  show bindL kindOf ((p,w) :: P.zip vs) m x=_;unfold bindL;exact zi7 (i:=i) (nodup_cons.mp nd).2 (by simpa using h1) (by simpa using h2) hk
theorem zjE{kindOf:Str->Option NameKind}{x:Str}{v:Value}:∀ {P:List Str} {vs:List Value} {i:Nat} {m:Str->Option Value},P.Nodup->P[i]? = some x->vs[i]? = some v->kindOf x≠some .local ->
  bindC kindOf (P.zip vs) m x=some v
 | [],_,_,_,_,h,_,_=>by simp at h
 | _ :: _,[],_,_,_,_,h,_=>by simp at h
 | p :: P,w :: vs,0,m,nd,h1,h2,hk=>by
  simp at h1 h2; subst h1; subst h2;show bindC kindOf ((p,w) :: P.zip vs) m p=_;unfold bindC;rw [zjR fun v hv=>(nodup_cons.mp nd).1 (of_mem_zip hv).1,if_neg hk];simp
 | p :: P,w :: vs,i+1,m,nd,h1,h2,hk=>by
  show bindC kindOf ((p,w) :: P.zip vs) m x=_;unfold bindC;exact zjE (i:=i) (nodup_cons.mp nd).2 (by simpa using h1) (by simpa using h2) hk
def start(N:List Str)(vs:List V):St:=vs.map some++List.replicate (N.length - vs.length) none
def zgI(CX:CXT)(P:Program)(w:World)(K:W.Frag)(mg:Str->Option Value)(base:Heap)(N:List Str)(qual:Str)(scope:Scope)(f:Addr)(cd:Value)(A:Around)(outer:List Env)(s:Shared)(H:Hp)(E:XK):Cx where
 prog:=P
 w:=w
 K:=K
 mg:=mg
 base:=base
 A:=A.deeper (envOfC qual scope s.heap.objs.size f cd)
 N:=N
 s₀:=s
 H₀:=H
 env:=envOfC qual scope s.heap.objs.size f cd
 outer:=outer
 stack:=envOfC qual scope s.heap.objs.size f cd :: outer
 ex:=[]
 calm:=true
 fn:=fun _=>true
 pn:=[]
 xe:=fun e s'=>wpAny (model P w) (A.deeper (envOfC qual scope s.heap.objs.size f cd)) (leaving (envOfC qual scope s.heap.objs.size f cd) e) (fun _ s''=>CX outer H s E e s'') (fun e' s''=>CX outer H s E e' s'') s'
theorem zkM{sc:Scope}{n:Nat}{x:Str}(h:sc.names.lookup x=some .cell):∃ c,(cellsFrom n sc.names []).lookup x=some c:=by
 have q:=W.cellsFrom_some sc.names n [] (.inl h);exact isSome_iff_exists.mp q
theorem zgG{CX:CXT}{P:Program}{w:World}{K:W.Frag}{mg:Str->Option Value}{base:Heap}{N ps:List Str}{qual:Str}{scope:Scope}{f:Addr}{cd:Value}{A:Around}{outer:List Env}{s s1:Shared}{H:Hp}{E:XK}{us:List Value}{vs:List V}
  (S:FnScope N ps scope) (hd:A.handled=none) (e0:Env0 P w K mg base A outer s H) (hl:vs.length=ps.length) (r:Vals vs us)
  (x:InCallC s s.heap.objs.size (bindL (envOfC qual scope s.heap.objs.size f cd).kindOf (ps.zip us) fun _=>none) (cellsFrom (s.heap.objs.size+1) scope.names []) (bindC (envOfC qual scope s.heap.objs.size f cd).kindOf (ps.zip us) fun _=>none) s1) :
  Inv (zgI CX P w K mg base N qual scope f cd A outer s H E) [] (start N vs) H s1:=by
 have hpl:ps.length<=N.length:=by have:=congrArg List.length S.pre; rw [length_take] at this; omega
 obtain⟨h1,tk,rfl,hk⟩:=x.done;have noA:∀ b:Addr,b∉(zgI CX P w K mg base N qual scope f cd A outer s H E).ex:=fun b z=>absurd (show b∈([]:List Addr) from z) (by simp);refine⟨⟨e0.mod,S.kind,rfl,rfl,le_refl _,fun y z c h1 h2=>?_,fun y hy=>?_,fun y c _ h=>?_,fun _=>hd,Around.frames_deeper e0.frames,.inr ⟨rfl,rfl⟩,fun b z=>absurd z (noA b),e0.bs,e0.bsz,fun b _ _=>noA b,fun b z=>absurd z (noA b),e0.funs,e0.frf⟩,
  rfl,e0.bare,Un.kept hk,⟨_,x.toInCall.ns,fun i y v h1 h2 h3=>?_⟩,fun y c h=>⟨_,x.cell y c h⟩,e0.hok.fresh (le_refl _),fun y c h=>?_,fun p hp=>absurd (show p∈([]:List (Addr×Obj)) from hp) (by simp),e0.hok.kept hk,?_⟩
 ·exact name_of_addr x.apart (PySem.mem_of_lookup h1) (PySem.mem_of_lookup h2)
 ·have hy:scope.names.lookup y=some .cell\/scope.names.lookup y=some .free:=hy;rcases hy with hy | hy
  ·exact zkM hy
  ·exact absurd rfl (S.nofree _ (PySem.mem_of_lookup hy))
 ·exact le_of_lt (x.above y c (PySem.mem_of_lookup h))
 ·have hi:i<vs.length:=by
   unfold start at h2;by_cases hi:i<vs.length
   ·exact hi
   ·rw [getElem?_append_right (by simpa using hi)] at h2;rw [List.getElem?_replicate] at h2;split at h2 <;> cases h2
  have ha:vs[i]? = some v:=by
   unfold start at h2;rw [getElem?_append_left (by simpa using hi),getElem?_map] at h2;cases e:vs[i]? with
   | none=>rw [e] at h2; cases h2
   | some a=>rw [e] at h2; cases h2; rfl
  obtain⟨u,hu,rv⟩:=r.get ha;have hp:ps[i]? = some y:=by
   rw [<- S.pre,List.getElem?_take_of_lt (by omega)]; exact h1
  have ndP:ps.Nodup:=by rw [<- S.pre]; exact S.nd.sublist (List.take_sublist _ _)
  refine⟨u,rv,?_⟩;rcases S.par y (mem_of_getElem? hp) with k | k
  ·exact .inl ⟨k,zi7 ndP hp hu k⟩
  ·obtain⟨c,e⟩:=zkM (n:=s.heap.objs.size+1) k;refine .inr ⟨.inl k,c,e,?_⟩;have q:=x.cell y c e;rw [zjE ndP hp hu (by show scope.names.lookup y≠_; rw [k]; decide)] at q;exact q
 ·exact e0.hok.fresh (le_of_lt (x.above y c (PySem.mem_of_lookup h)))
 ·unfold start;show _=N.length;rw [length_append,length_map,List.length_replicate];omega
theorem zoD{CX:CXT}{P:Program}{w:World}{K:W.Frag}{mg:Str->Option Value}{base:Heap}{k:Nat}{f:Addr}{name qual:Str}{params:Arguments}{body:List Stmt}{scope:Scope}{dV kV doc pm cdv ct oc:Value}{an od:Option Addr}
  {osl:Array (Option Value)} {N ps:List Str} {sp:Sp} (lk:K.lookup f=some ⟨oc,od,.func (W.fnOf name qual params body scope dV kV doc pm an cdv ct),osl⟩) (hcd:W.codeIn K cdv qual=true) (S:FnScope N ps scope)
  (len:∀ vs H Q E,sp vs H Q E->vs.length=ps.length)
  (hbody:∀ (A:Around) (outer:List Env) (s:Shared) (H:Hp) (vs:List V) (Q:VK) (E:XK),Room k (A.deeper (envOfC qual scope s.heap.objs.size f cdv))->sp vs H Q E ->
   ∃ t,PSs (zgI CX P w K mg base N qual scope f cdv A outer s H E) body t/\t { nx:=fun _ H'=>Q .non H',rt:=Q } (start N vs) H) :
  FnOk P w K mg base CX (k+1) f (W.fnOf name qual params body scope dV kV doc pm an cdv ct) ps sp:=by
 refine⟨len,fun A outer s H args us vs Q E hr e0 hb r hsp=>?_⟩;have hl:=len _ _ _ _ hsp;have KX:K.In s.heap:=e0.mod.kin.keeps fun b o e=>(e0.bs b o e).1;have lim:s.heap.NoLimit:=e0.mod.nolimit.keeps fun b o e=>(e0.bs b o e).1;have hkind:∀ y∈ps.zip us,scope.names.lookup y.1=some .local\/(scope.names.lookup y.1=some .cell/\((cellsFrom (s.heap.objs.size+1) scope.names []).lookup y.1).isSome=true):=fun⟨n,v⟩ hy=>by
  rcases S.par n (of_mem_zip hy).1 with q | q
  ·exact .inl q
  ·exact .inr ⟨q,W.cellsFrom_some _ _ _ (.inl q)⟩
 refine codeAny_call_function hr.depth (KX _ _ lk) rfl S.co S.gen rfl (W.codeRec_of KX hcd) (hb _ _ _ _ ?_);refine wpAny_newFunctionEnv_cells S.kind hkind fun env he s1 x=>?_;subst he;refine⟨lim.keeps x.toInCall.keep,codeAny_func ?_⟩;obtain⟨t,ht,hq⟩:=hbody A outer s H vs Q E (hr.deeper _) hsp;have I:Inv (zgI CX P w K mg base N qual scope f cdv A outer s H E) [] (start N vs) H s1:=zgG S hr.hd e0 hl r x;refine wpAny_mono (ht [] s1 (start N vs) H _ I hq) (fun fl s' hs=>?_) fun e s' hs=>hs;have fin:∀ {σ':St} {H':Hp} {v:V} {u:Value},Inv (zgI CX P w K mg base N qual scope f cdv A outer s H E) [] σ' H' s'->RelV v u->Q v H'->CE outer P w H s Q u s' :=
  fun {σ' H' v u} J rv q=>⟨v,H',J.os,J.bare,J.base,J.hok,rv,q⟩
 cases fl with
 | ret u =>
  obtain⟨v,σ',H',J,rv,q⟩:=hs;exact fin J rv q
 | next =>
  obtain⟨σ',H',J,q⟩:=hs;exact fin (v:=V.non) (u:=Value.none) J rfl q
 | brk =>
  obtain⟨_,_,_,q⟩:=hs;exact False.elim q
 | cont =>
  obtain⟨_,_,_,q⟩:=hs;exact False.elim q
end
section
section
variable {X:Cx} {x:Str} {p pos:Pos} {e:Expr} {es:List Expr} {t:TA} {id T:String} {r:List V->Hp->VK->Prop}
def tCB(r:List V->Hp->VK->Prop)(t:TA):TE:=fun σ H Q=>t σ H fun vs H1=>r vs H1 Q
theorem zx(hc:CallR X (.builtin id) r)(hg:Gl X x)(hm:X.mg x=none)(hv:bootBuiltins x=some (.builtin id))(ha:PA X (e :: es) t)(hn:x ≠ "__name__":=by decide)(hdb:(x == ("__debug__":Str))=false:=by decide)
  (he:starEach (e :: es) X.env=(false,eval e X.env) :: starEach es X.env:=by rfl) (hpl:(backTo pos (starEach es X.env)).any (·.1)=false:=by rfl):PE X (.Call (.Name x p) (e :: es) [] pos) (tCB r t):=by
 intro zj s σ H Q I h;refine wpAny_Call_Name_kw (zdS I hg hm hv ?_ hn hdb);exact PyProof.Rows.callWith_builtin1 (thn (ha pos zj s σ H _ I h) fun us s1 ⟨vs,H1,I1,r1,q1⟩=>hc zj s1 σ H1 vs us Q I1 r1 q1) he hpl
theorem zW(hc:CallR X (.type T) r)(hg:Gl X x)(hm:X.mg x=none)(hv:bootBuiltins x=some (.type T))(ha:PA X (e :: es) t)(hn:x ≠ "__name__":=by decide)(hdb:(x == ("__debug__":Str))=false:=by decide)
  (he:starEach (e :: es) X.env=(false,eval e X.env) :: starEach es X.env:=by rfl) (hpl:(backTo pos (starEach es X.env)).any (·.1)=false:=by rfl):PE X (.Call (.Name x p) (e :: es) [] pos) (tCB r t):=by
 intro zj s σ H Q I h;refine wpAny_Call_Name_kw (zdS I hg hm hv ?_ hn hdb);exact PyProof.Rows.callWith_type1 (thn (ha pos zj s σ H _ I h) fun us s1 ⟨vs,H1,I1,r1,q1⟩=>hc zj s1 σ H1 vs us Q I1 r1 q1) he hpl
end
end
end L2
namespace HT
open PySem PyProof.Rows
def lexLt:List Int->List Int->Bool
 | [],[]=>false
 | [],_ :: _=>true
 | _ :: _,[]=>false
 | x :: xs,y :: ys=>if x=y then lexLt xs ys else decide (x<y)
theorem lexLt_cons(x y:Int)(xs ys:List Int):lexLt (x :: xs) (y :: ys)=if x=y then lexLt xs ys else decide (x<y):=rfl
theorem zh4:lexLt [] []=false:=rfl
theorem zgX(y:Int)(ys:List Int):lexLt [] (y :: ys)=true:=rfl
theorem zha(x:Int)(xs:List Int):lexLt (x :: xs) []=false:=rfl
theorem zk5(A:Around)(s:Shared)(a:Int)(t:Tok)(c:Int)(u:Tok):∃ e,SeqAt.EqAt A s (.int a t) (.int c u) e/\(e=true↔a=c) :=
 ⟨(a == c),SeqAt.EqAt.int_int a t c u,by simp⟩
theorem zlm(A:Around)(s:Shared)(a:Int)(t:Tok)(c:Int)(u:Tok)(prog:Program)(w:World)(E:Value->Shared->Prop)(Q:Value->Shared->Prop)(h:Q (.bool (decide (a<c))) s):
  wpAny (model prog w) A (richCompare .Lt (.int a t) (.int c u)) Q E s :=
 (PyProof.Rows.lt_int h:wpAny (model prog w) A (compareOp .Lt (.int a t) (.int c u)) Q E s)
section
open PySem.SeqAt
open PySem.AutoSeq1 (wpAny_loadPart')
open PySem.MeetsSeq PySem.MeetsSeq2 PySem.MeetsSeq3
theorem zhS(l b:Addr)(items items2:Array Value)(n n2:Nat)(dd dd2:Option Addr)(sl sl2:Array (Option Value))(ns ms:List Int)(hi:IntsAre items.toList ns)(hj:IntsAre items2.toList ms):
  Meets (Builtin.«tuple.__lt__» ⟨[.ref l,.ref b],[]⟩)
   (fun _ R s=>s.heap.get? l=some { cls:=.type "tuple",dict:=dd,data:=.seq items n,slots:=sl }/\s.heap.get? b=some { cls:=.type "tuple",dict:=dd2,data:=.seq items2 n2,slots:=sl2 } /\
    R (.ok (.ret (.bool (lexLt ns ms)))) s) :=
 .of_wp fun prog w A R s h=>by
  obtain⟨hp,g,d,tk,os⟩:=s; obtain⟨hl,hb,h⟩:=h;have f2:=AutoSeq1.sub_tuple_tuple;have z1:items.size=ns.length:=by rw [<- hi.length]; simp
  have z2:items2.size=ms.length:=by rw [<- hj.length]; simp
  wp_walk using wpAny_loadPart' hl,wpAny_loadPart' hb,wpAny_forIn_list _ (fun rest b s'=>b.1=none/\s'=⟨hp,g,d,tk,os⟩/\∃ (vs ws:List Value) (ns' ms':List Int),rest=vs.zip ws /\
   IntsAre vs ns'/\IntsAre ws ms'/\ns'.length+items2.size=ms'.length+items.size/\R (.ok (.ret (.bool (lexLt ns' ms')))) ⟨hp,g,d,tk,os⟩) _
  case turn =>
   rintro⟨y,x⟩ rest b s' ⟨hb',rfl,vs,ws,ns',ms',hz,hvi,hwi,hlen,hR⟩;cases hvi with
   | nil=>rw [List.zip_nil_left] at hz; cases hz
   | cons a t hvi' =>
    cases hwi with
    | nil=>rw [List.zip_nil_right] at hz; cases hz
    | cons c u hwi' =>
     rw [zip_cons_cons] at hz;injection hz with hyx hrest
     injection hyx with hy hx
     subst hy hx;rw [lexLt_cons] at hR;simp only [length_cons] at hlen;obtain⟨e,he,hiff⟩:=zk5 A.in1 ⟨hp,g,d,tk,os⟩ a t c u;refine wpAny_bind (he prog w _ _ ?_);cases e with
     | true =>
      rw [if_pos (hiff.mp rfl)] at hR
      wp_walk
      exact⟨rfl,rfl,_,_,_,_,hrest,hvi',hwi',by omega,hR⟩
     | false =>
      rw [if_neg (fun q=>absurd (hiff.mpr q) Bool.false_ne_true)] at hR;have hri:=zlm A.in1 ⟨hp,g,d,tk,os⟩ a t c u prog w
      wp_walk using hri
      exact⟨_,rfl,by simpa using hR⟩
  case fin =>
   rintro⟨b1,b2⟩ s' ⟨hb',rfl,vs,ws,ns',ms',hz,hvi,hwi,hlen,hR⟩;simp only at hb';subst hb';have hv:lexLt ns' ms'=decide (items.size<items2.size):=by
    cases hvi with
    | nil =>
     cases hwi with
     | nil =>
      simp only [length_nil] at hlen;rw [zh4];exact(decide_eq_false (by omega)).symm
     | cons c u hw =>
      simp only [length_nil,length_cons] at hlen;rw [zgX];exact(decide_eq_true (by omega)).symm
    | cons a t hv =>
     cases hwi with
     | nil =>
      simp only [length_nil,length_cons] at hlen;rw [zha];exact(decide_eq_false (by omega)).symm
     | cons c u hw =>
      rw [zip_cons_cons] at hz;cases hz
   rw [hv] at hR
   wp_walk
   exact⟨_,rfl,by simpa [Builtin.Tuple.tupleCompareSizes] using hR⟩
  case h =>
   exact⟨rfl,rfl,items.toList,items2.toList,ns,ms,rfl,hi,hj,by omega,h⟩
end
section
variable {prog:Program} {w:World} {A:Around} {E:Value->Shared->Prop} {s:Shared}
theorem lt_tupInts{l b:Addr}{items items2:Array Value}{ns ms:List Int}{Q:Value->Shared->Prop}(hl:IsTup s.heap l items)(hb:IsTup s.heap b items2)(hi:IntsAre items.toList ns)(hj:IntsAre items2.toList ms)
  (hu:A.units<cLine) (h:Q (.bool (lexLt ns ms)) s):wpAny (model prog w) A (compareOp .Lt (.ref l) (.ref b)) Q E s:=by
 obtain⟨⟨cls,dd,data,sl⟩,ho,hc,n,hd⟩:=id hl;obtain⟨⟨cls2,dd2,data2,sl2⟩,ho2,hc2,n2,hd2⟩:=id hb;simp only at hc hd hc2 hd2;subst hc hd hc2 hd2;exact richCompare_meets_room (op:=.Lt) ⟨_,ho,rfl⟩ ⟨_,ho2,rfl⟩ PySem.F.slot_tuple_lt PySem.F.entry_tuple_lt (PySem.F.args_tuple_lt_2 _ _) (zhS l b items items2 n n2 dd dd2 sl sl2 ns ms hi hj)
  ⟨ho,ho2,show Value.bool (lexLt ns ms)≠Value.notImplemented/\Q (.bool (lexLt ns ms)) s from⟨(fun x=>nomatch x),h⟩⟩ hu
theorem cat_tup{t b:Addr}{vs ws:List Value}{Q:Value->Shared->Prop}(ht:IsTup s.heap t vs.toArray)(hb:IsTup s.heap b ws.toArray)(hv:vs≠[])
  (h1:ws=[]->Q (.ref t) s) (h2:ws≠[]->Q (.ref s.heap.objs.size) { s with heap:=s.heap.push { cls:=.type "tuple",data:=.seq (vs++ws).toArray } })
  (hsz:vs.length+ws.length<=sizeLine):wpAny (model prog w) A (binaryOp .Add (.ref t) (.ref b)) Q E s:=by
 obtain⟨⟨cls,dd,data,sl⟩,ho,hc,n,hd⟩:=id ht;obtain⟨⟨cls2,dd2,data2,sl2⟩,ho2,hc2,n2,hd2⟩:=id hb;simp only at hc hd hc2 hd2;subst hc hd hc2 hd2;have e:vs.toArray++ws.toArray=(vs++ws).toArray:=by simp
 by_cases hw:ws=[]
 ·exact concat_meets ⟨_,ho,rfl⟩ ⟨_,ho2,rfl⟩ noFill_tuple_add seq_tuple_add PySem.F.slot_tuple_add PySem.F.entry_tuple_add (PySem.F.args_tuple_add_2 _ _)
   (tuple_addW1 t b vs.toArray ws.toArray n n2 dd dd2 sl sl2 (by simpa using hv) (by simp [hw])) ⟨ho,ho2,h1 hw⟩
 ·refine concat_meets ⟨_,ho,rfl⟩ ⟨_,ho2,rfl⟩ noFill_tuple_add seq_tuple_add PySem.F.slot_tuple_add PySem.F.entry_tuple_add (PySem.F.args_tuple_add_2 _ _)
   (tuple_addW2 t b vs.toArray ws.toArray n n2 dd dd2 sl sl2 (by simpa using hv) (by simpa using hw) (by rw [size_toArray,size_toArray]; exact hsz)) ⟨ho,ho2,?_⟩
  rw [e];exact h2 hw
def sIx(n d:Nat):Option Int->Nat
 | none=>d
 | some v=>if v<0 then (v+(n:Int)).toNat else min v.toNat n
theorem sIx_nat(n d k:Nat):sIx n d (some (k:Int))=min k n:=by
 show (if (k:Int)<0 then ((k:Int)+(n:Int)).toNat else min (k:Int).toNat n)=min k n;rw [if_neg (by omega),Int.toNat_natCast]
theorem ztm(n d:Nat)(hd:d<=n)(o:Option Int):sIx n d o<=n:=by
 cases o with
 | none=>exact hd
 | some v =>
  show (if v<0 then (v+(n:Int)).toNat else min v.toNat n)<=n;by_cases hv:v<0
  ·rw [if_pos hv]; omega
  ·rw [if_neg hv]; exact Nat.min_le_right _ _
theorem znl(v:Int)(n d:Nat):(if v<0 then max (v+(n:Int)) 0 else min v (n:Int))=((sIx n d (some v):Nat):Int):=by
 show (if v<0 then max (v+(n:Int)) 0 else min v (n:Int))=(((if v<0 then (v+(n:Int)).toNat else min v.toNat n):Nat):Int);by_cases hv:v<0
 ·simp only [if_pos hv]; omega
 ·simp only [if_neg hv]; omega
theorem zmh(lo hi:Option Int)(n:Nat):Builtin.Slice.sliceAdjust lo hi 1 (n:Int)=(((sIx n 0 lo:Nat):Int),((sIx n n hi:Nat):Int)):=by
 have h1:¬ ((1:Int)<0):=by omega
 unfold Builtin.Slice.sliceAdjust;simp only [h1,if_false];refine Prod.ext ?_ ?_
 ·cases lo with
  | none=>rfl
  | some v=>exact znl v n 0
 ·cases hi with
  | none=>rfl
  | some v=>exact znl v n n
theorem zlC(i j:Nat):Builtin.Slice.slicePlaces (i:Int) (j:Int) 1=j - i:=by
 unfold Builtin.Slice.slicePlaces;have h1:(1:Int)>0:=by omega
 simp only [h1,if_true,Int.ediv_one];split <;> omega
theorem zhy{v:Value}{o:Option Int}{Q:Option Int->Shared->Prop}(p:IsPart v o)(h:Q o s):wpAny (model prog w) A (Builtin.Slice.slicePartIndex v) Q E s:=by
 cases p with
 | none=>exact slicePart_none h
 | int i t=>exact slicePart_int h
theorem zdB{sl:Addr}{vl vu:Value}{lo hi:Option Int}{n:Nat}{Q:Int×Int×Nat->Shared->Prop}(hs:s.heap.IsSliceOf sl vl vu .none)(pl:IsPart vl lo)(pu:IsPart vu hi)
  (h:Q (((sIx n 0 lo:Nat):Int),1,sIx n n hi - sIx n 0 lo) s):wpAny (model prog w) A (Builtin.Slice.sliceApplied (.ref sl) (pure (n:Int))) Q E s:=by
 obtain⟨os,hos,hcs,hds⟩:=id hs;unfold Builtin.Slice.sliceApplied Builtin.Slice.sliceFields;refine wpAny_bind (wpAny_bind (wpAny_field hos hds (x:=vl) rfl (wpAny_bind (wpAny_field hos hds (x:=vu) rfl (wpAny_bind (wpAny_field hos hds (x:=.none) rfl (wpAny_pure ?_)))))));refine wpAny_bind (slicePart_none ?_);show wpAny _ _ (if ((1:Int) == 0)=true then _ else _) _ _ s;rw [if_neg dz];refine wpAny_bind (zhy pl (wpAny_bind (zhy pu (wpAny_bind (wpAny_pure ?_)))));show wpAny _ _ (match Builtin.Slice.sliceAdjust lo hi 1 (n:Int) with | (lo,hi)=>pure (lo,(1:Int),Builtin.Slice.slicePlaces lo hi 1)) _ _ s;rw [zmh lo hi n];show wpAny _ _ (pure (((sIx n 0 lo:Nat):Int),(1:Int),Builtin.Slice.slicePlaces ((sIx n 0 lo:Nat):Int) ((sIx n n hi:Nat):Int) 1)) _ _ s;rw [zlC];exact wpAny_pure h
theorem zo4(xs:Array Value)(i k:Nat):((List.range k).filterMap fun(m:Nat)=>xs[((i:Int)+(m:Int)*1).toNat]?).toArray=((xs.toList.drop i).take k).toArray:=by
 have e:(fun(m:Nat)=>xs[((i:Int)+(m:Int)*1).toNat]?)=fun m=>xs[i+m]?:=by
  funext m;have:((i:Int)+(m:Int)*1).toNat=i+m:=by omega
  rw [this]
 rw [e];have:=pick_run xs i k;rw [List.filterMap_map] at this;have e2:((fun x=>xs[x]?)∘fun x=>i+x)=fun m=>xs[i+m]?:=rfl;rw [e2] at this;rw [this]
theorem getItem_tuple_cut{t sl:Addr}{items:Array Value}{vl vu:Value}{lo hi:Option Int}{Q:Value->Shared->Prop}(ht:IsTup s.heap t items)(hs:s.heap.IsSliceOf sl vl vu .none)(pl:IsPart vl lo)(pu:IsPart vu hi)
  (hw:¬ (sIx items.size 0 lo=0/\sIx items.size items.size hi=items.size))
  (h:Q (.ref s.heap.objs.size) { s with heap:=s.heap.push { cls:=.type "tuple",data:=.seq ((items.toList.drop (sIx items.size 0 lo)).take (sIx items.size items.size hi - sIx items.size 0 lo)).toArray } })
  (hsz:items.size<=sizeLine):wpAny (model prog w) A (getItem (.ref t) (.ref sl)) Q E s:=by
 have htake:sizeOk (.seq ((items.toList.drop (sIx items.size 0 lo)).take (sIx items.size items.size hi - sIx items.size 0 lo)).toArray):=by
  show ((items.toList.drop (sIx items.size 0 lo)).take (sIx items.size items.size hi - sIx items.size 0 lo)).toArray.size<=sizeLine;rw [size_toArray,length_take,length_drop,length_toList];omega
 have hj:sIx items.size items.size hi<=items.size:=ztm _ _ (le_refl _) hi;obtain⟨os,hos,hcs,hds⟩:=id hs;have hTs:s.TypeIs (.ref sl) "slice":=⟨os,hos,hcs⟩;unfold getItem
 try with_reducible refine wpAny_holding ?_
 first | refine wpAny_bind (wpAny_pure ?_) | skip
 refine wpAny_bind (wpAny_sequenceKey ht.typeIs dz ?_);refine wpAny_bind (wpAny_callSpecial?_slot (name:=Str.ofString "__getitem__") ht.typeIs PyProof.Rows.slot_tuple_getitem
  (wpAny_call_entry PyProof.Rows.slot_tuple_getitem ht.typeIs entry_tuple_getitem ?_ (args_tuple_getitem _ _)))
 show wpAny _ _ (Builtin.Tuple.tupleItemsOf (.ref t) >>= _) _ _ s;refine wpAny_bind (tupleItemsOf_ ht ?_);refine wpAny_bind (wpAny_typeOf hTs ?_);rw [if_pos dz];refine wpAny_bind (zdB hs pl pu ?_);have hno:¬ ((((sIx items.size 0 lo:Nat):Int) == 0 && (1:Int) == 1 && (sIx items.size items.size hi - sIx items.size 0 lo) == items.size)=true):=by
  intro q;rw [Bool.and_eq_true,Bool.and_eq_true] at q;have q1:((sIx items.size 0 lo:Nat):Int)=0:=eq_of_beq q.1.1;have q2:sIx items.size items.size hi - sIx items.size 0 lo=items.size:=eq_of_beq q.2;exact hw ⟨by omega,by omega⟩
 show wpAny _ _ (if (((sIx items.size 0 lo:Nat):Int) == 0 && (1:Int) == 1 && (sIx items.size items.size hi - sIx items.size 0 lo) == items.size)=true then _ else _) _ _ s;rw [if_neg hno,zo4]
 first
  | exact wpAny_bind (m:=Builtin.Tuple.tupleExact _) (wpAny_newObj_type (wpAny_pure ⟨_,rfl,wpAny_pure h⟩) htake)
  | exact wpAny_bind (m:=Builtin.Tuple.tupleExact _) (wpAny_newObj_type (wpAny_bind (wpAny_pure (wpAny_pure ⟨_,rfl,wpAny_pure h⟩))) htake)
  | exact wpAny_bind (wpAny_bind (m:=Builtin.Tuple.tupleExact _) (wpAny_newObj_type (wpAny_pure (wpAny_pure ⟨_,rfl,wpAny_pure h⟩)) htake))
  | exact wpAny_bind (wpAny_bind (m:=Builtin.Tuple.tupleExact _) (wpAny_newObj_type (wpAny_pure ⟨_,rfl,wpAny_pure h⟩) htake))
end
end HT
namespace L2
open PySem PySem.Spec PyProof.Rows
section
abbrev TO:=St->Hp->(Option Int->Hp->Prop)->Prop
def PO(X:Cx)(e:Option Expr)(t:TO):Prop :=
 ∀ (zj:List (Addr×Obj)) (s:Shared) (σ:St) (H:Hp) (Q:Option Int->Hp->Prop),Inv X zj σ H s->t σ H Q ->
  wpAny (model X.prog X.w) X.A (evalPart e X.env) (fun u s'=>∃ o H',Inv X zj σ H' s'/\IsPart u o/\Q o H') X.xe s
def zmn:TO:=fun _ H Q=>Q none H
def zo6(t:TE):TO:=fun σ H Q=>t σ H fun x H1=>∃ i,x=.int i/\Q (some i) H1
theorem zba{ns:List Int}:∀ {us:List Value},Vals (ns.map V.int) us->IntsAre us ns:=by
 induction ns with
 | nil=>intro us r; rw [map_nil] at r; cases r; exact .nil
 | cons n ns ih =>
  intro us r;rw [map_cons] at r;cases r with
  | cons r1 r2 =>
   obtain⟨t,e⟩:=r1;subst e;exact .cons n t (ih r2)
section
variable {X:Cx} {e:Expr} {te:TE} {lo hi:Option Expr} {tl th:TO} {pos p2:Pos}
theorem zcM:PO X none zmn:=by
 intro zj s σ H Q I h;rw [evalPart_none];exact wpAny_pure ⟨none,H,I,.none,h⟩
theorem zb6(h:PE X e te):PO X (some e) (zo6 te):=by
 intro zj s σ H Q I hw;rw [evalPart_some];refine thn (h zj s σ H _ I hw) fun u s1 ⟨x,H1,I1,r1,q1⟩=>?_;obtain⟨i,rfl,q⟩:=q1;obtain⟨t,rfl⟩:=r1;exact⟨some i,H1,I1,.int i t,q⟩
def SlR(X:Cx)(r:V->Option Int->Option Int->Hp->VK->Prop):Prop :=
 ∀ (zj:List (Addr×Obj)) (s:Shared) (σ:St) (H:Hp) (x:V) (v vl vu:Value) (lo hi:Option Int) (sl:Addr) (Q:VK),Inv X zj σ H s->RelV x v->s.heap.IsSliceOf sl vl vu .none->IsPart vl lo->IsPart vu hi->r x lo hi H Q ->
  ∃ T id,typeLookup (.type T) "__getitem__" = pure (some (.builtin id))/\s.TypeIs v T/\wpAny (model X.prog X.w) X.A (getItem v (.ref sl)) (EP X zj σ Q) X.xe s
theorem SlR.or{r r':V->Option Int->Option Int->Hp->VK->Prop}(h:SlR X r)(h':SlR X r'):SlR X (fun x lo hi H Q=>r x lo hi H Q\/r' x lo hi H Q):=by
 intro zj s σ H x v vl vu lo hi sl Q I rx hs pl pu q;rcases q with q | q
 ·exact h zj s σ H x v vl vu lo hi sl Q I rx hs pl pu q
 ·exact h' zj s σ H x v vl vu lo hi sl Q I rx hs pl pu q
def tSl(r:V->Option Int->Option Int->Hp->VK->Prop)(te:TE)(tl th:TO):TE:=fun σ H Q=>te σ H fun x H1=>tl σ H1 fun l H2=>th σ H2 fun u H3=>r x l u H3 Q
theorem zbD{r:V->Option Int->Option Int->Hp->VK->Prop}(hr:SlR X r)(he:PE X e te)(hl:PO X lo tl)(hu:PO X hi th):PE X (.Subscript e (.Slice lo hi none p2) pos) (tSl r te tl th):=by
 intro zj s σ H Q I h;refine Subscript_ (thn (he zj s σ H _ I h) fun v s1 ⟨x,H1,I1,r1,q1⟩=>?_);refine wpAny_Slice (thn (hl zj s1 σ H1 _ I1 q1) fun vl s2 ⟨l,H2,I2,pl,q2⟩=>thn (hu zj s2 σ H2 _ I2 q2) fun vu s3 ⟨u,H3,I3,pu,q3⟩=>?_);rw [evalPart_none];refine wpAny_pure ?_;have I4:Inv X zj σ H3 { s3 with heap:=s3.heap.push { cls:=.type "slice",data:=.fields #[vl,vu,.none] } }:=I3.kept (t':=s3.toks) fun b ob q=>get?_push_of_some _ q;obtain⟨T,id,hT,ht,hg⟩:=hr zj { s3 with heap:=s3.heap.push { cls:=.type "slice",data:=.fields #[vl,vu,.none] } } σ H3 x v vl vu l u s3.heap.objs.size Q I4 r1 (Heap.IsSliceOf.new ..) pl pu q3;show wpAny (model X.prog X.w) X.A (subscriptTail e (.Slice lo hi none p2) v (.ref s3.heap.objs.size)) (EP X zj σ Q) X.xe { s3 with heap:=s3.heap.push { cls:=.type "slice",data:=.fields #[vl,vu,.none] } };exact tail_any (ops:=[.ref s3.heap.objs.size,v]) ht hT hg (by with_unfolding_all rfl)
def zkY(xs:List V)(lo hi:Option Int):List V:=(xs.drop (HT.sIx xs.length 0 lo)).take (HT.sIx xs.length xs.length hi - HT.sIx xs.length 0 lo)
theorem zeg(xs:List V)(lo hi:Option Int):(zkY xs lo hi).length<=xs.length:=by
 unfold zkY;rw [length_take,length_drop];omega
def zur(K:W.Frag):V->Option Int->Option Int->Hp->VK->Prop:=fun x lo hi H Q=>∃ a xs,x=.ref a/\SqT K H a xs /\
 ¬ (HT.sIx xs.length 0 lo=0/\HT.sIx xs.length xs.length hi=xs.length)/\∀ p,H p=none->Q (.ref p) (upd H p (.tup (zkY xs lo hi)))
theorem zqg:SlR X (zur X.K):=by
 intro zj s σ H x v vl vu lo hi sl Q I rx hs pl pu h;obtain⟨a,xs,rfl,hx,hw,q⟩:=h;cases rx;obtain⟨its,r,ht,hz⟩:=I.tuple hx;have hlen:its.toArray.size=xs.length:=by rw [size_toArray]; exact r.length.symm
 refine⟨"tuple",_,PyProof.Rows.slot_tuple_getitem.lookup,ht.typeIs,?_⟩;refine HT.getItem_tuple_cut ht hs pl pu (by rw [hlen]; exact hw) ?_ (by rw [hlen]; exact hz);rw [hlen];refine⟨.ref s.heap.objs.size,_,I.laid (t':=s.toks) (o:=.tup (zkY xs lo hi)) (fun b ob q=>get?_push_of_some _ q) (le_refl _) ?_,rfl,q _ (I.hok.fresh (le_refl _))⟩;exact⟨⟨le_trans (zeg xs lo hi) hz,_,get?_push_size _ rfl,rfl⟩,_,(r.drop (HT.sIx xs.length 0 lo)).take (HT.sIx xs.length xs.length hi - HT.sIx xs.length 0 lo),IsTup.new _ _⟩
def zrQ(K:W.Frag):R2:=fun x y H Q=>∃ a b xs ys,x=.ref a/\y=.ref b/\SqT K H a xs/\SqT K H b ys/\xs≠[]/\xs.length+ys.length<=sizeLine /\
 (ys=[]->Q (.ref a) H)/\(ys≠[]->∀ p,H p=none->Q (.ref p) (upd H p (.tup (xs++ys))))
theorem Vals.nil_iff{xs:List V}{us:List Value}(r:Vals xs us):us=[]↔xs=[]:=by
 cases r with
 | nil=>simp
 | cons _ _=>simp
theorem zrV:OpR X (binaryOp .Add) (zrQ X.K):=by
 intro zj s σ H x y v u Q I rx ry h;obtain⟨a,b,xs,ys,rfl,rfl,ha,hb,hx,hz,q1,q2⟩:=h;cases rx;cases ry;obtain⟨its,r1,p1,_⟩:=I.tuple ha;obtain⟨its2,r2,p2,_⟩:=I.tuple hb;refine HT.cat_tup p1 p2 (fun z=>hx (r1.nil_iff.mp z)) (fun z=>⟨.ref a,H,I,rfl,q1 (r2.nil_iff.mp z)⟩) (fun z=>?_) (by rw [<- r1.length,<- r2.length]; exact hz);refine⟨.ref s.heap.objs.size,_,I.laid (t':=s.toks) (o:=.tup (xs++ys)) (fun b ob q=>get?_push_of_some _ q) (le_refl _) ?_,rfl,q2 (fun w=>z (r2.nil_iff.mpr w)) _ (I.hok.fresh (le_refl _))⟩;exact⟨⟨by rw [length_append]; exact hz,_,get?_push_size _ rfl,rfl⟩,_,r1.append r2,IsTup.new _ _⟩
end
end
section
def ixN(n:Nat)(i:Int):Option Nat:=if 0<=i then (if i<n then some i.toNat else none) else if -(n:Int)<=i then some (i+n).toNat else none
def atI{α:Type}(xs:List α)(i:Int):Option α:=(ixN xs.length i).bind fun j=>xs[j]?
theorem znp{n:Nat}{i:Int}{j:Nat}(h:ixN n i=some j):seqIndex? i n=some j/\j<n/\-(n:Int)<=i/\i<n:=by
 unfold ixN at h;by_cases h0:0<=i
 ·rw [if_pos h0] at h;by_cases h1:i<n
  ·rw [if_pos h1] at h;have e:i.toNat=j:=Option.some.inj h;exact⟨by rw [seqIndex_of h0 h1,e],by omega,by omega,h1⟩
  ·rw [if_neg h1] at h; cases h
 ·rw [if_neg h0] at h;by_cases h1:-(n:Int)<=i
  ·rw [if_pos h1] at h;have e:(i+n).toNat=j:=Option.some.inj h;exact⟨by rw [seqIndex_neg (by omega) h1,e],by omega,h1,by omega⟩
  ·rw [if_neg h1] at h; cases h
theorem zkv{α:Type}{xs:List α}{i:Int}{v:α}(h:atI xs i=some v):∃ j,seqIndex? i xs.length=some j/\xs[j]? = some v/\j<xs.length/\-(xs.length:Int)<=i/\i<xs.length:=by
 unfold atI at h;cases e:ixN xs.length i with
 | none=>rw [e] at h; cases h
 | some j =>
  rw [e] at h;obtain⟨h1,h2,h3,h4⟩:=znp e;exact⟨j,h1,h,h2,h3,h4⟩
theorem zc6{α:Type}{xs:List α}{j:Nat}{v:α}(h:xs[j]? = some v):atI xs (j:Int)=some v:=by
 have hj:j<xs.length:=(List.getElem?_eq_some_iff.mp h).1;have e:ixN xs.length (j:Int)=some j:=by
  unfold ixN;rw [if_pos (by omega),if_pos (by omega)]; simp
 unfold atI; rw [e]; exact h
theorem zpu{α:Type}(xs:List α)(v:α):atI (xs++[v]) (-1)=some v:=by
 have hl:(xs++[v]).length=xs.length+1:=by simp
 have e:ixN (xs++[v]).length (-1)=some xs.length:=by
  unfold ixN;rw [hl,if_neg dz,if_pos (by omega)];congr 1;omega
 unfold atI;rw [e];show (xs++[v])[xs.length]? = some v;simp
def PlainIx(b:Expr):Prop:=∀ o i,subscripted b false o i=operate [o,i] (getItem o i)
def IxR(X:Cx)(r:R2):Prop :=
 ∀ (value slice:Expr) (zj:List (Addr×Obj)) (s:Shared) (σ:St) (H:Hp) (x y:V) (v u:Value) (Q:VK),Inv X zj σ H s->RelV x v->RelV y u->r x y H Q ->
  subscripted slice false v u=operate [v,u] (getItem v u)->wpAny (model X.prog X.w) X.A (subscriptTail value slice v u) (EP X zj σ Q) X.xe s
def MtR(X:Cx)(id:String)(r:V->List V->Hp->VK->Prop):Prop :=
 ∀ (zj:List (Addr×Obj)) (s:Shared) (σ:St) (H:Hp) (x:V) (xs:List V) (v:Value) (us:List Value) (Q:VK),Inv X zj σ H s->RelV x v->Vals xs us->r x xs H Q ->
  wpAny (model X.prog X.w) X.A (call (.builtin id) (v :: us)) (EP X zj σ Q) X.xe s
section
variable {X:Cx} {a b:Expr} {ta tb:TE} {pos:Pos}
theorem IxR.or{r r':R2}(h:IxR X r)(h':IxR X r'):IxR X (fun x y H Q=>r x y H Q\/r' x y H Q):=by
 intro value slice zj s σ H x y v u Q I rx ry q hs;rcases q with q | q
 ·exact h value slice zj s σ H x y v u Q I rx ry q hs
 ·exact h' value slice zj s σ H x y v u Q I rx ry q hs
theorem zI{r:R2}(hr:IxR X r)(ha:PE X a ta)(hb:PE X b tb)(hs:PlainIx b):PE X (.Subscript a b pos) (tOp r ta tb):=by
 intro zj s σ H Q I h;exact Subscript_ (zum ha hb I h fun v u s2 x y H2 I2 rx ry q=>hr a b zj s2 σ H2 x y v u Q I2 rx ry q (hs _ _))
def zug(K:W.Frag):R2:=fun x y H Q=>∃ p xs i v,x=.ref p/\y=.int i/\SqL K H p xs/\atI xs i=some v/\Q v H
def zuh(K:W.Frag):R2:=fun x y H Q=>∃ p xs i v,x=.ref p/\y=.int i/\SqT K H p xs/\atI xs i=some v/\Q v H
def zus:R2:=fun x y H Q=>∃ z i c,x=.str z/\y=.int i/\z.length<=sizeLine/\atI z.cps.toList i=some c/\Q (.str ⟨#[c]⟩) H
theorem zne:IxR X (zug X.K):=by
 intro value slice zj s σ H x y v u Q I rx ry h hs;obtain⟨p,xs,i,z,rfl,rfl,hq,he,q⟩:=h;cases rx;obtain⟨t,rfl⟩:=ry;obtain⟨its,r,pl,hz⟩:=I.list hq;obtain⟨j,h1,h2,h3,h4,h5⟩:=zkv he;obtain⟨w,ew,rw'⟩:=r.get h2;have hl:=r.length;have hn:=line63;have fin:EP X zj σ Q w s:=⟨z,H,I,rw',q⟩;by_cases h0:0<=i
 ·have hj:i.toNat=j:=by
   rw [seqIndex_of h0 h5] at h1;exact Option.some.inj h1
  exact item_listR pl.isList h0 (by omega) (by rw [hj]; simpa using ew) fin hs
 ·have hj:(i+(its.toArray.size:Int)).toNat=j:=by
   rw [seqIndex_neg (by omega) h4] at h1;rw [size_toArray,<- hl];exact Option.some.inj h1
  exact subscriptTail_builtinR (x:=w) pl.isList.typeIs slot_list_getitem.lookup
   (wpAny_getItem_list_neg (Q:=fun r s'=>r=w/\EP X zj σ Q r s') pl.isList (by omega) (by rw [size_toArray] <;> omega) (by omega) (by rw [hj]; simpa using ew) ⟨rfl,fin⟩) hs
theorem zs4:IxR X (zuh X.K):=by
 intro value slice zj s σ H x y v u Q I rx ry h hs;obtain⟨p,xs,i,z,rfl,rfl,hq,he,q⟩:=h;cases rx;obtain⟨t,rfl⟩:=ry;obtain⟨its,r,pl,hz⟩:=I.tuple hq;obtain⟨j,h1,h2,h3,h4,h5⟩:=zkv he;obtain⟨w,ew,rw'⟩:=r.get h2;have hl:=r.length;have hn:=line63;have fin:EP X zj σ Q w s:=⟨z,H,I,rw',q⟩;exact subscriptTail_builtinR (x:=w) pl.typeIs slot_tuple_getitem.lookup
  (getItem_tuple (j:=j) (Q:=fun r s'=>r=w/\EP X zj σ Q r s') pl (by omega) (by omega) (by rw [size_toArray,<- hl]; exact h1) (by simpa using ew) ⟨rfl,fin⟩) hs
theorem zt3:IxR X zus:=by
 intro value slice zj s σ H x y v u Q I rx ry h hs;obtain⟨z,i,c,rfl,rfl,hz,he,q⟩:=h;obtain⟨t,rfl⟩:=rx;obtain⟨t',rfl⟩:=ry;obtain⟨j,h1,h2,h3,h4,h5⟩:=zkv he;have hl:z.cps.toList.length=z.length:=by simp [Str.length]
 rw [hl] at h1 h4 h5;have hn:=line63;exact tail_any (typeIs_str s z t) slot_str_getitem.lookup (getItem_str (c:=c) (by
  have e1:decide (i < -(2 ^ 63:Int))=false:=decide_eq_false (by omega);have e2:decide (i≥2 ^ 63)=false:=decide_eq_false (by omega);rw [e1,e2,Bool.or_false]) (by rw [h1]; simpa using h2) ⟨.str ⟨#[c]⟩,H,I.tok _,⟨_,rfl⟩,q⟩) hs
def rIx(K:W.Frag):R2:=fun x y H Q=>zug K x y H Q\/zuh K x y H Q\/zus x y H Q
theorem zw:IxR X (rIx X.K):=zne.or (zs4.or zt3)
theorem zlS(its:List Value)(n j:Nat)(u:Value):Obj.mapSeq (·.setIfInBounds j u) { cls:=.type "list",data:=.seq its.toArray n } = { cls:=.type "list",data:=.seq (its.set j u).toArray n }:=by
 simp [Obj.mapSeq]
theorem Inv.lst{zj:List (Addr×Obj)}{σ:St}{H:Hp}{s:Shared}{p:Addr}{xs:List V}(I:Inv X zj σ H s)(h:H p=some (.lst xs)):
  ∃ (its:List Value) (n:Nat),Vals xs its/\s.heap.get? p=some { cls:=.type "list",data:=.seq its.toArray n }/\xs.length<=sizeLine:=by
 obtain⟨z,its,n,r,e⟩:=I.hok p _ h;exact⟨its,n,r,e,z⟩
theorem Inv.lstUpd{zj:List (Addr×Obj)}{σ:St}{H:Hp}{s:Shared}{p:Addr}{xs ys:List V}{its its':List Value}{n n':Nat}{f:Obj->Obj}(I:Inv X zj σ H s)(h:H p=some (.lst xs))
  (ho:s.heap.get? p=some { cls:=.type "list",data:=.seq its.toArray n }) (hf:f { cls:=.type "list",data:=.seq its.toArray n } = { cls:=.type "list",data:=.seq its'.toArray n' }) (r:Vals ys its') (hz:ys.length<=sizeLine) (t:Nat) :
  Inv X zj σ (upd H p (.lst ys)) { s with heap:=s.heap.update p f,toks:=t }:=by
 have e:(s.heap.update p f).get? p=some { cls:=.type "list",data:=.seq its'.toArray n' }:=by
  rw [get?_update_self f ho (by rw [hf] <;> rfl),hf]
 refine I.write (x:=p) (e:=p) (by rw [h]; trivial) (.inl rfl) (fun b u hb q=>(get?_update_other _ _ (Ne.symm hb)).trans q) ⟨_,e⟩ ?_;exact⟨hz,its',n',r,e⟩
def zsU:V->V->V->Hp->(Hp->Prop)->Prop:=fun o i v H Q=>∃ p xs k j,o=.ref p/\i=.int k/\H p=some (.lst xs)/\ixN xs.length k=some j/\Q (upd H p (.lst (xs.set j v)))
theorem zeV:PSet X zsU:=by
 intro zj s σ H o i v ov iv u Q I ro ri rv h;obtain⟨p,xs,k,j,rfl,rfl,hp,hj,q⟩:=h;cases ro;obtain⟨t,rfl⟩:=ri;obtain⟨its,n,r,ho,hz⟩:=I.lst hp;obtain⟨h1,h2,h3,h4⟩:=znp hj;have hl:=r.length;have hn:=line63;have I':Inv X zj σ (upd H p (.lst (xs.set j v))) { s with heap:=s.heap.update p (Obj.mapSeq (·.setIfInBounds j u)) } :=
  I.lstUpd hp ho (zlS its n j u) (r.set rv j) (by rw [length_set]; exact hz) s.toks
 by_cases h0:0<=k
 ·have hk:k.toNat=j:=by
   rw [seqIndex_of h0 h4] at h1;exact Option.some.inj h1
  exact W.ki_setAt ho h0 (by omega) (by rw [size_toArray,<- hl]; exact h4) (by rw [hk]; exact⟨_,I',q⟩)
 ·have hk:(k+(its.toArray.size:Int)).toNat=j:=by
   rw [seqIndex_neg (by omega) h3] at h1;rw [size_toArray,<- hl];exact Option.some.inj h1
  exact W.ki_setBack ho (by omega) (by rw [size_toArray,<- hl]; exact h3) (by omega) (by rw [hk]; exact⟨_,I',q⟩)
theorem ziY(lo hi:Option Int)(n:Nat):(sliceBounds lo hi none n).1=((HT.sIx n 0 lo:Nat):Int)/\(sliceBounds lo hi none n).2.1=((HT.sIx n n hi:Nat):Int)/\(sliceBounds lo hi none n).2.2=1:=by
 refine⟨?_,?_,rfl⟩
 ·cases lo with
  | none=>simp [sliceBounds,HT.sIx]
  | some i =>
   simp only [sliceBounds,HT.sIx,Option.getD_none,show (1:Int)>0 by decide,if_true];by_cases h:i<0
   ·simp only [h,if_true] <;> omega
   ·simp only [h,if_false] <;> omega
 ·cases hi with
  | none=>simp [sliceBounds,HT.sIx]
  | some i =>
   simp only [sliceBounds,HT.sIx,Option.getD_none,show (1:Int)>0 by decide,if_true];by_cases h:i<0
   ·simp only [h,if_true] <;> omega
   ·simp only [h,if_false] <;> omega
theorem ziu(its:List Value)(lo hi:Option Int):slicePick its.toArray lo hi none=((its.drop (HT.sIx its.length 0 lo)).take (HT.sIx its.length its.length hi - HT.sIx its.length 0 lo)).toArray:=by
 obtain⟨h1,h2,h3⟩:=ziY lo hi its.toArray.size;unfold slicePick;rw [h1,h2,h3];simp only [sliceRange_one,pick_run,size_toArray] <;> rfl
def zt5(K:W.Frag):V->Option Int->Option Int->Hp->VK->Prop:=fun x lo hi H Q=>∃ a xs,x=.ref a/\SqL K H a xs/\∀ p,H p=none->Q (.ref p) (upd H p (.lst (zkY xs lo hi)))
theorem zof:SlR X (zt5 X.K):=by
 intro zj s σ H x v vl vu lo hi sl Q I rx hs pl pu h;obtain⟨a,xs,rfl,hx,q⟩:=h;cases rx;obtain⟨its,r,ht,hz⟩:=I.list hx;have hlen:=r.length;refine⟨"list",_,slot_list_getitem.lookup,ht.isList.typeIs,?_⟩;refine wpAny_getItem_list_slice ht.isList hs pl pu .none (by simp) ?_ (by rw [size_toArray] <;> omega);rw [ziu,<- hlen];refine⟨.ref s.heap.objs.size,_,I.laid (t':=s.toks) (o:=.lst (zkY xs lo hi)) (fun b ob q=>get?_push_of_some _ q) (le_refl _) ?_,rfl,q _ (I.hok.fresh (le_refl _))⟩;exact⟨le_trans (zeg xs lo hi) hz,_,0,(r.drop (HT.sIx xs.length 0 lo)).take (HT.sIx xs.length xs.length hi - HT.sIx xs.length 0 lo),get?_push_size _ rfl⟩
theorem zfu:CallR X (.builtin "len") (fun xs H Q=>∃ p ys,xs=[.ref p]/\(SqL X.K H p ys\/SqT X.K H p ys)/\Q (.int ys.length) H):=by
 intro zj s σ H xs us Q I r h;obtain⟨p,ys,rfl,hq,q⟩:=h;obtain⟨u,rfl,rx⟩:=vals1 r;cases rx;have hn:=line63;rcases hq with hq | hq
 ·obtain⟨its,r',pl,hz⟩:=I.list hq;have hlen:=r'.length;exact Calls.call_len_list pl.isList (by simp only [size_toArray] <;> omega) ⟨.int ys.length,H,I.tok _,⟨s.toks+1,by rw [size_toArray,hlen]⟩,q⟩
 ·obtain⟨its,r',pl,hz⟩:=I.tuple hq;have hlen:=r'.length;exact len_tuple pl (by simp only [size_toArray] <;> omega) ⟨.int ys.length,H,I.tok _,⟨s.toks+1,by rw [size_toArray,hlen]⟩,q⟩
theorem zjh:CallR X (.builtin "len") (fun xs H Q=>∃ z,xs=[.str z]/\z.length<=sizeLine/\Q (.int z.length) H):=by
 intro zj s σ H xs us Q I r h;obtain⟨z,rfl,hz,q⟩:=h;obtain⟨u,rfl,t,rfl⟩:=vals1 r;have hn:=line63;exact len_str (by omega) ⟨.int z.length,H,I.tok _,⟨_,rfl⟩,q⟩
theorem CallR.or{f:Value}{r r':List V->Hp->VK->Prop}(h:CallR X f r)(h':CallR X f r'):CallR X f (fun xs H Q=>r xs H Q\/r' xs H Q):=by
 intro zj s σ H xs us Q I rs q;rcases q with q | q
 ·exact h zj s σ H xs us Q I rs q
 ·exact h' zj s σ H xs us Q I rs q
theorem zfE:CallR X (.type "list") (fun xs H Q=>∃ p ys,xs=[.ref p]/\(SqL X.K H p ys\/SqT X.K H p ys)/\∀ l,H l=none->Q (.ref l) (upd H l (.lst ys))):=by
 intro zj s σ H xs us Q I r h;obtain⟨p,ys,rfl,hq,q⟩:=h;obtain⟨u,rfl,rx⟩:=vals1 r;cases rx;have fin:∀ (its:List Value),Vals ys its->ys.length<=sizeLine->∀ (h':Heap) (c':Nat),(∀ b o',s.heap.get? b=some o'->h'.get? b=some o') ->
   h'.get? s.heap.objs.size=some { cls:=.type "list",dict:=none,data:=.seq its.toArray c',slots:=#[] }->EP X zj σ Q (.ref s.heap.objs.size) { s with heap:=h' }:=fun its r' hz h' c' kp e =>
  ⟨.ref s.heap.objs.size,_,I.laid (t':=s.toks) kp (le_refl _) (show ObjOk X.prog X.w _ h' _ (.lst ys) from⟨hz,its,c',r',e⟩),rfl,q _ (I.hok.fresh (le_refl _))⟩
 rcases hq with hq | hq
 ·obtain⟨its,r',pl,hz⟩:=I.list hq;have hlen:=r'.length;obtain⟨o,ho,hc,n,hd⟩:=pl.isList;exact call_list_seq p (.inl rfl) ho hc hd (fun h' c' kp e=>fin its r' hz h' c' kp e) (by simp only [size_toArray] <;> omega)
 ·obtain⟨its,r',pl,hz⟩:=I.tuple hq;have hlen:=r'.length;obtain⟨o,ho,hc,n,hd⟩:=pl;exact call_list_seq p (.inr rfl) ho hc hd (fun h' c' kp e=>fin its r' hz h' c' kp e) (by simp only [size_toArray] <;> omega)
theorem zG:CallR X (.type "tuple") (fun xs H Q=>∃ p ys,xs=[.ref p]/\((SqL X.K H p ys/\∀ l,H l=none->Q (.ref l) (upd H l (.tup ys)))\/(SqT X.K H p ys/\Q (.ref p) H))):=by
 intro zj s σ H xs us Q I r h;obtain⟨p,ys,rfl,h⟩:=h;obtain⟨u,rfl,rx⟩:=vals1 r;cases rx;rcases h with ⟨hq,q⟩ | ⟨hq,q⟩
 ·obtain⟨its,r',pl,hz⟩:=I.list hq;have hlen:=r'.length;refine call_tuple_list pl.isList (fun h' kp=>?_) (by simp only [size_toArray] <;> omega);have I1:Inv X zj σ H { s with heap:=h' }:=I.kept (t':=s.toks) kp;have I2:Inv X zj σ (upd H h'.objs.size (.tup ys)) { s with heap:=h'.push { cls:=.type "tuple",data:=.seq its.toArray } } :=
   I1.laid (t':=s.toks) (fun b o e=>get?_push_of_some _ e) (le_refl _) (show ObjOk X.prog X.w _ _ _ (.tup ys) from⟨⟨hz,_,get?_push_size _ rfl,rfl⟩,its,r',IsTup.new _ _⟩)
  exact⟨.ref h'.objs.size,_,I2,rfl,q _ (I1.hok.fresh (le_refl _))⟩
 ·obtain⟨its,r',pl,hz⟩:=I.tuple hq;exact call_tuple_same pl ⟨.ref p,H,I,rfl,q⟩
def tyV(K:W.Frag)(T:String)(x:V)(H:Hp):Prop:=match x with
 | .str _=>T = "str"
 | .int _=>T = "int"
 | .ref p=>(T = "list"/\∃ xs,SqL K H p xs)\/(T = "tuple"/\∃ o,K.lookup p=some o/\o.cls=.type "tuple"/\o.dict=none) \/
   (T = "dict"/\((∃ kvs,H p=some (.dK kvs))\/∃ kvs,H p=some (.dT kvs)))\/(T = "set"/\∃ S n,H p=some (.set S n))
 | _=>False
theorem zpZ{zj:List (Addr×Obj)}{σ:St}{H:Hp}{s:Shared}{T:String}{x:V}{v:Value}(I:Inv X zj σ H s)(r:RelV x v)(ty:tyV X.K T x H):
  s.TypeIs v T/\∀ a,v=.ref a->∃ ob,s.heap.get? a=some ob/\ob.dict=none:=by
 cases x with
 | str z =>
  obtain⟨t,rfl⟩:=r;cases (show T = "str" from ty);exact⟨typeIs_str s z t,fun _ e=>nomatch e⟩
 | int i =>
  obtain⟨t,rfl⟩:=r;cases (show T = "int" from ty);exact⟨typeIs_int s i t,fun _ e=>nomatch e⟩
 | ref p =>
  cases r;rcases ty with ⟨rfl,xs,hq⟩ | ⟨rfl,o,hk,hc,hd⟩ | ⟨rfl,hk⟩ | ⟨rfl,S,n,hk⟩
  ·obtain⟨its,_,pl,_⟩:=I.list hq;refine⟨pl.isList.typeIs,fun a e=>?_⟩;cases e;obtain⟨o,n,e,c,hd,_⟩:=pl;exact⟨o,e,hd⟩
  ·refine⟨⟨o,I.kIn p o hk,hc⟩,fun a e=>?_⟩;cases e;exact⟨o,I.kIn _ o hk,hd⟩
  ·have z:∃ o,s.heap.get? p=some o/\o.ExactDict:=by
    rcases hk with ⟨kvs,hk⟩ | ⟨kvs,hk⟩
    ·obtain⟨_,_,_,_,o,_,_,e,ex,_⟩:=I.hok p _ hk;exact⟨o,e,ex⟩
    ·obtain⟨_,_,_,_,o,_,_,e,ex,_⟩:=I.hok p _ hk;exact⟨o,e,ex⟩
   obtain⟨o,e,ex⟩:=z;refine⟨⟨o,e,ex.1⟩,fun a e2=>?_⟩;cases e2;exact⟨o,e,ex.2.1⟩
  ·obtain⟨o,_,_,_,e,ex,_⟩:=I.hok p _ hk;refine⟨⟨o,e,ex.1⟩,fun a e2=>?_⟩;cases e2;exact⟨o,e,ex.2.1⟩
 | _=>exact False.elim ty
def zvc(K:W.Frag)(T:String)(r:V->List V->Hp->VK->Prop)(to:TE):TE:=fun σ H Q=>to σ H fun x H1=>tyV K T x H1/\r x [] H1 Q
def tBM(K:W.Frag)(T:String)(r:V->List V->Hp->VK->Prop)(to:TE)(t:TA):TE:=fun σ H Q=>to σ H fun x H1=>tyV K T x H1/\t σ H1 fun xs H2=>r x xs H2 Q
variable {o e:Expr} {es:List Expr} {to:TE} {t:TA} {name:Str} {apos cpos:Pos} {T id:String} {r:V->List V->Hp->VK->Prop}
theorem zqi(pa:PlainAttrs T)(slot:Slot T name id)(hty:typeOf (.builtin id)=pure (.type "method_descriptor"))(hm:MtR X id r)(ho:PE X o to)
  (hbase:attributeBase o name X.env (eval o X.env)=eval o X.env:=by rfl) (hline:(apos.endLine == cpos.line)=true:=by rfl):PE X (.Call (.Attribute o name apos) [] [] cpos) (zvc X.K T r to):=by
 intro zj s σ H Q I h;refine wpAny_Call_method0_late hbase hline (thn (ho zj s σ H _ I h) fun v s1 ⟨x,H1,I1,r1,ty,q1⟩=>?_);obtain⟨h1,h2⟩:=zpZ I1 r1 ty;exact⟨T,id,pa,slot,hty,h1,h2,Calls.callWith_builtin rfl (PySem.evalArgs_none (hm zj s1 σ H1 x [] v [] Q I1 r1 .nil q1))⟩
theorem zdR(pa:PlainAttrs T)(slot:Slot T name id)(hty:typeOf (.builtin id)=pure (.type "method_descriptor"))(hm:MtR X id r)(ho:PE X o to)(ha:PA X (e :: es) t)
  (hbase:attributeBase o name X.env (eval o X.env)=eval o X.env:=by rfl)
  (hfew:((backTo cpos (starEach (e :: es) X.env)).all (fun x=>!x.1) && (backToKw cpos (keywordEach [] X.env)).all (fun x=>x.1.isSome)
   && decide ((e :: es).length+([]:List Keyword).length+(if ([]:List Keyword).isEmpty then 0 else 1)<30))=true:=by rfl)
  (hline:(apos.endLine == cpos.line)=true:=by rfl) (hs:starEach (e :: es) X.env=(false,eval e X.env) :: starEach es X.env:=by rfl) (hplain:(backTo cpos (starEach es X.env)).any (·.1)=false:=by rfl) :
  PE X (.Call (.Attribute o name apos) (e :: es) [] cpos) (tBM X.K T r to t):=by
 intro zj s σ H Q I h;refine wpAny_Call_method_late hbase hfew hline rfl (thn (ho zj s σ H _ I h) fun v s1 ⟨x,H1,I1,r1,ty,q1⟩=>?_);obtain⟨h1,h2⟩:=zpZ I1 r1 ty;refine⟨T,id,pa,slot,hty,h1,h2,?_⟩;have hA:=ha cpos zj s1 σ H1 _ I1 q1;rw [hs] at hA ⊢;refine Calls.callWith_builtin (by show (false || (backTo cpos (starEach es X.env)).any (·.1))=false; rw [hplain] <;> rfl) (Calls.evalArgs_plain ?_);exact thn hA fun us s2 ⟨vs,H2,I2,r2,q2⟩=>hm zj s2 σ H2 x vs v us Q I2 r1 r2 q2
end
end
section
def MtM(X:Cx)(id:String)(r:V->List V->Hp->VK->Prop):Prop :=
 ∀ (zj:List (Addr×Obj)) (s:Shared) (σ:St) (H:Hp) (x:V) (xs:List V) (v:Value) (us:List Value) (Q:VK),Inv X zj σ H s->RelV x v->Vals xs us->r x xs H Q ->
  wpAny (model X.prog X.w) X.A (call (.builtin id) (v :: us)) (EP X zj σ Q) X.xe s
theorem Vals.one:∀ {x:V} {us:List Value},Vals [x] us->∃ u,us=[u]/\RelV x u
 | _,_,.cons r .nil=>⟨_,rfl,r⟩
theorem Vals.zero:∀ {us:List Value},Vals [] us->us=[]
 | _,.nil=>rfl
theorem Vals.dropLast{xs:List V}{us:List Value}(h:Vals xs us):Vals xs.dropLast us.dropLast:=by
 induction h with
 | nil=>exact .nil
 | cons r t ih =>
  cases t with
  | nil=>exact .nil
  | cons q t'=>exact .cons r ih
theorem Vals.reverse{xs:List V}{us:List Value}(h:Vals xs us):Vals xs.reverse us.reverse:=by
 induction h with
 | nil=>exact .nil
 | cons r t ih=>rw [reverse_cons,reverse_cons]; exact Vals.append ih (.cons r .nil)
theorem Vals.rep{xs:List V}{us:List Value}(h:Vals xs us):∀ k:Nat,Vals (List.replicate k xs).flatten (List.replicate k us).flatten
 | 0=>.nil
 | k+1=>by
  rw [replicate_succ,replicate_succ,flatten_cons,flatten_cons];exact Vals.append h (Vals.rep h k)
theorem zlP{α:Type}(l:List α):l.eraseIdx (l.length - 1)=l.dropLast:=by
 induction l with
 | nil=>rfl
 | cons a r ih =>
  cases r with
  | nil=>rfl
  | cons b r =>
   have e:(a :: b :: r).length - 1=((b :: r).length - 1)+1:=by
    have h1:(a :: b :: r).length=r.length+2:=rfl;have h2:(b :: r).length=r.length+1:=rfl;omega
   rw [e,List.eraseIdx_cons_succ,ih]
   all_goals rfl
theorem zjK(its:List Value):∀ (k:Nat) (acc:List Value),
  List.foldl (fun x1 x2=>x1++x2) acc.toArray (List.replicate k its.toArray)=(acc++(List.replicate k its).flatten).toArray
 | 0,acc=>by simp
 | k+1,acc=>by
  have e:acc.toArray++its.toArray=(acc++its).toArray:=by simp
  have e2:(acc++its)++(List.replicate k its).flatten=acc++(List.replicate (k+1) its).flatten:=by
   rw [replicate_succ,flatten_cons,append_assoc]
  rw [<- e2,<- zjK its k (acc++its),<- e,replicate_succ,List.foldl_cons]
section
variable {X:Cx} {zj:List (Addr×Obj)} {σ:St} {H:Hp} {s:Shared} {l b:Addr} {xs ys zs:List V}
theorem Inv.lset{its its':List Value}{n:Nat}{f:Array Value->Array Value}{t':Nat}(I:Inv X zj σ H s)(hH:H l=some (.lst xs))
  (e:s.heap.get? l=some { cls:=.type "list",data:=.seq its.toArray n }) (hf:f its.toArray=its'.toArray) (hv:Vals ys its') (hz:ys.length<=sizeLine) :
  Inv X zj σ (upd H l (.lst ys)) { s with heap:=s.heap.update l (Obj.mapSeq f),toks:=t' }:=by
 have q:=PySem.IsL.update e f;rw [hf] at q;refine I.write (x:=l) (e:=l) (by rw [hH]; exact trivial) (.inl rfl) (fun b' u hb hu=>(get?_update_other s.heap (Obj.mapSeq f) (Ne.symm hb)).trans hu) ⟨_,q⟩ ?_;exact⟨hz,its',_,hv,q⟩
theorem Inv.lnew{its:List Value}{t':Nat}(I:Inv X zj σ H s)(hv:Vals ys its)(hz:ys.length<=sizeLine):
  Inv X zj σ (upd H s.heap.objs.size (.lst ys)) { s with heap:=s.heap.push { cls:=.type "list",data:=.seq its.toArray },toks:=t' } :=
 I.laid (fun _ _ q=>get?_push_of_some _ q) (le_refl _) ⟨hz,its,0,hv,get?_push_size _ rfl⟩
theorem Inv.fresh(I:Inv X zj σ H s):H s.heap.objs.size=none:=I.hok.fresh (le_refl _)
theorem Inv.lstM(I:Inv X zj σ H s)(hH:H l=some (.lst xs)):xs.length<=sizeLine/\∃ (its:List Value) (n:Nat),Vals xs its/\xs.length=its.length/\s.heap.get? l=some { cls:=.type "list",data:=.seq its.toArray n }:=by
 obtain⟨z,its,n,r,e⟩:=I.hok l _ hH;exact⟨z,its,n,r,r.length,e⟩
theorem zkL{n:Nat}(h:n<=sizeLine):Builtin.List.listTooLong n=false:=by
 unfold Builtin.List.listTooLong;exact decide_eq_false (by omega)
end
section
variable {X:Cx}
def znB:V->List V->Hp->VK->Prop:=fun x vs H Q=>∃ l xs y,x=.ref l/\vs=[y]/\H l=some (.lst xs)/\xs.length<sizeLine/\Q .non (upd H l (.lst (xs++[y])))
theorem za9:MtM X "list.append" znB:=by
 intro zj s σ H x vs v us Q I rx rv h;obtain⟨l,xs,y,rfl,rfl,hH,hz,q⟩:=h;cases rx;obtain⟨u,rfl,ru⟩:=rv.one;obtain⟨z,its,n,r,hl,e⟩:=I.lstM hH;refine call_meets F.slot_list_append ⟨_,e,rfl⟩ F.entry_list_append (F.args_list_append_2 _ _) (PySem.list_append l its.toArray n u (by rw [size_toArray]; omega)) ⟨e,?_⟩;refine⟨.non,_,I.lset (its':=its++[u]) hH e (by simp) (r.append (.cons ru .nil)) ?_,rfl,q⟩;rw [length_append,length_singleton];omega
def zm7:V->List V->Hp->VK->Prop:=fun x vs H Q=>∃ l b xs zs,x=.ref l/\vs=[.ref b]/\H l=some (.lst xs)/\H b=some (.lst zs)/\xs.length+zs.length<=sizeLine/\Q .non (upd H l (.lst (xs++zs)))
theorem zgw:MtM X "list.extend" zm7:=by
 intro zj s σ H x vs v us Q I rx rv h;obtain⟨l,b,xs,zs,rfl,rfl,hH,hB,hz,q⟩:=h;cases rx;obtain⟨u,rfl,ru⟩:=rv.one;cases ru;obtain⟨z,its,n,r,hl,e⟩:=I.lstM hH;obtain⟨z2,its2,n2,r2,hl2,e2⟩:=I.lstM hB;have hsz:its.toArray.size+its2.toArray.size<=sizeLine:=by rw [size_toArray,size_toArray]; omega
 have hlong:¬ (!its.toArray.isEmpty && Builtin.List.listTooLong (its.toArray.size+its2.toArray.size))=true:=by
  rw [zkL hsz,Bool.and_false];exact Bool.false_ne_true
 refine call_meets F.slot_list_extend ⟨_,e,rfl⟩ F.entry_list_extend (F.args_list_extend_2 _ _)
  (AutoSeq1.list_extend_list_list_0 l its.toArray n b its2.toArray n2 hlong (by rw [size_toArray]; omega) (by omega)) ⟨e,e2,?_⟩
 refine⟨.non,_,I.lset (its':=its++its2) hH e (by simp) (r.append r2) ?_,rfl,q⟩;rw [length_append];omega
def zuS:V->List V->Hp->VK->Prop:=fun x vs H Q=>∃ l xs y,x=.ref l/\vs=[]/\H l=some (.lst xs)/\xs[xs.length - 1]? = some y/\Q y (upd H l (.lst xs.dropLast))
theorem zt2:MtM X "list.pop" zuS:=by
 intro zj s σ H x vs v us Q I rx rv h;obtain⟨l,xs,y,rfl,rfl,hH,hy,q⟩:=h;cases rx;have hus:=rv.zero;subst hus;obtain⟨z,its,n,r,hl,e⟩:=I.lstM hH;obtain⟨u,hu,ru⟩:=r.get hy;have hy':its.toArray[its.toArray.size - 1]? = some u:=by
  show its.toArray[its.length - 1]? = some u;rw [<- Array.getElem?_toList,<- hl];exact hu
 refine call_meets F.slot_list_pop ⟨_,e,rfl⟩ F.entry_list_pop (F.args_list_pop_1 _) (MeetsSeq.list_pop_last l its.toArray n u hy' (by rw [size_toArray]; omega)) ⟨e,?_⟩;refine⟨y,_,I.lset (its':=its.dropLast) hH e ?_ r.dropLast ?_,ru,q⟩
 ·show its.toArray.eraseIdxIfInBounds (its.toArray.size - 1)=its.dropLast.toArray;rw [size_toArray,List.eraseIdxIfInBounds_toArray,zlP]
 ·rw [List.length_dropLast];omega
def zlo:V->List V->Hp->VK->Prop:=fun x vs H Q=>∃ l xs,x=.ref l/\vs=[]/\H l=some (.lst xs)/\Q .non (upd H l (.lst xs.reverse))
theorem zlK:MtM X "list.reverse" zlo:=by
 intro zj s σ H x vs v us Q I rx rv h;obtain⟨l,xs,rfl,rfl,hH,q⟩:=h;cases rx;have hus:=rv.zero;subst hus;obtain⟨z,its,n,r,hl,e⟩:=I.lstM hH;refine call_meets F.slot_list_reverse ⟨_,e,rfl⟩ F.entry_list_reverse (F.args_list_reverse_1 _) (AutoSeq1.list_reverse_list_0 l its.toArray n (by rw [size_toArray]; omega)) ⟨e,?_⟩;refine⟨.non,_,I.lset (its':=its.reverse) hH e (by simp) r.reverse ?_,rfl,q⟩;rw [List.length_reverse];omega
def zsF:R2:=fun x y H Q=>∃ l b xs zs,x=.ref l/\y=.ref b/\H l=some (.lst xs)/\H b=some (.lst zs)/\xs.length+zs.length<=sizeLine/\∀ p,H p=none->Q (.ref p) (upd H p (.lst (xs++zs)))
theorem zoe:OpR X (binaryOp .Add) zsF:=by
 intro zj s σ H x y v u Q I rx ry h;obtain⟨l,b,xs,zs,rfl,rfl,hH,hB,hz,q⟩:=h;cases rx;cases ry;obtain⟨z,its,n,r,hl,e⟩:=I.lstM hH;obtain⟨z2,its2,n2,r2,hl2,e2⟩:=I.lstM hB;refine PySem.P.add_list e e2 ?_ (by rw [size_toArray,size_toArray]; omega);have ea:its.toArray++its2.toArray=(its++its2).toArray:=by simp
 rw [ea];exact⟨.ref _,_,I.lnew (t':=s.toks) (r.append r2) (by rw [length_append]; omega),rfl,q _ I.fresh⟩
def zu9:R2:=fun x y H Q=>∃ l k xs,x=.ref l/\y=.int k/\H l=some (.lst xs)/\-(2 ^ 63)<=k/\k<2 ^ 63/\xs.length*k.toNat<=sizeLine /\
 ∀ p,H p=none->Q (.ref p) (upd H p (.lst (List.replicate k.toNat xs).flatten))
theorem zrz{α:Type}(xs:List α)(k:Nat):(List.replicate k xs).flatten.length=k*xs.length:=by
 induction k with
 | zero=>simp
 | succ k ih=>rw [replicate_succ,flatten_cons,length_append,ih,succ_mul,Nat.add_comm]
theorem ztB:OpR X (binaryOp .Mult) zu9:=by
 intro zj s σ H x y v u Q I rx ry h;obtain⟨l,k,xs,rfl,rfl,hH,h1,h2,hz,q⟩:=h;cases rx;obtain⟨t,rfl⟩:=ry;obtain⟨z,its,n,r,hl,e⟩:=I.lstM hH;have hlen:its.toArray.size*k.toNat<=sizeLine:=by rw [size_toArray,<- hl]; exact hz
 have hcap:¬ its.toArray.size*k.toNat>(2 ^ 63 - 1) / 8:=by
  have:(sizeLine:Nat)<=(2 ^ 63 - 1) / 8:=by decide
  omega
 have hfit:¬ (!Builtin.List.listFitsIndex k)=true:=by
  rw [fitsIndex_both h1 h2];exact Bool.false_ne_true
 have hlong:¬ Builtin.List.listTooLong (its.toArray.size*k.toNat)=true:=by
  rw [zkL hlen];exact Bool.false_ne_true
 have hnew:List.foldl (fun x1 x2=>x1++x2) #[] (List.replicate (if its.toArray.isEmpty=true then 0 else k.toNat) its.toArray)=(List.replicate k.toNat its).flatten.toArray:=by
  have f0:∀ m:Nat,List.foldl (fun x1 x2=>x1++x2) #[] (List.replicate m its.toArray)=(List.replicate m its).flatten.toArray:=fun m=>by
   have:=zjK its m [];rw [nil_append] at this;exact this
  rw [f0];cases its with
  | nil=>simp
  | cons a r'=>rw [if_neg (by simp)]
 refine wpAny_binaryOp_repeat_ref (T:="list") (U:="int") dz ⟨_,e,rfl⟩ (fun s'=>typeIs_int s' k t) noFill_list_mul F.fills_int_mul F.slot_int_rmul repeat_list F.slot_int_index.lookup
  (call_meets F.slot_int_rmul (typeIs_int s k t) F.entry_int_rmul (F.args_int_rmul_2 _ _) (int___rmul___int_list k t l its.toArray n)
   ⟨e,rfl,⟨_,e,rfl⟩,call_meets F.slot_list_mul ⟨_,e,rfl⟩ F.entry_list_mul (F.args_list_mul_2 _ _) (AutoListH.list___mul___list_int_3 l its.toArray n k t hfit hcap hlong) ⟨e,?_⟩⟩)
 rw [hnew];exact⟨.ref _,_,I.lnew (t':=s.toks) (r.rep k.toNat) (by rw [zrz,mul_comm]; exact hz),rfl,q _ I.fresh⟩
end
end
section
structure M1(X:Cx)(o:Expr)(m:Str)(apos:Pos)(e:Expr)(cpos:Pos):Prop where
 base:attributeBase o m X.env (eval o X.env)=eval o X.env
 few:((backTo cpos (starEach [e] X.env)).all (fun x=>!x.1) && (backToKw cpos (keywordEach [] X.env)).all (fun x=>x.1.isSome)
  && decide (([e]:List Expr).length+([]:List Keyword).length+(if ([]:List Keyword).isEmpty then 0 else 1)<30))=true
 line:(apos.endLine == cpos.line)=true
 trees:backTo cpos (starEach [e] X.env)=[(false,eval e X.env)]
structure M2(X:Cx)(o:Expr)(m:Str)(apos:Pos)(e f:Expr)(cpos:Pos):Prop where
 base:attributeBase o m X.env (eval o X.env)=eval o X.env
 few:((backTo cpos (starEach [e,f] X.env)).all (fun x=>!x.1) && (backToKw cpos (keywordEach [] X.env)).all (fun x=>x.1.isSome)
  && decide (([e,f]:List Expr).length+([]:List Keyword).length+(if ([]:List Keyword).isEmpty then 0 else 1)<30))=true
 line:(apos.endLine == cpos.line)=true
 trees:backTo cpos (starEach [e,f] X.env)=[(false,eval e X.env),(false,eval f X.env)]
end
end L2
namespace Att
open PySem PySem.W PySem.Calls PyProof.Rows
theorem zfS{P:Params}{h:Heap}:∀ (ns:List Int) (vs:List Value),WellAll P h vs (ns.map WData.int)->IntsAre vs ns:=by
 intro ns;induction ns with
 | nil =>
  intro vs w;rw [map_nil] at w;cases w;exact .nil
 | cons n ns ih =>
  intro vs w;rw [map_cons] at w;cases w with
  | cons a b =>
   cases a;exact .cons _ _ (ih _ b)
theorem znU{l:OpenLaw}{n:Nat}(hn:l.most=some n){P:Params}{h:Heap}{args:List WData}{vals:List Value}
  (hpre:l.row.toRowW.claim.pre args=true) (hwl:WellAll P h vals args) :
  ∃ a vs ns,vals=[Value.ref a]/\args=[WData.list (ns.map WData.int)]/\h.get? a=some { cls:=.type "list",data:=.seq vs.toArray }/\IntsAre vs ns/\ns.length<=n:=by
 have hsh:WShape.hasAll [] args [.list .int]=true:=(pre_splitW hpre).1;have hc:l.pre.holds [] { args:=args } = true:=(pre_splitW hpre).2;obtain⟨d,r,rfl,h1,h2⟩:=hasAllW_cons hsh;obtain rfl:=hasAllW_nil h2;obtain⟨xs,rfl,h3⟩:=hasW_list h1;obtain⟨ns,rfl⟩:=items_int h3;have hlen:ns.length<=n:=by
  unfold OpenLaw.pre at hc;have h4:(WTm.not (.lt (.lit (.int (n:Int))) (.len (.arg 0)))).holds [] { args:=[.list (ns.map .int)] } = true:=by
   have h4:=(holds_andW hc).1;rw [hn] at h4;exact h4
  have h5:=condW_of h4 (w_not (w_lt w_lit (w_len_list (w_arg rfl))));rw [length_map] at h5;refine Nat.le_of_not_lt fun q=>?_;have q':(n:Int)<((ns.length:Nat):Int):=by omega
  first
   | (rw [decide_eq_true q'] at h5; exact absurd h5 dz)
   | (simp at h5; omega)
 cases hwl with
 | cons w1 w2 =>
  cases w2;cases w1 with
  | list ho hall=>exact⟨_,_,ns,rfl,rfl,ho,zfS ns _ hall,hlen⟩
theorem znr(l:OpenLaw)(args:List WData):l.row.toRowW.claim.post args (.bool true) args=true :=
 postW_of (r:=l.row.toRowW) (X:=(true == true))
  (show WShape.has [] (.bool true) .bool=true by first | rfl | decide | simp [WShape.has,WShape.arms,WShape.armsAll])
  (show (WTm.eq .res (.lit (.bool true))).value [] { args:=args,res:=some (.bool true),after:=args } = some (.bool (true == true)) from w_eq_bool (w_res rfl) w_lit) rfl
theorem attach_call{l:OpenLaw}{n:Nat}{q:Program}{loose:List Str}{XP:(Str->Option Value)->Heap->Prop}{YP:World->Heap->Prop}{d:DefRec}
  (hn:l.most=some n) (hdf:d.params.defaults=[])
  (call:∀ (w:World) (s₀ s₁:Shared) (mg mb:Str->Option Value) (fa:Addr) (o:Obj) (pm cd doc:Value) (a:Addr) (vs:List Value) (ns:List Int),
   Ground q loose [] XP w s₀ mg mb s₁.heap->YP w s₁.heap ->
   s₁.heap.get? fa=some o->o.data=.func (docDef d.name d.params d.body d.scope pm cd doc)->s₁.heap.CodeRec cd d.name->mg d.name=some (.ref fa) ->
   s₁.heap.get? a=some { cls:=.type "list",data:=.seq vs.toArray }->IntsAre vs ns->ns.length<=n->s₁.gens = #[] ->
   codeAny (model l.prog w) callerA (.call (.ref fa) ⟨[.ref a],[]⟩) (fun r s'=>r=.ok (.ret (.bool true))/\OldK s₁.heap s'.heap/\s'.os=s₁.os/\AllBare s'.gens) s₁) :
  WalkO q loose XP YP l.row.toRowW d [] (fun f vs=>PySem.call f vs):=by
 intro w s₀ s₁ mg mb G Y fa o pm cd doc dV kV ho hd hcd hD hmg hg args vals as hpre hlay hrd hwl hlo;obtain rfl:dV=.none:=Dflts.none hD hdf;obtain rfl:kV=.none:=Dflts.noKw hD;obtain⟨a,vs,ns,rfl,rfl,hobj,hints,hlen⟩:=znU hn hpre hwl;refine enter_call (codeAny_mono (call w s₀ s₁ mg mb fa o pm cd doc a vs ns G Y ho (fd_plain hd) hcd hmg hobj hints hlen hg) fun r s' hq=>?_);obtain⟨rfl,h2,h3,h4⟩:=hq;exact⟨.inl ⟨.bool true,.bool true,[],rfl,fun _=>rfl,.bool true,znr l _,fun _=>⟨List.Pairwise.nil,fun _ hm=>(nomatch hm)⟩⟩,h2,h3,h4⟩
end Att
namespace L2
open PySem PySem.Spec PyProof.Rows
section
theorem zjN:∀ {vs:List Value} {ns:List Int},IntsAre vs ns->Vals (ns.map V.int) vs
 | _,_,.nil=>.nil
 | _,_,.cons n t h=>.cons ⟨t,rfl⟩ (zjN h)
def Only(H:Hp):Prop:=∀ b,H b=none\/(∃ o xs,H b=some (.frz o (.lst xs)))\/∃ q∈tabsG,q.1.2=b/\H b=some (.tbl q.2)
def zeY(b:Addr):Option HO:=(tabsG.find? fun q=>q.1.2 == b).map fun q=>.tbl q.2
theorem zdZ{b:Addr}{u:HO}(e:zeY b=some u):∃ q∈tabsG,q.1.2=b/\u=.tbl q.2:=by
 unfold zeY at e;cases h:tabsG.find? fun q=>q.1.2 == b with
 | none=>rw [h] at e; cases e
 | some q =>
  rw [h] at e;cases e;exact⟨q,List.mem_of_find?_eq_some h,by simpa using List.find?_some h,rfl⟩
theorem zmj{l:List ((Addr×Addr)×Array Value)}(nd:(l.map fun q=>q.1.2).Nodup){q:(Addr×Addr)×Array Value}(h:q∈l):l.find? (fun r=>r.1.2 == q.1.2)=some q:=by
 induction l with
 | nil=>cases h
 | cons p l ih =>
  rw [map_cons,nodup_cons] at nd;rcases mem_cons.mp h with e | e
  ·subst e; simp
  ·have ne:¬ p.1.2=q.1.2:=fun z=>nd.1 (by rw [z]; exact mem_map_of_mem (f:=fun q:(Addr×Addr)×Array Value=>q.1.2) e);rw [List.find?_cons_of_neg (by simpa using ne)];exact ih nd.2 e
theorem zjM(nd:(tabsG.map fun q=>q.1.2).Nodup){q:(Addr×Addr)×Array Value}(h:q∈tabsG):zeY q.1.2=some (.tbl q.2):=by
 unfold zeY;rw [zmj nd h];rfl
structure TabsOk(K:W.Frag)(h:Heap):Prop where
 nd:(tabsG.map fun q=>q.1.2).Nodup
 hd:∀ q∈tabsG,W.CodeHd h q.1.1 q.1.2
 empty:∀ q∈tabsG,h.get? q.1.2=some (W.tabObj #[])
 off:∀ q∈tabsG,K.lookup q.1.2=none
theorem zpq{P:Program}{w:World}{K:W.Frag}{mg mb:Str->Option Value}{CX:CXT}{k:Nat}{fa a:Addr}{fd:FuncData}{x:Str}{sp:Sp}{s₁:Shared}{vs:List Value}{ns:List Int}
  (KX:K.In s₁.heap) (TT:TabsOk K s₁.heap) (hbm:BltAt s₁.heap mg) (hns:s₁.heap.Ns mainGlobals mg) (hb:s₁.heap.Ns builtinsNs mb) (hbb:∀ x:Str,x ≠ "__name__"->mb x=bootBuiltins x) (hlim:s₁.heap.NoLimit) (hg:s₁.gens = #[])
  (ha:s₁.heap.get? a=some { cls:=.type "list",data:=.seq vs.toArray }) (hi:IntsAre vs ns) (hl:ns.length<=sizeLine) (hr:Room k callerA)
  (F:∀ base:Heap,K.In base->base.Ns mainGlobals mg->FnOk P w K mg base CX k fa fd [x] sp) (hbind:∀ (s:Shared) (u:Value),BindsTo s fd ⟨[u],[]⟩ [(x,u)])
  (hsp:∀ H:Hp,Only H->SqL K H a (ns.map V.int)->sp [.ref a] H (fun v _=>v=.bl true) fun _ _ _=>False)
  (hCX:∀ H e s',CX [] H s₁ (fun _ _ _=>False) e s'->False) :
  codeAny (model P w) callerA (.call (.ref fa) ⟨[.ref a],[]⟩) (fun r s'=>r=.ok (.ret (.bool true))/\OldK s₁.heap s'.heap/\s'.os=s₁.os/\AllBare s'.gens) s₁:=by
 have rv:=zjN hi;have lenV:=hi.length
 -- from an abstract heap in which nothing but the script may be tracked
 have core:∀ H:Hp,Only H->SqL K H a (ns.map V.int)->HOk P w H s₁.heap->(∀ b,H b≠none->b=a\/∃ q∈tabsG,q.1.2=b)->(H a≠none->K.lookup a=none)->(∀ q∈tabsG,H q.1.2=some (.tbl q.2)) ->
   codeAny (model P w) callerA (.call (.ref fa) ⟨[.ref a],[]⟩) (fun r s'=>r=.ok (.ret (.bool true))/\OldK s₁.heap s'.heap/\s'.os=s₁.os/\AllBare s'.gens) s₁:=by
  intro H hO hS hok hA hK hTab;have noO:∀ {b:Addr} {o:Obj},s₁.heap.get? b=some o->o.cls≠.type "list"->o.cls≠.none->H b=none:=fun {b o} e c1 c2=>by
   cases q:H b with
   | none=>rfl
   | some u =>
    rcases hA b (by rw [q]; simp) with e' | ⟨r,hr',e'⟩
    ·subst e';rw [ha] at e; cases e;exact absurd rfl c1
    ·have:=TT.empty r hr';rw [e',e] at this;cases this;exact absurd rfl c2
  have base_of:∀ {b:Addr} {o:Obj},s₁.heap.get? b=some o->H b=none->(zoE s₁.heap H).get? b=some o:=fun e n=>zpc e n;have noA:∀ {b:Addr} {o:Obj} {es:Array DictEntry} {ep:Nat},s₁.heap.get? b=some o->o.data=.dict es ep->H b=none:=fun {b o es ep} e d=>by
   cases q:H b with
   | none=>rfl
   | some u =>
    rcases hA b (by rw [q]; simp) with e' | ⟨r,hr',e'⟩
    ·subst e';rw [ha] at e; cases e;have d':Data.seq vs.toArray _=Data.dict es ep:=d;cases d'
    ·have:=TT.empty r hr';rw [e',e] at this;cases this;cases d
  have nsK:∀ {b:Addr} {m:Str->Option Value},s₁.heap.Ns b m->(zoE s₁.heap H).Ns b m:=fun {b m} ⟨o,es,ep,e,d,r⟩=>⟨o,es,ep,base_of e (noA e d),d,r⟩;have hKb:K.In (zoE s₁.heap H):=fun b o e=>base_of (KX b o e) (by
   cases q:H b with
   | none=>rfl
   | some u =>
    rcases hA b (by rw [q]; simp) with e' | ⟨r,hr',e'⟩
    ·subst e';rw [hK (by rw [q]; simp)] at e; cases e
    ·rw [<- e',TT.off r hr'] at e; cases e)
  have hM:Mod K mg (zoE s₁.heap H):=⟨hKb,nsK hns,⟨mb,nsK hb,hbb⟩,let ⟨mc,h1,h2⟩:=hlim; ⟨mc,nsK h1,h2⟩,
   let ⟨bm,ob,b1,b2,b3,b4,b5⟩:=hbm; ⟨bm,ob,b1,b2,base_of b3 (noO b3 (by rw [b4]; decide) (by rw [b4]; decide)),b4,b5⟩,
   fun q hq=>let ⟨o,vs,file,tf,flags,tg,inF,text,tt,e1,c1,r⟩:=TT.hd q hq; ⟨o,vs,file,tf,flags,tg,inF,text,tt,base_of e1 (noO e1 (by rw [c1]; decide) (by rw [c1]; decide)),c1,r⟩⟩
  have e0:Env0 P w K mg (zoE s₁.heap H) callerA [] s₁ H:=⟨rfl,hM,fun b o e=>zrA e,le_of_eq (zmY _ _),trivial,⟨fun b hb=>absurd (show b∈([]:List Addr) from hb) (by simp),hTab⟩,hok,.of_eq hg⟩;refine codeAny_mono ((F _ hKb (nsK hns)).run callerA [] s₁ H ⟨[.ref a],[]⟩ [.ref a] [.ref a] _ _ hr e0 (hbind s₁ (.ref a)) (.cons rfl .nil) (hsp H hO hS)) fun r s' h=>?_;cases r with
  | error e=>exact(hCX H e s' h).elim
  | ok fl =>
   cases fl with
   | next=>exact False.elim h
   | brk=>exact False.elim h
   | cont=>exact False.elim h
   | ret u =>
    obtain⟨v,H',os,bare,un,hok',r',q⟩:=h;have q':v=.bl true:=q;subst q';obtain rfl:u=Value.bool true:=r';have all:∀ b o,s₁.heap.get? b=some o->s'.heap.get? b=some o\/∃ q∈tabsG,q.1.2=b/\o=W.tabObj #[]/\∃ ps,s'.heap.get? b=some (W.tabObj ps):=fun b o e=>by
     cases q:H b with
     | none=>exact .inl (un.keep b o e q (by intro z; exact absurd (show b∈([]:List Addr) from z) (by simp)) (by simp))
     | some u =>
      rcases hO b with z | ⟨ob,xs,z⟩ | ⟨r,hr',e',z⟩
      ·rw [q] at z; cases z
      ·have z2:=un.frzs b ob _ z;obtain⟨e1,_⟩:=hok b _ z;obtain⟨e2,_⟩:=hok' b _ z2;rw [e] at e1; cases e1;exact .inl e2
      ·obtain⟨qs,e2,_⟩:=hok' b _ (un.tbls b _ z);have:=TT.empty r hr';rw [e',e] at this;cases this;exact .inr ⟨r,hr',e',rfl,qs,e2⟩
    refine⟨rfl,⟨fun b o e=>?_,fun b o e=>?_⟩,os,bare⟩
    ·rcases all b o e with z | ⟨r,hr',rfl,rfl,ps,z⟩
     ·exact .inl z
     ·exact .inr (.inl ⟨((TT.hd r hr').tab (TT.empty r hr')).isCodeTable,rfl,#[],ps,rfl,by rw [Array.empty_append]; exact z⟩)
    ·rcases all b o e with z | ⟨r,hr',rfl,rfl,ps,z⟩
     ·exact⟨o,z⟩
     ·exact⟨_,z⟩
 have naT:∀ q∈tabsG,q.1.2≠a:=fun q hq z=>by
  have:=TT.empty q hq;rw [z,ha] at this;cases this
 have tOk:∀ (H:Hp) (b:Addr) (u:HO),zeY b=some u->ObjOk P w H s₁.heap b u:=fun H b u z=>by
  obtain⟨q,hq,rfl,rfl⟩:=zdZ z;exact⟨#[],TT.empty q hq,.inl rfl⟩
 cases hk:K.lookup a with
 | some o =>
  -- the script is one of the module's own objects
  have e:=KX a o hk;rw [ha] at e;cases e;refine core zeY (fun b=>?_) (.inr ⟨_,vs.toArray,_,hk,rfl,rfl,rfl,by rw [size_toArray,lenV]; exact hl,by simpa using rv⟩) (tOk zeY) (fun b z=>?_) (fun z=>?_) fun q hq=>zjM TT.nd hq
  ·cases q:zeY b with
   | none=>exact .inl rfl
   | some u=>obtain⟨r,hr',e',rfl⟩:=zdZ q; exact .inr (.inr ⟨r,hr',e',rfl⟩)
  ·cases q:zeY b with
   | none=>exact absurd q z
   | some u=>obtain⟨r,hr',e',_⟩:=zdZ q; exact .inr ⟨r,hr',e'⟩
  ·cases q:zeY a with
   | none=>exact absurd q z
   | some u=>obtain⟨r,hr',e',_⟩:=zdZ q; exact absurd e' (naT r hr')
 | none =>
  refine core (fun b=>if b=a then some (.frz { cls:=.type "list",data:=.seq vs.toArray } (.lst (ns.map V.int))) else zeY b) (fun b=>?_) (.inl (.inr ⟨{ cls:=.type "list",data:=.seq vs.toArray },if_pos rfl⟩)) (fun b u z=>?_) (fun b z=>?_) (fun _=>hk) fun q hq=>(if_neg (naT q hq)).trans (zjM TT.nd hq)
  ·by_cases hb:b=a
   ·exact .inr (.inl ⟨_,_,if_pos hb⟩)
   ·cases q:zeY b with
    | none=>exact .inl ((if_neg hb).trans q)
    | some u=>obtain⟨r,hr',e',rfl⟩:=zdZ q; exact .inr (.inr ⟨r,hr',e',(if_neg hb).trans q⟩)
  ·by_cases hb:b=a
   ·have z':=(if_pos hb).symm.trans z;cases z';subst hb;exact⟨ha,by rw [length_map]; exact hl,vs,_,rv,ha⟩
   ·have z':=(if_neg hb).symm.trans z;exact tOk _ b u z'
  ·by_cases hb:b=a
   ·exact .inl hb
   ·cases q:zeY b with
    | none=>exact absurd ((if_neg hb).trans q) z
    | some u=>obtain⟨r,hr',e',_⟩:=zdZ q; exact .inr ⟨r,hr',e'⟩
end
section
abbrev KOf {K:W.Frag} {h:Heap} (_:K.In h):W.Frag:=K
theorem walk_of{l:W.OpenLaw}{n k:Nat}{q:Program}{loose:List Str}{XP:(Str->Option Value)->Heap->Prop}{YP:World->Heap->Prop}{d:DefRec}{K:Params->W.Frag}{CX:World->CXT}{sp:World->Sp}{x:Str}
  (hn:l.most=some n) (hn2:n<=sizeLine) (hdf:d.params.defaults=[]) (hr:Room k callerA)
  (hY:∀ (w:World) (h:Heap),YP w h->(K w.params).In h)
  (hT:∀ (w:World) (h:Heap),YP w h->TabsOk (K w.params) h)
  (F:∀ (w:World) (mg:Str->Option Value) (fa:Addr) (h:Heap),(K w.params).In h->h.Ns mainGlobals mg->mg d.name=some (.ref fa) ->
   ∃ fd:FuncData,(∀ (s:Shared) (u:Value),BindsTo s fd ⟨[u],[]⟩ [(x,u)]) /\
    ∀ base:Heap,(K w.params).In base->base.Ns mainGlobals mg->FnOk l.prog w (K w.params) mg base (CX w) k fa fd [x] (sp w))
  (hsp:∀ (w:World) (H:Hp) (a:Addr) (ns:List Int),ns.length<=n->Only H->SqL (K w.params) H a (ns.map V.int)->sp w [.ref a] H (fun v _=>v=.bl true) fun _ _ _=>False)
  (hCX:∀ (w:World) (H:Hp) (s:Shared) (e:Value) (s':Shared),CX w [] H s (fun _ _ _=>False) e s'->False) :
  W.WalkO q loose XP YP l.row.toRowW d [] (fun f vs=>PySem.call f vs):=by
 refine Att.attach_call hn hdf fun w s₀ s₁ mg mb fa o pm cd doc a vs ns G Y ho hd hcd hmg hobj hints hlen hg=>?_;have KX:=hY w _ Y;obtain⟨fd,hb,hF⟩:=F w mg fa _ KX G.T.g hmg;exact zpq KX (hT w _ Y) (let ⟨bm,ob,a1,a2,a3,a4,a5,a6⟩:=G.T.bmain; ⟨bm,ob,a1,a2,a3,a4,a5,a6⟩) G.T.g G.T.b G.T.builtins G.T.nolimit hg hobj hints (le_trans hlen hn2) hr hF hb (fun H hO hS=>hsp w H a ns hlen hO hS) fun H e s'=>hCX w H s₁ e s'
end
section
def zq8(s:Stmt)(j:Nat):Stmt:=match s with
 | .ClassDef _ _ _ body _ _ _ _ _ _ _=>body.getD j (.Pass ⟨0,0,0,0⟩)
 | _=>.Pass ⟨0,0,0,0⟩
def zdc(s:Stmt):Arguments:=match s with
 | .FunctionDef _ a _ _ _ _ _ _ _ _=>a
 | _=>{ posonlyargs:=[],args:=[],vararg:=none,kwonlyargs:=[],kw_defaults:=[],kwarg:=none,defaults:=[] }
def zaO(s:Stmt):List Stmt:=match s with
 | .FunctionDef _ _ b _ _ _ _ _ _ _=>b
 | _=>[]
def zf(s:Stmt):Scope:=match s with
 | .FunctionDef _ _ _ _ _ _ sc _ _ _=>sc
 | _=>{ kind:=.function,names:=[],isGenerator:=false,isCoroutine:=false }
abbrev CX0:CXT:=fun _ _ _ _ _ _=>False
abbrev E0:XK:=fun _ _ _=>False
theorem pass0{X:Cx}:Passes CX0 X E0:=fun _ _ _ _ _ _ _ h=>h.elim
structure Fun(K:W.Frag)(x qual:Str)(st:Stmt)(f:Addr)(fd:FuncData):Prop where
 ex:∃ (oc:Value) (od:Option Addr) (kV doc pm:Value) (an:Option Addr) (cdv ct:Value) (osl:Array (Option Value)),
  fd=W.fnOf x qual (zdc st) (zaO st) (zf st) .none kV doc pm an cdv ct/\K.lookup f=some ⟨oc,od,.func fd,osl⟩/\W.codeIn K cdv qual=true
 kp:W.keepIn K (.ref f)=true
section
variable {P:Program} {w:World} {K:W.Frag} {mg:Str->Option Value} {base:Heap}
theorem Fun.ok{x qual:Str}{st:Stmt}{f:Addr}{fd:FuncData}{N ps:List Str}{k:Nat}{sp:Sp}(F:Fun K x qual st f fd)(S:FnScope N ps (zf st))(len:∀ vs H Q E,sp vs H Q E->vs.length=ps.length)
  (hbody:∀ (cdv:Value) (A:Around) (outer:List Env) (s:Shared) (H:Hp) (vs:List V) (Q:VK) (E:XK),Room k (A.deeper (envOfC qual (zf st) s.heap.objs.size f cdv))->sp vs H Q E ->
   ∃ t,PSs (zgI CX0 P w K mg base N qual (zf st) f cdv A outer s H E).nox (zaO st) t/\t { nx:=fun _ H'=>Q .non H',rt:=Q } (start N vs) H):FnOk P w K mg base CX0 (k+1) f fd ps sp:=by
 obtain⟨oc,od,kV,doc,pm,an,cdv,ct,osl,rfl,lk,hcd⟩:=F.ex;refine zoD lk hcd S len fun A outer s H vs Q E hr hsp=>?_;obtain⟨t,h,q⟩:=hbody cdv A outer s H vs Q E hr hsp;exact⟨t,h.nox,q⟩
theorem Fun.binds{x qual:Str}{st:Stmt}{f:Addr}{fd:FuncData}{ps:List Str}(F:Fun K x qual st f fd)
  (h:∀ (kV doc pm:Value) (an:Option Addr) (cdv ct:Value) (us:List Value),us.length=ps.length->bindArgs (W.fnOf x qual (zdc st) (zaO st) (zf st) .none kV doc pm an cdv ct) ⟨us,[]⟩=pure (ps.zip us)):Binds K fd ps []:=by
 obtain⟨oc,od,kV,doc,pm,an,cdv,ct,osl,rfl,lk,hcd⟩:=F.ex;exact .all (h kV doc pm an cdv ct)
theorem zkG{x qual:Str}{st:Stmt}{f:Addr}{oc:Value}{od an:Option Addr}{osl:Array (Option Value)}{kV doc pm cdv ct:Value}(l:K.lookup f=some ⟨oc,od,.func (W.fnOf x qual (zdc st) (zaO st) (zf st) .none kV doc pm an cdv ct),osl⟩)
  (c:W.codeIn K cdv qual=true) (k:W.keepIn K (.ref f)=true):Fun K x qual st f (W.fnOf x qual (zdc st) (zaO st) (zf st) .none kV doc pm an cdv ct):=⟨⟨oc,od,kV,doc,pm,an,cdv,ct,osl,rfl,l,c⟩,k⟩
end
theorem small1000{n:Nat}(h:n<=1000):n<sizeLine:=Nat.lt_of_le_of_lt h dz
section
variable {X:Cx}
theorem pv(i:Nat){x:Str}{pos:Pos}(hN:X.N[i]? = some x:=by rfl)(hv:Vis X.env.scope x:=by first | exact Or.inl rfl | exact Or.inr (Or.inl rfl) | exact Or.inr (Or.inr rfl))(hd:(x == ("__debug__":Str))=false:=by decide)
  (hcd:(x == ("__classdict__":Str))=false:=by decide):PE X (.Name x pos) (zlv i):=zsA hN hv hd hcd
end
theorem zox{A B:Prop}(h:B):if false=true then A else B:=by
 rw [if_neg Bool.false_ne_true];exact h
theorem zou{A B:Prop}(h:A):if true=true then A else B:=by
 rw [if_pos rfl];exact h
theorem ite2{c A B:Prop}[Decidable c](h1:c->A)(h2:¬ c->B):if c then A else B:=by
 by_cases h:c
 ·rw [if_pos h];exact h1 h
 ·rw [if_neg h];exact h2 h
def Same(H H':Hp):Prop:=∀ b o,H b=some o->H' b=some o
theorem Same.refl(H:Hp):Same H H:=fun _ _ h=>h
theorem Same.trans{H H1 H2:Hp}(a:Same H H1)(b:Same H1 H2):Same H H2:=fun c o h=>b c o (a c o h)
theorem Same.seq{K:W.Frag}{H H':Hp}{a:Addr}{xs:List V}(e:Same H H')(h:SqL K H a xs):SqL K H' a xs:=by
 rcases h with (h | ⟨o,h⟩) | h
 ·exact .inl (.inl (e _ _ h))
 ·exact .inl (.inr ⟨o,e _ _ h⟩)
 ·exact .inr h
end
section
section
variable {X:Cx}
def CDivX(i j:Int):Prop:=0<j/\j.natAbs.log2<9000
theorem zpx:OpR X (binaryOp .FloorDiv) (rI CDivX fun i j=>.int (i / j)):=opI fun i j _ _ _ _ _ hc q=>by
 have h1:(0:Int)<j:=hc.1;exact floordiv_int (by omega) (by rw [Int.fdiv_eq_ediv_of_nonneg i (by omega)]; exact q) (.inl (PyProof.noPylong_of_log2 hc.2))
theorem zq2:OpR X (binaryOp .Mult) (rI IntMulOk fun i j=>.int (i*j)):=opI fun _ _ _ _ _ _ _ hc q=>mul_int q hc
theorem zor{k:Int}{n:Nat}(h:k.natAbs<2 ^ n):Builtin.Int.intBits k<=n:=by
 unfold Builtin.Int.intBits;split
 ·exact zero_le _
 ·rename_i h0;have hk:k.natAbs≠0:=by
   intro z;apply h0;rw [Int.natAbs_eq_zero.mp z];rfl
  have:=(Nat.log2_lt hk).mpr h;omega
theorem zuq{i j:Int}(n m:Nat)(hi:i.natAbs<2 ^ n)(hj:j.natAbs<2 ^ m)(hn:n<=2 ^ 20:=by decide)(hm:m<=2 ^ 20:=by decide):IntMulOk i j :=
 .of_bits (le_trans (zor hi) hn) (le_trans (zor hj) hm)
theorem zd5{i j:Int}(h1:-(2 ^ 64)<i)(h2:i<2 ^ 64):IntMulOk i j:=.of_left (intBits_le_64 h1 h2)
theorem zkV{i j:Int}(h1:-(2 ^ 64)<j)(h2:j<2 ^ 64):IntMulOk i j:=.of_right (intBits_le_64 h1 h2)
theorem zck{n:Int}{k:Nat}(h0:0<n)(h:n<2 ^ k):n.natAbs.log2<k:=by
 refine(Nat.log2_lt (by omega)).mpr ?_;have e:((2 ^ k:Nat):Int)=(2:Int) ^ k:=by simp
 omega
end
def kD:Key->PyData
 | .inl i=>.int i
 | .inr x=>.str x
def DOf(H:Hp)(a:Addr)(ks:List PyData)(vs:List V):Prop :=
 (∃ (ob:Obj) (m:List (Key×V)),H a=some (.frz ob (.dK m))/\ks=m.map (fun p=>kD p.1)/\vs=m.map (·.2)) \/
 ∃ (ob:Obj) (p:List Key×V) (m:List (List Key×V)),H a=some (.frz ob (.dT (p :: m)))/\ks=(p :: m).map (fun p=>.tuple (p.1.map kD))/\vs=(p :: m).map (·.2)
mutual
def Has(H:Hp):PyData->V->Prop
 | .none,v=>v=.non
 | .bool b,v=>v=.bl b
 | .int i,v=>v=.int i
 | .str x,v=>v=.str x
 | .list ds,v=>∃ a vs,v=.ref a/\H a=some (.lst vs)/\HasL H ds vs
 | .tuple ds,v=>∃ a vs,v=.ref a/\H a=some (.tup vs)/\HasL H ds vs
 | .dict kvs,v=>∃ a vs,v=.ref a/\DOf H a (kvs.map (·.1)) vs/\HasV H kvs vs
def HasL(H:Hp):List PyData->List V->Prop
 | [],vs=>vs=[]
 | d :: ds,vs=>∃ v r,vs=v :: r/\Has H d v/\HasL H ds r
def HasV(H:Hp):List (PyData×PyData)->List V->Prop
 | [],vs=>vs=[]
 | p :: ps,vs=>∃ v r,vs=v :: r/\HasP H p v/\HasV H ps r
def HasP(H:Hp):PyData×PyData->V->Prop
 | (_,d),v=>Has H d v
end
mutual
theorem Has.mono{H H':Hp}(s:Same H H'):∀ (d:PyData) (v:V),Has H d v->Has H' d v
 | .none,_,h=>by simp only [Has] at h ⊢; exact h
 | .bool _,_,h=>by simp only [Has] at h ⊢; exact h
 | .int _,_,h=>by simp only [Has] at h ⊢; exact h
 | .str _,_,h=>by simp only [Has] at h ⊢; exact h
 | .list ds,v,h=>by
  simp only [Has] at h ⊢;obtain⟨a,vs,e,q,l⟩:=h;exact⟨a,vs,e,s _ _ q,HasL.mono s ds vs l⟩
 | .tuple ds,v,h=>by
  simp only [Has] at h ⊢;obtain⟨a,vs,e,q,l⟩:=h;exact⟨a,vs,e,s _ _ q,HasL.mono s ds vs l⟩
 | .dict kvs,v,h=>by
  simp only [Has] at h ⊢;obtain⟨a,vs,e,q,l⟩:=h;refine⟨a,vs,e,?_,HasV.mono s kvs vs l⟩;rcases q with ⟨ob,m,e1,e2⟩ | ⟨ob,p,m,e1,e2⟩
  ·exact .inl ⟨ob,m,s _ _ e1,e2⟩
  ·exact .inr ⟨ob,p,m,s _ _ e1,e2⟩
theorem HasL.mono{H H':Hp}(s:Same H H'):∀ (ds:List PyData) (vs:List V),HasL H ds vs->HasL H' ds vs
 | [],_,h=>by simp only [HasL] at h ⊢; exact h
 | d :: ds,vs,h=>by
  simp only [HasL] at h ⊢;obtain⟨v,r,e,q,l⟩:=h;exact⟨v,r,e,Has.mono s d v q,HasL.mono s ds r l⟩
theorem HasV.mono{H H':Hp}(s:Same H H'):∀ (ds:List (PyData×PyData)) (vs:List V),HasV H ds vs->HasV H' ds vs
 | [],_,h=>by simp only [HasV] at h ⊢; exact h
 | d :: ds,vs,h=>by
  simp only [HasV] at h ⊢;obtain⟨v,r,e,q,l⟩:=h;exact⟨v,r,e,HasP.mono s d v q,HasV.mono s ds r l⟩
theorem HasP.mono{H H':Hp}(s:Same H H'):∀ (p:PyData×PyData) (v:V),HasP H p v->HasP H' p v
 | (_,d),v,h=>by
  simp only [HasP] at h ⊢;exact Has.mono s d v h
end
section
variable {H:Hp} {v:V}
theorem zc3:Has H .none v↔v=.non:=by simp only [Has]
theorem zcd{b:Bool}:Has H (.bool b) v↔v=.bl b:=by simp only [Has]
theorem zbR{i:Int}:Has H (.int i) v↔v=.int i:=by simp only [Has]
theorem zdN{x:Str}:Has H (.str x) v↔v=.str x:=by simp only [Has]
theorem zbb{ds:List PyData}:Has H (.list ds) v↔∃ a vs,v=.ref a/\H a=some (.lst vs)/\HasL H ds vs:=by simp only [Has]
theorem zaw{ds:List PyData}:Has H (.tuple ds) v↔∃ a vs,v=.ref a/\H a=some (.tup vs)/\HasL H ds vs:=by simp only [Has]
theorem zk4{kvs:List (PyData×PyData)}:Has H (.dict kvs) v↔∃ a vs,v=.ref a/\DOf H a (kvs.map (·.1)) vs/\HasV H kvs vs:=by simp only [Has]
theorem zJ{vs:List V}:HasL H [] vs↔vs=[]:=by simp only [HasL]
theorem zA{d:PyData}{ds:List PyData}{vs:List V}:HasL H (d :: ds) vs↔∃ v r,vs=v :: r/\Has H d v/\HasL H ds r:=by simp only [HasL]
theorem HasL.length:∀ {ds:List PyData} {vs:List V},HasL H ds vs->vs.length=ds.length
 | [],_,h=>by rw [zJ.mp h]; rfl
 | d :: ds,vs,h=>by
  obtain⟨v,r,e,_,l⟩:=zA.mp h;rw [e,length_cons,length_cons,HasL.length l]
theorem HasL.get:∀ {ds:List PyData} {vs:List V} {i:Nat} {d:PyData},HasL H ds vs->ds[i]? = some d->∃ v,vs[i]? = some v/\Has H d v
 | [],_,_,_,_,e=>by simp at e
 | c :: ds,vs,0,d,h,e=>by
  obtain⟨v,r,rfl,q,_⟩:=zA.mp h;simp at e;subst e;exact⟨v,rfl,q⟩
 | c :: ds,vs,i+1,d,h,e=>by
  obtain⟨v,r,rfl,_,l⟩:=zA.mp h;obtain⟨u,e1,e2⟩:=HasL.get (i:=i) (d:=d) l (by simpa using e);exact⟨u,by simpa using e1,e2⟩
theorem HasL.append:∀ {ds es:List PyData} {vs us:List V},HasL H ds vs->HasL H es us->HasL H (ds++es) (vs++us)
 | [],es,vs,us,h,h'=>by rw [zJ.mp h]; exact h'
 | d :: ds,es,vs,us,h,h'=>by
  obtain⟨v,r,rfl,q,l⟩:=zA.mp h;exact zA.mpr ⟨v,r++us,rfl,q,HasL.append l h'⟩
theorem zgt:∀ (ns:List Int),HasL H (ns.map .int) (ns.map V.int)
 | []=>zJ.mpr rfl
 | n :: ns=>zA.mpr ⟨_,_,rfl,zbR.mpr rfl,zgt ns⟩
end
def tyD:PyData->String
 | .none=>"NoneType" | .bool _=>"bool" | .int _=>"int" | .str _=>"str" | .list _=>"list" | .tuple _=>"tuple" | .dict _=>"dict"
theorem Has.ty{K:W.Frag}{H:Hp}{d:PyData}{v:V}(h:Has H d v):TyOf K H v (.type (tyD d)):=by
 cases d with
 | none=>rw [zc3.mp h]; exact .non
 | bool b=>rw [zcd.mp h]; exact .bl b
 | int i=>rw [zbR.mp h]; exact .int i
 | str x=>rw [zdN.mp h]; exact .str x
 | list ds=>obtain⟨a,vs,rfl,e,_⟩:=zbb.mp h; exact .lst e
 | tuple ds=>obtain⟨a,vs,rfl,e,_⟩:=zaw.mp h; exact .tup e
 | dict kvs =>
  obtain⟨a,vs,rfl,e,_⟩:=zk4.mp h;rcases e with ⟨ob,m,e,_⟩ | ⟨ob,p,m,e,_⟩
  ·exact .dK (.inr ⟨ob,e⟩)
  ·exact .dT (.inr ⟨ob,e⟩)
def zub:List String:=["NoneType","bool","int","str","list","tuple","dict"]
def zpt:List String:=["int","bool","str","list","tuple","dict"]
def zoz(t c:String):Bool:=t == c || (t == "bool" && c == "int")
def zrD(d:PyData)(c:String):Bool:=zoz (tyD d) c
theorem zro(d:PyData):tyD d∈zub:=by cases d <;> simp [tyD,zub]
theorem zrG(K:W.Frag){t c:String}(ht:t∈zub)(hc:c∈zpt):W.kitOne K (.type t) (.type c)=some (zoz t c):=by
 simp only [zub,zpt,mem_cons,not_mem_nil,or_false] at ht hc;rcases ht with rfl | rfl | rfl | rfl | rfl | rfl | rfl <;> rcases hc with rfl | rfl | rfl | rfl | rfl | rfl <;> rfl
def zuA:List V->Hp->VK->Prop
 | [x,.ty c],H,Q=>∃ d,Has H d x/\c∈zpt/\Q (.bl (zrD d c)) H
 | _,_,_=>False
theorem zru{H:Hp}{d:PyData}{x:V}{c:String}{Q:VK}(h:Has H d x)(hc:c∈zpt)(q:Q (.bl (zrD d c)) H):zuA [x,.ty c] H Q:=⟨d,h,hc,q⟩
section
variable {X:Cx}
theorem zeW:CallR X (.builtin "isinstance") zuA:=by
 intro zj s σ H xs us Q I r h
 match xs,h with
 | [x,.ty c],h =>
  obtain⟨d,hx,hc,q⟩:=h;obtain⟨u,w',rfl,ru,rw'⟩:=vals2 r;cases (show w'=Value.type c from rw');exact zn8 I ru hx.ty (zrG X.K (zro d) hc) fun tk=>⟨.bl _,H,I.tok tk,rfl,q⟩
end
def sp1(p:V->Hp->VK->Prop):Sp:=fun vs H Q _=>match vs with | [x]=>p x H Q | _=>False
def sp2(p:V->V->Hp->VK->Prop):Sp:=fun vs H Q _=>match vs with | [x,y]=>p x y H Q | _=>False
theorem zmE{p:V->Hp->VK->Prop}:∀ (vs:List V) (H:Hp) (Q:VK) (E:XK),sp1 p vs H Q E->∃ x,vs=[x]/\p x H Q:=by
 intro vs H Q E h
 match vs,h with
 | [x],h=>exact⟨x,rfl,h⟩
theorem zm6{p:V->V->Hp->VK->Prop}:∀ (vs:List V) (H:Hp) (Q:VK) (E:XK),sp2 p vs H Q E->∃ x y,vs=[x,y]/\p x y H Q:=by
 intro vs H Q E h
 match vs,h with
 | [x,y],h=>exact⟨x,y,rfl,h⟩
structure Dd(K:W.Frag)(mg:Str->Option Value)(x:Str)(st:Stmt)(ps:List Str):Prop where
 ex:∃ f fd,Fun K x x st f fd/\mg x=some (.ref f)/\Binds K fd ps []
structure Df(P:Program)(w:World)(K:W.Frag)(mg:Str->Option Value)(base:Heap)(x:Str)(ps:List Str)(k:Nat)(sp:Sp):Prop where
 ex:∃ f fd,FnOk P w K mg base CX0 k f fd ps sp/\mg x=some (.ref f)/\W.keepIn K (.ref f)=true/\Binds K fd ps []
section
variable {P:Program} {w:World} {K:W.Frag} {mg:Str->Option Value} {base:Heap} {x a b c d e:Str} {st:Stmt} {N:List Str} {k:Nat}
theorem Df.of{ps:List Str}{sp:Sp}(D:Dd K mg x st ps)(S:FnScope N ps (zf st))(len:∀ vs H Q E,sp vs H Q E->vs.length=ps.length)
  (hbody:∀ (f:Addr) (cdv:Value) (A:Around) (outer:List Env) (s:Shared) (H:Hp) (vs:List V) (Q:VK) (E:XK),Room k (A.deeper (envOfC x (zf st) s.heap.objs.size f cdv))->sp vs H Q E ->
   ∃ t,PSs (zgI CX0 P w K mg base N x (zf st) f cdv A outer s H E).nox (zaO st) t/\t { nx:=fun _ H'=>Q .non H',rt:=Q } (start N vs) H):Df P w K mg base x ps (k+1) sp:=by
 obtain⟨f,fd,F,hm,hb⟩:=D.ex;exact⟨f,fd,F.ok S len (hbody f),hm,F.kp,hb⟩
theorem Df.of2{p:V->V->Hp->VK->Prop}(D:Dd K mg x st [a,b])(S:FnScope N [a,b] (zf st))(σ0:V->V->St)(hs:∀ v u,start N [v,u]=σ0 v u)
  (hbody:∀ (f:Addr) (cdv:Value) (A:Around) (outer:List Env) (s:Shared) (H:Hp) (v u:V) (Q:VK) (E:XK),Room k (A.deeper (envOfC x (zf st) s.heap.objs.size f cdv))->p v u H Q ->
   ∃ t,PSs (zgI CX0 P w K mg base N x (zf st) f cdv A outer s H E).nox (zaO st) t/\t { nx:=fun _ H'=>Q .non H',rt:=Q } (σ0 v u) H):Df P w K mg base x [a,b] (k+1) (sp2 p):=by
 refine Df.of D S (fun vs H Q E h=>?_) fun f cdv A outer s H vs Q E hr h=>?_
 ·obtain⟨x,y,rfl,_⟩:=zm6 vs H Q E h;rfl
 ·obtain⟨x,y,rfl,h⟩:=zm6 vs H Q E h;rw [hs];exact hbody f cdv A outer s H x y Q E hr h
end
def tC2(p:V->V->Hp->VK->Prop)(ta tb:TE):TE:=fun σ H Q=>ta σ H fun x H1=>tb σ H1 fun y H2=>p x y H2 Q
section
variable {X:Cx} {x a b c d e':Str} {k j:Nat} {pos pos':Pos} {e1 e2 e3 e4 e5:Expr} {t1 t2 t3 t4 t5:TE}
theorem zqp{p:V->V->Hp->VK->Prop}(D:Df X.prog X.w X.K X.mg X.base x [a,b] k (sp2 p))(hr:Room j X.A)(hk:k<=j)(h1:PE X e1 t1)(h2:PE X e2 t2)(hg:Gl X x:=by rfl)(hdb:(x == ("__debug__":Str))=false:=by decide)
  (q1:starEach [e1,e2] X.env=(false,eval e1 X.env) :: starEach [e2] X.env:=by rfl) (q2:starEach [e2] X.env=(false,eval e2 X.env) :: starEach [] X.env:=by rfl)
  (hpl:(backTo pos (starEach [e2] X.env)).any (·.1)=false:=by rfl):PE X (.Call (.Name x pos') [e1,e2] [] pos) (tC2 p t1 t2):=by
 obtain⟨f,fd,F,hm,kp,hb⟩:=D.ex;intro zj s σ H Q I h;exact zj5 (dvs:=[]) (ds:=[]) (E:=E0) F (hr.mono hk) hg hm kp hb .nil pass0 (za h1 (za h2 zc q2) q1) hdb q1 hpl zj s σ H Q I h
end
theorem Dd.mk'{K:W.Frag}{h:Heap}{mg:Str->Option Value}(X:K.In h)(G:h.Ns mainGlobals mg){x:Str}{st:Stmt}{ps:List Str}{f:Addr}{oc:Value}{od an:Option Addr}{osl:Array (Option Value)}{kV doc pm cdv ct:Value}
  (a:W.nsIn K mainGlobals x=some (some (.ref f))) (l:K.lookup f=some ⟨oc,od,.func (W.fnOf x x (zdc st) (zaO st) (zf st) .none kV doc pm an cdv ct),osl⟩)
  (c:W.codeIn K cdv x=true) (k:W.keepIn K (.ref f)=true)
  (hb:∀ (kV doc pm:Value) (an:Option Addr) (cdv ct:Value) (us:List Value),us.length=ps.length->bindArgs (W.fnOf x x (zdc st) (zaO st) (zf st) .none kV doc pm an cdv ct) ⟨us,[]⟩=pure (ps.zip us)):Dd K mg x st ps :=
 ⟨f,_,zkG (st:=st) l c k,W.mg_of X G a,(zkG (st:=st) l c k).binds hb⟩
theorem zbA:bootBuiltins "len" = some (.builtin "len"):=by decide +kernel
theorem zK:bootBuiltins "isinstance" = some (.builtin "isinstance"):=by decide +kernel
theorem ziF:bootBuiltins "max" = some (.builtin "max"):=by decide +kernel
theorem ziJ:bootBuiltins "min" = some (.builtin "min"):=by decide +kernel
theorem zob:bootBuiltins "int" = some (.type "int"):=by decide +kernel
theorem znX:bootBuiltins "bool" = some (.type "bool"):=by decide +kernel
theorem zif:bootBuiltins "list" = some (.type "list"):=by decide +kernel
theorem zat:bootBuiltins "tuple" = some (.type "tuple"):=by decide +kernel
section
variable {H:Hp} {Q:VK}
theorem zpo{i:Nat}{σ:St}:zlv i σ H Q↔match σ[i]? with | some (some v)=>Q v H | _=>False:=by
 unfold zlv;constructor
 ·rintro⟨v,e,q⟩;rw [e];exact q
 ·intro h;split at h
  ·rename_i v e;exact⟨v,e,h⟩
  ·exact h.elim
theorem zmo{g:Int->Int->V}{i j:Int}:rI0 g (.int i) (.int j) H Q↔Q (g i j) H :=
 ⟨fun⟨_,_,e1,e2,q⟩=>by cases e1; cases e2; exact q,fun q=>⟨i,j,rfl,rfl,q⟩⟩
theorem zuI{p:Bool->Prop}{b:Bool}:(∃ c,V.bl b=V.bl c/\p c)↔p b:=⟨fun⟨_,e,q⟩=>by cases e; exact q,fun q=>⟨b,rfl,q⟩⟩
end
section
variable {K:W.Frag} {H:Hp} {Q:VK} {x y:V} {d:PyData} {ds:List PyData}
def zun(K:W.Frag):List V->Hp->VK->Prop:=fun xs H Q=>∃ p ys,xs=[.ref p]/\(SqL K H p ys\/SqT K H p ys)/\Q (.int ys.length) H
end
section
variable {X:Cx}
theorem zn2:CallR X (.builtin "len") (zun X.K):=zfu
end
def hid(a:Addr)(H:Hp):Hp:=fun b=>if b=a then none else H b
theorem zta{a b:Addr}{H:Hp}(h:b≠a):hid a H b=H b:=if_neg h
theorem zoT{a:Addr}{H:Hp}:hid a H a=none:=if_pos rfl
theorem Same.laid{H:Hp}{p:Addr}{o:HO}(h:H p=none):Same H (upd H p o):=fun b u e=>by
 rw [zO (zH e h)];exact e
end
section
theorem zmN(d:PyData):zrD d "int" = match d with | .int _=>true | .bool _=>true | _=>false:=by cases d <;> first | rfl | (show zoz _ _=_; simp [zoz,tyD])
theorem zk6(d:PyData):zrD d "bool" = match d with | .bool _=>true | _=>false:=by cases d <;> first | rfl | (show zoz _ _=_; simp [zoz,tyD])
theorem zjs(d:PyData):zrD d "tuple" = match d with | .tuple _=>true | _=>false:=by cases d <;> first | rfl | (show zoz _ _=_; simp [zoz,tyD])
theorem zlh(d:PyData):zrD d "list" = match d with | .list _=>true | _=>false:=by cases d <;> first | rfl | (show zoz _ _=_; simp [zoz,tyD])
def vw:List Addr->Hp->Hp
 | [],H=>H
 | a :: r,H=>hid a (vw r H)
def zpS(K:W.Frag):V->V->Hp->VK->Prop:=fun x y H Q=>∃ (a:Addr) (ns:List Int) (i:Int),x=.ref a/\y=.int i/\SqL K H a (ns.map V.int)/\0<=i/\∀ n,Q (.int n) H
theorem zrC{ns:List Int}{i:Int}(h0:0<=i)(h1:i<((ns.map V.int).length:Int)):∃ n,atI (ns.map V.int) i=some (.int n):=by
 obtain⟨k,rfl⟩:=Int.eq_ofNat_of_zero_le h0;have hk:k<ns.length:=by rw [length_map] at h1; omega
 exact⟨ns[k],zc6 (by rw [getElem?_map,getElem?_eq_getElem hk]; rfl)⟩
theorem zpg{ns:List Int}{lo hi:Option Int}{x:V}(h:x∈zkY (ns.map V.int) lo hi):∃ n,x=.int n:=by
 have h1:=mem_of_mem_drop (mem_of_mem_take h);obtain⟨n,_,e⟩:=mem_map.mp h1;exact⟨n,e.symm⟩
theorem Fun.bind1{K:W.Frag}{x a:Str}{st:Stmt}{f:Addr}{fd:FuncData}(F:Fun K x x st f fd)
  (h:∀ (kV doc pm:Value) (an:Option Addr) (cdv ct:Value) (u:Value),bindArgs (W.fnOf x x (zdc st) (zaO st) (zf st) .none kV doc pm an cdv ct) ⟨[u],[]⟩=pure [(a,u)]):∀ (s:Shared) (u:Value),BindsTo s fd ⟨[u],[]⟩ [(a,u)]:=by
 obtain⟨oc,od,kV,doc,pm,an,cdv,ct,osl,rfl,lk,hcd⟩:=F.ex;exact fun s u=>.of_eq (h kV doc pm an cdv ct u)
def zuw(K:W.Frag):V->Hp->VK->Prop:=fun x H Q=>∃ (a:Addr) (ns:List Int),x=.ref a/\SqL K H a (ns.map V.int)/\ns.length<=63/\∀ H',Q (.bl true) H'
theorem walk_law{l:W.OpenLaw}{k:Nat}{q:Program}{loose:List Str}{XP:(Str->Option Value)->Heap->Prop}{YP:World->Heap->Prop}{d:DefRec}{K:Params->W.Frag}(hn:l.most=some 63)(hdf:d.params.defaults=[])
  (hr:Room k callerA) (hY:∀ (w:World) (h:Heap),YP w h->(K w.params).In h) (hT:∀ (w:World) (h:Heap),YP w h->TabsOk (K w.params) h)
  (F:∀ (w:World) (mg:Str->Option Value) (fa:Addr) (h:Heap),(K w.params).In h->h.Ns mainGlobals mg->mg d.name=some (.ref fa) ->
   ∃ fd:FuncData,(∀ (s:Shared) (u:Value),BindsTo s fd ⟨[u],[]⟩ [("script",u)])/\∀ base:Heap,(K w.params).In base->base.Ns mainGlobals mg->FnOk l.prog w (K w.params) mg base CX0 k fa fd ["script"] (sp1 (zuw (K w.params)))) :
  W.WalkO q loose XP YP l.row.toRowW d [] (fun f vs=>PySem.call f vs) :=
 L2.walk_of (n:=63) (k:=k) (x:="script") (CX:=fun _=>CX0) (sp:=fun w=>sp1 (zuw (K w.params))) hn dz hdf hr hY hT F (fun _ _ a ns hl _ hS=>⟨a,ns,rfl,hS,hl,fun _=>rfl⟩) fun _ _ _ _ _ z=>z
theorem Fun.ok1{P:Program}{w:World}{K:W.Frag}{mg:Str->Option Value}{base:Heap}{x a:Str}{st:Stmt}{f:Addr}{fd:FuncData}{N:List Str}{k:Nat}{p:V->Hp->VK->Prop}(F:Fun K x x st f fd)(S:FnScope N [a] (zf st))(σ0:V->St)(hs:∀ v,start N [v]=σ0 v)
  (hbody:∀ (cdv:Value) (A:Around) (outer:List Env) (s:Shared) (H:Hp) (v:V) (Q:VK) (E:XK),Room k (A.deeper (envOfC x (zf st) s.heap.objs.size f cdv))->p v H Q ->
   ∃ t,PSs (zgI CX0 P w K mg base N x (zf st) f cdv A outer s H E).nox (zaO st) t/\t { nx:=fun _ H'=>Q .non H',rt:=Q } (σ0 v) H):FnOk P w K mg base CX0 (k+1) f fd [a] (sp1 p):=by
 refine F.ok S (fun vs H Q E h=>?_) fun cdv A outer s H vs Q E hr h=>?_
 ·obtain⟨x,rfl,_⟩:=zmE vs H Q E h;rfl
 ·obtain⟨x,rfl,h⟩:=zmE vs H Q E h;rw [hs];exact hbody cdv A outer s H x Q E hr h
end
section
mutual
theorem Has.reads{X:Cx}{zj:List (Addr×Obj)}{σ:St}{H:Hp}{s:Shared}(I:Inv X zj σ H s):∀ (d:PyData) (v:V) (u:Value),Has H d v->d.canLay0=true->RelV v u->∃ as,Reads s.heap u d as
 | .none,v,u,h,_,r=>by
  rw [zc3.mp h] at r;cases (show u=Value.none from r);exact⟨_,.none⟩
 | .bool b,v,u,h,_,r=>by
  rw [zcd.mp h] at r;cases (show u=Value.bool b from r);exact⟨_,.bool b⟩
 | .int i,v,u,h,_,r=>by
  rw [zbR.mp h] at r;obtain⟨t,q⟩:=(show ∃ t,u=Value.int i t from r);cases q;exact⟨_,.int i t⟩
 | .str x,v,u,h,_,r=>by
  rw [zdN.mp h] at r;obtain⟨t,q⟩:=(show ∃ t,u=Value.str x t from r);cases q;exact⟨_,.str x t⟩
 | .list ds,v,u,h,c,r=>by
  obtain⟨a,vs,rfl,e,l⟩:=zbb.mp h;cases (show u=Value.ref a from r);obtain⟨_,its,n,rv,e1⟩:=(show ObjOk X.prog X.w H s.heap a (.lst vs) from I.hok a _ e);obtain⟨as,q⟩:=HasL.reads I ds vs its l (by simpa only [PyData.canLay0] using c) rv;exact⟨_,.list e1 rfl rfl (by simpa using q)⟩
 | .tuple ds,v,u,h,c,r=>by
  obtain⟨a,vs,rfl,e,l⟩:=zaw.mp h;cases (show u=Value.ref a from r);obtain⟨_,its,rv,o,e1,e2,n,e3⟩:=(show ObjOk X.prog X.w H s.heap a (.tup vs) from I.hok a _ e);obtain⟨as,q⟩:=HasL.reads I ds vs its l (by simpa only [PyData.canLay0] using c) rv;exact⟨_,.tuple e1 e2 e3 (by simpa using q)⟩
 | .dict _,_,_,_,c,_=>by simp [PyData.canLay0] at c
theorem HasL.reads{X:Cx}{zj:List (Addr×Obj)}{σ:St}{H:Hp}{s:Shared}(I:Inv X zj σ H s):∀ (ds:List PyData) (vs:List V) (us:List Value),HasL H ds vs->PyData.canLayAll0 ds=true->Vals vs us->∃ as,ReadsAll s.heap us ds as
 | [],vs,us,h,_,r=>by
  rw [zJ.mp h] at r;cases r;exact⟨_,.nil⟩
 | d :: ds,vs,us,h,c,r=>by
  obtain⟨v,w',rfl,h1,h2⟩:=zA.mp h;have c':d.canLay0=true/\PyData.canLayAll0 ds=true:=by simpa [PyData.canLayAll0] using c
  cases r with
  | cons r1 r2 =>
   obtain⟨as,q1⟩:=Has.reads I d v _ h1 c'.1 r1;obtain⟨bs,q2⟩:=HasL.reads I ds w' _ h2 c'.2 r2;exact⟨_,.cons q1 q2⟩
end
def zuT:R2:=fun x y H Q=>∃ d e,Has H d x/\Has H e y/\SeqAt.shaped d=true/\SeqAt.shaped e=true/\Q (.bl (PyData.eqv d e)) H
def zuO:R2:=fun x y H Q=>∃ d e,Has H d x/\Has H e y/\SeqAt.shaped d=true/\SeqAt.shaped e=true/\Q (.bl (!PyData.eqv d e)) H
section
variable {X:Cx}
theorem zb0(hu:X.A.units+64<cLine):OpR X (compareOp .Eq) zuT:=by
 intro zj s σ H x y v u Q I rx ry h;obtain⟨d,e,hd,he,sd,se,q⟩:=h;obtain⟨as,q1⟩:=Has.reads I d x v hd (SeqAt.canLay_of_shaped sd) rx;obtain⟨bs,q2⟩:=Has.reads I e y u he (SeqAt.canLay_of_shaped se) ry;exact eq_dataH q1 q2 sd se hu ⟨.bl _,H,I,rfl,q⟩
theorem zmu(hu:X.A.units+64<cLine):OpR X (compareOp .NotEq) zuO:=by
 intro zj s σ H x y v u Q I rx ry h;obtain⟨d,e,hd,he,sd,se,q⟩:=h;obtain⟨as,q1⟩:=Has.reads I d x v hd (SeqAt.canLay_of_shaped sd) rx;obtain⟨bs,q2⟩:=Has.reads I e y u he (SeqAt.canLay_of_shaped se) ry;exact ne_dataH q1 q2 sd se hu ⟨.bl _,H,I,rfl,q⟩
end
section
variable {prog:Program} {w:World} {A:Around} {E:Value->Shared->Prop} {s:Shared} {l:Addr}
theorem zl8{xs:Array (Int×Tok)}{Q:Value->Shared->Prop}(hh:A.handled=none)(hl:s.heap.IsTuple l (intItems xs))(hne:0<xs.size)
  (h:∀ v h' tk,(intItems xs)[argBest (fun i j=>decide (numAt xs i<numAt xs j)) (xs.size - 1)]? = some v->(∀ b o,s.heap.get? b=some o->h'.get? b=some o)->Q v { s with heap:=h',toks:=tk }) :
  wpAny (model prog w) A (call (.builtin "min") [.ref l]) Q E s:=by
 have hlt:l<s.heap.objs.size:=by obtain⟨o,e,_⟩:=hl; exact lt_size e
 refine call_min_walk (wpAny_pyIter_tuple hl ?_);refine⟨_,[_,l],[_],_,_,_,_,rfl,Walks.tuple (A:=A.in1) hh _ l (ne_of_lt hlt) (intItems xs),⟨⟨_,get?_push_size _ rfl,rfl,rfl⟩,hl.push _⟩,fun c hc=>?_,by simpa [intItems] using hne,CmpOf.ints_lt (numAt xs) (fun _ _=>intItems_at),fun v h' tk hP hk=>?_⟩
 ·show c<(s.heap.push _).objs.size;rw [size_push];rcases mem_cons.mp hc with rfl | hc
  ·exact Nat.lt_succ_self _
  ·rcases mem_cons.mp hc with rfl | hc
   ·exact Nat.lt_succ_of_lt hlt
   ·cases hc
 ·refine h v h' tk (by simpa [intItems] using hP) fun b o e=>hk b o (fun hm=>?_) (get?_push_of_some _ e);rcases mem_cons.mp hm with e1 | hm
  ·exact absurd (e1▸lt_size e) (lt_irrefl _)
  ·cases hm
theorem zl0{xs:Array (Int×Tok)}{Q:Value->Shared->Prop}(hh:A.handled=none)(hl:s.heap.IsTuple l (intItems xs))(hne:0<xs.size)
  (h:∀ v h' tk,(intItems xs)[argBest (fun i j=>decide (numAt xs i>numAt xs j)) (xs.size - 1)]? = some v->(∀ b o,s.heap.get? b=some o->h'.get? b=some o)->Q v { s with heap:=h',toks:=tk }) :
  wpAny (model prog w) A (call (.builtin "max") [.ref l]) Q E s:=by
 have hlt:l<s.heap.objs.size:=by obtain⟨o,e,_⟩:=hl; exact lt_size e
 refine call_max_walk (wpAny_pyIter_tuple hl ?_);refine⟨_,[_,l],[_],_,_,_,_,rfl,Walks.tuple (A:=A.in1) hh _ l (ne_of_lt hlt) (intItems xs),⟨⟨_,get?_push_size _ rfl,rfl,rfl⟩,hl.push _⟩,fun c hc=>?_,by simpa [intItems] using hne,CmpOf.ints_gt (numAt xs) (fun _ _=>intItems_at),fun v h' tk hP hk=>?_⟩
 ·show c<(s.heap.push _).objs.size;rw [size_push];rcases mem_cons.mp hc with rfl | hc
  ·exact Nat.lt_succ_self _
  ·rcases mem_cons.mp hc with rfl | hc
   ·exact Nat.lt_succ_of_lt hlt
   ·cases hc
 ·refine h v h' tk (by simpa [intItems] using hP) fun b o e=>hk b o (fun hm=>?_) (get?_push_of_some _ e);rcases mem_cons.mp hm with e1 | hm
  ·exact absurd (e1▸lt_size e) (lt_irrefl _)
  ·cases hm
theorem zgz{vs:List Value}{ns:List Int}(hi:IntsAre vs ns):∃ xs:Array (Int×Tok),vs.toArray=intItems xs/\ns=xs.toList.map (·.1):=by
 obtain⟨xs,e⟩:=hi.allInts.items;exact⟨xs,e,by rw [<- hi.numsOf,<- nums_intItems,<- e]⟩
end
def zuy(K:W.Frag):List V->Hp->VK->Prop:=fun xs H Q=>∃ p ns,xs=[.ref p]/\(SqL K H p (ns.map V.int)\/SqT K H p (ns.map V.int))/\ns≠[]/\∀ m,m∈ns->(∀ a,a∈ns->m<=a)->Q (.int m) H
def zuR(K:W.Frag):List V->Hp->VK->Prop:=fun xs H Q=>∃ p ns,xs=[.ref p]/\(SqL K H p (ns.map V.int)\/SqT K H p (ns.map V.int))/\ns≠[]/\∀ m,m∈ns->(∀ a,a∈ns->a<=m)->Q (.int m) H
section
variable {X:Cx}
theorem znD(hc:X.calm=true):CallR X (.builtin "min") (zuy X.K):=by
 intro zj s σ H xs us Q I r h;obtain⟨p,ns,rfl,hq,hne,q⟩:=h;obtain⟨u,rfl,rx⟩:=vals1 r;cases (show u=Value.ref p from rx);have done:∀ (ys:Array (Int×Tok)) (v:Value) (h':Heap) (tk:Nat),ns=ys.toList.map (·.1)->0<ys.size->(intItems ys)[argBest (fun i j=>decide (numAt ys i<numAt ys j)) (ys.size - 1)]? = some v ->
   (∀ b o,s.heap.get? b=some o->h'.get? b=some o)->EP X zj σ Q v { s with heap:=h',toks:=tk }:=by
  intro ys v h' tk hns hsz hv hk;obtain⟨t,rfl⟩:=intItems_at hv;obtain⟨h1,h2⟩:=argBest_lt (numAt ys) (ys.size - 1);refine⟨.int _,H,I.kept (t':=tk) hk,⟨t,rfl⟩,q _ ?_ fun a ha=>?_⟩
  ·rw [hns,numAt_eq]; exact getD_mem (by rw [length_map,length_toList]; omega)
  ·rw [hns] at ha;obtain⟨j,hj,rfl⟩:=mem_getD ha;rw [length_map,length_toList] at hj;rw [<- numAt_eq]; exact h2 j (by omega)
 rcases hq with hq | hq
 ·obtain⟨its,rv,pl,_⟩:=I.list hq;obtain⟨ys,e,hns⟩:=zgz (zba rv);have hsz:0<ys.size:=by
   cases ys with
   | mk l=>cases l with
    | nil=>exact absurd hns hne
    | cons _ _=>exact Nat.succ_pos _
  exact min_intList (I.ok.hd hc) (by rw [<- e]; exact pl.isList) hsz fun v h' tk hv hk=>done ys v h' tk hns hsz hv hk
 ·obtain⟨its,rv,pl,_⟩:=I.tuple hq;obtain⟨ys,e,hns⟩:=zgz (zba rv);have hsz:0<ys.size:=by
   cases ys with
   | mk l=>cases l with
    | nil=>exact absurd hns hne
    | cons _ _=>exact Nat.succ_pos _
  exact zl8 (I.ok.hd hc) (by rw [<- e]; exact pl) hsz fun v h' tk hv hk=>done ys v h' tk hns hsz hv hk
theorem ziU(hc:X.calm=true):CallR X (.builtin "max") (zuR X.K):=by
 intro zj s σ H xs us Q I r h;obtain⟨p,ns,rfl,hq,hne,q⟩:=h;obtain⟨u,rfl,rx⟩:=vals1 r;cases (show u=Value.ref p from rx);have done:∀ (ys:Array (Int×Tok)) (v:Value) (h':Heap) (tk:Nat),ns=ys.toList.map (·.1)->0<ys.size->(intItems ys)[argBest (fun i j=>decide (numAt ys i>numAt ys j)) (ys.size - 1)]? = some v ->
   (∀ b o,s.heap.get? b=some o->h'.get? b=some o)->EP X zj σ Q v { s with heap:=h',toks:=tk }:=by
  intro ys v h' tk hns hsz hv hk;obtain⟨t,rfl⟩:=intItems_at hv;obtain⟨h1,h2⟩:=argBest_gt (numAt ys) (ys.size - 1);refine⟨.int _,H,I.kept (t':=tk) hk,⟨t,rfl⟩,q _ ?_ fun a ha=>?_⟩
  ·rw [hns,numAt_eq]; exact getD_mem (by rw [length_map,length_toList]; omega)
  ·rw [hns] at ha;obtain⟨j,hj,rfl⟩:=mem_getD ha;rw [length_map,length_toList] at hj;rw [<- numAt_eq]; exact h2 j (by omega)
 rcases hq with hq | hq
 ·obtain⟨its,rv,pl,_⟩:=I.list hq;obtain⟨ys,e,hns⟩:=zgz (zba rv);have hsz:0<ys.size:=by
   cases ys with
   | mk l=>cases l with
    | nil=>exact absurd hns hne
    | cons _ _=>exact Nat.succ_pos _
  exact max_intList (I.ok.hd hc) (by rw [<- e]; exact pl.isList) hsz fun v h' tk hv hk=>done ys v h' tk hns hsz hv hk
 ·obtain⟨its,rv,pl,_⟩:=I.tuple hq;obtain⟨ys,e,hns⟩:=zgz (zba rv);have hsz:0<ys.size:=by
   cases ys with
   | mk l=>cases l with
    | nil=>exact absurd hns hne
    | cons _ _=>exact Nat.succ_pos _
  exact zl0 (I.ok.hd hc) (by rw [<- e]; exact pl) hsz fun v h' tk hv hk=>done ys v h' tk hns hsz hv hk
end
section
variable {K:W.Frag} {o:List Addr} {σ:St} {H0:Hp} {t t1 t2 t3 t4 t5:TE} {ta:TA} {tt tu:TT} {d d1 d2 d3 d4 d5:PyData} {ds:List PyData} {b c:Bool}
def zm1:PyData->Bool
 | .none=>true
 | _=>false
theorem ziX{H:Hp}{v:V}(h:Has H d v):decide (v=.non)=zm1 d:=by
 cases d with
 | none=>rw [zc3.mp h]; rfl
 | bool _=>rw [zcd.mp h]; rfl
 | int _=>rw [zbR.mp h]; rfl
 | str _=>rw [zdN.mp h]; rfl
 | list _=>obtain⟨a,vs,rfl,_⟩:=zbb.mp h; rfl
 | tuple _=>obtain⟨a,vs,rfl,_⟩:=zaw.mp h; rfl
 | dict _=>obtain⟨a,vs,rfl,_⟩:=zk4.mp h; rfl
def zu1:R2:=fun x y H Q=>y=.non/\Q (.bl (decide (x=.non))) H
def zsI:R2:=fun x y H Q=>y=.non/\Q (.bl (!decide (x=.non))) H
theorem zgr{X:Cx}:OpR X (compareOp .Is) zu1:=ztw
theorem zlb{X:Cx}:OpR X (compareOp .IsNot) zsI:=zq7
end
def spD(a b:Int):PyData:=.tuple [.int a,.int b]
end
section
section
variable {prog:Program} {w:World} {A:Around} {E:Value->Shared->Prop} {R:Result->Shared->Prop} {s:Shared}
theorem zjt{elt target iter:Expr}{ifs:List Expr}{scope:Scope}{pos:Pos}{it acc:Value}{env:Env}(I:Nat->Shared->Prop)
  (turn:∀ n s,I n s->wpAny (model prog w) A (pyNext it) (fun r s₁=>match r with
   | none=>R (.ok .next) s₁
   | some v=>wpAny (model prog w) A (letOwnedTupleGo target it v) (fun _ s₀=>wpAny (model prog w) A (assign target env v) (fun _ s₂ =>
     wpAny (model prog w) A (forIn ifs true fun c r=>if r=true then do let ok <- isTrue c env (eval c env); pure (ForInStep.yield ok) else pure (ForInStep.yield r)) (fun ok s₃ =>
      if ok=true then wpAny (model prog w) A (eval elt env) (fun x s₄ =>
       wpAny (model prog w) A (call (.builtin "list.append") [acc,x]) (fun _ s₅=>∃ m,m<n/\I m s₅) (fun _ _=>False) s₄) (fun _ _=>False) s₃
      else ∃ m,m<n/\I m s₃) (fun _ _=>False) s₂) (fun _ _=>False) s₀) (fun _ _=>False) s₁) (fun _ _=>False) s)
  (n:Nat) (h:I n s) :
  codeAny (model prog w) A (.compLoop (.ListComp elt [⟨target,iter,ifs,0⟩] scope pos) 0 it acc env) R s:=by
 have up:∀ {α:Type} {t:Sem α} {Q:α->Shared->Prop} {E':Value->Shared->Prop} {s':Shared},wpAny (model prog w) A t Q (fun _ _=>False) s'->wpAny (model prog w) A t Q E' s':=fun h=>wpAny_mono h (fun _ _ q=>q) fun _ _ z=>z.elim;refine codeAny_loop rfl I (fun n s hI=>?_) n h;show wpAny _ A ((compTurn (.ListComp elt [⟨target,iter,ifs,0⟩] scope pos) 0 it acc env).onRaise (fun x=>do noteFrame x env; theTreesLotGoes x)) _ _ s;refine wpAny_noted ?_;rw [compTurn_list];refine wpAny_bind (wpAny_standAt (wpAny_bind (thn (up (turn n s hI)) fun r s₁ h₁=>?_)));cases r with
 | none=>exact wpAny_pure h₁
 | some v =>
  refine wpAny_bind (thn (up h₁) fun _ s₀ h₀=>?_);refine wpAny_bind (thn (up h₀) fun _ s₂ h₂=>wpAny_bind (thn (up h₂) fun ok s₃ h₃=>?_));cases ok with
  | false=>exact wpAny_pure ⟨rfl,h₃⟩
  | true =>
   exact wpAny_bind (wpAny_bind (thn (up h₃) fun x s₄ h₄=>wpAny_bind (thn (up h₄) fun _ s₅ h₅=>wpAny_pure (wpAny_pure ⟨rfl,h₅⟩))))
end
def zb1(X:Cx)(scope:Scope)(cl:List (Str×Addr))(C:Addr)(s₃:Shared)(H₃:Hp)(fp:List Addr)(N:List Str):Cx where
 prog:=X.prog
 w:=X.w
 K:=X.K
 mg:=X.mg
 base:=X.base
 A:=X.A
 N:=N
 s₀:=s₃
 H₀:=H₃
 env:=compEnvC scope cl C X.env
 outer:=X.stack
 stack:=X.stack
 ex:=fp
 fn:=fun _=>false
 calm:=X.calm
 pn:=[]
 xe:=fun _ _=>False
def PTs(X:Cx)(ifs:List Expr)(t:TT):Prop :=
 ∀ (zj:List (Addr×Obj)) (s:Shared) (σ:St) (H:Hp) (Q:Bool->Hp->Prop),Inv X zj σ H s->t σ H Q ->
  wpAny (model X.prog X.w) X.A (forIn ifs true fun c r=>if r=true then do let ok <- isTrue c X.env (eval c X.env); pure (ForInStep.yield ok) else pure (ForInStep.yield r)) (TP X zj σ Q) X.xe s
def ztg:TT:=fun _ H Q=>Q true H
theorem zaC{X:Cx}:PTs X [] ztg:=fun _ _ _ H _ I h=>wpAny_tests_nil ⟨H,I,h⟩
theorem zkb{X:Cx}{c:Expr}{t:TT}(h:PT X c t):PTs X [c] t:=fun zj s σ H Q I hw=>wpAny_tests_one (h zj s σ H Q I hw)
def tau(caps:List (Option Nat))(σ:St):St:=caps.map fun o=>o.bind fun i=>(σ[i]?).join
def zn0(caps:List (Option Nat))(wi:TI)(g:TG)(tt:TT)(te:TE):TE:=fun σ H Q=>wi σ H fun J H1=>∀ D,H1 D=none->∃ W:Nat->Nat->St->Hp->Prop,(∃ m,W 0 m (tau caps σ) (upd H1 D (.lst []))) /\
 ∀ i m τ H2,W i m τ H2->(J.stop i H2/\Q (.ref D) H2)\/(J.go i H2/\∀ x H3,J.yld i H2 x H3->g x τ H3 fun τ4 H4=>tt τ4 H4 fun b H5 =>
  if b=true then te τ4 H5 fun v H6=>∃ xs,H6 D=some (.lst xs)/\xs.length<sizeLine/\∃ m',m'<m/\W (i+1) m' τ4 (upd H6 D (.lst (xs++[v]))) else ∃ m',m'<m/\W (i+1) m' τ4 H5)
structure CompOk(X:Cx)(scope:Scope)(cl:List (Str×Addr))(N:List Str)(caps:List (Option Nat)):Prop where
 clos:closureFor scope X.env=pure cl
 sub:∀ x c,cl.lookup x=some c->X.env.cells.lookup x=some c
 kind:scope.kind=.function
 cell:∀ y∈scope.names,y.2≠.cell
 names:∀ y∈scope.names,y.2=.local->scope.names.lookup y.1=some .local
 has:∀ x,((relabel scope X.env).names.lookup x=some .cell\/(relabel scope X.env).names.lookup x=some .free)->∃ c,cl.lookup x=some c
 cap:∀ (j i:Nat) (x:Str),caps[j]? = some (some i)->N[j]? = some x->X.N[i]? = some x/\Vis X.env.scope x/\¬ X.env.kindOf x=some .local/\∃ c,cl.lookup x=some c/\((relabel scope X.env).names.lookup x=some .cell\/(relabel scope X.env).names.lookup x=some .free)
 len:caps.length=N.length
section
variable {X:Cx} {scope:Scope} {cl:List (Str×Addr)} {N:List Str} {caps:List (Option Nat)} {tg iter elt:Expr} {ifs:List Expr} {pos:Pos} {wi:TI} {g:TG} {tt:TT} {te:TE}
theorem zlx{zj:List (Addr×Obj)}{σ:St}{H:Hp}{s:Shared}{fp:List Addr}{h₁:Heap}{t':Nat}(c:CompOk X scope cl N caps)(I:Inv X zj σ H s)(f:∀ b∈fp,FpOk X zj H b)(fo:∀ b∈fp,∃ o,s.heap.get? b=some o)
  (hns:h₁.Ns s.heap.objs.size (fun _=>none)) (hk:∀ b o,s.heap.get? b=some o->h₁.get? b=some o) :
  Inv (zb1 X scope cl s.heap.objs.size s H fp N) [] (tau caps σ) H { s with heap:=h₁,toks:=t' }:=by
 have lt:∀ b∈fp,b<s.heap.objs.size:=fun b hb=>by obtain⟨o,e⟩:=fo b hb; exact lt_size e
 have cells:∀ x k,cl.lookup x=some k->∃ v,s.heap.IsCell k v:=fun x k e=>I.cell x k (c.sub x k e);refine⟨⟨I.ok.mod,c.kind,I.ok.glob,I.ok.blt,le_refl _,fun x y k h1 h2=>I.ok.inj x y k (c.sub x k h1) (c.sub y k h2),fun x hx=>c.has x hx,fun x k h _=>absurd (show false=true from h) dz,I.ok.hd,I.ok.frames,.inl rfl,
  fun b hb=>⟨ne_of_lt (lt b hb),fun x k e=>(f b hb).2.2.2.2.1 x k (c.sub x k e)⟩,I.bs,le_trans I.ok.bsz I.sz,fun b o e hb=>?_,fun b hb z=>?_,I.stack,I.stkFree⟩,
  rfl,I.bare,Un.kept hk,⟨_,hns,fun j x v h1 h2 h3=>?_⟩,fun x k e=>?_,I.hok.fresh (le_refl _),fun x k e=>I.freeC x k (c.sub x k e),fun p hp=>absurd (show p∈([]:List (Addr×Obj)) from hp) (by simp),I.hok.kept hk,?_⟩
 ·rcases(f b hb).2.2.2.1 with q | q
  ·exact I.ok.noex b o e q
  ·exact absurd (lt_of_lt_of_le (lt_size e) (le_trans I.ok.bsz q)) (lt_irrefl _)
 ·rcases mem_cons.mp (I.stkSub b z) with q | q
  ·exact(f b hb).2.1 q
  ·exact(f b hb).2.2.1 q
 ·have h2':(caps.map fun o=>o.bind fun i=>(σ[i]?).join)[j]? = some (some v):=h2;rw [getElem?_map] at h2';cases e:caps[j]? with
  | none=>rw [e] at h2'; cases h2'
  | some oi =>
   rw [e] at h2';have h2'':(oi.bind fun i=>(σ[i]?).join)=some v:=Option.some.inj h2';cases oi with
   | none=>cases h2''
   | some i =>
    have h4:(σ[i]?).join=some v:=h2'';have h5:σ[i]? = some (some v):=by
     cases q:σ[i]? with
     | none=>rw [q] at h4; cases h4
     | some w'=>rw [q] at h4; exact congrArg some h4
    obtain⟨k1,k2,k3,cc,k4,k5⟩:=c.cap j i x e h1;obtain⟨m,hn,hl⟩:=I.loc;obtain⟨u,r,l⟩:=hl i x v k1 h5 k2;refine⟨u,r,.inr ⟨k5,cc,k4,?_⟩⟩;rcases l with ⟨q,_⟩ | ⟨_,c',hc',hcell⟩
    ·exact(k3 q).elim
    ·rw [c.sub x cc k4] at hc';cases hc';exact hcell.keeps hk
 ·obtain⟨v,q⟩:=cells x k e;exact⟨v,q.keeps hk⟩
 ·show (caps.map _).length=N.length;rw [length_map];exact c.len
theorem zm5{zj:List (Addr×Obj)}{σ τ:St}{H H':Hp}{s s':Shared}{h':Heap}{fp:List Addr}(I:Inv X zj σ H s)(f:∀ b∈fp,FpOk X zj H b)(J:Inv (zb1 X scope cl s.heap.objs.size s H fp N) [] τ H' s')(hs:Heap.SameBut s.heap.objs.size s'.heap h'):
  Inv X zj σ H' { s' with heap:=h' }:=by
 have hC:H' s.heap.objs.size=none:=J.free;have keep:∀ b o,b≠s.heap.objs.size->s'.heap.get? b=some o->h'.get? b=some o:=fun b o nb e=>hs.extBut b o nb e;have u1:Un (frs X.stack) (s.heap.objs.size :: fp) H H' s.heap s'.heap:=Un.mono J.base (fun b hb=>hb) (fun b hb=>mem_cons_of_mem _ hb);have u2:Un (frs X.stack) (s.heap.objs.size :: fp) H' H' s'.heap h' :=
  ⟨fun b o e _ _ hx=>keep b o (fun z=>hx (by rw [z]; exact mem_cons_self)) e,fun b o e _ _ hx=>⟨o.slots,keep b o (fun z=>hx (by rw [z]; exact mem_cons_self)) e⟩,fun _ _ _ n _=>n,fun b o e hx=>⟨o,keep b o (fun z=>hx (by rw [z]; exact mem_cons_self)) e⟩,fun _ _ q=>q,fun _ _ _ q=>q,fun _ _ q=>q⟩
 have hok:HOk X.prog X.w H' h':=fun a o e=>(J.hok a o e).stay (fun b u hb q=>keep b u (fun z=>by
  rcases hb with hb | hb
  ·rw [<- hb,z,hC] at e; cases e
  ·rw [z,hC] at hb; cases hb) q) (fun b q=>q) fun b xs q=>q
 refine I.call' (s':={ s' with heap:=h' }) (ch:=s.heap.objs.size :: fp) J.os (u1.trans u2) hok J.bare fun b hb=>?_;rcases mem_cons.mp hb with rfl | hb
 ·refine⟨.inr I.sz,ne_of_gt I.lt,fun x k e z=>?_,fun p hp z=>?_⟩
  ·obtain⟨v,q⟩:=I.cell x k e;exact absurd q.lt (by rw [z]; exact lt_irrefl _)
  ·exact absurd (lt_size (I.pin p hp).1) (by rw [z]; exact lt_irrefl _)
 ·obtain⟨f0,f1,f2,f3,f4,f5⟩:=f b hb;exact⟨f3,f1,f4,f5⟩
theorem zho{zj:List (Addr×Obj)}{σ:St}{H2:Hp}{s2:Shared}{it:Addr}{fp:List Addr}{tn:Nat->Heap->Prop}{J:It}{RR:Value->Addr->Result->Shared->Prop}{E:Value->Shared->Prop}(hc:X.calm=true)(c:CompOk X scope cl N caps)
  (I2:Inv X zj σ H2 s2) (T:Turn X.prog X.w X.K tg J fp it tn) (st2:tn 0 s2.heap) (f2:∀ b∈fp,FpOk X zj H2 b)
  (hg:∀ C s H fp,PG (zb1 X scope cl C s H fp N) tg g) (ht:∀ C s H fp,PTs (zb1 X scope cl C s H fp N) ifs tt) (he:∀ C s H fp,PE (zb1 X scope cl C s H fp N) elt te)
  (Q:VK) (hq:∀ D,H2 D=none->∃ W:Nat->Nat->St->Hp->Prop,(∃ m,W 0 m (tau caps σ) (upd H2 D (.lst []))) /\
   ∀ i m τ H2,W i m τ H2->(J.stop i H2/\Q (.ref D) H2)\/(J.go i H2/\∀ x H3,J.yld i H2 x H3->g x τ H3 fun τ4 H4=>tt τ4 H4 fun b H5 =>
    if b=true then te τ4 H5 fun v H6=>∃ xs,H6 D=some (.lst xs)/\xs.length<sizeLine/\∃ m',m'<m/\W (i+1) m' τ4 (upd H6 D (.lst (xs++[v]))) else ∃ m',m'<m/\W (i+1) m' τ4 H5))
  (hRR:∀ (D C:Addr) (H':Hp) (s':Shared) (m:Str->Option Value),s'.heap.Ns C m->FpOk X zj H' C->(∀ h',Heap.SameBut C s'.heap h'->Inv X zj σ H' { s' with heap:=h' })->Q (.ref D) H'->RR (.ref D) C (.ok .next) s') :
  wpAny (model X.prog X.w) X.A (newList []) (fun acc s₃=>wpAny (model X.prog X.w) X.A (newFunctionEnv scope X.env.globals cl [] X.env.qual none .none (some X.env)) (fun cenv s₄ =>
   codeAny (model X.prog X.w) X.A (.compStart (.ListComp elt [⟨tg,iter,ifs,0⟩] scope pos) 0 (.ref it) acc { cenv with scope:=relabel scope X.env }) (RR acc cenv.locals) s₄) E s₃) E s2:=by
 have hD:H2 s2.heap.objs.size=none:=I2.hok.fresh (le_refl _);obtain⟨W,⟨m0,w0⟩,turn⟩:=hq s2.heap.objs.size hD;have I3:Inv X zj σ (upd H2 s2.heap.objs.size (.lst [])) { s2 with heap:=s2.heap.push { cls:=.type "list",data:=.seq ([]:List Value).toArray } }:=I2.laid (t':=s2.toks) (fun b u e=>get?_push_of_some _ e) (le_refl _) ⟨zero_le _,[],0,.nil,get?_push_size _ rfl⟩;have fo:∀ b∈fp,∃ o,s2.heap.get? b=some o:=fun b hb=>by obtain⟨o,e,_⟩:=T.obj 0 _ st2 b hb; exact⟨o,e⟩
 have f3:∀ b∈fp,FpOk X zj (upd H2 s2.heap.objs.size (.lst [])) b:=fun b hb=>by
  obtain⟨o,e⟩:=fo b hb;refine⟨?_,(f2 b hb).2⟩;rw [zO (ne_of_lt (lt_size e))];exact(f2 b hb).1
 refine wpAny_newObj_type (wpAny_newFunctionEnv c.cell (by intro y hy; simp at hy) (fun h₁ hns₁ hsb₁=>?_) c.kind);have hk:∀ b o,(s2.heap.push { cls:=.type "list",data:=.seq ([]:List Value).toArray }).get? b=some o->h₁.get? b=some o:=fun b o e=>hsb₁.extBut b o (ne_of_lt (lt_size e)) (get?_push_of_some _ e);have st4:tn 0 h₁:=T.keep 0 _ _ st2 fun b _ o e=>hk b o (get?_push_of_some _ e);have I4:=zlx (t':=s2.toks+([]:List (Str×Value)).length) c I3 f3 (fun b hb=>by obtain⟨o,e⟩:=fo b hb; exact⟨o,get?_push_of_some _ e⟩) hns₁ hk;have fpok:∀ {H':Hp},(∀ b∈fp,H' b=none)->∀ b∈fp,FpOk (zb1 X scope cl (s2.heap.push { cls:=.type "list",data:=.seq ([]:List Value).toArray }).objs.size { s2 with heap:=s2.heap.push { cls:=.type "list",data:=.seq ([]:List Value).toArray } } (upd H2 s2.heap.objs.size (.lst [])) fp N) [] H' b:=fun hn b hb =>
  ⟨hn b hb,(I4.ok.exf b hb).1,I4.ok.exfs b hb,.inl hb,(I4.ok.exf b hb).2,fun p hp=>absurd (show p∈([]:List (Addr×Obj)) from hp) (by simp)⟩
 have loop:codeAny (model X.prog X.w) X.A (.compLoop (.ListComp elt [⟨tg,iter,ifs,0⟩] scope pos) 0 (.ref it) (.ref s2.heap.objs.size) (compEnvC scope cl (s2.heap.push { cls:=.type "list",data:=.seq ([]:List Value).toArray }).objs.size X.env))
   (RR (.ref s2.heap.objs.size) (s2.heap.push { cls:=.type "list",data:=.seq ([]:List Value).toArray }).objs.size) { s2 with heap:=h₁,toks:=s2.toks+([]:List (Str×Value)).length }:=by
  refine zjt (fun n s'=>∃ i τ H',Inv (zb1 X scope cl (s2.heap.push { cls:=.type "list",data:=.seq ([]:List Value).toArray }).objs.size { s2 with heap:=s2.heap.push { cls:=.type "list",data:=.seq ([]:List Value).toArray } } (upd H2 s2.heap.objs.size (.lst [])) fp N) [] τ H' s'/\tn i s'.heap/\(∀ b∈fp,H' b=none)/\W i n τ H') ?_ m0 ⟨0,_,_,I4,st4,fun b hb=>(f3 b hb).1,w0⟩;rintro n s5 ⟨i,τ,H5,I5,st5,fr5,w5⟩;rcases turn i n τ H5 w5 with ⟨stop,qn⟩ | ⟨go,step⟩
  ·refine thn (T.done (zb1 X scope cl (s2.heap.push { cls:=.type "list",data:=.seq ([]:List Value).toArray }).objs.size { s2 with heap:=s2.heap.push { cls:=.type "list",data:=.seq ([]:List Value).toArray } } (upd H2 s2.heap.objs.size (.lst [])) fp N) rfl rfl rfl hc i [] s5 τ H5 (fun _ _=>False) I5 (fpok fr5) st5 stop) fun r s6 ⟨hr,I6⟩=>?_;subst hr;obtain⟨m,hn,_⟩:=id I6.loc;exact hRR _ _ H5 s6 m hn (I3.fpOk (le_refl _) I6.free) (fun h' hs=>zm5 I3 f3 I6 hs) qn
  ·refine thn (T.item (zb1 X scope cl (s2.heap.push { cls:=.type "list",data:=.seq ([]:List Value).toArray }).objs.size { s2 with heap:=s2.heap.push { cls:=.type "list",data:=.seq ([]:List Value).toArray } } (upd H2 s2.heap.objs.size (.lst [])) fp N) rfl rfl rfl hc i [] s5 τ H5 (fun _ _=>False) I5 (fpok fr5) st5 go) fun r s6 ⟨u,hr,h6⟩=>?_;subst hr;refine thn h6 fun _ s7 ⟨x,H7,I7,r7,y7,st7,fr7⟩=>?_;have I7':=I7.pinned (fpok fr7) (T.obj _ _ st7);refine thn (hg _ _ _ _ _ s7 τ H7 x u _ I7' r7 (step x H7 y7)) fun _ s8 ⟨τ8,H8,I8,q8⟩=>?_;refine thn (ht _ _ _ _ _ s8 τ8 H8 _ I8 q8) fun ok s9 ⟨H9,I9,q9⟩=>?_;have again:∀ {H':Hp} {s':Shared} {m:Nat},Inv (zb1 X scope cl (s2.heap.push { cls:=.type "list",data:=.seq ([]:List Value).toArray }).objs.size { s2 with heap:=s2.heap.push { cls:=.type "list",data:=.seq ([]:List Value).toArray } } (upd H2 s2.heap.objs.size (.lst [])) fp N) ([]++zjD fp s7.heap) τ8 H' s'->(m<n/\W (i+1) m τ8 H') ->
     ∃ m,m<n/\∃ i τ H',Inv (zb1 X scope cl (s2.heap.push { cls:=.type "list",data:=.seq ([]:List Value).toArray }).objs.size { s2 with heap:=s2.heap.push { cls:=.type "list",data:=.seq ([]:List Value).toArray } } (upd H2 s2.heap.objs.size (.lst [])) fp N) [] τ H' s'/\tn i s'.heap/\(∀ b∈fp,H' b=none)/\W i m τ H':=fun {H' s' m} I' q=>by
    refine⟨m,q.1,i+1,τ8,H',I'.unpinned,T.keep _ _ _ st7 fun b hb o e=>(I'.pin (b,o) (mem_append_right _ (mem_append_right _ (zdW hb e)))).1,fun b hb=>?_,q.2⟩;obtain⟨o,e,d⟩:=T.obj _ _ st7 b hb;exact(I'.pin (b,o) (mem_append_right _ (mem_append_right _ (zdW hb e)))).2.1
   cases ok with
   | false =>
    rw [if_neg Bool.false_ne_true] at q9 ⊢;obtain⟨m',hm,w9⟩:=q9;exact again I9 ⟨hm,w9⟩
   | true =>
    rw [if_pos rfl] at q9 ⊢;refine thn (he _ _ _ _ _ s9 τ8 H9 _ I9 q9) fun v s10 ⟨z,H10,I10,r10,xs,hx,hz,m',hm,w10⟩=>?_;refine thn (za9 _ s10 τ8 H10 (.ref s2.heap.objs.size) [z] (.ref s2.heap.objs.size) [v] (fun _ H11=>W (i+1) m' τ8 H11) I10 rfl (.cons r10 .nil) ⟨_,xs,z,rfl,rfl,hx,hz,w10⟩) fun _ s11 ⟨_,H11,I11,_,w11⟩=>?_;exact again I11 ⟨hm,w11⟩
 exact codeAny_compStart_list loop (T.self _ 0 _ _ _ st4 loop)
theorem zbu(hx:∀ e s,X.xe e s->False)(hc:X.calm=true)(c:CompOk X scope cl N caps)(hi:PI X tg iter wi)(hg:∀ C s H fp,PG (zb1 X scope cl C s H fp N) tg g)(ht:∀ C s H fp,PTs (zb1 X scope cl C s H fp N) ifs tt)(he:∀ C s H fp,PE (zb1 X scope cl C s H fp N) elt te)
  (hs:∀ x,foldedSetIterable iter X.env x=pure x:=by intro _; rfl):PE X (.ListComp elt [⟨tg,iter,ifs,0⟩] scope pos) (zn0 caps wi g tt te):=by
 intro zj s σ H Q I h;rw [eval_ListComp];refine wpAny_comprehension_free (use:=none) rfl hs c.clos c.kind c.names (thn (hi zj s σ H _ I h) fun v s1 h1=>thn h1 fun itv s2 h2=>?_);obtain⟨it,fp,tn,J,H2,e,I2,T,st2,f2,q2⟩:=h2;subst e;exact zho (RR:=fun acc C=>compPost (model X.prog X.w) X.A X.xe none (EP X zj σ Q) acc C) hc c I2 T st2 f2 hg ht he Q q2 fun D C H' s' m hn _ hb q=>⟨m,hn,fun h' hs=>⟨.ref D,H',hb h' hs,rfl,q⟩⟩
theorem zdb{i:Nat}{y:Str}{py spos:Pos}(hx:∀ e s,X.xe e s->False)(hc:X.calm=true)(c:CompOk X scope cl N caps)(hN:X.N.Nodup)(hyi:X.N[i]? = some y)(hl:X.env.scope.names.lookup y=some .local)(hi:PI X tg iter wi)(hg:∀ C s H fp,PG (zb1 X scope cl C s H fp N) tg g)
  (ht:∀ C s H fp,PTs (zb1 X scope cl C s H fp N) ifs tt) (he:∀ C s H fp,PE (zb1 X scope cl C s H fp N) elt te)
  (hsw:swapsWith (.ListComp elt [⟨tg,iter,ifs,0⟩] scope pos) (some (.Name y py)) spos.line X.env=pure true:=by rfl)
  (hs:∀ x,foldedSetIterable iter X.env x=pure x:=by intro _; rfl):PS X (.Assign [.Name y py] (.ListComp elt [⟨tg,iter,ifs,0⟩] scope pos) spos) (ztG (zn0 caps wi g tt te) (zma i)):=by
 intro zj s σ H D I h;rw [exec_Assign_Name_used _ _ _ _ hsw];refine wpAny_bind (wpAny_standAt (wpAny_bind ?_));show wpAny _ X.A (do let _ <- comprehension (.ListComp elt [⟨tg,iter,ifs,0⟩] scope pos) scope X.env _ (newList []) false (eval iter X.env) (some (assign (.Name y py) X.env))) _ _ s;refine wpAny_bind (wpAny_mono (wpAny_comprehension_free (use:=some (assign (.Name y py) X.env)) (Q:=fun _ s'=>SP X zj D .next s') rfl hs c.clos c.kind c.names (thn (hi zj s σ H _ I h) fun v s1 h1=>thn h1 fun itv s2 h2=>?_)) (fun _ s' hq=>wpAny_pure (wpAny_pure hq)) fun _ _ e=>e);obtain⟨it,fp,tn,J,H2,e,I2,T,st2,f2,q2⟩:=h2;subst e;refine zho (RR:=fun acc C=>compPost (model X.prog X.w) X.A X.xe (some (assign (.Name y py) X.env)) (fun _ s'=>SP X zj D .next s') acc C) hc c I2 T st2 f2 hg ht he (fun v H'=>D.nx (σ.set i (some v)) H') q2 fun Da C H' s' m hn f hb q=>?_;obtain⟨o,es,ep,ho,hd,r⟩:=hn;have I':Inv X zj σ H' s':=hb s'.heap (Heap.SameBut.refl _ _);have I'':Inv X (zj++[(C,o)]) σ H' s':=I'.pins_of fun p hp=>(mem_append.mp hp).elim (fun z=>I'.pin p (mem_append_right _ z)) fun z=>by
  cases mem_singleton.mp z;exact⟨ho,f.1,f.2.1,f.2.2.1,fun v e=>by rw [hd] at e; cases e⟩
 refine wpAny_assign_Name (zfP I'' hN hyi (.inl hl) (show RelV (V.ref Da) (Value.ref Da) from rfl) (fun s2 J2=>?_) (.inr hl));refine⟨m,⟨o,es,ep,(J2.pin (C,o) (mem_append_right _ (mem_append_right _ (mem_singleton.mpr rfl)))).1,hd,r⟩,fun h' hs=>?_⟩;exact⟨_,H',J2.unpinned.turned (t':=s2.toks) (fun b ob nb e=>hs.extBut b ob nb e) f.1 f.2.1 f.2.2.2.1 f.2.2.2.2.1 f.2.2.2.2.2,q⟩
end
def zjV(env:Env):List (Str×NameKind)->List (Str×Addr)->List (Str×Addr)
 | [],acc=>acc
 | (n,k) :: r,acc=>zjV env r (if k == .free then (n,(env.cells.lookup n).getD 0) :: acc else acc)
theorem ziv{env:Env}{x:Str}{c:Addr}:∀ {names:List (Str×NameKind)} {acc:List (Str×Addr)},(x,c)∈zjV env names acc->(x,c)∈acc\/((x,NameKind.free)∈names/\c=(env.cells.lookup x).getD 0)
 | [],_,h=>.inl h
 | (n,k) :: r,acc,h=>by
  rcases ziv (names:=r) h with h | ⟨h,e⟩
  ·by_cases hk:k == .free
   ·rw [if_pos hk] at h;rcases mem_cons.mp h with h | h
    ·cases h;have:k=.free:=by simpa using hk
     subst this;exact .inr ⟨mem_cons_self,rfl⟩
    ·exact .inl h
   ·rw [if_neg hk] at h;exact .inl h
  ·exact .inr ⟨mem_cons_of_mem _ h,e⟩
theorem zlr{env:Env}{p:Str×Addr}:∀ {names:List (Str×NameKind)} {acc:List (Str×Addr)},p∈acc->p∈zjV env names acc
 | [],_,h=>h
 | (n,k) :: r,acc,h=>zlr (names:=r) (by split <;> first | exact mem_cons_of_mem _ h | exact h)
theorem zfR{env:Env}{x:Str}:∀ {names:List (Str×NameKind)} {acc:List (Str×Addr)},(x,NameKind.free)∈names->∃ c,(x,c)∈zjV env names acc
 | (n,k) :: r,acc,h=>by
  rcases mem_cons.mp h with h | h
  ·cases h;exact⟨_,zlr (names:=r) (by rw [if_pos dz]; exact mem_cons_self)⟩
  ·exact zfR (names:=r) h
theorem zcb{β:Type}{x:Str}{c:β}:∀ {l:List (Str×β)},(x,c)∈l->∃ c',l.lookup x=some c'
 | (n,v) :: r,h=>by
  cases e:x == n with
  | true=>exact⟨v,by rw [lookup_cons,e]⟩
  | false =>
   rcases mem_cons.mp h with h | h
   ·cases h;simp at e
   ·obtain⟨c',q⟩:=zcb (l:=r) h;exact⟨c',by rw [lookup_cons,e]; exact q⟩
theorem zeI{env:Env}{scope:Scope}(h:∀ y∈scope.names,y.2=.free->(env.cells.lookup y.1).isSome=true):closureFor scope env=pure (zjV env scope.names []):=by
 have go:∀ (names:List (Str×NameKind)) (acc:List (Str×Addr)),(∀ y∈names,y.2=.free->(env.cells.lookup y.1).isSome=true) ->
   (forIn names acc (fun(x:Str×NameKind) (cs:List (Str×Addr))=>(if x.2 == .free then (do let c <- cellOf env x.1; pure (ForInStep.yield ((x.1,c) :: cs))) else pure (ForInStep.yield cs):Sem (ForInStep (List (Str×Addr))))))=(pure (zjV env names acc):Sem (List (Str×Addr))):=by
  intro names;induction names with
  | nil=>intro acc _; rfl
  | cons y r ih =>
   intro acc hy;obtain⟨n,k⟩:=y;rw [forIn_cons];by_cases hk:k == .free
   ·have hs:=hy (n,k) mem_cons_self (by simpa using hk);obtain⟨c,hc⟩:=isSome_iff_exists.mp hs;have hc':env.cells.lookup n=some c:=hc;simp only [hk,if_true,cellOf,hc',pure_bind,zjV,Option.getD_some];exact ih _ fun y hy'=>hy y (mem_cons_of_mem _ hy')
   ·simp only [hk,Bool.false_eq_true,if_false,pure_bind,zjV];exact ih _ fun y hy'=>hy y (mem_cons_of_mem _ hy')
 have g:=go scope.names [] h;exact(bind_pure _).trans g
def zaN(DN:List Str)(dsc sc:List (Str×NameKind))(N:List Str)(caps:List (Option Nat)):Bool :=
 (caps.length == N.length) && sc.all (fun y=>y.2 != .cell && (y.2 != .free || dsc.lookup y.1 == some .cell) && (y.2 != .local || sc.lookup y.1 == some .local)) &&
 (caps.zip N).all fun p=>match p.1 with | none=>true | some i=>DN[i]? == some p.2 && dsc.lookup p.2 == some .cell && sc.lookup p.2 == some .free
theorem zdH{dsc:List (Str×NameKind)}{env:Env}{x:Str}{k:NameKind}:∀ {names:List (Str×NameKind)},(names.map fun(n,k)=>if (k == .free && env.scope.kind == .function && env.kindOf n == some .cell) then (n,.cell) else (n,k)).lookup x=some k ->
  ∃ k',names.lookup x=some k'/\(k'=k\/(k'=.free/\k=.cell))
 | [],h=>by simp at h
 | (n,k0) :: r,h=>by
  cases e:x == n with
  | true =>
   refine⟨k0,by rw [lookup_cons,e],?_⟩;rw [map_cons] at h;dsimp only at h;split at h
   ·rename_i hc;rw [lookup_cons,e] at h;have:k0=.free:=by simp at hc; exact hc.1.1
    cases h;exact .inr ⟨this,rfl⟩
   ·rw [lookup_cons,e] at h;cases h;exact .inl rfl
  | false =>
   rw [map_cons] at h;dsimp only at h;have h':(r.map fun(n,k)=>if (k == NameKind.free && env.scope.kind == .function && env.kindOf n == some .cell) then (n,NameKind.cell) else (n,k)).lookup x=some k:=by
    split at h <;> (rw [lookup_cons,e] at h; exact h)
   obtain⟨k',q,z⟩:=zdH (dsc:=dsc) h';exact⟨k',by rw [lookup_cons,e]; exact q,z⟩
theorem zhO{env:Env}{x:Str}(h1:env.scope.kind=.function)(h2:env.kindOf x=some .cell):∀ {names:List (Str×NameKind)},names.lookup x=some .free ->
  (names.map fun(n,k)=>if (k == .free && env.scope.kind == .function && env.kindOf n == some .cell) then (n,.cell) else (n,k)).lookup x=some .cell
 | [],h=>by simp at h
 | (n,k0) :: r,h=>by
  rw [map_cons];cases e:x == n with
  | true =>
   rw [lookup_cons,e] at h;cases h;have en:x=n:=by simpa using e
   subst en;dsimp only;rw [if_pos (by rw [h1,h2]; decide),lookup_cons,e]
  | false =>
   rw [lookup_cons,e] at h;have ih:=zhO h1 h2 (names:=r) h;dsimp only;split <;> (rw [lookup_cons,e]; exact ih)
theorem zR{X:Cx}{dsc:Scope}{L:Nat}{scope:Scope}{N:List Str}{caps:List (Option Nat)}(hd:X.env.scope=dsc)(hc:X.env.cells=cellsFrom L dsc.names [])(hdk:dsc.kind=.function)(hk:scope.kind=.function)(h:zaN X.N dsc.names scope.names N caps=true):
  CompOk X scope (zjV X.env scope.names []) N caps:=by
 subst hd;simp only [zaN,Bool.and_eq_true,all_eq_true,beq_iff_eq] at h;obtain⟨⟨hl,hs⟩,hz⟩:=h;have hfree:∀ y∈scope.names,y.2=.free->X.env.scope.names.lookup y.1=some .cell:=fun y hy e=>by
  have q:=(hs y hy).1.2;rw [e] at q;simpa using q
 have hcell:∀ y∈scope.names,y.2≠.cell:=fun y hy e=>by
  have q:=(hs y hy).1.1;rw [e] at q;simp at q
 have hsome:∀ x,X.env.scope.names.lookup x=some .cell->(X.env.cells.lookup x).isSome=true:=fun x e=>by
  rw [hc];exact W.cellsFrom_some _ _ _ (.inl e)
 have sub:∀ x c,(zjV X.env scope.names []).lookup x=some c->X.env.cells.lookup x=some c:=fun x c e=>by
  rcases ziv (PySem.mem_of_lookup e) with q | ⟨q,ec⟩
  ·cases q
  ·obtain⟨c',hc'⟩:=isSome_iff_exists.mp (hsome x (hfree _ q rfl));rw [ec,hc'];rfl
 refine⟨zeI fun y hy e=>hsome y.1 (hfree y hy e),sub,hk,hcell,fun y hy e=>?_,fun x hx=>?_,fun j i x h1 h2=>?_,hl⟩
 ·have q:=(hs y hy).2;rw [e] at q;simpa using q
 ·have fin:(x,NameKind.free)∈scope.names->∃ c,(zjV X.env scope.names []).lookup x=some c:=fun m=>by
   obtain⟨c,hm⟩:=zfR (env:=X.env) (acc:=[]) m;exact zcb hm
  rcases hx with hx | hx
  ·obtain⟨k',q,z⟩:=zdH (dsc:=[]) hx;rcases z with rfl | ⟨rfl,_⟩
   ·exact absurd rfl (hcell _ (PySem.mem_of_lookup q))
   ·exact fin (PySem.mem_of_lookup q)
  ·obtain⟨k',q,z⟩:=zdH (dsc:=[]) hx;rcases z with rfl | ⟨_,z⟩
   ·exact fin (PySem.mem_of_lookup q)
   ·cases z
 ·have hm:(some i,x)∈caps.zip N:=by
   have:(caps.zip N)[j]? = some (some i,x):=by rw [getElem?_zip_eq_some]; exact⟨h1,h2⟩
   exact mem_of_getElem? this
  have q:=hz _ hm;simp only [Bool.and_eq_true,beq_iff_eq] at q;obtain⟨⟨q1,q2⟩,q3⟩:=q;obtain⟨c,hmc⟩:=zfR (env:=X.env) (acc:=[]) (PySem.mem_of_lookup q3);obtain⟨c',hc'⟩:=zcb hmc;refine⟨q1,.inr (.inl q2),fun z=>?_,c',hc',.inl (zhO hdk q2 q3)⟩;have z':X.env.scope.names.lookup x=some .local:=z;rw [q2] at z';cases z'
end
section
section
variable {X:Cx}
def ztt:R2:=fun x y H Q=>∃ z n,x=.str z/\y=.int n/\z.length<=1000/\n<=1000/\-1000<=n/\Q (.str (PySem.Txt.mul z n)) H
theorem ztv{z:Str}{n:Int}(h1:z.length<=1000)(h2:n<=1000)(h3:-1000<=n):PySem.MulOk z n:=by
 refine⟨by simp; omega,fun a _ b=>?_,fun a _=>?_⟩
 ·have e:(1000:Int)<=(2 ^ 63 - 1) / n:=by
   rw [Int.le_ediv_iff_mul_le (by omega)];have:=Int.mul_le_mul_of_nonneg_left h2 (show (0:Int)<=1000 by decide);omega
  omega
 ·have e:z.length*n.toNat<=1000*1000:=mul_le_mul h1 (by omega);unfold Builtin.Str.tooLong;simp only [decide_eq_false_iff_not,Nat.not_lt];exact le_trans e dz
theorem zrM:OpR X (binaryOp .Mult) ztt:=by
 intro zj s σ H x y v u Q I rx ry h;obtain⟨z,n,rfl,rfl,h1,h2,h3,q⟩:=h;obtain⟨t,rfl⟩:=rx;obtain⟨t',rfl⟩:=ry;exact PySem.SB.mul (ztv h1 h2 h3) fun _ k=>⟨.str _,H,I.tok _,⟨_,rfl⟩,q⟩
def zve:V->Option Int->Option Int->Hp->VK->Prop:=fun x lo hi H Q=>∃ z,x=.str z/\z.length<=sizeLine/\Q (.str (PySem.Txt.slice z lo hi)) H
theorem ztJ:SlR X zve:=by
 intro zj s σ H x v vl vu lo hi sl Q I rx hs pl pu h;obtain⟨z,rfl,hz,q⟩:=h;obtain⟨t,rfl⟩:=rx;refine⟨"str",_,F.slot_str_getitem.lookup,typeIs_str _ _ _,?_⟩;have fin:∀ (a b:Option (Int×Tok)),a.map (·.1)=lo->b.map (·.1)=hi->s.heap.IsSlice sl a b none->wpAny (model X.prog X.w) X.A (getItem (.str z t) (.ref sl)) (EP X zj σ Q) X.xe s:=fun a b e1 e2 hsl=>by
  subst e1 e2;exact wpAny_getItem_str_slice (l:=a) (u:=b) (st:=none) hsl rfl (post_val_or_str ⟨le_trans (PySem.Txt.slice_le z _ _) hz,fun _ k=>⟨.str _,H,I.tok _,⟨_,rfl⟩,q⟩⟩)
 cases pl with
 | none =>
  cases pu with
  | none=>exact fin none none rfl rfl hs
  | int j tj=>exact fin none (some (j,tj)) rfl rfl hs
 | int i ti =>
  cases pu with
  | none=>exact fin (some (i,ti)) none rfl rfl hs
  | int j tj=>exact fin (some (i,ti)) (some (j,tj)) rfl rfl hs
theorem zhN:∀ {zs:List Str} {us:List Value},Vals (zs.map V.str) us->StrsAre us zs
 | [],_,.nil=>.nil
 | z :: zs,_,.cons r t=>by
  obtain⟨tk,rfl⟩:=r;exact .cons z tk (zhN t)
def zte(K:W.Frag):V->List V->Hp->VK->Prop:=fun x vs H Q=>∃ z a zs,x=.str z/\vs=[.ref a]/\SqL K H a (zs.map V.str)/\z.length<=16/\zs.length<=1000/\(∀ y∈zs,y.length<=1000)/\Q (.str (PySem.Txt.join z zs)) H
theorem ziD{zs:List Str}(h:∀ y∈zs,y.length<=1000):(zs.map (·.length)).sum<=zs.length*1000:=by
 induction zs with
 | nil=>simp
 | cons z zs ih =>
  have h1:=h z mem_cons_self;have h2:=ih fun y hy=>h y (mem_cons_of_mem _ hy);simp only [map_cons,sum_cons,length_cons,Nat.add_mul,Nat.one_mul];omega
theorem zrh:MtR X "str.join" (zte X.K):=by
 intro zj s σ H x vs v us Q I rx rv h;obtain⟨z,a,zs,rfl,rfl,hq,hz,hn,hl,q⟩:=h;obtain⟨t,rfl⟩:=rx;obtain⟨u,rfl,r1⟩:=rv.one;cases r1;obtain⟨its,r,pl,hsz⟩:=I.list hq;have hs:=ziD hl;refine join_listW pl.isList (by simpa using zhN r) hz (by omega) fun _ k=>⟨.str _,H,I.tok _,⟨_,rfl⟩,q⟩
end
section
variable {K:W.Frag} {o:List Addr} {σ:St} {H0:Hp} {t:TE} {ta:TA} {ds:List PyData}
def zfM(lo:Int)(n:Nat):List PyData:=(List.range n).map fun k:Nat=>.int (lo+k)
theorem zal{lo:Int}{n:Nat}:(zfM lo n).length=n:=by simp [zfM]
theorem zb2{lo:Int}{n i:Nat}{d:PyData}(h:(zfM lo n)[i]? = some d):i<n/\d=.int (lo+i):=by
 have hi:i<n:=by
  have:=List.getElem?_eq_some_iff.mp h;obtain⟨hl,_⟩:=this
  rwa [zal] at hl
 refine⟨hi,?_⟩;simp only [zfM,getElem?_map,getElem?_range hi,map_some,Option.some.injEq] at h;exact h.symm
end
theorem zpG{y:Str}{zs:List Str}(hy:y.length<=16)(hz:∀ z∈zs,z.length<=1000):(PySem.Txt.join y zs).length<=zs.length*1016:=by
 show (Builtin.Str.glued y zs).length<=_;rw [StrLaws.glued_eq_join];cases zs with
 | nil=>exact zero_le _
 | cons a r =>
  rw [len_join_cons];have h1:=ziD hz;have h2:r.length*y.length<=r.length*16:=Nat.mul_le_mul_left _ hy;simp only [length_cons] at h1 ⊢;omega
def zdE{α:Type}(xs:List α)(lo hi:Option Int):List α:=(xs.drop (HT.sIx xs.length 0 lo)).take (HT.sIx xs.length xs.length hi - HT.sIx xs.length 0 lo)
theorem HasL.drop{H:Hp}:∀ {ds:List PyData} {vs:List V} (n:Nat),HasL H ds vs->HasL H (ds.drop n) (vs.drop n)
 | ds,vs,0,h=>h
 | [],vs,n+1,h=>by rw [zJ.mp h]; exact zJ.mpr rfl
 | d :: ds,vs,n+1,h=>by
  obtain⟨v,r,rfl,_,l⟩:=zA.mp h;exact HasL.drop n l
theorem HasL.take{H:Hp}:∀ {ds:List PyData} {vs:List V} (n:Nat),HasL H ds vs->HasL H (ds.take n) (vs.take n)
 | ds,vs,0,h=>zJ.mpr rfl
 | [],vs,n+1,h=>by rw [zJ.mp h]; exact zJ.mpr rfl
 | d :: ds,vs,n+1,h=>by
  obtain⟨v,r,rfl,q,l⟩:=zA.mp h;exact zA.mpr ⟨v,_,rfl,q,HasL.take n l⟩
theorem HasL.cut{H:Hp}{ds:List PyData}{vs:List V}(lo hi:Option Int)(h:HasL H ds vs):HasL H (zdE ds lo hi) (zkY vs lo hi):=by
 unfold zdE zkY;rw [h.length];exact(h.drop _).take _
theorem HasL.rev{H:Hp}:∀ {ds:List PyData} {vs:List V},HasL H ds vs->HasL H ds.reverse vs.reverse
 | [],vs,h=>by rw [zJ.mp h]; exact zJ.mpr rfl
 | d :: ds,vs,h=>by
  obtain⟨v,r,rfl,q,l⟩:=zA.mp h;rw [reverse_cons,reverse_cons];exact(HasL.rev l).append (zA.mpr ⟨v,[],rfl,q,zJ.mpr rfl⟩)
end
section
theorem zqI:∀ {l:List Addr} {H:Hp} {b:Addr} {u:HO},vw l H b=some u↔b∉l/\H b=some u
 | [],H,b,u=>by simp [vw]
 | a :: r,H,b,u=>by
  show hid a (vw r H) b=some u↔_;by_cases h:b=a
  ·subst h; simp [zoT]
  ·rw [zta h,zqI]; simp [h]
def vx(h o:List Addr)(H:Hp):Hp:=vw (h++o) H
theorem zap{h o:List Addr}{H:Hp}{b:Addr}{u:HO}:vx h o H b=some u↔b∉h/\b∉o/\H b=some u:=by
 unfold vx;rw [zqI];simp [and_assoc]
theorem zam{h o:List Addr}{H:Hp}:Same (vx h o H) H:=fun b u e=>(zap.mp e).2.2
theorem zeh{h o:List Addr}{H H':Hp}(s:Same H H'):Same (vx h o H) (vx h o H'):=fun b u e=>by
 obtain⟨h1,h2,h3⟩:=zap.mp e;exact zap.mpr ⟨h1,h2,s b u h3⟩
structure Ex(o:List Addr)(H:Hp)(o':List Addr)(H':Hp):Prop where
 pre:∃ r,o'=o++r
 kp:∀ b u,b∉o->H b=some u->b∉o'/\H' b=some u
section
variable {h o o' o'':List Addr} {H H' H'':Hp} {S:List (List PyData)} {p a:Addr}
theorem Ex.refl:Ex o H o H:=⟨⟨[],by simp⟩,fun _ _ a b=>⟨a,b⟩⟩
theorem Ex.trans(a:Ex o H o' H')(b:Ex o' H' o'' H''):Ex o H o'' H'':=by
 obtain⟨⟨r,e⟩,ka⟩:=a;obtain⟨⟨t,e'⟩,kb⟩:=b;refine⟨⟨r++t,by rw [e',e,append_assoc]⟩,fun b u h1 h2=>?_⟩;obtain⟨h3,h4⟩:=ka b u h1 h2;exact kb b u h3 h4
theorem Ex.vx(e:Ex o H o' H'):Same (L2.vx h o H) (L2.vx h o' H'):=fun b u q=>by
 obtain⟨h1,h2,h3⟩:=zap.mp q;obtain⟨h4,h5⟩:=e.kp b u h2 h3;exact zap.mpr ⟨h1,h4,h5⟩
structure ExH(h o:List Addr)(H:Hp)(o':List Addr)(H':Hp):Prop where
 pre:∃ r,o'=o++r
 kp:∀ b u,b∉h->b∉o->H b=some u->b∉o'/\H' b=some u
theorem Ex.hid(e:Ex o H o' H'):ExH h o H o' H':=⟨e.pre,fun b u _=>e.kp b u⟩
theorem ExH.refl:ExH h o H o H:=Ex.refl.hid
theorem ExH.vx(e:ExH h o H o' H'):Same (L2.vx h o H) (L2.vx h o' H'):=fun b u q=>by
 obtain⟨h1,h2,h3⟩:=zap.mp q;obtain⟨h4,h5⟩:=e.kp b u h1 h2 h3;exact zap.mpr ⟨h1,h4,h5⟩
theorem Ex.of_same(s:Same H H'):Ex o H o H':=⟨⟨[],by simp⟩,fun b u h e=>⟨h,s b u e⟩⟩
theorem zel{α:Type}{l t:List α}{k:Nat}{a:α}(q:l[k]? = some a):(l++t)[k]? = some a:=by
 obtain⟨hk,_⟩:=List.getElem?_eq_some_iff.mp q;rw [getElem?_append_left hk];exact q
def exO(a C:Addr)(d:Option Addr):HO:=.ext fun h=>∃ o,h.get? a=some o/\o.cls=.ref C/\o.dict=d/\∃ vs,o.data=.fields vs
def xw(dx:Addr)(fs:List (Str×V)):HO:=.ext fun h=>∃ mA,h.Ns1 dx mA/\(∀ f,RelO (fs.lookup f) (mA f))/\PySem.Within mA (fs.map (·.1))
def HasE(H:Hp)(C:Addr)(fs:List (Str×PyData))(v:V):Prop:=∃ a d,v=.ref a/\H a=some (exO a C d)/\∀ f dt,fs.lookup f=some dt->∃ dx vs u,d=some dx/\H dx=some (xw dx vs)/\vs.lookup f=some u/\Has H dt u
theorem HasE.mono{H H':Hp}{C:Addr}{fs:List (Str×PyData)}{v:V}(s:Same H H')(q:HasE H C fs v):HasE H' C fs v:=by
 obtain⟨a,d,e,ha,hf⟩:=q;refine⟨a,d,e,s _ _ ha,fun f dt l=>?_⟩;obtain⟨dx,vs,u,e1,e2,e3,e4⟩:=hf f dt l;exact⟨dx,vs,u,e1,s _ _ e2,e3,Has.mono s _ _ e4⟩
inductive XV where
 | d (d:PyData)
 | l (k:Nat)
 | o (v:V)
 | x (C:Addr) (fs:List (Str×PyData))
def HasX(h o:List Addr)(H:Hp):XV->V->Prop
 | .d d,v=>Has (vx h o H) d v
 | .l k,v=>∃ a,o[k]? = some a/\v=.ref a
 | .o w,v=>v=w
 | .x C fs,v=>HasE (vx h o H) C fs v
theorem HasX.mono(e:Ex o H o' H'):∀ {x:XV} {v:V},HasX h o H x v->HasX h o' H' x v
 | .d d,v,q=>Has.mono e.vx d v q
 | .l k,v,⟨a,q,r⟩=>by
  obtain⟨t,rfl⟩:=e.pre;exact⟨a,zel q,r⟩
 | .o w,v,q=>q
 | .x C fs,v,q=>HasE.mono e.vx q
def HasXs(h o:List Addr)(H:Hp):List XV->List V->Prop
 | [],vs=>vs=[]
 | x :: xs,vs=>∃ v r,vs=v :: r/\HasX h o H x v/\HasXs h o H xs r
theorem HasXs.mono(e:Ex o H o' H'):∀ {xs:List XV} {vs:List V},HasXs h o H xs vs->HasXs h o' H' xs vs
 | [],_,q=>q
 | x :: xs,vs,⟨v,r,e1,q,l⟩=>⟨v,r,e1,q.mono e,HasXs.mono e l⟩
abbrev Sto:=List (List PyData)
inductive MO where
 | l (vs:List V)
 | k (m:List (Key×V))
 | t (m:List (List Key×V))
def MO.ho:MO->HO
 | .l vs=>.lst vs
 | .k m=>.dK m
 | .t m=>.dT m
structure RepS(h o:List Addr)(H:Hp)(S:Sto):Prop where
 len:S.length=o.length
 nd:o.Nodup
 dis:∀ a∈o,a∉h
 hal:∀ b∈h,∃ u:MO,H b=some u.ho
 cont:∀ (k:Nat) (a:Addr) (ds:List PyData),o[k]? = some a->S[k]? = some ds->∃ vs,H a=some (.lst vs)/\HasL (vx h o H) ds vs
theorem zpf{α β:Type}{l:List α}{t:List β}{k:Nat}{a:α}(hl:t.length=l.length)(q:l[k]? = some a):∃ b,t[k]? = some b:=by
 obtain⟨hk,_⟩:=List.getElem?_eq_some_iff.mp q;exact⟨t[k]'(by omega),getElem?_eq_getElem _⟩
theorem RepS.oal(r:RepS h o H S):∀ a∈o,∃ u,H a=some (.lst u):=fun a ha=>by
 obtain⟨k,hk⟩:=mem_iff_getElem?.mp ha;obtain⟨ds,e⟩:=zpf r.len hk;obtain⟨vs,e',_⟩:=r.cont k a ds hk e;exact⟨_,e'⟩
theorem RepS.oam(r:RepS h o H S):∀ a∈o,∃ u:MO,H a=some u.ho:=fun a ha=>let ⟨u,e⟩:=r.oal a ha; ⟨.l u,e⟩
theorem RepS.fresh(r:RepS h o H S)(hp:H p=none):p∉h/\p∉o:=by
 constructor
 ·intro m;obtain⟨u,e⟩:=r.hal p m;rw [hp] at e;cases e
 ·intro m;obtain⟨u,e⟩:=r.oal p m;rw [hp] at e;cases e
theorem RepS.same(r:RepS h o H S)(s:Same H H'):RepS h o H' S where
 len:=r.len
 nd:=r.nd
 dis:=r.dis
 hal:=fun b m=>by obtain⟨u,e⟩:=r.hal b m; exact⟨u,s b _ e⟩
 cont:=fun k a ds e1 e2=>by
  obtain⟨vs,e3,l⟩:=r.cont k a ds e1 e2;exact⟨vs,s _ _ e3,HasL.mono (zeh s) _ _ l⟩
theorem RepS.laid{u:HO}(r:RepS h o H S)(hp:H p=none):vx h o (upd H p u) p=some u:=by
 obtain⟨h1,h2⟩:=r.fresh hp;exact zap.mpr ⟨h1,h2,zad⟩
theorem Ex.new{u:HO}(r:RepS h o H S)(hp:H p=none):Ex o H (o++[p]) (upd H p u):=by
 refine⟨⟨[p],rfl⟩,fun b w hb e=>?_⟩;have ne:b≠p:=zH e hp;exact⟨by simp [hb,ne],by rw [zO ne]; exact e⟩
theorem zdX{α:Type}{l:List α}{a:α}(h:l.Nodup)(n:a∉l):(l++[a]).Nodup:=by
 rw [nodup_append];refine⟨h,by simp,fun x hx y hy e=>?_⟩;rw [mem_singleton] at hy;subst hy;subst e;exact n hx
theorem RepS.new{ds:List PyData}{vs:List V}(r:RepS h o H S)(hp:H p=none)(l:HasL (vx h o H) ds vs):RepS h (o++[p]) (upd H p (.lst vs)) (S++[ds]):=by
 obtain⟨h1,h2⟩:=r.fresh hp;have ex:Ex o H (o++[p]) (upd H p (.lst vs)):=Ex.new r hp;refine⟨by simp [r.len],zdX r.nd h2,fun a ha=>?_,fun b hb=>?_,fun k a es e1 e2=>?_⟩
 ·rcases mem_append.mp ha with ha | ha
  ·exact r.dis a ha
  ·rw [mem_singleton.mp ha]; exact h1
 ·obtain⟨u,e⟩:=r.hal b hb;exact⟨u,by rw [zO (zH e hp)]; exact e⟩
 ·by_cases hk:k<o.length
  ·rw [getElem?_append_left hk] at e1;rw [getElem?_append_left (by rw [r.len]; exact hk)] at e2;obtain⟨ws,e3,l3⟩:=r.cont k a es e1 e2;refine⟨ws,?_,l3.mono ex.vx⟩;rw [zO (zH e3 hp)];exact e3
  ·have hk':k=o.length:=by
    obtain⟨q,_⟩:=List.getElem?_eq_some_iff.mp e1;rw [length_append,length_singleton] at q;omega
   subst hk';rw [getElem?_concat_length] at e1;rw [<- r.len,getElem?_concat_length] at e2;cases e1;cases e2;exact⟨vs,zad,l.mono ex.vx⟩
theorem Ex.upd{k:Nat}{u:HO}(e:o[k]? = some a):Ex o H o (L2.upd H a u) :=
 ⟨⟨[],by simp⟩,fun b w hb eb=>⟨hb,by rw [zO (fun z=>hb (by rw [z]; exact mem_of_getElem? e))]; exact eb⟩⟩
theorem zex{l:List Addr}(h:l.Nodup){i j:Nat}{a:Addr}(e1:l[i]? = some a)(e2:l[j]? = some a):i=j:=by
 obtain⟨hi,e1⟩:=List.getElem?_eq_some_iff.mp e1;obtain⟨hj,e2⟩:=List.getElem?_eq_some_iff.mp e2;exact(List.getElem_inj h).mp (e1.trans e2.symm)
theorem RepS.upd{k:Nat}{ds:List PyData}{vs:List V}(r:RepS h o H S)(e:o[k]? = some a)(l:HasL (vx h o H) ds vs):RepS h o (L2.upd H a (.lst vs)) (S.set k ds):=by
 have ex:Ex o H o (L2.upd H a (.lst vs)):=Ex.upd e;refine⟨by simp [r.len],r.nd,r.dis,fun b hb=>?_,fun j b es e1 e2=>?_⟩
 ·obtain⟨u,eb⟩:=r.hal b hb;have ne:b≠a:=fun z=>r.dis a (mem_of_getElem? e) (z▸hb);exact⟨u,by rw [zO ne]; exact eb⟩
 ·by_cases hj:j=k
  ·subst hj;rw [e1] at e;cases e;obtain⟨hk,_⟩:=List.getElem?_eq_some_iff.mp e1;rw [getElem?_set_self (by rw [r.len]; exact hk)] at e2;cases e2;exact⟨vs,zad,l.mono ex.vx⟩
  ·rw [getElem?_set_ne (Ne.symm hj)] at e2;obtain⟨ws,e3,l3⟩:=r.cont j b es e1 e2;have ne:b≠a:=fun z=>hj (zex r.nd e1 (z▸e));exact⟨ws,by rw [zO ne]; exact e3,l3.mono ex.vx⟩
abbrev XE:=List (Option XV)
structure RepE(h o:List Addr)(H:Hp)(δ:XE)(σ:St):Prop where
 len:δ.length=σ.length
 get:∀ (i:Nat) x,δ[i]? = some (some x)->∃ v,σ[i]? = some (some v)/\HasX h o H x v
variable {δ:XE} {σ:St}
theorem RepE.mono(r:RepE h o H δ σ)(e:Ex o H o' H'):RepE h o' H' δ σ:=⟨r.len,fun i x q=>by
 obtain⟨v,e1,e2⟩:=r.get i x q;exact⟨v,e1,e2.mono e⟩⟩
theorem RepE.set{i:Nat}{x:XV}{v:V}(r:RepE h o H δ σ)(q:HasX h o H x v):RepE h o H (δ.set i (some x)) (σ.set i (some v)):=by
 refine⟨by simp [r.len],fun j y e=>?_⟩;rw [getElem?_set] at e ⊢;by_cases hij:i=j
 ·rw [if_pos hij] at e ⊢;by_cases hl:i<δ.length
  ·rw [if_pos hl] at e;rw [if_pos (by rw [<- r.len]; exact hl)];cases e;exact⟨v,rfl,q⟩
  ·rw [if_neg hl] at e;cases e
 ·rw [if_neg hij] at e ⊢;exact r.get j y e
def zqQ(caps:List (Option Nat))(δ:XE):XE:=caps.map fun o=>o.bind fun i=>(δ[i]?).join
theorem RepE.tau{caps:List (Option Nat)}(r:RepE h o H δ σ):RepE h o H (zqQ caps δ) (L2.tau caps σ):=by
 refine⟨by simp [zqQ,L2.tau],fun i x e=>?_⟩;unfold zqQ at e;unfold L2.tau;rw [getElem?_map] at e ⊢;cases hc:caps[i]? with
 | none=>rw [hc] at e; cases e
 | some c =>
  rw [hc] at e;cases c with
  | none=>cases e
  | some j =>
   have e':(δ[j]?).join=some x:=by simpa using e
   have e2:δ[j]? = some (some x):=by
    cases hd:δ[j]? with
    | none=>rw [hd] at e'; cases e'
    | some y=>rw [hd] at e'; exact congrArg some (by simpa using e')
   obtain⟨v,e3,e4⟩:=r.get j x e2;exact⟨v,by simp [e3],e4⟩
end
abbrev RX:=XV->Sto->Prop
abbrev DE:=XE->Sto->RX->Prop
abbrev DT:=XE->Sto->(Bool->Sto->Prop)->Prop
abbrev DA:=XE->Sto->(List XV->Sto->Prop)->Prop
abbrev D2:=XV->XV->Sto->RX->Prop
def Cn(h o:List Addr)(H:Hp)(R:RX)(Q:VK):Prop:=∀ o' H' S' x v,Ex o H o' H'->RepS h o' H' S'->HasX h o' H' x v->R x S'->Q v H'
theorem Cn.pre{h o o':List Addr}{H H':Hp}{R:RX}{Q:VK}(c:Cn h o H R Q)(e:Ex o H o' H'):Cn h o' H' R Q:=fun o2 H2 S2 x v e2=>c o2 H2 S2 x v (e.trans e2)
def RE(t:TE)(dt:DE):Prop:=∀ (h o:List Addr) (H:Hp) (δ:XE) (σ:St) (S:Sto) (R:RX) (Q:VK),RepE h o H δ σ->RepS h o H S->dt δ S R->Cn h o H R Q->t σ H Q
def RT(t:TT)(dt:DT):Prop:=∀ (h o:List Addr) (H:Hp) (δ:XE) (σ:St) (S:Sto) (R:Bool->Sto->Prop) (Q:Bool->Hp->Prop),RepE h o H δ σ->RepS h o H S->dt δ S R ->
 (∀ o' H' S' b,Ex o H o' H'->RepS h o' H' S'->R b S'->Q b H')->t σ H Q
def RA(t:TA)(dt:DA):Prop:=∀ (h o:List Addr) (H:Hp) (δ:XE) (σ:St) (S:Sto) (R:List XV->Sto->Prop) (Q:List V->Hp->Prop),RepE h o H δ σ->RepS h o H S->dt δ S R ->
 (∀ o' H' S' xs vs,Ex o H o' H'->RepS h o' H' S'->HasXs h o' H' xs vs->R xs S'->Q vs H')->t σ H Q
def RO(r:R2)(rd:D2):Prop:=∀ (h o:List Addr) (H:Hp) (S:Sto) (x y:XV) (v u:V) (R:RX) (Q:VK),RepS h o H S->HasX h o H x v->HasX h o H y u->rd x y S R->Cn h o H R Q->r v u H Q
def RU(r:V->Hp->VK->Prop)(rd:XV->Sto->RX->Prop):Prop:=∀ (h o:List Addr) (H:Hp) (S:Sto) (x:XV) (v:V) (R:RX) (Q:VK),RepS h o H S->HasX h o H x v->rd x S R->Cn h o H R Q->r v H Q
def RC(r:List V->Hp->VK->Prop)(rd:List XV->Sto->RX->Prop):Prop:=∀ (h o:List Addr) (H:Hp) (S:Sto) (xs:List XV) (vs:List V) (R:RX) (Q:VK),RepS h o H S->HasXs h o H xs vs->rd xs S R->Cn h o H R Q->r vs H Q
def asI:XV->(Int->Prop)->Prop
 | .d (.int i),k=>k i
 | _,_=>False
def asB:XV->(Bool->Prop)->Prop
 | .d (.bool i),k=>k i
 | _,_=>False
def asS:XV->(Str->Prop)->Prop
 | .d (.str i),k=>k i
 | _,_=>False
def asT:XV->(List PyData->Prop)->Prop
 | .d (.tuple i),k=>k i
 | _,_=>False
def zj0(S:Sto):XV->Option (List PyData)
 | .d (.list ds)=>some ds
 | .l k=>S[k]?
 | _=>none
def asL(S:Sto)(x:XV)(k:List PyData->Prop):Prop:=∃ ds,zj0 S x=some ds/\k ds
def zdQ(S:Sto):XV->Option PyData
 | .d d=>some d
 | .l k=>(S[k]?).map .list
 | .o _=>none
 | .x _ _=>none
def asD(x:XV)(k:PyData->Prop):Prop:=match x with
 | .d d=>k d
 | _=>False
theorem zby{x:XV}{k:Int->Prop}(h:asI x k):∃ i,x=.d (.int i)/\k i:=by
 unfold asI at h;split at h
 ·exact⟨_,rfl,h⟩
 ·exact h.elim
theorem zla{x:XV}{k:Bool->Prop}(h:asB x k):∃ i,x=.d (.bool i)/\k i:=by
 unfold asB at h;split at h
 ·exact⟨_,rfl,h⟩
 ·exact h.elim
theorem znJ{x:XV}{k:Str->Prop}(h:asS x k):∃ i,x=.d (.str i)/\k i:=by
 unfold asS at h;split at h
 ·exact⟨_,rfl,h⟩
 ·exact h.elim
theorem zhF{x:XV}{k:List PyData->Prop}(h:asT x k):∃ i,x=.d (.tuple i)/\k i:=by
 unfold asT at h;split at h
 ·exact⟨_,rfl,h⟩
 ·exact h.elim
theorem ziN{x:XV}{k:PyData->Prop}(h:asD x k):∃ i,x=.d i/\k i:=by
 unfold asD at h;split at h
 ·exact⟨_,rfl,h⟩
 ·exact h.elim
section
variable {h o:List Addr} {H:Hp} {S:Sto} {x:XV} {v:V} {i:Int} {b:Bool} {z:Str} {ds:List PyData} {d:PyData}
theorem za5(q:HasX h o H (.d (.int i)) v):v=.int i:=(zbR (H:=vx h o H)).mp q
theorem zep(q:HasX h o H (.d (.bool b)) v):v=.bl b:=(zcd (H:=vx h o H)).mp q
theorem zdO(q:HasX h o H (.d (.str z)) v):v=.str z:=(zdN (H:=vx h o H)).mp q
theorem zd6(q:HasX h o H (.d (.tuple ds)) v):∃ a vs,v=.ref a/\H a=some (.tup vs)/\HasL (vx h o H) ds vs:=by
 obtain⟨a,vs,e,q,l⟩:=zaw.mp (show Has _ _ _ from q);exact⟨a,vs,e,zam _ _ q,l⟩
theorem zbn(r:RepS h o H S)(e:zj0 S x=some ds)(q:HasX h o H x v):∃ a vs,v=.ref a/\H a=some (.lst vs)/\HasL (vx h o H) ds vs:=by
 unfold zj0 at e;split at e
 ·cases e;obtain⟨a,vs,e,q,l⟩:=zbb.mp (show Has _ _ _ from q);exact⟨a,vs,e,zam _ _ q,l⟩
 ·obtain⟨a,e1,rfl⟩:=q;obtain⟨vs,e2,l⟩:=r.cont _ a ds e1 e;exact⟨a,vs,rfl,e2,l⟩
 ·cases e
theorem zb7(r:RepS h o H S)(e:zdQ S x=some d)(q:HasX h o H x v):Has H d v:=by
 unfold zdQ at e;split at e
 ·cases e;exact Has.mono zam _ _ q
 ·rename_i k;obtain⟨a,e1,rfl⟩:=q;cases hs:S[k]? with
  | none=>rw [hs] at e; cases e
  | some es =>
   rw [hs] at e;cases e;obtain⟨vs,e2,l⟩:=r.cont k a es e1 hs;exact zbb.mpr ⟨a,vs,rfl,e2,HasL.mono zam _ _ l⟩
 ·cases e
 ·cases e
theorem xI(i:Int):HasX h o H (.d (.int i)) (.int i):=(zbR (H:=vx h o H)).mpr rfl
theorem xB(i:Bool):HasX h o H (.d (.bool i)) (.bl i):=(zcd (H:=vx h o H)).mpr rfl
theorem xS(i:Str):HasX h o H (.d (.str i)) (.str i):=(zdN (H:=vx h o H)).mpr rfl
theorem xN:HasX h o H (.d .none) .non:=(zc3 (H:=vx h o H)).mpr rfl
theorem znf{vs:List V}{R:RX}{Q:VK}(r:RepS h o H S)(l:HasL (vx h o H) ds vs)(c:Cn h o H R Q)(q:R (.d (.tuple ds)) S):∀ p,H p=none->Q (.ref p) (upd H p (.tup vs)):=fun p hp =>
 c o _ S (.d (.tuple ds)) _ (Ex.of_same (Same.laid hp)) (r.same (Same.laid hp)) (zaw.mpr ⟨p,vs,rfl,r.laid hp,l.mono (zeh (Same.laid hp))⟩) q
theorem zl9{vs:List V}{R:RX}{Q:VK}(r:RepS h o H S)(l:HasL (vx h o H) ds vs)(c:Cn h o H R Q)(q:R (.d (.list ds)) S):∀ p,H p=none->Q (.ref p) (upd H p (.lst vs)):=fun p hp =>
 c o _ S (.d (.list ds)) _ (Ex.of_same (Same.laid hp)) (r.same (Same.laid hp)) (zbb.mpr ⟨p,vs,rfl,r.laid hp,l.mono (zeh (Same.laid hp))⟩) q
theorem zrU{vs:List V}{R:RX}{Q:VK}(r:RepS h o H S)(l:HasL (vx h o H) ds vs)(c:Cn h o H R Q)(q:R (.l S.length) (S++[ds])):∀ p,H p=none->Q (.ref p) (upd H p (.lst vs)):=fun p hp =>
 c (o++[p]) _ (S++[ds]) (.l S.length) _ (Ex.new r hp) (r.new hp l) ⟨p,by rw [r.len,getElem?_concat_length],rfl⟩ q
theorem zeF:∀ {xs:List XV} {vs:List V} {ds:List PyData},HasXs h o H xs vs->xs=ds.map XV.d->HasL (vx h o H) ds vs
 | [],vs,[],q,_=>zJ.mpr q
 | x :: xs,vs,d :: ds,⟨v,r,e,q,l⟩,e2=>by
  rw [map_cons] at e2;cases e2;exact zA.mpr ⟨v,r,e,q,zeF l rfl⟩
 | x :: xs,vs,[],_,e2=>by cases e2
 | [],vs,d :: ds,_,e2=>by cases e2
end
def datas:List XV->Option (List PyData)
 | []=>some []
 | .d d :: r=>(datas r).map (d :: ·)
 | _ :: _=>none
theorem zbX:∀ {xs:List XV} {ds:List PyData},datas xs=some ds->xs=ds.map XV.d
 | [],ds,e=>by cases e; rfl
 | .d d :: r,ds,e=>by
  unfold datas at e;cases hr:datas r with
  | none=>rw [hr] at e; cases e
  | some es =>
   rw [hr] at e;cases e;rw [zbX hr];rfl
 | .l _ :: _,_,e=>by cases e
 | .o _ :: _,_,e=>by cases e
 | .x _ _ :: _,_,e=>by cases e
def zh(i:Nat):DE:=fun δ S R=>∃ x,δ[i]? = some (some x)/\R x S
def dC(d:PyData):DE:=fun _ S R=>R (.d d) S
def dO(v:V):DE:=fun _ S R=>R (.o v) S
def dOp(rd:D2)(a b:DE):DE:=fun δ S R=>a δ S fun x S1=>b δ S1 fun y S2=>rd x y S2 R
def dUn(rd:XV->Sto->RX->Prop)(a:DE):DE:=fun δ S R=>a δ S fun x S1=>rd x S1 R
def zo:DA:=fun _ S R=>R [] S
def zb(a:DE)(b:DA):DA:=fun δ S R=>a δ S fun x S1=>b δ S1 fun xs S2=>R (x :: xs) S2
def dCB(rd:List XV->Sto->RX->Prop)(a:DA):DE:=fun δ S R=>a δ S fun xs S1=>rd xs S1 R
def zbZ(a:DA):DE:=fun δ S R=>a δ S fun xs S1=>∃ ds,datas xs=some ds/\ds.length<=1000/\R (.d (.tuple ds)) S1
def zfz(a:DA):DE:=fun δ S R=>a δ S fun xs S1=>∃ ds,datas xs=some ds/\ds.length<=1000/\R (.d (.list ds)) S1
def zcX(a:DA):DE:=fun δ S R=>a δ S fun xs S1=>∃ ds,datas xs=some ds/\ds.length<=1000/\R (.l S1.length) (S1++[ds])
section
variable {t ta tb tc:TE} {da db dc:DE} {tl:TA} {dl:DA} {tt tu:TT} {dt du:DT}
theorem zk{i:Nat}:RE (zlv i) (zh i):=fun h o H δ σ S R Q he hs ⟨x,e,q⟩ c=>by
 obtain⟨v,e1,e2⟩:=he.get i x e;exact⟨v,e1,c o H S x v Ex.refl hs e2 q⟩
theorem zN{i:Int}:RE (tC (.int i)) (dC (.int i)):=fun h o H δ σ S R Q he hs q c=>c o H S _ _ Ex.refl hs (xI i) q
theorem zjT{i:Bool}:RE (tC (.bl i)) (dC (.bool i)):=fun h o H δ σ S R Q he hs q c=>c o H S _ _ Ex.refl hs (xB i) q
theorem zhv{i:Str}:RE (tC (.str i)) (dC (.str i)):=fun h o H δ σ S R Q he hs q c=>c o H S _ _ Ex.refl hs (xS i) q
theorem ztU:RE (tC .non) (dC .none):=fun h o H δ σ S R Q he hs q c=>c o H S _ _ Ex.refl hs xN q
theorem zvp{v:V}:RE (tC v) (dO v):=fun h o H δ σ S R Q he hs q c=>c o H S (.o v) v Ex.refl hs rfl q
theorem zaf{r:R2}{rd:D2}(hr:RO r rd)(ha:RE ta da)(hb:RE tb db):RE (tOp r ta tb) (dOp rd da db):=fun h o H δ σ S R Q he hs q c =>
 ha h o H δ σ S _ _ he hs q fun o1 H1 S1 x v e1 s1 x1 d1=>hb h o1 H1 δ σ S1 _ _ (he.mono e1) s1 d1 fun o2 H2 S2 y u e2 s2 y2 d2 =>
  hr h o2 H2 S2 x y v u R Q s2 (x1.mono e2) y2 d2 (c.pre (e1.trans e2))
theorem zq0{r:V->Hp->VK->Prop}{rd:XV->Sto->RX->Prop}(hr:RU r rd)(ha:RE ta da):RE (tUn r ta) (dUn rd da):=fun h o H δ σ S R Q he hs q c =>
 ha h o H δ σ S _ _ he hs q fun o1 H1 S1 x v e1 s1 x1 d1=>hr h o1 H1 S1 x v R Q s1 x1 d1 (c.pre e1)
theorem zr:RA zsb zo:=fun h o H δ σ S R Q he hs q c=>c o H S [] [] Ex.refl hs rfl q
theorem zg(ha:RE ta da)(hb:RA tl dl):RA (zgm ta tl) (zb da dl):=fun h o H δ σ S R Q he hs q c =>
 ha h o H δ σ S _ _ he hs q fun o1 H1 S1 x v e1 s1 x1 d1=>hb h o1 H1 δ σ S1 _ _ (he.mono e1) s1 d1 fun o2 H2 S2 xs vs e2 s2 x2 d2 =>
  c o2 H2 S2 (x :: xs) (v :: vs) (e1.trans e2) s2 ⟨v,vs,rfl,x1.mono e2,x2⟩ d2
theorem zbH{r:List V->Hp->VK->Prop}{rd:List XV->Sto->RX->Prop}(hr:RC r rd)(ha:RA tl dl):RE (tCB r tl) (dCB rd dl):=fun h o H δ σ S R Q he hs q c =>
 ha h o H δ σ S _ _ he hs q fun o1 H1 S1 xs vs e1 s1 x1 d1=>hr h o1 H1 S1 xs vs R Q s1 x1 d1 (c.pre e1)
theorem zcr(ha:RA tl dl):RE (zuo tl) (zbZ dl):=fun h o H δ σ S R Q he hs q c =>
 ha h o H δ σ S _ _ he hs q fun o1 H1 S1 xs vs e1 s1 x1 ⟨ds,e,hl,d1⟩=>by
  have l:=zeF x1 (zbX e);exact⟨by rw [l.length]; exact le_of_lt (small1000 hl),znf s1 l (c.pre e1) d1⟩
theorem zjq(ha:RA tl dl):RE (zsj tl) (zfz dl):=fun h o H δ σ S R Q he hs q c =>
 ha h o H δ σ S _ _ he hs q fun o1 H1 S1 xs vs e1 s1 x1 ⟨ds,e,hl,d1⟩=>by
  have l:=zeF x1 (zbX e);exact⟨by rw [l.length]; exact le_of_lt (small1000 hl),zl9 s1 l (c.pre e1) d1⟩
theorem zr6(ha:RA tl dl):RE (zsj tl) (zcX dl):=fun h o H δ σ S R Q he hs q c =>
 ha h o H δ σ S _ _ he hs q fun o1 H1 S1 xs vs e1 s1 x1 ⟨ds,e,hl,d1⟩=>by
  have l:=zeF x1 (zbX e);exact⟨by rw [l.length]; exact le_of_lt (small1000 hl),zrU s1 l (c.pre e1) d1⟩
def dB(a:DE):DT:=fun δ S R=>a δ S fun x S1=>asB x fun b=>R b S1
def zkg(a:DT):DT:=fun δ S R=>a δ S fun b S1=>R (!b) S1
def zsk(a b:DT):DT:=fun δ S R=>a δ S fun x S1=>if x=true then b δ S1 R else R false S1
def dOr(a b:DT):DT:=fun δ S R=>a δ S fun x S1=>if x=true then R true S1 else b δ S1 R
def zgK(a b:DE):DE:=fun δ S R=>a δ S fun x S1=>asB x fun c=>if c=true then b δ S1 R else R (.d (.bool false)) S1
def zvd(a b:DE):DE:=fun δ S R=>a δ S fun x S1=>asB x fun c=>if c=true then R (.d (.bool true)) S1 else b δ S1 R
def zoG(a:DE):DE:=fun δ S R=>a δ S fun x S1=>asB x fun c=>R (.d (.bool (!c))) S1
def dIf(c:DT)(a b:DE):DE:=fun δ S R=>c δ S fun x S1=>if x=true then a δ S1 R else b δ S1 R
theorem zov(ha:RE ta da):RT (zq9 ta) (dB da):=fun h o H δ σ S R Q he hs q c =>
 ha h o H δ σ S _ _ he hs q fun o1 H1 S1 x v e1 s1 x1 d1=>by
  replace d1:=zla d1;obtain⟨b,rfl,d1⟩:=d1;exact⟨b,zep x1,c o1 H1 S1 b e1 s1 d1⟩
theorem zd8(ha:RT tt dt):RT (zuX tt) (zkg dt):=fun h o H δ σ S R Q he hs q c =>
 ha h o H δ σ S _ _ he hs q fun o1 H1 S1 b e1 s1 d1=>c o1 H1 S1 _ e1 s1 d1
theorem ztr(ha:RT tt dt)(hb:RT tu du):RT (zu4 tt tu) (zsk dt du):=fun h o H δ σ S R Q he hs q c =>
 ha h o H δ σ S _ _ he hs q fun o1 H1 S1 b e1 s1 d1=>by
  cases b with
  | true=>exact zou (hb h o1 H1 δ σ S1 R Q (he.mono e1) s1 (by simpa using d1) fun o2 H2 S2 b e2=>c o2 H2 S2 b (e1.trans e2))
  | false=>exact zox (c o1 H1 S1 false e1 s1 (by simpa using d1))
theorem zjc(ha:RT tt dt)(hb:RT tu du):RT (tOr tt tu) (dOr dt du):=fun h o H δ σ S R Q he hs q c =>
 ha h o H δ σ S _ _ he hs q fun o1 H1 S1 b e1 s1 d1=>by
  cases b with
  | false=>exact zox (hb h o1 H1 δ σ S1 R Q (he.mono e1) s1 (by simpa using d1) fun o2 H2 S2 b e2=>c o2 H2 S2 b (e1.trans e2))
  | true=>exact zou (c o1 H1 S1 true e1 s1 (by simpa using d1))
theorem zgd(ha:RE ta da)(hb:RE tb db):RE (ztX ta tb) (zgK da db):=fun h o H δ σ S R Q he hs q c =>
 ha h o H δ σ S _ _ he hs q fun o1 H1 S1 x v e1 s1 x1 d1=>by
  replace d1:=zla d1;obtain⟨b,rfl,d1⟩:=d1;refine⟨b,zep x1,?_⟩;cases b with
  | true=>exact zou (hb h o1 H1 δ σ S1 R Q (he.mono e1) s1 (by simpa using d1) (c.pre e1))
  | false=>exact zox (c o1 H1 S1 _ _ e1 s1 (xB false) (by simpa using d1))
theorem zsO(ha:RE ta da):RE (zsQ ta) (zoG da):=fun h o H δ σ S R Q he hs q c =>
 ha h o H δ σ S _ _ he hs q fun o1 H1 S1 x v e1 s1 x1 d1=>by
  replace d1:=zla d1;obtain⟨b,rfl,d1⟩:=d1;exact⟨b,zep x1,c o1 H1 S1 _ _ e1 s1 (xB _) d1⟩
theorem zsi(hc:RT tt dt)(ha:RE ta da)(hb:RE tb db):RE (tIf tt ta tb) (dIf dt da db):=fun h o H δ σ S R Q he hs q c =>
 hc h o H δ σ S _ _ he hs q fun o1 H1 S1 b e1 s1 d1=>by
  cases b with
  | true=>exact zou (ha h o1 H1 δ σ S1 R Q (he.mono e1) s1 (by simpa using d1) (c.pre e1))
  | false=>exact zox (hb h o1 H1 δ σ S1 R Q (he.mono e1) s1 (by simpa using d1) (c.pre e1))
def zkP(rd rd':D2)(a b e:DE):DE:=fun δ S R=>a δ S fun x S1=>b δ S1 fun y S2=>rd x y S2 fun z S3=>asB z fun k=>if k=true then e δ S3 fun u S4=>rd' y u S4 R else R (.d (.bool false)) S3
theorem zpl{r r':R2}{rd rd':D2}(hr:RO r rd)(hr':RO r' rd')(ha:RE ta da)(hb:RE tb db)(hc:RE tc dc):RE (zqO r r' ta tb tc) (zkP rd rd' da db dc):=fun h o H δ σ S R Q he hs q c =>
 ha h o H δ σ S _ _ he hs q fun o1 H1 S1 x v e1 s1 x1 d1=>hb h o1 H1 δ σ S1 _ _ (he.mono e1) s1 d1 fun o2 H2 S2 y u e2 s2 y2 d2 =>
  hr h o2 H2 S2 x y v u _ _ s2 (x1.mono e2) y2 d2 fun o3 H3 S3 z w e3 s3 z3 d3=>by
   replace d3:=zla d3;obtain⟨b,rfl,d3⟩:=d3;refine⟨b,zep z3,?_⟩;cases b with
   | false=>exact zox (c o3 H3 S3 _ _ ((e1.trans e2).trans e3) s3 (xB false) (by simpa using d3))
   | true=>exact zou (hc h o3 H3 δ σ S3 _ _ (((he.mono e1).mono e2).mono e3) s3 (by simpa using d3) fun o4 H4 S4 k w' e4 s4 k4 d4=>hr' h o4 H4 S4 y k u w' R Q s4 ((y2.mono e3).mono e4) k4 d4 (c.pre (((e1.trans e2).trans e3).trans e4)))
end
def dI(C:Int->Int->Prop)(g:Int->Int->Int):D2:=fun x y S R=>asI x fun i=>asI y fun j=>C i j/\R (.d (.int (g i j))) S
def dI0(g:Int->Int->Int):D2:=fun x y S R=>asI x fun i=>asI y fun j=>R (.d (.int (g i j))) S
def dIb(g:Int->Int->Bool):D2:=fun x y S R=>asI x fun i=>asI y fun j=>R (.d (.bool (g i j))) S
def dUI(g:Int->Int):XV->Sto->RX->Prop:=fun x S R=>asI x fun i=>R (.d (.int (g i))) S
def zfr:D2:=fun x y S R=>∃ d,zdQ S x=some d/\∃ e,zdQ S y=some e/\SeqAt.shaped d=true/\SeqAt.shaped e=true/\R (.d (.bool (PyData.eqv d e))) S
def zpY:D2:=fun x y S R=>∃ d,zdQ S x=some d/\∃ e,zdQ S y=some e/\SeqAt.shaped d=true/\SeqAt.shaped e=true/\R (.d (.bool (!PyData.eqv d e))) S
def zqs:D2:=fun x _ S R=>asD x fun d=>R (.d (.bool (zm1 d))) S
def zmy:D2:=fun x _ S R=>asD x fun d=>R (.d (.bool (!zm1 d))) S
def zvi:D2:=fun x y S R=>asT x fun ds=>asI y fun i=>∃ d,atI ds i=some d/\R (.d d) S
def zvr:D2:=fun x y S R=>asL S x fun ds=>asI y fun i=>∃ d,atI ds i=some d/\R (.d d) S
def zvu:D2:=fun x y S R=>asL S x fun ds=>asL S y fun es=>ds.length+es.length<=1000/\R (.d (.list (ds++es))) S
def zui:D2:=fun x y S R=>asT x fun ds=>asT y fun es=>ds≠[]/\ds.length+es.length<=1000/\R (.d (.tuple (ds++es))) S
section
theorem zr4{C:Int->Int->Prop}{g:Int->Int->Int}:RO (rI C fun i j=>.int (g i j)) (dI C g):=fun h o H S x y v u R Q hs hx hy q c=>by
 replace q:=zby q;obtain⟨i,rfl,q⟩:=q;replace q:=zby q;obtain⟨j,rfl,hc,q⟩:=q;exact⟨i,j,za5 hx,za5 hy,hc,c o H S _ _ Ex.refl hs (xI _) q⟩
theorem zr5{g:Int->Int->Int}:RO (rI0 fun i j=>.int (g i j)) (dI0 g):=fun h o H S x y v u R Q hs hx hy q c=>by
 replace q:=zby q;obtain⟨i,rfl,q⟩:=q;replace q:=zby q;obtain⟨j,rfl,q⟩:=q;exact⟨i,j,za5 hx,za5 hy,c o H S _ _ Ex.refl hs (xI _) q⟩
theorem zpd{g:Int->Int->Bool}:RO (rI0 fun i j=>.bl (g i j)) (dIb g):=fun h o H S x y v u R Q hs hx hy q c=>by
 replace q:=zby q;obtain⟨i,rfl,q⟩:=q;replace q:=zby q;obtain⟨j,rfl,q⟩:=q;exact⟨i,j,za5 hx,za5 hy,c o H S _ _ Ex.refl hs (xB _) q⟩
theorem zuj{g:Int->Int}:RU (rU fun i=>.int (g i)) (dUI g):=fun h o H S x v R Q hs hx q c=>by
 replace q:=zby q;obtain⟨i,rfl,q⟩:=q;exact⟨i,za5 hx,c o H S _ _ Ex.refl hs (xI _) q⟩
theorem zfA:RO zuT zfr:=fun h o H S x y v u R Q hs hx hy q c=>by
 obtain⟨d,q1,e,q2,q3,q4,q⟩:=q;exact⟨d,e,zb7 hs q1 hx,zb7 hs q2 hy,q3,q4,c o H S _ _ Ex.refl hs (xB _) q⟩
theorem zk8:RO zuO zpY:=fun h o H S x y v u R Q hs hx hy q c=>by
 obtain⟨d,q1,e,q2,q3,q4,q⟩:=q;exact⟨d,e,zb7 hs q1 hx,zb7 hs q2 hy,q3,q4,c o H S _ _ Ex.refl hs (xB _) q⟩
theorem zsB{ta:TE}{da:DE}(ha:RE ta da):RE (tOp zu1 ta (tC .non)) (dOp zqs da (dC .none)):=fun h o H δ σ S R Q he hs q c =>
 ha h o H δ σ S _ _ he hs q fun o1 H1 S1 x v e1 s1 x1 d1=>by
  replace d1:=ziN d1;obtain⟨d,rfl,d1⟩:=d1;have e:=ziX (show Has _ d v from x1);exact⟨rfl,by rw [e]; exact c o1 H1 S1 _ _ e1 s1 (xB _) d1⟩
theorem zng{ta:TE}{da:DE}(ha:RE ta da):RE (tOp zsI ta (tC .non)) (dOp zmy da (dC .none)):=fun h o H δ σ S R Q he hs q c =>
 ha h o H δ σ S _ _ he hs q fun o1 H1 S1 x v e1 s1 x1 d1=>by
  replace d1:=ziN d1;obtain⟨d,rfl,d1⟩:=d1;have e:=ziX (show Has _ d v from x1);exact⟨rfl,by rw [e]; exact c o1 H1 S1 _ _ e1 s1 (xB _) d1⟩
theorem HasL.atI{H:Hp}{ds:List PyData}{vs:List V}{i:Int}{d:PyData}(l:HasL H ds vs)(e:L2.atI ds i=some d):∃ v,L2.atI vs i=some v/\Has H d v:=by
 unfold L2.atI at e ⊢;rw [l.length];cases hn:ixN ds.length i with
 | none=>rw [hn] at e; cases e
 | some j =>
  rw [hn] at e;exact l.get (show ds[j]? = some d from e)
theorem zsx{K:W.Frag}:RO (zuh K) zvi:=fun h o H S x y v u R Q hs hx hy q c=>by
 replace q:=zhF q;obtain⟨ds,rfl,q⟩:=q;replace q:=zby q;obtain⟨i,rfl,d,e,q⟩:=q;obtain⟨a,vs,rfl,ea,l⟩:=zd6 hx;obtain⟨w,ew,hw⟩:=l.atI e;exact⟨a,vs,i,w,rfl,za5 hy,.of ea,ew,c o H S (.d d) w Ex.refl hs hw q⟩
theorem zqL{K:W.Frag}:RO (zug K) zvr:=fun h o H S x y v u R Q hs hx hy q c=>by
 obtain⟨ds,e0,q⟩:=q;replace q:=zby q;obtain⟨i,rfl,d,e,q⟩:=q;obtain⟨a,vs,rfl,ea,l⟩:=zbn hs e0 hx;obtain⟨w,ew,hw⟩:=l.atI e;exact⟨a,vs,i,w,rfl,za5 hy,.of ea,ew,c o H S (.d d) w Ex.refl hs hw q⟩
theorem zsV:RO zsF zvu:=fun h o H S x y v u R Q hs hx hy q c=>by
 obtain⟨ds,e0,es,e1,hl,q⟩:=q;obtain⟨a,vs,rfl,ea,la⟩:=zbn hs e0 hx;obtain⟨b,us,rfl,eb,lb⟩:=zbn hs e1 hy;exact⟨a,b,vs,us,rfl,rfl,ea,eb,by rw [la.length,lb.length]; exact le_of_lt (small1000 hl),zl9 hs (la.append lb) c q⟩
theorem zrc{K:W.Frag}:RO (zrQ K) zui:=fun h o H S x y v u R Q hs hx hy q c=>by
 replace q:=zhF q;obtain⟨ds,rfl,q⟩:=q;replace q:=zhF q;obtain⟨es,rfl,hn,hl,q⟩:=q;obtain⟨a,vs,rfl,ea,la⟩:=zd6 hx;obtain⟨b,us,rfl,eb,lb⟩:=zd6 hy;refine⟨a,b,vs,us,rfl,rfl,.of ea,.of eb,fun z=>?_,by rw [la.length,lb.length]; exact le_of_lt (small1000 hl),fun z=>?_,fun _=>znf hs (la.append lb) c q⟩
 ·subst z;have:=la.length;exact hn (eq_nil_of_length_eq_zero this.symm)
 ·subst z;have e:es=[]:=eq_nil_of_length_eq_zero lb.length.symm;subst e;rw [append_nil] at q;exact c o H S (.d (.tuple ds)) _ Ex.refl hs hx q
end
abbrev DO:=XE->Sto->(Option Int->Sto->Prop)->Prop
def RP(t:TO)(dt:DO):Prop:=∀ (h o:List Addr) (H:Hp) (δ:XE) (σ:St) (S:Sto) (R:Option Int->Sto->Prop) (Q:Option Int->Hp->Prop),RepE h o H δ σ->RepS h o H S->dt δ S R ->
 (∀ o' H' S' b,Ex o H o' H'->RepS h o' H' S'->R b S'->Q b H')->t σ H Q
def zbT:DO:=fun _ S R=>R none S
def ze2(a:DE):DO:=fun δ S R=>a δ S fun x S1=>asI x fun i=>R (some i) S1
theorem zgB:RP zmn zbT:=fun h o H δ σ S R Q he hs q c=>c o H S none Ex.refl hs q
theorem zgb{t:TE}{da:DE}(ha:RE t da):RP (zo6 t) (ze2 da):=fun h o H δ σ S R Q he hs q c =>
 ha h o H δ σ S _ _ he hs q fun o1 H1 S1 x v e1 s1 x1 d1=>by
  replace d1:=zby d1;obtain⟨i,rfl,d1⟩:=d1;exact⟨i,za5 x1,c o1 H1 S1 _ e1 s1 d1⟩
abbrev D3:=XV->Option Int->Option Int->Sto->RX->Prop
def RL(r:V->Option Int->Option Int->Hp->VK->Prop)(rd:D3):Prop:=∀ (h o:List Addr) (H:Hp) (S:Sto) (x:XV) (v:V) (a b:Option Int) (R:RX) (Q:VK),RepS h o H S->HasX h o H x v->rd x a b S R->Cn h o H R Q->r v a b H Q
def dSl(rd:D3)(e:DE)(a b:DO):DE:=fun δ S R=>e δ S fun x S1=>a δ S1 fun i S2=>b δ S2 fun j S3=>rd x i j S3 R
theorem znT{r:V->Option Int->Option Int->Hp->VK->Prop}{rd:D3}{te:TE}{de:DE}{ta tb:TO}{da db:DO}(hr:RL r rd)(he':RE te de)(ha:RP ta da)(hb:RP tb db):RE (tSl r te ta tb) (dSl rd de da db):=fun h o H δ σ S R Q he hs q c =>
 he' h o H δ σ S _ _ he hs q fun o1 H1 S1 x v e1 s1 x1 d1=>ha h o1 H1 δ σ S1 _ _ (he.mono e1) s1 d1 fun o2 H2 S2 i e2 s2 d2=>hb h o2 H2 δ σ S2 _ _ ((he.mono e1).mono e2) s2 d2 fun o3 H3 S3 j e3 s3 d3 =>
  hr h o3 H3 S3 x v i j R Q s3 ((x1.mono e2).mono e3) d3 (c.pre ((e1.trans e2).trans e3))
def zvk:D3:=fun x i j S R=>asL S x fun ds=>R (.d (.list (zdE ds i j))) S
def zvv:D3:=fun x i j S R=>asT x fun ds=>¬ (HT.sIx ds.length 0 i=0/\HT.sIx ds.length ds.length j=ds.length)/\R (.d (.tuple (zdE ds i j))) S
theorem znm{K:W.Frag}:RL (zt5 K) zvk:=fun h o H S x v a b R Q hs hx q c=>by
 obtain⟨ds,e0,q⟩:=q;obtain⟨p,vs,rfl,ea,l⟩:=zbn hs e0 hx;exact⟨p,vs,rfl,.of ea,zl9 hs (l.cut a b) c q⟩
theorem zsm{K:W.Frag}:RL (zur K) zvv:=fun h o H S x v a b R Q hs hx q c=>by
 replace q:=zhF q;obtain⟨ds,rfl,hn,q⟩:=q;obtain⟨p,vs,rfl,ea,l⟩:=zd6 hx;exact⟨p,vs,rfl,.of ea,by rw [l.length]; exact hn,znf hs (l.cut a b) c q⟩
def asQ(S:Sto):XV->Option (List PyData)
 | .d (.tuple ds)=>some ds
 | .d (.list ds)=>some ds
 | .l k=>S[k]?
 | _=>none
theorem ziT{h o:List Addr}{H:Hp}{S:Sto}{x:XV}{v:V}{ds:List PyData}(r:RepS h o H S)(e:asQ S x=some ds)(q:HasX h o H x v):∃ a vs,v=.ref a/\(H a=some (.tup vs)\/H a=some (.lst vs))/\HasL (vx h o H) ds vs:=by
 unfold asQ at e;split at e
 ·cases e;obtain⟨a,vs,e,q,l⟩:=zd6 q;exact⟨a,vs,e,.inl q,l⟩
 ·cases e;obtain⟨a,vs,e,q,l⟩:=zbn (x:=.d (.list ds)) (ds:=ds) r rfl q;exact⟨a,vs,e,.inr q,l⟩
 ·rename_i k;obtain⟨a,vs,e,q,l⟩:=zbn (x:=.l k) r e q;exact⟨a,vs,e,.inr q,l⟩
 ·cases e
def arg1:List XV->(XV->Prop)->Prop
 | [x],k=>k x
 | _,_=>False
def arg2:List XV->(XV->XV->Prop)->Prop
 | [x,y],k=>k x y
 | _,_=>False
theorem za0{xs:List XV}{k:XV->Prop}(h:arg1 xs k):∃ x,xs=[x]/\k x:=by
 unfold arg1 at h;split at h
 ·exact⟨_,rfl,h⟩
 ·exact h.elim
theorem zil{xs:List XV}{k:XV->XV->Prop}(h:arg2 xs k):∃ x y,xs=[x,y]/\k x y:=by
 unfold arg2 at h;split at h
 ·exact⟨_,_,rfl,h⟩
 ·exact h.elim
theorem hxs1{h o:List Addr}{H:Hp}{x:XV}{vs:List V}(q:HasXs h o H [x] vs):∃ v,vs=[v]/\HasX h o H x v:=by
 obtain⟨v,r,e,hx,hr⟩:=q;cases hr;exact⟨v,e,hx⟩
theorem hxs2{h o:List Addr}{H:Hp}{x y:XV}{vs:List V}(q:HasXs h o H [x,y] vs):∃ v u,vs=[v,u]/\HasX h o H x v/\HasX h o H y u:=by
 obtain⟨v,r,e,hx,q⟩:=q;obtain⟨u,e',hy⟩:=hxs1 q;subst e';exact⟨v,u,e,hx,hy⟩
def zuG:XV->(String->Prop)->Prop
 | .o v,k=>∃ c,v=.ty c/\k c
 | _,_=>False
def zuF:XV->(Int->Prop)->Prop
 | .d d,k=>match d with
  | .int i=>k i
  | .bool b=>k (if b then 1 else 0)
  | _=>False
 | _,_=>False
theorem zrK{x:XV}{k:String->Prop}(h:zuG x k):∃ c,x=.o (.ty c)/\k c:=by
 cases x with
 | o v =>
  obtain⟨c,rfl,h⟩:=h;exact⟨c,rfl,h⟩
 | d d=>exact h.elim
 | l j=>exact h.elim
 | x _ _=>exact h.elim
theorem zry{x:XV}{k:Int->Prop}(h:zuF x k):(∃ i,x=.d (.int i)/\k i)\/∃ b,x=.d (.bool b)/\k (if b then 1 else 0):=by
 cases x with
 | d d =>
  cases d with
  | int i=>exact .inl ⟨i,rfl,h⟩
  | bool b=>exact .inr ⟨b,rfl,h⟩
  | _=>exact h.elim
 | _=>exact h.elim
def zvt:List XV->Sto->RX->Prop:=fun xs S R=>arg1 xs fun x=>∃ ds,asQ S x=some ds/\R (.d (.int ds.length)) S
theorem znH{K:W.Frag}:RC (zun K) zvt:=fun h o H S xs vs R Q hs hx q c=>by
 obtain⟨x,rfl,ds,hd,q1⟩:=za0 q;obtain⟨v,rfl,hx1⟩:=hxs1 hx;obtain⟨a,ws,rfl,ea,l⟩:=ziT hs hd hx1;refine⟨a,ws,rfl,ea.elim (fun z=>.inr (.of z)) (fun z=>.inl (.of z)),?_⟩;rw [l.length];exact c o H S _ _ Ex.refl hs (xI _) q1
def zr8:List XV->Sto->RX->Prop:=fun xs S R=>arg2 xs fun x y=>zuG y fun cl=>∃ d,zdQ S x=some d/\cl∈zpt/\R (.d (.bool (zrD d cl))) S
theorem zso:RC zuA zr8:=fun h o H S xs vs R Q hs hx q c=>by
 obtain⟨x,y,rfl,q1⟩:=zil q;obtain⟨cl,rfl,d,hd,hc,q2⟩:=zrK q1;obtain⟨v,u,rfl,hx1,hu⟩:=hxs2 hx;cases hu;exact zru (zb7 hs hd hx1) hc (c o H S _ _ Ex.refl hs (xB _) q2)
def zpM:List XV->Sto->RX->Prop:=fun xs S R=>arg1 xs fun x=>zuF x fun i=>R (.d (.int i)) S
theorem zrl:RC (fun xs H Q=>(∃ i,xs=[.int i]/\Q (.int i) H)\/∃ k,xs=[.bl k]/\Q (.int (if k then 1 else 0)) H) zpM:=fun h o H S xs vs R Q hs hx q c=>by
 obtain⟨x,rfl,q1⟩:=za0 q;obtain⟨v,rfl,hx1⟩:=hxs1 hx;rcases zry q1 with ⟨i,rfl,q2⟩ | ⟨b,rfl,q2⟩
 ·exact .inl ⟨_,by rw [za5 hx1],c o H S _ _ Ex.refl hs (xI _) q2⟩
 ·exact .inr ⟨_,by rw [zep hx1],c o H S _ _ Ex.refl hs (xI _) q2⟩
def dI2(g:Int->Int->Int):List XV->Sto->RX->Prop:=fun xs S R=>arg2 xs fun x y=>asI x fun i=>asI y fun j=>R (.d (.int (g i j))) S
theorem zuk{g:Int->Int->Int}:RC (fun xs H Q=>∃ i j,xs=[.int i,.int j]/\Q (.int (g i j)) H) (dI2 g):=fun h o H S xs vs R Q hs hx q c=>by
 obtain⟨x,y,rfl,q1⟩:=zil q;obtain⟨v,u,rfl,hx1,hu⟩:=hxs2 hx;obtain⟨i,rfl,q2⟩:=zby q1;obtain⟨j,rfl,q3⟩:=zby q2;exact⟨i,j,by rw [za5 hx1,za5 hu],c o H S _ _ Ex.refl hs (xI _) q3⟩
def za7:List XV->Sto->RX->Prop:=fun xs S R=>arg1 xs fun x=>∃ ds,asQ S x=some ds/\R (.d (.tuple ds)) S
theorem zc2{K:W.Frag}:RC (fun xs H Q=>∃ p ys,xs=[.ref p]/\((SqL K H p ys/\∀ l,H l=none->Q (.ref l) (upd H l (.tup ys)))\/(SqT K H p ys/\Q (.ref p) H))) za7:=fun h o H S xs vs R Q hs hx q c=>by
 obtain⟨x,rfl,ds,hd,q1⟩:=za0 q;obtain⟨v,rfl,hx1⟩:=hxs1 hx;obtain⟨a,ws,rfl,ea,l⟩:=ziT hs hd hx1;refine⟨a,ws,rfl,ea.elim (fun z=>.inr ⟨.of z,?_⟩) (fun z=>.inl ⟨.of z,znf hs l c q1⟩)⟩;have hh:HasX h o H (.d (.tuple ds)) (.ref a):=by
  unfold asQ at hd;split at hd
  ·cases hd;exact hx1
  ·obtain⟨a',us,e1,e2,_⟩:=zbn (x:=.d (.list _)) hs rfl hx1;cases e1;rw [z] at e2;cases e2
  ·rename_i k;obtain⟨a',us,e1,e2,_⟩:=zbn (x:=.l k) hs hd hx1;cases e1;rw [z] at e2;cases e2
  ·cases hd
 exact c o H S _ _ Ex.refl hs hh q1
def zfX:List XV->Sto->RX->Prop:=fun xs S R=>arg1 xs fun x=>∃ ds,asQ S x=some ds/\R (.l S.length) (S++[ds])
theorem zop{K:W.Frag}:RC (fun xs H Q=>∃ p ys,xs=[.ref p]/\(SqL K H p ys\/SqT K H p ys)/\∀ l,H l=none->Q (.ref l) (upd H l (.lst ys))) zfX:=fun h o H S xs vs R Q hs hx q c=>by
 obtain⟨x,rfl,ds,hd,q1⟩:=za0 q;obtain⟨v,rfl,hx1⟩:=hxs1 hx;obtain⟨a,ws,rfl,ea,l⟩:=ziT hs hd hx1;exact⟨a,ws,rfl,ea.elim (fun z=>.inr (.of z)) (fun z=>.inl (.of z)),zrU hs l c q1⟩
theorem zcn{H:Hp}:∀ {ns:List Int} {vs:List V},HasL H (ns.map PyData.int) vs->vs=ns.map V.int
 | [],vs,h=>zJ.mp h
 | n :: ns,vs,h=>by
  obtain⟨v,r,rfl,h1,h2⟩:=zA.mp h;rw [zbR.mp h1,zcn h2];rfl
def zuW:List XV->Sto->RX->Prop:=fun xs S R=>arg1 xs fun x=>∃ ds,asQ S x=some ds/\∃ ns,ds=ns.map PyData.int/\ns≠[]/\∀ m,m∈ns->(∀ a,a∈ns->m<=a)->R (.d (.int m)) S
def zt0:List XV->Sto->RX->Prop:=fun xs S R=>arg1 xs fun x=>∃ ds,asQ S x=some ds/\∃ ns,ds=ns.map PyData.int/\ns≠[]/\∀ m,m∈ns->(∀ a,a∈ns->a<=m)->R (.d (.int m)) S
theorem zsG{K:W.Frag}:RC (zuy K) zuW:=fun h o H S xs vs R Q hs hx q c=>by
 obtain⟨x,rfl,ds,hd,ns,rfl,hn,q1⟩:=za0 q;obtain⟨v,rfl,hx1⟩:=hxs1 hx;obtain⟨a,ws,rfl,ea,l⟩:=ziT hs hd hx1;rw [zcn l] at ea;exact⟨a,ns,rfl,ea.elim (fun z=>.inr (.of z)) (fun z=>.inl (.of z)),hn,fun m m1 m2=>c o H S _ _ Ex.refl hs (xI _) (q1 m m1 m2)⟩
theorem zt1{K:W.Frag}:RC (zuR K) zt0:=fun h o H S xs vs R Q hs hx q c=>by
 obtain⟨x,rfl,ds,hd,ns,rfl,hn,q1⟩:=za0 q;obtain⟨v,rfl,hx1⟩:=hxs1 hx;obtain⟨a,ws,rfl,ea,l⟩:=ziT hs hd hx1;rw [zcn l] at ea;exact⟨a,ns,rfl,ea.elim (fun z=>.inr (.of z)) (fun z=>.inl (.of z)),hn,fun m m1 m2=>c o H S _ _ Ex.refl hs (xI _) (q1 m m1 m2)⟩
def dBM(rd:XV->List XV->Sto->RX->Prop)(e:DE)(a:DA):DE:=fun δ S R=>e δ S fun x S1=>∃ k,x=.l k/\k<S1.length/\a δ S1 fun xs S2=>rd x xs S2 R
def ztW(rd:XV->List XV->Sto->RX->Prop)(e:DE):DE:=fun δ S R=>e δ S fun x S1=>∃ k,x=.l k/\k<S1.length/\rd x [] S1 R
def RM(r:V->List V->Hp->VK->Prop)(rd:XV->List XV->Sto->RX->Prop):Prop:=∀ (h o:List Addr) (H:Hp) (S:Sto) (x:XV) (v:V) (xs:List XV) (vs:List V) (R:RX) (Q:VK),RepS h o H S->HasX h o H x v->HasXs h o H xs vs->rd x xs S R->Cn h o H R Q->r v vs H Q
theorem zh9{K:W.Frag}{H:Hp}{a:Addr}{vs:List V}(e:H a=some (.lst vs)):tyV K "list" (.ref a) H:=.inl ⟨rfl,vs,.of e⟩
theorem zqE{h o:List Addr}{H:Hp}{S:Sto}{k:Nat}{v:V}(hs:RepS h o H S)(hk:k<S.length)(hx:HasX h o H (.l k) v):∃ a vs,v=.ref a/\H a=some (.lst vs):=by
 obtain⟨a,e,rfl⟩:=hx;obtain⟨vs,e2,_⟩:=hs.cont k a _ e (getElem?_eq_getElem hk);exact⟨a,vs,rfl,e2⟩
theorem zpa{K:W.Frag}{r:V->List V->Hp->VK->Prop}{rd:XV->List XV->Sto->RX->Prop}{te:TE}{de:DE}{tl:TA}{dl:DA}(hr:RM r rd)(he':RE te de)(ha:RA tl dl):RE (tBM K "list" r te tl) (dBM rd de dl):=fun h o H δ σ S R Q he hs q c =>
 he' h o H δ σ S _ _ he hs q fun o1 H1 S1 x v e1 s1 x1 ⟨k,ek,hk,d1⟩=>by
  subst ek;obtain⟨a,ws,rfl,ea⟩:=zqE s1 hk x1;exact⟨zh9 ea,ha h o1 H1 δ σ S1 _ _ (he.mono e1) s1 d1 fun o2 H2 S2 xs vs e2 s2 x2 d2=>hr h o2 H2 S2 (.l k) _ xs vs R Q s2 (x1.mono e2) x2 d2 (c.pre (e1.trans e2))⟩
theorem ztl{K:W.Frag}{r:V->List V->Hp->VK->Prop}{rd:XV->List XV->Sto->RX->Prop}{te:TE}{de:DE}(hr:RM r rd)(he':RE te de):RE (zvc K "list" r te) (ztW rd de):=fun h o H δ σ S R Q he hs q c =>
 he' h o H δ σ S _ _ he hs q fun o1 H1 S1 x v e1 s1 x1 ⟨k,ek,hk,d1⟩=>by
  subst ek;obtain⟨a,ws,rfl,ea⟩:=zqE s1 hk x1;exact⟨zh9 ea,hr h o1 H1 S1 (.l k) _ [] [] R Q s1 x1 rfl d1 (c.pre e1)⟩
def zbs:XV->List XV->Sto->RX->Prop:=fun x xs S R=>∃ k,x=.l k/\∃ ds,S[k]? = some ds/\arg1 xs fun y=>asD y fun d=>ds.length<1000/\R (.d .none) (S.set k (ds++[d]))
theorem zmJ:RM znB zbs:=fun h o H S x v xs vs R Q hs hx hxs q c=>by
 obtain⟨k,rfl,ds,e,q1⟩:=q;obtain⟨y,rfl,q2⟩:=za0 q1;obtain⟨d,rfl,hl,q3⟩:=ziN q2;obtain⟨a,ea,rfl⟩:=hx;obtain⟨u,rfl,hu⟩:=hxs1 hxs;obtain⟨ws,ew,l⟩:=hs.cont k a ds ea e;exact⟨a,ws,u,rfl,rfl,ew,by rw [l.length]; exact small1000 (le_of_lt hl),c o _ _ (.d .none) _ (Ex.upd ea) (hs.upd ea (l.append (zA.mpr ⟨u,[],rfl,hu,zJ.mpr rfl⟩))) xN q3⟩
def zfN:XV->List XV->Sto->RX->Prop:=fun x xs S R=>∃ k,x=.l k/\∃ ds,S[k]? = some ds/\xs=[]/\R (.d .none) (S.set k ds.reverse)
theorem zlT:RM zlo zfN:=fun h o H S x v xs vs R Q hs hx hxs q c=>by
 obtain⟨k,rfl,ds,e,rfl,q1⟩:=q;obtain⟨a,ea,rfl⟩:=hx;obtain⟨ws,ew,l⟩:=hs.cont k a ds ea e;cases hxs;exact⟨a,ws,rfl,rfl,ew,c o _ _ (.d .none) _ (Ex.upd ea) (hs.upd ea l.rev) xN q1⟩
def zfa:XV->List XV->Sto->RX->Prop:=fun x xs S R=>∃ k,x=.l k/\∃ ds,S[k]? = some ds/\arg1 xs fun y=>∃ es,zj0 S y=some es/\ds.length+es.length<=1000/\R (.d .none) (S.set k (ds++es))
theorem zgx:RM zm7 zfa:=fun h o H S x v xs vs R Q hs hx hxs q c=>by
 obtain⟨k,rfl,ds,e,q1⟩:=q;obtain⟨y,rfl,es,ey,hl,q3⟩:=za0 q1;obtain⟨a,ea,rfl⟩:=hx;obtain⟨u,rfl,hu⟩:=hxs1 hxs;obtain⟨ws,ew,l⟩:=hs.cont k a ds ea e;obtain⟨b,zs,rfl,eb,lb⟩:=zbn hs ey hu;exact⟨a,b,ws,zs,rfl,rfl,ew,eb,by rw [l.length,lb.length]; exact le_of_lt (small1000 hl),c o _ _ (.d .none) _ (Ex.upd ea) (hs.upd ea (l.append lb)) xN q3⟩
def ret0(S:Sto)(R:RX):RX:=fun y S'=>match y,S' with
 | .d d,[]=>R (.d d) S
 | .l 0,[ds]=>R (.l S.length) (S++[ds])
 | _,_=>False
def zt7(k:Nat)(S:Sto)(R:RX):RX:=fun y S'=>match y,S' with
 | .d d,[p]=>R (.d d) (S.set k p)
 | .l 1,[p,ds]=>R (.l S.length) (S.set k p++[ds])
 | _,_=>False
section
variable {h o:List Addr} {H:Hp} {S:Sto} {R:RX} {Q:VK}
theorem zjb{h o h' o':List Addr}{H:Hp}(e:∀ b,(b∈h'\/b∈o')↔(b∈h\/b∈o)):vx h' o' H=vx h o H:=by
 funext b;have iff:∀ u,vx h' o' H b=some u↔vx h o H b=some u:=fun u=>by
  rw [zap,zap];have:=e b;constructor
  ·rintro⟨a1,a2,a3⟩;exact⟨fun m=>(this.mpr (.inl m)).elim a1 a2,fun m=>(this.mpr (.inr m)).elim a1 a2,a3⟩
  ·rintro⟨a1,a2,a3⟩;exact⟨fun m=>(this.mp (.inl m)).elim a1 a2,fun m=>(this.mp (.inr m)).elim a1 a2,a3⟩
 cases e1:vx h' o' H b with
 | some u=>exact((iff u).mp e1).symm
 | none =>
  cases e2:vx h o H b with
  | none=>rfl
  | some u=>rw [(iff u).mpr e2] at e1; cases e1
theorem rep0(hs:RepS h o H S):RepS (h++o) [] H [] where
 len:=rfl
 nd:=nodup_nil
 dis:=fun a ha=>by cases ha
 hal:=fun b hb=>(mem_append.mp hb).elim (hs.hal b) (hs.oam b)
 cont:=fun k a ds e=>by simp at e
theorem hx0{d:PyData}{v:V}(hx:HasX h o H (.d d) v):HasX (h++o) [] H (.d d) v:=by
 show Has (vx (h++o) [] H) d v;rw [zjb (h:=h) (o:=o) fun b=>by simp];exact hx
theorem hx0'{d:PyData}{v:V}(hx:HasX (h++o) [] H (.d d) v):HasX h o H (.d d) v:=by
 show Has (vx h o H) d v;rw [<- zjb (h':=h++o) (o':=[]) (h:=h) (o:=o) fun b=>by simp];exact hx
theorem cn0(hs:RepS h o H S)(c:Cn h o H R Q):Cn (h++o) [] H (ret0 S R) Q:=fun o' H' S' y v e s' hy q=>by
 have sm:Same H (vx [] o' H'):=fun b u eb=>by
  obtain⟨a1,a2⟩:=e.kp b u (by simp) eb;exact zap.mpr ⟨by simp,a1,a2⟩
 have sH:Same H H':=fun b u eb=>(zap.mp (sm b u eb)).2.2;unfold ret0 at q;split at q
 ·have e0:o'=[]:=eq_nil_of_length_eq_zero s'.len.symm;subst e0;exact c o H' S _ v (Ex.of_same sH) (hs.same sH) (hx0' hy) q
 ·rename_i ds;obtain⟨a,rfl⟩:∃ a,o'=[a]:=List.length_eq_one_iff.mp s'.len.symm;obtain⟨a',ea,rfl⟩:=hy;cases ea;obtain⟨vs,ev,l⟩:=s'.cont 0 a ds rfl rfl;have na:a∉h++o:=s'.dis a (by simp);have hn:H a=none:=by
   cases eh:H a with
   | none=>rfl
   | some u=>exact absurd (e.kp a u (by simp) eh).1 (by simp)
  have e2:Ex o H (o++[a]) H':=⟨⟨[a],rfl⟩,fun b u hb eb=>by
   obtain⟨a1,a2⟩:=e.kp b u (by simp) eb;exact⟨by simp only [mem_append,not_or]; exact⟨hb,a1⟩,a2⟩⟩
  have ev':vx (h++o) [a] H'=vx h (o++[a]) H':=zjb fun b=>by simp [or_assoc]
  rw [ev'] at l;refine c (o++[a]) H' (S++[ds]) (.l S.length) _ e2 ⟨by simp [hs.len],zdX hs.nd fun m=>na (mem_append_right _ m),fun b hb=>?_,fun b hb=>?_,fun k b es q1 q2=>?_⟩ ⟨a,by rw [hs.len,getElem?_concat_length],rfl⟩ q
  ·rcases mem_append.mp hb with hb | hb
   ·exact hs.dis b hb
   ·rw [mem_singleton.mp hb]; exact fun m=>na (mem_append_left _ m)
  ·obtain⟨u,eb⟩:=hs.hal b hb;exact⟨u,sH b _ eb⟩
  ·by_cases hk:k<o.length
   ·rw [getElem?_append_left hk] at q1;rw [getElem?_append_left (by rw [hs.len]; exact hk)] at q2;obtain⟨ws,e3,l3⟩:=hs.cont k b es q1 q2;exact⟨ws,sH _ _ e3,l3.mono e2.vx⟩
   ·have hk':k=o.length:=by
     obtain⟨q,_⟩:=List.getElem?_eq_some_iff.mp q1;rw [length_append,length_singleton] at q;omega
    subst hk';rw [getElem?_concat_length] at q1;rw [<- hs.len,getElem?_concat_length] at q2;cases q1;cases q2;exact⟨vs,ev,l⟩
 ·exact q.elim
theorem zue{k:Nat}{a:Addr}{p:List PyData}(hs:RepS h o H S)(ea:o[k]? = some a)(ep:S[k]? = some p):RepS (h++o.filter (fun b=>b≠a)) [a] H [p] where
 len:=rfl
 nd:=by simp
 dis:=fun b hb=>by
  rw [mem_singleton.mp hb];intro m;rcases mem_append.mp m with m | m
  ·exact hs.dis a (mem_of_getElem? ea) m
  ·have:=(mem_filter.mp m).2;simp at this
 hal:=fun b hb=>(mem_append.mp hb).elim (hs.hal b) fun m=>hs.oam b (mem_filter.mp m).1
 cont:=fun j b ds e1 e2=>by
  cases j with
  | succ j=>simp at e1
  | zero =>
   cases e1;cases e2;obtain⟨vs,e3,l⟩:=hs.cont k a p ea ep;refine⟨vs,e3,?_⟩;rw [zjb (h:=h) (o:=o) (mem_pen ea)];exact l
where
 mem_pen {h o:List Addr} {k:Nat} {a:Addr} (ea:o[k]? = some a) (b:Addr):(b∈h++o.filter (fun b=>b≠a)\/b∈[a])↔(b∈h\/b∈o):=by
  have ma:=mem_of_getElem? ea;by_cases e:b=a
  ·subst e;simp [ma]
  ·simp [e]
theorem hxP{k:Nat}{a:Addr}{d:PyData}{v:V}(ea:o[k]? = some a)(hx:HasX h o H (.d d) v):HasX (h++o.filter (fun b=>b≠a)) [a] H (.d d) v:=by
 show Has (vx _ _ H) d v;rw [zjb (h:=h) (o:=o) (zue.mem_pen ea)];exact hx
theorem cnP{k:Nat}{a:Addr}{p:List PyData}(hs:RepS h o H S)(ea:o[k]? = some a)(ep:S[k]? = some p)(c:Cn h o H R Q):Cn (h++o.filter (fun b=>b≠a)) [a] H (zt7 k S R) Q:=fun o' H' S' y v e s' hy q=>by
 have ma:=mem_of_getElem? ea;have hk:k<o.length:=(List.getElem?_eq_some_iff.mp ea).1;unfold zt7 at q;split at q
 ·rename_i d p';obtain⟨r,rfl⟩:=e.pre;have er:r=[]:=by
   have:=s'.len;simp at this;exact this
  subst er;have ex:Ex o H o H':=⟨⟨[],by simp⟩,fun b u hb eb=>⟨hb,(e.kp b u (fun m=>hb (by rw [mem_singleton.mp m]; exact ma)) eb).2⟩⟩;obtain⟨vs,ev,l⟩:=s'.cont 0 a p' rfl rfl;have ev':vx (h++o.filter (fun b=>b≠a)) ([a]++[]) H'=vx h o H':=zjb (zue.mem_pen ea);rw [ev'] at l;refine c o H' (S.set k p') (.d d) v ex ⟨by simp [hs.len],hs.nd,hs.dis,fun b hb=>?_,fun j b es q1 q2=>?_⟩ (by
   have hy':Has (vx (h++o.filter (fun b=>b≠a)) ([a]++[]) H') d v:=hy;rw [ev'] at hy';exact hy') q
  ·obtain⟨u,eb⟩:=hs.hal b hb;exact⟨u,(e.kp b _ (fun m=>hs.dis a ma (by rw [<- mem_singleton.mp m]; exact hb)) eb).2⟩
  ·by_cases hj:j=k
   ·subst hj;rw [q1] at ea;cases ea;rw [getElem?_set_self (by rw [hs.len]; exact hk)] at q2;cases q2;exact⟨vs,ev,l⟩
   ·rw [getElem?_set_ne (Ne.symm hj)] at q2;obtain⟨ws,e3,l3⟩:=hs.cont j b es q1 q2;have ne:b≠a:=fun z=>hj (zex hs.nd q1 (z▸ea));exact⟨ws,(e.kp b _ (by simp [ne]) e3).2,l3.mono ex.vx⟩
 ·rename_i p' ds;obtain⟨r,rfl⟩:=e.pre;obtain⟨a2,rfl⟩:∃ a2,r=[a2]:=by
   have:=s'.len;simp at this;exact List.length_eq_one_iff.mp this
  obtain⟨b2,eb2,rfl⟩:=hy;cases eb2;obtain⟨vs,ev,l⟩:=s'.cont 0 a p' rfl rfl;obtain⟨vs2,ev2,l2⟩:=s'.cont 1 a2 ds rfl rfl;have n2:a2∉h++o.filter (fun b=>b≠a):=s'.dis a2 (by simp);have n3:a≠a2:=by
   have:=s'.nd;simp at this;exact this
  have n4:a2∉o:=fun m=>n2 (mem_append_right _ (mem_filter.mpr ⟨m,by simp [Ne.symm n3]⟩));have ex:Ex o H (o++[a2]) H':=⟨⟨[a2],rfl⟩,fun b u hb eb=>by
   obtain⟨z1,z2⟩:=e.kp b u (fun m=>hb (by rw [mem_singleton.mp m]; exact ma)) eb;refine⟨?_,z2⟩;simp only [mem_append,not_or];exact⟨hb,fun m=>z1 (by simp at m ⊢; exact .inr m)⟩⟩
  have ev':vx (h++o.filter (fun b=>b≠a)) ([a]++[a2]) H'=vx h (o++[a2]) H':=zjb fun b=>by
   have:=zue.mem_pen (h:=h) ea b;simp only [mem_append] at this ⊢;rw [<- or_assoc,this,or_assoc]
  rw [ev'] at l l2;refine c (o++[a2]) H' (S.set k p'++[ds]) (.l S.length) _ ex ⟨by simp [hs.len],zdX hs.nd n4,fun b hb=>?_,fun b hb=>?_,fun j b es q1 q2=>?_⟩ ⟨a2,by rw [hs.len,getElem?_concat_length],rfl⟩ q
  ·rcases mem_append.mp hb with hb | hb
   ·exact hs.dis b hb
   ·rw [mem_singleton.mp hb]; exact fun m=>n2 (mem_append_left _ m)
  ·obtain⟨u,eb⟩:=hs.hal b hb;exact⟨u,(e.kp b _ (fun m=>hs.dis a ma (by rw [<- mem_singleton.mp m]; exact hb)) eb).2⟩
  ·by_cases hjo:j<o.length
   ·rw [getElem?_append_left hjo] at q1;rw [getElem?_append_left (by rw [length_set,hs.len]; exact hjo)] at q2;by_cases hj:j=k
    ·subst hj;rw [q1] at ea;cases ea;rw [getElem?_set_self (by rw [hs.len]; exact hk)] at q2;cases q2;exact⟨vs,ev,l⟩
    ·rw [getElem?_set_ne (Ne.symm hj)] at q2;obtain⟨ws,e3,l3⟩:=hs.cont j b es q1 q2;have ne:b≠a:=fun z=>hj (zex hs.nd q1 (z▸ea));exact⟨ws,(e.kp b _ (by simp [ne]) e3).2,l3.mono ex.vx⟩
   ·have hk':j=o.length:=by
     obtain⟨q,_⟩:=List.getElem?_eq_some_iff.mp q1;rw [length_append,length_singleton] at q;omega
    subst hk';rw [getElem?_concat_length] at q1;rw [<- hs.len,<- length_set (i:=k) (a:=p'),getElem?_concat_length] at q2;cases q1;cases q2;exact⟨vs2,ev2,l2⟩
 ·exact q.elim
end
structure DEnds where
 nx:XE->Sto->Prop
 rt:RX
 bk:XE->Sto->Prop:=fun _ _=>False
 ct:XE->Sto->Prop:=fun _ _=>False
abbrev DS:=DEnds->XE->Sto->Prop
abbrev DG:=XV->XE->Sto->(XE->Sto->Prop)->Prop
abbrev DGs:=List PyData->XE->Sto->(XE->Sto->Prop)->Prop
def Nx(h o:List Addr)(H:Hp)(N:XE->Sto->Prop)(M:St->Hp->Prop):Prop:=∀ o' H' δ' S' σ',Ex o H o' H'->RepE h o' H' δ' σ'->RepS h o' H' S'->N δ' S'->M σ' H'
theorem Nx.pre{h o o':List Addr}{H H':Hp}{N:XE->Sto->Prop}{M:St->Hp->Prop}(c:Nx h o H N M)(e:Ex o H o' H'):Nx h o' H' N M:=fun o2 H2 δ2 S2 σ2 e2=>c o2 H2 δ2 S2 σ2 (e.trans e2)
structure EOk(h o:List Addr)(H:Hp)(E:DEnds)(D:Ends):Prop where
 nx:Nx h o H E.nx D.nx
 rt:Cn h o H E.rt D.rt
 bk:Nx h o H E.bk D.bk
 ct:Nx h o H E.ct D.ct
theorem EOk.pre{h o o':List Addr}{H H':Hp}{E:DEnds}{D:Ends}(c:EOk h o H E D)(e:Ex o H o' H'):EOk h o' H' E D:=⟨c.nx.pre e,c.rt.pre e,c.bk.pre e,c.ct.pre e⟩
def RS(t:TS)(dt:DS):Prop:=∀ (h o:List Addr) (H:Hp) (δ:XE) (σ:St) (S:Sto) (E:DEnds) (D:Ends),RepE h o H δ σ->RepS h o H S->dt E δ S->EOk h o H E D->t D σ H
def RG(t:TG)(dt:DG):Prop:=∀ (h o:List Addr) (H:Hp) (δ:XE) (σ:St) (S:Sto) (x:XV) (v:V) (N:XE->Sto->Prop) (M:St->Hp->Prop),RepE h o H δ σ->RepS h o H S->HasX h o H x v->dt x δ S N->Nx h o H N M->t v σ H M
def RGs(t:TGs)(dt:DGs):Prop:=∀ (h o:List Addr) (H:Hp) (δ:XE) (σ:St) (S:Sto) (ds:List PyData) (vs:List V) (N:XE->Sto->Prop) (M:St->Hp->Prop),RepE h o H δ σ->RepS h o H S->HasL (vx h o H) ds vs->dt ds δ S N->Nx h o H N M->t vs σ H M
def zi(i:Nat):DG:=fun x δ S N=>N (δ.set i (some x)) S
def zc5:DGs:=fun ds δ S N=>ds=[]/\N δ S
def hdD:List PyData->(PyData->List PyData->Prop)->Prop
 | d :: es,k=>k d es
 | [],_=>False
theorem ztI{ds:List PyData}{k:PyData->List PyData->Prop}(h:hdD ds k):∃ d es,ds=d :: es/\k d es:=by
 cases ds with
 | nil=>exact h.elim
 | cons d es=>exact⟨d,es,rfl,h⟩
theorem ztK{d:PyData}{es:List PyData}{k:PyData->List PyData->Prop}:hdD (d :: es) k=k d es:=rfl
def zag(g:DG)(r:DGs):DGs:=fun ds δ S N=>hdD ds fun d es=>g (.d d) δ S fun δ' S'=>r es δ' S' N
def zdi(n:Nat)(r:DGs):DG:=fun x δ S N=>asT x fun ds=>ds.length=n/\r ds δ S N
def zjS(a b:DE):DG:=fun x δ S N=>a δ S fun y S1=>b δ S1 fun z S2=>asD x fun d=>∃ k,y=.l k/\∃ ds,S2[k]? = some ds/\asI z fun i=>∃ j,ixN ds.length i=some j/\N δ (S2.set k (ds.set j d))
theorem zy{i:Nat}:RG (zma i) (zi i):=fun h o H δ σ S x v N M he hs hx q c=>c o H _ S _ Ex.refl (he.set hx) hs q
theorem zek:RGs zva zc5:=fun h o H δ σ S ds vs N M he hs l ⟨e,q⟩ c=>by
 subst e;exact⟨zJ.mp l,c o H δ S σ Ex.refl he hs q⟩
theorem zbi{t:TG}{u:TGs}{g:DG}{r:DGs}(h1:RG t g)(h2:RGs u r):RGs (zts t u) (zag g r):=fun h o H δ σ S ds vs N M he hs l q0 c=>by
 obtain⟨d,es,rfl,q⟩:=ztI q0;obtain⟨v,ws,rfl,hv,l⟩:=zA.mp l;exact⟨v,ws,rfl,h1 h o H δ σ S (.d d) v _ _ he hs hv q fun o1 H1 δ1 S1 σ1 e1 he1 hs1 q1=>h2 h o1 H1 δ1 σ1 S1 es ws N M he1 hs1 (l.mono e1.vx) q1 (c.pre e1)⟩
theorem zf5{K:W.Frag}{n:Nat}{t:TGs}{r:DGs}(h1:RGs t r):RG (zuN K n t) (zdi n r):=fun h o H δ σ S x v N M he hs hx q c=>by
 replace q:=zhF q;obtain⟨ds,rfl,hn,q⟩:=q;obtain⟨a,vs,rfl,ea,l⟩:=zd6 hx;exact⟨a,vs,rfl,.of ea,by rw [l.length]; exact hn,h1 h o H δ σ S ds vs N M he hs l q c⟩
theorem HasL.setAt{H:Hp}:∀ {ds:List PyData} {vs:List V} {j:Nat} {d:PyData} {v:V},HasL H ds vs->Has H d v->HasL H (ds.set j d) (vs.set j v)
 | [],vs,j,d,v,l,_=>by rw [zJ.mp l]; exact zJ.mpr rfl
 | c :: ds,vs,0,d,v,l,q=>by
  obtain⟨u,r,rfl,_,l⟩:=zA.mp l;exact zA.mpr ⟨v,r,rfl,q,l⟩
 | c :: ds,vs,j+1,d,v,l,q=>by
  obtain⟨u,r,rfl,hu,l⟩:=zA.mp l;exact zA.mpr ⟨u,r.set j v,rfl,hu,HasL.setAt l q⟩
theorem zsy{ta tb:TE}{da db:DE}(ha:RE ta da)(hb:RE tb db):RG (zu8 ta tb zsU) (zjS da db):=fun h o H δ σ S x v N M he hs hx q c =>
 ha h o H δ σ S _ _ he hs q fun o1 H1 S1 y u e1 s1 y1 d1=>hb h o1 H1 δ σ S1 _ _ (he.mono e1) s1 d1 fun o2 H2 S2 z w e2 s2 z2 d0=>by
  obtain⟨d,rfl,k,rfl,ds,es,d2⟩:=ziN d0;replace d2:=zby d2;obtain⟨i,rfl,j,ej,d2⟩:=d2;obtain⟨a,ea,rfl⟩:=y1.mono e2;obtain⟨ws,ew,l⟩:=s2.cont k a ds ea es;refine⟨a,ws,i,j,rfl,za5 z2,ew,by rw [l.length]; exact ej,?_⟩;exact c o2 _ δ _ σ ((e1.trans e2).trans (Ex.upd ea)) (((he.mono e1).mono e2).mono (Ex.upd ea)) (s2.upd ea (l.setAt (hx.mono (e1.trans e2)))) d2
def zaG:DS:=fun E δ S=>E.nx δ S
def zM(t u:DS):DS:=fun E δ S=>t { E with nx:=u E } δ S
def zab(e:DE)(g:DG):DS:=fun E δ S=>e δ S fun x S1=>g x δ S1 E.nx
def zct(e:DE):DS:=fun E δ S=>e δ S fun _ S1=>E.nx δ S1
def zaM(e:DE):DS:=fun E δ S=>e δ S E.rt
def zcy(c:DT)(t u:DS):DS:=fun E δ S=>c δ S fun b S1=>if b=true then t E δ S1 else u E δ S1
section
variable {t u:TS} {dt du:DS} {te:TE} {de:DE}
theorem zcv:RS zrF zaG:=fun h o H δ σ S E D he hs q c=>c.nx o H δ S σ Ex.refl he hs q
theorem zQ(ht:RS t dt)(hu:RS u du):RS (zk3 t u) (zM dt du):=fun h o H δ σ S E D he hs q c =>
 ht h o H δ σ S _ _ he hs q ⟨fun o1 H1 δ1 S1 σ1 e1 he1 hs1 q1=>hu h o1 H1 δ1 σ1 S1 E D he1 hs1 q1 (c.pre e1),c.rt,c.bk,c.ct⟩
theorem zaz{g:TG}{dg:DG}(he':RE te de)(hg:RG g dg):RS (ztG te g) (zab de dg):=fun h o H δ σ S E D he hs q c =>
 he' h o H δ σ S _ _ he hs q fun o1 H1 S1 x v e1 s1 x1 d1=>hg h o1 H1 δ σ S1 x v _ _ (he.mono e1) s1 x1 d1 (c.nx.pre e1)
theorem zh6(he':RE te de):RS (zoU te) (zct de):=fun h o H δ σ S E D he hs q c =>
 he' h o H δ σ S _ _ he hs q fun o1 H1 S1 x v e1 s1 x1 d1=>c.nx o1 H1 δ S1 σ e1 (he.mono e1) s1 d1
theorem zaJ(he':RE te de):RS (zuL te) (zaM de):=fun h o H δ σ S E D he hs q c=>he' h o H δ σ S _ _ he hs q c.rt
theorem zfJ{tc:TT}{dc:DT}(hc:RT tc dc)(ht:RS t dt)(hu:RS u du):RS (zq6 tc t u) (zcy dc dt du):=fun h o H δ σ S E D he hs q c =>
 hc h o H δ σ S _ _ he hs q fun o1 H1 S1 b e1 s1 d1=>by
  cases b with
  | true=>exact zou (ht h o1 H1 δ σ S1 E D (he.mono e1) s1 (by simpa using d1) (c.pre e1))
  | false=>exact zox (hu h o1 H1 δ σ S1 E D (he.mono e1) s1 (by simpa using d1) (c.pre e1))
def frz(n:Nat)(ds:List PyData):Option XV->Option XV
 | some (.l k)=>if k=n then some (.d (.list ds)) else some (.l k)
 | y=>y
end
abbrev DI:=XE->Sto->(List PyData->Sto->Prop)->Prop
structure WalkX(h o:List Addr)(H:Hp)(J:It)(ds:List PyData):Prop where
 stop:∀ (i:Nat) o2 H2,ExH h o H o2 H2->ds.length<=i->J.stop i H2
 go:∀ (i:Nat) d o2 H2,ExH h o H o2 H2->ds[i]? = some d->J.go i H2
 yld:∀ (i:Nat) d o2 H2 x H3 S2,ExH h o H o2 H2->RepS h o2 H2 S2->ds[i]? = some d->J.yld i H2 x H3->Same H2 H3/\Has (vx h o2 H3) d x
def RI(w:TI)(di:DI):Prop:=∀ (h o:List Addr) (H:Hp) (δ:XE) (σ:St) (S:Sto) (R:List PyData->Sto->Prop) (Q:It->Hp->Prop),RepE h o H δ σ->RepS h o H S->di δ S R ->
 (∀ o' H' S' ds J,Ex o H o' H'->RepS h o' H' S'->WalkX h o' H' J ds->R ds S'->Q J H')->w σ H Q
theorem zog{h o:List Addr}{H:Hp}{lo:Int}{n:Nat}:WalkX h o H (Itr lo n) (zfM lo n) where
 stop:=fun i _ _ _ hi=>by rw [zal] at hi; exact hi
 go:=fun i d _ _ _ hi=>(zb2 hi).1
 yld:=fun i d o2 H2 x H3 S2 _ _ hi y=>by
  obtain⟨e,ex⟩:=y;subst e ex;rw [(zb2 hi).2];exact⟨Same.refl _,zbR.mpr rfl⟩
def zl6(g:DG)(b:DS):List PyData->DS
 | [],E,δ,S=>E.nx δ S
 | d :: ds,E,δ,S=>g (.d d) δ S fun δ1 S1=>b { nx:=fun δ2 S2=>zl6 g b ds E δ2 S2,ct:=fun δ2 S2=>zl6 g b ds E δ2 S2,bk:=E.nx,rt:=E.rt } δ1 S1
def zfI(i:DI)(g:DG)(b:DS):DS:=fun E δ S=>i δ S fun ds S1=>zl6 g b ds E δ S1
theorem zjL{wi:TI}{g:TG}{tb:TS}{di:DI}{dg:DG}{db:DS}(hi:RI wi di)(hg:RG g dg)(hb:RS tb db):RS (zuu wi g tb) (zfI di dg db):=fun h o H δ σ S E D he hs q c =>
 hi h o H δ σ S _ _ he hs q fun o1 H1 S1 ds J e1 s1 wk d1=>by
  refine⟨fun i m σ2 H2=>m=ds.length - i/\i<=ds.length/\∃ o2 δ2 S2,Ex o1 H1 o2 H2/\RepE h o2 H2 δ2 σ2/\RepS h o2 H2 S2/\zl6 dg db (ds.drop i) E δ2 S2,⟨ds.length,by simp,zero_le _,o1,δ,S1,Ex.refl,he.mono e1,s1,d1⟩,?_⟩;rintro i m σ2 H2 ⟨rfl,hi,o2,δ2,S2,e2,he2,hs2,d2⟩;by_cases hlt:i<ds.length
  ·have ed:ds[i]? = some ds[i]:=getElem?_eq_getElem hlt;rw [List.drop_eq_getElem_cons hlt] at d2;refine .inr ⟨wk.go i _ o2 H2 e2.hid ed,fun σ3 H3=>∃ o3 δ3 S3,Ex o1 H1 o3 H3/\RepE h o3 H3 δ3 σ3/\RepS h o3 H3 S3/\zl6 dg db (ds.drop (i+1)) E δ3 S3,fun σ3 H3 n=>⟨ds.length - (i+1),by omega,rfl,hlt,n⟩,fun x H3 y=>?_⟩;obtain⟨s3,hx⟩:=wk.yld i _ o2 H2 x H3 S2 e2.hid hs2 ed y;have e23:Ex o2 H2 o2 H3:=Ex.of_same s3;refine hg h o2 H3 δ2 σ2 S2 (.d ds[i]) x _ _ (he2.mono e23) (hs2.same s3) hx d2 fun o4 H4 δ4 S4 σ4 e4 he4 hs4 d4=>?_;have e14:Ex o1 H1 o4 H4:=(e2.trans e23).trans e4;have ce:=(c.pre e1).pre e14;exact hb h o4 H4 δ4 σ4 S4 _ _ he4 hs4 d4 ⟨fun o5 H5 δ5 S5 σ5 e5 he5 hs5 d5=>⟨o5,δ5,S5,e14.trans e5,he5,hs5,d5⟩,ce.rt,ce.nx,fun o5 H5 δ5 S5 σ5 e5 he5 hs5 d5=>⟨o5,δ5,S5,e14.trans e5,he5,hs5,d5⟩⟩
  ·have ei:i=ds.length:=by omega
   subst ei;rw [drop_length] at d2;exact .inl ⟨wk.stop _ o2 H2 e2.hid (le_refl _),c.nx o2 H2 δ2 S2 σ2 (e1.trans e2) he2 hs2 d2⟩
def zqt(cd:DT)(b:DS):DS:=fun E δ S=>∃ W:Nat->XE->Sto->Prop,(∃ m,W m δ S)/\∀ m δ S,W m δ S ->
 cd δ S fun x S1=>if x=true then ∃ N:XE->Sto->Prop,(∀ δ' S',N δ' S'->∃ m',m'<m/\W m' δ' S')/\b { nx:=N,ct:=N,bk:=E.nx,rt:=E.rt } δ S1 else E.nx δ S1
theorem zoK{tc:TT}{tb:TS}{dc:DT}{db:DS}(hc:RT tc dc)(hb:RS tb db):RS (zp3 tc tb) (zqt dc db):=fun h o H δ σ S E D he hs ⟨W,⟨m0,w0⟩,q⟩ c=>by
 refine⟨fun m σ2 H2=>∃ o2 δ2 S2,Ex o H o2 H2/\RepE h o2 H2 δ2 σ2/\RepS h o2 H2 S2/\W m δ2 S2,⟨m0,o,δ,S,Ex.refl,he,hs,w0⟩,?_⟩;rintro m σ2 H2 ⟨o2,δ2,S2,e2,he2,hs2,w2⟩;refine hc h o2 H2 δ2 σ2 S2 _ _ he2 hs2 (q m δ2 S2 w2) fun o3 H3 S3 b e3 s3 d3=>?_;cases b with
 | false=>exact zox (c.nx o3 H3 δ2 S3 σ2 (e2.trans e3) (he2.mono e3) s3 (by simpa using d3))
 | true =>
  refine zou ?_;obtain⟨N,n1,d3⟩:∃ N:XE->Sto->Prop,(∀ δ' S',N δ' S'->∃ m',m'<m/\W m' δ' S')/\db { nx:=N,ct:=N,bk:=E.nx,rt:=E.rt } δ2 S3:=by simpa using d3
  have e13:=e2.trans e3;have ce:=c.pre e13;refine⟨fun σ4 H4=>∃ o4 δ4 S4,Ex o H o4 H4/\RepE h o4 H4 δ4 σ4/\RepS h o4 H4 S4/\N δ4 S4,fun σ4 H4 ⟨o4,δ4,S4,e4,he4,hs4,n4⟩=>?_,?_⟩
  ·obtain⟨m',hm,w'⟩:=n1 δ4 S4 n4;exact⟨m',hm,o4,δ4,S4,e4,he4,hs4,w'⟩
  ·exact hb h o3 H3 δ2 σ2 S3 _ _ (he2.mono e3) s3 d3 ⟨fun o5 H5 δ5 S5 σ5 e5 he5 hs5 d5=>⟨o5,δ5,S5,e13.trans e5,he5,hs5,d5⟩,ce.rt,ce.nx,fun o5 H5 δ5 S5 σ5 e5 he5 hs5 d5=>⟨o5,δ5,S5,e13.trans e5,he5,hs5,d5⟩⟩
def zax:DT:=fun _ S R=>R true S
theorem zaB:RT ztg zax:=fun h o H δ σ S R Q he hs q c=>c o H S true Ex.refl hs q
def zev(n:Nat)(g:DG)(tt:DT)(te:DE)(fin:Sto->Prop):List PyData->XE->Sto->Prop
 | [],_,S=>fin S
 | d :: ds,τ,S=>g (.d d) τ S fun τ1 S1=>tt τ1 S1 fun b S2=>if b=true then te τ1 S2 fun x S3=>asD x fun e=>∃ acc,S3[n]? = some acc/\acc.length<1000/\zev n g tt te fin ds τ1 (S3.set n (acc++[e])) else zev n g tt te fin ds τ1 S2
def zfB(caps:List (Option Nat))(i:DI)(g:DG)(tt:DT)(te:DE):DE:=fun δ S R=>i δ S fun ds S1=>zev S1.length g tt te (fun S2=>R (.l S1.length) S2) ds (zqQ caps δ) (S1++[[]])
def zcq(caps:List (Option Nat))(i:DI)(g:DG)(tt:DT)(te:DE):DE:=fun δ S R=>i δ S fun ds S1=>zev S1.length g tt te (fun S2=>∃ S0 acc,S2=S0++[acc]/\S0.length=S1.length/\R (.d (.list acc)) S0) ds (zqQ caps δ) (S1++[[]])
theorem RepS.pop{h o r:List Addr}{H:Hp}{S0 T:Sto}(hs:RepS h (o++r) H (S0++T))(hl:S0.length=o.length):RepS h o H S0 where
 len:=hl
 nd:=(nodup_append.mp hs.nd).1
 dis:=fun a ha=>hs.dis a (mem_append_left _ ha)
 hal:=hs.hal
 cont:=fun k a ds e1 e2=>by
  obtain⟨vs,e3,l⟩:=hs.cont k a ds (zel e1) (zel e2);exact⟨vs,e3,l.mono fun b u e=>by
   obtain⟨z1,z2,z3⟩:=zap.mp e;exact zap.mpr ⟨z1,fun m=>z2 (mem_append_left _ m),z3⟩⟩
theorem zgj{h o r:List Addr}{H:Hp}:Same (vx h (o++r) H) (vx h o H):=fun b u e=>by
 obtain⟨z1,z2,z3⟩:=zap.mp e;exact zap.mpr ⟨z1,fun m=>z2 (mem_append_left _ m),z3⟩
theorem Ex.pop{o o' r:List Addr}{H H':Hp}(e:Ex o H (o++r) H'):Ex o H o H':=⟨⟨[],by simp⟩,fun b u hb eb=>⟨hb,(e.kp b u hb eb).2⟩⟩
theorem ziB{caps:List (Option Nat)}{wi:TI}{g:TG}{tt:TT}{te:TE}{di:DI}{dg:DG}{dtt:DT}{dte:DE}(hi:RI wi di)(hg:RG g dg)(ht:RT tt dtt)(he':RE te dte)
  {h o:List Addr} {H:Hp} {δ:XE} {σ:St} {S:Sto} {Q:VK} {fin:Nat->Sto->Prop} (he:RepE h o H δ σ) (hs:RepS h o H S) (q:di δ S fun ds S1=>zev S1.length dg dtt dte (fin S1.length) ds (zqQ caps δ) (S1++[[]]))
  (c:∀ o1 H1 D o2 H2 S2,Ex o H o1 H1->H1 D=none->Ex (o1++[D]) (upd H1 D (.lst [])) o2 H2->RepS h o2 H2 S2->fin o1.length S2->Q (.ref D) H2):zn0 caps wi g tt te σ H Q:=by
 refine hi h o H δ σ S _ _ he hs q fun o1 H1 S1 ds J e1 s1 wk d1 D hD=>?_;have eN:Ex o1 H1 (o1++[D]) (upd H1 D (.lst [])):=Ex.new s1 hD;have sN:RepS h (o1++[D]) (upd H1 D (.lst [])) (S1++[[]]):=s1.new hD (zJ.mpr rfl);have hn:S1.length=o1.length:=s1.len;refine⟨fun i m τ H2=>m=ds.length - i/\i<=ds.length/\∃ o2 δ2 S2,Ex (o1++[D]) (upd H1 D (.lst [])) o2 H2/\RepE h o2 H2 δ2 τ/\RepS h o2 H2 S2/\zev S1.length dg dtt dte (fin S1.length) (ds.drop i) δ2 S2,⟨ds.length,by simp,zero_le _,_,_,_,Ex.refl,((he.mono e1).mono eN).tau,sN,d1⟩,?_⟩;rintro i m τ H2 ⟨rfl,hi,o2,δ2,S2,e2,he2,hs2,d2⟩;by_cases hlt:i<ds.length
 ·have ed:ds[i]? = some ds[i]:=getElem?_eq_getElem hlt;rw [List.drop_eq_getElem_cons hlt] at d2;refine .inr ⟨wk.go i _ o2 H2 (eN.trans e2).hid ed,fun x H3 y=>?_⟩;obtain⟨s3,hx⟩:=wk.yld i _ o2 H2 x H3 S2 (eN.trans e2).hid hs2 ed y;have e23:Ex o2 H2 o2 H3:=Ex.of_same s3;refine hg h o2 H3 δ2 τ S2 (.d ds[i]) x _ _ (he2.mono e23) (hs2.same s3) hx d2 fun o4 H4 δ4 S4 τ4 e4 he4 hs4 d4=>?_;refine ht h o4 H4 δ4 τ4 S4 _ _ he4 hs4 d4 fun o5 H5 S5 b e5 s5 d5=>?_;have e15:=((e2.trans e23).trans e4).trans e5;cases b with
  | false=>exact zox ⟨ds.length - (i+1),by omega,rfl,hlt,o5,δ4,S5,e15,he4.mono e5,s5,by simpa using d5⟩
  | true =>
   refine zou (he' h o5 H5 δ4 τ4 S5 _ _ (he4.mono e5) s5 (by simpa using d5) fun o6 H6 S6 z v e6 s6 z6 d6=>?_);replace d6:=ziN d6;obtain⟨e,rfl,acc,ea,hl,d6⟩:=d6;have e16:=e15.trans e6;have eD:o6[S1.length]? = some D:=by
    obtain⟨r,rfl⟩:=e16.pre;rw [hn];exact zel (by rw [getElem?_concat_length])
   obtain⟨vs,ev,l⟩:=s6.cont _ D acc eD ea;refine⟨vs,ev,by rw [l.length]; exact small1000 (le_of_lt hl),ds.length - (i+1),by omega,rfl,hlt,o6,δ4,_,e16.trans (Ex.upd eD),((he4.mono e5).mono e6).mono (Ex.upd eD),s6.upd eD (l.append (zA.mpr ⟨v,[],rfl,z6,zJ.mpr rfl⟩)),d6⟩
 ·have ei:i=ds.length:=by omega
  subst ei;rw [drop_length] at d2;exact .inl ⟨wk.stop _ o2 H2 (eN.trans e2).hid (le_refl _),c o1 H1 D o2 H2 S2 e1 hD e2 hs2 (hn▸d2)⟩
theorem zeU{caps:List (Option Nat)}{wi:TI}{g:TG}{tt:TT}{te:TE}{di:DI}{dg:DG}{dtt:DT}{dte:DE}(hi:RI wi di)(hg:RG g dg)(ht:RT tt dtt)(he':RE te dte):RE (zn0 caps wi g tt te) (zfB caps di dg dtt dte):=fun h o H δ σ S R Q he hs q c=>by
 refine ziB (fin:=fun n S2=>R (.l n) S2) hi hg ht he' he hs q fun o1 H1 D o2 H2 S2 e1 hD e2 s2 f=>?_;have eN:Ex o1 H1 (o1++[D]) (upd H1 D (.lst [])):=⟨⟨[D],rfl⟩,fun b w hb e=>by
  have ne:b≠D:=zH e hD;exact⟨by simp [hb,ne],by rw [zO ne]; exact e⟩⟩
 refine c o2 H2 S2 (.l o1.length) _ ((e1.trans eN).trans e2) s2 ⟨D,?_,rfl⟩ f;obtain⟨r,rfl⟩:=e2.pre;exact zel (by rw [getElem?_concat_length])
theorem zaQ{caps:List (Option Nat)}{wi:TI}{g:TG}{tt:TT}{te:TE}{di:DI}{dg:DG}{dtt:DT}{dte:DE}(hi:RI wi di)(hg:RG g dg)(ht:RT tt dtt)(he':RE te dte):RE (zn0 caps wi g tt te) (zcq caps di dg dtt dte):=fun h o H δ σ S R Q he hs q c=>by
 refine ziB (fin:=fun n S2=>∃ (S0:Sto) (acc:List PyData),S2=S0++[acc]/\S0.length=n/\R (.d (.list acc)) S0) hi hg ht he' he hs q fun o1 H1 D o2 H2 S2 e1 hD e2 s2 ⟨S0,acc,eS,hl,f⟩=>?_;subst eS;have eN:Ex o1 H1 (o1++[D]) (upd H1 D (.lst [])):=⟨⟨[D],rfl⟩,fun b w hb e=>by
  have ne:b≠D:=zH e hD;exact⟨by simp [hb,ne],by rw [zO ne]; exact e⟩⟩
 have e12:=eN.trans e2;obtain⟨r,rfl⟩:=e2.pre;have er:r=[]:=by
  have:=s2.len;simp only [length_append,length_singleton,hl] at this;exact eq_nil_of_length_eq_zero (by omega)
 subst er;rw [append_nil] at s2 e12;have s0:RepS h o1 H2 S0:=s2.pop hl;refine c o1 H2 S0 (.d (.list acc)) _ (e1.trans (Ex.pop (o':=o1) e12)) s0 ?_ f;obtain⟨vs,ev,l⟩:=s2.cont o1.length D acc (by rw [getElem?_concat_length]) (by rw [<- hl,getElem?_concat_length]);have nD:D∉o1:=by
  have:=(nodup_append.mp s2.nd).2.2;intro m;exact this D m D (by simp) rfl
 exact zbb.mpr ⟨D,vs,rfl,zap.mpr ⟨s2.dis D (by simp),nD,ev⟩,l.mono zgj⟩
def fin(n:Nat)(R:RX):RX:=fun y S'=>match y with
 | .l k=>if k<n then R (.l k) (S'.take n) else ∃ ds,S'[k]? = some ds/\(R (.d (.list ds)) (S'.take n)\/R (.l n) (S'.take n++[ds]))
 | y=>R y (S'.take n)
theorem zqT{h o:List Addr}{H:Hp}{S:Sto}{R:RX}{Q:VK}(hs:RepS h o H S)(c:Cn h o H R Q):Cn h o H (fin S.length R) Q:=fun o' H' S' y v e s' hy q=>by
 obtain⟨r,rfl⟩:=e.pre;have eS:S'=S'.take S.length++S'.drop S.length:=(List.take_append_drop _ _).symm;have hl:(S'.take S.length).length=o.length:=by
  have:=s'.len;rw [length_append] at this;rw [length_take,this,hs.len];omega
 have s0:RepS h o H' (S'.take S.length):=by
  rw [eS] at s';exact s'.pop hl
 have e0:Ex o H o H':=Ex.pop (o':=o) e;cases y with
 | d d=>exact c o H' _ (.d d) v e0 s0 (Has.mono zgj d v hy) q
 | o w=>exact c o H' _ (.o w) v e0 s0 hy q
 | x C fs=>exact c o H' _ (.x C fs) v e0 s0 (HasE.mono zgj hy) q
 | l k =>
  unfold fin at q;by_cases hk:k<S.length
  ·simp only [hk,↓reduceIte] at q;obtain⟨a,ea,rfl⟩:=hy;exact c o H' _ (.l k) _ e0 s0 ⟨a,by rw [getElem?_append_left (by rw [<- hs.len]; exact hk)] at ea; exact ea,rfl⟩ q
  ·simp only [hk,↓reduceIte] at q;obtain⟨ds,eds,q⟩:=q;obtain⟨a,ea,rfl⟩:=hy;obtain⟨vs,ev,l⟩:=s'.cont k a ds ea eds;have na:a∉o:=fun m=>by
    obtain⟨j,ej⟩:=mem_iff_getElem?.mp m;have hj:j<o.length:=(List.getElem?_eq_some_iff.mp ej).1;have:=zex s'.nd (zel (t:=r) ej) ea;rw [hs.len] at hk;omega
   have nh:a∉h:=s'.dis a (mem_of_getElem? ea);rcases q with q | q
   ·exact c o H' _ (.d (.list ds)) _ e0 s0 (zbb.mpr ⟨a,vs,rfl,zap.mpr ⟨nh,na,ev⟩,l.mono zgj⟩) q
   ·have hn:H a=none:=by
     cases eh:H a with
     | none=>rfl
     | some u=>exact absurd (mem_of_getElem? ea) (e.kp a u na eh).1
    have e1:Ex o H (o++[a]) H':=⟨⟨[a],rfl⟩,fun b u hb eb=>⟨by simp only [mem_append,mem_singleton,not_or]; exact⟨hb,zH eb hn⟩,(e0.kp b u hb eb).2⟩⟩;have sub:Same (vx h (o++r) H') (vx h (o++[a]) H'):=fun b u eb=>by
     obtain⟨z1,z2,z3⟩:=zap.mp eb;refine zap.mpr ⟨z1,?_,z3⟩;simp only [mem_append,mem_singleton,not_or];exact⟨fun m=>z2 (mem_append_left _ m),fun z=>z2 (by rw [z]; exact mem_of_getElem? ea)⟩
    refine c (o++[a]) H' _ (.l S.length) _ e1 ⟨by rw [length_append,length_append,hl]; rfl,zdX hs.nd na,fun b hb=>?_,s0.hal,fun j b es q1 q2=>?_⟩ ⟨a,by rw [hs.len,getElem?_concat_length],rfl⟩ q
    ·rcases mem_append.mp hb with hb | hb
     ·exact hs.dis b hb
     ·rw [mem_singleton.mp hb]; exact nh
    ·by_cases hj:j<o.length
     ·rw [getElem?_append_left hj] at q1;rw [getElem?_append_left (by rw [hl]; exact hj),List.getElem?_take_of_lt (by rw [hs.len]; exact hj)] at q2;obtain⟨ws,e3,l3⟩:=s'.cont j b es (zel q1) q2;exact⟨ws,e3,l3.mono sub⟩
     ·have hj':j=o.length:=by
       obtain⟨q,_⟩:=List.getElem?_eq_some_iff.mp q1;rw [length_append,length_singleton] at q;omega
      subst hj';rw [getElem?_concat_length] at q1;rw [<- hl,getElem?_concat_length] at q2;cases q1;cases q2;exact⟨vs,ev,l.mono sub⟩
def zbk(n:Nat)(R:RX):DEnds:={ nx:=fun _ S'=>fin n R (.d .none) S',rt:=fin n R }
theorem eok{h o:List Addr}{H:Hp}{S:Sto}{R:RX}{Q:VK}(hs:RepS h o H S)(c:Cn h o H R Q):EOk h o H (zbk S.length R) { nx:=fun _ H'=>Q .non H',rt:=Q } :=
 ⟨fun o' H' δ' S' σ' e he hs' q=>zqT hs c o' H' S' _ _ e hs' xN q,zqT hs c,fun _ _ _ _ _ _ _ _ q=>q.elim,fun _ _ _ _ _ _ _ _ q=>q.elim⟩
def zY(p:List PyData):Prop:=∃ l g s:Int,p=[.int l,.int g,.int s]/\0<=l
end
section
def zu3(K:W.Frag):List V->Hp->VK->Prop:=fun xs H Q=>∃ (p:Addr) (ns:List Int),xs=[.ref p]/\SqL K H p (ns.map V.int)/\Q (.int ns.sum) H
def zvg(K:W.Frag):List V->Hp->VK->Prop:=fun xs H Q=>∃ (p:Addr) (bs:List Bool),xs=[.ref p]/\SqL K H p (bs.map V.bl)/\Q (.bl (bs.all id)) H
theorem znC:bootBuiltins "sum" = some (.builtin "sum"):=by decide +kernel
theorem zss:bootBuiltins "all" = some (.builtin "all"):=by decide +kernel
section
variable {X:Cx}
theorem zf3(hc:X.calm=true):CallR X (.builtin "sum") (zu3 X.K):=by
 intro zj s σ H xs us Q I r h;obtain⟨p,ns,rfl,hq,q⟩:=h;obtain⟨u,rfl,rx⟩:=vals1 r;cases (show u=Value.ref p from rx);obtain⟨its,rv,pl,_⟩:=I.list hq;obtain⟨ys,e,hns⟩:=zgz (zba rv);refine sum_intListG (I.ok.hd hc) (by rw [<- e]; exact pl.isList) fun h' tk t' hk=>⟨.int ns.sum,H,I.kept (t':=tk) hk,⟨t',?_⟩,q⟩;have es:preSum (numAt ys) ys.size=ns.sum:=by
  rw [preSum_eq,hns,take_of_length_le (by simp)]
 rw [es]
theorem zkN:∀ {bs:List Bool} {us:List Value} {i:Nat} {v:Value},Vals (bs.map V.bl) us->us[i]? = some v->∃ b,bs[i]? = some b/\v=.bool b
 | [],_,i,v,.nil,e=>by simp at e
 | b :: bs,_,0,v,.cons r _,e=>by
  rw [getElem?_cons_zero] at e;cases e;exact⟨b,rfl,r⟩
 | b :: bs,_,i+1,v,.cons _ t,e=>by
  obtain⟨c,e1,e2⟩:=zkN (i:=i) (v:=v) t (by simpa using e);exact⟨c,by simpa using e1,e2⟩
theorem zrb(bs:List Bool):((List.range bs.length).all fun i=>(bs[i]?).getD true)=bs.all id:=by
 rw [Bool.eq_iff_iff,all_eq_true,all_eq_true];constructor
 ·intro h b hb;obtain⟨i,hi⟩:=mem_iff_getElem?.mp hb;have hl:=(List.getElem?_eq_some_iff.mp hi).1;have:=h i (mem_range.mpr hl);rw [hi] at this;exact this
 ·intro h i hi;have hl:=mem_range.mp hi;rw [getElem?_eq_getElem hl];exact h _ (getElem_mem hl)
theorem zn9(hc:X.calm=true):CallR X (.builtin "all") (zvg X.K):=by
 intro zj s σ H xs us Q I r h;obtain⟨p,bs,rfl,hq,q⟩:=h;obtain⟨u,rfl,rx⟩:=vals1 r;cases (show u=Value.ref p from rx);obtain⟨its,rv,pl,_⟩:=I.list hq;have hl:=pl.isList;have hlt:p<s.heap.objs.size:=by
  obtain⟨_,e,_⟩:=hl;exact lt_size e
 refine call_all_walk (x:=Value.ref p) (wpAny_pyIter_list hl ?_);refine⟨s.heap.objs.size,[s.heap.objs.size,p],[s.heap.objs.size],its.toArray.size,_,_,fun i=>(bs[i]?).getD true,rfl,
  Walks.list (A:=X.A.in1) (I.ok.hd hc) _ p (ne_of_lt hlt) its.toArray,⟨⟨_,get?_push_size _ rfl,rfl,rfl⟩,hl.push _⟩,fun i v s' Q' E' hP hQ=>?_,fun h' tk hk=>?_⟩
 ·obtain⟨b,e,rfl⟩:=zkN (i:=i) (v:=v) rv (by simpa using hP);have hQ':Q' b s':=by simpa [e] using hQ
  exact wpAny_truthy_bool hQ'
 ·have hz:its.toArray.size=bs.length:=by
   have:=rv.length;rw [length_map] at this;simp [this]
  rw [hz,zrb];refine⟨.bl _,H,I.kept (t':=tk) fun b o e=>hk b o (fun hm=>?_) (get?_push_of_some _ e),rfl,q⟩;rw [mem_singleton.mp hm] at e;exact lt_irrefl _ (lt_size e)
end
def zsc:List XV->Sto->RX->Prop:=fun xs S R=>arg1 xs fun x=>∃ ds,zj0 S x=some ds/\∃ ns:List Int,ds=ns.map PyData.int/\R (.d (.int ns.sum)) S
theorem zkD{K:W.Frag}:RC (zu3 K) zsc:=fun h o H S xs vs R Q hs hx q c=>by
 obtain⟨x,rfl,ds,hd,ns,rfl,q1⟩:=za0 q;obtain⟨v,rfl,hx1⟩:=hxs1 hx;obtain⟨a,ws,rfl,ea,l⟩:=zbn hs hd hx1;rw [zcn l] at ea;exact⟨a,ns,rfl,.of ea,c o H S _ _ Ex.refl hs (xI _) q1⟩
theorem zi2{H:Hp}:∀ {ns:List Bool} {vs:List V},HasL H (ns.map PyData.bool) vs->vs=ns.map V.bl
 | [],vs,h=>zJ.mp h
 | n :: ns,vs,h=>by
  obtain⟨v,r,rfl,h1,h2⟩:=zA.mp h;rw [zcd.mp h1,zi2 h2];rfl
def zt8:List XV->Sto->RX->Prop:=fun xs S R=>arg1 xs fun x=>∃ ds,zj0 S x=some ds/\∃ ns:List Bool,ds=ns.map PyData.bool/\R (.d (.bool (ns.all id))) S
theorem zqS{K:W.Frag}:RC (zvg K) zt8:=fun h o H S xs vs R Q hs hx q c=>by
 obtain⟨x,rfl,ds,hd,ns,rfl,q1⟩:=za0 q;obtain⟨v,rfl,hx1⟩:=hxs1 hx;obtain⟨a,ws,rfl,ea,l⟩:=zbn hs hd hx1;rw [zi2 l] at ea;exact⟨a,ns,rfl,.of ea,c o H S _ _ Ex.refl hs (xB _) q1⟩
section
variable {S:Sto} {i:Int} {b:Bool} {z:Str} {ds:List PyData} {d:PyData} {k:Nat} {x y:XV} {R:RX} {c:String} {p:List PyData} {n:Nat} {v:V}
theorem zsr{K:Int->Prop}:asI (.d (.int i)) K=K i:=rfl
theorem ztu{K:Bool->Prop}:asB (.d (.bool b)) K=K b:=rfl
theorem zst{K:Str->Prop}:asS (.d (.str z)) K=K z:=rfl
theorem zsS{K:List PyData->Prop}:asT (.d (.tuple ds)) K=K ds:=rfl
theorem ztk{K:PyData->Prop}:asD (.d d) K=K d:=rfl
theorem zqD:zj0 S (.d (.list ds))=some ds:=rfl
theorem zsf:asQ S (.d (.list ds))=some ds:=rfl
theorem zsD:asQ S (.d (.tuple ds))=some ds:=rfl
theorem ztf:asQ S (.l k)=S[k]?:=rfl
theorem zmM:zdQ S (.d d)=some d:=rfl
theorem zoi:zdQ S (.l k)=(S[k]?).map .list:=rfl
theorem zqK:ret0 S R (.d d) []=R (.d d) S:=rfl
theorem zqC:ret0 S R (.l 0) [ds]=R (.l S.length) (S++[ds]):=rfl
theorem zqk:zt7 k S R (.d d) [p]=R (.d d) (S.set k p):=rfl
theorem zti:fin n R (.d d) S=R (.d d) (S.take n):=rfl
theorem zsC:fin n R (.l k) S=if k<n then R (.l k) (S.take n) else ∃ ds,S[k]? = some ds/\(R (.d (.list ds)) (S.take n)\/R (.l n) (S.take n++[ds])):=rfl
theorem zqu{K:XV->Prop}:arg1 [x] K=K x:=rfl
theorem zqN{K:XV->XV->Prop}:arg2 [x,y] K=K x y:=rfl
theorem zpW{K:String->Prop}:zuG (.o (.ty c)) K↔K c:=⟨fun⟨_,e,q⟩=>by cases e; exact q,fun q=>⟨c,rfl,q⟩⟩
theorem zqA{K:Int->Prop}:zuF (.d (.bool b)) K=K (if b then 1 else 0):=rfl
theorem zn7{δ:XE}:(zbk n R).nx δ S=fin n R (.d .none) S:=rfl
theorem znQ:(zbk n R).rt x S=fin n R x S:=rfl
theorem zjI:datas []=some []:=rfl
theorem zhx{r:List XV}:datas (.d d :: r)=(datas r).map (d :: ·):=rfl
end
theorem zsJ{α:Type}{a:α}{l:List α}:atI (a :: l) 0=some a:=zc6 (j:=0) rfl
theorem ztx{α:Type}{a b:α}{l:List α}:atI (a :: b :: l) 1=some b:=zc6 (j:=1) rfl
theorem ztP{α:Type}{a b c:α}{l:List α}:atI (a :: b :: c :: l) 2=some c:=zc6 (j:=2) rfl
theorem ztj{α:Type}{a b c d:α}{l:List α}:atI (a :: b :: c :: d :: l) 3=some d:=zc6 (j:=3) rfl
theorem zsz{α:Type}{a b c d e:α}{l:List α}:atI (a :: b :: c :: d :: e :: l) 4=some e:=zc6 (j:=4) rfl
def Shp(n:Nat)(d:PyData):Prop:=d.canLay0=true/\d.depth<=n
theorem zkm{n:Nat}{i:Int}:Shp n (.int i):=⟨rfl,zero_le _⟩
theorem zhV{n:Nat}{i:Bool}:Shp n (.bool i):=⟨rfl,zero_le _⟩
theorem zj9{n:Nat}:∀ {ds:List PyData},(∀ d∈ds,Shp n d)->PyData.canLayAll0 ds=true/\PyData.depthAll ds<=n
 | [],_=>⟨by simp only [PyData.canLayAll0],by simp only [PyData.depthAll]; exact zero_le _⟩
 | d :: ds,h=>by
  obtain⟨h1,h2⟩:=h d mem_cons_self;obtain⟨h3,h4⟩:=zj9 (ds:=ds) fun e m=>h e (mem_cons_of_mem _ m);simp only [PyData.canLayAll0,PyData.depthAll,h1,h3,Bool.and_true,true_and];omega
theorem zfQ{n:Nat}{ds:List PyData}(h:∀ d∈ds,Shp n d):Shp (n+1) (.list ds):=by
 obtain⟨h1,h2⟩:=zj9 h;exact⟨by simp only [PyData.canLay0]; exact h1,by simp only [PyData.depth]; omega⟩
theorem zoo{n:Nat}{ds:List PyData}(h:∀ d∈ds,Shp n d):Shp (n+1) (.tuple ds):=by
 obtain⟨h1,h2⟩:=zj9 h;exact⟨by simp only [PyData.canLay0]; exact h1,by simp only [PyData.depth]; omega⟩
theorem zis{α:Type}{n:Nat}{f:α->PyData}{l:List α}(h:∀ x∈l,Shp n (f x)):∀ d∈l.map f,Shp n d:=fun d m=>by
 obtain⟨x,hx,rfl⟩:=mem_map.mp m;exact h x hx
theorem zuz{n:Nat}{a b:PyData}(h1:Shp n a)(h2:Shp n b):∀ d∈[a,b],Shp n d:=by
 intro d m;simp only [mem_cons,not_mem_nil,or_false] at m;rcases m with rfl | rfl
 ·exact h1
 ·exact h2
theorem Shp.ok{n:Nat}{d:PyData}(h:Shp n d)(hn:n<=64:=by decide):SeqAt.shaped d=true:=by
 unfold SeqAt.shaped;rw [h.1,decide_eq_true (le_trans h.2 hn)];rfl
theorem zaj{g:DG}{b:DS}{E:DEnds}:∀ {ds:List PyData} {δ:XE} {S:Sto} (I:Nat->XE->Sto->Prop),I 0 δ S ->
  (∀ i d δ S (N:XE->Sto->Prop),ds[i]? = some d->I i δ S->(∀ δ' S',I (i+1) δ' S'->N δ' S')->g (.d d) δ S fun δ1 S1=>b { nx:=N,ct:=N,bk:=E.nx,rt:=E.rt } δ1 S1) ->
  (∀ δ S,I ds.length δ S->E.nx δ S)->zl6 g b ds E δ S
 | [],δ,S,I,h0,_,fin=>fin δ S h0
 | d :: ds,δ,S,I,h0,step,fin=>by
  show g (.d d) δ S fun δ1 S1=>b _ δ1 S1;refine step 0 d δ S _ rfl h0 fun δ' S' h1=>?_;exact zaj (ds:=ds) (fun i=>I (i+1)) h1 (fun i e δ S N hi=>step (i+1) e δ S N (by simpa using hi)) fin
theorem zeu{α:Type}{l:List α}{a b:α}{n:Nat}(h:l.length=n):(l++[a]).set n b=l++[b]:=by
 subst h;rw [List.set_append_right _ _ (le_refl _),Nat.sub_self];rfl
theorem zmP{H:Hp}:RepS [] [] H []:=⟨rfl,nodup_nil,fun _ h=>(nomatch h),fun _ h=>(nomatch h),fun _ _ _ e=>(by simp at e)⟩
theorem Ex.same_nil{o':List Addr}{H H':Hp}(e:Ex [] H o' H'):Same H H':=fun b u q=>(e.kp b u (by simp) q).2
end
section
theorem zmC{P:Program}{w:World}{K:W.Frag}{tg:Expr}(it:Addr)(lo:Int)(n:Nat):Turn P w K tg (Itr lo n) [it] it (fun i h=>IsLongIter h it (lo+(i:Nat)*1) ((n:Int) - (i:Nat)) 1) where
 mem:=by simp
 obj:=fun i h st b hb=>by
  have e:b=it:=by simpa using hb
  subst e;exact⟨_,st,fun v z=>by
   have z':Data.fields _=Data.cell v:=z;cases z'⟩
 keep:=fun i h h' st k=>k it (by simp) _ st
 item:=by
  intro X hP hw hK hc i zj s σ H E I hf st hg;subst hP hw hK;obtain⟨f0,f1,f2,f3,f4,f5⟩:=hf it (by simp);have W:=Walks.longrange (prog:=X.prog) (w:=X.w) (I.ok.hd hc) it lo 1 n;refine W.item i s _ _ hg st fun v h' tk hv st' kk=>?_;obtain⟨t,rfl⟩:=hv;have I1:Inv X zj σ H { s with heap:=h',toks:=tk }:=I.turned (fun b o hb e=>kk b o (by simpa using hb) e) f0 f1 f3 f4 f5;refine⟨_,rfl,zo9 (s:={ s with heap:=h',toks:=tk }) (n:="longrange_iterator") st' rfl rfl dz ⟨.int (lo+i),H,I1,⟨t,?_⟩,⟨rfl,rfl⟩,st',fun b hb=>(hf b hb).1⟩⟩;rw [Int.mul_one]
 done:=by
  intro X hP hw hK hc i zj s σ H E I hf st hg;subst hP hw hK;obtain⟨f0,f1,f2,f3,f4,f5⟩:=hf it (by simp);exact wpAny_pyNext_long_end (I.ok.hd hc) st (by have:n<=i:=hg; omega) fun h' eb=>⟨rfl,I.turned (t':=s.toks) (fun b o hb e=>eb b o hb e) f0 f1 f3 f4 f5⟩
 self:=fun _ _ _ _ _ st h=>wpAny_pyIter_longiter st h
section
variable {X:Cx} {tg:Expr}
theorem znR{zj:List (Addr×Obj)}{σ:St}{H:Hp}{s:Shared}{R:It->Hp->Prop}{E:Value->Shared->Prop}{lo hi:Int}{t u v:Tok}{tk:Nat}(I:Inv X zj σ H s)
  (q:R (Itr lo (hi - lo).toNat) H):wpAny (model X.prog X.w) X.A (pyIter (.ref s.heap.objs.size)) (PIE X zj σ tg R) E { s with heap:=s.heap.push { cls:=.type "range",data:=.fields #[.int lo t,.int hi u,.int 1 v] },toks:=tk }:=by
 have I1:Inv X zj σ H { s with heap:=s.heap.push { cls:=.type "range",data:=.fields #[.int lo t,.int hi u,.int 1 v] },toks:=tk }:=I.kept fun b o e=>get?_push_of_some _ e;have e1:lo+((0:Nat):Int)*1=lo:=by simp
 have e2:(((hi - lo).toNat:Nat):Int) - ((0:Nat):Int)=Builtin.Range.rangeSize lo hi 1:=by rw [rangeSize_one]; split <;> omega
 cases hsm:Builtin.Range.small lo hi 1 with
 | true =>
  refine wpAny_pyIter_range (IsRange.new ..) hsm ?_;refine⟨(s.heap.push { cls:=.type "range",data:=.fields #[.int lo t,.int hi u,.int 1 v] }).objs.size,[(s.heap.push { cls:=.type "range",data:=.fields #[.int lo t,.int hi u,.int 1 v] }).objs.size],_,_,H,rfl,
   I1.kept (t':=tk) fun b o e=>get?_push_of_some _ e,zmf _ lo (hi - lo).toNat,?_,fun b hb=>?_,q⟩
  ·show IsRangeIter _ _ (lo+((0:Nat):Int)*1) ((((hi - lo).toNat:Nat):Int) - ((0:Nat):Int)) 1;rw [e1,e2];exact get?_push_size _ rfl
  ·have e:b=(s.heap.push { cls:=.type "range",data:=.fields #[.int lo t,.int hi u,.int 1 v] }).objs.size:=by simpa using hb
   subst e;exact I1.fpOk (le_refl _) (I1.hok.fresh (le_refl _))
 | false =>
  refine wpAny_pyIter_longrange (IsRange.new ..) hsm ?_;refine⟨(s.heap.push { cls:=.type "range",data:=.fields #[.int lo t,.int hi u,.int 1 v] }).objs.size,[(s.heap.push { cls:=.type "range",data:=.fields #[.int lo t,.int hi u,.int 1 v] }).objs.size],_,_,H,rfl,
   I1.kept (t':=tk) fun b o e=>get?_push_of_some _ e,zmC _ lo (hi - lo).toNat,?_,fun b hb=>?_,q⟩
  ·show IsLongIter _ _ (lo+((0:Nat):Int)*1) ((((hi - lo).toNat:Nat):Int) - ((0:Nat):Int)) 1;rw [e1,e2];exact get?_push_size _ rfl
  ·have e:b=(s.heap.push { cls:=.type "range",data:=.fields #[.int lo t,.int hi u,.int 1 v] }).objs.size:=by simpa using hb
   subst e;exact I1.fpOk (le_refl _) (I1.hok.fresh (le_refl _))
def zqP(ta:TA):TI:=fun σ H R=>ta σ H fun vs H1=>∃ j:Int,vs=[.int j]/\R (Itr 0 j.toNat) H1
theorem zaq{a:Expr}{ta:TA}{p pos:Pos}(hg:Gl X "range")(hm:X.mg "range" = none)(ha:PA X [a] ta)(hs:starEach [a] X.env=[(false,eval a X.env)]:=by rfl):PI X tg (.Call (.Name "range" p) [a] [] pos) (zqP ta):=by
 intro zj s σ H R I h;refine Call_ (zdS I hg hm boot_range (PyProof.Rows.callWith_type1 (thn (ha pos zj s σ H _ I h) fun us s1 ⟨vs,H1,I1,r1,q1⟩=>?_) hs rfl));obtain⟨j,e,q⟩:=q1;subst e;cases r1 with
 | cons r rr =>
  cases rr;obtain⟨t,rfl⟩:=r;exact call_range_1 (znR I1 (by simpa using q))
end
def zaI(a:DA):DI:=fun δ S R=>a δ S fun xs S1=>arg1 xs fun x=>asI x fun j=>R (zfM 0 j.toNat) S1
def znA(a:DA):DI:=fun δ S R=>a δ S fun xs S1=>arg2 xs fun x y=>asI x fun i=>asI y fun j=>R (zfM i (j - i).toNat) S1
theorem zce{ta:TA}{da:DA}(ha:RA ta da):RI (zqP ta) (zaI da):=fun h o H δ σ S R Q he hs q c =>
 ha h o H δ σ S _ _ he hs q fun o1 H1 S1 xs vs e1 s1 x1 d0=>by
  obtain⟨x,rfl,d2⟩:=za0 d0;obtain⟨j,rfl,d1⟩:=zby d2;obtain⟨v,rfl,hv⟩:=hxs1 x1;rw [za5 hv];exact⟨j,rfl,c o1 H1 S1 _ _ e1 s1 zog d1⟩
end
section
open Sem (wp)
open AutoSeq1 (wpAny_loadPart')
section
variable {X:Cx} {zj:List (Addr×Obj)} {σ:St} {H:Hp} {s:Shared} {h':Heap}
theorem Inv.turnLaid{t':Nat}{ch:List Addr}{T:Addr}{o:HO}(I:Inv X zj σ H s)(k:∀ b u,b∉ch->s.heap.get? b=some u->h'.get? b=some u)(hf:∀ b∈ch,FpOk X zj H b)(hT:s.heap.objs.size<=T)
  (new:ObjOk X.prog X.w (upd H T o) h' T o):Inv X zj σ (upd H T o) { s with heap:=h',toks:=t' }:=by
 have hn:H T=none:=I.hok.fresh hT;have nch:∀ b u,H b=some u->b∉ch:=fun b u e m=>by rw [(hf b m).1] at e; cases e
 have neT:∀ b u,s.heap.get? b=some u->b≠T:=fun b u e z=>absurd (lt_of_lt_of_le (lt_size e) hT) (by rw [z]; exact lt_irrefl _);have up:∀ b u,H b=some u->upd H T o b=some u:=fun b u e=>(zO (zH e hn)).trans e;refine I.step (g':=s.gens) (d':=s.drawn) (ch:=ch) (fun b hb=>?_) (fun b u _ _ hc e _=>k b u hc e) (fun b u _ _ hc e _=>⟨u.slots,k b u hc e⟩) (fun b u _ e n=>(zO (neT b u e)).trans n)
  (fun b u hc e=>⟨u,k b u hc e⟩) (fun b xs e=>up b _ e) (fun b u v e=>up b _ e) (fun b ps e=>up b _ e) (fun m hm=>?_) (fun b u e=>?_) I.bare
 ·obtain⟨_,f1,_,f3,f4,f5⟩:=hf b hb;exact⟨f3,f1,f4,f5⟩
 ·obtain⟨ob,es,ep,ho,r⟩:=hm;exact⟨ob,es,ep,k _ ob (fun z=>(hf _ z).2.1 rfl) ho,r⟩
 ·by_cases hb:b=T
  ·subst hb;rw [zad] at e;cases e;exact new
  ·rw [zO hb] at e;refine(I.hok b u e).stay (fun c v hc q=>k c v ?_ q) (fun c q=>up c _ q) (fun c xs q=>up c _ q) fun c o u q=>up c _ q;rcases hc with z | z
   ·rw [z]; exact nch b u e
   ·exact nch c _ z
theorem Inv.turnedN{t':Nat}{ch:List Addr}(I:Inv X zj σ H s)(k:∀ b u,b∉ch->s.heap.get? b=some u->h'.get? b=some u)(hf:∀ b∈ch,FpOk X zj H b):Inv X zj σ H { s with heap:=h',toks:=t' }:=by
 have nch:∀ b u,H b=some u->b∉ch:=fun b u e m=>by rw [(hf b m).1] at e; cases e
 refine I.step (g':=s.gens) (d':=s.drawn) (ch:=ch) (fun b hb=>?_) (fun b u _ _ hc e _=>k b u hc e) (fun b u _ _ hc e _=>⟨u.slots,k b u hc e⟩) (fun b u _ e n=>n)
  (fun b u hc e=>⟨u,k b u hc e⟩) (fun b xs e=>e) (fun b u v e=>e) (fun b ps e=>e) (fun m hm=>?_) (fun b u e=>?_) I.bare
 ·obtain⟨_,f1,_,f3,f4,f5⟩:=hf b hb;exact⟨f3,f1,f4,f5⟩
 ·obtain⟨ob,es,ep,ho,r⟩:=hm;exact⟨ob,es,ep,k _ ob (fun z=>(hf _ z).2.1 rfl) ho,r⟩
 ·refine(I.hok b u e).stay (fun c v hc q=>k c v ?_ q) (fun _ q=>q) fun _ _ q=>q;rcases hc with z | z
  ·rw [z]; exact nch b u e
  ·exact nch c _ z
end
section
variable {prog:Program} {w:World} {A:Around} {E:Value->Shared->Prop} {s:Shared}
theorem zhk{j t:Addr}{i:Nat}{vs:Array Value}{x:Value}{Q:Value->Shared->Prop}(hj:s.heap.IsTupleIter j t i)(ht:s.heap.IsTuple t vs)(hx:vs[i]? = some x)
  (hQ:∀ g,g.IsTupleIter j t (i+1)->Heap.SameBut j s.heap g->Q x { s with heap:=g }):wpAny (model prog w) A (Builtin.SmallTypes.nextOf (.ref j)) Q E s:=by
 obtain⟨oj,ej,cj,dj⟩:=id hj;obtain⟨ot,et,_,nt,dt⟩:=ht;unfold Builtin.SmallTypes.nextOf;refine wpAny_bind (wpAny_callSpecial?_slot (name:=Str.ofString "__next__") hj.typeIs F.slot_tuple_iterator_next (wpAny_call_entry F.slot_tuple_iterator_next hj.typeIs F.entry_tuple_iterator_next ?_ (F.args_tuple_iterator_next_1 _)));show wpAny _ _ (field (.ref j) 0 >>= _) _ _ s;refine wpAny_bind (wpAny_field ej dj (x:=.ref t) rfl ?_);show wpAny _ _ (ite ((Value.ref t == Value.none)=true) _ _) _ _ s;refine(if_neg (show ¬ ((Value.ref t == Value.none)=true) from Bool.false_ne_true))▸?_;show wpAny _ _ (field (.ref j) 1 >>= _) _ _ s;refine wpAny_bind (wpAny_field ej dj (x:=.int i 0) rfl ?_);refine wpAny_bind (m:=seqItems? (.ref t)) (wpAny_seqItems et dt ?_);simp only [hx,Int.toNat_natCast];refine wpAny_bind (wpAny_setField ej dj (by simp) (wpAny_pure ⟨x,rfl,wpAny_pure (hQ _ ⟨_,get?_update_self _ ej (Obj.isFreed_of_fields (Obj.data_mapFields dj _)),(Obj.cls_mapFields ..).trans cj,?_⟩ (Heap.SameBut.update ..))⟩));rw [Obj.data_mapFields dj];simp [rawInt]
theorem zeb{j t:Addr}{i:Nat}{vs:Array Value}{Q:Value->Shared->Prop}(hh:A.handled=none)(hj:s.heap.IsTupleIter j t i)(ht:s.heap.IsTuple t vs)(hx:vs[i]? = none)
  (hE:∀ g e,Heap.ExtBut j s.heap g->(∃ o,g.get? e=some o/\o.cls=.type "StopIteration")->E (.ref e) { s with heap:=g }):wpAny (model prog w) A (Builtin.SmallTypes.nextOf (.ref j)) Q E s:=by
 obtain⟨oj,ej,cj,dj⟩:=id hj;obtain⟨ot,et,_,nt,dt⟩:=ht;unfold Builtin.SmallTypes.nextOf;refine wpAny_bind (wpAny_callSpecial?_slot (name:=Str.ofString "__next__") hj.typeIs F.slot_tuple_iterator_next (wpAny_call_entry F.slot_tuple_iterator_next hj.typeIs F.entry_tuple_iterator_next ?_ (F.args_tuple_iterator_next_1 _)));show wpAny _ _ (field (.ref j) 0 >>= _) _ _ s;refine wpAny_bind (wpAny_field ej dj (x:=.ref t) rfl ?_);show wpAny _ _ (ite ((Value.ref t == Value.none)=true) _ _) _ _ s;refine(if_neg (show ¬ ((Value.ref t == Value.none)=true) from Bool.false_ne_true))▸?_;show wpAny _ _ (field (.ref j) 1 >>= _) _ _ s;refine wpAny_bind (wpAny_field ej dj (x:=.int i 0) rfl ?_);refine wpAny_bind (m:=seqItems? (.ref t)) (wpAny_seqItems et dt ?_);simp only [hx,Int.toNat_natCast];refine wpAny_bind (wpAny_rule (wpAny_bind (wpAny_setField ej dj (by simp) ?_)));show wpAny _ _ (newExc (.type "StopIteration") [] >>= _) _ _ _;refine wpAny_bind ?_;simp only [newExc,newTuple];refine wpAny_bind (wpAny_newObj_type ?_ (by size_fits)); refine wpAny_bind (m:=firstArgMember _ _) (wpAny_of_eq (a:=Value.none) (by first | rfl | (simp only [firstArgMember]; rfl)) ?_);refine wpAny_newObj_type ?_ (by size_fits); simp only [raiseNew];refine wpAny_bind (wpAny_handled ?_)
 first | rw [show A.in1.handled=none from hh] | rw [hh]
 exact wpAny_bind (wpAny_pure (wpAny_throw (hE _ _ (((Heap.SameBut.update ..).extBut.push _).push _) ⟨_,get?_push_size _ rfl,rfl⟩)))
theorem zms{e j:Addr}{i:Nat}{x old:Value}{J:Heap->Prop}{Q:Value->Shared->Prop}(he:IsEnum s.heap e j i old)(hne:e≠j)
  (hn:∀ (Q':Value->Shared->Prop) (E':Value->Shared->Prop),(∀ g,J g->Heap.SameBut j s.heap g->Q' x { s with heap:=g })->wpAny (model prog w) A (Builtin.SmallTypes.nextOf (.ref j)) Q' E' s)
  (hJ:∀ g g',J g->(∀ o,g.get? j=some o->g'.get? j=some o)->J g')
  (hQ:∀ g,IsEnumOut g e j ((i:Int)+1) x s.heap.objs.size->J g->g.get? s.heap.objs.size=some { cls:=.type "tuple",data:=.seq #[.int i s.toks,x] } ->
   (∀ b o,b≠e->b≠j->s.heap.get? b=some o->g.get? b=some o)->Q (.ref s.heap.objs.size) { s with heap:=g,toks:=s.toks+1 }) :
  wpAny (model prog w) A (Builtin.«enumerate.__next__» ⟨[.ref e],[]⟩) (fun fin s'=>∃ v,fin=.done (.ret v)/\Q v s') E s:=by
 obtain⟨h0,gs,dr,tk,os⟩:=s;show wpAny _ _ (field (.ref e) 2 >>= _) _ _ _;refine wpAny_bind (wpAny_field he rfl (x:=.ref j) rfl (wpAny_bind (hn _ _ fun g1 J1 b1=>?_)));replace b1:Heap.SameBut j h0 g1:=b1;have e1:IsEnum g1 e j i old:=(b1.2 e hne).trans he;show wpAny _ _ (field (.ref e) 3 >>= _) _ _ ⟨g1,gs,dr,tk,os⟩;refine wpAny_bind (wpAny_field e1 rfl (x:=rawInt i) rfl ?_);show wpAny _ _ (field (.ref e) 4 >>= _) _ _ ⟨g1,gs,dr,tk,os⟩;refine wpAny_bind (wpAny_field e1 rfl (x:=.none) rfl ?_);show wpAny _ _ (mkInt i >>= _) _ _ ⟨g1,gs,dr,tk,os⟩;refine wpAny_bind (wpAny_mkInt ?_);show wpAny _ _ (setField (.ref e) 3 (rawInt ((i:Int)+1)) >>= _) _ _ ⟨g1,gs,dr,tk+1,os⟩;refine wpAny_bind (wpAny_setField_rec e1 (by simp) fun g2 e2 b2=>?_);replace b2:Heap.SameBut e g1 g2:=b2;replace e2:IsEnum g2 e j ((i:Int)+1) old:=e2;show wpAny _ _ (setField (.ref e) 4 .none >>= _) _ _ ⟨g2,gs,dr,tk+1,os⟩;refine wpAny_bind (wpAny_setField_rec e2 (by simp) fun g3 e3 b3=>?_);replace b3:Heap.SameBut e g2 g3:=b3;replace e3:IsEnum g3 e j ((i:Int)+1) old:=e3;show wpAny _ _ (newTuple [.int i tk,x] >>= _) _ _ ⟨g3,gs,dr,tk+1,os⟩;refine wpAny_bind (wpAny_newTuple ?_);have sz:g3.objs.size=h0.objs.size:=by rw [b3.1,b2.1,b1.1]
 have lt:e<h0.objs.size:=lt_size he;have e4:IsEnum (g3.push { cls:=.type "tuple",data:=.seq #[.int i tk,x] }) e j ((i:Int)+1) old:=get?_push_of_some _ e3;have J3:J g3:=hJ _ _ (hJ _ _ J1 fun o q=>b2.extBut j o (Ne.symm hne) q) fun o q=>b3.extBut j o (Ne.symm hne) q;have J4:J (g3.push { cls:=.type "tuple",data:=.seq #[.int i tk,x] }):=hJ _ _ J3 fun o q=>get?_push_of_some _ q;have t4:(g3.push { cls:=.type "tuple",data:=.seq #[.int i tk,x] }).get? h0.objs.size=some { cls:=.type "tuple",data:=.seq #[.int i tk,x] }:=by rw [<- sz]; exact get?_push_size _ rfl
 have k4:∀ b o,b≠e->b≠j->h0.get? b=some o->(g3.push { cls:=.type "tuple",data:=.seq #[.int i tk,x] }).get? b=some o:=fun b o n1 n2 q=>get?_push_of_some _ (b3.extBut b o n1 (b2.extBut b o n1 (b1.extBut b o n2 q)));generalize g3.push { cls:=.type "tuple",data:=.seq #[.int i tk,x] } = g4 at e4 J4 t4 k4 ⊢;show wpAny _ _ (Builtin.SmallTypes.ownedTupleIsFree (.ref e) >>= _) _ _ ⟨g4,gs,dr,tk+1,os⟩;rw [sz];refine wpAny_bind ?_;unfold Builtin.SmallTypes.ownedTupleIsFree;refine wpAny_bind (wpAny_field e4 rfl (x:=.none) rfl (wpAny_pure ?_));simp only [if_true];refine wpAny_bind (wpAny_rule (wpAny_bind (wpAny_field e4 rfl (x:=old) rfl (wpAny_bind (wpAny_setField_rec e4 (by simp) fun g5 e5 b5=>?_)))));replace b5:Heap.SameBut e g4 g5:=b5;replace e5:IsEnum g5 e j ((i:Int)+1) x:=e5;show wpAny _ _ (Builtin.SmallTypes.ownedTupleHandOut (.ref e) (.ref h0.objs.size) >>= _) _ _ ⟨g5,gs,dr,tk+1,os⟩;refine wpAny_bind ?_;unfold Builtin.SmallTypes.ownedTupleHandOut;refine wpAny_bind (wpAny_setField_rec e5 (by simp) fun g6 e6 b6=>?_);replace b6:Heap.SameBut e g5 g6:=b6;replace e6:IsEnumOut g6 e j ((i:Int)+1) x h0.objs.size:=e6;refine wpAny_setField_rec e6 (by simp) fun g7 e7 b7=>?_;replace b7:Heap.SameBut e g6 g7:=b7;replace e7:IsEnumOut g7 e j ((i:Int)+1) x h0.objs.size:=e7;have k7:∀ b o,b≠e->g4.get? b=some o->g7.get? b=some o:=fun b o n q=>b7.extBut b o n (b6.extBut b o n (b5.extBut b o n q));exact wpAny_bind (wpAny_letGo (wpAny_pure ⟨_,rfl,hQ g7 e7 (hJ _ _ J4 fun o q=>k7 j o (Ne.symm hne) q) (k7 _ _ (ne_of_gt lt) t4) fun b o n1 n2 q=>k7 b o n1 (k4 b o n1 n2 q)⟩))
theorem ziV{e j:Addr}{i:Nat}{x old:Value}{J:Heap->Prop}{Q:Option Value->Shared->Prop}(he:IsEnum s.heap e j i old)(hne:e≠j)
  (hn:∀ (A:Around) (Q':Value->Shared->Prop) (E':Value->Shared->Prop),(∀ g,J g->Heap.SameBut j s.heap g->Q' x { s with heap:=g })->wpAny (model prog w) A (Builtin.SmallTypes.nextOf (.ref j)) Q' E' s)
  (hJ:∀ g g',J g->(∀ o,g.get? j=some o->g'.get? j=some o)->J g')
  (hQ:∀ g,IsEnumOut g e j ((i:Int)+1) x s.heap.objs.size->J g->g.get? s.heap.objs.size=some { cls:=.type "tuple",data:=.seq #[.int i s.toks,x] } ->
   (∀ b o,b≠e->b≠j->s.heap.get? b=some o->g.get? b=some o)->Q (some (.ref s.heap.objs.size)) { s with heap:=g,toks:=s.toks+1 }):wpAny (model prog w) A (pyNext (.ref e)) Q E s:=by
 have ty:s.TypeIs (.ref e) "enumerate":=⟨_,he,rfl⟩;unfold pyNext;exact wpAny_bind (wpAny_attempt (wpAny_callSpecial?_slot (name:=Str.ofString "__next__") ty F.slot_enumerate_next (wpAny_call_entry F.slot_enumerate_next ty F.entry_enumerate_next (zms he hne (hn _) hJ fun g a b c k=>wpAny_pure (hQ g a b c k)) (F.args_enumerate_next_1 _))))
theorem zjy{e j:Addr}{i:Nat}{old:Value}{Q:Option Value->Shared->Prop}(hh:A.handled=none)(he:IsEnum s.heap e j i old)
  (hn:∀ (A:Around) (Q':Value->Shared->Prop) (E':Value->Shared->Prop),A.handled=none->(∀ g x,Heap.ExtBut j s.heap g->(∃ o,g.get? x=some o/\o.cls=.type "StopIteration")->E' (.ref x) { s with heap:=g })->wpAny (model prog w) A (Builtin.SmallTypes.nextOf (.ref j)) Q' E' s)
  (hQ:∀ g,Heap.ExtBut j s.heap g->Q none { s with heap:=g }):wpAny (model prog w) A (pyNext (.ref e)) Q E s:=by
 have ty:s.TypeIs (.ref e) "enumerate":=⟨_,he,rfl⟩;unfold pyNext;refine wpAny_bind (wpAny_attempt (wpAny_callSpecial?_slot (name:=Str.ofString "__next__") ty F.slot_enumerate_next (wpAny_call_entry F.slot_enumerate_next ty F.entry_enumerate_next ?_ (F.args_enumerate_next_1 _))));show wpAny _ _ (field (.ref e) 2 >>= _) _ _ _;refine wpAny_bind (wpAny_field he rfl (x:=.ref j) rfl (wpAny_bind (hn _ _ _ hh fun g x b hx=>?_)));obtain⟨o,ho,hc⟩:=hx;exact wpAny_bind (wpAny_isInstance (T:="StopIteration") (b:=true) ⟨o,ho,hc⟩ isSubtype_stop (wpAny_pure (hQ _ b)))
theorem zrX(t:Addr)(vs:Array Value)(n:Nat)(dct:Option Addr)(sl:Array (Option Value)):Meets (Builtin.«enumerate.__new__» ⟨[.type "enumerate",.ref t],[]⟩) (fun _ R s=>s.heap.get? t=some { cls:=.type "tuple",dict:=dct,data:=.seq vs n,slots:=sl } /\
   R (.ok (.ret (.ref (s.heap.push { cls:=.type "tuple_iterator",data:=.fields #[.ref t,.int 0 0] }).objs.size)))
    { s with heap:=(s.heap.push { cls:=.type "tuple_iterator",data:=.fields #[.ref t,.int 0 0] }).push { cls:=.type "enumerate",data:=.fields #[.none,.bool false,.ref s.heap.objs.size,rawInt 0,.none,.none] } }) :=
 .of_wp fun prog w A R s hyp=>by
  obtain⟨g0,gs,dr,tk,os⟩:=s;obtain⟨ht,hyp⟩:=hyp;have sub:=sub_enumerate;have hT:Heap.IsTuple (Shared.heap ⟨g0,gs,dr,tk,os⟩) t vs:=⟨_,ht,rfl,n,rfl⟩
  wp_walk using wpAny_loadPart' ht
  refine wpAny_stack_any fun _=>wpAny_pure ?_;split
  ·rename_i c _ _ _ _ _;cases (c == Value.type "enumerate") <;> (wp_walk using wpAny_loadPart' ht,wpAny_pyIter_tuple hT; exact⟨_,rfl,hyp⟩)
  ·wp_walk using wpAny_loadPart' ht,wpAny_pyIter_tuple hT
   exact⟨_,rfl,hyp⟩
theorem zio{t:Addr}{vs:Array Value}{Q:Value->Shared->Prop}(hT:s.heap.IsTuple t vs)
  (hyp:∀ g,IsEnum g (s.heap.objs.size+1) s.heap.objs.size 0 .none->g.IsTupleIter s.heap.objs.size t 0->(∀ b o,s.heap.get? b=some o->g.get? b=some o)->Q (.ref (s.heap.objs.size+1)) { s with heap:=g }):wpAny (model prog w) A (call (.type "enumerate") [.ref t]) Q E s:=by
 obtain⟨⟨c,dct,dt,sl⟩,ht,hc,n,hd⟩:=hT;replace hc:c=.type "tuple":=hc;replace hd:dt=.seq vs n:=hd;subst hc hd;refine callType_new F.called_enumerate dz (F.typeCall_enumerate_1 _) (F.newCall_enumerate_1 _) (fun ob=>F.args_object_init_2 ob _) F.entry_enumerate_new (zrX t vs n dct sl) ⟨ht,?_⟩;have sz:(s.heap.push { cls:=.type "tuple_iterator",data:=.fields #[.ref t,.int 0 0] }).objs.size=s.heap.objs.size+1:=size_push ..;show _/\_;rw [sz];have he:=get?_push_size (s.heap.push { cls:=.type "tuple_iterator",data:=.fields #[.ref t,.int 0 0] }) (o:={ cls:=.type "enumerate",data:=.fields #[.none,.bool false,.ref s.heap.objs.size,rawInt 0,.none,.none] }) rfl;rw [sz] at he;exact⟨⟨_,he,rfl⟩,hyp _ he ⟨_,get?_push_of_some _ (get?_push_size _ rfl),rfl,rfl⟩ fun b o q=>get?_push_of_some _ (get?_push_of_some _ q)⟩
end
def Ite(Sq:Hp->Addr->List V->Prop)(a:Addr):It :=
 ⟨fun i H=>∃ xs x,Sq H a xs/\xs[i]? = some x,fun i H x H'=>∃ p v,H p=none/\x=.ref p/\H'=upd H p (.tup [.int i,v])/\∀ xs,Sq H a xs->xs[i]? = some v,fun i H=>∃ xs,Sq H a xs/\xs.length<=i⟩
theorem zlW{P:Program}{w:World}{K:W.Frag}{elts:List Expr}{n:Nat}{pos:Pos}(a e j:Addr)(hej:e≠j):Turn P w K (.Tuple elts n pos) (Ite (SqT K) a) [e,j] e (fun i h=>(∃ old,IsEnum h e j i old)/\h.IsTupleIter j a i) where
 mem:=by simp
 obj:=fun i h ⟨⟨old,he⟩,hj⟩ b hb=>by
  rcases mem_cons.mp hb with rfl | hb
  ·exact⟨_,he,fun v z=>by
    have z':Data.fields _=Data.cell v:=z;cases z'⟩
  ·rw [mem_singleton.mp hb];obtain⟨o,q,c,d⟩:=hj;exact⟨o,q,fun v z=>by rw [d] at z; cases z⟩
 keep:=fun i h h' ⟨⟨old,he⟩,hj⟩ k=>⟨⟨old,k e (by simp) _ he⟩,hj.at fun o q=>k j (by simp) o q⟩
 item:=by
  intro X hP hw hK hc i zj s σ H E I hf ⟨⟨old,he⟩,hj⟩ hg;subst hP hw hK;obtain⟨xs,x,hq,hx⟩:=hg;obtain⟨its,rv,p,hz⟩:=I.tuple hq;obtain⟨u,hu,ru⟩:=rv.get hx;have hT:s.heap.IsTuple a its.toArray:=p;refine ziV (J:=fun g=>g.IsTupleIter j a (i+1)) he hej (fun A' Q' E' k=>zhk hj hT (x:=u) (by simpa using hu) k) (fun g g' z k=>z.at k) fun g e1 j1 t1 k1=>?_;refine⟨_,rfl,wpAny_letOwnedTupleGo_enum (s:={ s with heap:=g,toks:=s.toks+1 }) e1 fun g' e2 b2=>?_⟩;have lt:e<s.heap.objs.size:=lt_size he;have ltj:j<s.heap.objs.size:=by
   obtain⟨_,q,_⟩:=hj;exact lt_size q
  have t2:g'.get? s.heap.objs.size=some { cls:=.type "tuple",data:=.seq #[.int i s.toks,u] }:=(b2.2 _ (ne_of_gt lt)).trans t1;have neT:H s.heap.objs.size=none:=I.hok.fresh (le_refl _);refine⟨.ref s.heap.objs.size,upd H s.heap.objs.size (.tup [.int i,x]),I.turnLaid (ch:=[e,j]) (t':=s.toks+1) (fun b o nb q=>(b2.2 b fun z=>nb (by simp [z])).trans (k1 b o (fun z=>nb (by simp [z])) (fun z=>nb (by simp [z])) q)) hf (le_refl _) ?_,rfl,
   ⟨_,x,neT,rfl,rfl,fun ys hy=>by rw [I.tuple_inj hy hq]; exact hx⟩,⟨⟨u,by simpa using e2⟩,j1.at fun o q=>(b2.2 j (Ne.symm hej)).trans q⟩,fun b hb=>?_⟩
  ·refine⟨⟨by show 2<=sizeLine; decide,_,t2,rfl⟩,[.int i s.toks,u],.cons ⟨s.toks,rfl⟩ (.cons ru .nil),⟨_,t2,rfl,_,rfl⟩⟩
  ·rcases mem_cons.mp hb with rfl | hb
   ·rw [zO (ne_of_lt lt)];exact(hf _ (by simp)).1
   ·rw [mem_singleton.mp hb,zO (ne_of_lt ltj)];exact(hf _ (by simp)).1
 done:=by
  intro X hP hw hK hc i zj s σ H E I hf ⟨⟨old,he⟩,hj⟩ hg;subst hP hw hK;obtain⟨xs,hq,hx⟩:=hg;obtain⟨its,rv,p,hz⟩:=I.tuple hq;have hT:s.heap.IsTuple a its.toArray:=p;have hl:=rv.length;exact zjy (I.ok.hd hc) he (fun A' Q' E' h0 k=>zeb h0 hj hT (by simp; omega) k) fun g b=>⟨rfl,I.turnedN (ch:=[e,j]) (t':=s.toks) (fun b' o nb q=>b b' o (fun z=>nb (by simp [z])) q) hf⟩
 self:=fun _ _ _ _ _ st h=>by
  obtain⟨⟨old,he⟩,_⟩:=st;exact wpAny_pyIter_enum he h
theorem zlF{P:Program}{w:World}{K:W.Frag}{elts:List Expr}{n:Nat}{pos:Pos}(a e j:Addr)(hej:e≠j):Turn P w K (.Tuple elts n pos) (Ite (SqL K) a) [e,j] e (fun i h=>(∃ old,IsEnum h e j i old)/\h.IsListIter j a i) where
 mem:=by simp
 obj:=fun i h ⟨⟨old,he⟩,hj⟩ b hb=>by
  rcases mem_cons.mp hb with rfl | hb
  ·exact⟨_,he,fun v z=>by
    have z':Data.fields _=Data.cell v:=z;cases z'⟩
  ·rw [mem_singleton.mp hb];obtain⟨o,q,c,d⟩:=hj;exact⟨o,q,fun v z=>by rw [d] at z; cases z⟩
 keep:=fun i h h' ⟨⟨old,he⟩,hj⟩ k=>⟨⟨old,k e (by simp) _ he⟩,hj.at fun o q=>k j (by simp) o q⟩
 item:=by
  intro X hP hw hK hc i zj s σ H E I hf ⟨⟨old,he⟩,hj⟩ hg;subst hP hw hK;obtain⟨xs,x,hq,hx⟩:=hg;obtain⟨its,rv,p,hz⟩:=I.list hq;obtain⟨u,hu,ru⟩:=rv.get hx;have hT:s.heap.IsList a its.toArray:=p.isList;refine ziV (J:=fun g=>g.IsListIter j a (i+1)) he hej (fun A' Q' E' k=>wpAny_nextOf_list_item hj hT (x:=u) (by simpa using hu) k) (fun g g' z k=>z.at k) fun g e1 j1 t1 k1=>?_;refine⟨_,rfl,wpAny_letOwnedTupleGo_enum (s:={ s with heap:=g,toks:=s.toks+1 }) e1 fun g' e2 b2=>?_⟩;have lt:e<s.heap.objs.size:=lt_size he;have ltj:j<s.heap.objs.size:=by
   obtain⟨_,q,_⟩:=hj;exact lt_size q
  have t2:g'.get? s.heap.objs.size=some { cls:=.type "tuple",data:=.seq #[.int i s.toks,u] }:=(b2.2 _ (ne_of_gt lt)).trans t1;have neT:H s.heap.objs.size=none:=I.hok.fresh (le_refl _);refine⟨.ref s.heap.objs.size,upd H s.heap.objs.size (.tup [.int i,x]),I.turnLaid (ch:=[e,j]) (t':=s.toks+1) (fun b o nb q=>(b2.2 b fun z=>nb (by simp [z])).trans (k1 b o (fun z=>nb (by simp [z])) (fun z=>nb (by simp [z])) q)) hf (le_refl _) ?_,rfl,
   ⟨_,x,neT,rfl,rfl,fun ys hy=>by rw [I.list_inj hy hq]; exact hx⟩,⟨⟨u,by simpa using e2⟩,j1.at fun o q=>(b2.2 j (Ne.symm hej)).trans q⟩,fun b hb=>?_⟩
  ·refine⟨⟨by show 2<=sizeLine; decide,_,t2,rfl⟩,[.int i s.toks,u],.cons ⟨s.toks,rfl⟩ (.cons ru .nil),⟨_,t2,rfl,_,rfl⟩⟩
  ·rcases mem_cons.mp hb with rfl | hb
   ·rw [zO (ne_of_lt lt)];exact(hf _ (by simp)).1
   ·rw [mem_singleton.mp hb,zO (ne_of_lt ltj)];exact(hf _ (by simp)).1
 done:=by
  intro X hP hw hK hc i zj s σ H E I hf ⟨⟨old,he⟩,hj⟩ hg;subst hP hw hK;obtain⟨xs,hq,hx⟩:=hg;obtain⟨its,rv,p,hz⟩:=I.list hq;have hT:s.heap.IsList a its.toArray:=p.isList;have hl:=rv.length;exact zjy (I.ok.hd hc) he (fun A' Q' E' h0 k=>wpAny_nextOf_list_end h0 hj hT (by simp; omega) k) fun g b=>⟨rfl,I.turnedN (ch:=[e,j]) (t':=s.toks) (fun b' o nb q=>b b' o (fun z=>nb (by simp [z])) q) hf⟩
 self:=fun _ _ _ _ _ st h=>by
  obtain⟨⟨old,he⟩,_⟩:=st;exact wpAny_pyIter_enum he h
section
variable {X:Cx} {elts:List Expr} {n:Nat} {tpos:Pos}
theorem zgZ:bootBuiltins "enumerate" = some (.type "enumerate"):=by decide +kernel
end
def zhU(i:Nat):List PyData->List PyData
 | []=>[]
 | d :: ds=>.tuple [.int i,d] :: zhU (i+1) ds
theorem zcF:∀ (ds:List PyData) (i:Nat),(zhU i ds).length=ds.length
 | [],_=>rfl
 | d :: ds,i=>by simp [zhU,zcF ds (i+1)]
theorem zeO:∀ (ds:List PyData) (i k:Nat) (d:PyData),(zhU i ds)[k]? = some d->∃ e,ds[k]? = some e/\d=.tuple [.int ((i+k:Nat):Int),e]
 | [],_,_,_,h=>by simp [zhU] at h
 | c :: ds,i,0,d,h=>by
  have e:PyData.tuple [.int i,c]=d:=by simpa [zhU] using h
  exact⟨c,rfl,by rw [<- e]; rfl⟩
 | c :: ds,i,k+1,d,h=>by
  obtain⟨e,h1,h2⟩:=zeO ds (i+1) k d (by simpa [zhU] using h);exact⟨e,by simpa using h1,by rw [h2]; congr 3; omega⟩
theorem zim{X:Cx}{x:Str}{i:Int}{pos:Pos}(hg:Gl X x)(hm:∃ t,X.mg x=some (.int i t))(hd:(x == ("__debug__":Str))=false:=by decide):PE X (.Name x pos) (tC (.int i)):=by
 obtain⟨t,e⟩:=hm;exact zcz hg e ⟨t,rfl⟩ hd
end
section
def dIx:D2:=fun x y S R=>asI y fun i=>match x with
 | .d (.tuple ds)=>∃ d,atI ds i=some d/\R (.d d) S
 | .d (.list ds)=>∃ d,atI ds i=some d/\R (.d d) S
 | .l k=>∃ ds,S[k]? = some ds/\∃ d,atI ds i=some d/\R (.d d) S
 | .d (.str z)=>z.length<=sizeLine/\∃ c,atI z.cps.toList i=some c/\R (.d (.str ⟨#[c]⟩)) S
 | _=>False
theorem ztd:RO zus (fun x y S R=>asS x fun z=>asI y fun i=>z.length<=sizeLine/\∃ c,atI z.cps.toList i=some c/\R (.d (.str ⟨#[c]⟩)) S):=fun h o H S x y v u R Q hs hx hy q c=>by
 replace q:=znJ q;obtain⟨z,rfl,q⟩:=q;replace q:=zby q;obtain⟨i,rfl,hz,k,ek,q⟩:=q;exact⟨z,i,k,zdO hx,za5 hy,hz,ek,c o H S _ _ Ex.refl hs (xS _) q⟩
theorem zcE{K:W.Frag}:RO (rIx K) dIx:=fun h o H S x y v u R Q hs hx hy q c=>by
 replace q:=zby q;obtain⟨i,rfl,q⟩:=q;split at q
 ·exact .inr (.inl (zsx h o H S _ _ v u R Q hs hx hy q c))
 ·exact .inl (zqL h o H S _ _ v u R Q hs hx hy ⟨_,rfl,q⟩ c)
 ·exact .inl (zqL h o H S _ _ v u R Q hs hx hy q c)
 ·exact .inr (.inr (ztd h o H S _ _ v u R Q hs hx hy q c))
 ·exact q.elim
section
variable {S:Sto} {R:RX} {ds:List PyData} {i:Int} {k:Nat} {z:Str}
theorem zsT:dIx (.d (.tuple ds)) (.d (.int i)) S R=∃ d,atI ds i=some d/\R (.d d) S:=rfl
theorem zs9:dIx (.d (.list ds)) (.d (.int i)) S R=∃ d,atI ds i=some d/\R (.d d) S:=rfl
theorem zsX:dIx (.l k) (.d (.int i)) S R=∃ ds,S[k]? = some ds/\∃ d,atI ds i=some d/\R (.d d) S:=rfl
theorem ztY:dIx (.d (.str z)) (.d (.int i)) S R=(z.length<=sizeLine/\∃ c,atI z.cps.toList i=some c/\R (.d (.str ⟨#[c]⟩)) S):=rfl
end
def zu2(K:W.Frag):V->Option Int->Option Int->Hp->VK->Prop:=fun x a b H Q=>zt5 K x a b H Q\/(zur K x a b H Q\/zve x a b H Q)
theorem zgf{X:Cx}:SlR X (zu2 X.K):=zof.or (zqg.or ztJ)
def zmd:D3:=fun x i j S R=>match x with
 | .d (.tuple ds)=>¬ (HT.sIx ds.length 0 i=0/\HT.sIx ds.length ds.length j=ds.length)/\R (.d (.tuple (zdE ds i j))) S
 | .d (.list ds)=>R (.d (.list (zdE ds i j))) S
 | .l k=>∃ ds,S[k]? = some ds/\R (.d (.list (zdE ds i j))) S
 | .d (.str z)=>z.length<=sizeLine/\R (.d (.str (PySem.Txt.slice z i j))) S
 | _=>False
theorem zoh{K:W.Frag}:RL (zu2 K) zmd:=fun h o H S x v a b R Q hs hx q c=>by
 unfold zmd at q;split at q
 ·exact .inr (.inl (zsm h o H S _ v a b R Q hs hx q c))
 ·exact .inl (znm h o H S _ v a b R Q hs hx ⟨_,rfl,q⟩ c)
 ·exact .inl (znm h o H S _ v a b R Q hs hx q c)
 ·exact .inr (.inr ⟨_,zdO hx,q.1,c o H S _ _ Ex.refl hs (xS _) q.2⟩)
 ·exact q.elim
section
variable {S:Sto} {R:RX} {ds:List PyData} {i j:Option Int} {k:Nat} {z:Str}
theorem zqM:zmd (.d (.tuple ds)) i j S R=(¬ (HT.sIx ds.length 0 i=0/\HT.sIx ds.length ds.length j=ds.length)/\R (.d (.tuple (zdE ds i j))) S):=rfl
theorem zqv:zmd (.d (.list ds)) i j S R=R (.d (.list (zdE ds i j))) S:=rfl
theorem zql:zmd (.l k) i j S R=∃ ds,S[k]? = some ds/\R (.d (.list (zdE ds i j))) S:=rfl
theorem zqd:zmd (.d (.str z)) i j S R=(z.length<=sizeLine/\R (.d (.str (PySem.Txt.slice z i j))) S):=rfl
end
def zqJ(K:W.Frag):R2:=fun x y H Q=>∃ a b ys,x=.ref a/\y=.ref b/\SqT K H a []/\SqT K H b ys/\Q (.ref b) H
theorem zpz{X:Cx}:OpR X (binaryOp .Add) (zqJ X.K):=by
 intro zj s σ H x y v u Q I rx ry h;obtain⟨a,b,ys,rfl,rfl,ha,hb,q⟩:=h;cases rx;cases ry;obtain⟨its,r1,p1,_⟩:=I.tuple ha;obtain⟨its2,r2,p2,_⟩:=I.tuple hb;cases r1;obtain⟨⟨c1,d1,e1,l1⟩,o1,w1,n1,k1⟩:=id p1;obtain⟨⟨c2,d2,e2,l2⟩,o2,w2,n2,k2⟩:=id p2;simp only at w1 k1 w2 k2;subst w1 k1 w2 k2;exact concat_meets ⟨_,o1,rfl⟩ ⟨_,o2,rfl⟩ noFill_tuple_add seq_tuple_add PySem.F.slot_tuple_add PySem.F.entry_tuple_add (PySem.F.args_tuple_add_2 _ _) (tuple_addW0 a b _ _ n1 n2 d1 d2 l1 l2 (by simp)) ⟨o1,o2,⟨.ref b,H,I,rfl,q⟩⟩
def zsw(K:W.Frag):R2:=fun x y H Q=>rI0 (fun i j=>.int (i+j)) x y H Q\/(zsF x y H Q\/(zrQ K x y H Q\/(zqJ K x y H Q\/∃ i j,x=.str i/\y=.str j/\i.length+j.length<=sizeLine/\Q (.str (i++j)) H)))
theorem zE{X:Cx}:OpR X (binaryOp .Add) (zsw X.K):=zsM.or (zoe.or (zrV.or (zpz.or zmi)))
def zbK:D2:=fun x y S R=>match x,y with
 | .d (.int i),.d (.int j)=>R (.d (.int (i+j))) S
 | .d (.tuple ds),.d (.tuple es)=>ds.length+es.length<=1000/\R (.d (.tuple (ds++es))) S
 | .d (.str a),.d (.str b)=>a.length+b.length<=sizeLine/\R (.d (.str (a++b))) S
 | x,y=>asL S x fun ds=>asL S y fun es=>ds.length+es.length<=1000/\R (.d (.list (ds++es))) S
theorem zcJ{K:W.Frag}:RO (zsw K) zbK:=fun h o H S x y v u R Q hs hx hy q c=>by
 unfold zbK at q;split at q
 ·exact .inl (zr5 h o H S _ _ v u R Q hs hx hy q c)
 ·rename_i ds es;cases ds with
  | cons d ds=>exact .inr (.inr (.inl (zrc h o H S _ _ v u R Q hs hx hy ⟨by simp,q⟩ c)))
  | nil =>
   obtain⟨a,vs,rfl,ea,l⟩:=zd6 hx;obtain⟨b,us,rfl,eb,l'⟩:=zd6 hy;rw [zJ.mp l] at ea;exact .inr (.inr (.inr (.inl ⟨a,b,us,rfl,rfl,.of ea,.of eb,c o H S (.d (.tuple es)) _ Ex.refl hs hy q.2⟩)))
 ·exact .inr (.inr (.inr (.inr ⟨_,_,zdO hx,zdO hy,q.1,c o H S _ _ Ex.refl hs (xS _) q.2⟩)))
 ·exact .inr (.inl (zsV h o H S _ _ v u R Q hs hx hy q c))
section
variable {S:Sto} {R:RX} {ds es:List PyData} {i j:Int} {k l:Nat} {a b:Str}
theorem zqy:zbK (.d (.int i)) (.d (.int j)) S R=R (.d (.int (i+j))) S:=rfl
theorem zqm:zbK (.d (.tuple ds)) (.d (.tuple es)) S R=(ds.length+es.length<=1000/\R (.d (.tuple (ds++es))) S):=rfl
theorem znj:zbK (.d (.list ds)) (.d (.list es)) S R↔(ds.length+es.length<=1000/\R (.d (.list (ds++es))) S):=⟨fun⟨_,e,_,e',q⟩=>by cases e; cases e'; exact q,fun q=>⟨_,rfl,_,rfl,q⟩⟩
end
def zs3:R2:=fun x y H Q=>rI IntMulOk (fun i j=>.int (i*j)) x y H Q\/(ztt x y H Q\/zu9 x y H Q)
theorem zaZ{X:Cx}:OpR X (binaryOp .Mult) zs3:=zq2.or (zrM.or ztB)
def zfy:D2:=fun x y S R=>asI y fun j=>match x with
 | .d (.int i)=>IntMulOk i j/\R (.d (.int (i*j))) S
 | .d (.str z)=>z.length<=1000/\j<=1000/\-1000<=j/\R (.d (.str (PySem.Txt.mul z j))) S
 | .d (.list ds)=>j<=1000/\-1000<=j/\ds.length*j.toNat<=1000/\R (.d (.list (List.replicate j.toNat ds).flatten)) S
 | _=>False
theorem HasL.rep{H:Hp}{ds:List PyData}{vs:List V}(l:HasL H ds vs):∀ n:Nat,HasL H (List.replicate n ds).flatten (List.replicate n vs).flatten
 | 0=>zJ.mpr rfl
 | n+1=>by
  rw [replicate_succ,replicate_succ,flatten_cons,flatten_cons];exact l.append (HasL.rep l n)
theorem zht:RO zs3 zfy:=fun h o H S x y v u R Q hs hx hy q c=>by
 replace q:=zby q;obtain⟨j,rfl,q⟩:=q;split at q
 ·exact .inl (zr4 h o H S _ _ v u R Q hs hx hy q c)
 ·exact .inr (.inl ⟨_,_,zdO hx,za5 hy,q.1,q.2.1,q.2.2.1,c o H S _ _ Ex.refl hs (xS _) q.2.2.2⟩)
 ·obtain⟨a,vs,rfl,ea,l⟩:=zbn (x:=.d (.list _)) hs rfl hx;obtain⟨h1,h2,h3,q⟩:=q;exact .inr (.inr ⟨a,j,vs,rfl,za5 hy,ea,by omega,by omega,by rw [l.length]; exact le_of_lt (small1000 h3),zl9 hs (l.rep j.toNat) c q⟩)
 ·exact q.elim
section
variable {S:Sto} {R:RX} {i j:Int} {z:Str} {ds:List PyData}
theorem zqw:zfy (.d (.list ds)) (.d (.int j)) S R=(j<=1000/\-1000<=j/\ds.length*j.toNat<=1000/\R (.d (.list (List.replicate j.toNat ds).flatten)) S):=rfl
theorem zqa:zfy (.d (.int i)) (.d (.int j)) S R=(IntMulOk i j/\R (.d (.int (i*j))) S):=rfl
theorem zqW:zfy (.d (.str z)) (.d (.int j)) S R=(z.length<=1000/\j<=1000/\-1000<=j/\R (.d (.str (PySem.Txt.mul z j))) S):=rfl
end
def zuU:R2:=fun x y H Q=>rI CDivX (fun i j=>.int (i / j)) x y H Q\/rI CDivN (fun i j=>.int (i.fdiv j)) x y H Q
theorem zhQ{X:Cx}:OpR X (binaryOp .FloorDiv) zuU:=zpx.or zpi
def dFd:D2:=fun x y S R=>asI x fun i=>asI y fun j=>(CDivX i j/\R (.d (.int (i / j))) S)\/(CDivN i j/\R (.d (.int (i.fdiv j))) S)
theorem zux:RO zuU dFd:=fun h o H S x y v u R Q hs hx hy q c=>by
 replace q:=zby q;obtain⟨i,rfl,q⟩:=q;replace q:=zby q;obtain⟨j,rfl,q⟩:=q;rcases q with q | q
 ·exact .inl (zr4 (C:=CDivX) (g:=fun i j=>i / j) h o H S _ _ v u R Q hs hx hy q c)
 ·exact .inr (zr4 (C:=CDivN) (g:=fun i j=>i.fdiv j) h o H S _ _ v u R Q hs hx hy q c)
def ztM(S:Sto):XV->Option Bool
 | .d .none=>some false
 | .d (.bool b)=>some b
 | .d (.int i)=>some (i != 0)
 | .d (.str z)=>if z.length<=sizeLine then some ((z.length:Int) != 0) else none
 | .d (.list ds)=>some (!ds.isEmpty)
 | .d (.tuple ds)=>some (!ds.isEmpty)
 | .l k=>(S[k]?).map fun ds=>!ds.isEmpty
 | _=>none
def zid(a:DE):DT:=fun δ S R=>a δ S fun x S1=>∃ k,ztM S1 x=some k/\R k S1
theorem zei{H:Hp}{ds:List PyData}{vs:List V}(l:HasL H ds vs):(!ds.isEmpty) = !vs.isEmpty:=by
 have:=l.length;cases ds <;> cases vs <;> simp_all
theorem zdz{K:W.Frag}{ta:TE}{da:DE}(ha:RE ta da):RT (fun σ H Q=>ta σ H fun x H'=>∃ k,TruV K x H' k/\Q k H') (zid da):=fun h o H δ σ S R Q he hs q c =>
 ha h o H δ σ S _ _ he hs q fun o1 H1 S1 x v e1 s1 x1 ⟨k,ek,d1⟩=>by
  refine⟨k,?_,c o1 H1 S1 k e1 s1 d1⟩;unfold ztM at ek;split at ek
  ·cases ek; rw [(zc3 (H:=vx h o1 H1)).mp x1]; rfl
  ·cases ek; rw [zep x1]; rfl
  ·cases ek; rw [za5 x1]; rfl
  ·split at ek
   ·rename_i hz;cases ek; rw [zdO x1]; exact⟨hz,rfl⟩
   ·cases ek
  ·obtain⟨a,vs,rfl,ea,l⟩:=zbn (x:=.d (.list _)) s1 rfl x1;cases ek;exact .inl ⟨vs,.of ea,zei l⟩
  ·obtain⟨a,vs,rfl,ea,l⟩:=zd6 x1;cases ek;exact .inr (.inl ⟨vs,.of ea,zei l⟩)
  ·rename_i j _;cases hj:S1[j]? with
   | none=>rw [hj] at ek; cases ek
   | some ds =>
    rw [hj] at ek;cases ek;obtain⟨a,vs,rfl,ea,l⟩:=zbn (x:=.l j) s1 hj x1;exact .inl ⟨vs,.of ea,zei l⟩
  ·cases ek
section
variable {S:Sto} {b:Bool} {i:Int} {ds:List PyData} {k:Nat}
theorem zqx:ztM S (.d (.bool b))=some b:=rfl
theorem zqF:ztM S (.d (.list ds))=some (!ds.isEmpty):=rfl
theorem zp0:ztM S (.l k)=(S[k]?).map fun ds=>!ds.isEmpty:=rfl
end
def zln:DS:=fun _ _ _=>False
theorem zoX:RS zp2 zln:=fun h o H δ σ S E D he hs q c=>q.elim
def zvb(K:W.Frag)(tl:TE):TI:=fun σ H R=>tl σ H fun x H1=>∃ a,x=.ref a/\(((∃ xs,SqL K H1 a xs)/\R (Itl K a) H1)\/((∃ xs,SqT K H1 a xs)/\R (Itt K a) H1))
theorem zaW{X:Cx}{tg:Expr}{l:Expr}{tl:TE}(hl:PE X l tl):PI X tg l (zvb X.K tl):=by
 intro zj s σ H R I h;refine thn (hl zj s σ H _ I h) fun v s1 ⟨x,H1,I1,r1,q1⟩=>?_;obtain⟨a,e,⟨⟨xs,hq⟩,q⟩ | ⟨⟨xs,hq⟩,q⟩⟩:=q1
 ·subst e;cases r1;obtain⟨its,rv,p,hz⟩:=I1.list hq;refine wpAny_pyIter_list p.isList ?_;refine⟨s1.heap.objs.size,[s1.heap.objs.size],_,_,H1,rfl,I1.kept (t':=s1.toks) fun b o e=>get?_push_of_some _ e,ziG a _,⟨_,get?_push_size _ rfl,rfl,rfl⟩,fun b hb=>?_,q⟩;have e:b=s1.heap.objs.size:=by simpa using hb
  subst e;exact I1.fpOk (le_refl _) (I1.hok.fresh (le_refl _))
 ·subst e;cases r1;obtain⟨its,rv,p,hz⟩:=I1.tuple hq;refine wpAny_pyIter_tuple (show s1.heap.IsTuple a its.toArray from p) ?_;refine⟨s1.heap.objs.size,[s1.heap.objs.size],_,_,H1,rfl,I1.kept (t':=s1.toks) fun b o e=>get?_push_of_some _ e,zlX a _,⟨_,get?_push_size _ rfl,rfl,rfl⟩,fun b hb=>?_,q⟩;have e:b=s1.heap.objs.size:=by simpa using hb
  subst e;exact I1.fpOk (le_refl _) (I1.hok.fresh (le_refl _))
def zjW:XV->Option (List PyData)
 | .d (.list ds)=>some ds
 | .d (.tuple ds)=>some ds
 | _=>none
theorem zp1{ds:List PyData}:zjW (.d (.list ds))=some ds:=rfl
theorem zpU{ds:List PyData}:zjW (.d (.tuple ds))=some ds:=rfl
def zbI(e:DE):DI:=fun δ S R=>e δ S fun x S1=>∃ ds,zjW x=some ds/\R ds S1
theorem zb3{K:W.Frag}{te:TE}{de:DE}(he':RE te de):RI (zvb K te) (zbI de):=fun h o H δ σ S R Q he hs q c =>
 he' h o H δ σ S _ _ he hs q fun o1 H1 S1 x v e1 s1 x1 ⟨ds,ex,d1⟩=>by
  unfold zjW at ex;split at ex
  ·cases ex;obtain⟨a,vs,rfl,ea,l⟩:=zbb.mp (show Has _ _ _ from x1);have hl:=l.length;refine⟨a,rfl,.inl ⟨⟨vs,.of (zam _ _ ea)⟩,c o1 H1 S1 ds _ e1 s1 ⟨fun i o2 H2 e2 hi=>⟨vs,.of (zam _ _ (e2.vx _ _ ea)),by omega⟩,fun i d o2 H2 e2 hi=>?_,fun i d o2 H2 x H3 S2 e2 s2 hi y=>?_⟩ d1⟩⟩
   ·obtain⟨v,ev,_⟩:=l.get hi;exact⟨vs,v,.of (zam _ _ (e2.vx _ _ ea)),ev⟩
   ·obtain⟨v,ev,hv⟩:=l.get hi;have e3:H3=H2:=y.1;subst e3;have ex:=y.2 vs (.of (zam _ _ (e2.vx _ _ ea)));rw [ev] at ex;cases ex;exact⟨Same.refl _,hv.mono e2.vx⟩
  ·cases ex;obtain⟨a,vs,rfl,ea,l⟩:=zaw.mp (show Has _ _ _ from x1);have hl:=l.length;refine⟨a,rfl,.inr ⟨⟨vs,.of (zam _ _ ea)⟩,c o1 H1 S1 ds _ e1 s1 ⟨fun i o2 H2 e2 hi=>⟨vs,.of (zam _ _ (e2.vx _ _ ea)),by omega⟩,fun i d o2 H2 e2 hi=>?_,fun i d o2 H2 x H3 S2 e2 s2 hi y=>?_⟩ d1⟩⟩
   ·obtain⟨v,ev,_⟩:=l.get hi;exact⟨vs,v,.of (zam _ _ (e2.vx _ _ ea)),ev⟩
   ·obtain⟨v,ev,hv⟩:=l.get hi;have e3:H3=H2:=y.1;subst e3;have ex:=y.2 vs (.of (zam _ _ (e2.vx _ _ ea)));rw [ev] at ex;cases ex;exact⟨Same.refl _,hv.mono e2.vx⟩
  ·cases ex
def zt6(dt:DS):DS:=fun E δ S=>dt { E with nx:=fun δ' S'=>∃ S0 ds,S'=S0++[ds]/\S.length<=S0.length/\E.nx (δ'.map (frz S0.length ds)) S0 } δ S
theorem ztH{t:TS}{dt:DS}(ht:RS t dt):RS t (zt6 dt):=fun h o H δ σ S E D he hs q c=>by
 refine ht h o H δ σ S _ D he hs q ⟨fun o' H' δ' S' σ' e he' hs' ⟨S0,ds,eS,hl,n⟩=>?_,c.rt,c.bk,c.ct⟩;subst eS;obtain⟨r,rfl⟩:=e.pre;have hL:=hs'.len;simp only [length_append,length_singleton] at hL;have hS:=hs.len;have rne:r≠[]:=fun z=>by subst z; simp at hL; omega
 obtain⟨r0,a,rfl⟩:∃ r0 a,r=r0++[a]:=⟨r.dropLast,r.getLast rne,(List.dropLast_concat_getLast rne).symm⟩;have hS0:S0.length=(o++r0).length:=by simp at hL ⊢; omega
 rw [<- append_assoc] at hs' he' e;have nd:=nodup_append.mp hs'.nd;have na:a∉o++r0:=fun m=>nd.2.2 a m a (by simp) rfl;have nh:a∉h:=hs'.dis a (by simp);refine c.nx (o++r0) H' _ S0 σ' ⟨⟨r0,rfl⟩,fun b u hb eb=>?_⟩ ⟨by rw [length_map]; exact he'.len,fun i x ex=>?_⟩ (hs'.pop hS0) n
 ·obtain⟨z1,z2⟩:=e.kp b u hb eb;exact⟨fun m=>z1 (mem_append_left _ m),z2⟩
 ·rw [getElem?_map] at ex;obtain⟨y,ey,ex⟩:=map_eq_some_iff.mp ex
  match y,ey,ex with
  | none,ey,ex=>cases ex
  | some (.d d),ey,ex =>
   cases ex;obtain⟨v,e1,e2⟩:=he'.get i _ ey;exact⟨v,e1,Has.mono zgj d v e2⟩
  | some (.o w),ey,ex =>
   cases ex;exact he'.get i _ ey
  | some (.x C fs),ey,ex =>
   cases ex;obtain⟨v,e1,e2⟩:=he'.get i _ ey;exact⟨v,e1,HasE.mono zgj e2⟩
  | some (.l k),ey,ex =>
   obtain⟨v,e1,b,eb,rfl⟩:=he'.get i _ ey;unfold frz at ex;by_cases hk:k=S0.length
   ·simp only [hk,↓reduceIte] at ex;cases ex;rw [hk,hS0,getElem?_concat_length] at eb;cases eb;obtain⟨vs,ev,l⟩:=hs'.cont k a ds (by rw [hk,hS0,getElem?_concat_length]) (by rw [hk,getElem?_concat_length]);exact⟨_,e1,zbb.mpr ⟨a,vs,rfl,zap.mpr ⟨nh,na,ev⟩,l.mono zgj⟩⟩
   ·simp only [hk,↓reduceIte] at ex;cases ex;have hlt:=(List.getElem?_eq_some_iff.mp eb).1;simp only [length_append,length_singleton] at hlt;simp only [length_append] at hS0;rw [getElem?_append_left (by simp only [length_append]; omega)] at eb;exact⟨_,e1,b,eb,rfl⟩
section
variable {t1 t2 t3 t4 t5 t6 t7 t8:TS} {d:DS}
theorem ztq(h:RS (zk3 (zk3 t1 t2) t3) d):RS (zk3 t1 (zk3 t2 t3)) d:=h
end
end
section
abbrev PN:=List XV->Sto->RX->Prop
def lfN(q:PN):List V->Hp->VK->Prop:=fun vs H Q=>∃ h o S xs R,RepS h o H S/\HasXs h o H xs vs/\q xs S R/\Cn h o H R Q
def spN(ps:List Str)(q:PN):Sp:=fun vs H Q _=>vs.length=ps.length/\lfN q vs H Q
theorem HasXs.len{h o:List Addr}{H:Hp}:∀ {xs:List XV} {vs:List V},HasXs h o H xs vs->vs.length=xs.length
 | [],vs,q=>by rw [show vs=[] from q]; rfl
 | x :: xs,vs,⟨v,r,e,_,l⟩=>by rw [e,length_cons,length_cons,HasXs.len l]
theorem HasXs.get{h o:List Addr}{H:Hp}:∀ {xs:List XV} {vs:List V} {i:Nat} {x:XV},HasXs h o H xs vs->xs[i]? = some x->∃ v,vs[i]? = some v/\HasX h o H x v
 | [],_,i,_,_,e=>by simp at e
 | y :: xs,vs,0,x,⟨v,r,e1,q,l⟩,e=>by
  rw [getElem?_cons_zero] at e;cases e;subst e1;exact⟨v,rfl,q⟩
 | y :: xs,vs,i+1,x,⟨v,r,e1,q,l⟩,e=>by
  subst e1;rw [getElem?_cons_succ] at e ⊢;exact HasXs.get l e
theorem zbx{h o:List Addr}{H:Hp}{xs:List XV}{vs:List V}{n:Nat}(q:HasXs h o H xs vs):RepE h o H (xs.map some++List.replicate n none) (vs.map some++List.replicate n none):=by
 have hl:=q.len;refine⟨by simp [hl],fun i x e=>?_⟩;by_cases hi:i<xs.length
 ·rw [getElem?_append_left (by rw [length_map]; exact hi),getElem?_map] at e;obtain⟨y,ey,e⟩:=map_eq_some_iff.mp e;cases e;obtain⟨v,ev,hv⟩:=q.get ey;exact⟨v,by rw [getElem?_append_left (by rw [length_map,hl]; exact hi),getElem?_map,ev]; rfl,hv⟩
 ·rw [getElem?_append_right (by rw [length_map]; omega),List.getElem?_replicate] at e;split at e <;> cases e
section
variable {P:Program} {w:World} {K:W.Frag} {mg:Str->Option Value} {base:Heap} {x:Str} {st:Stmt} {N ps:List Str} {k:Nat}
theorem Df.dN{q:PN}(D:Dd K mg x st ps)(S:FnScope N ps (zf st))(n:Nat)(hn:N.length=ps.length+n)
  (hbody:∀ (f:Addr) (cdv:Value) (A:Around) (outer:List Env) (s:Shared) (H:Hp) (E:XK),Room k (A.deeper (envOfC x (zf st) s.heap.objs.size f cdv)) ->
   ∃ t dt,PSs (zgI CX0 P w K mg base N x (zf st) f cdv A outer s H E).nox (zaO st) t/\RS t dt/\∀ xs S R,q xs S R->dt (zbk S.length R) (xs.map some++List.replicate n none) S):Df P w K mg base x ps (k+1) (spN ps q):=by
 refine Df.of D S (fun vs H Q E h=>h.1) fun f cdv A outer s H vs Q E hr ⟨hl,h,o,S',xs,R,hs',hx,hq,c⟩=>?_;obtain⟨t,dt,h1,h2,h3⟩:=hbody f cdv A outer s H E hr;refine⟨t,h1,h2 h o H _ _ S' _ _ ?_ hs' (h3 xs S' R hq) (eok hs' c)⟩;have e:N.length - vs.length=n:=by omega
 unfold start;rw [e];exact zbx hx
end
section
variable {X:Cx} {x:Str} {ps:List Str} {k j:Nat} {pos pos':Pos} {e:Expr} {es:List Expr} {t:TA}
theorem zp{q:PN}(D:Df X.prog X.w X.K X.mg X.base x ps k (spN ps q))(hr:Room j X.A)(hk:k<=j)(ha:PA X (e :: es) t)(hg:Gl X x:=by rfl)(hdb:(x == ("__debug__":Str))=false:=by decide)
  (q1:starEach (e :: es) X.env=(false,eval e X.env) :: starEach es X.env:=by rfl) (q2:((backTo pos (starEach es X.env)).any fun x=>x.fst)=false:=by rfl):PE X (.Call (.Name x pos') (e :: es) [] pos) (zgu (spN ps q) [] E0 t):=by
 obtain⟨f,fd,F,hm,kp,hb⟩:=D.ex;exact zj5 (dvs:=[]) (ds:=[]) (E:=E0) F (hr.mono hk) hg hm kp hb .nil pass0 ha hdb q1 q2
end
def zS(m:Nat)(q:PN)(da:DA):DE:=fun δ S R=>da δ S fun xs S1=>∃ ds,datas xs=some ds/\ds.length=m/\q (ds.map XV.d) [] (ret0 S1 R)
theorem hxs0{h o:List Addr}{H:Hp}:∀ {ds:List PyData} {vs:List V},HasXs h o H (ds.map XV.d) vs->HasXs (h++o) [] H (ds.map XV.d) vs
 | [],_,q=>q
 | d :: ds,vs,⟨v,r,e,q,l⟩=>⟨v,r,e,hx0 q,hxs0 l⟩
theorem zan{ps:List Str}{q:PN}{m:Nat}{t:TA}{da:DA}(ha:RA t da)(hm:ps.length=m:=by rfl):RE (zgu (spN ps q) [] E0 t) (zS m q da):=fun h o H δ σ S R Q he hs w c =>
 ha h o H δ σ S _ _ he hs w fun o1 H1 S1 xs vs e1 s1 x1 ⟨ds,e,hl,d1⟩=>by
  have ex:=zbX e;subst ex;have hv:=x1.len;rw [append_nil];exact⟨by rw [hv,length_map,hl,hm],h++o1,[],[],_,_,rep0 s1,hxs0 x1,d1,cn0 s1 (c.pre e1)⟩
def zB(i m:Nat)(q:PN)(da:DA):DE:=fun δ S R=>da δ S fun xs S1=>∃ k,xs[i]? = some (.l k)/\∃ p,S1[k]? = some p/\∃ ds,datas (xs.set i (.d .none))=some ds/\ds.length=m/\q ((ds.map XV.d).set i (.l 0)) [p] (zt7 k S1 R)
theorem zuV{h o:List Addr}{H:Hp}{k:Nat}{a:Addr}(ea:o[k]? = some a):∀ {xs:List XV} {vs:List V} {ds:List PyData} {i:Nat},HasXs h o H xs vs->xs[i]? = some (.l k)->datas (xs.set i (.d .none))=some ds->HasXs (h++o.filter (fun b=>b≠a)) [a] H ((ds.map XV.d).set i (.l 0)) vs
 | [],_,_,i,_,e,_=>by simp at e
 | x :: xs,vs,ds,0,⟨v,r,e1,q,l⟩,e,ed=>by
  rw [getElem?_cons_zero] at e;cases e;rw [set_cons_zero] at ed;obtain⟨ds',rfl⟩:∃ ds',ds=.none :: ds':=by
   unfold datas at ed;cases hd:datas xs with
   | none=>rw [hd] at ed; cases ed
   | some y=>rw [hd] at ed; cases ed; exact⟨y,rfl⟩
  have ed':datas xs=some ds':=by
   unfold datas at ed;cases hd:datas xs with
   | none=>rw [hd] at ed; cases ed
   | some y=>rw [hd] at ed; cases ed; rfl
  have ex:=zbX ed';subst ex;obtain⟨b,eb,rfl⟩:=q;rw [ea] at eb;cases eb;exact⟨_,r,e1,⟨a,rfl,rfl⟩,go (ea:=ea) l⟩
 | x :: xs,vs,ds,i+1,⟨v,r,e1,q,l⟩,e,ed=>by
  rw [getElem?_cons_succ] at e;rw [set_cons_succ] at ed
  match x,q,ed with
  | .d d,q,ed =>
   unfold datas at ed;cases hd:datas (xs.set i (.d .none)) with
   | none=>rw [hd] at ed; cases ed
   | some ds' =>
    rw [hd] at ed;cases ed;exact⟨v,r,e1,hxP ea q,zuV ea l e hd⟩
  | .l j,q,ed=>cases ed
  | .o w,q,ed=>cases ed
  | .x _ _,q,ed=>cases ed
where
 go {h o:List Addr} {H:Hp} {k:Nat} {a:Addr} {ea:o[k]? = some a}:∀ {ds:List PyData} {vs:List V},HasXs h o H (ds.map XV.d) vs->HasXs (h++o.filter (fun b=>b≠a)) [a] H (ds.map XV.d) vs
 | [],_,q=>q
 | d :: ds,vs,⟨v,r,e,q,l⟩=>⟨v,r,e,hxP ea q,go (ea:=ea) l⟩
theorem zmV:∀ {xs:List XV} {ds:List PyData},datas xs=some ds->xs.length=ds.length:=fun e=>by
 rw [zbX e,length_map]
theorem za2{ps:List Str}{q:PN}{i m:Nat}{t:TA}{da:DA}(ha:RA t da)(hm:ps.length=m:=by rfl):RE (zgu (spN ps q) [] E0 t) (zB i m q da):=fun h o H δ σ S R Q he hs w c =>
 ha h o H δ σ S _ _ he hs w fun o1 H1 S1 xs vs e1 s1 x1 ⟨k,ek,p,ep,ds,e,hl,d1⟩=>by
  have hv:=x1.len;have hd:=zmV e;rw [length_set] at hd;obtain⟨v,_,a,ea,_⟩:=x1.get ek;rw [append_nil];exact⟨by rw [hv,hd,hl,hm],_,[a],[p],_,_,zue s1 ea ep,zuV ea x1 ek e,d1,cnP s1 ea ep (c.pre e1)⟩
mutual
def zkB:PyData->Bool
 | .list _=>false
 | .dict _=>false
 | .tuple ds=>zjB ds
 | _=>true
def zjB:List PyData->Bool
 | []=>true
 | d :: ds=>zkB d && zjB ds
end
mutual
theorem ziI{h o:List Addr}{H G:Hp}(sm:Same G H)(hh:∀ b,b∈h\/b∈o->∃ u:MO,H b=some u.ho):∀ (d:PyData) (v:V),zkB d=true->Has G d v->Has (vx h o H) d v
 | .none,v,_,q=>zc3.mpr (zc3.mp q)
 | .bool b,v,_,q=>zcd.mpr (zcd.mp q)
 | .int i,v,_,q=>zbR.mpr (zbR.mp q)
 | .str z,v,_,q=>zdN.mpr (zdN.mp q)
 | .list ds,v,n,_=>by simp [zkB] at n
 | .dict ds,v,n,_=>by simp [zkB] at n
 | .tuple ds,v,n,q=>by
  obtain⟨a,vs,e,ea,l⟩:=zaw.mp q;have n':zjB ds=true:=by simpa [zkB] using n
  have ea':=sm _ _ ea;refine zaw.mpr ⟨a,vs,e,zap.mpr ⟨fun m=>?_,fun m=>?_,ea'⟩,zhu sm hh ds vs n' l⟩
  ·obtain⟨u,eu⟩:=hh a (.inl m);rw [ea'] at eu;cases u <;> cases eu
  ·obtain⟨u,eu⟩:=hh a (.inr m);rw [ea'] at eu;cases u <;> cases eu
theorem zhu{h o:List Addr}{H G:Hp}(sm:Same G H)(hh:∀ b,b∈h\/b∈o->∃ u:MO,H b=some u.ho):∀ (ds:List PyData) (vs:List V),zjB ds=true->HasL G ds vs->HasL (vx h o H) ds vs
 | [],vs,_,q=>zJ.mpr (zJ.mp q)
 | d :: ds,vs,n,q=>by
  obtain⟨v,r,e,hv,l⟩:=zA.mp q;simp only [zjB,Bool.and_eq_true] at n;exact zA.mpr ⟨v,r,e,ziI sm hh d v n.1 hv,zhu sm hh ds r n.2 l⟩
end
def zuc(S:Sto)(R:RX):RX:=fun y S'=>match y,S' with
 | .d d,[]=>zkB d=true/\R (.d d) S
 | _,_=>False
theorem zqR{S:Sto}{R:RX}{d:PyData}:zuc S R (.d d) []=(zkB d=true/\R (.d d) S):=rfl
def views(S:Sto):List XV->Option (List PyData)
 | []=>some []
 | x :: r=>(zdQ S x).bind fun d=>(views S r).map (d :: ·)
theorem zi6{S:Sto}:views S []=some []:=rfl
theorem zfk{S:Sto}{x:XV}{r:List XV}:views S (x :: r)=(zdQ S x).bind fun d=>(views S r).map (d :: ·):=rfl
def zlq(m:Nat)(q:PN)(da:DA):DE:=fun δ S R=>da δ S fun xs S1=>∃ ds,views S1 xs=some ds/\ds.length=m/\q (ds.map XV.d) [] (zuc S1 R)
theorem zvh{h o:List Addr}{H:Hp}{S:Sto}(hs:RepS h o H S):RepS h [] H []:=⟨rfl,nodup_nil,(fun _ h=>(nomatch h)),hs.hal,(fun _ _ _ e=>(by simp at e))⟩
theorem hxV{h o:List Addr}{H:Hp}{S:Sto}{x:XV}{v:V}{d:PyData}(hs:RepS h o H S)(e:zdQ S x=some d)(q:HasX h o H x v):HasX h [] H (.d d) v:=by
 have sub:Same (vx h o H) (vx h [] H):=fun b u eb=>by
  obtain⟨z1,z2,z3⟩:=zap.mp eb;exact zap.mpr ⟨z1,by simp,z3⟩
 unfold zdQ at e;split at e
 ·cases e;exact Has.mono sub _ _ q
 ·rename_i k;obtain⟨a,ea,rfl⟩:=q;cases hk:S[k]? with
  | none=>rw [hk] at e; cases e
  | some ds =>
   rw [hk] at e;cases e;obtain⟨vs,ev,l⟩:=hs.cont k a ds ea hk;exact zbb.mpr ⟨a,vs,rfl,zap.mpr ⟨hs.dis a (mem_of_getElem? ea),by simp,ev⟩,l.mono sub⟩
 ·cases e
 ·cases e
theorem zuP{h o:List Addr}{H:Hp}{S:Sto}(hs:RepS h o H S):∀ {xs:List XV} {vs:List V} {ds:List PyData},views S xs=some ds->HasXs h o H xs vs->HasXs h [] H (ds.map XV.d) vs/\vs.length=ds.length
 | [],vs,ds,e,q=>by cases e; exact⟨q,by rw [show vs=[] from q]; rfl⟩
 | x :: xs,vs,ds,e,⟨v,r,e1,q,l⟩=>by
  rw [zfk] at e;cases hd:zdQ S x with
  | none=>rw [hd] at e; cases e
  | some d =>
   rw [hd,Option.bind_some] at e;cases hr:views S xs with
   | none=>rw [hr] at e; cases e
   | some es =>
    rw [hr] at e;cases e;obtain⟨z1,z2⟩:=zuP hs hr l;exact⟨⟨v,r,e1,hxV hs hd q,z1⟩,by rw [e1,length_cons,length_cons,z2]⟩
theorem cnV{h o:List Addr}{H:Hp}{S:Sto}{R:RX}{Q:VK}(hs:RepS h o H S)(c:Cn h o H R Q):Cn h [] H (zuc S R) Q:=fun o' H' S' y v e s' hy q=>by
 unfold zuc at q;split at q
 ·rename_i d;have sH:Same H H':=fun b u eb=>(e.kp b u (by simp) eb).2;have e0:o'=[]:=eq_nil_of_length_eq_zero s'.len.symm;subst e0;have hs2:=hs.same sH;refine c o H' S (.d d) v (Ex.of_same sH) hs2 (ziI (zam (h:=h) (o:=[])) (fun b m=>?_) d v q.1 hy) q.2;exact m.elim (hs2.hal b) (hs2.oam b)
 ·exact q.elim
theorem zpP{ps:List Str}{q:PN}{m:Nat}{t:TA}{da:DA}(ha:RA t da)(hm:ps.length=m:=by rfl):RE (zgu (spN ps q) [] E0 t) (zlq m q da):=fun h o H δ σ S R Q he hs w c =>
 ha h o H δ σ S _ _ he hs w fun o1 H1 S1 xs vs e1 s1 x1 ⟨ds,e,hl,d1⟩=>by
  obtain⟨z1,z2⟩:=zuP s1 e x1;rw [append_nil];exact⟨by rw [z2,hl,hm],h,[],[],_,_,zvh s1,z1,d1,cnV s1 (c.pre e1)⟩
end
section
def zsl(K:W.Frag):List V->Hp->VK->Prop:=fun xs H Q=>zun K xs H Q\/∃ z,xs=[.str z]/\z.length<=sizeLine/\Q (.int z.length) H
theorem zae{X:Cx}:CallR X (.builtin "len") (zsl X.K):=zfu.or zjh
def zoH(S:Sto):XV->Option Nat
 | .d (.tuple ds)=>some ds.length
 | .d (.list ds)=>some ds.length
 | .l k=>(S[k]?).map List.length
 | .d (.str z)=>if z.length<=sizeLine then some z.length else none
 | _=>none
def zcu:List XV->Sto->RX->Prop:=fun xs S R=>arg1 xs fun x=>∃ n,zoH S x=some n/\R (.d (.int n)) S
theorem zeq{K:W.Frag}:RC (zsl K) zcu:=fun h o H S xs vs R Q hs hx q c=>by
 obtain⟨x,rfl,n,hd,q1⟩:=za0 q;unfold zoH at hd;split at hd
 ·cases hd;exact .inl (znH h o H S _ vs R Q hs hx ⟨_,rfl,q1⟩ c)
 ·cases hd;exact .inl (znH h o H S _ vs R Q hs hx ⟨_,rfl,q1⟩ c)
 ·rename_i k;cases hk:S[k]? with
  | none=>rw [hk] at hd; cases hd
  | some ds =>
   rw [hk] at hd;cases hd;exact .inl (znH h o H S _ vs R Q hs hx ⟨ds,hk,q1⟩ c)
 ·split at hd
  ·rename_i hz;cases hd;obtain⟨v,rfl,hx1⟩:=hxs1 hx;exact .inr ⟨_,by rw [zdO hx1],hz,c o H S _ _ Ex.refl hs (xI _) q1⟩
  ·cases hd
 ·cases hd
section
variable {S:Sto} {ds:List PyData} {k:Nat} {z:Str}
theorem znb:zoH S (.d (.tuple ds))=some ds.length:=rfl
theorem zpX:zoH S (.d (.list ds))=some ds.length:=rfl
theorem zqo:zoH S (.l k)=(S[k]?).map List.length:=rfl
end
def zu6(neg:Bool):R2:=fun x y H Q=>∃ d e ds,Has H d x/\Has H e y/\SeqAt.shaped d=true/\SeqAt.shaped (.list ds)=true/\(e=.list ds\/e=.tuple ds)/\Q (.bl (if neg then !ds.any (fun y=>PyData.eqv y d) else ds.any (fun y=>PyData.eqv y d))) H
theorem zhs{ds:List PyData}(h:SeqAt.shaped (.list ds)=true):PyData.canLayAll0 ds=true/\PyData.depthAll ds<=63:=by
 have h1:=SeqAt.canLay_of_shaped h;have h2:=SeqAt.depth_of_shaped h;simp only [PyData.canLay0,PyData.depth] at h1 h2;exact⟨h1,by omega⟩
theorem zmS{X:Cx}(hu:X.A.units+64<cLine):OpR X (compareOp .NotIn) (zu6 true):=by
 intro zj s σ H x y v u Q I rx ry h;obtain⟨d,e,ds,hd,he,sd,se,ee,q⟩:=h;obtain⟨s1,s2⟩:=zhs se;obtain⟨as,q1⟩:=Has.reads I d x v hd (SeqAt.canLay_of_shaped sd) rx;have hm:X.A.units+1+min (PyData.depthAll ds) d.depth<cLine:=by
  have:=Nat.min_le_left (PyData.depthAll ds) d.depth;omega
 rcases ee with rfl | rfl
 ·obtain⟨bs,q2⟩:=Has.reads I (.list ds) y u he (by simpa only [PyData.canLay0] using s1) ry;exact SeqAt.notIn_list_reads q2 q1 s1 (SeqAt.canLay_of_shaped sd) hm ⟨.bl _,H,I,rfl,q⟩
 ·obtain⟨bs,q2⟩:=Has.reads I (.tuple ds) y u he (by simpa only [PyData.canLay0] using s1) ry;exact SeqAt.notIn_tuple_reads q2 q1 s1 (SeqAt.canLay_of_shaped sd) hm ⟨.bl _,H,I,rfl,q⟩
def znk:R2:=fun x y H Q=>zu6 true x y H Q\/∃ i j,x=.str i/\y=.str j/\Q (.bl (!(!(Builtin.Str.occurrences j i 0 j.length 1).isEmpty))) H
theorem zml{X:Cx}(hu:X.A.units+64<cLine):OpR X (compareOp .NotIn) znk:=(zmS hu).or zjU
def zkO:D2:=fun x y S R=>match y with
 | .d (.str b)=>asS x fun a=>R (.d (.bool (!(!(Builtin.Str.occurrences b a 0 b.length 1).isEmpty)))) S
 | y=>∃ d,zdQ S x=some d/\∃ ds,asQ S y=some ds/\SeqAt.shaped d=true/\SeqAt.shaped (.list ds)=true/\R (.d (.bool (!ds.any fun y=>PyData.eqv y d))) S
theorem zq3{h o:List Addr}{H:Hp}{S:Sto}{x:XV}{v:V}{ds:List PyData}(hs:RepS h o H S)(e:asQ S x=some ds)(q:HasX h o H x v):∃ e,Has H e v/\(e=.list ds\/e=.tuple ds):=by
 unfold asQ at e;split at e
 ·cases e; exact⟨_,zb7 (x:=.d _) hs rfl q,.inr rfl⟩
 ·cases e; exact⟨_,zb7 (x:=.d _) hs rfl q,.inl rfl⟩
 ·rename_i k;exact⟨.list ds,zb7 (x:=.l k) hs (by show (S[k]?).map PyData.list=_; rw [e]; rfl) q,.inl rfl⟩
 ·cases e
theorem zpw:RO znk zkO:=fun h o H S x y v u R Q hs hx hy q c=>by
 unfold zkO at q;split at q
 ·replace q:=znJ q;obtain⟨a,rfl,q⟩:=q;exact .inr ⟨_,_,zdO hx,zdO hy,c o H S _ _ Ex.refl hs (xB _) q⟩
 ·obtain⟨d,e1,ds,e2,s1,s2,q⟩:=q;obtain⟨e,he,ee⟩:=zq3 hs e2 hy;exact .inl ⟨d,e,ds,zb7 hs e1 hx,he,s1,s2,ee,c o H S _ _ Ex.refl hs (xB _) q⟩
section
variable {S:Sto} {ds:List PyData} {k:Nat} {a b:Str} {x:XV} {R:RX}
theorem zkI:zkO x (.d (.tuple ds)) S R↔∃ d,zdQ S x=some d/\SeqAt.shaped d=true/\SeqAt.shaped (.list ds)=true/\R (.d (.bool (!ds.any fun y=>PyData.eqv y d))) S:=⟨fun⟨d,e,_,e',q⟩=>by cases e'; exact⟨d,e,q⟩,fun⟨d,e,q⟩=>⟨d,e,_,rfl,q⟩⟩
end
section
variable {X:Cx} {elts:List Expr} {n:Nat} {tpos:Pos}
def zqV(K:W.Frag)(ta:TA):TI:=fun σ H R=>ta σ H fun vs H1=>∃ a,vs=[.ref a]/\(((∃ xs,SqT K H1 a xs)/\R (Ite (SqT K) a) H1)\/((∃ xs,SqL K H1 a xs)/\R (Ite (SqL K) a) H1))
theorem zoQ{a:Expr}{ta:TA}{p pos:Pos}(hg:Gl X "enumerate")(hm:X.mg "enumerate" = none)(ha:PA X [a] ta)(hs:starEach [a] X.env=[(false,eval a X.env)]:=by rfl):PI X (.Tuple elts n tpos) (.Call (.Name "enumerate" p) [a] [] pos) (zqV X.K ta):=by
 intro zj s σ H R I h;refine Call_ (zdS I hg hm zgZ (PyProof.Rows.callWith_type1 (thn (ha pos zj s σ H _ I h) fun us s1 ⟨vs,H1,I1,r1,q1⟩=>?_) hs rfl));obtain⟨b,e,⟨⟨xs,hq⟩,q⟩ | ⟨⟨xs,hq⟩,q⟩⟩:=q1
 ·subst e;cases r1 with
  | cons r rr =>
   cases rr;cases r;obtain⟨its,rv,pl,hz⟩:=I1.tuple hq;refine zio (show s1.heap.IsTuple b its.toArray from pl) fun g he hj k=>?_;refine wpAny_pyIter_enum (s:={ s1 with heap:=g }) he ?_
   have I2:Inv X zj σ H1 { s1 with heap:=g }:=I1.kept (t':=s1.toks) k;refine⟨s1.heap.objs.size+1,[s1.heap.objs.size+1,s1.heap.objs.size],_,_,H1,rfl,I2,zlW b _ _ (succ_ne_self _),⟨⟨_,he⟩,hj⟩,fun c hc=>?_,q⟩;rcases mem_cons.mp hc with rfl | hc
   ·exact I1.fpOk (le_succ _) (I1.hok.fresh (le_succ _))
   ·rw [mem_singleton.mp hc];exact I1.fpOk (le_refl _) (I1.hok.fresh (le_refl _))
 ·subst e;cases r1 with
  | cons r rr =>
   cases rr;cases r;obtain⟨its,rv,pl,hz⟩:=I1.list hq;refine call_enumerate_list pl.isList fun g he hj _ k=>?_;refine wpAny_pyIter_enum (s:={ s1 with heap:=g }) he ?_
   have I2:Inv X zj σ H1 { s1 with heap:=g }:=I1.kept (t':=s1.toks) k;refine⟨s1.heap.objs.size+1,[s1.heap.objs.size+1,s1.heap.objs.size],_,_,H1,rfl,I2,zlF b _ _ (succ_ne_self _),⟨⟨_,he⟩,hj⟩,fun c hc=>?_,q⟩;rcases mem_cons.mp hc with rfl | hc
   ·exact I1.fpOk (le_succ _) (I1.hok.fresh (le_succ _))
   ·rw [mem_singleton.mp hc];exact I1.fpOk (le_refl _) (I1.hok.fresh (le_refl _))
end
def zib(a:DA):DI:=fun δ S R=>a δ S fun xs S1=>arg1 xs fun x=>∃ ds,zjW x=some ds/\R (zhU 0 ds) S1
theorem zoM{K:W.Frag}{ta:TA}{da:DA}(ha:RA ta da):RI (zqV K ta) (zib da):=fun h o H δ σ S R Q he hs q c =>
 ha h o H δ σ S _ _ he hs q fun o1 H1 S1 xs vs e1 s1 x1 d0=>by
  obtain⟨x,rfl,ds,hd,d1⟩:=za0 d0;obtain⟨v,rfl,hv⟩:=hxs1 x1;have core:∀ {Sq:Hp->Addr->List V->Prop} {a:Addr} {ws:List V},(∀ {o2 H2},ExH h o1 H1 o2 H2->Sq H2 a ws)->HasL (vx h o1 H1) ds ws->WalkX h o1 H1 (Ite Sq a) (zhU 0 ds):=by
   intro Sq a ws ea' l;have hl:=l.length;refine⟨fun i o2 H2 e2 hi=>⟨ws,ea' e2,by rw [zcF] at hi; omega⟩,fun i d o2 H2 e2 hi=>?_,fun i d o2 H2 x H3 S2 e2 s2 hi y=>?_⟩
   ·obtain⟨e,h1,rfl⟩:=zeO ds 0 i d hi;obtain⟨u,eu,_⟩:=l.get h1;exact⟨ws,u,ea' e2,eu⟩
   ·obtain⟨e,h1,rfl⟩:=zeO ds 0 i d hi;obtain⟨u,eu,hu⟩:=l.get h1;obtain⟨p,v,hp,rfl,rfl,hy⟩:=y;have ev:=hy ws (ea' e2);rw [eu] at ev;cases ev;refine⟨Same.laid hp,zaw.mpr ⟨p,_,rfl,s2.laid hp,zA.mpr ⟨_,_,rfl,?_,zA.mpr ⟨_,_,rfl,(hu.mono e2.vx).mono (zeh (Same.laid hp)),zJ.mpr rfl⟩⟩⟩⟩;rw [zero_add];exact zbR.mpr rfl
  unfold zjW at hd;split at hd
  ·cases hd;obtain⟨a,ws,rfl,ea,l⟩:=zbb.mp (show Has (vx h o1 H1) (.list ds) v from hv);exact⟨a,rfl,.inr ⟨⟨ws,.of (zam _ _ ea)⟩,c o1 H1 S1 _ _ e1 s1 (core (fun e2=>.of (zam _ _ (e2.vx _ _ ea))) l) d1⟩⟩
  ·cases hd;obtain⟨a,ws,rfl,ea,l⟩:=zaw.mp (show Has (vx h o1 H1) (.tuple ds) v from hv);exact⟨a,rfl,.inl ⟨⟨ws,.of (zam _ _ ea)⟩,c o1 H1 S1 _ _ e1 s1 (core (fun e2=>.of (zam _ _ (e2.vx _ _ ea))) l) d1⟩⟩
  ·cases hd
def zud:XV->List XV->Sto->RX->Prop:=fun x xs S R=>∃ k,x=.l k/\∃ ds,S[k]? = some ds/\xs=[]/\∃ d,ds[ds.length - 1]? = some d/\R (.d d) (S.set k ds.dropLast)
theorem HasL.dropLast{H:Hp}:∀ {ds:List PyData} {vs:List V},HasL H ds vs->HasL H ds.dropLast vs.dropLast
 | [],vs,l=>by rw [zJ.mp l]; exact zJ.mpr rfl
 | [d],vs,l=>by
  obtain⟨v,r,rfl,_,l⟩:=zA.mp l;rw [zJ.mp l];exact zJ.mpr rfl
 | d :: e :: ds,vs,l=>by
  obtain⟨v,r,rfl,hv,l⟩:=zA.mp l;obtain⟨w,r,rfl,hw,l'⟩:=zA.mp l;rw [List.dropLast_cons₂,List.dropLast_cons₂];exact zA.mpr ⟨v,_,rfl,hv,HasL.dropLast l⟩
theorem zsK:RM zuS zud:=fun h o H S x v xs vs R Q hs hx hxs q c=>by
 obtain⟨k,rfl,ds,e,rfl,d,ed,q1⟩:=q;obtain⟨a,ea,rfl⟩:=hx;obtain⟨ws,ew,l⟩:=hs.cont k a ds ea e;cases hxs;obtain⟨y,ey,hy⟩:=l.get ed;exact⟨a,ws,y,rfl,rfl,ew,by rw [l.length]; exact ey,c o _ _ (.d d) _ (Ex.upd ea) (hs.upd ea l.dropLast) (HasX.mono (x:=.d d) (Ex.upd ea) hy) q1⟩
def zua(rd:XV->List XV->Sto->RX->Prop)(e:DE)(a:DA):DE:=fun δ S R=>e δ S fun x S1=>∃ z,x=.d (.str z)/\a δ S1 fun xs S2=>rd x xs S2 R
theorem zqG{K:W.Frag}{r:V->List V->Hp->VK->Prop}{rd:XV->List XV->Sto->RX->Prop}{te:TE}{de:DE}{tl:TA}{dl:DA}(hr:RM r rd)(he':RE te de)(ha:RA tl dl):RE (tBM K "str" r te tl) (zua rd de dl):=fun h o H δ σ S R Q he hs q c =>
 he' h o H δ σ S _ _ he hs q fun o1 H1 S1 x v e1 s1 x1 ⟨z,ez,d1⟩=>by
  subst ez;cases zdO x1;exact⟨rfl,ha h o1 H1 δ σ S1 _ _ (he.mono e1) s1 d1 fun o2 H2 S2 xs vs e2 s2 x2 d2=>hr h o2 H2 S2 (.d (.str z)) _ xs vs R Q s2 (HasX.mono (x:=.d (.str z)) e2 x1) x2 d2 (c.pre (e1.trans e2))⟩
theorem zhp{H:Hp}:∀ {ns:List Str} {vs:List V},HasL H (ns.map PyData.str) vs->vs=ns.map V.str
 | [],vs,h=>zJ.mp h
 | n :: ns,vs,h=>by
  obtain⟨v,r,rfl,h1,h2⟩:=zA.mp h;rw [zdN.mp h1,zhp h2];rfl
def zpv:XV->List XV->Sto->RX->Prop:=fun x xs S R=>asS x fun z=>arg1 xs fun y=>∃ ds,zj0 S y=some ds/\∃ zs:List Str,ds=zs.map PyData.str/\z.length<=16/\zs.length<=1000/\(∀ y∈zs,y.length<=1000)/\R (.d (.str (PySem.Txt.join z zs))) S
theorem zoB{K:W.Frag}:RM (zte K) zpv:=fun h o H S x v xs vs R Q hs hx hxs q c=>by
 replace q:=znJ q;obtain⟨z,rfl,q⟩:=q;obtain⟨y,rfl,ds,e,zs,rfl,h1,h2,h3,q1⟩:=za0 q;obtain⟨u,rfl,hu⟩:=hxs1 hxs;obtain⟨a,ws,rfl,ea,l⟩:=zbn hs e hu;rw [zhp l] at ea;exact⟨z,a,zs,zdO hx,rfl,.of ea,h1,h2,h3,c o H S _ _ Ex.refl hs (xS _) q1⟩
def zpO:D2:=fun x y S R=>asL S x fun ds=>asL S y fun es=>ds.length+es.length<=1000/\R (.l S.length) (S++[ds++es])
theorem zrj:RO zsF zpO:=fun h o H S x y v u R Q hs hx hy q c=>by
 obtain⟨ds,e0,es,e1,hl,q⟩:=q;obtain⟨a,vs,rfl,ea,la⟩:=zbn hs e0 hx;obtain⟨b,us,rfl,eb,lb⟩:=zbn hs e1 hy;exact⟨a,b,vs,us,rfl,rfl,ea,eb,by rw [la.length,lb.length]; exact le_of_lt (small1000 hl),zrU hs (la.append lb) c q⟩
def znW:V->List V->Hp->VK->Prop:=fun x vs H Q=>∃ (d:PyData) (ds:List PyData) (j:Nat),Has H (.list ds) x/\(∃ v,vs=[v]/\Has H d v)/\SeqAt.shaped d=true/\SeqAt.shaped (.list ds)=true/\ds.length<=1000/\(∃ e,ds[j]? = some e/\PyData.eqv e d=true)/\(∀ m e,m<j->ds[m]? = some e->PyData.eqv e d=false)/\Q (.int j) H
theorem zjk{X:Cx}(hu:X.A.units+64<cLine):MtR X "list.index" znW:=by
 intro zj s σ H x vs v us Q I rx rv h;obtain⟨d,ds,j,hl,⟨y,rfl,hy⟩,sd,se,h1000,⟨e,ej,he⟩,hno,q⟩:=h;obtain⟨s1,s2⟩:=zhs se;obtain⟨u,rfl,r1⟩:=rv.one;obtain⟨as,q1⟩:=Has.reads I d y u hy (SeqAt.canLay_of_shaped sd) r1;obtain⟨bs,q2⟩:=Has.reads I (.list ds) x v hl (by simpa only [PyData.canLay0] using s1) rx;have hm:X.A.units+1+min (PyData.depthAll ds) d.depth<cLine:=by
  have:=Nat.min_le_left (PyData.depthAll ds) d.depth;omega
 cases q2 with
 | @list l o vs n xs as₁ h1 h2 h3 h4 =>
  have hn:vs.size=ds.length:=by simpa using SeqAt.ReadsAll.length _ _ _ h4
  have hmap:=SeqAt.readsAll_map _ _ _ s1 h4;have hget:∀ (m:Nat) (hm:m<vs.size) e,ds[m]? = some e->SeqAt.readOf s.heap vs[m]=e:=fun m hm e h=>by
   rw [<- hmap,getElem?_map] at h;have:vs.toList[m]? = some vs[m]:=by simp [hm]
   rw [this] at h;exact Option.some.inj h
  have hj:j<vs.size:=by rw [hn]; exact(List.getElem?_eq_some_iff.mp ej).1
  obtain⟨cls,dd,data,sl⟩:=o;simp only at h2 h3;subst h2 h3;refine call_meets PySem.F.slot_list_index ⟨_,h1,rfl⟩ PySem.F.entry_list_index (PySem.F.args_list_index_2 _ _)
   (SeqAt.list_indexAt l vs n dd sl u (fun y=>PyData.eqv (SeqAt.readOf s.heap y) d) j hj (by omega) ?_ ?_) ⟨h1,SeqAt.items_eqAt h4 q1 s1 (SeqAt.canLay_of_shaped sd) hm,⟨.int j,H,I.tok _,⟨_,rfl⟩,q⟩⟩
  ·show PyData.eqv (SeqAt.readOf s.heap vs[j]) d=true;rw [hget j hj e ej]; exact he
  ·intro m hm hlt;show PyData.eqv (SeqAt.readOf s.heap vs[m]) d=false;have em:ds[m]? = some ds[m]:=getElem?_eq_getElem (by omega);rw [hget m hm _ em]; exact hno m _ hlt em
def zjn:XV->List XV->Sto->RX->Prop:=fun x xs S R=>arg1 xs fun y=>∃ d,zdQ S y=some d/\∃ ds,zj0 S x=some ds/\SeqAt.shaped d=true/\SeqAt.shaped (.list ds)=true/\ds.length<=1000/\∃ j,(∃ e,ds[j]? = some e/\PyData.eqv e d=true)/\(∀ m e,m<j->ds[m]? = some e->PyData.eqv e d=false)/\R (.d (.int (j:Nat))) S
theorem ziW:RM znW zjn:=fun h o H S x v xs vs R Q hs hx hxs q c=>by
 obtain⟨y,rfl,d,e1,ds,e2,s1,s2,h1,j,h2,h3,q1⟩:=za0 q;obtain⟨u,rfl,hu⟩:=hxs1 hxs;have hl:Has H (.list ds) v:=zb7 (x:=x) hs (by
  unfold zj0 at e2;split at e2
  ·cases e2; rfl
  ·rename_i k; show (S[k]?).map PyData.list=_; rw [e2]; rfl
  ·cases e2) hx
 exact⟨d,ds,j,hl,⟨u,rfl,zb7 hs e1 hu⟩,s1,s2,h1,h2,h3,c o H S _ _ Ex.refl hs (xI _) q1⟩
def zsa(rd:XV->List XV->Sto->RX->Prop)(e:DE)(a:DA):DE:=fun δ S R=>e δ S fun x S1=>∃ ds,zj0 S1 x=some ds/\a δ S1 fun xs S2=>rd x xs S2 R
theorem zkW{K:W.Frag}{r:V->List V->Hp->VK->Prop}{rd:XV->List XV->Sto->RX->Prop}{te:TE}{de:DE}{tl:TA}{dl:DA}(hr:RM r rd)(he':RE te de)(ha:RA tl dl):RE (tBM K "list" r te tl) (zsa rd de dl):=fun h o H δ σ S R Q he hs q c =>
 he' h o H δ σ S _ _ he hs q fun o1 H1 S1 x v e1 s1 x1 ⟨ds,ez,d1⟩=>by
  obtain⟨a,ws,rfl,ea,_⟩:=zbn s1 ez x1;exact⟨zh9 ea,ha h o1 H1 δ σ S1 _ _ (he.mono e1) s1 d1 fun o2 H2 S2 xs vs e2 s2 x2 d2=>hr h o2 H2 S2 x _ xs vs R Q s2 (x1.mono e2) x2 d2 (c.pre (e1.trans e2))⟩
end
section
open Sem (wp)
def ItK(t:Bool)(h:Heap)(j a:Addr)(k:Nat):Prop:=match t with
 | true=>h.IsTupleIter j a k
 | false=>h.IsListIter j a k
def SqK(t:Bool)(h:Heap)(a:Addr)(xs:Array Value):Prop:=match t with
 | true=>h.IsTuple a xs
 | false=>h.IsList a xs
theorem ItK.at{t:Bool}{h g:Heap}{j a:Addr}{k:Nat}(q:ItK t h j a k)(f:∀ o,h.get? j=some o->g.get? j=some o):ItK t g j a k:=by
 cases t
 ·exact Heap.IsListIter.at (show h.IsListIter j a k from q) f
 ·exact Heap.IsTupleIter.at (show h.IsTupleIter j a k from q) f
theorem ItK.here{t:Bool}{h:Heap}{j a:Addr}{k:Nat}(q:ItK t h j a k):∃ o,h.get? j=some o/\∀ v,o.data≠.cell v:=by
 cases t <;> (obtain⟨o,e,c,d⟩:=q; exact⟨o,e,fun v z=>by rw [d] at z; cases z⟩)
theorem SqK.at{t:Bool}{h g:Heap}{a:Addr}{xs:Array Value}(q:SqK t h a xs)(f:∀ o,h.get? a=some o->g.get? a=some o):SqK t g a xs:=by
 cases t <;> (obtain⟨o,e,r⟩:=q; exact⟨o,f o e,r⟩)
theorem SqK.here{t:Bool}{h:Heap}{a:Addr}{xs:Array Value}(q:SqK t h a xs):∃ o,h.get? a=some o:=by
 cases t <;> (obtain⟨o,e,r⟩:=q; exact⟨o,e⟩)
section
variable {prog:Program} {w:World} {A:Around} {E:Value->Shared->Prop} {s:Shared}
theorem zrf{t:Bool}{j a:Addr}{k:Nat}{xs:Array Value}{x:Value}{Q:Value->Shared->Prop}(hj:ItK t s.heap j a k)(ha:SqK t s.heap a xs)(hx:xs[k]? = some x)
  (hQ:∀ g,ItK t g j a (k+1)->Heap.SameBut j s.heap g->Q x { s with heap:=g }):wpAny (model prog w) A (Builtin.SmallTypes.nextOf (.ref j)) Q E s:=by
 cases t
 ·exact wpAny_nextOf_list_item hj ha hx hQ
 ·exact zhk hj ha hx hQ
theorem zjm{t:Bool}{j a:Addr}{k:Nat}{xs:Array Value}{Q:Value->Shared->Prop}(hh:A.handled=none)(hj:ItK t s.heap j a k)(ha:SqK t s.heap a xs)(hx:xs[k]? = none)
  (hE:∀ g e,Heap.ExtBut j s.heap g->(∃ o,g.get? e=some o/\o.cls=.type "StopIteration")->E (.ref e) { s with heap:=g }):wpAny (model prog w) A (Builtin.SmallTypes.nextOf (.ref j)) Q E s:=by
 cases t
 ·exact wpAny_nextOf_list_end hh hj ha hx hE
 ·exact zeb hh hj ha hx hE
theorem zsq{t:Bool}{a:Addr}{xs:Array Value}{Q:Value->Shared->Prop}(ha:SqK t s.heap a xs)(hQ:Q (.ref s.heap.objs.size) { s with heap:=s.heap.push { cls:=.type (if t then "tuple_iterator" else "list_iterator"),data:=.fields #[.ref a,.int 0 0] } }):wpAny (model prog w) A (pyIter (.ref a)) Q E s:=by
 cases t
 ·exact wpAny_pyIter_list ha hQ
 ·exact wpAny_pyIter_tuple ha hQ
theorem zmH{T:Addr}{c d x:Value}{k:Nat}{Q:Unit->Shared->Prop}(hT:IsPair s.heap T c d)(hQ:∀ g,g.get? T=some { cls:=.type "tuple",data:=.seq ((#[c,d]:Array Value).setIfInBounds k x) }->Heap.SameBut T s.heap g->Q () { s with heap:=g }):
  wpAny (model prog w) A (updateSeq T (·.setIfInBounds k x)) Q E s:=wpAny_updateSeq_pair hT hQ
structure ZAp(z p r i j a b:Addr):Prop where
 pz:p≠z
 rz:r≠z
 iz:i≠z
 jz:j≠z
 pr:p≠r
 pi:p≠i
 pj:p≠j
 ri:r≠i
 rj:r≠j
 ij:i≠j
 az:a≠z
 ar:a≠r
 ai:a≠i
 aj:a≠j
 bz:b≠z
 br:b≠r
 bi:b≠i
 bj:b≠j
theorem znu{t u:Bool}{z p r i j a b:Addr}{k m:Nat}{xs ys:Array Value}{x y c d:Value}{Q:Value->Shared->Prop}(D:ZAp z p r i j a b)(hz:IsZip s.heap z p r .none)(hp:IsPair s.heap p (.ref i) (.ref j))(hr:IsPair s.heap r c d)
  (hi:ItK t s.heap i a k) (hj:ItK u s.heap j b m) (ha:SqK t s.heap a xs) (hb:SqK u s.heap b ys) (hx:xs[k]? = some x) (hy:ys[m]? = some y)
  (hQ:∀ g,IsZip g z p r (rawInt s.heap.objs.size)->IsPair g r x y->ItK t g i a (k+1)->ItK u g j b (m+1)->IsPair g s.heap.objs.size x y ->
   (∀ q o,q≠z->q≠r->q≠i->q≠j->s.heap.get? q=some o->g.get? q=some o)->Q (.ref s.heap.objs.size) { s with heap:=g }) :
  wpAny (model prog w) A (Builtin.«zip.__next__» ⟨[.ref z],[]⟩) (fun fn s'=>∃ v,fn=.done (.ret v)/\Q v s') E s:=by
 obtain⟨h0,gs,dr,tk,os⟩:=s;show wpAny _ _ (field (.ref z) 2 >>= _) _ _ ⟨h0,gs,dr,tk,os⟩;refine wpAny_bind (wpAny_field hz rfl (x:=.bool false) rfl ?_);show wpAny _ _ (field (.ref z) 3 >>= _) _ _ ⟨h0,gs,dr,tk,os⟩;refine wpAny_bind (wpAny_field hz rfl (x:=.ref p) rfl (wpAny_bind (wpAny_seqItems hp rfl ?_)));show wpAny _ _ (Builtin.SmallTypes.ownedTupleIsFree (.ref z) >>= _) _ _ ⟨h0,gs,dr,tk,os⟩;refine wpAny_bind ?_;unfold Builtin.SmallTypes.ownedTupleIsFree;refine wpAny_bind (wpAny_field hz rfl (x:=.none) rfl (wpAny_pure ?_));simp only [if_true];refine wpAny_bind (wpAny_rule (wpAny_bind (wpAny_field hz rfl (x:=.ref r) rfl (wpAny_bind (wpAny_setField_rec hz (by simp) fun g1 z1 b1=>?_)))));replace z1:IsZip g1 z p r .ellipsis:=z1;replace b1:Heap.SameBut z h0 g1:=b1;refine wpAny_bind ?_;simp only [List.zipIdx_cons,List.zipIdx_nil,forIn_cons,List.forIn_nil];refine wpAny_bind (wpAny_bind (wpAny_onRaise ?_));show wpAny _ _ (Builtin.SmallTypes.nextOf (.ref i) >>= _) _ _ ⟨g1,gs,dr,tk,os⟩;refine wpAny_bind (zrf (s:=⟨g1,gs,dr,tk,os⟩) (hi.at fun o e=>b1.extBut i o D.iz e) (ha.at fun o e=>b1.extBut a o D.az e) hx fun g2 i2 b2=>wpAny_pure ?_);replace b2:Heap.SameBut i g1 g2:=b2;have r2:IsPair g2 r c d:=b2.extBut r _ D.ri (b1.extBut r _ D.rz hr);refine wpAny_bind (wpAny_seqItems (s:=⟨g2,gs,dr,tk,os⟩) r2 rfl (wpAny_bind (zmH (s:=⟨g2,gs,dr,tk,os⟩) r2 fun g3 r3 b3=>?_)));replace r3:IsPair g3 r x d:=r3;replace b3:Heap.SameBut r g2 g3:=b3;refine wpAny_bind (wpAny_letGo (wpAny_pure (wpAny_bind (wpAny_bind (wpAny_onRaise ?_)))));show wpAny _ _ (Builtin.SmallTypes.nextOf (.ref j) >>= _) _ _ ⟨g3,gs,dr,tk,os⟩;have k13:∀ q o,q≠z->q≠r->q≠i->h0.get? q=some o->g3.get? q=some o:=fun q o n1 n2 n3 e=>b3.extBut q o n2 (b2.extBut q o n3 (b1.extBut q o n1 e));refine wpAny_bind (zrf (s:=⟨g3,gs,dr,tk,os⟩) (hj.at fun o e=>k13 j o D.jz (Ne.symm D.rj) (Ne.symm D.ij) e) (hb.at fun o e=>k13 b o D.bz D.br D.bi e) hy fun g4 j4 b4=>wpAny_pure ?_);replace b4:Heap.SameBut j g3 g4:=b4;have r4:IsPair g4 r x d:=b4.extBut r _ D.rj r3;refine wpAny_bind (wpAny_seqItems (s:=⟨g4,gs,dr,tk,os⟩) r4 rfl (wpAny_bind (zmH (s:=⟨g4,gs,dr,tk,os⟩) r4 fun g5 r5 b5=>?_)));replace r5:IsPair g5 r x y:=r5;replace b5:Heap.SameBut r g4 g5:=b5;refine wpAny_bind (wpAny_letGo (wpAny_pure (wpAny_pure (wpAny_bind (wpAny_seqItems (s:=⟨g5,gs,dr,tk,os⟩) r5 rfl (wpAny_bind (wpAny_newTuple ?_)))))));have sz:g5.objs.size=h0.objs.size:=by rw [b5.1,b4.1,b3.1,b2.1,b1.1]
 have z5:IsZip g5 z p r .ellipsis:=b5.extBut z _ (Ne.symm D.rz) (b4.extBut z _ (Ne.symm D.jz) (b3.extBut z _ (Ne.symm D.rz) (b2.extBut z _ (Ne.symm D.iz) z1)));have k5:∀ q o,q≠z->q≠r->q≠i->q≠j->h0.get? q=some o->g5.get? q=some o:=fun q o n1 n2 n3 n4 e=>b5.extBut q o n2 (b4.extBut q o n4 (k13 q o n1 n2 n3 e));have i5:ItK t g5 i a (k+1):=ItK.at i2 fun o e=>b5.extBut i o (Ne.symm D.ri) (b4.extBut i o D.ij (b3.extBut i o (Ne.symm D.ri) e));have j5:ItK u g5 j b (m+1):=ItK.at j4 fun o e=>b5.extBut j o (Ne.symm D.rj) e;have zl:z<g5.objs.size:=lt_size z5;show wpAny _ _ (Builtin.SmallTypes.ownedTupleHandOut (.ref z) (.ref g5.objs.size) >>= _) _ _ _;refine wpAny_bind ?_;unfold Builtin.SmallTypes.ownedTupleHandOut;have z6:IsZip (g5.push { cls:=.type "tuple",data:=.seq #[x,y] }) z p r .ellipsis:=get?_push_of_some _ z5;refine wpAny_bind (wpAny_setField_rec z6 (by simp) fun g7 z7 b7=>?_);replace z7:IsZip g7 z p r (rawInt g5.objs.size):=z7;replace b7:Heap.SameBut z (g5.push { cls:=.type "tuple",data:=.seq #[x,y] }) g7:=b7;refine wpAny_setField_rec z7 (by simp) fun g8 z8 b8=>?_;replace z8:IsZip g8 z p r (rawInt g5.objs.size):=z8;replace b8:Heap.SameBut z g7 g8:=b8;have up:∀ q o,q≠z->g5.get? q=some o->g8.get? q=some o:=fun q o n e=>b8.extBut q o n (b7.extBut q o n (get?_push_of_some _ e));have t8:IsPair g8 g5.objs.size x y:=b8.extBut _ _ (ne_of_gt zl) (b7.extBut _ _ (ne_of_gt zl) (get?_push_size _ rfl));rw [sz] at z8 t8;refine wpAny_pure ⟨_,rfl,?_⟩;show Q (.ref g5.objs.size) _;rw [sz];exact hQ g8 z8 (up r _ D.rz r5) (i5.at fun o e=>up i o D.iz e) (j5.at fun o e=>up j o D.jz e) t8 fun q o n1 n2 n3 n4 e=>up q o n1 (k5 q o n1 n2 n3 n4 e)
theorem znG{t u:Bool}{z p r i j a b:Addr}{k m:Nat}{xs ys:Array Value}{c d:Value}{Q:Fin->Shared->Prop}(hh:A.handled=none)(D:ZAp z p r i j a b)(hz:IsZip s.heap z p r .none)(hp:IsPair s.heap p (.ref i) (.ref j))(hr:IsPair s.heap r c d)
  (hi:ItK t s.heap i a k) (hj:ItK u s.heap j b m) (ha:SqK t s.heap a xs) (hb:SqK u s.heap b ys) (hend:xs[k]? = none\/ys[m]? = none)
  (hE:∀ g e,(∀ q o,q≠z->q≠r->q≠i->q≠j->s.heap.get? q=some o->g.get? q=some o)->(∃ o,g.get? e=some o/\o.cls=.type "StopIteration")->E (.ref e) { s with heap:=g }) :
  wpAny (model prog w) A (Builtin.«zip.__next__» ⟨[.ref z],[]⟩) Q E s:=by
 obtain⟨h0,gs,dr,tk,os⟩:=s;show wpAny _ _ (field (.ref z) 2 >>= _) _ _ ⟨h0,gs,dr,tk,os⟩;refine wpAny_bind (wpAny_field hz rfl (x:=.bool false) rfl ?_);show wpAny _ _ (field (.ref z) 3 >>= _) _ _ ⟨h0,gs,dr,tk,os⟩;refine wpAny_bind (wpAny_field hz rfl (x:=.ref p) rfl (wpAny_bind (wpAny_seqItems hp rfl ?_)));show wpAny _ _ (Builtin.SmallTypes.ownedTupleIsFree (.ref z) >>= _) _ _ ⟨h0,gs,dr,tk,os⟩;refine wpAny_bind ?_;unfold Builtin.SmallTypes.ownedTupleIsFree;refine wpAny_bind (wpAny_field hz rfl (x:=.none) rfl (wpAny_pure ?_));simp only [if_true];refine wpAny_bind (wpAny_rule (wpAny_bind (wpAny_field hz rfl (x:=.ref r) rfl (wpAny_bind (wpAny_setField_rec hz (by simp) fun g1 z1 b1=>?_)))));replace z1:IsZip g1 z p r .ellipsis:=z1;replace b1:Heap.SameBut z h0 g1:=b1;refine wpAny_bind ?_;simp only [List.zipIdx_cons,List.zipIdx_nil,forIn_cons,List.forIn_nil];refine wpAny_bind (wpAny_bind (wpAny_onRaise ?_));show wpAny _ _ (Builtin.SmallTypes.nextOf (.ref i) >>= _) _ _ ⟨g1,gs,dr,tk,os⟩;have notz:∀ {g:Heap} {e:Addr} {o:Obj},IsZip g z p r .ellipsis->g.get? e=some o->o.cls=.type "StopIteration"->e≠z:=fun h1 h2 h3 w=>by
  subst w;rw [h1] at h2;cases h2;simp at h3
 cases hx:xs[k]? with
 | none =>
  refine wpAny_bind (zjm (s:=⟨g1,gs,dr,tk,os⟩) hh (hi.at fun o e=>b1.extBut i o D.iz e) (ha.at fun o e=>b1.extBut a o D.az e) hx fun g2 e b2 he=>?_);obtain⟨oe,e1,e2⟩:=he;have z2:IsZip g2 z p r .ellipsis:=b2 z _ (Ne.symm D.iz) z1;exact wpAny_setField_rec z2 (by simp) fun g3 _ b3=>hE g3 e (fun q o n1 _ n3 _ w=>b3.extBut q o n1 (b2 q o n3 (b1.extBut q o n1 w))) ⟨oe,b3.extBut e oe (notz z2 e1 e2) e1,e2⟩
 | some x =>
  have hy:ys[m]? = none:=hend.elim (fun w=>by rw [hx] at w; cases w) id;refine wpAny_bind (zrf (s:=⟨g1,gs,dr,tk,os⟩) (hi.at fun o e=>b1.extBut i o D.iz e) (ha.at fun o e=>b1.extBut a o D.az e) hx fun g2 i2 b2=>wpAny_pure ?_);replace b2:Heap.SameBut i g1 g2:=b2;have r2:IsPair g2 r c d:=b2.extBut r _ D.ri (b1.extBut r _ D.rz hr);refine wpAny_bind (wpAny_seqItems (s:=⟨g2,gs,dr,tk,os⟩) r2 rfl (wpAny_bind (zmH (s:=⟨g2,gs,dr,tk,os⟩) r2 fun g3 r3 b3=>?_)));replace b3:Heap.SameBut r g2 g3:=b3;refine wpAny_bind (wpAny_letGo (wpAny_pure (wpAny_bind (wpAny_bind (wpAny_onRaise ?_)))));show wpAny _ _ (Builtin.SmallTypes.nextOf (.ref j) >>= _) _ _ ⟨g3,gs,dr,tk,os⟩;have k13:∀ q o,q≠z->q≠r->q≠i->h0.get? q=some o->g3.get? q=some o:=fun q o n1 n2 n3 e=>b3.extBut q o n2 (b2.extBut q o n3 (b1.extBut q o n1 e));refine wpAny_bind (zjm (s:=⟨g3,gs,dr,tk,os⟩) hh (hj.at fun o e=>k13 j o D.jz (Ne.symm D.rj) (Ne.symm D.ij) e) (hb.at fun o e=>k13 b o D.bz D.br D.bi e) hy fun g4 e b4 he=>?_);obtain⟨oe,e1,e2⟩:=he;have z4:IsZip g4 z p r .ellipsis:=b4 z _ (Ne.symm D.jz) (b3.extBut z _ (Ne.symm D.rz) (b2.extBut z _ (Ne.symm D.iz) z1));exact wpAny_setField_rec z4 (by simp) fun g5 _ b5=>hE g5 e (fun q o n1 n2 n3 n4 w=>b5.extBut q o n1 (b4 q o n4 (k13 q o n1 n2 n3 w))) ⟨oe,b5.extBut e oe (notz z4 e1 e2) e1,e2⟩
abbrev zpA (t:Bool) (h:Heap) (a:Addr):Heap:=h.push { cls:=.type (if t then "tuple_iterator" else "list_iterator"),data:=.fields #[.ref a,.int 0 0] }
abbrev zpB (t u:Bool) (h:Heap) (a b:Addr):Heap:=(zpA t h a).push { cls:=.type (if u then "tuple_iterator" else "list_iterator"),data:=.fields #[.ref b,.int 0 0] }
abbrev zpC (t u:Bool) (h:Heap) (a b:Addr):Heap:=(zpB t u h a b).push { cls:=.type "tuple",data:=.seq #[.ref h.objs.size,.ref (zpA t h a).objs.size] }
abbrev zpD (t u:Bool) (h:Heap) (a b:Addr):Heap:=(zpC t u h a b).push { cls:=.type "tuple",data:=.seq #[.none,.none] }
abbrev zpE (t u:Bool) (h:Heap) (a b:Addr):Heap:=(zpD t u h a b).push { cls:=.type "zip",data:=.fields #[.none,.bool false,.bool false,.ref (zpB t u h a b).objs.size,.ref (zpC t u h a b).objs.size] }
theorem zrt(t u:Bool)(a b:Addr)(xs ys:Array Value):Meets (Builtin.«zip.__new__» ⟨[.type "zip",.ref a,.ref b],[]⟩) (fun _ R s=>SqK t s.heap a xs/\SqK u s.heap b ys /\
   ∀ g,IsZip g (s.heap.objs.size+4) (s.heap.objs.size+2) (s.heap.objs.size+3) .none->IsPair g (s.heap.objs.size+2) (.ref s.heap.objs.size) (.ref (s.heap.objs.size+1))->IsPair g (s.heap.objs.size+3) .none .none ->
    ItK t g s.heap.objs.size a 0->ItK u g (s.heap.objs.size+1) b 0->(∀ q o,s.heap.get? q=some o->g.get? q=some o)->R (.ok (.ret (.ref (s.heap.objs.size+4)))) { s with heap:=g }) :=
 .of_wp fun prog w A R s hyp=>by
  obtain⟨g0,gs,dr,tk,os⟩:=s;obtain⟨ha,hb,hyp⟩:=hyp;have sub:=sub_zip;have hA:SqK t (Shared.heap ⟨g0,gs,dr,tk,os⟩) a xs:=ha;have hB:SqK u (Shared.heap ⟨g0.push { cls:=.type (if t then "tuple_iterator" else "list_iterator"),data:=.fields #[.ref a,.int 0 0] },gs,dr,tk,os⟩) b ys:=SqK.at hb fun o e=>get?_push_of_some _ e
  wp_walk using zsq hA,zsq hB
  refine⟨_,rfl,?_⟩;have z1:(zpA t g0 a).objs.size=g0.objs.size+1:=size_push ..;have z2:(zpB t u g0 a b).objs.size=g0.objs.size+2:=by rw [size_push,z1]
  have z3:(zpC t u g0 a b).objs.size=g0.objs.size+3:=by rw [size_push,z2]
  have z4:(zpD t u g0 a b).objs.size=g0.objs.size+4:=by rw [size_push,z3]
  have f1:=get?_push_size g0 (o:={ cls:=.type (if t then "tuple_iterator" else "list_iterator"),data:=.fields #[.ref a,.int 0 0] }) (by cases t <;> rfl);have f2:=get?_push_size (zpA t g0 a) (o:={ cls:=.type (if u then "tuple_iterator" else "list_iterator"),data:=.fields #[.ref b,.int 0 0] }) (by cases u <;> rfl);have f3:=get?_push_size (zpB t u g0 a b) (o:={ cls:=.type "tuple",data:=.seq #[.ref g0.objs.size,.ref (zpA t g0 a).objs.size] }) rfl;have f4:=get?_push_size (zpC t u g0 a b) (o:={ cls:=.type "tuple",data:=.seq #[.none,.none] }) rfl;have f5:=get?_push_size (zpD t u g0 a b) (o:={ cls:=.type "zip",data:=.fields #[.none,.bool false,.bool false,.ref (zpB t u g0 a b).objs.size,.ref (zpC t u g0 a b).objs.size] }) rfl;have c1:∀ q o,g0.get? q=some o->(zpA t g0 a).get? q=some o:=fun q o e=>get?_push_of_some _ e;have c2:∀ q o,(zpA t g0 a).get? q=some o->(zpB t u g0 a b).get? q=some o:=fun q o e=>get?_push_of_some _ e;have c3:∀ q o,(zpB t u g0 a b).get? q=some o->(zpC t u g0 a b).get? q=some o:=fun q o e=>get?_push_of_some _ e;have c4:∀ q o,(zpC t u g0 a b).get? q=some o->(zpD t u g0 a b).get? q=some o:=fun q o e=>get?_push_of_some _ e;have c5:∀ q o,(zpD t u g0 a b).get? q=some o->(zpE t u g0 a b).get? q=some o:=fun q o e=>get?_push_of_some _ e;have y1:=c5 _ _ (c4 _ _ (c3 _ _ (c2 _ _ f1)));have y2:=c5 _ _ (c4 _ _ (c3 _ _ f2));have y3:=c5 _ _ (c4 _ _ f3);have y4:=c5 _ _ f4;have y5:(zpE t u g0 a b).get? (zpD t u g0 a b).objs.size=some { cls:=.type "zip",data:=.fields #[.none,.bool false,.bool false,.ref (zpB t u g0 a b).objs.size,.ref (zpC t u g0 a b).objs.size] }:=f5;have fin:R (.ok (.ret (.ref (zpD t u g0 a b).objs.size))) ⟨zpE t u g0 a b,gs,dr,tk,os⟩:=by
   rw [z4,z2,z3] at y5;rw [z2,z1] at y3;rw [z3] at y4;rw [z1] at y2;rw [z4];refine hyp _ y5 y3 y4 ?_ ?_ fun q o e=>c5 q o (c4 q o (c3 q o (c2 q o (c1 q o e))))
   ·cases t <;> exact⟨_,y1,rfl,rfl⟩
   ·cases u <;> exact⟨_,y2,rfl,rfl⟩
  exact fin
theorem zm9{t u:Bool}{a b:Addr}{xs ys:Array Value}{Q:Value->Shared->Prop}(ha:SqK t s.heap a xs)(hb:SqK u s.heap b ys)
  (hyp:∀ g,IsZip g (s.heap.objs.size+4) (s.heap.objs.size+2) (s.heap.objs.size+3) .none->IsPair g (s.heap.objs.size+2) (.ref s.heap.objs.size) (.ref (s.heap.objs.size+1))->IsPair g (s.heap.objs.size+3) .none .none ->
    ItK t g s.heap.objs.size a 0->ItK u g (s.heap.objs.size+1) b 0->(∀ q o,s.heap.get? q=some o->g.get? q=some o)->Q (.ref (s.heap.objs.size+4)) { s with heap:=g }):wpAny (model prog w) A (call (.type "zip") [.ref a,.ref b]) Q E s:=by
 refine callType_new F.called_zip dz (F.typeCall_zip_2 _ _) (F.newCall_zip_2 _ _) (fun ob=>F.args_object_init_3 ob _ _) F.entry_zip_new (zrt t u a b xs ys) ⟨ha,hb,fun g h1 h2 h3 h4 h5 h6=>?_⟩;exact⟨⟨_,h1,rfl⟩,hyp g h1 h2 h3 h4 h5 h6⟩
end
def Itz(S1 S2:Hp->Addr->List V->Prop)(a b:Addr):It :=
 ⟨fun i H=>∃ xs ys x y,S1 H a xs/\S2 H b ys/\xs[i]? = some x/\ys[i]? = some y,fun i H x H'=>∃ p v u,H p=none/\x=.ref p/\H'=upd H p (.tup [v,u])/\(∀ xs,S1 H a xs->xs[i]? = some v)/\(∀ ys,S2 H b ys->ys[i]? = some u),fun i H=>∃ xs ys,S1 H a xs/\S2 H b ys/\(xs.length<=i\/ys.length<=i)⟩
def SqV(K:W.Frag)(t:Bool)(H:Hp)(a:Addr)(xs:List V):Prop:=match t with
 | true=>SqT K H a xs
 | false=>SqL K H a xs
theorem Inv.seqK{X:Cx}{zj:List (Addr×Obj)}{σ:St}{H:Hp}{s:Shared}{t:Bool}{a:Addr}{xs:List V}(I:Inv X zj σ H s)(h:SqV X.K t H a xs):∃ its:List Value,Vals xs its/\SqK t s.heap a its.toArray/\∀ ys,SqV X.K t H a ys->ys=xs:=by
 cases t
 ·obtain⟨its,rv,p,_⟩:=I.list h;exact⟨its,rv,p.isList,fun ys hy=>I.list_inj hy h⟩
 ·obtain⟨its,rv,p,_⟩:=I.tuple h;exact⟨its,rv,p,fun ys hy=>I.tuple_inj hy h⟩
theorem zoF{P:Program}{w:World}{K:W.Frag}{elts:List Expr}{n:Nat}{pos:Pos}(t u:Bool)(z p r i j a b:Addr)(D:ZAp z p r i j a b):Turn P w K (.Tuple elts n pos) (Itz (SqV K t) (SqV K u) a b) [z,p,r,i,j] z
  (fun k h=>IsZip h z p r .none/\IsPair h p (.ref i) (.ref j)/\(∃ c d,IsPair h r c d)/\ItK t h i a k/\ItK u h j b k) where
 mem:=by simp
 obj:=fun k h ⟨h1,h2,⟨c,d,h3⟩,h4,h5⟩ q hq=>by
  simp only [mem_cons,not_mem_nil,or_false] at hq;rcases hq with rfl | rfl | rfl | rfl | rfl
  ·exact⟨_,h1,fun v e=>by cases (show Data.fields _=Data.cell v from e)⟩
  ·exact⟨_,h2,fun v e=>by cases (show Data.seq _ _=Data.cell v from e)⟩
  ·exact⟨_,h3,fun v e=>by cases (show Data.seq _ _=Data.cell v from e)⟩
  ·exact h4.here
  ·exact h5.here
 keep:=fun k h h' ⟨h1,h2,⟨c,d,h3⟩,h4,h5⟩ f=>⟨f z (by simp) _ h1,f p (by simp) _ h2,⟨c,d,f r (by simp) _ h3⟩,h4.at fun o e=>f i (by simp) o e,h5.at fun o e=>f j (by simp) o e⟩
 item:=by
  intro X hP hw hK hc k zj s σ H E I hf st hg;subst hP hw hK;obtain⟨xs,ys,x,y,q1,q2,ex,ey⟩:=hg;obtain⟨its,rv,sq,inj⟩:=I.seqK q1;obtain⟨its2,rv2,sq2,inj2⟩:=I.seqK q2;obtain⟨v1,e1,r1⟩:=rv.get ex;obtain⟨v2,e2,r2⟩:=rv2.get ey;obtain⟨h1,h2,⟨c,d,h3⟩,h4,h5⟩:=st;have ty:s.TypeIs (.ref z) "zip":=⟨_,h1,rfl⟩;unfold pyNext;refine wpAny_bind (wpAny_attempt (wpAny_callSpecial?_slot (name:=Str.ofString "__next__") ty F.slot_zip_next (wpAny_call_entry F.slot_zip_next ty F.entry_zip_next
   (znu D h1 h2 h3 h4 h5 sq sq2 (by simpa using e1) (by simpa using e2) fun g a1 a2 a3 a4 a5 kk=>wpAny_pure ⟨_,rfl,?_⟩) (F.args_zip_next_1 _))))
  refine wpAny_letOwnedTupleGo_zip (s:={ s with heap:=g }) a1 fun g' z' b'=>?_;have lt:∀ {q o},s.heap.get? q=some o->s.heap.objs.size≠q:=fun e=>ne_of_gt (lt_size e);have b'':Heap.SameBut z g g':=b';have pT:IsPair g' s.heap.objs.size v1 v2:=b''.extBut _ _ (lt h1) a5;have hn:=I.hok.fresh (le_refl s.heap.objs.size);have kk':∀ q o,q∉[z,r,i,j]->s.heap.get? q=some o->g'.get? q=some o:=fun q o hq e=>by
   simp only [mem_cons,not_mem_nil,or_false,not_or] at hq;exact b''.extBut q o hq.1 (kk q o hq.1 hq.2.1 hq.2.2.1 hq.2.2.2 e)
  have I1:Inv X zj σ (upd H s.heap.objs.size (.tup [x,y])) { s with heap:=g' }:=I.turnLaid (t':=s.toks) (ch:=[z,r,i,j]) kk' (fun q hq=>hf q (by
   simp only [mem_cons,not_mem_nil,or_false] at hq ⊢;rcases hq with h | h | h | h
   ·exact .inl h
   ·exact .inr (.inr (.inl h))
   ·exact .inr (.inr (.inr (.inl h)))
   ·exact .inr (.inr (.inr (.inr h))))) (le_refl _) ⟨⟨by show 2<=sizeLine; decide,_,pT,rfl⟩,[v1,v2],.cons r1 (.cons r2 .nil),⟨_,pT,rfl,_,rfl⟩⟩
  have fresh:∀ q,q∈[z,p,r,i,j]->q≠s.heap.objs.size:=fun q hq w=>by
   simp only [mem_cons,not_mem_nil,or_false] at hq;obtain⟨o1,w1,_⟩:=h4.here;obtain⟨o2,w2,_⟩:=h5.here;rcases hq with h | h | h | h | h
   ·exact lt h1 (w.symm.trans h)
   ·exact lt h2 (w.symm.trans h)
   ·exact lt h3 (w.symm.trans h)
   ·exact lt w1 (w.symm.trans h)
   ·exact lt w2 (w.symm.trans h)
  refine⟨.ref s.heap.objs.size,_,I1,rfl,⟨_,x,y,hn,rfl,rfl,fun zs hz=>by rw [inj zs hz]; exact ex,fun zs hz=>by rw [inj2 zs hz]; exact ey⟩,⟨z',kk' p _ (by simp [D.pz,D.pr,D.pi,D.pj]) h2,⟨_,_,b''.extBut r _ D.rz a2⟩,a3.at fun o e=>b''.extBut i o D.iz e,a4.at fun o e=>b''.extBut j o D.jz e⟩,fun q hq=>?_⟩;rw [zO (fresh q hq)];exact(hf q hq).1
 done:=by
  intro X hP hw hK hc k zj s σ H E I hf st hg;subst hP hw hK;obtain⟨xs,ys,q1,q2,hl⟩:=hg;obtain⟨its,rv,sq,inj⟩:=I.seqK q1;obtain⟨its2,rv2,sq2,inj2⟩:=I.seqK q2;obtain⟨h1,h2,⟨c,d,h3⟩,h4,h5⟩:=st;have l1:=rv.length;have l2:=rv2.length;have ty:s.TypeIs (.ref z) "zip":=⟨_,h1,rfl⟩;unfold pyNext;refine wpAny_bind (wpAny_attempt (wpAny_callSpecial?_slot (name:=Str.ofString "__next__") ty F.slot_zip_next (wpAny_call_entry F.slot_zip_next ty F.entry_zip_next
   (znG (I.ok.hd hc) D h1 h2 h3 h4 h5 sq sq2 (hl.elim (fun h=>.inl (by simp; omega)) fun h=>.inr (by simp; omega)) fun g e kk he=>?_) (F.args_zip_next_1 _))))
  obtain⟨o,ho,hc'⟩:=he;refine wpAny_bind (wpAny_isInstance (T:="StopIteration") (b:=true) ⟨o,ho,hc'⟩ isSubtype_stop (wpAny_pure ⟨rfl,?_⟩));refine I.turnedN (t':=s.toks) (ch:=[z,r,i,j]) (fun q o hq e=>?_) fun q hq=>hf q (by
   simp only [mem_cons,not_mem_nil,or_false] at hq ⊢;rcases hq with h | h | h | h
   ·exact .inl h
   ·exact .inr (.inr (.inl h))
   ·exact .inr (.inr (.inr (.inl h)))
   ·exact .inr (.inr (.inr (.inr h))))
  simp only [mem_cons,not_mem_nil,or_false,not_or] at hq;exact kk q o hq.1 hq.2.1 hq.2.2.1 hq.2.2.2 e
 self:=fun _ _ _ _ _ st h=>wpAny_pyIter_zip st.1 h
theorem nne{a b:Nat}(h:a<b\/b<a):(show Addr from a)≠(show Addr from b):=fun e=>by
 have e':a=b:=e;omega
theorem zth(N a b:Nat)(ha:a<N)(hb:b<N):ZAp (N+4) (N+2) (N+3) N (N+1) a b:=by
 constructor <;> exact nne (by omega)
theorem zqY(N q:Nat)(hq:q=N+4\/q=N+2\/q=N+3\/q=N\/q=N+1):N<=q:=by omega
section
variable {X:Cx} {elts:List Expr} {n:Nat} {tpos:Pos}
theorem zoI:bootBuiltins "zip" = some (.type "zip"):=by decide +kernel
def ztO(K:W.Frag)(ta:TA):TI:=fun σ H R=>ta σ H fun vs H1=>∃ a b t u,vs=[.ref a,.ref b]/\(∃ xs,SqV K t H1 a xs)/\(∃ ys,SqV K u H1 b ys)/\R (Itz (SqV K t) (SqV K u) a b) H1
theorem zjZ{e1 e2:Expr}{ta:TA}{p pos:Pos}(hg:Gl X "zip")(hm:X.mg "zip" = none)(ha:PA X [e1,e2] ta)(hs:starEach [e1,e2] X.env=[(false,eval e1 X.env),(false,eval e2 X.env)]:=by rfl)(hs2:starEach [e2] X.env=[(false,eval e2 X.env)]:=by rfl):
  PI X (.Tuple elts n tpos) (.Call (.Name "zip" p) [e1,e2] [] pos) (ztO X.K ta):=by
 intro zj s σ H R I h;refine Call_ (zdS I hg hm zoI (PyProof.Rows.callWith_type1 (thn (ha pos zj s σ H _ I h) fun us s1 ⟨vs,H1,I1,r1,q1⟩=>?_) (by rw [hs,hs2]) (by rw [hs2]; rfl)));obtain⟨a,b,t,u,e,⟨xs,q1⟩,⟨ys,q2⟩,q⟩:=q1;subst e;cases r1 with
 | cons r rr =>
  cases rr with
  | cons r' rr =>
   cases rr;cases r;cases r';obtain⟨its,rv,sq,_⟩:=I1.seqK q1;obtain⟨its2,rv2,sq2,_⟩:=I1.seqK q2;refine zm9 sq sq2 fun g h1 h2 h3 h4 h5 k=>?_;refine wpAny_pyIter_zip (s:={ s1 with heap:=g }) h1 ?_
   have I2:Inv X zj σ H1 { s1 with heap:=g }:=I1.kept (t':=s1.toks) k;obtain⟨oa,fa⟩:=sq.here;obtain⟨ob,fb⟩:=sq2.here;have la:=lt_size fa;have lb:=lt_size fb;have D:ZAp (s1.heap.objs.size+4) (s1.heap.objs.size+2) (s1.heap.objs.size+3) s1.heap.objs.size (s1.heap.objs.size+1) a b:=zth _ _ _ la lb;refine⟨_,[s1.heap.objs.size+4,s1.heap.objs.size+2,s1.heap.objs.size+3,s1.heap.objs.size,s1.heap.objs.size+1],_,_,H1,rfl,I2,zoF t u _ _ _ _ _ a b D,⟨h1,h2,⟨_,_,h3⟩,h4,h5⟩,fun q hq=>?_,q⟩;have hl:s1.heap.objs.size<=q:=by
    simp only [mem_cons,not_mem_nil,or_false] at hq;exact zqY _ _ hq
   exact I1.fpOk hl (I1.hok.fresh hl)
end
def zjX:List PyData->List PyData->List PyData
 | d :: ds,e :: es=>.tuple [d,e] :: zjX ds es
 | _,_=>[]
theorem zh2:∀ (ds es:List PyData) (k:Nat) (x:PyData),(zjX ds es)[k]? = some x->∃ d e,ds[k]? = some d/\es[k]? = some e/\x=.tuple [d,e]
 | [],_,_,_,h=>by simp [zjX] at h
 | _ :: _,[],_,_,h=>by simp [zjX] at h
 | d :: ds,e :: es,0,x,h=>by
  have e':PyData.tuple [d,e]=x:=by simpa [zjX] using h
  exact⟨d,e,rfl,rfl,e'.symm⟩
 | d :: ds,e :: es,k+1,x,h=>by
  obtain⟨d',e',h1,h2,h3⟩:=zh2 ds es k x (by simpa [zjX] using h);exact⟨d',e',by simpa using h1,by simpa using h2,h3⟩
theorem zld:∀ (ds es:List PyData),(zjX ds es).length=min ds.length es.length
 | [],_=>by simp [zjX]
 | _ :: _,[]=>by simp [zjX]
 | d :: ds,e :: es=>by simp [zjX,zld ds es]; try omega
theorem zeP{α β:Type}(f:α->PyData)(g:β->PyData):∀ (xs:List α) (ys:List β),zjX (xs.map f) (ys.map g)=(xs.zip ys).map fun q=>.tuple [f q.1,g q.2]
 | [],_=>by simp [zjX]
 | _ :: _,[]=>by simp [zjX]
 | x :: xs,y :: ys=>by simp [zjX,zeP f g xs ys]
def zhm(a:DA):DI:=fun δ S R=>a δ S fun xs S1=>arg2 xs fun x y=>∃ ds,zjW x=some ds/\∃ es,zjW y=some es/\R (zjX ds es) S1
theorem zkH{K:W.Frag}{h o:List Addr}{H:Hp}{x:XV}{v:V}{ds:List PyData}(e:zjW x=some ds)(q:HasX h o H x v):∃ t a ws,v=.ref a/\HasL (vx h o H) ds ws/\∀ {o2 H2},ExH h o H o2 H2->SqV K t H2 a ws:=by
 unfold zjW at e;split at e
 ·cases e;obtain⟨a,ws,rfl,ea,l⟩:=zbb.mp (show Has (vx h o H) (.list ds) v from q);exact⟨false,a,ws,rfl,l,fun e2=>(SqL.of (zam _ _ (e2.vx _ _ ea)):SqL K _ a ws)⟩
 ·cases e;obtain⟨a,ws,rfl,ea,l⟩:=zaw.mp (show Has (vx h o H) (.tuple ds) v from q);exact⟨true,a,ws,rfl,l,fun e2=>(SqT.of (zam _ _ (e2.vx _ _ ea)):SqT K _ a ws)⟩
 ·cases e
theorem zkz{K:W.Frag}{ta:TA}{da:DA}(ha:RA ta da):RI (ztO K ta) (zhm da):=fun h o H δ σ S R Q he hs q c =>
 ha h o H δ σ S _ _ he hs q fun o1 H1 S1 xs vs e1 s1 x1 d0=>by
  obtain⟨x,y,rfl,ds,hd,es,hes,d1⟩:=zil d0;obtain⟨v,u,rfl,hv,hu⟩:=hxs2 x1;obtain⟨t,a,ws,rfl,l,k1⟩:=zkH (K:=K) hd hv;obtain⟨t',b,zs,rfl,l',k2⟩:=zkH (K:=K) hes hu;have hl:=l.length;have hl':=l'.length;refine⟨a,b,t,t',rfl,⟨ws,k1 ExH.refl⟩,⟨zs,k2 ExH.refl⟩,c o1 H1 S1 _ _ e1 s1 ⟨fun i o2 H2 e2 hi=>⟨ws,zs,k1 e2,k2 e2,by rw [zld] at hi; omega⟩,fun i d o2 H2 e2 hi=>?_,fun i d o2 H2 x H3 S2 e2 s2 hi y=>?_⟩ d1⟩
  ·obtain⟨d',e',h1,h2,rfl⟩:=zh2 ds es i d hi;obtain⟨u1,eu1,_⟩:=l.get h1;obtain⟨u2,eu2,_⟩:=l'.get h2;exact⟨ws,zs,u1,u2,k1 e2,k2 e2,eu1,eu2⟩
  ·obtain⟨d',e',h1,h2,rfl⟩:=zh2 ds es i d hi;obtain⟨u1,eu1,hu1⟩:=l.get h1;obtain⟨u2,eu2,hu2⟩:=l'.get h2;obtain⟨p,v,u,hp,rfl,rfl,y1,y2⟩:=y;have f1:=y1 ws (k1 e2);have f2:=y2 zs (k2 e2);rw [eu1] at f1;rw [eu2] at f2;cases f1;cases f2;exact⟨Same.laid hp,zaw.mpr ⟨p,_,rfl,s2.laid hp,zA.mpr ⟨_,_,rfl,(hu1.mono e2.vx).mono (zeh (Same.laid hp)),zA.mpr ⟨_,_,rfl,(hu2.mono e2.vx).mono (zeh (Same.laid hp)),zJ.mpr rfl⟩⟩⟩⟩
end
section
open Sem (wp)
section
variable {prog:Program} {w:World} {A:Around} {R:Result->Shared->Prop} {I:Addr} {fp wr:List Addr} {n:Nat} {P:Nat->Value->Prop} {St:Nat->Heap->Prop}
def CmpH(prog:Program)(w:World)(A:Around)(g:Heap)(own:List Addr)(P:Nat->Value->Prop)(bt:Nat->Nat->Bool):Prop :=
 ∀ i j x y (s:Shared) (Q:Value->Shared->Prop) (E:Value->Shared->Prop),(∀ b o,b∉own->g.get? b=some o->s.heap.get? b=some o)->P i x->P j y->Q (.bool (bt i j)) s->wpAny (model prog w) A (richCompare .Lt x y) Q E s
theorem znM(W:Walks prog w A.in1 I fp wr n P St)(bt:Nat->Nat->Bool){g:Heap}(S:Addr)(cm:CmpH prog w A.in1 g (S :: wr) P bt)(nS:S∉fp):∀ (d j:Nat) (s:Shared) (best:Value) (c:Nat),n=j+1+d->(∀ b o,b∉S :: wr->g.get? b=some o->s.heap.get? b=some o)->St (j+1) s.heap->P (argBest bt j) best ->
   s.heap.get? S=some { cls:=.type "list",dict:=none,data:=.seq #[best,best] c,slots:=#[] } ->
   (∀ v h' tk,P (argBest bt (n - 1)) v->(∀ b o,b∉S :: wr->s.heap.get? b=some o->h'.get? b=some o)->R (.ok (.ret v)) { s with heap:=h',toks:=tk })->codeAny (model prog w) A (.builtin "min.loop" ⟨[.ref I,.none,.ref S],[]⟩) R s:=by
 have nw:S∉wr:=fun m=>nS (W.sub _ m);have nm:(toString "min" ++ toString ".loop":String) = "min.loop":=by decide
 intro d;induction d with
 | zero =>
  intro j s best c hd kg st hb hS fin;have hj:j+1=n:=by omega
  refine codeAny_builtin F.entry_min_loop ?_;rw [Around.under_plainId F.plain_min_loop _];show wpAny _ A.in1 (seqItems? (.ref S) >>= _) _ _ s;refine wpAny_bind (wpAny_seqItems hS rfl ?_);show wpAny _ A.in1 (tryCatch (pyNext (.ref I)) _ >>= _) _ _ s;refine wpAny_bind (wpAny_tryCatch (W.done s _ _ (by rw [<- hj]; exact st) fun h1 t1 k1=>?_));have hS1:=k1 S _ nw hS;show wpAny _ A.in1 (updateSeq S (fun _=>#[]) >>= _) _ _ _;refine wpAny_bind (wpAny_updateSeq hS1 rfl (wpAny_bind (wpAny_letGo (wpAny_pure (fin best _ t1 (by rw [<- hj]; exact hb) fun b o hn e=>?_)))));rw [mem_cons,not_or] at hn;exact(get?_update_other _ _ (Ne.symm hn.1)).trans (k1 b o hn.2 e)
 | succ d ih =>
  intro j s best c hd kg st hb hS fin;refine codeAny_builtin F.entry_min_loop ?_;rw [Around.under_plainId F.plain_min_loop _];show wpAny _ A.in1 (seqItems? (.ref S) >>= _) _ _ s;refine wpAny_bind (wpAny_seqItems hS rfl ?_);show wpAny _ A.in1 (tryCatch (pyNext (.ref I)) _ >>= _) _ _ s;refine wpAny_bind (wpAny_tryCatch (W.item (j+1) s _ _ (by omega) st fun x h1 t1 hx st1 k1=>?_));have hS1:=k1 S _ nw hS;have kg1:∀ b o,b∉S :: wr->g.get? b=some o->h1.get? b=some o:=fun b o hn e=>k1 b o (fun m=>hn (mem_cons_of_mem _ m)) (kg b o hn e);show wpAny _ A.in1 (tryCatch (holding [x,x] (richCompare .Lt x best >>= _)) _ >>= _) _ _ _;refine wpAny_bind (wpAny_tryCatch (wpAny_holding (wpAny_bind (cm (j+1) (argBest bt j) x best _ _ _ kg1 hx hb (wpAny_bind (wpAny_holding (wpAny_truthy_bool (wpAny_bind (wpAny_letGo (wpAny_pure ?_)))))))))) ;cases ht:bt (j+1) (argBest bt j) with
  | true =>
   simp only [if_true];refine wpAny_bind (wpAny_updateSeq hS1 rfl (wpAny_bind (wpAny_letGo ?_)));rw [nm];have keep:∀ b o,b∉S :: wr->s.heap.get? b=some o->(h1.update S (Obj.mapSeq fun _=>#[x,x])).get? b=some o:=fun b o hn e=>by
    rw [mem_cons,not_or] at hn;exact(get?_update_other _ _ (Ne.symm hn.1)).trans (k1 b o hn.2 e)
   refine wpAny_pure ⟨plainId_quiet F.plain_min_loop _,ih (j+1) _ x _ (by omega) (fun b o hn e=>keep b o hn (kg b o hn e)) (W.frame _ _ _ st1 fun b m o e=>?_) (by simp only [argBest,ht,if_true]; exact hx) (get?_update_self _ hS1 rfl) fun v h2 t2 hv k2=>fin v h2 t2 hv fun b o hn e=>k2 b o hn (keep b o hn e)⟩;exact(get?_update_other _ _ (fun z:S=b=>nS (by rw [z]; exact m))).trans e
  | false =>
   simp only [Bool.false_eq_true,if_false];refine wpAny_bind (wpAny_letGo ?_);rw [nm];exact wpAny_pure ⟨plainId_quiet F.plain_min_loop _,ih (j+1) _ best c (by omega) kg1 st1 (by simp only [argBest,ht,Bool.false_eq_true,if_false]; exact hb) hS1 fun v h2 t2 hv k2=>fin v h2 t2 hv fun b o hn e=>k2 b o hn (k1 b o (fun m=>hn (mem_cons_of_mem _ m)) e)⟩
theorem zlY(W:Walks prog w A.in1 I fp wr n P St)(bt:Nat->Nat->Bool)(S:Addr)(nS:S∉fp)(hn:0<n){s:Shared}{c:Nat}(cm:CmpH prog w A.in1 s.heap (S :: wr) P bt)(st:St 0 s.heap)(hS:s.heap.get? S=some { cls:=.type "list",dict:=none,data:=.seq #[] c,slots:=#[] })
  (fin:∀ v h' tk,P (argBest bt (n - 1)) v->(∀ b o,b∉S :: wr->s.heap.get? b=some o->h'.get? b=some o)->R (.ok (.ret v)) { s with heap:=h',toks:=tk }):codeAny (model prog w) A (.builtin "min.loop" ⟨[.ref I,.none,.ref S],[]⟩) R s:=by
 have nw:S∉wr:=fun m=>nS (W.sub _ m);have nm:(toString "min" ++ toString ".loop":String) = "min.loop":=by decide
 refine codeAny_builtin F.entry_min_loop ?_;rw [Around.under_plainId F.plain_min_loop _];show wpAny _ A.in1 (seqItems? (.ref S) >>= _) _ _ s;refine wpAny_bind (wpAny_seqItems hS rfl ?_);show wpAny _ A.in1 (tryCatch (pyNext (.ref I)) _ >>= _) _ _ s;refine wpAny_bind (wpAny_tryCatch (W.item 0 s _ _ hn st fun x h1 t1 hx st1 k1=>?_));have hS1:=k1 S _ nw hS;show wpAny _ A.in1 (updateSeq S (fun _=>#[x,x]) >>= _) _ _ _;refine wpAny_bind (wpAny_updateSeq hS1 rfl ?_);rw [nm];have keep:∀ b o,b∉S :: wr->s.heap.get? b=some o->(h1.update S (Obj.mapSeq fun _=>#[x,x])).get? b=some o:=fun b o hn e=>by
  rw [mem_cons,not_or] at hn;exact(get?_update_other _ _ (Ne.symm hn.1)).trans (k1 b o hn.2 e)
 refine wpAny_pure ⟨plainId_quiet F.plain_min_loop _,znM W bt S cm nS (n - 1) 0 _ x _ (by omega) keep (W.frame _ _ _ st1 fun b m o e=>?_) hx (get?_update_self _ hS1 rfl) fun v h2 t2 hv k2=>fin v h2 t2 hv fun b o hn e=>k2 b o hn (keep b o hn e)⟩;exact(get?_update_other _ _ (fun z:S=b=>nS (by rw [z]; exact m))).trans e
end
section
variable {prog:Program} {w:World} {A:Around} {E:Value->Shared->Prop} {s:Shared}
theorem zot{l:Addr}{its:Array Value}{Q:Value->Shared->Prop}(hh:A.handled=none)(hl:s.heap.IsList l its)(hne:0<its.size)(bt:Nat->Nat->Bool)
  (cm:∀ i j x y (s':Shared) (Q:Value->Shared->Prop) (E:Value->Shared->Prop),(∀ b o,s.heap.get? b=some o->s'.heap.get? b=some o)->its[i]? = some x->its[j]? = some y->Q (.bool (bt i j)) s'->wpAny (model prog w) A.in1 (richCompare .Lt x y) Q E s')
  (fin:∀ v h' tk,its[argBest bt (its.size - 1)]? = some v->(∀ b o,s.heap.get? b=some o->h'.get? b=some o)->Q v { s with heap:=h',toks:=tk }):wpAny (model prog w) A (call (.builtin "min") [.ref l]) Q E s:=by
 have nm:(toString "min" ++ toString ".loop":String) = "min.loop":=by decide
 have lt:l<s.heap.objs.size:=by obtain⟨o,e,_⟩:=hl; exact lt_size e
 refine call_function_tree F.kind_min F.plain_min F.entry_min (F.args_min1 _) ?_;show wpAny _ A.in1 (Builtin.Builtins.bindParams "min" ["key","default"] 0 ⟨[],[]⟩ >>= _) _ _ s;refine wpAny_bind (wpAny_of_eq (show Builtin.Builtins.bindParams "min" ["key","default"] 0 ⟨[],[]⟩=pure [none,none] from rfl) (wpAny_bind (wpAny_pure (wpAny_bind (wpAny_pyIter_list hl ?_)))));refine wpAny_bind (wpAny_newObj_type ?_);rw [nm];have z1:(s.heap.push { cls:=.type "list_iterator",data:=.fields #[.ref l,.int 0 0] }).objs.size=s.heap.objs.size+1:=size_push ..;have nS:(s.heap.push { cls:=.type "list_iterator",data:=.fields #[.ref l,.int 0 0] }).objs.size∉[s.heap.objs.size,l]:=by
  rw [z1];simp only [mem_cons,not_mem_nil,or_false,not_or];exact⟨succ_ne_self _,ne_of_gt (Nat.lt_succ_of_lt lt)⟩
 have up:∀ b o,s.heap.get? b=some o->((s.heap.push { cls:=.type "list_iterator",data:=.fields #[.ref l,.int 0 0] }).push { cls:=.type "list",data:=.seq #[] }).get? b=some o:=fun b o e=>get?_push_of_some _ (get?_push_of_some _ e);have old:∀ b o,s.heap.get? b=some o->b∉(s.heap.push { cls:=.type "list_iterator",data:=.fields #[.ref l,.int 0 0] }).objs.size :: [s.heap.objs.size]:=fun b o e=>by
  rw [z1];simp only [mem_cons,not_mem_nil,or_false,not_or];have:=lt_size e;exact⟨ne_of_lt (Nat.lt_succ_of_lt this),ne_of_lt this⟩
 refine wpAny_pure ⟨plainId_quiet F.plain_min_loop _,zlY (Walks.list (A:=A.in1) hh _ l (ne_of_lt lt) its) bt _ nS hne (fun i j x y s' Q' E' k hi hj q=>cm i j x y s' Q' E' (fun b o e=>k b o (old b o e) (up b o e)) hi hj q) ?_ (get?_push_size _ rfl) fun v h' tk hv k=>fin v h' tk hv fun b o e=>k b o (old b o e) (up b o e)⟩;exact⟨⟨_,get?_push_of_some _ (get?_push_size _ rfl),rfl,rfl⟩,(hl.push _).push _⟩
end
def ztR(K:W.Frag):List V->Hp->VK->Prop:=fun xs H Q=>∃ (p:Addr) (vs:List V) (nss:List (List Int)),xs=[.ref p]/\SqL K H p vs/\vs≠[]/\Paired (fun(v:V) (ns:List Int)=>∃ a,v=.ref a/\H a=some (.tup (ns.map V.int))) vs nss /\
 ∀ (i:Nat) v ns,vs[i]? = some v->nss[i]? = some ns->(∀ ms∈nss,HT.lexLt ms ns=false)->Q v H
theorem zfW{ns:Nat->List Int}(tr:∀ a b c:List Int,HT.lexLt a b=false->HT.lexLt b c=false->HT.lexLt a c=false)(as:∀ a b:List Int,HT.lexLt a b=true->HT.lexLt b a=false):∀ k,argBest (fun i j=>HT.lexLt (ns i) (ns j)) k<=k/\∀ j,j<=k->HT.lexLt (ns j) (ns (argBest (fun i j=>HT.lexLt (ns i) (ns j)) k))=false
 | 0=>⟨le_refl _,fun j hj=>by
   have:j=0:=by omega
   subst this;show HT.lexLt (ns 0) (ns 0)=false;cases h:HT.lexLt (ns 0) (ns 0) with
   | false=>rfl
   | true=>have:=as _ _ h; rw [h] at this; cases this⟩
 | k+1=>by
  obtain⟨h1,h2⟩:=zfW tr as (ns:=ns) k;simp only [argBest];by_cases hb:HT.lexLt (ns (k+1)) (ns (argBest (fun i j=>HT.lexLt (ns i) (ns j)) k))=true
  ·rw [if_pos hb];refine⟨le_refl _,fun j hj=>?_⟩;by_cases e:j=k+1
   ·subst e;cases h:HT.lexLt (ns (k+1)) (ns (k+1)) with
    | false=>rfl
    | true=>have:=as _ _ h; rw [h] at this; cases this
   ·exact tr _ _ _ (h2 j (by omega)) (as _ _ hb)
  ·rw [if_neg hb];refine⟨by omega,fun j hj=>?_⟩;by_cases e:j=k+1
   ·subst e; exact Bool.eq_false_iff.mpr hb
   ·exact h2 j (by omega)
theorem zk7:∀ a b:List Int,HT.lexLt a b=true->HT.lexLt b a=false
 | [],[],h=>by cases h
 | [],y :: ys,_=>rfl
 | x :: xs,[],h=>by cases h
 | x :: xs,y :: ys,h=>by
  rw [HT.lexLt_cons] at h ⊢;by_cases e:x=y
  ·subst e;rw [if_pos rfl] at h ⊢;exact zk7 xs ys h
  ·rw [if_neg e] at h;rw [if_neg (Ne.symm e)];simp only [decide_eq_true_eq] at h;simp only [decide_eq_false_iff_not];omega
theorem ze8:∀ a b c:List Int,HT.lexLt a b=false->HT.lexLt b c=false->HT.lexLt a c=false
 | _,_,[],_,_=>by rename_i a b _ _; cases a <;> rfl
 | [],[],z :: zs,_,h=>by cases h
 | [],y :: ys,z :: zs,h,_=>by cases h
 | x :: xs,[],z :: zs,_,h=>by cases h
 | x :: xs,y :: ys,z :: zs,h,k=>by
  rw [HT.lexLt_cons] at h k ⊢;by_cases e:x=y
  ·subst e;rw [if_pos rfl] at h;by_cases e2:x=z
   ·subst e2;rw [if_pos rfl] at k ⊢;exact ze8 xs ys zs h k
   ·rw [if_neg e2] at k ⊢;exact k
  ·rw [if_neg e] at h;by_cases e2:y=z
   ·subst e2;rw [if_neg e];exact h
   ·rw [if_neg e2] at k;simp only [decide_eq_false_iff_not] at h k;rw [if_neg (by omega)];simp only [decide_eq_false_iff_not];omega
theorem zn1{X:Cx}(hc:X.calm=true)(hu:X.A.units+64<cLine):CallR X (.builtin "min") (ztR X.K):=by
 intro zj s σ H xs us Q I r h;obtain⟨p,vs,nss,rfl,hq,hne,pr,q⟩:=h;obtain⟨u,rfl,rx⟩:=vals1 r;cases (show u=Value.ref p from rx);obtain⟨its,rv,pl,_⟩:=I.list hq;have hl:=rv.length;have hl2:=Paired.length pr;have hsz:0<its.toArray.size:=by
  rw [size_toArray,<- hl];exact List.length_pos_iff.mpr hne
 have at_:∀ (i:Nat) x,its.toArray[i]? = some x->∃ (v:V) (ns:List Int),vs[i]? = some v/\nss[i]? = some ns/\RelV v x/\∃ a,v=.ref a/\H a=some (.tup (ns.map V.int)):=fun i x hx=>by
  have hi:i<its.length:=by
   have:=(Array.getElem?_eq_some_iff.mp hx).1;simpa using this
  have e1:vs[i]? = some vs[i]:=getElem?_eq_getElem (by omega);have e2:nss[i]? = some nss[i]:=getElem?_eq_getElem (by omega);obtain⟨x',hx',rr⟩:=rv.get e1;have:x=x':=by
   have h2:its[i]? = some x:=by simpa using hx
   rw [hx'] at h2;exact(Option.some.inj h2).symm
  subst this;have pg:∀ {a:List V} {b:List (List Int)} {i:Nat} {v:V} {ns:List Int},Paired (fun(v:V) (ns:List Int)=>∃ a,v=.ref a/\H a=some (.tup (ns.map V.int))) a b->a[i]? = some v->b[i]? = some ns->∃ a,v=.ref a/\H a=some (.tup (ns.map V.int)):=by
   intro a b i v ns pq;induction pq generalizing i with
   | nil=>intro h; simp at h
   | cons r0 _ ih =>
    cases i with
    | zero =>
     intro h1 h2;rw [getElem?_cons_zero] at h1 h2;cases h1;cases h2;exact r0
    | succ i =>
     intro h1 h2;rw [getElem?_cons_succ] at h1 h2;exact ih h1 h2
  exact⟨_,_,e1,e2,rr,pg pr e1 e2⟩
 refine zot (I.ok.hd hc) pl.isList hsz (fun i j=>HT.lexLt (nss.getD i []) (nss.getD j [])) (fun i j x y s' Q' E' k hx hy q'=>?_) fun v h' tk hv k=>?_
 ·obtain⟨v1,n1,_,f1,r1,a1,rfl,e1⟩:=at_ i x hx;obtain⟨v2,n2,_,f2,r2,a2,rfl,e2⟩:=at_ j y hy;cases r1;cases r2;obtain⟨_,is1,w1,t1⟩:=(show ObjOk X.prog X.w H s.heap a1 (.tup (n1.map V.int)) from I.hok a1 _ e1);obtain⟨_,is2,w2,t2⟩:=(show ObjOk X.prog X.w H s.heap a2 (.tup (n2.map V.int)) from I.hok a2 _ e2);have g1:nss.getD i []=n1:=by rw [getD_eq_getElem?_getD,f1]; rfl
  have g2:nss.getD j []=n2:=by rw [getD_eq_getElem?_getD,f2]; rfl
  rw [g1,g2] at q';obtain⟨o1,b1,c1⟩:=t1;obtain⟨o2,b2,c2⟩:=t2;exact HT.lt_tupInts ⟨o1,k _ _ b1,c1⟩ ⟨o2,k _ _ b2,c2⟩ (zba w1) (zba w2) (by show X.A.units+1<cLine; omega) q'
 ·obtain⟨v1,n1,e1,f1,r1,_⟩:=at_ _ v hv;obtain⟨_,h2⟩:=zfW (ns:=fun i=>nss.getD i []) ze8 zk7 (its.toArray.size - 1);refine⟨v1,H,I.kept (t':=tk) k,r1,q _ v1 n1 e1 f1 fun ms hm=>?_⟩;obtain⟨j,hj⟩:=mem_iff_getElem?.mp hm;have hjl:=(List.getElem?_eq_some_iff.mp hj).1;have:=h2 j (by rw [size_toArray]; omega);rw [show nss.getD j []=ms by rw [getD_eq_getElem?_getD,hj]; rfl] at this;rw [show nss.getD (argBest (fun i j=>HT.lexLt (nss.getD i []) (nss.getD j [])) (its.toArray.size - 1)) []=n1 by rw [getD_eq_getElem?_getD,f1]; rfl] at this;exact this
def zsd(K:W.Frag):List V->Hp->VK->Prop:=fun xs H Q=>zuy K xs H Q\/ztR K xs H Q
theorem zf4{X:Cx}(hc:X.calm=true)(hu:X.A.units+64<cLine):CallR X (.builtin "min") (zsd X.K):=(znD hc).or (zn1 hc hu)
def zoy(ns:List Int):PyData:=.tuple (ns.map PyData.int)
def zlL:List XV->Sto->RX->Prop:=fun xs S R=>zuW xs S R\/arg1 xs fun x=>∃ ds,zj0 S x=some ds/\∃ nss:List (List Int),ds=nss.map zoy/\nss≠[]/\∀ m,m∈nss->(∀ a,a∈nss->HT.lexLt a m=false)->R (.d (zoy m)) S
theorem zrS{K:W.Frag}:RC (zsd K) zlL:=fun h o H S xs vs R Q hs hx q c=>by
 rcases q with q | q
 ·exact .inl (zsG h o H S xs vs R Q hs hx q c)
 ·obtain⟨x,rfl,ds,hd,nss,rfl,hn,q1⟩:=za0 q;obtain⟨v,rfl,hx1⟩:=hxs1 hx;obtain⟨a,ws,rfl,ea,l⟩:=zbn hs hd hx1;have hl:=l.length;refine .inr ⟨a,ws,nss,rfl,.of ea,fun z=>hn ?_,?_,fun i v ns e1 e2 hm=>?_⟩
  ·subst z;rw [length_map] at hl;exact eq_nil_of_length_eq_zero hl.symm
  ·have go:∀ {nss:List (List Int)} {ws:List V},HasL (vx h o H) (nss.map zoy) ws->Paired (fun(v:V) (ns:List Int)=>∃ a,v=.ref a/\H a=some (.tup (ns.map V.int))) ws nss:=by
    intro nss;induction nss with
    | nil=>intro ws l; rw [zJ.mp l]; exact .nil
    | cons n nss ih =>
     intro ws l;obtain⟨v,r,rfl,h1,l2⟩:=zA.mp l;obtain⟨b,us,rfl,eb,lb⟩:=zaw.mp h1;rw [zcn lb] at eb;exact .cons ⟨b,rfl,zam _ _ eb⟩ (ih l2)
   exact go l
  ·obtain⟨v',ev,hv⟩:=l.get (show (nss.map zoy)[i]? = some (zoy ns) by rw [getElem?_map,e2]; rfl);rw [e1] at ev;cases ev;exact c o H S (.d (zoy ns)) v Ex.refl hs hv (q1 ns (mem_of_getElem? e2) hm)
section
variable {S:Sto} {P:Sto->List PyData->Prop} {a b c d:List PyData} {x:List PyData}
theorem zf1{S0:Sto}:(∃ T ds,S0++[x]=T++[ds]/\P T ds)↔P S0 x:=by
 constructor
 ·rintro⟨T,ds,e,q⟩;obtain⟨rfl,e2⟩:=List.append_inj' e rfl;cases e2;exact q
 ·exact fun q=>⟨S0,x,rfl,q⟩
theorem zkE:(∃ T ds,[a]=T++[ds]/\P T ds)↔P [] a:=zf1 (S0:=[])
theorem zlf:(∃ T ds,[a,b]=T++[ds]/\P T ds)↔P [a] b:=zf1 (S0:=[a])
theorem zkX:(∃ T ds,[a,b,c]=T++[ds]/\P T ds)↔P [a,b] c:=zf1 (S0:=[a,b])
end
section
variable {α:Type} {n:Nat} {g:DG} {tt:DT} {te:DE} {fin:Sto->Prop} {S0:Sto} {caps:XE}
theorem zqB{h:α->PyData}{f:α->PyData}(P:XE->Prop)(hn:S0.length=n)(l:List α)(τ:XE)(hP:P τ)(hl:l.length<=1000)
  (el:∀ x∈l,∀ τ acc (R:XE->RX),P τ->(∀ τ',P τ'->R τ' (.d (f x)) (S0++[acc]))->g (.d (h x)) τ (S0++[acc]) fun τ1 S1=>te τ1 S1 (R τ1)) (hf:fin (S0++[l.map f])):zev n g zax te fin (l.map h) τ (S0++[[]]):=by
 have go:∀ (l:List α) (acc:List PyData) (τ:XE),P τ->acc.length+l.length<=1000->(∀ x∈l,∀ τ acc (R:XE->RX),P τ->(∀ τ',P τ'->R τ' (.d (f x)) (S0++[acc]))->g (.d (h x)) τ (S0++[acc]) fun τ1 S1=>te τ1 S1 (R τ1)) ->
   fin (S0++[acc++l.map f])->zev n g zax te fin (l.map h) τ (S0++[acc]):=by
  intro l;induction l with
  | nil=>intro acc τ _ _ _ h; rw [map_nil,append_nil] at h; exact h
  | cons x l ih =>
   intro acc τ hP hl el hh;show g (.d (h x)) τ (S0++[acc]) fun τ1 S1=>zax τ1 S1 fun b S2=>if b=true then te τ1 S2 fun x S3=>asD x fun e=>∃ acc,S3[n]? = some acc/\acc.length<1000/\zev n g zax te fin (l.map h) τ1 (S3.set n (acc++[e])) else zev n g zax te fin (l.map h) τ1 S2
   simp only [zax,↓reduceIte];rw [length_cons] at hl;refine el x mem_cons_self τ acc (fun τ1 x S3=>asD x fun e=>∃ acc,S3[n]? = some acc/\acc.length<1000/\zev n g zax te fin (l.map h) τ1 (S3.set n (acc++[e]))) hP fun τ' hP'=>?_;refine⟨acc,by rw [<- hn,getElem?_concat_length],by omega,?_⟩;rw [zeu hn];refine ih (acc++[f x]) τ' hP' (by rw [length_append,length_singleton]; omega) (fun e m=>el e (mem_cons_of_mem _ m)) ?_;rw [append_assoc];exact hh
 exact go l [] τ hP (by simpa using hl) el (by simpa using hf)
theorem cmp1{h:α->PyData}(f:α->PyData)(hn:S0.length=n)(l:List α){u:Option XV}(hl:l.length<=1000)
  (el:∀ x∈l,∀ (u:Option XV) acc (R:XE->RX),(∀ u',R (u' :: caps) (.d (f x)) (S0++[acc]))->g (.d (h x)) (u :: caps) (S0++[acc]) fun τ1 S1=>te τ1 S1 (R τ1)) (hf:fin (S0++[l.map f])):zev n g zax te fin (l.map h) (u :: caps) (S0++[[]]) :=
 zqB (fun τ=>∃ u,τ=u :: caps) hn l _ ⟨u,rfl⟩ hl (fun x m τ acc R ⟨u,e⟩ k=>by subst e; exact el x m u acc R fun u'=>k _ ⟨u',rfl⟩) hf
theorem cmp2{h:α->PyData}(f:α->PyData)(hn:S0.length=n)(l:List α){u v:Option XV}(hl:l.length<=1000)
  (el:∀ x∈l,∀ (u v:Option XV) acc (R:XE->RX),(∀ u' v',R (u' :: v' :: caps) (.d (f x)) (S0++[acc]))->g (.d (h x)) (u :: v :: caps) (S0++[acc]) fun τ1 S1=>te τ1 S1 (R τ1)) (hf:fin (S0++[l.map f])):zev n g zax te fin (l.map h) (u :: v :: caps) (S0++[[]]) :=
 zqB (fun τ=>∃ u v,τ=u :: v :: caps) hn l _ ⟨u,v,rfl⟩ hl (fun x m τ acc R ⟨u,v,e⟩ k=>by subst e; exact el x m u v acc R fun u' v'=>k _ ⟨u',v',rfl⟩) hf
theorem zsg{h:α->PyData}{f:α->PyData}{p:α->Bool}(P:XE->Prop)(hn:S0.length=n)(l:List α)(τ:XE)(hP:P τ)(hl:l.length<=1000)
  (el:∀ x∈l,∀ τ acc (R:XE->Bool->Sto->Prop),P τ->(∀ τ',P τ'->(p x=true->∀ T:RX,T (.d (f x)) (S0++[acc])->te τ' (S0++[acc]) T)->R τ' (p x) (S0++[acc]))->g (.d (h x)) τ (S0++[acc]) fun τ1 S1=>tt τ1 S1 (R τ1))
  (hf:fin (S0++[(l.filter p).map f])):zev n g tt te fin (l.map h) τ (S0++[[]]):=by
 have go:∀ (l:List α) (acc:List PyData) (τ:XE),P τ->acc.length+l.length<=1000->(∀ x∈l,∀ τ acc (R:XE->Bool->Sto->Prop),P τ->(∀ τ',P τ'->(p x=true->∀ T:RX,T (.d (f x)) (S0++[acc])->te τ' (S0++[acc]) T)->R τ' (p x) (S0++[acc]))->g (.d (h x)) τ (S0++[acc]) fun τ1 S1=>tt τ1 S1 (R τ1)) ->
   fin (S0++[acc++(l.filter p).map f])->zev n g tt te fin (l.map h) τ (S0++[acc]):=by
  intro l;induction l with
  | nil=>intro acc τ _ _ _ h; rw [List.filter_nil,map_nil,append_nil] at h; exact h
  | cons x l ih =>
   intro acc τ hP hl el hh;show g (.d (h x)) τ (S0++[acc]) fun τ1 S1=>tt τ1 S1 fun b S2=>if b=true then te τ1 S2 fun x S3=>asD x fun e=>∃ acc,S3[n]? = some acc/\acc.length<1000/\zev n g tt te fin (l.map h) τ1 (S3.set n (acc++[e])) else zev n g tt te fin (l.map h) τ1 S2
   rw [length_cons] at hl;refine el x mem_cons_self τ acc (fun τ1 b S2=>if b=true then te τ1 S2 fun x S3=>asD x fun e=>∃ acc,S3[n]? = some acc/\acc.length<1000/\zev n g tt te fin (l.map h) τ1 (S3.set n (acc++[e])) else zev n g tt te fin (l.map h) τ1 S2) hP fun τ' hP' ev=>?_;cases hp:p x with
   | false =>
    rw [List.filter_cons_of_neg (by rw [hp]; exact Bool.false_ne_true)] at hh;exact zox (ih acc τ' hP' (by omega) (fun e m=>el e (mem_cons_of_mem _ m)) hh)
   | true =>
    rw [List.filter_cons_of_pos hp,map_cons] at hh;refine zou (ev hp _ ⟨acc,by rw [<- hn,getElem?_concat_length],by omega,?_⟩);rw [zeu hn];exact ih (acc++[f x]) τ' hP' (by rw [length_append,length_singleton]; omega) (fun e m=>el e (mem_cons_of_mem _ m)) (by rw [append_assoc]; exact hh)
 exact go l [] τ hP (by simpa using hl) el (by simpa using hf)
theorem cmf1{h:α->PyData}(f:α->PyData)(p:α->Bool)(hn:S0.length=n)(l:List α){u:Option XV}(hl:l.length<=1000)
  (el:∀ x∈l,∀ (u:Option XV) acc (R:XE->Bool->Sto->Prop),(∀ u',(p x=true->∀ T:RX,T (.d (f x)) (S0++[acc])->te (u' :: caps) (S0++[acc]) T)->R (u' :: caps) (p x) (S0++[acc]))->g (.d (h x)) (u :: caps) (S0++[acc]) fun τ1 S1=>tt τ1 S1 (R τ1)) (hf:fin (S0++[(l.filter p).map f])):zev n g tt te fin (l.map h) (u :: caps) (S0++[[]]) :=
 zsg (fun τ=>∃ u,τ=u :: caps) hn l _ ⟨u,rfl⟩ hl (fun x m τ acc R ⟨u,e⟩ k=>by subst e; exact el x m u acc R fun u' hh=>k _ ⟨u',rfl⟩ hh) hf
end
end
section
@[irreducible] def QSs (X:Cx) (st:List Stmt) (t:TS):Prop:=PSs X st t
theorem QSs.out{X:Cx}{st:List Stmt}{t:TS}(h:QSs X st t):PSs X st t:=by unfold QSs at h; exact h
theorem QSs.mk{X:Cx}{st:List Stmt}{t:TS}(h:PSs X st t):QSs X st t:=by unfold QSs; exact h
@[irreducible] def QA (X:Cx) (es:List Expr) (t:TA):Prop:=PA X es t
theorem QA.out{X:Cx}{es:List Expr}{t:TA}(h:QA X es t):PA X es t:=by unfold QA at h; exact h
theorem QA.mk{X:Cx}{es:List Expr}{t:TA}(h:PA X es t):QA X es t:=by unfold QA; exact h
theorem zd7{X:Cx}:QA X [] zsb:=QA.mk zc
theorem zac{X:Cx}{e:Expr}{es:List Expr}{te:TE}{t:TA}(ha:PE X e te)(hr:QA X es t)(hs:starEach (e :: es) X.env=(false,eval e X.env) :: starEach es X.env:=by rfl):QA X (e :: es) (zgm te t):=QA.mk (za ha hr.out hs)
theorem zfV{X:Cx}{es:List Expr}{t:TA}{pos:Pos}(h:QA X es t):PE X (.List es pos) (zsj t):=zay h.out
@[irreducible] def QS (X:Cx) (st:Stmt) (t:TS):Prop:=PS X st t
theorem QS.out{X:Cx}{st:Stmt}{t:TS}(h:QS X st t):PS X st t:=by unfold QS at h; exact h
theorem QS.mk{X:Cx}{st:Stmt}{t:TS}(h:PS X st t):QS X st t:=by unfold QS; exact h
theorem zmr{X:Cx}{st:Stmt}{rest:List Stmt}{t u:TS}(h1:QS X st t)(h2:QSs X rest u):QSs X (st :: rest) (zk3 t u):=QSs.mk (zd h1.out h2.out)
end
section
section
variable {prog:Program} {w:World} {A:Around} {E:Value->Shared->Prop} {s:Shared}
abbrev zrd (acc:Array Value) (c:Nat):Obj:={ cls:=.type "list",dict:=none,data:=.seq acc c,slots:=#[] }
abbrev zt4 (lo hi:Int):Obj:={ cls:=.type "longrange_iterator",data:=.fields #[rawInt lo,rawInt (Builtin.Range.rangeSize lo hi 1),rawInt 1] }
abbrev IntsFrom (lo:Int) (acc:Array Value) (n:Nat):Prop:=ItemsOf (fun i v=>∃ t,v=.int (lo+(i:Nat)*1) t) acc n
theorem zmm{R:Result->Shared->Prop}{lo:Int}{n L I:Nat}{res:Value}{c0 tk0:Nat}{h0:Heap}(hh:A.handled=none)(hn:n<=1000)(ne:L≠I)
  (hI:IsLongIter h0 I (lo+((0:Nat):Int)*1) ((n:Int) - ((0:Nat):Int)) 1) (hL:h0.get? L=some (zrd #[] c0))
  (hR:∀ h' tk acc c,(∀ b o,b≠L->b≠I->h0.get? b=some o->h'.get? b=some o)->h'.get? L=some (zrd acc c)->IntsFrom lo acc n->R (.ok (.ret res)) { s with heap:=h',toks:=tk }) :
  codeAny (model prog w) A (.builtin "list.extend.loop" ⟨[.ref L,.ref I,res],[]⟩) R { s with heap:=h0,toks:=tk0 }:=by
 have walk:=(Walks.longrange (prog:=prog) (w:=w) (A:=A.in1) hh I lo 1 n).toS;have small:n<=sizeLine:=by rw [sizeLine_eq]; omega
 have out:L∉[I]:=by simpa using ne
 refine codeAny_extend_loopS walk small L out res n 0 _ #[] c0 rfl (zero_le _) hI hL (ItemsOf.nil _) ?_;intro s' acc c moved hl' items;rw [Moved.eq_with moved];refine hR s'.heap s'.toks acc c (fun b o b1 b2 e=>moved.heap b o ?_ e) hl' items;simp only [mem_cons,not_mem_nil,or_false,not_or];exact⟨b1,b2⟩
theorem zpp{R:Result->Shared->Prop}{r L:Addr}{lo hi:Int}{t u v:Tok}{n:Nat}(hh:A.handled=none)(hr:IsRange s.heap r lo hi 1 t u v)(big:Builtin.Range.small lo hi 1=false)(hn:Builtin.Range.rangeSize lo hi 1=(n:Int))(hl:n<=1000)
  {c0:Nat} (hL:s.heap.get? L=some (zrd #[] c0))
  (hR:∀ h' tk acc c,(∀ b o,b≠L->s.heap.get? b=some o->h'.get? b=some o)->h'.get? L=some (zrd acc c)->IntsFrom lo acc n->R (.ok (.ret .none)) { s with heap:=h',toks:=tk }) :
  wpAny (model prog w) A.in1 (Builtin.List.listExtendWith (.ref L) (.ref r) .none)
   (fun f z=>match f with
    | .done g=>R (.ok g) z
    | .again c=>c.quiet=true/\codeAny (model prog w) A c R z) (fun e z=>R (.error e) z) s:=by
 have apart:L≠r:=fun e=>by
  rw [e,hr] at hL;simp at hL
 have low:L<s.heap.objs.size:=lt_size hL;have ne:L≠s.heap.objs.size:=ne_of_lt low;have same:Builtin.List.listSameRef (.ref L) (.ref r)=false:=by simp [Builtin.List.listSameRef,apart]
 have k1:(Value.type "range" == Value.type "list")=false:=by decide
 have k2:(Value.type "range" == Value.type "tuple")=false:=by decide
 unfold Builtin.List.listExtendWith;refine wpAny_bind (wpAny_typeOf (T:="range") ⟨_,hr,rfl⟩ ?_);simp only [same,k1,k2,Bool.or_false,Bool.false_eq_true,if_false];refine wpAny_bind (wpAny_pyIter_longrange hr big ?_);have hit:IsLongIter (s.heap.push (zt4 lo hi)) s.heap.objs.size (lo+((0:Nat):Int)*1) ((n:Int) - ((0:Nat):Int)) 1:=by
  show IsLongIter _ _ _ _ _;rw [<- hn];simpa using get?_push_size _ rfl
 have hL1:=get?_push_of_some (zt4 lo hi) hL;refine wpAny_bind (wpAny_holding (wpAny_hint_range (n:=n) (get?_push_of_some _ hr) hn (by omega) ?_));have go:∀ {h0:Heap} {c0 tk0:Nat},IsLongIter h0 s.heap.objs.size (lo+((0:Nat):Int)*1) ((n:Int) - ((0:Nat):Int)) 1->h0.get? L=some (zrd #[] c0)->(∀ b o,b≠L->s.heap.get? b=some o->h0.get? b=some o) ->
   codeAny (model prog w) A (.builtin "list.extend.loop" ⟨[.ref L,.ref s.heap.objs.size,.none],[]⟩) R { s with heap:=h0,toks:=tk0 }:=fun {h0 c0 tk0} a1 a2 a3 =>
  zmm hh hl ne a1 a2 fun h' tk acc c q1 q2 q3=>hR h' tk acc c (fun b o nb e=>q1 b o nb (ne_of_lt (lt_size e)) (a3 b o nb e)) q2 q3
 have still:=plainId_quiet F.plain_extend_loop;refine wpAny_ite_split (fun _=>?_) fun _=>wpAny_pure ⟨still _,go hit hL1 fun b o _ e=>get?_push_of_some _ e⟩;refine wpAny_bind (wpAny_rule (wpAny_bind ?_));show wpAny _ _ (updateSeq L (·.push .none) >>= fun _=>updateSeq L (·.pop)) _ _ _;refine wpAny_bind (wpAny_updateSeq hL1 rfl ?_);have hL2:=get?_update_self (Obj.mapSeq (·.push Value.none)) hL1 rfl;refine wpAny_updateSeq (hz:=by seq_fits) hL2 rfl ?_;have hL3:=get?_update_self (Obj.mapSeq (·.pop)) hL2 rfl;have other:∀ b o,b≠L->(s.heap.push (zt4 lo hi)).get? b=some o->(((s.heap.push (zt4 lo hi)).update L (Obj.mapSeq (·.push Value.none))).update L (Obj.mapSeq (·.pop))).get? b=some o:=fun b o nb e =>
  (get?_update_other _ _ (Ne.symm nb)).trans ((get?_update_other _ _ (Ne.symm nb)).trans e)
 exact wpAny_pure ⟨still _,go (other _ _ (Ne.symm ne) hit) hL3 fun b o nb e=>other b o nb (get?_push_of_some _ e)⟩
theorem zoj{R:Result->Shared->Prop}{r L:Addr}{lo hi:Int}{t u v:Tok}{n:Nat}(hh:A.handled=none)(hr:IsRange s.heap r lo hi 1 t u v)(big:Builtin.Range.small lo hi 1=false)(hn:Builtin.Range.rangeSize lo hi 1=(n:Int))(hl:n<=1000)
  (hL:s.heap.get? L=some { cls:=.type "list",data:=.seq #[] })
  (hR:∀ h' tk acc c,(∀ b o,b≠L->s.heap.get? b=some o->h'.get? b=some o)->h'.get? L=some (zrd acc c)->IntsFrom lo acc n->R (.ok (.ret .none)) { s with heap:=h',toks:=tk }) :
  wpAny (model prog w) A.in1 (Builtin.«list.__init__» ⟨[.ref L,.ref r],[]⟩)
   (fun f z=>match f with
    | .done g=>R (.ok g) z
    | .again c=>c.quiet=true/\codeAny (model prog w) A c R z) (fun e z=>R (.error e) z) s:=by
 have apart:L≠r:=fun e=>by
  rw [e,hr] at hL;simp at hL
 show wpAny _ _ (do
  let was <- Builtin.List.listItems (.ref L)
  Builtin.List.listUpdate (.ref L) (fun _=>#[])
  letGo was.toList.reverse
  Builtin.List.listExtendWith (.ref L) (.ref r) .none) _ _ s
 unfold Builtin.List.listItems;refine wpAny_bind (wpAny_bind (wpAny_seqItems hL rfl (wpAny_pure ?_)));show wpAny _ _ (updateSeq L (fun _=>#[]) >>= fun _=>letGo _ >>= fun _=>Builtin.List.listExtendWith (.ref L) (.ref r) .none) _ _ s;refine wpAny_bind (wpAny_updateSeq hL rfl ?_);have hL1:=get?_update_self (Obj.mapSeq (fun _=>(#[]:Array Value))) hL rfl;have other:∀ b o,b≠L->s.heap.get? b=some o->(s.heap.update L (Obj.mapSeq (fun _=>(#[]:Array Value)))).get? b=some o:=fun b o nb e=>(get?_update_other _ _ (Ne.symm nb)).trans e;refine wpAny_bind (wpAny_letGo ?_);refine zpp hh (other r _ (Ne.symm apart) hr) big hn hl hL1 fun h' tk acc c q1 q2 q3=>?_;exact hR h' tk acc c (fun b o nb e=>q1 b o nb (other b o nb e)) q2 q3
theorem zia{Q:Value->Shared->Prop}{r:Addr}{lo hi:Int}{t u v:Tok}{n:Nat}(hh:A.handled=none)(hr:IsRange s.heap r lo hi 1 t u v)(hn:Builtin.Range.rangeSize lo hi 1=(n:Int))(hl:n<=1000)
  (hQ:∀ h' tk acc c,(∀ b o,s.heap.get? b=some o->h'.get? b=some o)->h'.get? s.heap.objs.size=some (zrd acc c)->IntsFrom lo acc n->Q (.ref s.heap.objs.size) { s with heap:=h',toks:=tk }) :
  wpAny (model prog w) A (call (.type "list") [.ref r]) Q E s:=by
 cases sm:Builtin.Range.small lo hi 1 with
 | true=>exact call_list_range hh hr sm hn (by omega) hQ
 | false =>
  refine callType_codes (Q₁:=fun ob z=>ob=.ref s.heap.objs.size/\z = { s with heap:=s.heap.push { cls:=.type "list",data:=.seq #[] } }) F.called_list (F.typeCall_list_1 _) F.entry_list_init (code_list_new _ ⟨rfl,rfl⟩) ?_;rintro ob z ⟨rfl,rfl⟩;have hL:(s.heap.push { cls:=.type "list",data:=.seq #[] }).get? s.heap.objs.size=some { cls:=.type "list",data:=.seq #[] }:=get?_push_size _ rfl;refine⟨⟨_,hL,rfl⟩,F.args_list_init_2 _ _,?_⟩;refine zoj (A:=A.in1) hh (get?_push_of_some _ hr) sm hn hl hL fun h' tk acc c q1 q2 q3=>⟨rfl,hQ h' tk acc c (fun b o e=>?_) q2 q3⟩;exact q1 b o (ne_of_lt (lt_size e)) (get?_push_of_some _ e)
end
theorem zhZ:∀ (xs:List V) (us:List Value),xs.length=us.length->(∀ (k:Nat) (x:V) (u:Value),xs[k]? = some x->us[k]? = some u->RelV x u)->Vals xs us
 | [],[],_,_=>.nil
 | x :: xs,u :: us,hl,h=>.cons (h 0 x u rfl rfl) (zhZ xs us (by simpa using hl) fun k y v e1 e2=>h (k+1) y v e1 e2)
 | [],_ :: _,hl,_=>by simp at hl
 | _ :: _,[],hl,_=>by simp at hl
theorem zra{lo:Int}:∀ {n:Nat} {acc:Array Value},IntsFrom lo acc n->Vals ((List.range n).map fun k:Nat=>V.int (lo+k)) acc.toList:=by
 intro n acc h;obtain⟨hz,hv⟩:=h;refine zhZ _ _ (by simp [hz]) fun k x u ex eu=>?_;rw [getElem?_map] at ex;have hk:k<n:=by
  have:=(List.getElem?_eq_some_iff.mp eu).1;simpa [hz] using this
 rw [getElem?_range hk] at ex;cases ex;obtain⟨tk,rfl⟩:=hv k u (by simpa using eu);exact⟨tk,by rw [Int.mul_one]⟩
end
end L2
namespace HT
open PySem PyProof.Rows
section
variable {prog:Program} {w:World} {A:Around} {E:Value->Shared->Prop} {s:Shared}
theorem tup_whole{t sl:Addr}{items:Array Value}{vl vu:Value}{lo hi:Option Int}{Q:Value->Shared->Prop}(ht:IsTup s.heap t items)(hs:s.heap.IsSliceOf sl vl vu .none)(pl:IsPart vl lo)(pu:IsPart vu hi)
  (hw:sIx items.size 0 lo=0/\sIx items.size items.size hi=items.size) (h:Q (.ref t) s):wpAny (model prog w) A (getItem (.ref t) (.ref sl)) Q E s:=by
 obtain⟨os,hos,hcs,hds⟩:=id hs;have hTs:s.TypeIs (.ref sl) "slice":=⟨os,hos,hcs⟩;unfold getItem
 try with_reducible refine wpAny_holding ?_
 first | refine wpAny_bind (wpAny_pure ?_) | skip
 refine wpAny_bind (wpAny_sequenceKey ht.typeIs dz ?_);refine wpAny_bind (wpAny_callSpecial?_slot (name:=Str.ofString "__getitem__") ht.typeIs PyProof.Rows.slot_tuple_getitem
  (wpAny_call_entry PyProof.Rows.slot_tuple_getitem ht.typeIs entry_tuple_getitem ?_ (args_tuple_getitem _ _)))
 show wpAny _ _ (Builtin.Tuple.tupleItemsOf (.ref t) >>= _) _ _ s;refine wpAny_bind (tupleItemsOf_ ht (wpAny_bind (wpAny_typeOf hTs ?_)));rw [if_pos dz];refine wpAny_bind (zdB hs pl pu ?_);rw [hw.1,hw.2];show wpAny _ _ (if (((0:Nat):Int) == 0 && (1:Int) == 1 && (items.size - 0) == items.size)=true then _ else _) _ _ s;rw [if_pos (by simp)];unfold Builtin.Tuple.tupleIsExact;refine wpAny_bind (wpAny_bind (wpAny_typeOf ht.typeIs (wpAny_pure ?_)));rw [if_pos dz];exact wpAny_bind (wpAny_rule (wpAny_pure ⟨_,rfl,wpAny_pure h⟩))
end
end HT
namespace L2
open PySem PySem.Spec PyProof.Rows
section
section
variable {X:Cx} {e ek:Expr} {te tk:TE} {pos p2:Pos}
def zuB(K:W.Frag):V->Option Int->Option Int->Hp->VK->Prop:=fun x lo hi H Q=>∃ a xs,x=.ref a/\SqT K H a xs /\
 ((HT.sIx xs.length 0 lo=0/\HT.sIx xs.length xs.length hi=xs.length)->Q (.ref a) H)/\∀ p,H p=none->Q (.ref p) (upd H p (.tup (zkY xs lo hi)))
theorem zkh:SlR X (zuB X.K):=by
 intro zj s σ H x v vl vu lo hi sl Q I rx hs pl pu h;obtain⟨a,xs,rfl,hx,hw,q⟩:=h;by_cases z:HT.sIx xs.length 0 lo=0/\HT.sIx xs.length xs.length hi=xs.length
 ·cases rx;obtain⟨its,r,ht,hz⟩:=I.tuple hx;have hlen:its.toArray.size=xs.length:=by rw [size_toArray]; exact r.length.symm
  refine⟨"tuple",_,PyProof.Rows.slot_tuple_getitem.lookup,ht.typeIs,?_⟩;exact HT.tup_whole ht hs pl pu (by rw [hlen]; exact z) ⟨.ref a,H,I,rfl,hw z⟩
 ·exact zqg zj s σ H _ v vl vu lo hi sl Q I rx hs pl pu ⟨a,xs,rfl,hx,z,q⟩
end
def zr7:D3:=fun x i j S R=>asT x fun ds=>R (.d (.tuple (zdE ds i j))) S
theorem zmb{α:Type}(xs:List α)(lo hi:Option Int)(h:HT.sIx xs.length 0 lo=0/\HT.sIx xs.length xs.length hi=xs.length):zdE xs lo hi=xs:=by
 unfold zdE;rw [h.1,h.2];simp
theorem zki{K:W.Frag}:RL (zuB K) zr7:=fun h o H S x v a b R Q hs hx q c=>by
 replace q:=zhF q;obtain⟨ds,rfl,q⟩:=q;obtain⟨p,vs,rfl,ea,l⟩:=zd6 hx;refine⟨p,vs,rfl,.of ea,fun z=>?_,znf hs (l.cut a b) c q⟩;rw [l.length] at z;rw [zmb ds a b z] at q;exact c o H S _ _ Ex.refl hs hx q
end
section
@[irreducible] def QE (X:Cx) (e:Expr) (t:TE):Prop:=PE X e t
theorem QE.out{X:Cx}{e:Expr}{t:TE}(h:QE X e t):PE X e t:=by unfold QE at h; exact h
theorem QE.mk{X:Cx}{e:Expr}{t:TE}(h:PE X e t):QE X e t:=by unfold QE; exact h
theorem zoS{X:Cx}{e:Expr}{es:List Expr}{te:TE}{t:TA}(ha:QE X e te)(hr:QA X es t)(hs:starEach (e :: es) X.env=(false,eval e X.env) :: starEach es X.env:=by rfl):QA X (e :: es) (zgm te t):=QA.mk (za ha.out hr.out hs)
theorem zjw{X:Cx}{es:List Expr}{t:TA}{k:Nat}{pos:Pos}(h:QA X es t):QE X (.Tuple es k pos) (zuo t):=QE.mk (zU h.out)
section
variable {X:Cx} {es l l':List Expr} {te:TE} {t:TA} {k:Nat} {p:Pos} {c:Const} {x:Str} {ks:List (Option Expr)}
theorem zo8(ha:QE X (.Tuple l k p) te)(hr:QA X es t):QA X (.Tuple l k p :: es) (zgm te t):=QA.mk (za ha.out hr.out rfl)
theorem zrg(ha:QE X (.Constant c k p) te)(hr:QA X es t):QA X (.Constant c k p :: es) (zgm te t):=QA.mk (za ha.out hr.out rfl)
theorem zuH(ha:QE X (.Name x p) te)(hr:QA X es t):QA X (.Name x p :: es) (zgm te t):=QA.mk (za ha.out hr.out rfl)
end
theorem zmD{X:Cx}{st:Stmt}{rest:List Stmt}{t u:TS}(h1:PS X st t)(h2:QSs X rest u):PSs X (st :: rest) (zk3 t u):=zd h1 h2.out
end
end L2
namespace L2
open PySem PySem.Spec PySem.Calls PyProof.Rows PySem.W
end L2
namespace L2
open PySem PySem.Spec PyProof.Rows
section
def zuY:D2:=fun x y S R=>asT x fun ds=>asT y fun es=>∃ ns,ds=ns.map PyData.int/\∃ ms,es=ms.map PyData.int/\R (.d (.bool (HT.lexLt ns ms))) S
end
section
open Sem (wp)
namespace F4
end F4
end
section
namespace F4
end F4
end
section
namespace F4
end F4
end
section
namespace F4
end F4
end
section
theorem zhc(f:Array Value->Array Value)(o:Obj):(Obj.mapFields f o).dict=o.dict:=by
 unfold Obj.mapFields;split <;> rfl
def RecAt(h base:Heap)(e:Addr)(cls:Value)(dx:Option Addr)(a0 fl:Value):Prop :=
 ∃ oe vs T oT ts,h.get? e=some oe/\oe.cls=cls/\oe.dict=dx/\oe.data=.fields vs/\vs[0]? = some a0/\vs[1]? = some (.ref T)/\base.get? T=none/\T≠e/\h.get? T=some oT/\oT.data=.fields ts/\ts[3]? = some fl
structure NotedD(base:Heap)(l:List Env)(e:Addr)(cls:Value)(dx:Option Addr)(a0 fl:Value)(h h':Heap):Prop where
 stays:base.StaysIn h'
 frames:h'.FunFrames base l
 rcd:RecAt h' base e cls dx a0 fl
 upto:h.UpToSlots h'
def FlyD(base:Heap)(l:List Env)(e:Addr)(cls:Value)(dx:Option Addr)(a0:Value)(h:Heap):Prop:=base.StaysIn h/\base.get? e=none/\h.FunFrames base l/\RecAt h base e cls dx a0 .none
def HeldD(base:Heap)(l:List Env)(e:Addr)(cls:Value)(dx:Option Addr)(a0:Value)(L:Addr)(h:Heap):Prop:=base.StaysIn h/\base.get? e=none/\h.FunFrames base l/\RecAt h base e cls dx a0 (rawInt L)
theorem FlyD.there{base h:Heap}{l:List Env}{e:Addr}{cls a0:Value}{dx:Option Addr}(x:FlyD base l e cls dx a0 h):∃ ob,h.get? e=some ob/\ob.cls=cls/\ob.dict=dx :=
 let ⟨_,_,_,oe,_,_,_,_,he,hc,hd,_⟩:=x; ⟨oe,he,hc,hd⟩
theorem FlyD.first{base h:Heap}{l:List Env}{e:Addr}{cls a0:Value}{dx:Option Addr}(x:FlyD base l e cls dx a0 h):∃ oe vs,h.get? e=some oe/\oe.cls=cls/\oe.data=.fields vs/\vs[0]? = some a0 :=
 let ⟨_,_,_,oe,vs,_,_,_,he,hc,_,hd,h0,_⟩:=x; ⟨oe,vs,he,hc,hd,h0⟩
section
variable {M:Model} {A:Around} {E:Value->Shared->Prop} {s:Shared}
theorem zjj{base:Heap}{env:Env}{outer:List Env}{L e:Addr}{oe:Obj}{vs:Array Value}{head a0:Value}{hadNext:Bool}{Q:Unit->Shared->Prop}
  (hfr:A.frames=some (env :: outer)) (hl:s.heap.FunFrames base (env :: outer)) (hf:env.frame=some L)
  (he:s.heap.get? e=some oe) (hkb:base.StaysIn s.heap) (hen:base.get? e=none) (hd:oe.data=.fields vs) (hsz:1<vs.size) (h0:vs[0]? = some a0)
  (h:∀ h',NotedD base (env :: outer) e oe.cls oe.dict a0 (rawInt L) s.heap h'->Q () { s with heap:=h' }) :
  wpAny M A (do let a <- frameOf env; let pl <- entryPlaceOf L hadNext; let b <- EntryCells.newEntry head a .none (rawInt L) .none pl; setField (.ref e) 1 b) Q E s:=by
 have ne:e∉(env :: outer).filterMap (·.frame):=fun hm=>by
  obtain⟨_,o,ho,nf⟩:=hl.mem hm;rw [he] at ho;cases ho;exact nf vs hd
 refine wpAny_bind (wpAny_frameOf_fun hfr hl hf fun h1 k1=>?_);refine wpAny_bind (wpAny_entryPlaceOf fun pl hpl=>?_);unfold EntryCells.newEntry newFields;refine wpAny_bind (wpAny_newObj_type ?_ (hpl.sizeOk5 _ _ _ _ _));have e1:h1.get? e=some oe:=(k1.2.1 e ne).trans he;have b1:base.StaysIn h1:=fun b o q=>(k1.2.1 b fun hm=>by rw [(hl.mem hm).1] at q; cases q).trans (hkb b o q);generalize hT:({ cls:=.type "traceback",dict:=none,data:=.fields ([head,.ref L,.none,rawInt L,.none]++(if pl.isEmpty then List.replicate 6 Value.none else pl)).toArray }:Obj)=tb;have dT:∃ ts,tb.data=.fields ts/\ts[3]? = some (rawInt L):=by
  subst hT;exact⟨_,rfl,by simp⟩
 obtain⟨ts,dT,zT⟩:=dT;have fT:tb.isFreed=false:=Obj.isFreed_of_fields dT;have e2:=get?_push_of_some (h:=h1) tb e1;refine wpAny_setField e2 hd hsz (h _ ?_);have nT:h1.objs.size≠e:=ne_of_gt (lt_size e1);have d3:=Obj.data_mapFields hd (·.setIfInBounds 1 (Value.ref h1.objs.size));have e3:=get?_update_self (Obj.mapFields (·.setIfInBounds 1 (Value.ref h1.objs.size))) e2 (Obj.isFreed_of_fields d3);have t3:=(get?_update_other (h1.push tb) (Obj.mapFields (·.setIfInBounds 1 (Value.ref h1.objs.size))) (Ne.symm nT)).trans (get?_push_size h1 fT);have keep:∀ b o,b≠e->h1.get? b=some o->((h1.push tb).update e (Obj.mapFields (·.setIfInBounds 1 (Value.ref h1.objs.size)))).get? b=some o:=fun b o nb q=>by
  rw [get?_update_other _ _ (Ne.symm nb)];exact get?_push_of_some _ q
 have nr:∀ b o,s.heap.get? b=some o->(∀ vs,o.data≠.fields vs)->b≠e:=fun b o q nf z=>by
  rw [z,he] at q;cases q;exact nf vs hd
 refine⟨fun b o q=>keep b o (fun z=>by rw [z,hen] at q; cases q) (b1 b o q),hl.of_keeps fun b o q nf=>?_,?_,fun b o q nf=>?_⟩
 ·obtain⟨sl,z⟩:=k1.2.2 b o q;exact⟨_,keep b _ (nr b o q nf) z,rfl⟩
 ·exact⟨_,_,h1.objs.size,_,_,e3,Obj.cls_mapFields _ _,zhc _ _,d3,by rw [Array.getElem?_setIfInBounds_ne dz]; exact h0,by simp [hsz],b1.fresh,nT,t3,dT,zT⟩
 ·obtain⟨sl,z⟩:=k1.2.2 b o q;exact⟨sl,keep b _ (nr b o q nf) z⟩
theorem zdj{base:Heap}{l:List Env}{e:Addr}{cls a0 fl:Value}{dx:Option Addr}{Q:Unit->Shared->Prop}(hkb:base.StaysIn s.heap)(hen:base.get? e=none)(hl:s.heap.FunFrames base l)(ht:RecAt s.heap base e cls dx a0 fl)
  (h:∀ h',FlyD base l e cls dx a0 h'->s.heap.UpToSlots h'->Q () { s with heap:=h' }):wpAny M A (setFlight (.ref e) none) Q E s:=by
 obtain⟨oe,vs,T,oT,ts,he,hc,hx,hd,h0,h1,hnT,hTe,hT,hdT,h3⟩:=ht;have z3:3<ts.size:=(Array.getElem?_eq_some_iff.mp h3).1;have oth:∀ b,b≠T->(s.heap.update T (Obj.mapFields (·.setIfInBounds 3 ((none:Option Addr).elim Value.none fun f=>rawInt f)))).get? b=s.heap.get? b:=fun b hb=>get?_update_other _ _ (Ne.symm hb);have nr:∀ b o,s.heap.get? b=some o->(∀ vs,o.data≠.fields vs)->b≠T:=fun b o q nf z=>by
  rw [z,hT] at q;cases q;exact nf ts hdT
 unfold setFlight;refine wpAny_bind (wpAny_field he hd h1 ?_);rw [if_pos (show (Value.ref T != Value.none)=true from by simp)];refine wpAny_setField hT hdT z3 (h _ ⟨fun b o q=>(oth b fun z=>by rw [z,hnT] at q; cases q).trans (hkb b o q),hen,hl.of_keeps fun b o q nf=>⟨o,(oth b (nr b o q nf)).trans q,rfl⟩,?_⟩ fun b o q nf=>⟨o.slots,(oth b (nr b o q nf)).trans q⟩);exact⟨oe,vs,T,_,_,(oth e (Ne.symm hTe)).trans he,hc,hx,hd,h0,h1,hnT,hTe,get?_update_self _ hT (Obj.isFreed_of_fields (Obj.data_mapFields hdT _)),Obj.data_mapFields hdT _,by simp [z3]⟩
theorem zlM{base:Heap}{env:Env}{outer:List Env}{L e:Addr}{oe:Obj}{vs:Array Value}{a0:Value}{Q:Unit->Shared->Prop}
  (hfr:A.frames=some (env :: outer)) (hl:s.heap.FunFrames base (env :: outer)) (hf:env.frame=some L)
  (he:s.heap.get? e=some oe) (hkb:base.StaysIn s.heap) (hen:base.get? e=none) (hd:oe.data=.fields vs) (h1:vs[1]? = some .none) (h0:vs[0]? = some a0)
  (h:∀ h',NotedD base (env :: outer) e oe.cls oe.dict a0 (rawInt L) s.heap h'->Q () { s with heap:=h' }):wpAny M A (noteFrame (.ref e) env) Q E s:=by
 unfold noteFrame;simp only [hf];refine wpAny_bind (wpAny_field he hd h1 ?_);rw [if_neg dz];exact zjj hfr hl hf he hkb hen hd (Array.getElem?_eq_some_iff.mp h1).1 h0 h
theorem zjA{base:Heap}{env:Env}{outer:List Env}{L e:Addr}{cls a0:Value}{dx:Option Addr}{Q:Unit->Shared->Prop}
  (hfr:A.frames=some (env :: outer)) (hl:s.heap.FunFrames base (env :: outer)) (hf:env.frame=some L) (ht:RecAt s.heap base e cls dx a0 .none) (hkb:base.StaysIn s.heap) (hen:base.get? e=none)
  (h:∀ h',NotedD base (env :: outer) e cls dx a0 (rawInt L) s.heap h'->Q () { s with heap:=h' }):wpAny M A (noteFrame (.ref e) env) Q E s:=by
 obtain⟨oe,vs,T,oT,ts,he,rfl,rfl,hd,h0,h1,hnT,hTe,hT,hdT,h3⟩:=ht;unfold noteFrame;simp only [hf];refine wpAny_bind (wpAny_field he hd h1 ?_);rw [if_pos (show (Value.ref T != Value.none)=true from by simp)];refine wpAny_bind (wpAny_field hT hdT h3 ?_);rw [if_neg (show ¬ ((Value.none == rawInt L)=true) from by simp [rawInt])];refine wpAny_bind (wpAny_setField hT hdT (Array.getElem?_eq_some_iff.mp h3).1 ?_);have oth:∀ b,b≠T->(s.heap.update T (Obj.mapFields (·.setIfInBounds 3 Value.none))).get? b=s.heap.get? b:=fun b hb=>get?_update_other _ _ (Ne.symm hb);have nr:∀ b o,s.heap.get? b=some o->(∀ vs,o.data≠.fields vs)->b≠T:=fun b o q nf z=>by
  rw [z,hT] at q;cases q;exact nf ts hdT
 refine zjj hfr (hl.of_keeps fun b o q nf=>⟨o,(oth b (nr b o q nf)).trans q,rfl⟩) hf ((oth e (Ne.symm hTe)).trans he)
  (fun b o q=>(oth b fun z=>by rw [z,hnT] at q; cases q).trans (hkb b o q)) hen hd (Array.getElem?_eq_some_iff.mp h1).1 h0
  fun h' x=>h h' ⟨x.stays,x.frames,x.rcd,fun b o q nf=>x.upto b o ((oth b (nr b o q nf)).trans q) nf⟩
theorem zmK{base:Heap}{env:Env}{outer:List Env}{L e:Addr}{cls a0:Value}{dx:Option Addr}{Q:Unit->Shared->Prop}(hfr:A.frames=some (env :: outer))(hf:env.frame=some L)(hfl:FlyD base (env :: outer) e cls dx a0 s.heap)
  (hQ:∀ h',FlyD base outer e cls dx a0 h'->s.heap.UpToSlots h'->Q () { s with heap:=h' }):wpAny M A (leaving env (.ref e)) Q E s:=by
 obtain⟨f1,f2,f3,f4⟩:=hfl;unfold leaving;refine wpAny_bind (zjA hfr f3 hf f4 f1 f2 fun h' x=>?_);refine zdj (s:={ s with heap:=h' }) x.stays f2 x.frames x.rcd fun h2 y u=>hQ h2 ⟨y.1,y.2.1,?_,y.2.2.2⟩ (x.upto.trans u);obtain⟨_,_,k⟩:=y.2.2.1;exact k
theorem ziQ{base:Heap}{env:Env}{outer:List Env}{L e:Addr}{oe:Obj}{vs:Array Value}{a0:Value}{Q:Unit->Shared->Prop}
  (hfr:A.frames=some (env :: outer)) (hl:s.heap.FunFrames base (env :: outer)) (hf:env.frame=some L)
  (he:s.heap.get? e=some oe) (hkb:base.StaysIn s.heap) (hen:base.get? e=none) (hd:oe.data=.fields vs) (h1:vs[1]? = some .none) (h0:vs[0]? = some a0)
  (hQ:∀ h',FlyD base outer e oe.cls oe.dict a0 h'->s.heap.UpToSlots h'->Q () { s with heap:=h' }):wpAny M A (leaving env (.ref e)) Q E s:=by
 unfold leaving;refine wpAny_bind (zlM hfr hl hf he hkb hen hd h1 h0 fun h' x=>?_);refine zdj (s:={ s with heap:=h' }) x.stays hen x.frames x.rcd fun h2 y u=>hQ h2 ⟨y.1,y.2.1,?_,y.2.2.2⟩ (x.upto.trans u);obtain⟨_,_,k⟩:=y.2.2.1;exact k
theorem znS{base:Heap}{env:Env}{outer:List Env}{L e:Addr}{cls a0:Value}{dx:Option Addr}{Q:Unit->Shared->Prop}(hfr:A.frames=some (env :: outer))(hf:env.frame=some L)(hfl:FlyD base (env :: outer) e cls dx a0 s.heap)
  (hQ:∀ h',HeldD base (env :: outer) e cls dx a0 L h'->s.heap.UpToSlots h'->Q () { s with heap:=h' }):wpAny M A (noteFrame (.ref e) env) Q E s:=by
 obtain⟨f1,f2,f3,f4⟩:=hfl;exact zjA hfr f3 hf f4 f1 f2 fun h' x=>hQ h' ⟨x.stays,f2,x.frames,x.rcd⟩ x.upto
theorem ztF{base:Heap}{l:List Env}{e L:Addr}{cls a0:Value}{dx:Option Addr}{Q:Unit->Shared->Prop}(hh:HeldD base l e cls dx a0 L s.heap)(hQ:∀ h',FlyD base l e cls dx a0 h'->s.heap.UpToSlots h'->Q () { s with heap:=h' }):wpAny M A (setFlight (.ref e) none) Q E s:=by
 obtain⟨f1,f2,f3,f4⟩:=hh;exact zdj f1 f2 f3 f4 hQ
theorem zjP{base:Heap}{l:List Env}{e:Addr}{cls a0:Value}{dx:Option Addr}{Q:Unit->Shared->Prop}(hh:FlyD base l e cls dx a0 s.heap)(hQ:∀ h',FlyD base l e cls dx a0 h'->s.heap.UpToSlots h'->Q () { s with heap:=h' }):wpAny M A (setFlight (.ref e) none) Q E s:=by
 obtain⟨f1,f2,f3,f4⟩:=hh;exact zdj f1 f2 f3 f4 hQ
end
theorem HOk.stays{P:Program}{w:World}{H:Hp}{h h':Heap}(x:HOk P w H h)(k:∀ b u,H b=some u->∀ o,h.get? b=some o->h'.get? b=some o):HOk P w H h':=fun a o e =>
 (x a o e).stay (fun b u hb q=>by
  rcases hb with rfl | hb
  ·exact k _ _ e _ q
  ·exact k _ _ hb _ q) (fun _ q=>q) fun _ _ q=>q
theorem ObjOk.obj{P:Program}{w:World}{H:Hp}{h:Heap}{a:Addr}{o:HO}(x:ObjOk P w H h a o):∃ u,h.get? a=some u:=by
 cases o with
 | lst xs=>obtain⟨_,_,_,_,e⟩:=x; exact⟨_,e⟩
 | tup xs=>obtain⟨_,_,_,o,e,_⟩:=x; exact⟨_,e⟩
 | dK kvs=>obtain⟨_,_,_,_,o,_,_,e,_⟩:=x; exact⟨_,e⟩
 | dT kvs=>obtain⟨_,_,_,_,o,_,_,e,_⟩:=x; exact⟨_,e⟩
 | set S n=>obtain⟨o,_,_,_,e,_⟩:=x; exact⟨_,e⟩
 | ins C dx fs=>obtain⟨_,_,_,e,_⟩:=x; exact⟨_,e⟩
 | own y=>exact x
 | xd fs=>obtain⟨_,⟨_,_,_,e,_⟩,_⟩:=x; exact⟨_,e⟩
 | rng lo hi=>obtain⟨_,_,_,e⟩:=x; exact⟨_,e⟩
 | frz ob u=>obtain⟨e,_⟩:=x; exact⟨_,e⟩
 | tbl ps=>obtain⟨_,e,_⟩:=x; exact⟨_,e⟩
 | met f y=>exact⟨_,(show h.get? a=some _ from x)⟩
 | ext φ=>obtain⟨_,e,_⟩:=x; exact e
structure Fly(P:Program)(w:World)(outer:List Env)(H:Hp)(s:Shared)(H':Hp)(a C:Addr)(dx:Option Addr)(s':Shared):Prop where
 os:s'.os=s.os
 bare:AllBare s'.gens
 un:Un (frs outer) [] H H' s.heap s'.heap
 hok:HOk P w H' s'.heap
 fl:∃ B t,FlyD B outer a (.ref C) dx (.ref t) s'.heap/\(∀ b o,s.heap.get? b=some o->H b=none->b∉frs outer->B.get? b=some o)/\(∀ b o,s.heap.get? b=some o->b∈frs outer\/∃ o',B.get? b=some o')/\∀ b u,H' b=some u->∃ o,B.get? b=some o
def CX1(P:Program)(w:World):CXT:=fun outer H s E e s'=>∃ H' a C dx,e=.ref a/\Fly P w outer H s H' a C dx s'/\E (.ref C) (some a) (upd H' a (exO a C dx))
section
variable {P:Program} {w:World} {K:W.Frag} {mg:Str->Option Value} {base:Heap} {N:List Str} {qual:Str} {scope:Scope} {f:Addr} {cd:Value} {A:Around} {outer:List Env} {s:Shared} {H:Hp} {E:XK}
theorem pass1:Passes (CX1 P w) (zgI (CX1 P w) P w K mg base N qual scope f cd A outer s H E) E:=fun zj σ Hc sc e s' I hx=>by
 obtain⟨H',a,C,dx,rfl,F,hE⟩:=hx;obtain⟨B,t,fl,kB,eB,tB⟩:=F.fl;have hfr:(A.deeper (envOfC qual scope s.heap.objs.size f cd)).frames=some (envOfC qual scope s.heap.objs.size f cd :: outer):=I.ok.frames;have nl:∀ b o,s.heap.get? b=some o->b∉frs outer->b∉frs (envOfC qual scope s.heap.objs.size f cd :: outer):=fun b o q hb z=>by
  rcases mem_cons.mp (show b∈s.heap.objs.size :: frs outer from z) with e | e
  ·exact absurd (lt_size q) (by rw [e]; exact lt_irrefl _)
  ·exact hb e
 have nx:∀ b:Addr,b∉([]:List Addr):=fun b=>by simp
 have kp:∀ b o,s.heap.get? b=some o->H b=none->b∉frs outer->B.get? b=some o:=fun b o q n hb=>kB b o (I.base.keep b o q n hb (nx b)) (I.base.free b o q n (nx b)) (nl b o q hb);have ep:∀ b o,s.heap.get? b=some o->b∈frs outer\/∃ o',B.get? b=some o':=fun b o q=>by
  by_cases hb:b∈frs outer
  ·exact .inl hb
  ·obtain⟨o1,q1⟩:=I.base.there b o q (nx b);rcases eB b o1 q1 with z | z
   ·exact absurd z (nl b o q hb)
   ·exact .inr z
 show wpAny _ _ (leaving (envOfC qual scope s.heap.objs.size f cd) (.ref a)) _ _ s';refine zmK hfr rfl fl fun h' fl' sm=>⟨H',a,C,dx,rfl,⟨F.os.trans I.os,F.bare,⟨fun b o q n hb _=>fl'.1 b o (kp b o q n hb),fun b o q n hb _=>?_,fun b o q n _=>?_,fun b o q _=>?_,fun b xs q=>F.un.tups b xs (I.base.tups b xs q),fun b o u q=>F.un.frzs b o u (I.base.frzs b o u q),fun b ps q=>?_⟩,
  F.hok.stays fun b u e o q=>?_,B,t,fl',kp,ep,tB⟩,hE⟩
 ·obtain⟨sl,q1⟩:=I.base.slot b o q n hb (nx b);obtain⟨sl2,q2⟩:=F.un.any q1 (I.base.free b o q n (nx b)) (nx b);obtain⟨_,o3,q3,nf⟩:=fl.2.2.1.mem (show b∈frs (envOfC qual scope s.heap.objs.size f cd :: outer) from mem_cons_of_mem _ hb);rw [q2] at q3;cases q3;obtain⟨sl3,q4⟩:=sm b _ q2 nf;exact⟨sl3,q4⟩
 ·obtain⟨o1,q1⟩:=I.base.there b o q (nx b);exact F.un.free b o1 q1 (I.base.free b o q n (nx b)) (nx b)
 ·rcases ep b o q with z | ⟨o',z⟩
  ·obtain⟨_,o3,q3,_⟩:=fl'.2.2.1.mem (show b∈frs outer from z);exact⟨o3,q3⟩
  ·exact⟨o',fl'.1 b o' z⟩
 ·exact F.un.tbls b _ (I.base.tbls b ps q)
 ·obtain⟨o',z⟩:=tB b u e;have:=fl.1 b o' z;rw [q] at this;cases this;exact fl'.1 b o z
end
end
section
def veB:List Value:=[.type "ValueError",.type "Exception",.type "BaseException",.type "object"]
theorem zuE{K:W.Frag}{h:Heap}{N:Addr}{mg:Str->Option Value}{n:Str}{v:Value}(X:K.In h)(G:h.Ns N mg)(e:W.nsIn K N n=some (some v)):mg n=some v:=by
 obtain⟨o,es,ep,ho,hd,_,hf⟩:=G;unfold W.nsIn at e;split at e
 ·rename_i c d es' n' sl q;have:=X _ _ q;rw [ho] at this;cases this;cases hd;split at e
  ·rename_i en he;cases e;rw [<- hf];unfold nsFind findBy;rw [<- Array.find?_toList,he];rfl
  ·split at e <;> cases e
 ·cases e
structure ExCls(K:W.Frag)(C:Addr)(ini:Option Value):Prop where
 ob:∀ h,K.In h->∃ bm N nm qn bs hd sn sub ab col dd k0 k1 k2 k3 k5 mN,h.get? C=some (excClassObj nm qn C N bs bm hd sn sub ab col dd k0 k1 k2 k3 k5 "ValueError.__new__")/\h.Ns N mN/\mN "__init__" = ini/\OwnTail h veB bm/\∀ D,W.mroIn K C D=some ((Value.ref C :: bm).contains D)
 ty:(W.clsIn K C).isSome=true/\W.typeIn K (.ref C)=some (.type "type")
theorem exc_of_in{K:W.Frag}{C:Addr}(q:W.excIn K C veB "ValueError.__new__" = true):ExCls K C none:=by
 unfold W.excIn at q;split at q
 ·rename_i dd cd sl ho;split at q
  ·rename_i C' bm k0 k1 k2 k3 n k5 hm hs;simp only [Bool.and_eq_true,beq_iff_eq,Bool.not_eq_true'] at q;obtain⟨⟨⟨⟨⟨rfl,rfl⟩,hdel⟩,ht⟩,hok⟩,hni⟩:=q;obtain⟨nm,bs,mro,ns,qn,hd,sn,sub,ab,col,del⟩:=cd;dsimp only at hm hdel hok hni;subst hm hdel;have hsl:sl = #[k0,k1,k2,k3,some (.builtin "ValueError.__new__"),k5]:=by
    obtain⟨l⟩:=sl;simp only at hs;rw [hs]
   subst hsl;refine⟨fun h X=>⟨bm,ns,nm,qn,bs,hd,sn,sub,ab,col,dd,k0,k1,k2,k3,k5,h.nsMap ns,X _ _ ho,.of_isNs (W.isNs_of_in X hok),W.ns_none_of X (.of_isNs (W.isNs_of_in X hok)) hni,W.tail_of_in X ht,fun D=>?_⟩,?_,?_⟩
   ·unfold W.mroIn W.clsIn;rw [ho];rfl
   ·unfold W.clsIn;rw [ho];rfl
   ·show Option.map (fun x:Obj=>x.cls) (K.lookup C')=_;rw [ho];rfl
  ·cases q
 ·cases q
section
variable {K:W.Frag} {h:Heap} {C G:Addr} {ini iniG:Option Value}
variable {M:Model} {A:Around} {E:Value->Shared->Prop} {g:Array GenState} {d:Drawn} {t:Nat} {os:OsState} {e:Addr} {oe:Obj} {Q:Bool->Shared->Prop}
theorem zg1(X:K.In h)(qC:ExCls K C ini)(qG:ExCls K G iniG)(he:h.get? e=some oe)(hcls:oe.cls=.ref C)(hin:W.mroIn K C (.ref G)=some true)(hq:Q true ⟨h,g,d,t,os⟩):wpAny M A (excMatches (.ref e) (.ref G)) Q E ⟨h,g,d,t,os⟩:=by
 obtain⟨tl,N,nm,qn,bs,hd,sn,sub,ab,col,dd,k0,k1,k2,k3,k5,mN,hC,_,_,T,mr⟩:=qC.ob h X;obtain⟨tlG,N',nm',qn',bs',hd',sn',sub',ab',col',dd',j0,j1,j2,j3,j5,mN',hG,_,_,T',_⟩:=qG.ob h X;replace hin:(Value.ref C :: tl).contains (.ref G)=true:=by rw [mr] at hin; exact Option.some.inj hin
 have hcB:(Value.ref G :: tlG).contains (.type "BaseException")=true:=by rw [List.contains_cons,T'.hasType (b:=true) (by decide +kernel),Bool.or_true]
 have f:=tc_notTuple;unfold excMatches
 repeat (first | (with_reducible refine wpAny_loadPart_at he ?_; rw [hcls]) | with_reducible refine wpAny_loadPart_at hG ?_ | (with_reducible refine wpAny_isSubtype_exc hG ?_; rw [hcB]) | (with_reducible refine wpAny_isSubtype_exc hC ?_; rw [hin]) | wp_step)
 exact hq
end
end
section
def PEX(X:Cx)(e:Expr)(t:XK->TE):Prop:=∀ (zj:List (Addr×Obj)) (s:Shared) (σ:St) (H:Hp) (Q:VK) (Ex:XK) (E':Value->Shared->Prop),Inv X zj σ H s->t Ex σ H Q ->
 (∀ H1 s1 v s',Inv X zj σ H1 s1->CX1 X.prog X.w X.stack H1 s1 Ex v s'->E' v s')->wpAny (model X.prog X.w) X.A (eval e X.env) (EP X zj σ Q) E' s
def PSX(X:Cx)(st:Stmt)(t:XK->TS):Prop:=∀ (zj:List (Addr×Obj)) (s:Shared) (σ:St) (H:Hp) (D:Ends) (Ex:XK) (E':Value->Shared->Prop),Inv X zj σ H s->t Ex D σ H ->
 (∀ H1 s1 v s',Inv X zj σ H1 s1->CX1 X.prog X.w X.stack H1 s1 Ex v s'->E' v s')->wpAny (model X.prog X.w) X.A (exec st X.env) (SP X zj D) E' s
section
variable {X:Cx} {k:Nat} {f:Addr} {fd:FuncData} {ps:List Str} {sp:Sp} {x:Str} {p pos:Pos} {e e1:Expr} {es:List Expr} {t:TA} {te:TE} {tx:XK->TE}
theorem zrI(hx:∀ e s,X.xe e s->False)(F:FnOk X.prog X.w X.K X.mg X.base (CX1 X.prog X.w) k f fd ps sp)(hr:Room k X.A)(hg:Gl X x)(hm:X.mg x=some (.ref f))(hk:W.keepIn X.K (.ref f)=true)(hb:Binds X.K fd ps [])
  (ha:PA X (e :: es) t) (hdb:(x == ("__debug__":Str))=false:=by decide) (he:starEach (e :: es) X.env=(false,eval e X.env) :: starEach es X.env:=by rfl) (hpl:(backTo pos (starEach es X.env)).any (·.1)=false:=by rfl) :
  PEX X (.Call (.Name x p) (e :: es) [] pos) (fun Ex σ H Q=>t σ H fun vs H1=>sp vs H1 Q Ex):=by
 intro zj s σ H Q Ex E' I h hX;refine wpAny_Call_Name_kw (zfj I hg hm ?_ hdb);refine W.callWith_K (h₀:=X.base) I.ok.mod.kin hk (wpAny_mono (ha pos zj s σ H _ I h) (fun us s1 ⟨vs,H1,I1,r,q⟩=>⟨I1.kIn,?_⟩) fun _ _ z=>(hx _ _ z).elim) he hpl;have hl:us.length=ps.length:=by rw [<- r.length]; exact F.len _ _ _ _ q
 have hb1:=hb s1 us I1.kIn (by rw [append_nil]; exact hl);rw [append_nil] at hb1;refine wpAny_call (codeAny_mono (F.run X.A X.stack s1 H1 ⟨us,[]⟩ us vs Q Ex hr I1.env0 hb1 r q) fun r s' hq=>?_);cases r with
 | error e=>exact hX H1 s1 e s' I1 hq
 | ok fl =>
  cases fl with
  | ret u=>exact I1.after hq
  | next=>exact False.elim hq
  | brk=>exact False.elim hq
  | cont=>exact False.elim hq
theorem znE(he:PEX X e tx)(hs:swapsWith e none pos.line X.env=pure false:=by rfl):PSX X (.Expr e pos) (fun Ex=>zoU (tx Ex)):=by
 intro zj s σ H D Ex E' I h hX;exact wpAny_Expr_any (thn (he zj s σ H _ Ex E' I h hX) fun v s1 ⟨x,H1,I1,r1,q1⟩=>⟨σ,H1,I1,q1⟩) I.quiet hs
end
theorem zsE{P:Program}{w:World}{H:Hp}{h:Heap}{a C:Addr}{o:Obj}(e:h.get? a=some o)(c:o.cls=.ref C)(hf:∃ vs,o.data=.fields vs):ObjOk P w H h a (exO a C o.dict) :=
 ⟨⟨o,e,c,rfl,hf⟩,⟨o,e⟩,fun h1 h2 ⟨o,e,c,d⟩ k=>⟨o,k o e,c,d⟩⟩
abbrev Cx.suite (X:Cx) (a:Addr):Cx:={ X with A:=X.A.mark (some (.ref a)),calm:=false,xe:=fun _ _=>False }
theorem Cx.Ok.suite{X:Cx}(ok:X.Ok)(a:Addr):(X.suite a).Ok :=
 ⟨ok.mod,ok.kind,ok.glob,ok.blt,ok.above,ok.inj,ok.has,ok.cab,(fun z=>Bool.noConfusion z),ok.frames,ok.stk,ok.exf,ok.bs,ok.bsz,ok.noex,ok.exfs,ok.funs,ok.frf⟩
section
variable {X:Cx} {zj:List (Addr×Obj)} {σ:St} {H:Hp} {s:Shared} {a:Addr}
theorem Inv.suite(I:Inv X zj σ H s)(a:Addr):Inv (X.suite a) zj σ H s:=⟨I.ok.suite a,I.os,I.bare,I.base,I.loc,I.cell,I.free,I.freeC,I.pin,I.hok,I.len⟩
theorem Inv.unsuite(I:Inv (X.suite a) zj σ H s)(ok:X.Ok):Inv X zj σ H s:=⟨ok,I.os,I.bare,I.base,I.loc,I.cell,I.free,I.freeC,I.pin,I.hok,I.len⟩
theorem Inv.gone{h':Heap}{m':Str->Option Value}{t':Nat}(I:Inv X zj σ H s)(hn:h'.Ns X.env.locals m')(sb:Heap.SameBut X.env.locals s.heap h'):Inv X zj (List.replicate X.N.length none) H { s with heap:=h',toks:=t' }:=by
 have ne:∀ b o,X.s₀.heap.get? b=some o->b≠X.env.locals:=fun b o e=>ne_of_lt (lt_of_lt_of_le (lt_size e) I.ok.above);refine⟨I.ok,I.os,I.bare,⟨fun b o e n hb hx=>?_,fun b o e n hb hx=>?_,I.base.free,fun b o e hx=>?_,I.base.tups,I.base.frzs,I.base.tbls⟩,⟨m',hn,fun i x v _ e2 _=>?_⟩,fun x c e=>?_,I.free,I.freeC,fun p hp=>?_,I.hok.stays fun b u e o q=>?_,by simp⟩
 ·exact(sb.2 b (ne b o e)).trans (I.base.keep b o e n hb hx)
 ·obtain⟨sl,q⟩:=I.base.slot b o e n hb hx;exact⟨sl,(sb.2 b (ne b o e)).trans q⟩
 ·obtain⟨o',q⟩:=I.base.there b o e hx;exact⟨o',(sb.2 b (ne b o e)).trans q⟩
 ·rw [List.getElem?_replicate] at e2;split at e2 <;> cases e2
 ·obtain⟨v,o,ho,hd⟩:=I.cell x c e;exact⟨v,o,(sb.2 c (I.cne x c e)).trans ho,hd⟩
 ·obtain⟨e,n,ne',nf,d⟩:=I.pin p hp;exact⟨(sb.2 _ ne').trans e,n,ne',nf,d⟩
 ·refine(sb.2 b ?_).trans q;rintro rfl;rw [I.free] at e;cases e
end
end
section
structure RoomN(k:Nat)(A:Around):Prop where
 dp:A.depth+3*k+5<recursionLimit
 un:A.units+16*k+200<cLine
theorem Room.suite{k:Nat}{A:Around}(r:Room k A)(a:Addr):RoomN k (A.mark (some (.ref a))):=⟨r.dp,r.un⟩
theorem RoomN.mono{j k:Nat}{A:Around}(r:RoomN k A)(h:j<=k):RoomN j A:=⟨by have:=r.dp; omega,by have:=r.un; omega⟩
theorem RoomN.deeper{k:Nat}{A:Around}(r:RoomN (k+1) A)(env:Env):RoomN k (A.deeper env) :=
 ⟨by have:=r.dp; show A.depth+1+3*k+5<_; omega,by have:=r.un; show A.units+3+16*k+200<_; omega⟩
theorem RoomN.depth{k:Nat}{A:Around}(r:RoomN k A):A.depth<recursionLimit:=by have:=r.dp; omega
theorem RoomN.units{k:Nat}{A:Around}(r:RoomN k A):A.units+64<cLine:=by have:=r.un; omega
structure FnOkN(P:Program)(w:World)(K:W.Frag)(mg:Str->Option Value)(base:Heap)(CX:CXT)(k:Nat)(f:Addr)(fd:FuncData)(ps:List Str)(sp:Sp):Prop where
 len:∀ vs H Q E,sp vs H Q E->vs.length=ps.length
 run:∀ (A:Around) (outer:List Env) (s:Shared) (H:Hp) (args:Args) (us:List Value) (vs:List V) (Q:VK) (E:XK),RoomN k A->Env0 P w K mg base A outer s H->BindsTo s fd args (ps.zip us)->Vals vs us->sp vs H Q E ->
  codeAny (model P w) A (.call (.ref f) args) (CR CX outer P w H s Q E) s
abbrev cxN (P:Program) (w:World) (K:W.Frag) (mg:Str->Option Value) (base:Heap) (N:List Str) (qual:Str) (scope:Scope) (f:Addr) (cd:Value) (A:Around) (outer:List Env) (s:Shared) (H:Hp):Cx :=
 { zgI CX0 P w K mg base N qual scope f cd A outer s H E0 with calm:=false,xe:=fun _ _=>False }
section
variable {P:Program} {w:World} {K:W.Frag} {mg:Str->Option Value} {base:Heap} {k:Nat}
theorem zsv{f:Addr}{name qual:Str}{params:Arguments}{body:List Stmt}{scope:Scope}{dV kV doc pm cdv ct oc:Value}{an od:Option Addr}
  {osl:Array (Option Value)} {N ps:List Str} {sp:Sp} (lk:K.lookup f=some ⟨oc,od,.func (W.fnOf name qual params body scope dV kV doc pm an cdv ct),osl⟩) (hcd:W.codeIn K cdv qual=true) (S:FnScope N ps scope)
  (len:∀ vs H Q E,sp vs H Q E->vs.length=ps.length)
  (hbody:∀ (A:Around) (outer:List Env) (s:Shared) (H:Hp) (vs:List V) (Q:VK) (E:XK),RoomN k (A.deeper (envOfC qual scope s.heap.objs.size f cdv))->sp vs H Q E ->
   ∃ t,PSs (cxN P w K mg base N qual scope f cdv A outer s H) body t/\t { nx:=fun _ H'=>Q .non H',rt:=Q } (start N vs) H) :
  FnOkN P w K mg base CX0 (k+1) f (W.fnOf name qual params body scope dV kV doc pm an cdv ct) ps sp:=by
 refine⟨len,fun A outer s H args us vs Q E hr e0 hb r hsp=>?_⟩;have hl:=len _ _ _ _ hsp;have KX:K.In s.heap:=e0.mod.kin.keeps fun b o e=>(e0.bs b o e).1;have lim:s.heap.NoLimit:=e0.mod.nolimit.keeps fun b o e=>(e0.bs b o e).1;have hkind:∀ y∈ps.zip us,scope.names.lookup y.1=some .local\/(scope.names.lookup y.1=some .cell/\((cellsFrom (s.heap.objs.size+1) scope.names []).lookup y.1).isSome=true):=fun⟨n,v⟩ hy=>by
  rcases S.par n (of_mem_zip hy).1 with q | q
  ·exact .inl q
  ·exact .inr ⟨q,W.cellsFrom_some _ _ _ (.inl q)⟩
 refine codeAny_call_function hr.depth (KX _ _ lk) rfl S.co S.gen rfl (W.codeRec_of KX hcd) (hb _ _ _ _ ?_);refine wpAny_newFunctionEnv_cells S.kind hkind fun env he s1 x=>?_;subst he;refine⟨lim.keeps x.toInCall.keep,codeAny_func ?_⟩;obtain⟨t,ht,hq⟩:=hbody A outer s H vs Q E (hr.deeper _) hsp;have e1:Env0 P w K mg base { A with handled:=none } outer s H:=⟨e0.frames,e0.mod,e0.bs,e0.bsz,e0.funs,e0.frf,e0.hok,e0.bare⟩;have I0:Inv (zgI CX0 P w K mg base N qual scope f cdv { A with handled:=none } outer s H E0) [] (start N vs) H s1:=zgG S rfl e1 hl r x;have I:Inv (cxN P w K mg base N qual scope f cdv A outer s H) [] (start N vs) H s1 :=
  ⟨⟨I0.ok.mod,I0.ok.kind,I0.ok.glob,I0.ok.blt,I0.ok.above,I0.ok.inj,I0.ok.has,I0.ok.cab,(fun z=>Bool.noConfusion z),Around.frames_deeper e0.frames,I0.ok.stk,I0.ok.exf,I0.ok.bs,I0.ok.bsz,I0.ok.noex,I0.ok.exfs,I0.ok.funs,I0.ok.frf⟩,
   I0.os,I0.bare,I0.base,I0.loc,I0.cell,I0.free,I0.freeC,I0.pin,I0.hok,I0.len⟩
 refine wpAny_mono (ht [] s1 (start N vs) H _ I hq) (fun fl s' hs=>?_) fun e s' hs=>hs.elim;have fin:∀ {σ':St} {H':Hp} {v:V} {u:Value},Inv (cxN P w K mg base N qual scope f cdv A outer s H) [] σ' H' s'->RelV v u->Q v H'->CE outer P w H s Q u s' :=
  fun {σ' H' v u} J rv q=>⟨v,H',J.os,J.bare,J.base,J.hok,rv,q⟩
 cases fl with
 | ret u =>
  obtain⟨v,σ',H',J,rv,q⟩:=hs;exact fin J rv q
 | next =>
  obtain⟨σ',H',J,q⟩:=hs;exact fin (v:=V.non) (u:=Value.none) J rfl q
 | brk =>
  obtain⟨_,_,_,q⟩:=hs;exact False.elim q
 | cont =>
  obtain⟨_,_,_,q⟩:=hs;exact False.elim q
end
structure DfN(P:Program)(w:World)(K:W.Frag)(mg:Str->Option Value)(base:Heap)(x:Str)(ps:List Str)(k:Nat)(sp:Sp):Prop where
 ex:∃ f fd,FnOkN P w K mg base CX0 k f fd ps sp/\mg x=some (.ref f)/\W.keepIn K (.ref f)=true/\Binds K fd ps []
section
variable {P:Program} {w:World} {K:W.Frag} {mg:Str->Option Value} {base:Heap} {x:Str} {st:Stmt} {N ps:List Str} {k:Nat}
theorem DfN.dN{q:PN}(D:Dd K mg x st ps)(S:FnScope N ps (zf st))(n:Nat)(hn:N.length=ps.length+n)
  (hbody:∀ (f:Addr) (cdv:Value) (A:Around) (outer:List Env) (s:Shared) (H:Hp),RoomN k (A.deeper (envOfC x (zf st) s.heap.objs.size f cdv)) ->
   ∃ t dt,PSs (cxN P w K mg base N x (zf st) f cdv A outer s H) (zaO st) t/\RS t dt/\∀ xs S R,q xs S R->dt (zbk S.length R) (xs.map some++List.replicate n none) S):DfN P w K mg base x ps (k+1) (spN ps q):=by
 obtain⟨f,fd,F,hm,hb⟩:=D.ex;have kp:=F.kp;obtain⟨oc,od,kV,doc,pm,an,cdv,ct,osl,rfl,lk,hcd⟩:=F.ex;refine⟨f,_,zsv lk hcd S (fun vs H Q E h=>h.1) fun A outer s H vs Q E hr ⟨hl,h,o,S',xs,R,hs',hx,hq,c⟩=>?_,hm,kp,hb⟩;obtain⟨t,dt,h1,h2,h3⟩:=hbody f cdv A outer s H hr;refine⟨t,h1,h2 h o H _ _ S' _ _ ?_ hs' (h3 xs S' R hq) (eok hs' c)⟩;have e:N.length - vs.length=n:=by omega
 unfold start;rw [e];exact zbx hx
end
section
variable {X:Cx} {x:Str} {ps:List Str} {k j:Nat} {pos pos':Pos} {e:Expr} {es:List Expr} {t:TA}
theorem zj3{q:PN}(D:DfN X.prog X.w X.K X.mg X.base x ps k (spN ps q))(hr:RoomN j X.A)(hk:k<=j)(ha:PA X (e :: es) t)(hg:Gl X x:=by rfl)(hdb:(x == ("__debug__":Str))=false:=by decide)
  (q1:starEach (e :: es) X.env=(false,eval e X.env) :: starEach es X.env:=by rfl) (q2:((backTo pos (starEach es X.env)).any fun x=>x.fst)=false:=by rfl):PE X (.Call (.Name x pos') (e :: es) [] pos) (zgu (spN ps q) [] E0 t):=by
 obtain⟨f,fd,F,hm,kp,hb⟩:=D.ex;intro zj s σ H Q I h;refine wpAny_Call_Name_kw (zfj I hg hm ?_ hdb);refine W.callWith_K (h₀:=X.base) I.ok.mod.kin kp (thn (ha pos zj s σ H _ I h) fun us s1 ⟨vs,H1,I1,r,q5⟩=>⟨I1.kIn,?_⟩) q1 q2;have q':spN ps q vs H1 Q E0:=by simpa using q5
 have hl:us.length=ps.length:=by rw [<- r.length]; exact F.len _ _ _ _ q'
 have hb1:=hb s1 us I1.kIn (by rw [append_nil]; exact hl);rw [append_nil] at hb1;refine wpAny_call (codeAny_mono (F.run X.A X.stack s1 H1 ⟨us,[]⟩ us vs Q E0 (hr.mono hk) I1.env0 hb1 r q') fun r s' hq=>?_);cases r with
 | error e=>exact hq.elim
 | ok fl =>
  cases fl with
  | ret u=>exact I1.after hq
  | next=>exact False.elim hq
  | brk=>exact False.elim hq
  | cont=>exact False.elim hq
end
end
end L2
namespace L2
open PySem PySem.Spec PySem.Calls PyProof.Rows PySem.W PySem.Builtin PySem.Builtin.ObjectAttr PySem.Builtin.Getset_descriptor
section
variable {prog:Program} {w:World} {A:Around} {E:Value->Shared->Prop} {h:Heap} {g:Array GenState} {d:Drawn} {t:Nat} {os:OsState} {K:W.Frag} {x C:Addr} {ox:Obj} {od:Option Obj} {name:Str} {tk:Tok}
theorem zrP{tp:Value}{R:Result->Shared->Prop}(X:K.In h)(T0:∀ M,Looks M h (typeOf (.ref x)) (.ref C))(hm:mroIn K C (.type "object")=some true)
  (hr:R (.ok (.ret (.ref C))) ⟨h,g,d,t,os⟩):codeAny (model prog w) A (.call (.builtin "getset_descriptor.__get__") ⟨[.builtin "object.__class__",.ref x,tp],[]⟩) R ⟨h,g,d,t,os⟩:=by
 have L0:=T0 (model prog w);have L1:=looks_mroIn (M:=model prog w) X hm;refine codeAny_call_builtin KF.slot_gs.plain KF.entry_gs (KF.slot_gs.check _ _ _ _ _ _ _ _ KF.type_class (KF.args_gs _ _ _) ?_);unfold Builtin.«getset_descriptor.__get__» descrGet;rw [dga_obj];refine wpAny_bind (wpAny_pure ?_);unfold descrGetter descrCheckInstance descrNameAndClass isInstance;simp only [KF.owner_class]
 repeat lk
 refine⟨Code.quiet_builtin _ (by decide +kernel),codeAny_builtin KF.entry_class ?_⟩;unfold Builtin.«object.__class__» shownTypeOf
 repeat lk
 exact hr
theorem zon{M:Model}{a gt:Value}(X:K.In h)(ha:findIn K (.ref C) name=some (some a))(hg:specialIn K a "__get__" = some (some gt))(hd:takesIn K a=some true):Looks M h (find (.ref x) (.ref C) name) (.bind gt a):=by
 have L1:=looks_findIn (M:=M) X ha;have L2:Looks M h (getOf (some a)) (some gt):=looks_specialIn X hg;refine L1.andThen (L2.andThen ?_);have L3:=looks_takesIn (M:=M) X hd;exact(show Looks M h (dataDescriptor? (some a) (some gt)) (some (gt,a)) from L3.andThen .now).andThen (Looks.tag .now)
theorem zpy{M:Model}{nameV:Value}{Q:Unit->Shared->Prop}(X:K.In h)(T0:∀ M,Looks M h (typeOf (.ref x)) (.ref C))(hB:mroIn K C (.type "BaseException")=some true)(hq:Q () ⟨h,g,d,t,os⟩):
  wpAny M A (checkBuiltinCall "BaseException.__getattribute__" ⟨[.ref x,nameV],[]⟩) Q E ⟨h,g,d,t,os⟩:=by
 have hk:builtinKind "BaseException.__getattribute__" = some .slot:=by decide +kernel
 have hsplit:splitId "BaseException.__getattribute__" = some ("BaseException","__getattribute__"):=by decide +kernel
 have ha:=F.args_bexc_ga (.ref x) nameV;simp only [checkBuiltinCall,hk,hsplit];refine wpAny_bind ?_;have L0:=T0 M;have L1:=looks_mroIn (M:=M) X hB;have L2:Looks M h (isInstance (.ref x) (.type "BaseException")) true:=L0.andThen L1;refine L2.at ?_
 repeat (any_goals (first | assumption | wp_step))
theorem zg0{v:Value}{Q:Fin->Shared->Prop}(X:K.In h)(T0:∀ M,Looks M h (typeOf (.ref x)) (.ref C))(hf:Looks (model prog w) h (find (.ref x) (.ref C) name) (.value v))(hq:Q (.done (.ret v)) ⟨h,g,d,t,os⟩):
  wpAny (model prog w) A (Builtin.«object.__getattribute__» ⟨[.ref x,.str name tk],[]⟩) Q E ⟨h,g,d,t,os⟩:=by
 have L0:=T0 (model prog w);have L1:=hf;unfold Builtin.«object.__getattribute__»
 repeat (any_goals (first | assumption | with_reducible refine L0.at ?_ | with_reducible refine L1.at ?_ | wp_step))
theorem zg6{Q:Fin->Shared->Prop}(X:K.In h)(T0:∀ M,Looks M h (typeOf (.ref x)) (.ref C))(hm:mroIn K C (.type "object")=some true)(hf:Looks (model prog w) h (find (.ref x) (.ref C) "__class__") (.bind (.builtin "getset_descriptor.__get__") (.builtin "object.__class__")))
  (hq:Q (.done (.ret (.ref C))) ⟨h,g,d,t,os⟩):wpAny (model prog w) A (Builtin.«object.__getattribute__» ⟨[.ref x,.str "__class__" tk],[]⟩) Q E ⟨h,g,d,t,os⟩:=by
 have L0:=T0 (model prog w);have L1:=hf;unfold Builtin.«object.__getattribute__»
 repeat (any_goals (first | assumption | with_reducible refine L0.at ?_ | with_reducible refine L1.at ?_ | (refine wpAny_call (zrP X T0 hm ?_)) | wp_step))
structure ExAt(K:W.Frag)(C:Addr):Prop where
 ga:findIn K (.ref C) "__getattribute__" = some (some (.builtin "BaseException.__getattribute__"))
 gn:findIn K (.ref C) "__getattr__" = some none
 base:mroIn K C (.type "BaseException")=some true
theorem zsP{v:Value}{fill expr:Bool}{Q:Value->Shared->Prop}(X:K.In h)(T0:∀ M,Looks M h (typeOf (.ref x)) (.ref C))(F0:ExAt K C)
  (en:∀ (A:Around) (Q:Fin->Shared->Prop) (E:Value->Shared->Prop),Q (.done (.ret v)) ⟨h,g,d,t,os⟩->wpAny (model prog w) A (Builtin.«object.__getattribute__» ⟨[.ref x,.str name tk],[]⟩) Q E ⟨h,g,d,t,os⟩)
  (hv:handedIn v=true) (hq:Q v ⟨h,g,d,t,os⟩):wpAny (model prog w) A (getAttrBy (.ref x) (.str name tk) fill expr) Q E ⟨h,g,d,t,os⟩:=by
 have f3:=F.attrBase_ValueError.ga.bind (.ref x);have hx0:(expr && onTheHeap (Value.builtin "BaseException.__getattribute__"))=false:=by cases expr <;> rfl
 have hx2:(Value.builtin "BaseException.__getattribute__" == Value.builtin "object.__getattribute__")=false:=by decide +kernel
 have hx1:(onTheHeap (Value.ref C) && Value.builtin "BaseException.__getattribute__" == Value.builtin "object.__getattribute__")=false:=by rw [hx2]; rfl
 have L0:=T0 (model prog w);have L1:=looks_findIn (M:=model prog w) X F0.ga;have L2:=looks_findIn (M:=model prog w) X F0.gn
 repeat (any_goals (first | assumption | with_reducible refine L0.at ?_ | with_reducible refine L1.at ?_ | with_reducible refine L2.at ?_ | wp_step))
 exact codeAny_call_builtin F.attrBase_ValueError.ga.plain F.entry_bexc_ga (zpy X T0 F0.base (en _ _ _ (handed_on hv hq)))
theorem zoP{Q:Option Value->Shared->Prop}(X:K.In h)(T0:∀ M,Looks M h (typeOf (.ref x)) (.ref C))(F0:ExAt K C)(hm:mroIn K C (.type "object")=some true)(hf:Looks (model prog w) h (find (.ref x) (.ref C) "__class__") (.bind (.builtin "getset_descriptor.__get__") (.builtin "object.__class__")))
  (hq:Q (some (.ref C)) ⟨h,g,d,t+1,os⟩):wpAny (model prog w) A (getAttr? (.ref x) "__class__") Q E ⟨h,g,d,t,os⟩:=by
 unfold getAttr? getAttrBy?;refine wpAny_bind (wpAny_mkText (wpAny_bind (wpAny_attempt (zsP (t:=t+1) X T0 F0 (fun A Q E q=>zg6 X T0 hm hf q) rfl ?_))));exact wpAny_pure hq
theorem zrT{v:Value}{expr:Bool}{Q:Value->Shared->Prop}(X:K.In h)(T0:∀ M,Looks M h (typeOf (.ref x)) (.ref C))(F0:ExAt K C)(hf:Looks (model prog w) h (find (.ref x) (.ref C) name) (.value v))(hv:handedIn v=true)
  (hq:Q v ⟨h,g,d,t+1,os⟩):wpAny (model prog w) A (getAttr (.ref x) name expr) Q E ⟨h,g,d,t,os⟩:=by
 unfold getAttr;exact wpAny_bind (wpAny_mkText (zsP (t:=t+1) X T0 F0 (fun A Q E q=>zg0 X T0 hf q) hv hq))
end
end L2
namespace L2
open PySem PySem.Spec PySem.Calls PyProof.Rows
structure SpK(K:W.Frag):Prop where
 hn:W.specialIn K (.builtin "object.__class__") "__get__" = some (some (.builtin "getset_descriptor.__get__"))
 ht:W.takesIn K (.builtin "object.__class__")=some true
def exM(C:Addr):List Value:=[.ref C,.ref 24,.type "ValueError",.type "Exception",.type "BaseException",.type "object"]
structure ExK(K:W.Frag)(C:Addr):Prop where
 ty:W.typeIn K (.ref C)=some (.type "type")
 ga:W.findIn K (.ref C) "__getattribute__" = some (some (.builtin "BaseException.__getattribute__"))
 gn:W.findIn K (.ref C) "__getattr__" = some none
 cls:W.findIn K (.ref C) "__class__" = some (some (.builtin "object.__class__"))
 mro:∃ cd,W.clsIn K C=some cd/\cd.mro=exM C
theorem ExK.mk'{K:W.Frag}{C:Addr}{cd:ClassData}(a:W.typeIn K (.ref C)=some (.type "type"))(b:W.findIn K (.ref C) "__getattribute__" = some (some (.builtin "BaseException.__getattribute__")))(c:W.findIn K (.ref C) "__getattr__" = some none)
  (d:W.findIn K (.ref C) "__class__" = some (some (.builtin "object.__class__"))) (e:W.clsIn K C=some cd) (f:cd.mro=exM C):ExK K C:=⟨a,b,c,d,cd,e,f⟩
section
variable {K:W.Frag} {x C D:Addr}
theorem ExK.mroIn(E:ExK K C)(v:Value):W.mroIn K C v=some ((exM C).contains v):=by
 obtain⟨cd,h1,h2⟩:=E.mro;unfold W.mroIn;rw [h1];show (if cd.mro.isEmpty=true then none else some (cd.mro.contains v))=_;rw [h2];rfl
theorem ExK.at_(E:ExK K C):ExAt K C:=⟨E.ga,E.gn,(E.mroIn _).trans rfl⟩
def IsEx(x C:Addr)(h:Heap):Prop:=∃ o,h.get? x=some o/\o.cls=.ref C
theorem IsEx.ty{h:Heap}(p:IsEx x C h)(M:Model):W.Looks M h (typeOf (.ref x)) (.ref C):=by
 obtain⟨o,e,c⟩:=p;exact c▸(W.Looks.ld e).andThen .now
theorem zoW(E0:ExK K C)(S0:SpK K):W.KitX K (.ref x) (.ref C) (IsEx x C) where
 ty:=fun M h _ p=>p.ty M
 it:=fun M h X _=>by
  obtain⟨cd,hc,_⟩:=E0.mro;unfold W.clsIn at hc;split at hc
  ·rename_i c' d' cd' sl' ho;intro A' Q' E' s' k q;unfold isType loadHead;exact wpAny_bind (wpAny_loadPart (k _ _ (X _ _ ho)) (wpAny_pure q))
  ·cases hc
 ne:=fun h tp dd its n sl X htp=>by
  obtain⟨cd,hc,_⟩:=E0.mro;refine Bool.eq_false_iff.mpr fun q=>?_;have e:C=tp:=Value.ref.inj (beq_iff_eq.mp q);subst e;unfold W.clsIn at hc;split at hc
  ·rename_i c' d' cd' sl' ho;have z:=(X _ _ ho).symm.trans htp;cases z
  ·cases hc
 ca:=fun {prog w A E Q s} X p k=>by
  obtain⟨h,g,d,t,os⟩:=s;exact zoP X p.ty E0.at_ ((E0.mroIn _).trans rfl) (zon X E0.cls S0.hn S0.ht) k
def excs:List Addr:=[37,49,61,73,85,104,123,142,161,180]
def exc0:List Addr:=[37,49,61,73,85]
structure Exs(K:W.Frag):Prop where
 sp:SpK K
 all:∀ C∈excs,ExK K C
 cl:∀ C∈exc0,ExCls K C none
 ci:∀ C∈excs,∃ ini,ExCls K C ini
theorem Exs.kit(E:Exs K)(hC:C∈excs)(hD:D∈excs):W.kitOne K (.ref C) (.ref D)=some (decide (C=D)):=by
 have EC:=E.all C hC;have ED:=E.all D hD;obtain⟨cdD,hD1,_⟩:=ED.mro;unfold W.kitOne;by_cases h:C=D
 ·subst h;rw [if_pos (by simp),decide_eq_true rfl]
 ·rw [if_neg (by simpa using h),decide_eq_false h];show (if ((W.clsIn K D).isSome && W.typeIn K (.ref D) == some (.type "type"))=true then W.mroIn K C (.ref D) else none)=_;rw [hD1,ED.ty,if_pos (by simp),EC.mroIn];have n24:D≠24:=by
   rintro rfl
   revert hD
   decide
  have:(exM C).contains (.ref D)=false:=by
   unfold exM;simp only [List.contains_cons,List.contains_nil,Bool.or_false,Bool.or_eq_false_iff];refine⟨beq_eq_false_iff_ne.mpr fun z=>h (Value.ref.inj z).symm,beq_eq_false_iff_ne.mpr fun z=>n24 (Value.ref.inj z),?_⟩;simp
  rw [this]
theorem Exs.kitV(E:Exs K)(hC:C∈excs):W.kitOne K (.ref C) (.type "ValueError")=some true:=by
 have EC:=E.all C hC;unfold W.kitOne;rw [if_neg (by simp)];show (if W.kitMeta "ValueError" = true then W.mroIn K C (.type "ValueError") else none)=_;rw [if_pos (by decide +kernel),EC.mroIn];rfl
end
def zu5(K:W.Frag):List V->Hp->VK->Prop:=fun xs H Q=>∃ a C d c b,xs=[.ref a,c]/\H a=some (exO a C d)/\ExK K C/\SpK K/\(∀ u,RelV c u->W.kitOne K (.ref C) u=some b)/\Q (.bl b) H
theorem zbN{X:Cx}:CallR X (.builtin "isinstance") (zu5 X.K):=by
 intro zj s σ H xs us Q I r h;obtain⟨a,C,d,c,b,rfl,ha,E0,S0,hk,q⟩:=h;obtain⟨u,w',rfl,ru,rw'⟩:=vals2 r;cases (show u=Value.ref a from ru);obtain⟨⟨o,e,hc,_⟩,_⟩:=(show ObjOk X.prog X.w H s.heap a (exO a C d) from I.hok a _ ha);exact W.kia_one (zoW E0 S0) I.kIn ⟨o,e,hc⟩ (hk _ rw') (fun z=>nomatch z) fun tk=>⟨.bl b,H,I.tok tk,rfl,q⟩
def zlp:List XV->Sto->RX->Prop:=fun xs S R=>arg2 xs fun x y=>∃ C fs c,x=.x C fs/\y=.o c/\C∈excs/\((∃ D,c=.ref D/\D∈excs/\R (.d (.bool (decide (C=D)))) S)\/(c=.ty "ValueError"/\R (.d (.bool true)) S))
theorem zdm{K:W.Frag}(E:Exs K):RC (zu5 K) zlp:=fun h o H S xs vs R Q hs hx q c=>by
 obtain⟨x,y,rfl,C,fs,k,rfl,rfl,hC,q1⟩:=zil q;obtain⟨v,u,rfl,hx1,hx2⟩:=hxs2 hx;obtain⟨a,d,rfl,ha,_⟩:=hx1;cases (show u=k from hx2);rcases q1 with ⟨D,rfl,hD,q2⟩ | ⟨rfl,q2⟩
 ·exact⟨a,C,d,_,_,rfl,zam _ _ ha,E.all C hC,E.sp,fun u ru=>by cases (show u=Value.ref D from ru); exact E.kit hC hD,c o H S _ _ Ex.refl hs (xB _) q2⟩
 ·exact⟨a,C,d,_,_,rfl,zam _ _ ha,E.all C hC,E.sp,fun u ru=>by cases (show u=Value.type "ValueError" from ru); exact E.kitV hC,c o H S _ _ Ex.refl hs (xB _) q2⟩
def zoa:V->List V->Hp->VK->Prop:=fun x vs H Q=>∃ bs:List Bool,Has H (.list (bs.map PyData.bool)) x/\vs=[.bl true]/\Q (.int (bs.countP id)) H
theorem znd{X:Cx}:MtR X "list.count" zoa:=by
 intro zj s σ H x vs v us Q I rx rv h;obtain⟨bs,hl,rfl,q⟩:=h;obtain⟨u,rfl,r1⟩:=rv.one;cases (show u=Value.bool true from r1);have cl:PyData.canLay0 (.list (bs.map PyData.bool))=true:=SeqAt.canLay_of_shaped (zfQ (zis fun _ _=>(zhV:Shp 0 _))).ok;obtain⟨as,q2⟩:=Has.reads I (.list (bs.map PyData.bool)) x v hl cl rx;cases q2 with
 | @list l o vs n xs as₁ h1 h2 h3 h4 =>
  refine count_list_bools (vs:=vs.toList) ⟨o,h1,h2,n,by simpa using h3⟩ h4 (by simp [Shape.has]) ?_;refine⟨.int (bs.countP id),H,I.tok _,⟨s.toks,?_⟩,q⟩;have:∀ bs:List Bool,countIn (.bool true) (bs.map PyData.bool)=(bs.countP id:Int):=fun bs=>by
   induction bs with
   | nil=>rfl
   | cons b bs ih =>
    rw [map_cons,List.countP_cons];show (if same (.bool b) (.bool true) then (1:Int) else 0)+countIn (.bool true) (bs.map PyData.bool)=_;rw [ih];cases b
    ·show (0:Int)+_=_;simp
    ·show (1:Int)+_=_;simp;omega
  rw [this]
def zh8:XV->List XV->Sto->RX->Prop:=fun x xs S R=>arg1 xs fun y=>y=.d (.bool true)/\∃ ds,zj0 S x=some ds/\∃ bs:List Bool,ds=bs.map PyData.bool/\R (.d (.int (bs.countP id))) S
theorem zlD:RM zoa zh8:=fun h o H S x v xs vs R Q hs hx hxs q c=>by
 obtain⟨y,rfl,rfl,ds,e2,bs,rfl,q1⟩:=za0 q;obtain⟨u,rfl,hu⟩:=hxs1 hxs;have hl:Has H (.list (bs.map PyData.bool)) v:=zb7 (x:=x) hs (by
  unfold zj0 at e2;split at e2
  ·cases e2; rfl
  ·rename_i k; show (S[k]?).map PyData.list=_; rw [e2]; rfl
  ·cases e2) hx
 cases zep hu;exact⟨bs,hl,rfl,c o H S _ _ Ex.refl hs (xI _) q1⟩
def zhG(q:PN)(da:DA):DE:=fun δ S R=>da δ S fun xs S1=>∃ C fs,xs=[.x C fs]/\q [.x C fs] [] (ret0 S1 R)
theorem hxE{h o:List Addr}{H:Hp}{C:Addr}{fs:List (Str×PyData)}{v:V}(hx:HasX h o H (.x C fs) v):HasX (h++o) [] H (.x C fs) v:=by
 have e:vx (h++o) [] H=vx h o H:=zjb fun b=>by simp
 show HasE (vx (h++o) [] H) C fs v;rw [e];exact hx
theorem zlc{ps:List Str}{q:PN}{tl:TA}{dl:DA}(hp:ps.length=1)(ha:RA tl dl):RE (zgu (spN ps q) [] E0 tl) (zhG q dl):=fun h o H δ σ S R Q he hs d c =>
 ha h o H δ σ S _ _ he hs d fun o1 H1 S1 xs vs e1 s1 x1 ⟨C,fs,exs,d1⟩=>by
  subst exs;obtain⟨v,rfl,hv⟩:=hxs1 x1;refine⟨by simp [hp],h++o1,[],[],[.x C fs],_,rep0 s1,⟨v,[],rfl,hxE hv,rfl⟩,d1,cn0 s1 (c.pre e1)⟩
end L2
namespace L2
open PySem PySem.Spec PyProof.Rows
section
abbrev EXD:=Addr->List (Str×PyData)->Prop
abbrev PX:=List XV->Sto->RX->EXD->Prop
def CnX(h o:List Addr)(H:Hp)(EX:EXD)(E:XK):Prop:=∀ o' H' S' C a fs,Ex o H o' H'->RepS h o' H' S'->HasE (vx h o' H') C fs (.ref a)->EX C fs->E (.ref C) (some a) H'
theorem CnX.pre{h o o':List Addr}{H H':Hp}{EX:EXD}{E:XK}(c:CnX h o H EX E)(e:Ex o H o' H'):CnX h o' H' EX E:=fun o2 H2 S2 C a fs e2=>c o2 H2 S2 C a fs (e.trans e2)
def RSx(E:XK)(EX:EXD)(t:TS)(dt:DS):Prop:=∀ (h o:List Addr) (H:Hp) (δ:XE) (σ:St) (S:Sto) (En:DEnds) (D:Ends),RepE h o H δ σ->RepS h o H S->dt En δ S->EOk h o H En D->CnX h o H EX E->t D σ H
section
variable {E:XK} {EX:EXD} {t u:TS} {dt du:DS}
theorem zgg(ht:RS t dt):RSx E EX t dt:=fun h o H δ σ S En D he hs q c _=>ht h o H δ σ S En D he hs q c
theorem zlt(ht:RSx E EX t dt)(hu:RSx E EX u du):RSx E EX (zk3 t u) (zM dt du):=fun h o H δ σ S En D he hs q c x =>
 ht h o H δ σ S _ _ he hs q ⟨fun o1 H1 δ1 S1 σ1 e1 he1 hs1 q1=>hu h o1 H1 δ1 σ1 S1 En D he1 hs1 q1 (c.pre e1) (x.pre e1),c.rt,c.bk,c.ct⟩ x
end
theorem zqz{X:Cx}{st:Stmt}{t:TS}(h:PS X.nox st t):PS X st t:=fun zj s σ H D I hw =>
 wpAny_mono (h zj s σ H D (I.wish _) hw) (fun _ _ q=>q.unwish) fun _ _ z=>False.elim z
def spX(ps:List Str)(q:PX):Sp:=fun vs H Q E=>vs.length=ps.length/\∃ h o S xs R EX,RepS h o H S/\HasXs h o H xs vs/\q xs S R EX/\Cn h o H R Q/\CnX h o H EX E
structure DfX(P:Program)(w:World)(K:W.Frag)(mg:Str->Option Value)(base:Heap)(x:Str)(ps:List Str)(k:Nat)(sp:Sp):Prop where
 ex:∃ f fd,FnOk P w K mg base (CX1 P w) k f fd ps sp/\mg x=some (.ref f)/\W.keepIn K (.ref f)=true/\Binds K fd ps []
section
variable {P:Program} {w:World} {K:W.Frag} {mg:Str->Option Value} {base:Heap} {x:Str} {st:Stmt} {N ps:List Str} {k:Nat}
theorem DfX.dN{q:PX}(D:Dd K mg x st ps)(S:FnScope N ps (zf st))(n:Nat)(hn:N.length=ps.length+n)
  (hbody:∀ (f:Addr) (cdv:Value) (A:Around) (outer:List Env) (s:Shared) (H:Hp) (E:XK) (EX:EXD),Room k (A.deeper (envOfC x (zf st) s.heap.objs.size f cdv)) ->
   ∃ t dt,PSs (zgI (CX1 P w) P w K mg base N x (zf st) f cdv A outer s H E) (zaO st) t/\RSx E EX t dt/\∀ xs S R,q xs S R EX->dt (zbk S.length R) (xs.map some++List.replicate n none) S):DfX P w K mg base x ps (k+1) (spX ps q):=by
 obtain⟨f,fd,F,hm,hb⟩:=D.ex;have kp:=F.kp;obtain⟨oc,od,kV,doc,pm,an,cdv,ct,osl,rfl,lk,hcd⟩:=F.ex;refine⟨f,_,zoD lk hcd S (fun vs H Q E h=>h.1) fun A outer s H vs Q E hr ⟨hl,h,o,S',xs,R,EX,hs',hx,hq,c,cx⟩=>?_,hm,kp,hb⟩;obtain⟨t,dt,h1,h2,h3⟩:=hbody f cdv A outer s H E EX hr;refine⟨t,h1,h2 h o H _ _ S' _ _ ?_ hs' (h3 xs S' R hq) (eok hs' c) cx⟩;have e:N.length - vs.length=n:=by omega
 unfold start;rw [e];exact zbx hx
end
def ztE(sp:Sp)(t:TA):XK->TE:=fun Ex σ H Q=>t σ H fun vs H1=>sp vs H1 Q Ex
theorem ztD{X:Cx}{q:PX}{x:Str}{ps:List Str}{k j:Nat}{pos pos':Pos}{e:Expr}{es:List Expr}{t:TA}(D:DfX X.prog X.w X.K X.mg X.base x ps k (spX ps q))(hr:Room j X.A)(hk:k<=j)(hx:∀ e s,X.xe e s->False)(ha:PA X (e :: es) t)(hg:Gl X x:=by rfl)(hdb:(x == ("__debug__":Str))=false:=by decide)
  (q1:starEach (e :: es) X.env=(false,eval e X.env) :: starEach es X.env:=by rfl) (q2:((backTo pos (starEach es X.env)).any fun x=>x.fst)=false:=by rfl):PEX X (.Call (.Name x pos') (e :: es) [] pos) (ztE (spX ps q) t):=by
 obtain⟨f,fd,F,hm,kp,hb⟩:=D.ex;exact zrI hx F (hr.mono hk) hg hm kp hb ha hdb q1 q2
end
section
def KnOk(kn:DEnds->XE->RX)(kt:Ends->St->VK):Prop:=∀ (h o:List Addr) (H:Hp) (δ:XE) (σ:St) (En:DEnds) (D:Ends),RepE h o H δ σ->EOk h o H En D->Cn h o H (kn En δ) (kt D σ)
theorem hxs00{h o:List Addr}{H:Hp}:∀ {es:List PyData} {vs:List V},HasXs h o H (es.map XV.d) vs->HasXs (h++o) [] H (es.map XV.d) vs
 | [],_,q=>q
 | d :: ds,vs,⟨v,r,e,hv,l⟩=>⟨v,r,e,hx0 hv,hxs00 l⟩
def knD:DEnds->XE->RX:=fun En δ _ S2=>En.nx δ S2
theorem znv:KnOk knD (fun D σ _ H1=>D.nx σ H1):=fun h o H δ σ En D he c o' H' S' x v e hs _ q=>c.nx o' H' δ S' σ e (he.mono e) hs q
theorem zit:bootBuiltins "ValueError" = some (.type "ValueError"):=by decide +kernel
end
end L2
namespace L2
open PySem PySem.Spec PySem.Calls PyProof.Rows PySem.W PySem.Builtin PySem.Builtin.ObjectAttr
theorem zmT(self:Value)(C:Addr):refuseLoop self "__setattr__" (exM C)=pure ():=by
 unfold exM;rw [refuseLoop_ref,refuseLoop_ref];exact F.store_ValueError.passes self
theorem zs0{K:W.Frag}{h:Heap}{C:Addr}{cd:ClassData}(X:K.In h)(e:clsIn K C=some cd):∃ c0 dd sl,h.get? C=some ⟨c0,dd,.cls cd,sl⟩:=by
 unfold clsIn at e;split at e
 ·rename_i q;cases e;exact⟨_,_,_,X _ _ q⟩
 ·cases e
section
variable {prog:Program} {w:World} {A:Around} {E:Value->Shared->Prop} {h:Heap} {g:Array GenState} {d:Drawn} {t:Nat} {os:OsState} {K:W.Frag} {x C:Addr} {o:Obj} {cd:ClassData} {name:Str} {v:Value} {mA:Str->Option Value}
def XAt(h:Heap)(x:Addr)(o:Obj)(mA:Str->Option Value):Prop:=h.get? x=some o/\(∀ c,o.data≠.cls c)/\((o.dict=none/\∀ n,mA n=none)\/∃ dx,o.dict=some dx/\dx≠x/\h.Ns1 dx mA)
theorem zpN{tk:Tok}{Q:Fin->Shared->Prop}{ns:List Str}(X:K.In h)(hcd:clsIn K C=some cd)(hm:cd.mro=exM C)(hdct:cd.hasDict=true)(hna:findIn K (.ref C) name=some none)(hc:o.cls=.ref C)(I:XAt h x o mA)
  (hq:∀ h' tk' dx,XAt h' x { o with dict:=some dx } (fun y=>if y=name then some v else mA y)->(o.dict=some dx\/o.dict=none/\h.objs.size<=dx)->(∀ b ob,b≠x->b≠dx->h.get? b=some ob->h'.get? b=some ob)->Q (.done (.ret .none)) ⟨h',g,d,tk',os⟩)
  (hw:Within mA ns) (hsz:ns.length+1<=sizeLine) :
  wpAny (model prog w) A (Builtin.«object.__setattr__» ⟨[.ref x,.str name tk,v],[]⟩) Q E ⟨h,g,d,t,os⟩:=by
 obtain⟨hx,hnc,hd⟩:=I;have hpass:=zmT (.ref x) C;have Lm:Looks (model prog w) h (mroOf (.ref C)) (exM C):=by rw [<- hm]; exact(looks_clsIn X hcd).andThen .now
 have La:=looks_findIn (M:=model prog w) X hna;obtain⟨c0,dd,sl,hC⟩:=zs0 X hcd;unfold Builtin.«object.__setattr__»
 repeat (first | with_reducible refine wpAny_loadPart_at hC ?_ | rw [refuse_eq] | rw [hpass] | (with_reducible refine wpAny_loadPart_at hx ?_; rw [hc]) | with_reducible refine Lm.at ?_ | with_reducible refine La.at ?_ | wp_step)
 rcases hd with ⟨hdn,hmA⟩ | ⟨dx,hdx,hne,hns⟩
 ·rw [hdn,if_neg (by simp [typeHasDict])];split
  ·rename_i z;cases z
  split
  ·rename_i c z;exact absurd z (hnc c)
  have hx1:(h.push { cls:=.type "dict",data:=.dict #[] }).get? x=some o:=get?_push_of_some _ hx;have hxs:x≠h.objs.size:=ne_of_lt (lt_size hx);refine wpAny_bind (wpAny_alloc' (wpAny_bind (wpAny_update' hx1 (wpAny_pure ?_))));have gd:((h.push { cls:=.type "dict",data:=.dict #[] }).update x fun o=>{ cls:=o.cls,dict:=some h.objs.size,data:=o.data,slots:=o.slots }).get? h.objs.size=some { cls:=.type "dict",data:=.dict #[] } :=
   (get?_update_ne _ _ _ _ hxs.symm).trans (Heap.get?_push_at rfl rfl)
  have nd:((h.push { cls:=.type "dict",data:=.dict #[] }).update x fun o=>{ cls:=o.cls,dict:=some h.objs.size,data:=o.data,slots:=o.slots }).Ns h.objs.size (fun _=>none) :=
   ⟨_,#[],_,gd,rfl,fun e he=>absurd he (by simp),fun _=>rfl⟩
  show wpAny _ _ (storeInDict h.objs.size (.str name tk) name v) _ _ _;unfold storeInDict newKeyGuard;refine wpAny_bind (wpAny_pure (wpAny_bind (wpAny_nsSet1 (Heap.Ns1.of_empty nd) fun h' hn' hs=>?_)));obtain⟨oD,esD,epD,hoD,hdD,hcD⟩:=hn'.count (Within.cons name v Within.nil);refine wpAny_bind (wpAny_lookBehind hoD (by rw [hdD]; exact pastItsLine_dict (le_trans hcD (by rw [length_cons,length_nil,sizeLine_eq]; omega))) ?_)
  wp_walk
  have hx':h'.get? x=some { cls:=o.cls,dict:=some h.objs.size,data:=o.data,slots:=o.slots }:=by
   refine(hs.2 x hxs).trans (get?_update_self _ hx1 ?_);have hfr:=(Heap.get?_some_iff.mp hx).2;obtain⟨oc,od,odt,osl⟩:=o;cases odt <;> first | rfl | exact hfr
  refine hq h' _ h.objs.size ⟨hx',hnc,.inr ⟨h.objs.size,rfl,hxs.symm,?_⟩⟩ (.inr ⟨hdn,le_refl _⟩) (fun b ob nb n2 q=>(hs.2 b n2).trans ((get?_update_ne _ _ _ _ nb).trans (get?_push_of_some _ q)));obtain⟨o',es,ep,e1,e2,e3,eu,e4⟩:=hn';exact⟨o',es,ep,e1,e2,e3,eu,fun y=>by rw [e4 y]; by_cases hy:y=name <;> simp [hy,hmA]⟩
 ·rw [hdx];refine wpAny_pure ?_;show wpAny _ _ (storeInDict dx (.str name tk) name v) _ _ _;unfold storeInDict newKeyGuard;refine wpAny_bind (wpAny_pure (wpAny_bind (wpAny_nsSet1 hns fun h' hn' hs=>?_)));obtain⟨oD,esD,epD,hoD,hdD,hcD⟩:=hn'.count (Within.cons name v hw);refine wpAny_bind (wpAny_lookBehind hoD (by rw [hdD]; exact pastItsLine_dict (le_trans hcD (by rw [length_cons]; omega))) ?_)
  wp_walk
  have eo:({ o with dict:=some dx }:Obj)=o:=by rw [<- hdx]
  refine hq h' _ dx ?_ (.inl hdx) fun b ob _ nd q=>(hs.2 b nd).trans q;rw [eo];exact⟨(hs.2 x hne.symm).trans hx,hnc,.inr ⟨dx,hdx,hne,hn'⟩⟩
theorem zhe{Q:Unit->Shared->Prop}{ns:List Str}(X:K.In h)(hcd:clsIn K C=some cd)(hm:cd.mro=exM C)(hdct:cd.hasDict=true)(hsa:findIn K (.ref C) "__setattr__" = some (some (.builtin "object.__setattr__")))(hna:findIn K (.ref C) name=some none)(hob:mroIn K C (.type "object")=some true)(hc:o.cls=.ref C)(I:XAt h x o mA)
  (hq:∀ h' tk' dx,XAt h' x { o with dict:=some dx } (fun y=>if y=name then some v else mA y)->(o.dict=some dx\/o.dict=none/\h.objs.size<=dx)->(∀ b ob,b≠x->b≠dx->h.get? b=some ob->h'.get? b=some ob)->Q () ⟨h',g,d,tk',os⟩)
  (hw:Within mA ns) (hsz:ns.length+1<=sizeLine) :
  wpAny (model prog w) A (setAttr (.ref x) name v) Q E ⟨h,g,d,t,os⟩:=by
 have hx:=I.1;have SF:=F.store_ValueError;have f3:=SF.slot.bind (.ref x);have L1:=looks_findIn (M:=model prog w) X hsa;have T0:∀ M,Looks M h (typeOf (.ref x)) (.ref C):=fun M=>hc▸(Looks.ld hx).andThen .now;unfold setAttr callSpecial? specialOf
 repeat (any_goals (first | assumption | (with_reducible refine wpAny_loadPart_at hx ?_; rw [hc]) | with_reducible refine L1.at ?_ | wp_step))
 refine codeAny_call_builtin SF.slot.plain SF.entry (@check_slot (model prog w) _ _ _ "object.__setattr__" "object" "__setattr__" (.ref x) [.str name t,v] [] _ SF.kind SF.split ((T0 _).andThen (looks_mroIn X hob)) (SF.args (.ref x) (.str name t) v) (zpN X hcd hm hdct hna hc I (fun h' tk' dx a b c=>?_) hw hsz));exact wpAny_pure (wpAny_pure (hq h' tk' dx a b c))
end
end L2
namespace L2
open PySem PySem.Spec PySem.Calls PyProof.Rows PySem.W
def exF(t:Addr):Data:=.fields #[.ref t,.none,.none,.none,.bool false,.none]
def exN(a C:Addr)(d:Option Addr)(t:Addr):HO:=.ext fun h=>h.get? a=some { cls:=.ref C,dict:=d,data:=exF t }
theorem zqh{P:Program}{w:World}{H:Hp}{h:Heap}{a C t:Addr}{d:Option Addr}(e:h.get? a=some { cls:=.ref C,dict:=d,data:=exF t }):ObjOk P w H h a (exN a C d t):=⟨e,⟨_,e⟩,fun _ _ q k=>k _ q⟩
theorem ztN{P:Program}{w:World}{H:Hp}{h:Heap}{dx:Addr}{fs:List (Str×V)}{mA:Str->Option Value}(n:h.Ns1 dx mA)(r:∀ f,RelO (fs.lookup f) (mA f))(wi:PySem.Within mA (fs.map (·.1))):ObjOk P w H h dx (xw dx fs) :=
 ⟨⟨mA,n,r,wi⟩,let ⟨o,_,_,e,_⟩:=n; ⟨o,e⟩,fun _ _ ⟨mA,n,r,wi⟩ k=>⟨mA,n.at k,r,wi⟩⟩
structure ExI(K:W.Frag)(C:Addr):Prop where
 k:ExK K C
 hd:W.hasDictIn K C=true
 sa:W.findIn K (.ref C) "__setattr__" = some (some (.builtin "object.__setattr__"))
def zr3(K:W.Frag)(ta tv:TE)(f:Str):TS:=fun D σ H=>tv σ H fun y H1=>ta σ H1 fun x H2=>∃ a C t,x=.ref a/\ExI K C/\NoAttr K C f /\
  ((H2 a=some (exN a C none t)/\∀ dx,H2 dx=none->D.nx σ (upd (upd H2 a (exN a C (some dx) t)) dx (xw dx [(f,y)]))) \/
   ∃ dx fs,H2 a=some (exN a C (some dx) t)/\H2 dx=some (xw dx fs)/\dx≠a/\fs.length<100/\D.nx σ (upd H2 dx (xw dx (zkt f y fs))))
section
variable {X:Cx} {o value:Expr} {f:Str} {pos pos':Pos} {ta tv:TE}
theorem znt(ha:PE X o ta)(hv:PE X value tv)(hs:swapsWith value (some (.Attribute o f pos')) pos.line X.env=pure false):PS X (.Assign [.Attribute o f pos'] value pos) (zr3 X.K ta tv f):=by
 intro zj s σ H D I h;refine plainObj_wpAny_Assign_Attribute (thn (hv zj s σ H _ I h) fun u s1 ⟨y,H1,I1,ry,q⟩=>thn (ha zj s1 σ H1 _ I1 q) fun ov s2 ⟨x,H2,I2,rx,a,C,t,ex,xi,na,q2⟩=>?_) hs;subst ex;obtain rfl:ov=Value.ref a:=rx;obtain⟨cd,hcd,hm⟩:=xi.k.mro;have hdct:cd.hasDict=true:=by
  have:=xi.hd;unfold W.hasDictIn at this;rw [hcd] at this;simpa using this
 have hob:mroIn X.K C (.type "object")=some true:=(xi.k.mroIn _).trans (by simp [exM]);obtain⟨hp,g,d,tk,os⟩:=s2;rcases q2 with ⟨ea,q2⟩ | ⟨dx,fs,ea,ed,ne,hl,q2⟩
 ·obtain⟨e1,_,_⟩:=(show ObjOk X.prog X.w H2 hp a (exN a C none t) from I2.hok a _ ea);refine zhe (o:={ cls:=.ref C,dict:=none,data:=exF t }) (mA:=fun _=>none) (ns:=[]) I2.kIn hcd hm hdct xi.sa na hob rfl ⟨e1,(fun c z=>by cases z),.inl ⟨rfl,fun _=>rfl⟩⟩ (fun h' tk' dx xa od kp=>?_) (fun y z=>absurd rfl z) (by show 1<=sizeLine; rw [sizeLine_eq]; omega);obtain⟨x1,_,x2⟩:=xa;have hsz:hp.objs.size<=dx:=by
   rcases od with z | z
   ·cases z
   ·exact z.2
  obtain⟨dx',z,nx,n1⟩:∃ d,some dx=some d/\d≠a/\h'.Ns1 d (fun y=>if y=f then some u else none):=by
   rcases x2 with ⟨z,_⟩ | z
   ·cases z
   ·exact z
  cases z;have g1:(hp.update a fun o=>{ o with dict:=some dx }).get? a=some { cls:=.ref C,dict:=some dx,data:=exF t }:=get?_update_self _ e1 rfl
  have J:=I2.write (x:=a) (e:=a) (o:=exN a C (some dx) t) (h':=hp.update a fun o=>{ o with dict:=some dx }) (t':=tk) (by rw [ea]; exact True.intro) (.inl rfl) (fun b v nb z=>(get?_update_ne _ _ _ _ nb).trans z) ⟨_,g1⟩ (zqh g1);have J2:=J.laid (a:=dx) (o:=xw dx [(f,y)]) (h':=h') (t':=tk') (fun b v z=>?_) (by show (hp.update a _).objs.size<=dx; rw [Heap.size_update]; exact hsz) (ztN n1 (fun g=>?_) fun g hg=>?_)
  ·exact⟨σ,_,J2,q2 dx (I2.hok.fresh hsz)⟩
  ·by_cases nb:b=a
   ·subst nb;rw [g1] at z;cases z;exact x1
   ·have z':hp.get? b=some v:=(get?_update_ne _ _ _ _ nb).symm.trans z;exact kp b v nb (fun e=>absurd (lt_size z') (by rw [e]; exact Nat.not_lt.mpr hsz)) z'
  ·show RelO ((zkt f y []).lookup g) (if g=f then some u else none);rw [zee];by_cases q:g=f
   ·rw [if_pos q,if_pos q]; exact ry
   ·rw [if_neg q,if_neg q]; exact True.intro
  ·by_cases e:g=f
   ·subst e; simp
   ·rw [if_neg e] at hg;exact absurd rfl hg
 ·obtain⟨e1,_,_⟩:=(show ObjOk X.prog X.w H2 hp a (exN a C (some dx) t) from I2.hok a _ ea);obtain⟨⟨mA,n1,r1,w1⟩,_,_⟩:=(show ObjOk X.prog X.w H2 hp dx (xw dx fs) from I2.hok dx _ ed);refine zhe (o:={ cls:=.ref C,dict:=some dx,data:=exF t }) (mA:=mA) (ns:=fs.map (·.1)) I2.kIn hcd hm hdct xi.sa na hob rfl ⟨e1,(fun c z=>by cases z),.inr ⟨dx,rfl,ne,n1⟩⟩ (fun h' tk' dx2 xa od kp=>?_) w1 (by rw [length_map,sizeLine_eq]; omega);obtain rfl:dx=dx2:=by
   rcases od with z | z
   ·exact Option.some.inj z
   ·cases z.1
  obtain⟨x1,_,x2⟩:=xa;obtain⟨dx',z,nx,n2⟩:∃ d,some dx=some d/\d≠a/\h'.Ns1 d (fun y=>if y=f then some u else mA y):=by
   rcases x2 with ⟨z,_⟩ | z
   ·cases z
   ·exact z
  cases z;have J:=I2.write (x:=dx) (e:=dx) (o:=xw dx (zkt f y fs)) (h':=h') (t':=tk') (by rw [ed]; exact True.intro) (.inl rfl) (fun b v nb z=>?_) (let ⟨o,_,_,e,_⟩:=n2; ⟨o,e⟩) (ztN n2 (fun g=>?_) fun g hg=>?_)
  ·exact⟨σ,_,J,q2⟩
  ·by_cases e:b=a
   ·subst e;rw [e1] at z;cases z;exact x1
   ·exact kp b v e nb z
  ·show RelO ((zkt f y fs).lookup g) (if g=f then some u else mA g);rw [zee];by_cases q:g=f
   ·rw [if_pos q,if_pos q]; exact ry
   ·rw [if_neg q,if_neg q]; exact r1 g
  ·by_cases q:g=f
   ·rw [q]; exact(zf0 f y fs).1
   ·refine(zf0 f y fs).2 g (w1 g fun z=>hg ?_);show (if g=f then some u else mA g)=none;rw [if_neg q]; exact z
end
end L2
namespace L2
open PySem PySem.Spec PySem.Calls PyProof.Rows
section
variable {prog:Program} {w:World} {A:Around} {E:Value->Shared->Prop} {h:Heap} {g:Array GenState} {d:Drawn} {t:Nat} {os:OsState}
variable {nm q:Str} {C N:Addr} {bs bm:List Value} {hdct:Bool} {sn:List Str} {sub:List Value} {ab:Bool} {col:Option Bool} {dd:Option Addr} {k0 k1 k2 k3 k5:Option Value} {mN:Str->Option Value} {rest:List Value} {fI:Addr} {oI:Obj}
theorem zgW(T:OwnTail h veB bm){Q:Fin->Shared->Prop}
  (hC:h.get? C=some (excClassObj nm q C N bs bm hdct sn sub ab col dd k0 k1 k2 k3 k5 "ValueError.__new__")) (hn:h.Ns N mN) (hi:mN "__init__" = some (.ref fI)) (hfI:h.get? fI=some oI) (hfc:oI.cls=.type "function")
  (hq:∀ h' e,h.objs.size<=e->Heap.MadeExcOf h h' e (.ref C) rest->wpAny (model prog w) A (call (.ref fI) (.ref e :: rest)) (fun r s'=>r=.none/\Q (.done (.ret (.ref e))) s') E ⟨h',g,d,t,os⟩) (hrest:rest.length<=sizeLine) :
  wpAny (model prog w) A (Builtin.«type.__call__» ⟨.ref C :: rest,[]⟩) Q E ⟨h,g,d,t,os⟩:=by
 have Fn:=F.excBase_ValueError;have hBn:veB.contains (.type "ValueError")=true:=by decide +kernel
 repeat (first | with_reducible refine wpAny_loadPart_at hC ?_ | with_reducible refine wpAny_madeBy_exc hC ?_ | wp_step)
 refine codeAny_call_builtin_code (Code.quiet_builtin _ Fn.quiet) (wpAny_check_new_subU Fn hBn T hC ?_);refine codeAny_exc_new_subU Fn hBn Fn T hC ?_ hrest;show wpAny _ _ _ _ _ _;generalize hh:((h.push { cls:=.type "tuple",data:=.seq rest.toArray }).push { cls:=.ref C,data:=.fields #[.ref h.objs.size,.none,.none,.none,.bool false,.none] })=h1;have keep:∀ b o,h.get? b=some o->h1.get? b=some o:=fun b o e=>by rw [<- hh]; exact get?_push_of_some _ (get?_push_of_some _ e)
 have hC1:=keep _ _ hC;have hn1:h1.Ns N mN:=let ⟨o,es,ep,e,r⟩:=hn; ⟨o,es,ep,keep _ _ e,r⟩;have hfI1:=keep _ _ hfI;have hget:h1.get? (h.objs.size+1)=some { cls:=.ref C,data:=.fields #[.ref h.objs.size,.none,.none,.none,.bool false,.none] }:=by rw [<- hh]; heap_get
 have hcC:(Value.ref C :: bm).contains (.ref C)=true:=by simp
 have T1:=T.keeps keep;unfold isInstance
 repeat (first | with_reducible refine wpAny_loadPart_at hget ?_ | (with_reducible refine wpAny_isSubtype_exc hC1 ?_; rw [hcC]) | wp_step)
 show wpAny _ _ (typeLookup (.ref C) _) _ _ _;refine wpAny_typeLookup_tail hC1 hn1 T1 Fn.mroIs Fn.init.lookup ?_;rw [hi];refine wpAny_holding (wpAny_bind ?_);unfold bindSpecial;refine wpAny_bind (wpAny_typeOf (T:="function") ⟨_,hfI1,hfc⟩ ?_);rw [if_pos dz];refine wpAny_pure (wpAny_bind (wpAny_mono (hq h1 (h.objs.size+1) (le_succ _) ⟨keep,Heap.get?_none_of_le (le_succ _),h.objs.size,hget,Heap.get?_none_of_le (le_refl _),?_⟩) (fun r s' hr=>?_) fun _ _ x=>x))
 ·rw [<- hh];exact get?_push_of_some _ (Heap.get?_push_at rfl rfl)
 ·obtain⟨rfl,hQ⟩:=hr
  wp_walk
  exact hQ
theorem zmU(T:OwnTail h veB bm){Q:Value->Shared->Prop}
  (hC:h.get? C=some (excClassObj nm q C N bs bm hdct sn sub ab col dd k0 k1 k2 k3 k5 "ValueError.__new__")) (hn:h.Ns N mN) (hi:mN "__init__" = some (.ref fI)) (hfI:h.get? fI=some oI) (hfc:oI.cls=.type "function")
  (hq:∀ h' e,h.objs.size<=e->Heap.MadeExcOf h h' e (.ref C) rest->wpAny (model prog w) (A.under (.builtin "type.__call__" ⟨.ref C :: rest,[]⟩)) (call (.ref fI) (.ref e :: rest)) (fun r s'=>r=.none/\Q (.ref e) s') E ⟨h',g,d,t,os⟩) (hrest:rest.length<=sizeLine) :
  wpAny (model prog w) A (call (.ref C) rest) Q E ⟨h,g,d,t,os⟩:=by
 have f1:=tc_lookup;have f2:=tc_bind (.ref C);have hT:(⟨h,g,d,t,os⟩:Shared).TypeIs (.ref C) "type":=⟨_,hC,rfl⟩;refine wpAny_call (codeAny_of_tree ?_);show wpAny _ _ (callAny (.ref C) _) _ _ _
 repeat (any_goals (first | assumption | with_reducible refine wpAny_loadPart_at hC ?_ | wp_step))
 refine⟨rfl,?_⟩;exact codeAny_call_builtin_at (Code.quiet_builtin _ (by decide +kernel)) entry_typeCall (wpAny_check_type_call_sub hC (zgW T hC hn hi hfI hfc (fun h' e hz hm=>hq h' e hz hm) hrest))
end
section
variable {prog:Program} {w:World} {A:Around} {E:Value->Shared->Prop} {s:Shared} {env:Env}
variable {nm q:Str} {C N:Addr} {bs bm:List Value} {hdct:Bool} {sn:List Str} {sub:List Value} {ab:Bool} {col:Option Bool} {dd:Option Addr} {k0 k1 k2 k3 k5:Option Value} {newId:String}
theorem zlV{M:Model}{x:Sem Value}{Q:Flow->Shared->Prop}(hbase:bm.contains (.type "BaseException")=true)(hh:A.handled=none)
  (h:wpAny M A x (fun v s1=>∃ e t dx,v=.ref e/\s1.heap.get? C=some (excClassObj nm q C N bs bm hdct sn sub ab col dd k0 k1 k2 k3 k5 newId)/\s1.heap.get? e=some { cls:=.ref C,dict:=dx,data:=.fields #[.ref t,.none,.none,.none,.bool false,.none] }/\E (.ref e) s1) E s) :
  wpAny M A (raiseStmt env (some x) none) Q E s:=by
 have hcB:(Value.ref C :: bm).contains (.type "BaseException")=true:=by rw [List.contains_cons,hbase,Bool.or_true]
 unfold raiseStmt;refine wpAny_bind (wpAny_mono h (fun v s1 h1=>?_) fun _ _ x=>x);obtain⟨e,t,dx,rfl,hC,he,hE⟩:=h1;obtain⟨hp,g,d,tk,os⟩:=s1
 repeat (first | with_reducible refine wpAny_loadPart_at he ?_ | with_reducible refine wpAny_loadPart_at hC ?_ | (with_reducible refine wpAny_isSubtype_exc hC ?_; rw [hcB]) | wp_step)
 exact wpAny_raiseNew_none hh hE
end
end L2
namespace L2
open PySem PySem.Spec PySem.Calls PyProof.Rows
def del(H:Hp)(a:Addr):Hp:=fun b=>if b=a then none else H b
theorem zfZ{H:Hp}{a b:Addr}(h:b≠a):del H a b=H b:=if_neg h
theorem zrE{H:Hp}{a:Addr}{o:HO}:upd (del H a) a o=upd H a o:=by
 funext b;unfold upd del;split
 ·rfl
 ·rfl
theorem zlu{H:Hp}{a b:Addr}{u:HO}(h:del H a b=some u):b≠a/\H b=some u:=by
 unfold del at h;split at h
 ·cases h
 ·rename_i n;exact⟨n,h⟩
section
variable {P:Program} {w:World} {K:W.Frag} {mg:Str->Option Value} {base:Heap} {N:List Str} {qual:Str} {scope:Scope} {f:Addr} {cd:Value} {A:Around} {outer:List Env} {s:Shared} {H:Hp} {E:XK}
theorem zoA{zj:List (Addr×Obj)}{σ:St}{Hc:Hp}{s2:Shared}{e C t:Addr}{dx:Option Addr}(I:Inv (zgI (CX1 P w) P w K mg base N qual scope f cd A outer s H E) zj σ Hc s2)(hn:Hc e=some (exN e C dx t))(ne0:s.heap.get? e=none)(hE:E (.ref C) (some e) (upd Hc e (exO e C dx))):
  (zgI (CX1 P w) P w K mg base N qual scope f cd A outer s H E).xe (.ref e) s2:=by
 have hfr:(A.deeper (envOfC qual scope s.heap.objs.size f cd)).frames=some (envOfC qual scope s.heap.objs.size f cd :: outer):=I.ok.frames;have nl:∀ b o,s.heap.get? b=some o->b∉frs outer->b∉frs (envOfC qual scope s.heap.objs.size f cd :: outer):=fun b o q hb z=>by
  rcases mem_cons.mp (show b∈s.heap.objs.size :: frs outer from z) with e | e
  ·exact absurd (lt_size q) (by rw [e]; exact lt_irrefl _)
  ·exact hb e
 have nx:∀ b:Addr,b∉([]:List Addr):=fun b=>by simp
 have ne1:∀ b o,s.heap.get? b=some o->b≠e:=fun b o q z=>by
  rw [z,ne0] at q;cases q
 have nt:∀ b xs,Hc b=some (.tup xs)->b≠e:=fun b xs q z=>by
  rw [z,hn] at q;cases q
 have no:∀ b y,Hc b=some (.own y)->b≠e:=fun b y q z=>by
  rw [z,hn] at q;cases q
 have stk:s2.heap.FunFrames base (envOfC qual scope s.heap.objs.size f cd :: outer):=I.stack;obtain⟨he,_,_⟩:=(show ObjOk P w Hc s2.heap e (exN e C dx t) from I.hok e _ hn);have hin:∀ env∈(envOfC qual scope s.heap.objs.size f cd :: outer),∀ b,env.frame=some b->b∈e :: frs (envOfC qual scope s.heap.objs.size f cd :: outer):=fun env he b hb=>mem_cons_of_mem _ (List.mem_filterMap.mpr ⟨env,he,hb⟩);generalize hB:W.hideAll s2.heap (e :: frs (envOfC qual scope s.heap.objs.size f cd :: outer))=B;have hd:∀ b o,s2.heap.get? b=some o->b≠e->b∉frs (envOfC qual scope s.heap.objs.size f cd :: outer)->B.get? b=some o:=fun b o q n1 n=>by
  rw [<- hB];exact W.hideAll_get _ q fun z=>(mem_cons.mp z).elim n1 n
 have kp:∀ b o,s.heap.get? b=some o->H b=none->b∉frs outer->B.get? b=some o:=fun b o q n hb=>hd b o (I.base.keep b o q n hb (nx b)) (ne1 b o q) (nl b o q hb);have ep:∀ b o,s.heap.get? b=some o->b∈frs outer\/∃ o',B.get? b=some o':=fun b o q=>by
  by_cases hb:b∈frs outer
  ·exact .inl hb
  ·obtain⟨o1,q1⟩:=I.base.there b o q (nx b);exact .inr ⟨o1,hd b o1 q1 (ne1 b o q) (nl b o q hb)⟩
 have tr:∀ b u,Hc b=some u->b≠e->∀ o,s2.heap.get? b=some o->B.get? b=some o:=fun b u q n1 o q1=>hd b o q1 n1 fun z=>by
  rw [I.stkFree.free b z] at q;cases q
 have ne:B.get? e=none:=by rw [<- hB]; exact W.hideAll_none _ mem_cons_self
 have ff:s2.heap.FunFrames B (envOfC qual scope s.heap.objs.size f cd :: outer):=by rw [<- hB]; exact W.funFrames_hide stk hin
 have bs:B.StaysIn s2.heap:=fun b o q=>by
  rw [<- hB] at q;exact W.of_hideAll _ q
 show wpAny _ _ (leaving (envOfC qual scope s.heap.objs.size f cd) (.ref e)) _ _ _;refine ziQ hfr ff rfl he bs ne rfl rfl rfl fun h'' fl sm=>⟨del Hc e,e,C,dx,rfl,⟨I.os,I.bare,⟨fun b o q n hb _=>fl.1 b o (kp b o q n hb),fun b o q n hb _=>?_,fun b o q n _=>?_,fun b o q _=>?_,fun b xs q=>?_,fun b o u q=>?_,fun b ps q=>?_⟩,
  fun b u q=>?_,_,t,fl,kp,ep,fun b u q=>?_⟩,by rw [zrE]; exact hE⟩
 ·obtain⟨sl,q1⟩:=I.base.slot b o q n hb (nx b);obtain⟨_,o3,q3,nf⟩:=stk.mem (show b∈frs (envOfC qual scope s.heap.objs.size f cd :: outer) from mem_cons_of_mem _ hb);rw [q1] at q3;cases q3;obtain⟨sl3,q4⟩:=sm b _ q1 nf;exact⟨sl3,q4⟩
 ·rw [zfZ (ne1 b o q)];exact I.base.free b o q n (nx b)
 ·rcases ep b o q with z | ⟨o',z⟩
  ·obtain⟨_,o3,q3,_⟩:=fl.2.2.1.mem (show b∈frs outer from z);exact⟨o3,q3⟩
  ·exact⟨o',fl.1 b o' z⟩
 ·have q2:=I.base.tups b xs q;rw [zfZ (nt _ _ q2)];exact q2
 ·have q2:=I.base.frzs b o u q;rw [zfZ fun z=>by rw [z,hn] at q2; cases q2];exact q2
 ·have q2:=I.base.tbls b ps q;rw [zfZ fun z=>by rw [z,hn] at q2; cases q2];exact q2
 ·obtain⟨nb,qb⟩:=zlu q;refine(I.hok b u qb).stay (fun c v hc q1=>?_) (fun c q1=>by rw [zfZ (no _ _ q1)]; exact q1) (fun c xs q1=>by rw [zfZ (nt _ _ q1)]; exact q1) fun c o u q1=>by rw [zfZ fun z=>by rw [z,hn] at q1; cases q1]; exact q1
  rcases hc with rfl | hc
  ·exact fl.1 _ _ (tr _ _ qb nb _ q1)
  ·exact fl.1 _ _ (tr _ _ hc (no _ _ hc) _ q1)
 ·obtain⟨nb,qb⟩:=zlu q;obtain⟨o,q1⟩:=(I.hok b u qb).obj;exact⟨o,tr b u qb nb o q1⟩
end
section
variable {X:Cx} {E:XK} {x:Str} {C fI:Addr} {fd:FuncData} {ps:List Str} {sp:Sp} {k:Nat} {np cpos pos:Pos} {e:Expr} {es:List Expr} {t:TA} {CX:CXT}
theorem zoZ{K:W.Frag}{h h1:Heap}{C:Addr}{ini:Option Value}{o:Obj}(q:ExCls K C ini)(X:K.In h)(X1:K.In h1)(e:h.get? C=some o):h1.get? C=some o:=by
 have z:=q.ty.1;unfold W.clsIn at z;cases hl:K.lookup C with
 | none=>rw [hl] at z; cases z
 | some o' =>
  have:=X _ _ hl;rw [e] at this;cases this;exact X1 _ _ hl
def zkA(E:XK)(C:Addr)(sp:Sp)(t:TA):TS:=fun _ σ H=>t σ H fun vs H1=>∀ a tt,H1 a=none->sp (.ref a :: vs) (upd H1 a (exN a C none tt)) (fun r H2=>r=.non/\∃ dx,H2 a=some (exN a C dx tt)/\E (.ref C) (some a) (upd H2 a (exO a C dx))) fun _ _ _=>False
def RaisesI(X:Cx)(E:XK):Prop:=∀ (C:Addr) (zj:List (Addr×Obj)) (σ:St) (H1 H2:Hp) (s1 s2:Shared) (e t:Addr) (dx:Option Addr),Inv X zj σ H1 s1->s1.heap.get? e=none->Inv X zj σ H2 s2->H2 e=some (exN e C dx t)->E (.ref C) (some e) (upd H2 e (exO e C dx))->X.xe (.ref e) s2
theorem zmx(hc:X.calm=true)(hR:RaisesI X E)(hg:Gl X x)(hm:X.mg x=some (.ref C))(q:ExCls X.K C (some (.ref fI)))(hk:W.keepIn X.K (.ref C)=true)(hfn:W.typeIn X.K (.ref fI)=some (.type "function"))(F:FnOk X.prog X.w X.K X.mg X.base CX k fI fd ps sp)(hcx:∀ o H s v s',CX o H s (fun _ _ _=>False) v s'->False)(hr:∀ us:List Value,Room k (X.A.under (.builtin "type.__call__" ⟨.ref C :: us,[]⟩)))(hb:Binds X.K fd ps [])(hpsz:ps.length<=1000)
  (ha:PA X (e :: es) t) (hdb:(x == ("__debug__":Str))=false:=by decide) (he:starEach (e :: es) X.env=(false,eval e X.env) :: starEach es X.env:=by rfl) (hpl:(backTo cpos (starEach es X.env)).any (·.1)=false:=by rfl) :
  PS X (.Raise (some (.Call (.Name x np) (e :: es) [] cpos)) none pos) (zkA E C sp t):=by
 intro zj s σ H D I h;obtain⟨tl,N,nm,qn,bs,hd,sn,sub,ab,col,dd,k0,k1,k2,k3,k5,mN,hC,hN,hni,T,_⟩:=q.ob _ I.kIn;have hbase:tl.contains (.type "BaseException")=true:=T.hasType (b:=true) (by decide +kernel);rw [arm_exec_Raise];refine wpAny_bind (wpAny_standAt (zlV (C:=C) (nm:=nm) (q:=qn) (N:=N) (bs:=bs) (bm:=tl) (hdct:=hd) (sn:=sn) (sub:=sub) (ab:=ab) (col:=col) (dd:=dd) (k0:=k0) (k1:=k1) (k2:=k2) (k3:=k3) (k5:=k5) (newId:="ValueError.__new__") hbase (I.ok.hd hc) (wpAny_bind (wpAny_mono (wpAny_Call_ofName (zfj I hg hm ?_ hdb)) (fun v s3 h3=>wpAny_bind (wpAny_standAt (wpAny_pure h3))) fun _ _ x=>x))));refine W.callWith_K (h₀:=X.base) I.ok.mod.kin hk (thn (ha cpos zj s σ H _ I h) fun us s1 ⟨vs,H1,I1,r,q1⟩=>⟨I1.kIn,?_⟩) he hpl;obtain⟨tl1,N1,nm1,qn1,bs1,hd1,sn1,sub1,ab1,col1,dd1,l0,l1,l2,l3,l5,mN1,hC1,hN1,hi1,T1,_⟩:=q.ob _ I1.kIn;obtain⟨oI,hoI,hcI⟩:∃ oI,s1.heap.get? fI=some oI/\oI.cls=.type "function":=by
  have z:Option.map (fun x:Obj=>x.cls) (X.K.lookup fI)=some (.type "function"):=hfn;cases hl:X.K.lookup fI with
  | none=>rw [hl] at z; cases z
  | some o=>rw [hl] at z; exact⟨o,I1.kIn _ _ hl,Option.some.inj z⟩
 obtain⟨h1,g1,d1,tk1,os1⟩:=s1;have hlen:us.length<=sizeLine:=by
  have hz:=r.length;have:=F.len _ _ _ _ (q1 h1.objs.size 0 (I1.hok.fresh (le_refl _)));have hps:ps.length<=1000:=hpsz;rw [length_cons] at this;rw [sizeLine_eq];omega
 refine zmU T1 hC1 hN1 hi1 hoI hcI (fun h' e2 hz mk=>?_) hlen;obtain⟨t2,he2,_,_⟩:=mk.there;have J:=I1.laid (a:=e2) (o:=exN e2 C none t2) (h':=h') (t':=tk1) mk.keeps hz (zqh he2);have qq:=q1 e2 t2 (I1.hok.fresh hz);have hl:(Value.ref e2 :: us).length=ps.length:=by
  have:=F.len _ _ _ _ qq;rw [length_cons] at this ⊢;rw [<- r.length];exact this
 have hb1:=hb _ (Value.ref e2 :: us) J.kIn (by rw [append_nil]; exact hl);rw [append_nil] at hb1;refine wpAny_call (codeAny_mono (F.run _ X.stack _ _ ⟨Value.ref e2 :: us,[]⟩ (Value.ref e2 :: us) (.ref e2 :: vs) _ _ (hr us) (J.env0.make C us []) hb1 (.cons rfl r) qq) fun rr s' hq=>?_);cases rr with
 | error v=>exact(hcx _ _ _ _ _ hq).elim
 | ok fl =>
  cases fl with
  | ret u =>
   obtain⟨y,H2,I2,ry,rfl,dx,hn2,hE⟩:=J.after hq;cases (show u=Value.none from ry);obtain⟨e3,_,_⟩:=(show ObjOk X.prog X.w H2 s'.heap e2 (exN e2 C dx t2) from I2.hok e2 _ hn2);exact⟨rfl,e2,t2,dx,rfl,zoZ q I.kIn I2.kIn hC,e3,hR C zj σ H1 H2 _ s' e2 t2 dx I1 mk.new I2 hn2 hE⟩
  | next=>exact False.elim hq
  | brk=>exact False.elim hq
  | cont=>exact False.elim hq
end
theorem zps{P:Program}{w:World}{K:W.Frag}{mg:Str->Option Value}{base:Heap}{N:List Str}{qual:Str}{scope:Scope}{f:Addr}{cd:Value}{A:Around}{outer:List Env}{s:Shared}{H:Hp}{E:XK}:
  RaisesI (zgI (CX1 P w) P w K mg base N qual scope f cd A outer s H E) E:=fun C zj σ H1 H2 s1 s2 e t dx I1 ne I2 hn hE=>zoA I2 hn (by
 cases z:s.heap.get? e with
 | none=>rfl
 | some o =>
  obtain⟨o1,q1⟩:=I1.base.there e o z (fun z=>by cases z);rw [ne] at q1;cases q1) hE
end L2
namespace L2
open PySem PySem.Spec PyProof.Rows
section
def spI(K:W.Frag)(ns:List Str):Sp:=fun vs H Q _=>∃ a C t ws,vs=.ref a :: ws/\ws.length=ns.length/\ExI K C/\(∀ n∈ns,NoAttr K C n)/\H a=some (exN a C none t)/\∀ dx,H dx=none->Q .non (upd (upd H a (exN a C (some dx) t)) dx (xw dx (ns.zip ws)))
theorem init2{K:W.Frag}{n m:Str}{N:List Str}{vs:List V}{H:Hp}{Q:VK}{E:XK}(ne:n≠m)(h:spI K [n,m] vs H Q E):zk3 (zr3 K (zlv 0) (zlv 1) n) (zr3 K (zlv 0) (zlv 2) m) { nx:=fun _ H'=>Q .non H',rt:=Q } (start N vs) H:=by
 obtain⟨a,C,t,ws,rfl,hl,xi,na,ha,q⟩:=h;obtain⟨w,v,rfl⟩:∃ w v,ws=[w,v]:=by
  match ws,hl with
  | [w,v],_=>exact⟨w,v,rfl⟩
 refine⟨w,rfl,_,rfl,a,C,t,rfl,xi,na n (by simp),.inl ⟨ha,fun dx hd=>?_⟩⟩;have nx:dx≠a:=fun z=>by
  rw [z,ha] at hd;cases hd
 refine⟨v,rfl,_,rfl,a,C,t,rfl,xi,na m (by simp),.inr ⟨dx,[(n,w)],?_,zad,nx,by simp,?_⟩⟩
 ·rw [zO (Ne.symm nx),zad]
 ·have e:zkt m v [(n,w)]=[n,m].zip [w,v]:=by simp [zkt,ne]
  show Q .non _;rw [e,zri];exact q dx hd
theorem znV{H:Hp}:∀ {ns:List Str} {ds:List PyData} {vs:List V},HasL H ds vs->∀ f dt,(ns.zip ds).lookup f=some dt->∃ u,(ns.zip vs).lookup f=some u/\Has H dt u
 | [],_,_,_,f,dt,e=>by simp at e
 | n :: ns,[],_,_,f,dt,e=>by simp at e
 | n :: ns,d :: ds,vs,l,f,dt,e=>by
  obtain⟨v,r,rfl,hv,l'⟩:=zA.mp l;rw [zip_cons_cons,lookup_cons] at e;by_cases z:f=n
  ·subst z;simp at e;subst e;exact⟨v,by simp,hv⟩
  ·have zz:(f == n)=false:=by simp [z]
   rw [zz] at e;obtain⟨u,e1,e2⟩:=znV l' f dt e;exact⟨u,by rw [zip_cons_cons,lookup_cons,zz]; exact e1,e2⟩
def zie(EX:EXD)(C:Addr)(ns:List Str)(da:DA):DS:=fun _ δ S=>da δ S fun xs _=>∃ ds,datas xs=some ds/\ds.length=ns.length/\EX C (ns.zip ds)
theorem znO{E:XK}{EX:EXD}{K:W.Frag}{C:Addr}{ns:List Str}{ta:TA}{da:DA}(hI:ExI K C)(hn:∀ n∈ns,NoAttr K C n)(ha:RA ta da):RSx E EX (zkA E C (spI K ns) ta) (zie EX C ns da):=fun h o H δ σ S En D he hs q c x =>
 ha h o H δ σ S _ _ he hs q fun o1 H1 S1 xs vs e1 s1 x1 ⟨ds,ed,hl,hE⟩ a tt na=>by
  have exs:=zbX ed;have hL:=zeF x1 exs;refine⟨a,C,tt,vs,rfl,by rw [hL.length]; exact hl,hI,hn,zad,fun dx nd=>⟨rfl,some dx,?_,?_⟩⟩
  ·have ne:dx≠a:=fun z=>by rw [z,zad] at nd; cases nd
   rw [zO (Ne.symm ne),zad]
  ·have ne:dx≠a:=fun z=>by rw [z,zad] at nd; cases nd
   have nd1:H1 dx=none:=by rwa [zO ne] at nd
   have na1:upd H1 dx (xw dx (ns.zip vs)) a=none:=by rw [zO (Ne.symm ne)]; exact na
   have eH:upd (upd (upd (upd H1 a (exN a C none tt)) a (exN a C (some dx) tt)) dx (xw dx (ns.zip vs))) a (exO a C (some dx))=upd (upd H1 dx (xw dx (ns.zip vs))) a (exO a C (some dx)):=by
    funext b;unfold upd;split
    ·rfl
    ·rfl
   rw [eH];have sU:=(Same.laid (o:=xw dx (ns.zip vs)) nd1).trans (Same.laid (o:=exO a C (some dx)) na1);have fa:=s1.fresh na;have fd:=s1.fresh nd1;refine(x.pre e1) o1 _ S1 C a (ns.zip ds) (Ex.of_same sU) (s1.same sU) ⟨a,some dx,rfl,zap.mpr ⟨fa.1,fa.2,zad⟩,fun f dt l=>?_⟩ hE;obtain⟨u,e2,e3⟩:=znV hL f dt l;exact⟨dx,ns.zip vs,u,rfl,zap.mpr ⟨fd.1,fd.2,by rw [zO ne,zad]⟩,e2,Has.mono (zeh sU) _ _ e3⟩
end
end L2
namespace L2
open PySem PySem.Spec PySem.Calls PyProof.Rows
def tXA(K:W.Frag)(te:TE)(f:Str):TE:=fun σ H Q=>te σ H fun x H1=>∃ a C dx vs u,x=.ref a/\H1 a=some (exO a C (some dx))/\H1 dx=some (xw dx vs)/\ExI K C/\NoAttr K C f/\vs.lookup f=some u/\Q u H1
theorem zo2{X:Cx}{e:Expr}{te:TE}{f:Str}{pos:Pos}(he:PE X e te)(hb:attributeBase e f X.env (eval e X.env)=eval e X.env):PE X (.Attribute e f pos) (tXA X.K te f):=by
 intro zj s σ H Q I h;refine zrB hb (thn (he zj s σ H _ I h) fun u s1 ⟨x,H1,I1,rx,a,C,dx,vs,v,ex,ea,ed,xi,na,l,q⟩=>?_);subst ex;obtain rfl:u=Value.ref a:=rx;obtain⟨hp,g,d,t,os⟩:=s1;obtain⟨⟨o,e1,hc,hd,fv,hfv⟩,_,_⟩:=(show ObjOk X.prog X.w H1 hp a (exO a C (some dx)) from I1.hok a _ ea);obtain⟨⟨mA,n1,r1,w1⟩,_,_⟩:=(show ObjOk X.prog X.w H1 hp dx (xw dx vs) from I1.hok dx _ ed);obtain⟨od,ho,hl⟩:=zi8 n1;have rr:RelO (some v) (mA f):=by rw [<- l]; exact r1 f
 obtain⟨w,hw,rv⟩:∃ w,mA f=some w/\RelV v w:=by
  cases z:mA f with
  | none=>rw [z] at rr; cases rr
  | some w=>rw [z] at rr; exact⟨w,rfl,rr⟩
 have T0:∀ M,W.Looks M hp (typeOf (.ref a)) (.ref C):=fun M=>hc▸(W.Looks.ld e1).andThen .now;exact zrT (v:=w) I1.kIn T0 ⟨xi.k.ga,xi.k.gn,(xi.k.mroIn _).trans (by simp [exM])⟩ (W.looks_find I1.kIn ⟨e1,hc,by unfold W.notCls; rw [hfv],by rw [hd]; exact ho⟩ (W.findObj_own xi.hd na rfl (by rw [hl,hw]))) (znh rv) ⟨v,H1,I1.tok _,rv,q⟩
structure ExsI(K:W.Frag)(Cs:List Addr)(f:Str):Prop where
 i:∀ C∈Cs,ExI K C
 n:∀ C∈Cs,NoAttr K C f
def dXA(Cs:List Addr)(de:DE)(f:Str):DE:=fun δ S R=>de δ S fun x S1=>∃ C fs d,x=.x C fs/\C∈Cs/\fs.lookup f=some d/\R (.d d) S1
theorem zjg{K:W.Frag}{Cs:List Addr}{te:TE}{de:DE}{f:Str}(X0:ExsI K Cs f)(he:RE te de):RE (tXA K te f) (dXA Cs de f):=fun h o H δ σ S R Q hE hs q c =>
 he h o H δ σ S _ _ hE hs q fun o1 H1 S1 x v e1 s1 x1 d1=>by
  obtain⟨C,fs,d,rfl,hC,hl,q1⟩:=d1;obtain⟨a,dx0,rfl,ha,hf⟩:=(show HasE (vx h o1 H1) C fs v from x1);obtain⟨dx,vs,u,rfl,e2,e3,e4⟩:=hf f d hl;exact⟨a,C,dx,vs,u,rfl,zam _ _ ha,zam _ _ e2,X0.i C hC,X0.n C hC,e3,c o1 H1 S1 (.d d) u e1 s1 e4 q1⟩
end L2
namespace L2
open PySem PySem.Spec PyProof.Rows
section
def zuv(o:Obj):Bool:=match o.data with
 | .dict es _=>es.toList.all fun e=>match e.key with | .str _ _=>true | _=>false
 | _=>false
theorem zrk{K:W.Frag}{N:Addr}{o:Obj}(l:K.lookup N=some o)(h:zuv o=true):W.nsOkIn K N=true:=by
 unfold W.nsOkIn;rw [l];obtain⟨a,b,c,d⟩:=o;cases c with
 | dict es n =>
  show (es.all fun e=>match e.key with | .str _ _=>true | _=>false)=true;rw [<- Array.all_toList];exact h
 | _=>cases h
theorem exc_ofI{K:W.Frag}{C N fI:Addr}{nm qn:Str}{bs:List Value}{hd:Bool}{sn:List Str}{sub:List Value}{ab:Bool}{col:Option Bool}{dd:Option Addr}{k0 k1 k2 k3 k5:Option Value}
  (l:K.lookup C=some (excClassObj nm qn C N bs (.ref 24 :: veB) hd sn sub ab col dd k0 k1 k2 k3 k5 "ValueError.__new__")) {oN:Obj} (lN:K.lookup N=some oN) (sN:zuv oN=true) (i:W.nsIn K N "__init__" = some (some (.ref fI))) (G:ExCls K 24 none):ExCls K C (some (.ref fI)):=by
 have ok:=zrk lN sN;refine⟨fun h X=>?_,?_,?_⟩
 ·obtain⟨bmG,NG,nmG,qnG,bsG,hdG,snG,subG,abG,colG,ddG,j0,j1,j2,j3,j5,mNG,hG,hNG,hniG,_,_⟩:=G.ob h X;have nsN:h.Ns N (h.nsMap N):=.of_isNs (W.isNs_of_in X ok);refine⟨.ref 24 :: veB,N,nm,qn,bs,hd,sn,sub,ab,col,dd,k0,k1,k2,k3,k5,h.nsMap N,X _ _ l,nsN,zuE X nsN i,.own hG hNG hniG .base,fun D=>?_⟩;unfold W.mroIn W.clsIn;rw [l];rfl
 ·unfold W.clsIn;rw [l];rfl
 ·show Option.map (fun x:Obj=>x.cls) (K.lookup C)=_;rw [l];rfl
end
section
abbrev Phi:=List Addr->List Addr->Hp->Prop
class Stb (Φ:Phi):Prop where
 st:∀ {h o o':List Addr} {H H':Hp},Φ h o H->Ex o H o' H'->Φ h o' H'
def PhX(E:XK)(EX:EXD):Phi:=fun h o H=>CnX h o H EX E
instance {E:XK} {EX:EXD}:Stb (PhX E EX):=⟨fun x e=>CnX.pre x e⟩
def REp(Φ:Phi)(t:TE)(dt:DE):Prop:=∀ (h o:List Addr) (H:Hp) (δ:XE) (σ:St) (S:Sto) (R:RX) (Q:VK),RepE h o H δ σ->RepS h o H S->dt δ S R->Cn h o H R Q->Φ h o H->t σ H Q
def RTp(Φ:Phi)(t:TT)(dt:DT):Prop:=∀ (h o:List Addr) (H:Hp) (δ:XE) (σ:St) (S:Sto) (R:Bool->Sto->Prop) (Q:Bool->Hp->Prop),RepE h o H δ σ->RepS h o H S->dt δ S R ->
 (∀ o' H' S' b,Ex o H o' H'->RepS h o' H' S'->R b S'->Q b H')->Φ h o H->t σ H Q
def RAp(Φ:Phi)(t:TA)(dt:DA):Prop:=∀ (h o:List Addr) (H:Hp) (δ:XE) (σ:St) (S:Sto) (R:List XV->Sto->Prop) (Q:List V->Hp->Prop),RepE h o H δ σ->RepS h o H S->dt δ S R ->
 (∀ o' H' S' xs vs,Ex o H o' H'->RepS h o' H' S'->HasXs h o' H' xs vs->R xs S'->Q vs H')->Φ h o H->t σ H Q
section
variable {Φ:Phi} [Stb Φ] {ta tb te:TE} {da db de:DE} {tl:TA} {dl:DA} {tt tu:TT} {dt du:DT}
theorem zq5(a:RT tt dt):RTp Φ tt dt:=fun h o H δ σ S R Q he hs q c _=>a h o H δ σ S R Q he hs q c
theorem znx(a:RA tl dl):RAp Φ tl dl:=fun h o H δ σ S R Q he hs q c _=>a h o H δ σ S R Q he hs q c
end
section
variable {E:XK} {EX:EXD} {ta tb te:TE} {da db de:DE} {tl:TA} {dl:DA} {tt tu:TT} {dt du:DT}
def zjQ(EX:EXD)(m:Nat)(q:PX)(da:DA):DE:=fun δ S R=>da δ S fun xs S1=>∃ ds,datas xs=some ds/\ds.length=m/\q (ds.map XV.d) [] (ret0 S1 R) EX
theorem CnX.out{h o:List Addr}{H:Hp}{S:Sto}(hs:RepS h o H S)(x:CnX h o H EX E):CnX (h++o) [] H EX E:=fun o' H' S' C a fs e' s' hE q=>by
 have sH:Same H H':=fun b u eb=>(e'.kp b u (by simp) eb).2;have sv:Same (vx (h++o) o' H') (vx h o H'):=fun b u eb=>by
  obtain⟨n1,n2,n3⟩:=zap.mp eb;exact zap.mpr ⟨fun z=>n1 (mem_append_left _ z),fun z=>n1 (mem_append_right _ z),n3⟩
 exact x o H' S C a fs (Ex.of_same sH) (hs.same sH) (HasE.mono sv hE) q
theorem zkK{ps:List Str}{q:PX}{m:Nat}(ha:RAp (PhX E EX) tl dl)(hm:ps.length=m:=by rfl):REp (PhX E EX) (zgu (spX ps q) [] E tl) (zjQ EX m q dl):=fun h o H δ σ S R Q he hs w c x =>
 ha h o H δ σ S _ _ he hs w (fun o1 H1 S1 xs vs e1 s1 x1 ⟨ds,e,hl,d1⟩=>by
  have ex:=zbX e;subst ex;have hv:=x1.len;rw [append_nil];exact⟨by rw [hv,length_map,hl,hm],h++o1,[],[],_,_,EX,rep0 s1,hxs0 x1,d1,cn0 s1 (c.pre e1),(x.pre e1).out s1⟩) x
theorem zmL(ha:REp (PhX E EX) te de):RSx E EX (zoU te) (zct de):=fun h o H δ σ S En D he hs q c x =>
 ha h o H δ σ S _ _ he hs q (fun o1 H1 S1 y v e1 s1 x1 d1=>c.nx o1 H1 δ S1 σ e1 (he.mono e1) s1 d1) x
theorem zs1{t u:TS}{ds dv:DS}(hc:RTp (PhX E EX) tt dt)(ht:RSx E EX t ds)(hu:RSx E EX u dv):RSx E EX (zq6 tt t u) (zcy dt ds dv):=fun h o H δ σ S En D he hs q c x =>
 hc h o H δ σ S _ _ he hs q (fun o1 H1 S1 b e1 s1 d1=>by
  cases b with
  | true=>exact zou (ht h o1 H1 δ σ S1 En D (he.mono e1) s1 (by simpa using d1) (c.pre e1) (x.pre e1))
  | false=>exact zox (hu h o1 H1 δ σ S1 En D (he.mono e1) s1 (by simpa using d1) (c.pre e1) (x.pre e1))) x
end
section
variable {X:Cx} {E:XK}
theorem zqq{x:Str}{ps:List Str}{k j:Nat}{pos pos':Pos}{e:Expr}{es:List Expr}{t:TA}{q:PX}(D:DfX X.prog X.w X.K X.mg X.base x ps k (spX ps q))(hp:Passes (CX1 X.prog X.w) X E)(hr:Room j X.A)(hk:k<=j)(ha:PA X (e :: es) t)(hg:Gl X x:=by rfl)(hdb:(x == ("__debug__":Str))=false:=by decide)
  (q1:starEach (e :: es) X.env=(false,eval e X.env) :: starEach es X.env:=by rfl) (q2:((backTo pos (starEach es X.env)).any fun x=>x.fst)=false:=by rfl):PE X (.Call (.Name x pos') (e :: es) [] pos) (zgu (spX ps q) [] E t):=by
 obtain⟨f,fd,F,hm,kp,hb⟩:=D.ex;exact zj5 (dvs:=[]) (ds:=[]) (E:=E) F (hr.mono hk) hg hm kp hb .nil hp ha hdb q1 q2
end
structure XI(K:W.Frag)(C:Addr)(ns:List Str)(qual:Str)(st:Stmt):Prop where
 ex:∃ fI fd,ExCls K C (some (.ref fI))/\W.typeIn K (.ref fI)=some (.type "function")/\Fun K "__init__" qual st fI fd/\Binds K fd (("self":Str) :: ns) []
 kc:W.keepIn K (.ref C)=true
 i:ExI K C
 na:∀ n∈ns,NoAttr K C n
theorem XI.mk'{K:W.Frag}{C N fI:Addr}{ns:List Str}{qual:Str}{st:Stmt}{nm qn:Str}{bs:List Value}{hd:Bool}{sn:List Str}{sub:List Value}{ab:Bool}{col:Option Bool}{dd:Option Addr}{k0 k1 k2 k3 k5:Option Value}{oc:Value}{od an:Option Addr}{osl:Array (Option Value)}{kV doc pm cdv ct:Value}
  (l:K.lookup C=some (excClassObj nm qn C N bs (.ref 24 :: veB) hd sn sub ab col dd k0 k1 k2 k3 k5 "ValueError.__new__")) {oN:Obj} (lN:K.lookup N=some oN) (sN:zuv oN=true) (i:W.nsIn K N "__init__" = some (some (.ref fI))) (G:ExCls K 24 none)
  (tf:W.typeIn K (.ref fI)=some (.type "function")) (lf:K.lookup fI=some ⟨oc,od,.func (W.fnOf "__init__" qual (zdc st) (zaO st) (zf st) .none kV doc pm an cdv ct),osl⟩) (c:W.codeIn K cdv qual=true) (kf:W.keepIn K (.ref fI)=true)
  (hb:∀ (kV doc pm:Value) (an:Option Addr) (cdv ct:Value) (us:List Value),us.length=(("self":Str) :: ns).length->bindArgs (W.fnOf "__init__" qual (zdc st) (zaO st) (zf st) .none kV doc pm an cdv ct) ⟨us,[]⟩=pure ((("self":Str) :: ns).zip us))
  (kc:W.keepIn K (.ref C)=true) (ek:ExK K C) (hdd:W.hasDictIn K C=true) (sa:W.findIn K (.ref C) "__setattr__" = some (some (.builtin "object.__setattr__"))) (na:∀ n∈ns,NoAttr K C n):XI K C ns qual st :=
 ⟨⟨fI,_,exc_ofI l lN sN i G,tf,zkG (st:=st) lf c kf,(zkG (st:=st) lf c kf).binds hb⟩,kc,⟨ek,hdd,sa⟩,na⟩
theorem zrs{K:W.Frag}{ns:List Str}(vs:List V)(H:Hp)(Q:VK)(E:XK)(h:spI K ns vs H Q E):vs.length=(("self":Str) :: ns).length:=by
 obtain⟨a,C,t,ws,rfl,hl,_⟩:=h;rw [length_cons,length_cons,hl]
section
variable {X:Cx} {E:XK} {x:Str} {C:Addr} {ns:List Str} {qual:Str} {st:Stmt} {j:Nat} {np cpos pos:Pos} {e:Expr} {es:List Expr} {t:TA}
theorem znP(B:XI X.K C ns qual st)(hF:∀ f fd,Fun X.K "__init__" qual st f fd->FnOk X.prog X.w X.K X.mg X.base CX0 1 f fd (("self":Str) :: ns) (spI X.K ns))(hR:RaisesI X E)(hr:Room j X.A)(hj:2<=j)(hm:X.mg x=some (.ref C))(hn:ns.length<=9)
  (ha:PA X (e :: es) t) (hc:X.calm=true:=by rfl) (hg:Gl X x:=by rfl) (hdb:(x == ("__debug__":Str))=false:=by decide) (he:starEach (e :: es) X.env=(false,eval e X.env) :: starEach es X.env:=by rfl) (hpl:(backTo cpos (starEach es X.env)).any (·.1)=false:=by rfl) :
  PS X (.Raise (some (.Call (.Name x np) (e :: es) [] cpos)) none pos) (zkA E C (spI X.K ns) t):=by
 obtain⟨fI,fd,q,hfn,F,hb⟩:=B.ex;exact zmx hc hR hg hm q B.kc hfn (hF fI fd F) (fun _ _ _ _ _ z=>z) (fun us=>(hr.mono hj).make C us []) hb (by rw [length_cons]; omega) ha hdb he hpl
end
def zuC(N P:List Str)(sc:Scope):Bool:=decide (sc.kind=.function) && !sc.isCoroutine && !sc.isGenerator && decide N.Nodup && decide (N.take P.length=P) && P.all (fun x=>decide (sc.names.lookup x=some .local) || decide (sc.names.lookup x=some .cell)) && sc.names.all fun y=>decide (y.2≠.free)
theorem fsc{N P:List Str}{sc:Scope}(h:zuC N P sc=true):FnScope N P sc:=by
 simp only [zuC,Bool.and_eq_true,decide_eq_true_eq,Bool.not_eq_true',all_eq_true,Bool.or_eq_true] at h;obtain⟨⟨⟨⟨⟨⟨h1,h2⟩,h3⟩,h4⟩,h5⟩,h6⟩,h7⟩:=h;exact⟨h1,h2,h3,h4,h5,h6,h7⟩
end
section
section
variable {κ α:Type} [DecidableEq κ]
def lkA(m:List (κ×α))(k:κ):Option α:=(m.find? fun p=>decide (p.1=k)).map (·.2)
def ptA(m:List (κ×α))(k:κ)(v:α):List (κ×α):=if (m.any fun p=>decide (p.1=k))=true then m.map (fun p=>if p.1=k then (p.1,v) else p) else m++[(k,v)]
end
inductive DD where
 | k (m:List (Key×PyData))
 | t (m:List (List Key×PyData))
def DD.pairs:DD->List (PyData×PyData)
 | .k m=>m.map fun p=>(kD p.1,p.2)
 | .t m=>m.map fun p=>(.tuple (p.1.map kD),p.2)
def zvl:PyData->Option Key
 | .int i=>some (.inl i)
 | .str x=>some (.inr x)
 | _=>none
abbrev DM:=List (Addr×DD)
def ad(M:DM):List Addr:=M.map (·.1)
section
variable {h o o':List Addr} {H H':Hp} {M:DM} {S:Sto}
def zvm(M:DM)(a:Addr)(D:DD):DM:=M.map fun p=>if p.1=a then (a,D) else p
end
end
section
structure DEndsM where
 nx:XE->Sto->DM->Prop
 rt:XV->Sto->DM->Prop
 bk:XE->Sto->DM->Prop:=fun _ _ _=>False
 ct:XE->Sto->DM->Prop:=fun _ _ _=>False
abbrev DSm:=DEndsM->XE->Sto->DM->Prop
def zp6(dt:DS):DSm:=fun En δ S M=>dt { nx:=fun δ' S'=>En.nx δ' S' M,rt:=fun x S'=>En.rt x S' M,bk:=fun δ' S'=>En.bk δ' S' M,ct:=fun δ' S'=>En.ct δ' S' M } δ S
def zu7(c:DM->DT)(t u:DSm):DSm:=fun En δ S M=>c M δ S fun b S1=>if b=true then t En δ S1 M else u En δ S1 M
def zmF(g:DG)(b:DSm):List PyData->DSm
 | [],E,δ,S,M=>E.nx δ S M
 | d :: ds,E,δ,S,M=>g (.d d) δ S fun δ1 S1=>b { nx:=fun δ2 S2 M2=>zmF g b ds E δ2 S2 M2,ct:=fun δ2 S2 M2=>zmF g b ds E δ2 S2 M2,bk:=E.nx,rt:=E.rt } δ1 S1 M
def zs2(i:DM->DI)(g:DG)(b:DSm):DSm:=fun En δ S M=>i M δ S fun ds S1=>zmF g b ds En δ S1 M
end
section
def zvj(a:Addr)(m:List (Key×PyData)):XV->XV
 | .o (.ref b)=>if b=a then .d (.dict (DD.pairs (.k m))) else .o (.ref b)
 | x=>x
def ztQ(f:Bool)(i:Nat)(D0:DD)(b:DSm):DSm:=fun En δ S M=>∀ a,a∉ad M->b { nx:=(fun δ' S' M'=>if f=true then (∃ M1 m,M'=M1++[(a,.k m)]/\δ'[i]? = some (some (.o (.ref a)))/\En.nx (δ'.map (Option.map (zvj a m))) S' M1) else (∃ M1 D,M'=M1++[(a,D)]/\En.nx δ' S' M1)),rt:=(fun x S' M'=>∃ M1 D,M'=M1++[(a,D)]/\En.rt x S' M1),bk:=(fun δ' S' M'=>∃ M1 D,M'=M1++[(a,D)]/\En.bk δ' S' M1),ct:=(fun δ' S' M'=>∃ M1 D,M'=M1++[(a,D)]/\En.ct δ' S' M1) } (δ.set i (some (.o (.ref a)))) S (M++[(a,D0)])
section
variable {E:XK} {EX:EXD} {tb:TS} {db:DSm} {i:Nat}
def zu0(dt:DSm):DS:=fun En δ S=>dt { nx:=fun δ' S' _=>En.nx δ' S',rt:=fun x S' _=>En.rt x S',bk:=fun δ' S' _=>En.bk δ' S',ct:=fun δ' S' _=>En.ct δ' S' } δ S []
end
end
end L2
namespace L2
open PySem PySem.Spec PySem.Calls PyProof.Rows
def DD.itemsD(m:List (Key×PyData)):List PyData:=m.map fun p=>.tuple [kD p.1,p.2]
def zn4(e:DE):DI:=fun δ S R=>e δ S fun x S1=>∃ m,x=.d (.dict (DD.pairs (.k m)))/\R (DD.itemsD m) S1
end L2
namespace L2
open PySem PySem.Spec PyProof.Rows
section
section
variable {X:Cx} {zj:List (Addr×Obj)} {σ:St} {H:Hp} {s:Shared} {a:Addr}
theorem Inv.goneAt{h':Heap}{n:Str}{i:Nat}{m:Str->Option Value}{v:Option Value}{t':Nat}(I:Inv X zj σ H s)(hN:X.N.Nodup)(hi:X.N[i]? = some n)(hl:X.env.kindOf n=some .local)(hm:s.heap.Ns X.env.locals m)
  (hv:∀ (i:Nat) (x:Str) (v:V),X.N[i]? = some x->σ[i]? = some (some v)->Vis X.env.scope x->∃ u,RelV v u/\Look X.env s.heap m x u) (hn:h'.Ns X.env.locals (fun x=>if x=n then v else m x)) (sb:Heap.SameBut X.env.locals s.heap h'):Inv X zj (σ.set i none) H { s with heap:=h',toks:=t' }:=by
 have ne:∀ b o,X.s₀.heap.get? b=some o->b≠X.env.locals:=fun b o e=>ne_of_lt (lt_of_lt_of_le (lt_size e) I.ok.above);refine⟨I.ok,I.os,I.bare,⟨fun b o e n hb hx=>?_,fun b o e n hb hx=>?_,I.base.free,fun b o e hx=>?_,I.base.tups,I.base.frzs,I.base.tbls⟩,⟨_,hn,fun j x w e1 e2 e3=>?_⟩,fun x c e=>?_,I.free,I.freeC,fun p hp=>?_,I.hok.stays fun b u e o q=>?_,by rw [length_set]; exact I.len⟩
 ·exact(sb.2 b (ne b o e)).trans (I.base.keep b o e n hb hx)
 ·obtain⟨sl,q⟩:=I.base.slot b o e n hb hx;exact⟨sl,(sb.2 b (ne b o e)).trans q⟩
 ·obtain⟨o',q⟩:=I.base.there b o e hx;exact⟨o',(sb.2 b (ne b o e)).trans q⟩
 ·rw [getElem?_set] at e2;by_cases hij:i=j
  ·rw [if_pos hij] at e2;split at e2 <;> cases e2
  ·rw [if_neg hij] at e2;have xn:x≠n:=fun z=>hij ((List.getElem?_inj (List.getElem?_eq_some_iff.mp hi).1 hN).mp (by rw [hi,e1,z]));obtain⟨u,r,l⟩:=hv j x w e1 e2 e3;refine⟨u,r,?_⟩;rcases l with ⟨k1,k2⟩ | ⟨k1,c,k2,k3⟩
   ·exact .inl ⟨k1,by show (if x=n then v else m x)=_; rw [if_neg xn]; exact k2⟩
   ·refine .inr ⟨k1,c,k2,?_⟩;obtain⟨o,ho,hd⟩:=k3;exact⟨o,(sb.2 c (I.cne x c k2)).trans ho,hd⟩
 ·obtain⟨v,o,ho,hd⟩:=I.cell x c e;exact⟨v,o,(sb.2 c (I.cne x c e)).trans ho,hd⟩
 ·obtain⟨e,n,ne',nf,d⟩:=I.pin p hp;exact⟨(sb.2 _ ne').trans e,n,ne',nf,d⟩
 ·refine(sb.2 b ?_).trans q;rintro rfl;rw [I.free] at e;cases e
end
section
variable {X:Cx} {G n:Str} {gp hpos pos:Pos} {i:Nat} {b₀ st:Stmt} {suite:List Stmt} {GA:Addr} {iniG:Option Value} {tb:XK->TS} {ts:TS}
def zn3(K:W.Frag)(GA:Addr)(i:Nat)(ts:TS)(D:Ends)(σ:St):XK:=fun cls a H'=>∃ C b ini,cls=.ref C/\a=some b/\ExCls K C ini/\W.mroIn K C (.ref GA)=some true /\
 ts { nx:=fun σ' H2=>D.nx (σ'.set i none) H2,rt:=D.rt } (σ.set i (some (.ref b))) H'
def zka(K:W.Frag)(GA:Addr)(i:Nat)(tb:XK->TS)(ts:TS):TS:=fun D σ H=>tb (zn3 K GA i ts D σ) D σ H
theorem zrN(hx:∀ e s,X.xe e s->False)(hst:X.stack=X.env :: X.outer)(hfr:X.env.frame=some X.env.locals)(hN:X.N.Nodup)(hi:X.N[i]? = some n)(hl:X.env.kindOf n=some .local)(hg:Gl X G)(hm:X.mg G=some (.ref GA))(qG:ExCls X.K GA iniG)
  (hb:PSX X st tb) (hs:∀ a,PSs (X.suite a) (b₀ :: suite) ts) (hdb:(G == ("__debug__":Str))=false:=by decide) :
  PS X (.Try [st] [.ExceptHandler (some (.Name G gp)) (some n) (b₀ :: suite) hpos] [] [] pos) (zka X.K GA i tb ts):=by
 intro zj s σ H D I h;refine wpAny_Try_except (wpAny_execs_cons (wpAny_mono (hb zj s σ H D _ (fun e s₁=>wpAny (model X.prog X.w) X.A (noteFrame e X.env) (fun _ s₂=>wpAny (model X.prog X.w) X.A (setFlight e none) (fun _ s₃=>wpAny (model X.prog X.w) X.A (handleBy e X.env [.ExceptHandler (some (.Name G gp)) (some n) (b₀ :: suite) hpos]) (SP X zj D) X.xe s₃) X.xe s₂) X.xe s₁) I h ?_) (fun fl s1 q=>?_) fun _ _ z=>z))
 rotate_left
 ·cases fl with
  | next=>exact wpAny_execs_nil (wpAny_execs_nil q)
  | ret v=>exact q
  | brk=>exact q
  | cont=>exact q
 intro H1 s1 v s' I1 cx;obtain⟨H',a,C,dx,rfl,F,C',b,ini,eC,eb,qC,hin,hts⟩:=cx;cases eC;cases eb;obtain⟨B,t,fl,kB,eB,tB⟩:=F.fl;rw [hst] at fl;have frames:X.A.frames=some (X.env :: X.outer):=by rw [I1.ok.frames,hst]
 refine znS frames hfr fl fun h₄ held₄ sm₄=>?_;refine ztF held₄ fun h₅ fl₅ sm₅=>?_;have bB:∀ b o,X.base.get? b=some o->B.get? b=some o:=fun b o e=>kB b o (I1.bk b o e) (I1.bs b o e).2 fun z=>by
  have:=(I1.stack.mem z).1;rw [e] at this;cases this
 have kin:X.K.In h₅:=I1.ok.mod.kin.keeps fun b o e=>fl₅.1 b o (bB b o e);obtain⟨oe,hoe,hoc,_⟩:=fl₅.there;refine wpAny_handleBy_cons (codeAny_handlers_test ?_) (by intro q; cases q);refine Calls.Name_function_global I1.ok.kind hg (Calls.loadGlobal_global (by rw [I1.ok.glob]; exact I1.mod.glob.keeps fun b o e=>fl₅.1 b o (bB b o e)) hm ?_) hdb;refine zg1 kin qC qG hoe hoc hin (codeAny_handlers_suite_as ?_);refine zjP fl₅ fun h₆ fl₆ sm₆=>?_;obtain⟨oe6,hoe6,hoc6,hod6⟩:=fl₆.there;subst hod6;have sm:s'.heap.UpToSlots h₆:=(sm₄.trans sm₅).trans sm₆;have na:H' a=none:=by
  cases z:H' a with
  | none=>rfl
  | some u =>
   obtain⟨o,q⟩:=tB a u z;rw [fl.2.1] at q;cases q
 have new:∀ b o,s1.heap.get? b=some o->b≠a:=fun b o q z=>by
  subst z;rcases eB b o q with z | ⟨o',z⟩
  ·rw [hst] at z;obtain⟨_,o2,q2,nf⟩:=fl₆.2.2.1.mem z;obtain⟨oe7,vs7,q7,_,d7,_⟩:=fl₆.first
   rw [q2] at q7;cases q7;exact nf _ d7
  ·rw [fl.2.1] at z;cases z
 have I6:Inv X zj σ (upd H' a (exO a C oe6.dict)) { s' with heap:=h₆ }:=by
  refine I1.call' (ch:=[]) F.os ⟨fun b o q n hb _=>fl₆.1 b o (kB b o q n hb),fun b o q n hb _=>?_,fun b o q n _=>?_,fun b o q _=>?_,fun b xs q=>?_,fun b o u q=>?_,fun b ps q=>?_⟩ ?_ F.bare (fun b z=>absurd z (by simp))
  ·obtain⟨sl,q1⟩:=F.un.any q n (by simp);rw [hst] at hb;obtain⟨_,o3,q3,nf⟩:=fl.2.2.1.mem hb;rw [q1] at q3;cases q3;obtain⟨sl3,q4⟩:=sm b _ q1 nf;exact⟨sl3,q4⟩
  ·rw [zO (new b o q)];exact F.un.free b o q n (by simp)
  ·rcases eB b o q with z | ⟨o',z⟩
   ·rw [hst] at z;obtain⟨_,o3,q3,_⟩:=fl₆.2.2.1.mem z;exact⟨o3,q3⟩
   ·exact⟨o',fl₆.1 b o' z⟩
  ·have q2:=F.un.tups b xs q;rw [zO (zH q2 na)];exact q2
  ·have q2:=F.un.frzs b o u q;rw [zO (zH q2 na)];exact q2
  ·have q2:=F.un.tbls b ps q;rw [zO (zH q2 na)];exact q2
  ·intro b u q;by_cases hb:b=a
   ·subst hb;rw [zad] at q;cases q;exact zsE hoe6 hoc6 (by
     obtain⟨oe7,vs7,q7,_,d7,_⟩:=fl₆.first
     rw [hoe6] at q7;cases q7;exact⟨_,d7⟩)
   ·rw [zO hb] at q;refine(F.hok b u q).stay (fun c v hc q1=>?_) (fun c q1=>by rw [zO (zH q1 na)]; exact q1) fun c xs q1=>by rw [zO (zH q1 na)]; exact q1
    have tr:∀ c u,H' c=some u->s'.heap.get? c=some v->h₆.get? c=some v:=fun c u e q1=>by
     obtain⟨o',z⟩:=tB c u e;have:=fl.1 c o' z;rw [q1] at this;cases this;exact fl₆.1 c v z
    rcases hc with rfl | hc
    ·exact tr _ _ q q1
    ·exact tr _ _ hc q1
 have hiσ:σ.length=X.N.length:=I6.len;refine zfP (v:=.ref a) I6 hN hi (.inl hl) rfl (fun s7 I7=>?_) (.inr hl);refine wpAny_mono (hs a zj s7 _ _ _ (I7.suite a) hts) (fun f8 s8 q=>?_) fun _ _ z=>z.elim;cases f8 with
 | ret u =>
  obtain⟨w,σ8,H8,I8,r8,q8⟩:=q;have J:=I8.unsuite I6.ok;obtain⟨m8,hn8,_⟩:=J.loc;have hcls:(X.env.scope.kind == .class || (X.env.scope.kind == .module && X.env.locals != X.env.globals))=false:=by rw [J.ok.kind]; rfl
  refine wpAny_nameGoes hl hn8 hcls fun h9 m9 hn9 sb9=>?_;exact⟨w,_,H8,J.gone hn9 sb9,r8,q8⟩
 | next =>
  obtain⟨σ8,H8,I8,q8⟩:=q;have J:=I8.unsuite I6.ok;obtain⟨m8,hn8,hv8⟩:=id J.loc;have hcls:(X.env.scope.kind == .class || (X.env.scope.kind == .module && X.env.locals != X.env.globals))=false:=by rw [J.ok.kind]; rfl
  refine wpAny_nameGoes_keeps hl hn8 hcls fun h9 v9 hn9 sb9=>?_;exact⟨_,H8,J.goneAt hN hi hl hn8 hv8 hn9 sb9,q8⟩
 | brk=>obtain⟨_,_,_,z⟩:=q; exact z.elim
 | cont=>obtain⟨_,_,_,z⟩:=q; exact z.elim
end
def znN(kn:DEnds->XE->RX)(m:Nat)(q:PX)(da:DA)(i:Nat)(hd:DS):DS:=fun En δ S=>da δ S fun xs S1=>∃ ds,datas xs=some ds/\ds.length=m /\
 q (ds.map XV.d) [] (ret0 S1 (kn En δ)) fun C fs=>C∈excs/\hd { nx:=fun δ' S'=>En.nx (δ'.set i none) S',rt:=En.rt } (δ.set i (some (.x C fs))) S1
theorem RepE.unset{h o:List Addr}{H:Hp}{δ:XE}{σ:St}{i:Nat}(r:RepE h o H δ σ):RepE h o H (δ.set i none) (σ.set i none):=by
 refine⟨by simp [r.len],fun j y e=>?_⟩;rw [getElem?_set] at e ⊢;by_cases hij:i=j
 ·rw [if_pos hij] at e;split at e <;> cases e
 ·rw [if_neg hij] at e ⊢;exact r.get j y e
theorem zmA{K:W.Frag}{i m:Nat}{ps:List Str}{q:PX}{tl:TA}{dl:DA}{ts:TS}{ds:DS}{kn:DEnds->XE->RX}{kt:Ends->St->VK}{tb:XK->TS}(X0:Exs K)(hm:ps.length=m)(hkn:KnOk kn kt)(htb:∀ Ex D σ H,tb Ex D σ H=(tl σ H fun vs H1=>spX ps q vs H1 (kt D σ) Ex))(ha:RA tl dl)(hsu:RS ts ds):
  RS (zka K 24 i tb ts) (znN kn m q dl i ds):=fun h o H δ σ S En D he hs d c=>by
 show tb (zn3 K 24 i ts D σ) D σ H;rw [htb];refine ha h o H δ σ S _ _ he hs d fun o1 H1 S1 xs vs e1 s1 x1 ⟨es,ees,hl,d1⟩=>?_;have exs:=zbX ees;subst exs;refine⟨by rw [x1.len,length_map,hl,hm],h++o1,[],[],es.map XV.d,_,_,rep0 s1,hxs00 x1,d1,cn0 s1 (hkn h o1 H1 δ σ En D (he.mono e1) (c.pre e1)),?_⟩;intro o' H' S' C a fs e' s' hE ⟨hC,hh⟩;have EC:=X0.all C hC;obtain⟨ini,qC⟩:=X0.ci C hC;refine⟨C,a,ini,rfl,rfl,qC,(EC.mroIn _).trans (by simp [exM]),?_⟩;have sH:Same H1 H':=fun b u eb=>(e'.kp b u (by simp) eb).2;have e2:Ex o1 H1 o1 H':=Ex.of_same sH;have sv:Same (vx (h++o1) o' H') (vx h o1 H'):=fun b u eb=>by
  obtain⟨n1,n2,n3⟩:=zap.mp eb;exact zap.mpr ⟨fun z=>n1 (mem_append_left _ z),fun z=>n1 (mem_append_right _ z),n3⟩
 have cc:=c.pre (e1.trans e2);exact hsu h o1 _ (δ.set i (some (.x C fs))) (σ.set i (some (.ref a))) S1 _ _ (((he.mono e1).mono e2).set (HasE.mono sv hE)) (s1.same sH) hh ⟨fun o3 H3 δ3 S3 σ3 e3 he3 hs3 n3=>cc.nx o3 H3 _ S3 _ e3 he3.unset hs3 n3,cc.rt,fun _ _ _ _ _ _ _ _ z=>z.elim,fun _ _ _ _ _ _ _ _ z=>z.elim⟩
end
section
structure FnAt(P:Program)(w:World)(K:W.Frag)(mg:Str->Option Value)(base:Heap)(F:Addr)(ps:List Str)(k:Nat)(sp:Sp):Prop where
 ex:∃ fd,FnOk P w K mg base CX0 k F fd ps sp/\W.keepIn K (.ref F)=true/\Binds K fd ps []
def zqr(i:Nat)(F:Addr)(sp:Sp)(ta:TA):TE:=fun σ H Q=>σ[i]? = some (some (.ref F))/\zgu sp [] E0 ta σ H Q
def zkS(i:Nat)(F:Addr)(m:Nat)(q:PN)(da:DA):DE:=fun δ S R=>δ[i]? = some (some (.o (.ref F)))/\zS m q da δ S R
theorem zoL{F:Addr}{i:Nat}{ps:List Str}{q:PN}{m:Nat}{t:TA}{da:DA}(ha:RA t da)(hm:ps.length=m:=by rfl):RE (zqr i F (spN ps q) t) (zkS i F m q da):=fun h o H δ σ S R Q he hs ⟨e,w⟩ c=>by
 obtain⟨v,e1,e2⟩:=he.get i _ e;have ev:v=.ref F:=e2;subst ev;exact⟨e1,zan ha hm h o H δ σ S R Q he hs w c⟩
def XV.flat:XV->Bool
 | .d _=>true
 | .o _=>true
 | _=>false
end
end L2
namespace HT
open PySem PyProof.Rows
section
open PySem.SeqAt
open PySem.AutoSeq1 (wpAny_loadPart')
open PySem.MeetsSeq PySem.MeetsSeq2 PySem.MeetsSeq3
theorem zgq:∀ {vs:List Value} {ns:List Int},IntsAre vs ns->∀ i,i<vs.length->∃ a t,vs[i]? = some (.int a t)/\ns.drop i=a :: ns.drop (i+1)
 | _,_,.nil,i,h=>by simp at h
 | _,_,.cons a t h,0,_=>⟨a,t,rfl,rfl⟩
 | _,_,.cons a t h,i+1,hi=>by
  obtain⟨b,u,e1,e2⟩:=zgq h i (by simpa using hi);exact⟨b,u,by simpa using e1,by simpa using e2⟩
def RcLtAt(A:Around)(s:Shared)(y x:Value)(b:Bool):Prop :=
 ∀ (prog:Program) (w:World) (E:Value->Shared->Prop) (Q:Value->Shared->Prop),Q (.bool b) s->wpAny (model prog w) A (richCompare .Lt y x) Q E s
theorem zhl:∀ ns:List Int,lexLt ns ns=false
 | []=>rfl
 | x :: xs=>by rw [lexLt_cons,if_pos rfl,zhl xs]
theorem zjF(l b:Addr)(n n2:Nat)(dd dd2:Option Addr)(sl sl2:Array (Option Value))(a c:Int)(t u:Tok)(x y:Value)(ns ms:List Int):
  Meets (Builtin.«tuple.__lt__» ⟨[.ref l,.ref b],[]⟩)
   (fun A R s=>s.heap.get? l=some { cls:=.type "tuple",dict:=dd,data:=.seq #[.int a t,x] n,slots:=sl }/\s.heap.get? b=some { cls:=.type "tuple",dict:=dd2,data:=.seq #[.int c u,y] n2,slots:=sl2 } /\
    EqAt A.in1 s x y (decide (ns=ms))/\RcLtAt A.in1 s x y (lexLt ns ms)/\R (.ok (.ret (.bool (if a=c then lexLt ns ms else decide (a<c))))) s) :=
 .of_wp fun prog w A R s h=>by
  obtain⟨hp,g,d,tk,os⟩:=s; obtain⟨hl,hb,hq,hr,h⟩:=h;have f2:=AutoSeq1.sub_tuple_tuple
  wp_walk using wpAny_loadPart' hl,wpAny_loadPart' hb,wpAny_forIn_list _ (fun rest b s'=>b.1=none/\s'=⟨hp,g,d,tk,os⟩ /\
   (rest=[(.int a t,.int c u),(x,y)]\/(rest=[(x,y)]/\R (.ok (.ret (.bool (lexLt ns ms)))) ⟨hp,g,d,tk,os⟩)\/(rest=[]/\R (.ok (.ret (.bool false))) ⟨hp,g,d,tk,os⟩))) _
  case turn =>
   rintro⟨y',x'⟩ rest b s' ⟨hb',rfl,hz | ⟨hz,hR⟩ | ⟨hz,hR⟩⟩
   ·injection hz with hyx hrest
    injection hyx with hy hx
    subst hy hx;obtain⟨e,he,hiff⟩:=zk5 A.in1 ⟨hp,g,d,tk,os⟩ a t c u;refine wpAny_bind (he prog w _ _ ?_);cases e with
    | true =>
     rw [if_pos (hiff.mp rfl)] at h
     wp_walk
     exact⟨rfl,rfl,.inr (.inl ⟨hrest,h⟩)⟩
    | false =>
     rw [if_neg (fun q=>absurd (hiff.mpr q) Bool.false_ne_true)] at h;have hri:=zlm A.in1 ⟨hp,g,d,tk,os⟩ a t c u prog w
     wp_walk using hri
     exact⟨_,rfl,by simpa using h⟩
   ·injection hz with hyx hrest
    injection hyx with hy hx
    subst hy hx;refine wpAny_bind (hq prog w _ _ ?_);by_cases hn:ns=ms
    ·rw [decide_eq_true hn]
     wp_walk
     exact⟨rfl,rfl,.inr (.inr ⟨hrest,by rw [hn,zhl] at hR; exact hR⟩)⟩
    ·rw [decide_eq_false hn];have hri:=hr prog w
     wp_walk using hri
     exact⟨_,rfl,by simpa using hR⟩
   ·cases hz
  case fin =>
   rintro⟨b1,b2⟩ s' ⟨hb',rfl,hz | ⟨hz,hR⟩ | ⟨hz,hR⟩⟩
   ·cases hz
   ·cases hz
   ·simp only at hb';subst hb'
    wp_walk
    exact⟨_,rfl,by simpa [Builtin.Tuple.tupleCompareSizes] using hR⟩
  case h =>
   exact⟨rfl,rfl,.inl rfl⟩
theorem zhI{vs:Array Value}{ns:List Int}(h:IntsAre vs.toList ns){i:Nat}(hi:i<vs.size):∃ a t,vs[i]=.int a t/\ns[i]? = some a:=by
 obtain⟨a,t,e,d⟩:=zgq h i (by simpa using hi);have e2:ns[i]? = some a:=by
  have:=congrArg (fun l=>l[0]?) d;simpa using this
 rw [Array.getElem?_toList,Array.getElem?_eq_getElem hi] at e;exact⟨a,t,Option.some.inj e,e2⟩
theorem zhC:∀ {vs:List Value} {ns ms:List Int},IntsAre vs ns->IntsAre vs ms->ns=ms
 | _,_,_,.nil,.nil=>rfl
 | _,_,_,.cons a t h,.cons _ _ h'=>by rw [zhC h h']
end
end HT
namespace L2
open PySem PySem.Spec PyProof.Rows
end L2
namespace L2
open PySem PySem.Spec PySem.Calls PyProof.Rows
end L2
namespace HT
open PySem PyProof.Rows
end HT
namespace L2
open PySem PySem.Spec PySem.Calls PyProof.Rows
end L2
namespace HT
open PySem PyProof.Rows
end HT
namespace L2
open PySem PySem.Spec PySem.Calls PyProof.Rows
end L2
namespace L2
open PySem PySem.Spec PyProof.Rows
section
def znz(lo:Int)(n:Nat):List PyData:=(List.range n).map fun k:Nat=>.int (lo - k)
end
end L2
namespace L2
open PySem PyProof.Rows
section
variable {prog:Program} {w:World} {A:Around} {E:Value->Shared->Prop} {s:Shared} {kd:SortKind} {D:Keyed->Prop} {lt:Keyed->Keyed->Bool}
def flt(lt:Keyed->Keyed->Bool):Keyed->Keyed->Bool:=fun x y=>lt y x
def G(xs:Array Keyed)(i:Nat):Keyed:=(xs[i]?).getD (.none,.none)
end
end L2
namespace L2
open PySem PySem.Spec PySem.Calls PyProof.Rows PySem.W
def zqU:List XV->Sto->RX->Prop:=fun xs S R=>arg1 xs fun x=>∃ m:List (Key×PyData),x=.d (.dict (DD.pairs (.k m)))/\∃ ns:List Int,m.map (·.1)=ns.map Sum.inl/\ns.length<=10000000/\∀ ms:List Int,ms.Perm ns->ms.Pairwise (· <= ·)->R (.d (.list (ms.map PyData.int))) S
end L2
namespace L2
open PySem PySem.Spec PyProof.Rows
end L2
namespace L2
open PySem PySem.Spec PySem.Calls PyProof.Rows
end L2
namespace L2
open PySem PySem.Spec PySem.Calls PyProof.Rows
def zsH(j:Nat)(dk dv:DM->DE):DSm:=fun En δ S M=>zh j δ S fun y S1=>∃ a m,y=.o (.ref a)/\(a,DD.k m)∈M/\dk M δ S1 fun z S2=>dv M δ S2 fun x S3=>asD z fun k=>asD x fun d=>∃ kk,zvl k=some kk/\m.length<1000/\if (lkA m kk).isSome=true then En.nx δ S3 M else En.nx δ S3 (zvm M a (.k (ptA m kk d)))
def zpV(k:Int)(e:DE):DE:=fun δ S R=>e δ S fun x S1=>asD x fun d=>R (.d (.dict [(.int k,d)])) S1
end L2
namespace L2
open PySem PySem.Spec PySem.Calls PyProof.Rows
end L2
namespace L2
open PySem PySem.Spec PyProof.Rows
end L2
namespace L2
theorem len0{α:Type}{l:List α}(h:l.length=0):l=[]:=eq_nil_of_length_eq_zero h
theorem len1{α:Type}{l:List α}(h:l.length=1):∃ a0,l=[a0]:=by
 cases l with
 | nil=>cases h
 | cons x r =>
  obtain rfl:=len0 (Nat.succ.inj h);exact⟨x,rfl⟩
theorem len2{α:Type}{l:List α}(h:l.length=2):∃ a0 a1,l=[a0,a1]:=by
 cases l with
 | nil=>cases h
 | cons x r =>
  obtain⟨a1,rfl⟩:=len1 (Nat.succ.inj h);exact⟨x,a1,rfl⟩
theorem len3{α:Type}{l:List α}(h:l.length=3):∃ a0 a1 a2,l=[a0,a1,a2]:=by
 cases l with
 | nil=>cases h
 | cons x r =>
  obtain⟨a1,a2,rfl⟩:=len2 (Nat.succ.inj h);exact⟨x,a1,a2,rfl⟩
theorem len4{α:Type}{l:List α}(h:l.length=4):∃ a0 a1 a2 a3,l=[a0,a1,a2,a3]:=by
 cases l with
 | nil=>cases h
 | cons x r =>
  obtain⟨a1,a2,a3,rfl⟩:=len3 (Nat.succ.inj h);exact⟨x,a1,a2,a3,rfl⟩
end L2
namespace L2
open PySem PySem.Spec PyProof.Rows
section
theorem zuD{X:Cx}{c:Expr}{a b:Stmt}{tc:TT}{t u:XK->TS}{pos:Pos}(hx:∀ e s,X.xe e s->False)(hc:PT X c tc)(ha:PSX X a t)(hb:PSX X b u):PSX X (.If c [a] [b] pos) (fun Ex=>zq6 tc (t Ex) (u Ex)):=by
 intro zj s σ H D Ex E' I h hX;refine wpAny_If (wpAny_mono (hc zj s σ H _ I h) (fun d s1 ⟨H1,I1,q1⟩=>?_) fun _ _ z=>(hx _ _ z).elim);have one:∀ {st:Stmt} {v:XK->TS},PSX X st v->v Ex D σ H1->wpAny (model X.prog X.w) X.A (execs [st] X.env) (SP X zj D) E' s1:=fun {st v} hv q=>by
  refine wpAny_execs_cons (wpAny_mono (hv zj s1 σ H1 D Ex E' I1 q hX) (fun fl s2 z=>?_) fun _ _ z=>z);cases fl with
  | next=>exact wpAny_execs_nil z
  | ret v=>exact z
  | brk=>exact z
  | cont=>exact z
 cases d with
 | true=>exact one ha q1
 | false=>exact one hb q1
theorem zpF{K:W.Frag}{i:Nat}{tc:TT}{t u:XK->TS}{ts:TS}{dc:DT}{d1 d2:DS}(hc:RT tc dc)(h1:RS (zka K 24 i t ts) d1)(h2:RS (zka K 24 i u ts) d2):RS (zka K 24 i (fun Ex=>zq6 tc (t Ex) (u Ex)) ts) (zcy dc d1 d2):=fun h o H δ σ S E D he hs q c =>
 (show RS (zq6 tc (zka K 24 i t ts) (zka K 24 i u ts)) (zcy dc d1 d2) from zfJ hc h1 h2) h o H δ σ S E D he hs q c
end
end L2
namespace L2
open PySem PySem.Spec PySem.Calls PyProof.Rows
open Sem (wp)
def ztn(a:DA):DE:=fun δ S R=>a δ S fun xs S1=>arg2 xs fun x y=>∃ ds,zjW x=some ds/\∃ es,zjW y=some es/\min ds.length es.length<=1000/\R (.d (.list (zjX ds es))) S1
end L2
namespace L2
open PySem PySem.Spec PyProof.Rows
section
theorem zo7{X:Cx}{K:W.Frag}(hK:X.K=K):SlR X (zuB K):=by
 subst hK;exact zkh
end
end L2
namespace L2
open PySem PySem.Spec PySem.Calls PyProof.Rows
open Sem (wp)
structure LamScope(ps caps:List Str)(sc:Scope):Prop where
 kind:sc.kind=.function
 co:sc.isCoroutine=false
 gen:sc.isGenerator=false
 nd:(ps++caps).Nodup
 par:∀ x∈ps,sc.names.lookup x=some .local
 cap:∀ x∈caps,sc.names.lookup x=some .free
 nocell:∀ y∈sc.names,y.2≠.cell
 free:∀ x,sc.names.lookup x=some .free->x∈caps
def cxL(P:Program)(w:World)(K:W.Frag)(mg:Str->Option Value)(base:Heap)(N:List Str)(qual:Str)(scope:Scope)(cl:List (Str×Addr))(f:Addr)(cd:Value)(A:Around)(outer:List Env)(s:Shared)(H:Hp):Cx where
 prog:=P
 w:=w
 K:=K
 mg:=mg
 base:=base
 A:=A.deeper (W.envX qual scope s.heap.objs.size f cd cl)
 N:=N
 s₀:=s
 H₀:=H
 env:=W.envX qual scope s.heap.objs.size f cd cl
 outer:=outer
 stack:=W.envX qual scope s.heap.objs.size f cd cl :: outer
 ex:=[]
 calm:=true
 fn:=fun _=>false
 pn:=[]
 xe:=fun _ _=>False
theorem zhJ:∀ {ps:List Str} {us:List Value} {i:Nat} {y:Str} {u:Value},ps.Nodup->ps[i]? = some y->us[i]? = some u->((ps.zip us).reverse).lookup y=some u
 | [],_,_,_,_,_,e,_=>by simp at e
 | _ :: _,[],_,_,_,_,_,e=>by simp at e
 | p :: ps,v :: us,0,y,u,nd,e1,e2=>by
  simp at e1 e2;subst e1 e2;rw [nodup_cons] at nd;rw [zip_cons_cons,reverse_cons,List.lookup_append];have:((ps.zip us).reverse).lookup p=none:=by
   rw [List.lookup_eq_none_iff];intro q mq;have:=(of_mem_zip (mem_reverse.mp mq)).1;have ne:p≠q.1:=fun e=>nd.1 (by rw [e]; exact this);simpa using ne
  rw [this];simp [List.lookup]
 | p :: ps,v :: us,i+1,y,u,nd,e1,e2=>by
  rw [nodup_cons] at nd;rw [zip_cons_cons,reverse_cons,List.lookup_append,zhJ nd.2 (by simpa using e1) (by simpa using e2)];rfl
section
variable {P:Program} {w:World} {K:W.Frag} {mg:Str->Option Value} {base:Heap} {A:Around} {outer:List Env} {s:Shared} {H:Hp}
structure Caps(H:Hp)(h:Heap)(cl:List (Str×Addr))(caps:List Str)(cs:List V):Prop where
 len:cs.length=caps.length
 inj:∀ x y c,cl.lookup x=some c->cl.lookup y=some c->x=y
 has:∀ x,x∈caps↔∃ c,cl.lookup x=some c
 at_:∀ (i:Nat) x v,caps[i]? = some x->cs[i]? = some v->∃ c u,cl.lookup x=some c/\RelV v u/\h.IsCell c (some u)
 free:∀ x c,cl.lookup x=some c->H c=none/\∃ v,h.IsCell c v
theorem zod{k:Nat}{ps caps:List Str}{name qual:Str}{params:Arguments}{body:Expr}{scope:Scope}{cl:List (Str×Addr)}{pm ctv:Value}{c' f:Addr}{us:List Value}{vs cs:List V}{Q:VK}{t:TE}
  (S:LamScope ps caps scope) (hr:Room (k+1) A) (e0:Env0 P w K mg base A outer s H) (ho:s.heap.get? f=some (W.kla_obj name qual params body scope cl pm c' ctv)) (hcd:s.heap.CodeRec (.ref c') qual)
  (hbind:bindArgs (W.kla_fn name qual params body scope cl pm (.ref c') ctv) ⟨us,[]⟩=pure (ps.zip us)) (hl:vs.length=ps.length) (r:Vals vs us) (C:Caps H s.heap cl caps cs)
  (hb:PE (cxL P w K mg base (ps++caps) qual scope cl f (.ref c') A outer s H) body t) (q:t (vs.map some++cs.map some) H Q) :
  codeAny (model P w) A (.call (.ref f) ⟨us,[]⟩) (fun r' s'=>match r' with | .ok (.ret u)=>CE outer P w H s Q u s' | _=>False) s:=by
 have KX:K.In s.heap:=e0.mod.kin.keeps fun b o e=>(e0.bs b o e).1;have lim:s.heap.NoLimit:=e0.mod.nolimit.keeps fun b o e=>(e0.bs b o e).1;refine W.kla_callFunE hr.depth ho rfl S.co S.gen rfl hcd ?_;rw [hbind];refine wpAny_pure (wpAny_newFunctionEnv S.nocell (fun y hy=>S.par y.1 (of_mem_zip hy).1) (fun h₁ hns hsb=>⟨lim.fresh _ hsb,?_⟩) S.kind);show codeAny _ _ (.expr body (W.envX qual scope s.heap.objs.size f (.ref c') cl)) _ _;have hk:∀ b o,s.heap.get? b=some o->h₁.get? b=some o:=fun b o e=>hsb.extBut b o (ne_of_lt (lt_size e)) (get?_push_of_some _ e);have noA:∀ b:Addr,b∉(cxL P w K mg base (ps++caps) qual scope cl f (.ref c') A outer s H).ex:=fun b z=>absurd (show b∈([]:List Addr) from z) (by simp);have ul:us.length=ps.length:=by rw [<- r.length]; exact hl
 have I:Inv (cxL P w K mg base (ps++caps) qual scope cl f (.ref c') A outer s H) [] (vs.map some++cs.map some) H { s with heap:=h₁,toks:=s.toks+(ps.zip us).length }:=by
  refine⟨⟨e0.mod,S.kind,rfl,rfl,le_refl _,fun x y c h1 h2=>C.inj x y c h1 h2,fun y hy=>?_,fun y c h _=>absurd (show false=true from h) dz,fun _=>hr.hd,Around.frames_deeper e0.frames,.inr ⟨rfl,rfl⟩,fun b z=>absurd z (noA b),e0.bs,e0.bsz,fun b _ _=>noA b,fun b z=>absurd z (noA b),e0.funs,e0.frf⟩,
   rfl,e0.bare,Un.kept hk,⟨_,hns,fun i y v h1 h2 h3=>?_⟩,fun y c h=>?_,e0.hok.fresh (le_refl _),fun y c h=>(C.free y c h).1,fun p hp=>absurd (show p∈([]:List (Addr×Obj)) from hp) (by simp),e0.hok.kept hk,?_⟩
  ·have hy:scope.names.lookup y=some .cell\/scope.names.lookup y=some .free:=hy;rcases hy with hy | hy
   ·exact absurd rfl (S.nocell _ (PySem.mem_of_lookup hy))
   ·exact(C.has y).mp (S.free y hy)
  ·by_cases hi:i<ps.length
   ·have h1':ps[i]? = some y:=by
     have h1:(ps++caps)[i]? = some y:=h1
     rwa [getElem?_append_left hi] at h1
    have h2':vs[i]? = some v:=by
     rw [getElem?_append_left (by rw [length_map]; omega),getElem?_map] at h2;cases e:vs[i]? with
     | none=>rw [e] at h2; cases h2
     | some a=>rw [e] at h2; cases h2; rfl
    obtain⟨u,hu,rv⟩:=r.get h2';exact⟨u,rv,.inl ⟨S.par y (mem_of_getElem? h1'),zhJ (nodup_append.mp S.nd).1 h1' hu⟩⟩
   ·have h1':caps[i - ps.length]? = some y:=by
     have h1:(ps++caps)[i]? = some y:=h1
     rwa [getElem?_append_right (by omega)] at h1
    have h2':cs[i - ps.length]? = some v:=by
     rw [getElem?_append_right (by rw [length_map]; omega),length_map,hl,getElem?_map] at h2;cases e:cs[i - ps.length]? with
     | none=>rw [e] at h2; cases h2
     | some a=>rw [e] at h2; cases h2; rfl
    obtain⟨c,u,e1,rv,cl'⟩:=C.at_ _ y v h1' h2';exact⟨u,rv,.inr ⟨.inr (S.cap y (mem_of_getElem? h1')),c,e1,cl'.keeps hk⟩⟩
  ·obtain⟨v,q⟩:=(C.free y c h).2;exact⟨v,q.keeps hk⟩
  ·show (vs.map some++cs.map some).length=(ps++caps).length;simp [hl,C.len]
 refine W.kla_codeExpr (wpAny_mono (hb [] _ _ H _ I q) (fun u s' hs=>?_) fun e s' z=>z.elim);obtain⟨v,H',J,rv,q'⟩:=hs;exact⟨v,H',J.os,J.bare,J.base,J.hok,rv,q'⟩
end
abbrev lamKey (qual:Str) (pos:Pos):Array Value:=#[rawInt pos.line,rawInt pos.col,.str qual 0]
abbrev zfx (qual:Str) (params:Arguments) (body:Expr) (scope:Scope) (cl:List (Str×Addr)) (pm:Value) (c':Addr) (ctv:Value):Obj:=W.kla_obj "<lambda>" qual params body scope cl pm c' ctv
section
variable {X:Cx} {zj:List (Addr×Obj)} {σ:St} {H:Hp} {s:Shared} {M:Model} {A:Around} {E:Value->Shared->Prop} {Q:Value->Shared->Prop} {c P:Addr} {qual:Str} {params:Arguments} {body:Expr} {scope:Scope} {pos:Pos} {cl:List (Str×Addr)}
theorem zkF(I:Inv X zj σ H s)(hcode:X.env.code=.ref c)(hT:((c,P),lamKey qual pos)∈tabsG)(hcl:closureFor scope X.env=pure cl)
  (h:∀ (f c':Addr) (ctv pm:Value) (H':Hp) (s':Shared),Inv X zj σ H' s'->Same H H'->H f=none->H' f=some (.frz (zfx qual params body scope cl pm c' ctv) (.own 0))->(∃ oc vs t',H' c'=some (.frz oc (.own 0))/\oc.data=.fields vs/\vs[1]? = some (.str qual t'))->Q (.ref f) s') :
  wpAny M A (makeFunction "<lambda>" qual params (.expr body) scope X.env [] [] [] pos pos.line) Q E s:=by
 have hH:H P=some (.tbl (lamKey qual pos)):=I.stkFree.tab _ hT;have C:W.CodeHd X.base c P:=I.mod.hd _ hT;have B:BltAt X.base X.mg:=I.mod.bm;obtain⟨qs,hP,hq⟩:=(show ObjOk X.prog X.w H s.heap P (.tbl (lamKey qual pos)) from I.hok P _ hH);have neP:∀ b o,X.base.get? b=some o->b≠P:=fun b o e z=>by
  have:=(I.bs b o e).2;rw [z,hH] at this;cases this
 have hg:s.heap.Ns mainGlobals X.mg:=I.mod.glob.keeps I.bk;have hgP:mainGlobals≠P:=by
  obtain⟨o,es,ep,e,_⟩:=I.mod.glob;exact neP _ o e
 have hB:s.heap.BuiltinsAt X.mg P:=by
  obtain⟨bm,ob,b1,b2,b3,b4,b5,b6⟩:=B;refine⟨bm,ob,b1,b2,fun z=>?_,neP _ _ b3,I.bk _ _ b3,b4,b5,b6⟩;obtain⟨o,es,ep,e,d,_⟩:=I.mod.glob;rw [z,e] at b3;cases b3;rw [d] at b6;cases b6
 have hC:=C.keeps I.bk;rcases hq with rfl | ⟨l,k,q,t,c',oc,vs,t',e1,rfl,e3,e4,e5⟩
 ·refine W.kla_makeFunction (mg:=X.mg) hcl I.ok.glob hg hcode hC hP trivial rfl hgP hB fun c' ctv h' tk hx hge hlt hrec htb=>?_;obtain⟨c₂,oc,vs,t',e2,hoc,hd,hv⟩:=hrec;cases e2;have hsz:s.heap.objs.size<=h'.objs.size:=le_of_lt (Nat.lt_of_le_of_lt hge hlt);have nc:H c'=none:=I.hok.fresh hge;have nf:H h'.objs.size=none:=I.hok.fresh hsz;have cf:c'≠h'.objs.size:=ne_of_lt hlt
  let fo:Obj:=zfx qual params body scope cl ((X.mg "__name__").getD .none) c' ctv
  let H':Hp:=upd (upd H c' (.frz oc (.own 0))) h'.objs.size (.frz fo (.own 0))
  have gr:Same H H':=(Same.laid nc).trans (Same.laid (by rw [zO (Ne.symm cf)]; exact nf));have hpc:P≠c':=zH hH nc;have hpf:P≠h'.objs.size:=zH hH nf;have kp:∀ b o,b≠P->s.heap.get? b=some o->(h'.push fo).get? b=some o:=fun b o nb e=>get?_push_of_some _ (hx b o nb e);have eH:∀ b,b≠c'->b≠h'.objs.size->H' b=H b:=fun b n1 n2=>by show upd _ _ _ b=_; rw [zO n2,zO n1]
  have hc':H' c'=some (.frz oc (.own 0)):=by show upd _ _ _ c'=_; rw [zO cf,zad]
  have hf':H' h'.objs.size=some (.frz fo (.own 0)):=zad;refine h h'.objs.size c' ctv _ H' _ (I.un ⟨fun b o e n _ _=>kp b o (fun z=>by rw [z,hH] at n; cases n) e,fun b o e n _ _=>⟨o.slots,kp b o (fun z=>by rw [z,hH] at n; cases n) e⟩,fun b o e n _=>?_,fun b o e _=>?_,fun b xs e=>gr b _ e,fun b o u e=>gr b _ e,fun b ps e=>gr b _ e⟩ fun b u e=>?_) gr nf hf' ⟨oc,vs,t',hc',hd,hv⟩
  ·have lb:=lt_size e;rw [eH b (ne_of_lt (lt_of_lt_of_le lb hge)) (ne_of_lt (lt_of_lt_of_le lb hsz))];exact n
  ·by_cases hb:b=P
   ·subst hb;exact⟨_,get?_push_of_some _ htb⟩
   ·exact⟨o,kp b o hb e⟩
  ·by_cases h1:b=h'.objs.size
   ·subst h1;rw [hf'] at e;cases e;have g:=get?_push_size h' (o:=fo) rfl;exact⟨g,_,g⟩
   ·by_cases h2:b=c'
    ·subst h2;rw [hc'] at e;cases e;have g:=get?_push_of_some fo hoc;exact⟨g,_,g⟩
    ·rw [eH b h2 h1] at e;by_cases h3:b=P
     ·subst h3;rw [hH] at e;cases e;exact⟨_,get?_push_of_some _ htb,.inr ⟨_,_,qual,0,c',oc,vs,t',rfl,rfl,hc',hd,hv⟩⟩
     ·refine(I.hok b u e).stay (fun d v hd' q1=>kp d v (fun z=>?_) q1) (fun d q1=>gr d _ q1) (fun d xs q1=>gr d _ q1) fun d o u q1=>gr d _ q1;subst z;rcases hd' with z | z
      ·exact h3 z.symm
      ·rw [hH] at z; cases z
 ·have el:rawInt pos.line=l:=congrArg (fun a:Array Value=>a.getD 0 .none) e1;have ek:rawInt pos.col=k:=congrArg (fun a:Array Value=>a.getD 1 .none) e1;have eq:qual=q:=by
   have:=congrArg (fun a:Array Value=>a.getD 2 .none) e1;have z:Value.str qual 0=Value.str q t:=this;cases z;rfl
  subst eq;rw [<- el,<- ek] at hP;have hca:codeAmong pos (#[rawInt pos.line,rawInt pos.col,Value.ref c']:Array Value).toList=some (.ref c'):=by
   simp [codeAmong,rawInt]
  refine W.kla_makeFunctionHit (mg:=X.mg) hcl I.ok.glob hg hcode hC hP trivial hca hB fun ctv h' tk kp hsz=>?_;have nf:H h'.objs.size=none:=I.hok.fresh hsz
  let fo:Obj:=zfx qual params body scope cl ((X.mg "__name__").getD .none) c' ctv
  have gr:Same H (upd H h'.objs.size (.frz fo (.own 0))):=Same.laid nf;have g:=get?_push_size h' (o:=fo) rfl;exact h h'.objs.size c' ctv _ _ _ (I.laid (t':=tk) (o:=.frz fo (.own 0)) (fun b o e=>get?_push_of_some _ (kp b o e)) hsz ⟨g,_,g⟩) gr nf zad ⟨oc,vs,t',gr _ _ e3,e4,e5⟩
end
end L2
namespace L2
open PySem PySem.Spec PySem.Calls PyProof.Rows
open Sem (wp)
section
variable {P:Program} {w:World} {K:W.Frag} {mg:Str->Option Value} {base:Heap} {A:Around} {outer:List Env} {s s':Shared} {H H' H0:Hp} {fs:List Addr} {h0 h h':Heap}
theorem zgo{a:Addr}(U:Un fs [] H0 H h0 h)(ha:h0.objs.size<=a)(k:∀ b o,b≠a->h.get? b=some o->h'.get? b=some o):Un fs [] H0 H h0 h':=by
 have ne:∀ b o,h0.get? b=some o->b≠a:=fun b o e=>ne_of_lt (lt_of_lt_of_le (lt_size e) ha);refine⟨fun b o e n hb hx=>k b o (ne b o e) (U.keep b o e n hb hx),fun b o e n hb hx=>?_,U.free,fun b o e hx=>?_,U.tups,U.frzs,U.tbls⟩
 ·obtain⟨sl,q⟩:=U.slot b o e n hb hx;exact⟨sl,k b _ (ne b o e) q⟩
 ·obtain⟨o',q⟩:=U.there b o e hx;exact⟨o',k b o' (ne b o e) q⟩
theorem Env0.after(e0:Env0 P w K mg base A outer s H)(U:Un (frs outer) [] H H' s.heap s'.heap)(hok:HOk P w H' s'.heap)(hb:AllBare s'.gens)(hz:base.objs.size<=s'.heap.objs.size):Env0 P w K mg base A outer s' H':=by
 have nofr:∀ b o,base.get? b=some o->b∉frs outer:=fun b o e hm=>by
  have:=(e0.funs.mem hm).1;rw [e] at this;cases this
 refine⟨e0.frames,e0.mod,fun b o e=>⟨U.keep b o (e0.bs b o e).1 (e0.bs b o e).2 (nofr b o e) (by simp),U.free b o (e0.bs b o e).1 (e0.bs b o e).2 (by simp)⟩,hz,?_,⟨fun b hb=>?_,fun q hq=>U.tbls _ _ (e0.frf.tab q hq)⟩,hok,hb⟩
 ·have go:∀ l:List Env,(∀ b∈frs l,b∈frs outer)->s.heap.FunFrames base l->s'.heap.FunFrames base l:=by
   intro l;induction l with
   | nil=>intro _ _; trivial
   | cons env r ih =>
    intro hs hl;obtain⟨hk,⟨L,o,hf,hn,ho,hd⟩,hr⟩:=hl;have hL:L∈frs outer:=hs L (by unfold frs; rw [filterMap_cons,hf]; exact mem_cons_self);obtain⟨sl,e⟩:=U.slot L o ho (e0.frf.free L hL) hL (by simp);exact⟨hk,⟨L,_,hf,hn,e,hd⟩,ih (fun b hb=>hs b (by unfold frs; rw [filterMap_cons,hf]; exact mem_cons_of_mem _ hb)) hr⟩
  exact go outer (fun _ h=>h) e0.funs
 ·obtain⟨_,o,ho,_⟩:=e0.funs.mem hb;exact U.free b o ho (e0.frf.free b hb) (by simp)
theorem Caps.after{cl:List (Str×Addr)}{caps:List Str}{cs:List V}(C:Caps H h cl caps cs)(U:Un fs [] H H' h h'):Caps H' h' cl caps cs:=by
 have kp:∀ c v,H c=none->h.IsCell c v->h'.IsCell c v:=fun c v n ⟨o,e,d⟩=>by
  obtain⟨sl,q⟩:=U.any e n (by simp);exact⟨_,q,d⟩
 refine⟨C.len,C.inj,C.has,fun i x v e1 e2=>?_,fun x c e=>?_⟩
 ·obtain⟨c,u,q1,q2,q3⟩:=C.at_ i x v e1 e2;exact⟨c,u,q1,q2,kp c _ (C.free x c q1).1 q3⟩
 ·obtain⟨n,v,q⟩:=C.free x c e;obtain⟨o,eo,_⟩:=id q;exact⟨U.free c o eo n (by simp),v,kp c v n q⟩
theorem Env0.own{a:Addr}(e0:Env0 P w K mg base A outer s H)(na:H a=none)(nb:base.objs.size<=a)(nf:a∉frs outer)(k:∀ b o,b≠a->s.heap.get? b=some o->h'.get? b=some o)(hz:s.heap.objs.size<=h'.objs.size)(tk:Nat):Env0 P w K mg base A outer { s with heap:=h',toks:=tk } H:=by
 refine⟨e0.frames,e0.mod,fun b o e=>⟨k b o (ne_of_lt (lt_of_lt_of_le (lt_size e) nb)) (e0.bs b o e).1,(e0.bs b o e).2⟩,le_trans e0.bsz hz,?_,e0.frf,e0.hok.stays fun b u e o q=>k b o (zH e na) q,e0.bare⟩;have go:∀ l:List Env,(∀ b∈frs l,b∈frs outer)->s.heap.FunFrames base l->h'.FunFrames base l:=by
  intro l;induction l with
  | nil=>intro _ _; trivial
  | cons env r ih =>
   intro hs hl;obtain⟨hk,⟨L,o,hf,hn,ho,hd⟩,hr⟩:=hl;have hL:L∈frs outer:=hs L (by unfold frs; rw [filterMap_cons,hf]; exact mem_cons_self);exact⟨hk,⟨L,o,hf,hn,k L o (fun z=>nf (z▸hL)) ho,hd⟩,ih (fun b hb=>hs b (by unfold frs; rw [filterMap_cons,hf]; exact mem_cons_of_mem _ hb)) hr⟩
 exact go outer (fun _ h=>h) e0.funs
theorem Caps.own{a:Addr}{cl:List (Str×Addr)}{caps:List Str}{cs:List V}(C:Caps H h cl caps cs)(na:∀ x c,cl.lookup x=some c->c≠a)(k:∀ b o,b≠a->h.get? b=some o->h'.get? b=some o):Caps H h' cl caps cs:=by
 refine⟨C.len,C.inj,C.has,fun i x v e1 e2=>?_,fun x c e=>?_⟩
 ·obtain⟨c,u,q1,q2,o,q3,q4⟩:=C.at_ i x v e1 e2;exact⟨c,u,q1,q2,o,k c o (na x c q1) q3,q4⟩
 ·obtain⟨n,v,o,q,d⟩:=C.free x c e;exact⟨n,v,o,k c o (na x c e) q,d⟩
def CodeFz(H:Hp)(c':Addr)(qual:Str):Prop:=∃ oc vs t',H c'=some (.frz oc (.own 0))/\oc.data=.fields vs/\vs[1]? = some (.str qual t')
theorem CodeFz.rec{c':Addr}{qual:Str}(c:CodeFz H c' qual)(hok:HOk P w H h):h.CodeRec (.ref c') qual:=by
 obtain⟨oc,vs,t',e,d,q⟩:=c;obtain⟨g,_⟩:=(show ObjOk P w H h c' (.frz oc (.own 0)) from hok _ _ e);exact⟨c',oc,vs,t',rfl,g,d,q⟩
theorem CodeFz.un{c':Addr}{qual:Str}(c:CodeFz H c' qual)(U:Un fs [] H H' h h'):CodeFz H' c' qual:=by
 obtain⟨oc,vs,t',e,r⟩:=c;exact⟨oc,vs,t',U.frzs _ _ _ e,r⟩
theorem zls{k:Nat}{x:Str}{caps:List Str}{qual:Str}{params:Arguments}{body:Expr}{scope:Scope}{cl:List (Str×Addr)}{pm ctv:Value}{c' f:Addr}{u:Value}{v:V}{cs:List V}{Q1:VK}{t:TE}{E:Value->Shared->Prop}{Q:Value->Shared->Prop}
  (S:LamScope [x] caps scope) (hr:Room (k+1) A) (e0:Env0 P w K mg base A outer s H) (hf:H f=some (.frz (zfx qual params body scope cl pm c' ctv) (.own 0))) (hc:CodeFz H c' qual)
  (hbind:∀ u,bindArgs (W.kla_fn "<lambda>" qual params body scope cl pm (.ref c') ctv) ⟨[u],[]⟩=pure [(x,u)]) (r:RelV v u) (C:Caps H s.heap cl caps cs)
  (hb:PE (cxL P w K mg base ([x]++caps) qual scope cl f (.ref c') A outer s H) body t) (q:t (some v :: cs.map some) H Q1) (fin:∀ u' s',CE outer P w H s Q1 u' s'->Q u' s') :
  wpAny (model P w) A (call (.ref f) [u]) Q E s:=by
 obtain⟨g,_⟩:=(show ObjOk P w H s.heap f (.frz _ (.own 0)) from e0.hok _ _ hf);refine wpAny_call (codeAny_mono (zod (ps:=[x]) (us:=[u]) (vs:=[v]) S hr e0 g (hc.rec e0.hok) (hbind u) rfl (.cons r .nil) C hb q) fun r' s' z=>?_);cases r' with
 | error e=>exact z.elim
 | ok fl =>
  cases fl with
  | ret u'=>exact fin u' s' z
  | next=>exact z.elim
  | brk=>exact z.elim
  | cont=>exact z.elim
end
section
variable {P:Program} {w:World} {K:W.Frag} {mg:Str->Option Value} {base:Heap} {A:Around} {outer:List Env} {s0:Shared} {H0:Hp} {k:Nat} {x:Str} {caps:List Str} {qual:Str} {params:Arguments} {body:Expr} {scope:Scope} {cl:List (Str×Addr)} {pm ctv:Value} {c' f l it S:Addr} {cs:List V} {Q:VK} {t:TE} {dv:Value}
def MinW(l:Addr)(L:Nat)(cs:List V)(t:TE)(Q:VK)(W:Nat->V->Int->Hp->Prop):Prop:=∀ n best kb H,W n best kb H->∃ xs,xs.length=L/\H l=some (.lst xs)/\(∀ v,xs[n]? = some v->t (some v :: cs.map some) H fun kv H'=>∃ j,kv=.int j/\if j<kb then W (n+1) v j H' else W (n+1) best kb H')/\(L=n->Q best H)
theorem zj2{L:Nat}{W:Nat->V->Int->Hp->Prop}(SC:LamScope [x] caps scope)(hr:Room (k+2) A)(hbind:∀ u,bindArgs (PySem.W.kla_fn "<lambda>" qual params body scope cl pm (.ref c') ctv) ⟨[u],[]⟩=pure [(x,u)])
  (hb:∀ s H,PE (cxL P w K mg base ([x]++caps) qual scope cl f (.ref c') A.in1 outer s H) body t) (hW:MinW l L cs t Q W)
  (b1:base.objs.size<=s0.heap.objs.size) (i1:s0.heap.objs.size<=it) (i2:s0.heap.objs.size<=S) (hIS:S≠it) (cb:∀ x c,cl.lookup x=some c->c<s0.heap.objs.size) (ffr:∀ b∈frs outer,b<s0.heap.objs.size) :
  ∀ (d n:Nat) (s:Shared) (H:Hp) (best:V) (bu:Value) (kb:Int) (tb:Tok) (c:Nat),n+d=L->Env0 P w K mg base A.in1 outer s H->Un (frs outer) [] H0 H s0.heap s.heap->s.os=s0.os->W n best kb H->s.heap.IsListIter it l n->H it=none ->
   s.heap.get? S=some (seqObj "list" #[bu,.int kb tb] c)->H S=none->RelV best bu->H f=some (.frz (zfx qual params body scope cl pm c' ctv) (.own 0))->CodeFz H c' qual->Caps H s.heap cl caps cs ->
   codeAny (model P w) A (.builtin "min.loop" ⟨[.ref it,.ref f,.ref S],[(Str.ofString "default",dv)]⟩) (fun r s'=>match r with | .ok (.ret u)=>CE outer P w H0 s0 Q u s' | _=>False) s:=by
 have hname:(toString "min" ++ toString ".loop":String) = "min.loop":=by decide
 have hh:A.in1.handled=none:=hr.hd;have nIf:it∉frs outer:=fun m=>absurd (lt_of_lt_of_le (ffr _ m) i1) (lt_irrefl _);have nSf:S∉frs outer:=fun m=>absurd (lt_of_lt_of_le (ffr _ m) i2) (lt_irrefl _);intro d;induction d with
 | zero =>
  intro n s H best bu kb tb c hn e0 U os hw hit nI hS nS rb hf hc C;obtain⟨xs,hL,hl,_,hq⟩:=hW n best kb H hw;obtain⟨hz,its,cap,rv,el⟩:=(show ObjOk P w H s.heap l (.lst xs) from e0.hok l _ hl);have isl:s.heap.IsList l its.toArray:=⟨_,el,rfl,_,rfl⟩;refine codeAny_builtin F.entry_min_loop ?_;rw [Around.under_plainId F.plain_min_loop _];show wpAny _ A.in1 (seqItems? (.ref S) >>= _) _ _ s;refine wpAny_bind (wpAny_seqItems hS rfl ?_);show wpAny _ A.in1 (tryCatch (pyNext (.ref it)) _ >>= _) _ _ s;refine wpAny_bind (wpAny_tryCatch (wpAny_pyNext_list_end hh hit isl (by have:=rv.length; simp; omega) fun h1 k1=>?_));have hS1:=k1 S _ hIS hS;have s1:=Heap.SameBut.update h1 S (Obj.mapSeq fun _=>(#[]:Array Value));show wpAny _ A.in1 (updateSeq S (fun _=>#[]) >>= _) _ _ _;refine wpAny_bind (wpAny_updateSeq hS1 rfl (wpAny_bind (wpAny_letGo (wpAny_pure ?_))));have k2:∀ b o,b≠S->h1.get? b=some o->(h1.update S (Obj.mapSeq fun _=>(#[]:Array Value))).get? b=some o:=fun b o nb e=>(s1.2 b nb).trans e;refine⟨best,H,os,e0.bare,zgo (zgo U i1 fun b o nb e=>k1 b o nb e) i2 k2,e0.hok.stays fun b u e o q=>k2 b o (zH e nS) (k1 b o (zH e nI) q),rb,hq (by omega)⟩
 | succ d ih =>
  intro n s H best bu kb tb c hn e0 U os hw hit nI hS nS rb hf hc C;obtain⟨xs,hL,hl,hstep,_⟩:=hW n best kb H hw;obtain⟨hz,its,cap,rv,el⟩:=(show ObjOk P w H s.heap l (.lst xs) from e0.hok l _ hl);have isl:s.heap.IsList l its.toArray:=⟨_,el,rfl,_,rfl⟩;have hx:=getElem?_eq_getElem (show n<xs.length by omega);generalize xs[n]'(by omega)=v at hx;obtain⟨u,eu,ru⟩:=rv.get hx;refine codeAny_builtin F.entry_min_loop ?_;rw [Around.under_plainId F.plain_min_loop _];show wpAny _ A.in1 (seqItems? (.ref S) >>= _) _ _ s;refine wpAny_bind (wpAny_seqItems hS rfl ?_);show wpAny _ A.in1 (tryCatch (pyNext (.ref it)) _ >>= _) _ _ s;refine wpAny_bind (wpAny_tryCatch (wpAny_pyNext_list_item hit isl (x:=u) (by simpa using eu) fun h1 hit1 hs1=>?_));have k1:∀ b o,b≠it->s.heap.get? b=some o->h1.get? b=some o:=fun b o nb e=>hs1.extBut b o nb e;have hz1:s.heap.objs.size<=h1.objs.size:=le_of_eq hs1.1.symm;have e1:Env0 P w K mg base A.in1 outer { s with heap:=h1 } H:=e0.own nI (le_trans b1 i1) nIf k1 hz1 s.toks;have C1:Caps H h1 cl caps cs:=C.own (fun x c e=>ne_of_lt (lt_of_lt_of_le (cb x c e) i1)) k1;show wpAny _ A.in1 (tryCatch (holding [u] (call (.ref f) [u])) _ >>= _) _ _ _;refine wpAny_bind (wpAny_tryCatch (wpAny_holding (zls (k:=k) (s:={ s with heap:=h1 }) SC hr.in1 e1 hf hc hbind ru C1 (hb _ _) (hstep v hx) fun u2 s2 z=>?_)));obtain⟨kv,H2,os2,bare2,U2,hok2,r2,j,rfl,hj⟩:=z;obtain⟨t2,rfl⟩:=r2;have hS1:=k1 S _ hIS hS;have hS2:=U2.keep S _ hS1 nS nSf (by simp);obtain⟨oI,eI,cI,dI⟩:=id hit1;have eI2:=U2.keep it _ eI nI nIf (by simp);have hit2:s2.heap.IsListIter it l (n+1):=⟨oI,eI2,cI,dI⟩;have nI2:H2 it=none:=U2.free it _ eI nI (by simp);have nS2:H2 S=none:=U2.free S _ hS1 nS (by simp);have bz:base.objs.size<=s2.heap.objs.size:=le_trans b1 (le_trans i1 (le_of_lt (lt_size eI2)));have e2:=e1.after U2 hok2 bare2 bz;have U02:Un (frs outer) [] H0 H2 s0.heap s2.heap:=(zgo U i1 k1).trans U2;have C2:=C1.after U2;have f2:=U2.frzs _ _ _ hf;have c2:=hc.un U2;have osz:s2.os=s0.os:=os2.trans os;show wpAny _ A.in1 (tryCatch (holding [u,.int j t2] (richCompare .Lt (.int j t2) (.int kb tb) >>= _)) _ >>= _) _ _ _;refine wpAny_bind (wpAny_tryCatch (wpAny_holding (wpAny_bind (CmpOf.ints_lt (prog:=P) (w:=w) (A:=A.in1) (P:=fun i v=>∃ t,v=.int (if i=0 then kb else j) t) (fun i=>if i=0 then kb else j) (fun i v h=>h) 1 0 _ _ _ _ _ ⟨t2,rfl⟩ ⟨tb,rfl⟩ ?_))));refine wpAny_bind (wpAny_holding (wpAny_truthy_bool ?_));refine wpAny_bind (wpAny_letGo (wpAny_pure ?_));by_cases hb':j<kb
  ·rw [if_pos hb'] at hj;have s3:=Heap.SameBut.update s2.heap S (Obj.mapSeq fun _=>#[u,.int j t2]);obtain⟨cc,hcc⟩:∃ cc,(s2.heap.update S (Obj.mapSeq fun _=>#[u,.int j t2])).get? S=some (seqObj "list" #[u,.int j t2] cc):=⟨_,get?_update_seq hS2 fun _=>#[u,.int j t2]⟩;have k3:∀ b o,b≠S->s2.heap.get? b=some o->(s2.heap.update S (Obj.mapSeq fun _=>#[u,.int j t2])).get? b=some o:=fun b o nb e=>(s3.2 b nb).trans e;simp only [if_true,Nat.one_ne_zero,if_false,hb',decide_true];refine wpAny_bind ?_;refine wpAny_updateSeq hS2 rfl (wpAny_bind (wpAny_letGo ?_));rw [hname];refine wpAny_pure ⟨plainId_quiet F.plain_min_loop _,ih (n+1) { s2 with heap:=s2.heap.update S (Obj.mapSeq fun _=>#[u,.int j t2]) } H2 v u j t2 cc (by omega) (e2.own nS2 (le_trans b1 i2) nSf k3 (le_of_eq s3.1.symm) s2.toks) (zgo U02 i2 k3) osz hj ⟨oI,k3 it oI (Ne.symm hIS) eI2,cI,dI⟩ nI2 hcc nS2 ru f2 c2 (C2.own (fun x c e=>ne_of_lt (lt_of_lt_of_le (cb x c e) i2)) k3)⟩
  ·rw [if_neg hb'] at hj;simp only [if_true,Nat.one_ne_zero,if_false,hb',decide_false,Bool.false_eq_true];refine wpAny_bind (wpAny_letGo ?_);rw [hname];exact wpAny_pure ⟨plainId_quiet F.plain_min_loop _,ih (n+1) s2 H2 best bu kb tb c (by omega) e2 U02 osz hj hit2 nI2 hS2 nS2 rb f2 c2 C2⟩
end
end L2
namespace L2
open PySem PySem.Spec PySem.Calls PyProof.Rows
open Sem (wp)
theorem zly(a f v:Value):argsOk "min" ⟨[a],[(Str.ofString "key",f),(Str.ofString "default",v)]⟩:=by unfold argsOk; kernel_rfl
section
variable {X:Cx} {zj:List (Addr×Obj)} {σ:St} {H:Hp} {s:Shared} {k:Nat} {x:Str} {caps:List Str} {qual:Str} {params:Arguments} {body:Expr} {scope:Scope} {cl:List (Str×Addr)} {pm ctv:Value} {c' f l:Addr} {cs xs:List V} {Q:VK} {t:TE} {E:Value->Shared->Prop}
theorem zkk{W:Nat->V->Int->Hp->Prop}(SC:LamScope [x] caps scope)(hr:Room (k+2) X.A)(hbind:∀ u,bindArgs (PySem.W.kla_fn "<lambda>" qual params body scope cl pm (.ref c') ctv) ⟨[u],[]⟩=pure [(x,u)])
  (hb:∀ s H,PE (cxL X.prog X.w X.K X.mg X.base ([x]++caps) qual scope cl f (.ref c') X.A.in1 X.stack s H) body t) (hW:MinW l xs.length cs t Q W)
  (I:Inv X zj σ H s) (hl:H l=some (.lst xs)) (h0:xs=[]->Q .non H) (h1:∀ v,xs[0]? = some v->t (some v :: cs.map some) H fun kv H'=>∃ j,kv=.int j/\W 1 v j H')
  (hf:H f=some (.frz (zfx qual params body scope cl pm c' ctv) (.own 0))) (hc:CodeFz H c' qual) (C:Caps H s.heap cl caps cs) :
  wpAny (model X.prog X.w) X.A (call (.builtin "min") [.ref l] [(Str.ofString "key",.ref f),(Str.ofString "default",.none)]) (EP X zj σ Q) E s:=by
 have nm:(toString "min" ++ toString ".loop":String) = "min.loop":=by decide
 have e0:Env0 X.prog X.w X.K X.mg X.base X.A.in1 X.stack s H:=I.env0.in1;have hh:X.A.in1.handled=none:=hr.hd;obtain⟨hz,its,cap,rv,el⟩:=(show ObjOk X.prog X.w H s.heap l (.lst xs) from I.hok l _ hl);have isl:s.heap.IsList l its.toArray:=⟨_,el,rfl,_,rfl⟩;have lt:l<s.heap.objs.size:=lt_size el;have ffr:∀ b∈frs X.stack,b<s.heap.objs.size:=fun b hb=>by
  obtain⟨_,o,ho,_⟩:=I.stack.mem hb;exact lt_size ho
 have cb:∀ x c,cl.lookup x=some c->c<s.heap.objs.size:=fun x c e=>by
  obtain⟨_,v,o,ho,_⟩:=C.free x c e;exact lt_size ho
 have b1:X.base.objs.size<=s.heap.objs.size:=e0.bsz;refine kmk_tree F.kind_min F.plain_min F.entry_min (zly _ _ _) ?_;show wpAny _ X.A.in1 (Builtin.Builtins.bindParams "min" ["key","default"] 0 ⟨[],[(Str.ofString "key",.ref f),(Str.ofString "default",.none)]⟩ >>= _) _ _ s;refine wpAny_bind (wpAny_of_eq (show Builtin.Builtins.bindParams "min" ["key","default"] 0 ⟨[],[(Str.ofString "key",.ref f),(Str.ofString "default",.none)]⟩=pure [some (.ref f),some .none] from rfl) (wpAny_bind (wpAny_pure (wpAny_bind (wpAny_pyIter_list isl ?_)))));refine wpAny_bind (wpAny_newObj_type ?_);rw [nm];have z1:(s.heap.push { cls:=.type "list_iterator",data:=.fields #[.ref l,.int 0 0] }).objs.size=s.heap.objs.size+1:=size_push ..;generalize hg1:s.heap.push { cls:=.type "list_iterator",data:=.fields #[.ref l,.int 0 0] } = g1 at z1 ⊢;have gI:g1.get? s.heap.objs.size=some { cls:=.type "list_iterator",data:=.fields #[.ref l,.int 0 0] }:=by rw [<- hg1]; exact get?_push_size _ rfl
 have kp1:∀ b o,s.heap.get? b=some o->g1.get? b=some o:=fun b o e=>by rw [<- hg1]; exact get?_push_of_some _ e
 generalize hg2:g1.push { cls:=.type "list",data:=.seq #[] } = g2;have gS:g2.get? g1.objs.size=some (seqObj "list" #[] 0):=by rw [<- hg2]; exact get?_push_size _ rfl
 have kp2:∀ b o,g1.get? b=some o->g2.get? b=some o:=fun b o e=>by rw [<- hg2]; exact get?_push_of_some _ e
 have kp:∀ b o,s.heap.get? b=some o->g2.get? b=some o:=fun b o e=>kp2 b o (kp1 b o e);have zz:s.heap.objs.size<=g2.objs.size:=le_trans (show s.heap.objs.size<=g1.objs.size by rw [z1]; exact le_succ _) (le_of_lt (lt_size gS));have I2:Inv X zj σ H { s with heap:=g2 }:=I.kept (t':=s.toks) kp;have e2:Env0 X.prog X.w X.K X.mg X.base X.A.in1 X.stack { s with heap:=g2 } H:=I2.env0.in1;have hIS:g1.objs.size≠s.heap.objs.size:=by rw [z1]; exact succ_ne_self _
 have i2:s.heap.objs.size<=g1.objs.size:=by rw [z1]; exact le_succ _
 have nI:H s.heap.objs.size=none:=I.hok.fresh (le_refl _);have nS:H g1.objs.size=none:=I.hok.fresh i2;have nIf:s.heap.objs.size∉frs X.stack:=fun m=>absurd (ffr _ m) (lt_irrefl _);have nSf:g1.objs.size∉frs X.stack:=fun m=>absurd (lt_of_lt_of_le (ffr _ m) i2) (lt_irrefl _);have U2:Un (frs X.stack) [] H H s.heap g2:=Un.kept kp;have C2:Caps H g2 cl caps cs:=C.after U2;have isl2:g2.IsList l its.toArray:=⟨_,kp _ _ el,rfl,_,rfl⟩;have hit:g2.IsListIter s.heap.objs.size l 0:=⟨_,kp2 _ _ gI,rfl,rfl⟩;refine wpAny_pure ⟨plainId_quiet F.plain_min_loop _,?_⟩;show codeAny _ X.A (.builtin "min.loop" ⟨[.ref s.heap.objs.size,.ref f,.ref g1.objs.size],[(Str.ofString "default",.none)]⟩) _ { s with heap:=g2 };refine codeAny_mono (R:=fun r s'=>match r with | .ok (.ret u)=>CE X.stack X.prog X.w H s Q u s' | _=>False) ?_ fun r s' z=>?_
 rotate_left
 ·cases r with
  | error e=>exact z.elim
  | ok fl =>
   cases fl with
   | ret u=>exact I.after z
   | next=>exact z.elim
   | brk=>exact z.elim
   | cont=>exact z.elim
 refine codeAny_builtin F.entry_min_loop ?_;rw [Around.under_plainId F.plain_min_loop _];show wpAny _ X.A.in1 (seqItems? (.ref g1.objs.size) >>= _) _ _ _;refine wpAny_bind (wpAny_seqItems gS rfl ?_);show wpAny _ X.A.in1 (tryCatch (pyNext (.ref s.heap.objs.size)) _ >>= _) _ _ _;cases hxs:xs with
 | nil =>
  subst hxs;have hi:its=[]:=by cases rv; rfl
  refine wpAny_bind (wpAny_tryCatch (wpAny_pyNext_list_end (s:={ s with heap:=g2 }) hh hit isl2 (by rw [hi]; rfl) fun h3 k3=>?_));refine wpAny_bind (wpAny_rule (wpAny_pure ?_));exact⟨.non,H,rfl,I.bare,zgo U2 (le_refl _) k3,e2.hok.stays fun b u e o q=>k3 b o (zH e nI) q,rfl,h0 rfl⟩
 | cons v r =>
  have hx:xs[0]? = some v:=by rw [hxs]; rfl
  obtain⟨u,eu,ru⟩:=rv.get hx;refine wpAny_bind (wpAny_tryCatch (wpAny_pyNext_list_item (s:={ s with heap:=g2 }) hit isl2 (x:=u) (by simpa using eu) fun h3 hit3 hs3=>?_));have k3:∀ b o,b≠s.heap.objs.size->g2.get? b=some o->h3.get? b=some o:=fun b o nb e=>hs3.extBut b o nb e;have e3:Env0 X.prog X.w X.K X.mg X.base X.A.in1 X.stack { s with heap:=h3 } H:=e2.own nI b1 nIf k3 (le_of_eq hs3.1.symm) s.toks;have C3:Caps H h3 cl caps cs:=C2.own (fun x c e=>ne_of_lt (cb x c e)) k3;show wpAny _ X.A.in1 (tryCatch (holding [u] (call (.ref f) [u])) _ >>= _) _ _ _;refine wpAny_bind (wpAny_tryCatch (wpAny_holding (zls (k:=k) (s:={ s with heap:=h3 }) SC hr.in1 e3 hf hc hbind ru C3 (hb _ _) (h1 v hx) fun u2 s2 z=>?_)));obtain⟨kv,H2,os2,bare2,U3,hok2,r2,j,rfl,hj⟩:=z;obtain⟨t2,rfl⟩:=r2;have hS3:=k3 _ _ hIS gS;have hS2:=U3.keep _ _ hS3 nS nSf (by simp);obtain⟨oI,eI,cI,dI⟩:=id hit3;have eI2:=U3.keep _ _ eI nI nIf (by simp);have nI2:H2 s.heap.objs.size=none:=U3.free _ _ eI nI (by simp);have nS2:H2 g1.objs.size=none:=U3.free _ _ hS3 nS (by simp);have bz:X.base.objs.size<=s2.heap.objs.size:=le_trans b1 (le_of_lt (lt_size eI2));have e4:=e3.after U3 hok2 bare2 bz;have U4:Un (frs X.stack) [] H H2 s.heap s2.heap:=(zgo U2 (le_refl _) k3).trans U3;have s3:=Heap.SameBut.update s2.heap g1.objs.size (Obj.mapSeq fun _=>#[u,.int j t2]);obtain⟨cc,hcc⟩:∃ cc,(s2.heap.update g1.objs.size (Obj.mapSeq fun _=>#[u,.int j t2])).get? g1.objs.size=some (seqObj "list" #[u,.int j t2] cc):=⟨_,get?_update_seq hS2 fun _=>#[u,.int j t2]⟩;have k4:∀ b o,b≠g1.objs.size->s2.heap.get? b=some o->(s2.heap.update g1.objs.size (Obj.mapSeq fun _=>#[u,.int j t2])).get? b=some o:=fun b o nb e=>(s3.2 b nb).trans e;show wpAny _ X.A.in1 (updateSeq g1.objs.size (fun _=>#[u,.int j t2]) >>= _) _ _ _;refine wpAny_bind (wpAny_updateSeq hS2 rfl ?_);rw [nm];refine wpAny_pure ⟨plainId_quiet F.plain_min_loop _,zj2 (k:=k) SC hr hbind hb hW b1 (le_refl _) i2 hIS cb ffr r.length 1 { s2 with heap:=s2.heap.update g1.objs.size (Obj.mapSeq fun _=>#[u,.int j t2]) } H2 v u j t2 cc (by rw [hxs,length_cons]; omega) (e4.own nS2 (le_trans b1 i2) nSf k4 (le_of_eq s3.1.symm) s2.toks) (zgo U4 i2 k4) os2 hj ⟨oI,k4 _ oI (Ne.symm hIS) eI2,cI,dI⟩ nI2 hcc nS2 ru (U3.frzs _ _ _ hf) (hc.un U3) ((C3.after U3).own (fun x c e=>ne_of_lt (lt_of_lt_of_le (cb x c e) i2)) k4)⟩
end
end L2
namespace L2
open PySem PySem.Spec PySem.Calls PyProof.Rows
open Sem (wp)
def zfg(DN:List Str)(dsc:List (Str×NameKind))(sc:Scope)(ps caps:List Str)(ks:List Nat):Bool :=
 (ks.length == caps.length) && decide ((ps++caps).Nodup) && ps.all (fun x=>sc.names.lookup x == some .local) && caps.all (fun x=>sc.names.lookup x == some .free && dsc.lookup x == some .cell) &&
 sc.names.all (fun y=>y.2 != .cell && (y.2 != .free || caps.contains y.1)) && (ks.zip caps).all (fun p=>DN[p.1]? == some p.2)
section
variable {X:Cx} {zj:List (Addr×Obj)} {σ:St} {H:Hp} {s:Shared} {dsc scope:Scope} {L:Nat} {ps caps:List Str} {ks:List Nat}
theorem zgi(hk:scope.kind=.function)(hco:scope.isCoroutine=false)(hg:scope.isGenerator=false)(h:zfg X.N dsc.names scope ps caps ks=true):LamScope ps caps scope:=by
 simp only [zfg,Bool.and_eq_true,all_eq_true,beq_iff_eq,decide_eq_true_eq] at h;obtain⟨⟨⟨⟨⟨_,nd⟩,hp⟩,hc⟩,hn⟩,_⟩:=h;refine⟨hk,hco,hg,nd,hp,fun x hx=>(hc x hx).1,fun y hy e=>?_,fun x e=>?_⟩
 ·have:=(hn y hy).1;rw [e] at this;simp at this
 ·have:=(hn _ (PySem.mem_of_lookup e)).2;simpa using this
theorem zin(hd:X.env.scope=dsc)(hc:X.env.cells=cellsFrom L dsc.names [])(h:zfg X.N dsc.names scope ps caps ks=true):closureFor scope X.env=pure (zjV X.env scope.names []):=by
 subst hd;simp only [zfg,Bool.and_eq_true,all_eq_true,beq_iff_eq,decide_eq_true_eq] at h;obtain⟨⟨⟨⟨⟨_,nd⟩,hp⟩,hcp⟩,hn⟩,_⟩:=h;refine zeI fun y hy e=>?_;have:=(hn y hy).2;rw [e] at this;rw [hc];exact W.cellsFrom_some _ _ _ (.inl (hcp _ (by simpa using this)).2)
theorem zk9{cs:List V}(I:Inv X zj σ H s)(hd:X.env.scope=dsc)(hc:X.env.cells=cellsFrom L dsc.names [])(h:zfg X.N dsc.names scope ps caps ks=true)(hσ:ks.map (fun i=>(σ[i]?).join)=cs.map some):Caps H s.heap (zjV X.env scope.names []) caps cs:=by
 have hcl:=zin hd hc h;subst hd;simp only [zfg,Bool.and_eq_true,all_eq_true,beq_iff_eq,decide_eq_true_eq] at h;obtain⟨⟨⟨⟨⟨hl,nd⟩,hp⟩,hcp⟩,hn⟩,hz⟩:=h;have hsome:∀ x,X.env.scope.names.lookup x=some .cell->(X.env.cells.lookup x).isSome=true:=fun x e=>by
  rw [hc];exact W.cellsFrom_some _ _ _ (.inl e)
 have sub:∀ x c,(zjV X.env scope.names []).lookup x=some c->X.env.cells.lookup x=some c/\x∈caps:=fun x c e=>by
  rcases ziv (PySem.mem_of_lookup e) with q | ⟨q,ec⟩
  ·cases q
  ·have hx:x∈caps:=by have:=(hn _ q).2; simpa using this
   obtain⟨c',hc'⟩:=isSome_iff_exists.mp (hsome x (hcp x hx).2);refine⟨?_,hx⟩;rw [ec,hc'];rfl
 have has:∀ x∈caps,∃ c,(zjV X.env scope.names []).lookup x=some c:=fun x hx=>by
  obtain⟨c,hm⟩:=zfR (env:=X.env) (acc:=[]) (PySem.mem_of_lookup (hcp x hx).1);exact zcb hm
 have lc:cs.length=caps.length:=by
  have:=congrArg List.length hσ;simp only [length_map] at this;omega
 refine⟨lc,fun x y c h1 h2=>I.ok.inj x y c (sub x c h1).1 (sub y c h2).1,fun x=>⟨has x,fun⟨c,e⟩=>(sub x c e).2⟩,fun i x v e1 e2=>?_,fun x c e=>⟨I.freeC x c (sub x c e).1,I.cell x c (sub x c e).1⟩⟩;obtain⟨c,ec⟩:=has x (mem_of_getElem? e1);have hi:i<ks.length:=by
  have:=(List.getElem?_eq_some_iff.mp e1).1;omega
 have ek:=getElem?_eq_getElem hi;have hsl:(σ[ks[i]]?).join=some v:=by
  have:=congrArg (fun l=>l[i]?) hσ;simp only [getElem?_map,e2,ek,map_some] at this;exact Option.some.inj this
 have hsv:σ[ks[i]]? = some (some v):=by
  cases q:σ[ks[i]]? with
  | none=>rw [q] at hsl; cases hsl
  | some a=>rw [q] at hsl; rw [show a=some v from hsl]
 have hN:X.N[ks[i]]? = some x:=hz (ks[i],x) (mem_of_getElem? (i:=i) (by rw [getElem?_zip_eq_some]; exact⟨ek,e1⟩));have hcell:=(hcp x (mem_of_getElem? e1)).2;obtain⟨m,_,hl'⟩:=I.loc;obtain⟨u,rv,lk⟩:=hl' _ x v hN hsv (.inr (.inl hcell));rcases lk with ⟨k1,_⟩ | ⟨_,c',q1,q2⟩
 ·exact absurd ((show X.env.kindOf x=some .cell from hcell).symm.trans k1) dz
 ·rw [(sub x c ec).1] at q1;cases q1;exact⟨c,u,ec,rv,q2⟩
end
def mlP(ks:List Nat)(tb:TE)(σ:St)(Q:VK)(x:V)(H1:Hp):Prop:=∃ l xs cs,x=.ref l/\H1 l=some (.lst xs)/\ks.map (fun i=>(σ[i]?).join)=cs.map some/\∀ H2,Same H1 H2 ->
 ∃ W,MinW l xs.length cs tb Q W/\(xs=[]->Q .non H2)/\∀ v,xs[0]? = some v->tb (some v :: cs.map some) H2 fun kv H'=>∃ j,kv=.int j/\W 1 v j H'
def mlQ(ks:List Nat)(tb:TE)(σ:St)(Q:VK):List V->Hp->Prop
 | [x],H1=>mlP ks tb σ Q x H1
 | _,_=>False
def zmR(ks:List Nat)(te tb:TE):TE:=fun σ H Q=>te σ H fun x H1=>mlP ks tb σ Q x H1
theorem ziS{X:Cx}{e body:Expr}{te tb:TE}{dsc scope:Scope}{L k:Nat}{x:Str}{caps:List Str}{ks:List Nat}{params:Arguments}{c P:Addr}{p pos kp kp2 cp lp:Pos}{cj:Nat}
  (hT:((c,P),lamKey (X.env.qual ++ "<lambda>") lp)∈tabsG) (hcode:X.env.code=.ref c) (hd:X.env.scope=dsc) (hc:X.env.cells=cellsFrom L dsc.names []) (hk:scope.kind=.function) (hco:scope.isCoroutine=false) (hgn:scope.isGenerator=false) (hl:zfg X.N dsc.names scope [x] caps ks=true)
  (hdf:defaultsOf params X.env=([],[])) (hbind:∀ cl pm c' ctv u,bindArgs (PySem.W.kla_fn "<lambda>" (X.env.qual ++ "<lambda>") params body scope cl pm (.ref c') ctv) ⟨[u],[]⟩=pure [(x,u)])
  (hr:Room (k+2) X.A) (hg:Gl X "min") (hm:X.mg "min" = none) (he':PE X e te)
  (hb:∀ cl f c' s H,Room k (X.A.in1.deeper (PySem.W.envX (X.env.qual ++ "<lambda>") scope s.heap.objs.size f (.ref c') cl))->PE (cxL X.prog X.w X.K X.mg X.base ([x]++caps) (X.env.qual ++ "<lambda>") scope cl f (.ref c') X.A.in1 X.stack s H) body tb)
  (he0:starEach [e] X.env=(false,eval e X.env) :: starEach [] X.env:=by rfl) (he:backTo pos (starEach [e] X.env)=(false,eval e X.env) :: backTo pos (starEach [] X.env):=by rfl) (hpl:(backTo pos (starEach [e] X.env)).any (·.1)=false:=by rfl) :
  PE X (.Call (.Name "min" p) [e] [⟨some "key",.Lambda params body scope lp,kp⟩,⟨some "default",.Constant .none cj cp,kp2⟩] pos) (zmR ks te tb):=by
 intro zj s σ H Q I h;refine wpAny_Call_Name_kw (zdS I hg hm ziJ ?_ dz dz);refine PyProof.Rows.callWith_kw (thn (za he' zc he0 pos zj s σ H (mlQ ks tb σ Q) I h) fun us s1 ⟨vs,H1,I1,r1,q1⟩=>?_) he hpl rfl rfl
 match vs,r1,q1 with
 | [v],.cons rv .nil,⟨l,xs,cs,ev,el,hcs,hW⟩ =>
  subst ev;cases rv;refine PyProof.Rows.kws_cons (PySem.W.kla_eval hdf (zkF I1 hcode hT (zin hd hc hl) fun f c' ctv pm H2 s2 I2 sm nf hf hcf=>PyProof.Rows.kws_cons (Constant_none (PyProof.Rows.kws_nil ?_))));obtain⟨W,w1,w2,w3⟩:=hW H2 sm;exact zkk (k:=k) (zgi (X:=X) hk hco hgn hl) hr (fun u=>hbind _ _ _ _ u) (fun s H=>hb _ _ _ s H (hr.in1.deeper _)) w1 I2 (sm _ _ el) w2 w3 hf hcf (zk9 I2 hd hc hl hcs)
def zgP(ks:List Nat)(de db:DE):DE:=fun δ S R=>de δ S fun x S1=>∃ (ds:List PyData) (cs:List XV) (kf:PyData->Int),zj0 S1 x=some ds/\ks.map (fun i=>(δ[i]?).join)=cs.map some /\
 (∀ d∈ds,∀ R':RX,R' (.d (.int (kf d))) S1->db (some (.d d) :: cs.map some) S1 R')/\(ds=[]->R (.d .none) S1) /\
 ∀ pre d post,ds=pre++d :: post->(∀ a∈pre,kf d<kf a)->(∀ a∈post,kf d<=kf a)->R (.d d) S1
theorem zf2{h o:List Addr}{H:Hp}{δ:XE}{σ:St}(r:RepE h o H δ σ):∀ {ks:List Nat} {cs:List XV},ks.map (fun i=>(δ[i]?).join)=cs.map some->∃ vs:List V,ks.map (fun i=>(σ[i]?).join)=vs.map some/\HasXs h o H cs vs
 | [],[],_=>⟨[],rfl,rfl⟩
 | [],_ :: _,e=>by simp at e
 | _ :: _,[],e=>by simp at e
 | k :: ks,x :: cs,e=>by
  simp only [map_cons,List.cons.injEq] at e;obtain⟨e1,e2⟩:=e;have e3:δ[k]? = some (some x):=by
   cases q:δ[k]? with
   | none=>rw [q] at e1; cases e1
   | some a=>rw [q] at e1; rw [show a=some x from e1]
  obtain⟨v,e4,hv⟩:=r.get k x e3;obtain⟨vs,e5,hl⟩:=zf2 r e2;refine⟨v :: vs,?_,v,vs,rfl,hv,hl⟩;simp only [map_cons,e4,e5];rfl
theorem ziH{ks:List Nat}{te tb:TE}{de db:DE}(h1:RE te de)(h2:RE tb db):RE (zmR ks te tb) (zgP ks de db):=fun h o H δ σ S R Q he hs q c =>
 h1 h o H δ σ S _ _ he hs q fun o1 H1 S1 x v e1 s1 x1 ⟨ds,cs,kf,ek,hcs,hk,h0,hf⟩=>by
  obtain⟨a,vs,rfl,ea,l⟩:=zbn s1 ek x1;obtain⟨cvs,hcv,hx⟩:=zf2 (he.mono e1) hcs;refine⟨a,vs,cvs,rfl,ea,hcv,fun H2 sm=>?_⟩;have lv:vs.length=ds.length:=l.length;have at_:∀ o' H',Ex o1 H1 o' H'->RepS h o' H' S1->∃ xs,xs.length=vs.length/\H' a=some (.lst xs)/\HasL (vx h o' H') ds xs:=fun o' H' e' s'=>by
   obtain⟨a',xs,ea',q1,q2⟩:=zbn s' ek (x1.mono e');cases ea';exact⟨xs,q2.length.trans lv.symm,q1,q2⟩
  have step:∀ o' H',Ex o1 H1 o' H'->RepS h o' H' S1->∀ d',d'∈ds->∀ v',HasX h o' H' (.d d') v'->∀ Q':VK,(∀ o2 H3,Ex o1 H1 o2 H3->RepS h o2 H3 S1->Ex o' H' o2 H3->Q' (.int (kf d')) H3)->tb (some v' :: cvs.map some) H' Q':=by
   intro o' H' e' s' d' hd v' hv Q' hQ;have rp:RepE h o' H' (some (.d d') :: cs.map some) (some v' :: cvs.map some):=by
    have:=zbx (n:=0) (show HasXs h o' H' (.d d' :: cs) (v' :: cvs) from⟨v',cvs,rfl,hv,hx.mono e'⟩);simpa using this
   refine h2 h o' H' _ _ S1 (fun kv S'=>kv=.d (.int (kf d'))/\S'=S1) _ rp s' (hk d' hd _ ⟨rfl,rfl⟩) fun o2 H3 S2 x v e2 s2 x2 ⟨ex,eS⟩=>?_;subst ex eS;obtain rfl:=zbR.mp (show Has (vx h o2 H3) (.int (kf d')) v from x2);exact hQ o2 H3 (e'.trans e2) s2 e2
  refine⟨fun n best kb H'=>∃ o' pre d post post2,Ex o1 H1 o' H'/\RepS h o' H' S1/\ds=pre++d :: (post++post2)/\n=pre.length+1+post.length/\HasX h o' H' (.d d) best/\kb=kf d/\(∀ a∈pre,kf d<kf a)/\∀ a∈post,kf d<=kf a,fun n best kb H' ⟨o',pre,d,post,post2,ex,rs,ed,en,hb,ekb,hp,hq⟩=>?_,fun z=>?_,fun v hv=>?_⟩
  ·obtain⟨xs,lx,ex',lx2⟩:=at_ o' H' ex rs;have dl:ds.length=n+post2.length:=by rw [ed]; simp only [length_append,length_cons]; omega
   refine⟨xs,lx,ex',fun v' hv=>?_,fun hn=>?_⟩
   ·have hlt:n<ds.length:=by have:=(List.getElem?_eq_some_iff.mp hv).1; omega
    cases post2 with
    | nil=>simp only [length_nil] at dl; omega
    | cons d' post2 =>
     have edn:ds[n]? = some d':=by
      rw [ed,show pre++d :: (post++d' :: post2)=(pre++d :: post)++d' :: post2 by simp,getElem?_append_right (by simp only [length_append,length_cons]; omega),show n - (pre++d :: post).length=0 by simp only [length_append,length_cons]; omega];rfl
     obtain⟨v2,e2,hv2⟩:=lx2.get edn;rw [hv] at e2;cases e2;refine step o' H' ex rs d' (mem_of_getElem? edn) v' hv2 _ fun o2 H3 e3 s3 e4=>⟨kf d',rfl,?_⟩;by_cases hj:kf d'<kb
     ·rw [if_pos hj];refine⟨o2,pre++d :: post,d',[],post2,e3,s3,by rw [ed]; simp,by simp only [length_append,length_cons,length_nil]; omega,HasX.mono e4 (x:=.d d') hv2,rfl,fun a ha=>?_,fun a z=>nomatch z⟩;rcases mem_append.mp ha with ha | ha
      ·have:=hp a ha; omega
      ·rcases mem_cons.mp ha with rfl | ha
       ·omega
       ·have:=hq a ha; omega
     ·rw [if_neg hj];refine⟨o2,pre,d,post++[d'],post2,e3,s3,by rw [ed]; simp,by simp only [length_append,length_cons,length_nil]; omega,HasX.mono e4 (x:=.d d) hb,ekb,hp,fun a ha=>?_⟩;rcases mem_append.mp ha with ha | ha
      ·exact hq a ha
      ·rw [mem_singleton.mp ha]; omega
   ·have p2:post2=[]:=eq_nil_of_length_eq_zero (by omega);subst p2;exact c o' H' S1 (.d d) best (e1.trans ex) rs hb (hf pre d post (by rw [ed,append_nil]) hp hq)
  ·subst z;exact c o1 H2 S1 (.d .none) _ (e1.trans (Ex.of_same sm)) (s1.same sm) xN (h0 (eq_nil_of_length_eq_zero lv.symm))
  ·have ex:=Ex.of_same (o:=o1) sm;cases ds with
   | nil=>rw [eq_nil_of_length_eq_zero lv] at hv; cases hv
   | cons d rest =>
    obtain⟨v2,e2,hv2⟩:=l.get (i:=0) (d:=d) rfl;rw [hv] at e2;cases e2;refine step o1 H2 ex (s1.same sm) d mem_cons_self v (HasX.mono ex (x:=.d d) hv2) _ fun o2 H3 e3 s3 e4=>⟨kf d,rfl,o2,[],d,[],rest,e3,s3,rfl,rfl,HasX.mono e3 (x:=.d d) hv2,rfl,(fun a z=>nomatch z),fun a z=>nomatch z⟩
end L2
namespace L2
open PySem PySem.Spec PySem.Calls PyProof.Rows
def zqb(ta:TA):TE:=fun σ H Q=>ta σ H fun vs H1=>∃ j:Int,vs=[.int j]/\0<=j/\j<=1000/\∀ l,H1 l=none->Q (.ref l) (upd H1 l (.lst ((List.range j.toNat).map fun k:Nat=>V.int (0+k))))
theorem zoC{X:Cx}{a:Expr}{ta:TA}{p p' pos pos':Pos}(hc:X.calm=true)(hgl:Gl X "list")(hml:X.mg "list" = none)(hg:Gl X "range")(hm:X.mg "range" = none)(ha:PA X [a] ta)
  (hs:starEach [a] X.env=[(false,eval a X.env)]:=by rfl)
  (hs3:starEach [.Call (.Name "range" p) [a] [] pos] X.env=[(false,eval (.Call (.Name "range" p) [a] [] pos) X.env)]:=by rfl) :
  PE X (.Call (.Name "list" p') [.Call (.Name "range" p) [a] [] pos] [] pos') (zqb ta):=by
 intro zj s σ H Q I h;refine wpAny_Call_Name_kw (zdS I hgl hml zif ?_ dz dz);refine PyProof.Rows.callWith_type1 ?_ (by rw [hs3]; rfl) rfl;rw [hs3];show wpAny _ _ (spliced ((false,eval (.Call (.Name "range" p) [a] [] pos) X.env) :: [])) _ _ s;refine Calls.spliced_cons (Call_ (zdS I hg hm boot_range (PyProof.Rows.callWith_type1 (thn (ha pos zj s σ H _ I h) fun us s1 ⟨vs,H1,I1,r1,q1⟩=>?_) hs rfl)));obtain⟨j,e,h0,hl,q⟩:=q1;subst e;cases r1 with
 | cons r rr =>
  cases rr;obtain⟨t,rfl⟩:=r;refine call_range_1 (Calls.spliced_nil ?_);have I2:=I1.kept (h':=s1.heap.push { cls:=.type "range",data:=.fields #[.int 0 s1.toks,.int j t,.int 1 (s1.toks+1)] }) (t':=s1.toks+2) fun b o e=>get?_push_of_some _ e;have en:Builtin.Range.rangeSize 0 j 1=((j.toNat:Nat):Int):=by rw [rangeSize_one]; split <;> omega
  refine zia (I2.ok.hd hc) (IsRange.new ..) en (by omega) fun h' tk acc c kp e it=>?_;have hv:=zra it;refine⟨.ref _,_,I2.laid (t':=tk) kp (le_refl _) (show ObjOk X.prog X.w _ h' _ (.lst _) from⟨?_,acc.toList,c,hv,?_⟩),rfl,q _ (I2.hok.fresh (le_refl _))⟩
  ·rw [length_map,length_range,sizeLine_eq];omega
  ·simpa using e
def zlg(a:DA):DE:=fun δ S R=>a δ S fun xs S1=>arg1 xs fun y=>asI y fun j=>(0<=j/\j<=1000)/\R (.d (.list (zfM 0 j.toNat))) S1
theorem zpK{ta:TA}{da:DA}(ha:RA ta da):RE (zqb ta) (zlg da):=fun h o H δ σ S R Q he hs q c =>
 ha h o H δ σ S _ _ he hs q fun o1 H1 S1 xs vs e1 s1 x1 d0=>by
  obtain⟨x,rfl,d2⟩:=za0 d0;obtain⟨j,rfl,hl,d4⟩:=zby d2;obtain⟨v,rfl,hv⟩:=hxs1 x1;rw [za5 hv];have l:=zgt (H:=vx h o1 H1) ((List.range j.toNat).map fun k:Nat=>0+(k:Int));rw [map_map,map_map] at l;exact⟨j,rfl,hl.1,hl.2,zl9 s1 l (c.pre e1) d4⟩
structure CodeAt(K:W.Frag)(mg:Str->Option Value)(x:Str)(c:Addr):Prop where
 ex:∀ f oc od fd osl,mg x=some (.ref f)->K.lookup f=some ⟨oc,od,.func fd,osl⟩->fd.code=.ref c
theorem CodeAt.of{K:W.Frag}{h:Heap}{mg:Str->Option Value}{x:Str}{c P:Addr}(X:K.In h)(G:h.Ns mainGlobals mg)(ht:W.tabIn K x=some (c,P)):CodeAt K mg x c :=
 ⟨fun f oc od fd osl hm hl=>W.law_code X G ht hm (X _ _ hl) rfl⟩
section
variable {P:Program} {w:World} {K:W.Frag} {mg:Str->Option Value} {base:Heap} {x:Str} {st:Stmt} {N ps:List Str} {k:Nat} {c:Addr}
theorem ztc{q:PN}(D:Dd K mg x st ps)(C:CodeAt K mg x c)(S:FnScope N ps (zf st))(n:Nat)(hn:N.length=ps.length+n)
  (hbody:∀ (f:Addr) (A:Around) (outer:List Env) (s:Shared) (H:Hp) (E:XK),Room k (A.deeper (envOfC x (zf st) s.heap.objs.size f (.ref c))) ->
   ∃ t dt,PSs (zgI CX0 P w K mg base N x (zf st) f (.ref c) A outer s H E).nox (zaO st) t/\RS t dt/\∀ xs S R,q xs S R->dt (zbk S.length R) (xs.map some++List.replicate n none) S):Df P w K mg base x ps (k+1) (spN ps q):=by
 obtain⟨f,fd,F,hm,hb⟩:=D.ex;have kp:=F.kp;obtain⟨oc,od,kV,doc,pm,an,cdv,ct,osl,rfl,lk,hcd⟩:=F.ex;obtain rfl:cdv=.ref c:=C.ex f _ _ _ _ hm lk;refine⟨f,_,zoD lk hcd S (fun vs H Q E h=>h.1) fun A outer s H vs Q E hr ⟨hl,h,o,S',xs,R,hs',hx,hq,c⟩=>?_,hm,kp,hb⟩;obtain⟨t,dt,h1,h2,h3⟩:=hbody f A outer s H E hr;refine⟨t,h1.nox,h2 h o H _ _ S' _ _ ?_ hs' (h3 xs S' R hq) (eok hs' c)⟩;have e:N.length - vs.length=n:=by omega
 unfold start;rw [e];exact zbx hx
theorem zmk{q:PX}(D:Dd K mg x st ps)(C:CodeAt K mg x c)(S:FnScope N ps (zf st))(n:Nat)(hn:N.length=ps.length+n)
  (hbody:∀ (f:Addr) (A:Around) (outer:List Env) (s:Shared) (H:Hp) (E:XK) (EX:EXD),Room k (A.deeper (envOfC x (zf st) s.heap.objs.size f (.ref c))) ->
   ∃ t dt,PSs (zgI (CX1 P w) P w K mg base N x (zf st) f (.ref c) A outer s H E) (zaO st) t/\RSx E EX t dt/\∀ xs S R,q xs S R EX->dt (zbk S.length R) (xs.map some++List.replicate n none) S):DfX P w K mg base x ps (k+1) (spX ps q):=by
 obtain⟨f,fd,F,hm,hb⟩:=D.ex;have kp:=F.kp;obtain⟨oc,od,kV,doc,pm,an,cdv,ct,osl,rfl,lk,hcd⟩:=F.ex;obtain rfl:cdv=.ref c:=C.ex f _ _ _ _ hm lk;refine⟨f,_,zoD lk hcd S (fun vs H Q E h=>h.1) fun A outer s H vs Q E hr ⟨hl,h,o,S',xs,R,EX,hs',hx,hq,c,cx⟩=>?_,hm,kp,hb⟩;obtain⟨t,dt,h1,h2,h3⟩:=hbody f A outer s H E EX hr;refine⟨t,h1,h2 h o H _ _ S' _ _ ?_ hs' (h3 xs S' R hq) (eok hs' c) cx⟩;have e:N.length - vs.length=n:=by omega
 unfold start;rw [e];exact zbx hx
end
end L2
namespace L2
open PySem PySem.Spec PySem.Calls PyProof.Rows
def zqj(ta:TA):TE:=fun σ H Q=>ta σ H fun vs H1=>∃ i j:Int,vs=[.int i,.int j,.int (-1)]/\(-1000<=i/\i<=1000)/\(-1000<=j/\j<=1000)/\∀ l,H1 l=none->Q (.ref l) (upd H1 l (.lst ((List.range (i - j).toNat).map fun k:Nat=>V.int (i - k))))
theorem zme{i j:Int}(h1:-1000<=i/\i<=1000)(h2:-1000<=j/\j<=1000):Builtin.Range.rangeSize i j (-1)=(((i - j).toNat:Nat):Int)/\Builtin.Range.small i j (-1)=true:=by
 have e2:Builtin.Range.rangeSize i j (-1)=(((i - j).toNat:Nat):Int):=by
  unfold Builtin.Range.rangeSize;rw [if_neg dz];split
  ·rw [show (- -1:Int)=1 by decide,Int.ediv_one];omega
  ·omega
 refine⟨e2,?_⟩;unfold Builtin.Range.small;rw [e2,if_neg dz];simp only [Builtin.Range.rangeFitsLong,Bool.and_eq_true,Bool.or_eq_true,decide_eq_true_eq,beq_iff_eq];omega
theorem zmq{i:Int}{n:Nat}{acc:Array Value}(h:ItemsOf (fun k v=>∃ t,v=.int (i+(k:Int)*(-1)) t) acc n):Vals ((List.range n).map fun k:Nat=>V.int (i - k)) acc.toList:=by
 obtain⟨hz,hv⟩:=h;refine zhZ _ _ (by simp [hz]) fun k x u ex eu=>?_;rw [getElem?_map] at ex;have hk:k<n:=by
  have:=(List.getElem?_eq_some_iff.mp eu).1;simpa [hz] using this
 rw [getElem?_range hk] at ex;cases ex;obtain⟨tk,rfl⟩:=hv k u (by simpa using eu);exact⟨tk,by rw [show i+(k:Int)*(-1)=i - k by omega]⟩
theorem zpm{X:Cx}{a b c:Expr}{ta:TA}{p p' pos pos':Pos}(hc:X.calm=true)(hgl:Gl X "list")(hml:X.mg "list" = none)(hg:Gl X "range")(hm:X.mg "range" = none)(ha:PA X [a,b,c] ta)
  (hs:starEach [a,b,c] X.env=[(false,eval a X.env),(false,eval b X.env),(false,eval c X.env)]:=by rfl) (hs2:starEach [b,c] X.env=[(false,eval b X.env),(false,eval c X.env)]:=by rfl)
  (hs3:starEach [.Call (.Name "range" p) [a,b,c] [] pos] X.env=[(false,eval (.Call (.Name "range" p) [a,b,c] [] pos) X.env)]:=by rfl) :
  PE X (.Call (.Name "list" p') [.Call (.Name "range" p) [a,b,c] [] pos] [] pos') (zqj ta):=by
 intro zj s σ H Q I h;refine wpAny_Call_Name_kw (zdS I hgl hml zif ?_ dz dz);refine PyProof.Rows.callWith_type1 ?_ (by rw [hs3]; rfl) rfl;rw [hs3];show wpAny _ _ (spliced ((false,eval (.Call (.Name "range" p) [a,b,c] [] pos) X.env) :: [])) _ _ s;refine Calls.spliced_cons (Call_ (zdS I hg hm boot_range (PyProof.Rows.callWith_type1 (thn (ha pos zj s σ H _ I h) fun us s1 ⟨vs,H1,I1,r1,q1⟩=>?_) (by rw [hs,hs2]) (by rw [hs2]; rfl))));obtain⟨i,j,e,h1,h2,q⟩:=q1;subst e;cases r1 with
 | cons r rr =>
  cases rr with
  | cons r' rr =>
   cases rr with
   | cons r'' rr =>
    cases rr;obtain⟨t,rfl⟩:=r;obtain⟨t',rfl⟩:=r';obtain⟨t'',rfl⟩:=r'';refine call_range_3 dz (Calls.spliced_nil ?_) (.inl (PyProof.noPylong_small (by omega)));have I2:=I1.kept (h':=s1.heap.push { cls:=.type "range",data:=.fields #[.int i t,.int j t',.int (-1) t''] }) (t':=s1.toks) fun b o e=>get?_push_of_some _ e;obtain⟨en,sm⟩:=zme h1 h2;refine call_list_range (I2.ok.hd hc) (IsRange.new ..) sm en (by omega) fun h' tk acc c kp e it=>?_;have hv:=zmq it;refine⟨.ref _,_,I2.laid (t':=tk) kp (le_refl _) (show ObjOk X.prog X.w _ h' _ (.lst _) from⟨?_,acc.toList,c,hv,?_⟩),rfl,q _ (I2.hok.fresh (le_refl _))⟩
    ·rw [length_map,length_range,sizeLine_eq];omega
    ·simpa using e
def zk0(a:DA):DE:=fun δ S R=>a δ S fun xs S1=>∃ i j:Int,xs=[.d (.int i),.d (.int j),.d (.int (-1))]/\(-1000<=i/\i<=1000)/\(-1000<=j/\j<=1000)/\R (.d (.list (znz i (i - j).toNat))) S1
theorem zpj{ta:TA}{da:DA}(ha:RA ta da):RE (zqj ta) (zk0 da):=fun h o H δ σ S R Q he hs q c =>
 ha h o H δ σ S _ _ he hs q fun o1 H1 S1 xs vs e1 s1 x1 d0=>by
  obtain⟨i,j,rfl,h1,h2,d1⟩:=d0;obtain⟨v1,r1,rfl,hv1,l1⟩:=x1;obtain⟨v2,r2,rfl,hv2,l2⟩:=l1;obtain⟨v3,r3,rfl,hv3,l3⟩:=l2;have l4:r3=[]:=l3;subst l4;rw [za5 hv1,za5 hv2,za5 hv3];have l:=zgt (H:=vx h o1 H1) ((List.range (i - j).toNat).map fun k:Nat=>i - (k:Int));rw [map_map,map_map] at l;exact⟨i,j,rfl,h1,h2,zl9 s1 l (c.pre e1) d1⟩
end L2
namespace L2
open PySem PySem.Spec PySem.Calls PyProof.Rows
open Sem (wp)
def vi(H:Hp):Hp:=fun a=>match H a with
 | some (.tup xs)=>some (.tup xs)
 | some (.frz o u)=>some (.frz o u)
 | _=>none
theorem ztV{H:Hp}{b:Addr}{u:HO}:vi H b=some u->H b=some u/\((∃ xs,u=.tup xs)\/∃ o w,u=.frz o w):=by
 intro e;unfold vi at e;cases q:H b with
 | none=>rw [q] at e; cases e
 | some z =>
  rw [q] at e;cases z <;> first | (cases e; exact⟨rfl,.inl ⟨_,rfl⟩⟩) | (cases e; exact⟨rfl,.inr ⟨_,_,rfl⟩⟩) | cases e
theorem zup{fs ex h o:List Addr}{H0 H:Hp}{g g':Heap}{S:Sto}(U:Un fs ex H0 H g g')(r:RepS h o H S):Same (vi H0) (vx h o H):=fun b u e=>by
 obtain⟨e1,e2⟩:=ztV e;have eH:H b=some u:=by
  rcases e2 with ⟨xs,rfl⟩ | ⟨ob,w,rfl⟩
  ·exact U.tups _ _ e1
  ·exact U.frzs _ _ _ e1
 refine zap.mpr ⟨fun m=>?_,fun m=>?_,eH⟩
 ·obtain⟨z,ez⟩:=r.hal b m;rw [eH] at ez;rcases e2 with ⟨xs,rfl⟩ | ⟨ob,w,rfl⟩ <;> cases z <;> cases ez
 ·obtain⟨z,ez⟩:=r.oal b m;rw [eH] at ez;rcases e2 with ⟨xs,rfl⟩ | ⟨ob,w,rfl⟩ <;> cases ez
mutual
def ImD:PyData->Bool
 | .list _=>false
 | .dict _=>false
 | .tuple ds=>ImL ds
 | .none=>true
 | .bool _=>true
 | .int _=>true
 | .str _=>true
def ImL:List PyData->Bool
 | []=>true
 | d :: ds=>ImD d && ImL ds
end
theorem zkw{ds:List PyData}:ImD (.tuple ds)=ImL ds:=by simp only [ImD]
theorem ztp{i:Int}:ImD (.int i)=true:=by simp only [ImD]
theorem zhB:∀ {ds:List PyData},(∀ d∈ds,ImD d=true)->ImL ds=true
 | [],_=>by simp only [ImL]
 | d :: ds,h=>by simp only [ImL,Bool.and_eq_true]; exact⟨h d mem_cons_self,zhB fun e m=>h e (mem_cons_of_mem _ m)⟩
section
variable {H:Hp}
mutual
theorem Has.im{g o:List Addr}:∀ (d:PyData) (v:V),ImD d=true->Has (vx g o H) d v->Has (vi H) d v
 | .none,_,_,h=>by simp only [Has] at h ⊢; exact h
 | .bool _,_,_,h=>by simp only [Has] at h ⊢; exact h
 | .int _,_,_,h=>by simp only [Has] at h ⊢; exact h
 | .str _,_,_,h=>by simp only [Has] at h ⊢; exact h
 | .list ds,v,i,h=>by simp only [ImD,Bool.false_eq_true] at i
 | .dict ds,v,i,h=>by simp only [ImD,Bool.false_eq_true] at i
 | .tuple ds,v,i,h=>by
  simp only [Has] at h ⊢;simp only [ImD] at i;obtain⟨a,vs,e,q,l⟩:=h;have q':H a=some (.tup vs):=(zap.mp q).2.2;exact⟨a,vs,e,by unfold vi; rw [q'],HasL.im ds vs i l⟩
theorem HasL.im{g o:List Addr}:∀ (ds:List PyData) (vs:List V),ImL ds=true->HasL (vx g o H) ds vs->HasL (vi H) ds vs
 | [],_,_,h=>by simp only [HasL] at h ⊢; exact h
 | d :: ds,vs,i,h=>by
  simp only [HasL] at h ⊢;simp only [ImL,Bool.and_eq_true] at i;obtain⟨v,r,e,q,l⟩:=h;exact⟨v,r,e,Has.im d v i.1 q,HasL.im ds r i.2 l⟩
end
end
theorem zlk{h o:List Addr}{H:Hp}:∀ {ds:List PyData} {vs:List V},HasL (vx h o H) ds vs->HasXs h o H (ds.map XV.d) vs
 | [],vs,q=>by simp only [HasL] at q; exact q
 | d :: ds,vs,q=>by
  simp only [HasL] at q;obtain⟨v,r,e,hv,l⟩:=q;exact⟨v,r,e,hv,zlk l⟩
theorem znZ{h o:List Addr}{H:Hp}:∀ {ds:List PyData} {vs:List V},HasXs h o H (ds.map XV.d) vs->HasL (vx h o H) ds vs
 | [],vs,q=>by simp only [HasL]; exact q
 | d :: ds,vs,q=>by
  obtain⟨v,r,e,hv,l⟩:=q;simp only [HasL];exact⟨v,r,e,hv,znZ l⟩
theorem ziP{h o:List Addr}{H:Hp}:∀ {xs ys:List XV} {vs ws:List V},HasXs h o H xs vs->HasXs h o H ys ws->HasXs h o H (xs++ys) (vs++ws)
 | [],ys,vs,ws,q,r=>by rw [show vs=[] from q]; exact r
 | x :: xs,ys,vs,ws,⟨v,r',e,hv,l⟩,r=>by subst e; exact⟨v,r'++ws,rfl,hv,ziP l r⟩
structure LamOk(P:Program)(w:World)(K:W.Frag)(mg:Str->Option Value)(base:Heap)(k:Nat)(ps:List Str)(F:Addr)(q:PN)(s0:Shared)(H0:Hp):Prop where
 at_:∃ oc od fd sl,H0 F=some (.frz ⟨oc,od,.func fd,sl⟩ (.own 0))
 run:∀ (A:Around) (outer:List Env) (s:Shared) (H:Hp) (us:List Value) (vs:List V) (Q:VK),Room k A->Env0 P w K mg base A outer s H->(∃ fs,Un fs [] H0 H s0.heap s.heap)->Vals vs us->spN ps q vs H Q E0 ->
  codeAny (model P w) A (.call (.ref F) ⟨us,[]⟩) (fun r' s'=>match r' with | .ok (.ret u)=>CE outer P w H s Q u s' | _=>False) s
def zr9(db:DE)(cds:List PyData):PN:=fun xs S R=>db (xs.map some++cds.map (fun d=>some (XV.d d))) S R
section
variable {P:Program} {w:World} {K:W.Frag} {mg:Str->Option Value} {base:Heap} {s0:Shared} {H0:Hp}
theorem zoJ{k:Nat}{ps caps:List Str}{qual:Str}{params:Arguments}{body:Expr}{scope:Scope}{cl:List (Str×Addr)}{pm ctv:Value}{c' F:Addr}{cs:List V}{cds:List PyData}{t:TE}{db:DE}
  (S:LamScope ps caps scope) (hf:H0 F=some (.frz (zfx qual params body scope cl pm c' ctv) (.own 0))) (hc:CodeFz H0 c' qual)
  (hbind:∀ us:List Value,us.length=ps.length->bindArgs (W.kla_fn "<lambda>" qual params body scope cl pm (.ref c') ctv) ⟨us,[]⟩=pure (ps.zip us)) (C:Caps H0 s0.heap cl caps cs)
  (hb:∀ A outer s H,Room k (A.deeper (W.envX qual scope s.heap.objs.size F (.ref c') cl))->PE (cxL P w K mg base (ps++caps) qual scope cl F (.ref c') A outer s H) body t) (hd:RE t db) (him:HasL (vi H0) cds cs) :
  LamOk P w K mg base (k+1) ps F (zr9 db cds) s0 H0:=by
 refine⟨⟨_,_,_,_,hf⟩,fun A outer s H us vs Q hr e0 ⟨fs,U⟩ r ⟨hl,h,o,S',xs,R,hs,hx,hq,c⟩=>?_⟩;have hf':=U.frzs _ _ _ hf;have hc':=hc.un U;have C':=C.after U;obtain⟨g,_⟩:=(show ObjOk P w H s.heap F (.frz _ (.own 0)) from e0.hok _ _ hf');refine zod S hr e0 g (hc'.rec e0.hok) (hbind us (by rw [<- r.length]; exact hl)) hl r C' (hb A outer s H (hr.deeper _)) ?_;refine hd h o H _ _ S' R Q ?_ hs hq c;have hcs:HasXs h o H (cds.map XV.d) cs:=zlk (HasL.mono (zup U hs) _ _ him);have:=zbx (n:=0) (ziP hx hcs);simpa [Function.comp_def] using this
end
section
variable {X:Cx}
theorem zl2{F:Addr}{i:Nat}{x:Str}{ps:List Str}{k j:Nat}{pos pos':Pos}{e:Expr}{es:List Expr}{t:TA}{q:PN}(L:LamOk X.prog X.w X.K X.mg X.base k ps F q X.s₀ X.H₀)(hr:Room j X.A)(hk:k<=j)(hv:PE X (.Name x pos') (zlv i))(ha:PA X (e :: es) t)
  (hex:X.ex=[]:=by rfl) (q1:starEach (e :: es) X.env=(false,eval e X.env) :: starEach es X.env:=by rfl) (q2:((backTo pos (starEach es X.env)).any fun x=>x.fst)=false:=by rfl):PE X (.Call (.Name x pos') (e :: es) [] pos) (zqr i F (spN ps q) t):=by
 obtain⟨oc,od,fd,sl,hF⟩:=L.at_;have hat:∀ {zj σ H s},Inv X zj σ H s->W.FnAt F s.heap:=fun {zj σ H s} I=>by
  have e1:=I.base.frzs _ _ _ hF;obtain⟨g,_⟩:=(show ObjOk X.prog X.w H s.heap F (.frz _ (.own 0)) from I.hok _ _ e1);exact⟨oc,od,fd,sl,g⟩
 intro zj s σ H Q I h;obtain⟨hs,h⟩:=h;refine wpAny_Call_Name_kw (thn (hv zj s σ H (fun v H1=>v=.ref F/\zgu (spN ps q) [] E0 t σ H1 Q) I ⟨_,hs,rfl,h⟩) fun u s1 ⟨v,H1,I1,rx,ex,q⟩=>?_);subst ex;obtain rfl:u=Value.ref F:=rx;refine W.callWith_F (hat I1) (thn (ha pos zj s1 σ H1 _ I1 q) fun us s2 ⟨vs,H2,I2,r,q3⟩=>⟨hat I2,?_⟩) q1 q2;replace q3:spN ps _ (vs++[]) H2 Q E0:=q3;rw [append_nil] at q3;have U:=I2.base;rw [hex] at U;refine wpAny_call (codeAny_mono (L.run X.A X.stack s2 H2 us vs Q (hr.mono hk) I2.env0 ⟨_,U⟩ r q3) fun r' s' z=>?_);cases r' with
 | error e=>exact z.elim
 | ok fl =>
  cases fl with
  | ret u'=>exact I2.after z
  | next=>exact z.elim
  | brk=>exact z.elim
  | cont=>exact z.elim
end
structure FnOkG(P:Program)(w:World)(K:W.Frag)(mg:Str->Option Value)(base:Heap)(k:Nat)(f:Addr)(fd:FuncData)(ps:List Str)(G:Shared->Hp->Prop)(sp:Sp):Prop where
 len:∀ vs H Q E,sp vs H Q E->vs.length=ps.length
 run:∀ (A:Around) (outer:List Env) (s:Shared) (H:Hp) (args:Args) (us:List Value) (vs:List V) (Q:VK) (E:XK),Room k A->Env0 P w K mg base A outer s H->BindsTo s fd args (ps.zip us)->Vals vs us->G s H->sp vs H Q E ->
  codeAny (model P w) A (.call (.ref f) args) (CR CX0 outer P w H s Q E) s
structure DfH(P:Program)(w:World)(K:W.Frag)(mg:Str->Option Value)(base:Heap)(x:Str)(ps:List Str)(k kl:Nat)(pl:List Str)(qc:Addr->PN->PN):Prop where
 ex:∃ f fd,(∀ F q,FnOkG P w K mg base k f fd ps (LamOk P w K mg base kl pl F q) (spN ps (qc F q)))/\mg x=some (.ref f)/\W.keepIn K (.ref f)=true/\Binds K fd ps []
theorem zsL{P:Program}{w:World}{K:W.Frag}{mg:Str->Option Value}{base:Heap}{k:Nat}{f:Addr}{name qual:Str}{params:Arguments}{body:List Stmt}{scope:Scope}{dV kV doc pm cdv ct oc:Value}{an od:Option Addr}{G:Shared->Hp->Prop}
  {osl:Array (Option Value)} {N ps:List Str} {sp:Sp} (lk:K.lookup f=some ⟨oc,od,.func (W.fnOf name qual params body scope dV kV doc pm an cdv ct),osl⟩) (hcd:W.codeIn K cdv qual=true) (S:FnScope N ps scope)
  (len:∀ vs H Q E,sp vs H Q E->vs.length=ps.length)
  (hbody:∀ (A:Around) (outer:List Env) (s:Shared) (H:Hp) (vs:List V) (Q:VK) (E:XK),Room k (A.deeper (envOfC qual scope s.heap.objs.size f cdv))->G s H->sp vs H Q E ->
   ∃ t,PSs (zgI CX0 P w K mg base N qual scope f cdv A outer s H E) body t/\t { nx:=fun _ H'=>Q .non H',rt:=Q } (start N vs) H) :
  FnOkG P w K mg base (k+1) f (W.fnOf name qual params body scope dV kV doc pm an cdv ct) ps G sp:=by
 refine⟨len,fun A outer s H args us vs Q E hr e0 hb r hG hsp=>?_⟩;have hl:=len _ _ _ _ hsp;have KX:K.In s.heap:=e0.mod.kin.keeps fun b o e=>(e0.bs b o e).1;have lim:s.heap.NoLimit:=e0.mod.nolimit.keeps fun b o e=>(e0.bs b o e).1;have hkind:∀ y∈ps.zip us,scope.names.lookup y.1=some .local\/(scope.names.lookup y.1=some .cell/\((cellsFrom (s.heap.objs.size+1) scope.names []).lookup y.1).isSome=true):=fun⟨n,v⟩ hy=>by
  rcases S.par n (of_mem_zip hy).1 with q | q
  ·exact .inl q
  ·exact .inr ⟨q,W.cellsFrom_some _ _ _ (.inl q)⟩
 refine codeAny_call_function hr.depth (KX _ _ lk) rfl S.co S.gen rfl (W.codeRec_of KX hcd) (hb _ _ _ _ ?_);refine wpAny_newFunctionEnv_cells S.kind hkind fun env he s1 x=>?_;subst he;refine⟨lim.keeps x.toInCall.keep,codeAny_func ?_⟩;obtain⟨t,ht,hq⟩:=hbody A outer s H vs Q E (hr.deeper _) hG hsp;have I:Inv (zgI CX0 P w K mg base N qual scope f cdv A outer s H E) [] (start N vs) H s1:=zgG S hr.hd e0 hl r x;refine wpAny_mono (ht [] s1 (start N vs) H _ I hq) (fun fl s' hs=>?_) fun e s' hs=>hs;have fin:∀ {σ':St} {H':Hp} {v:V} {u:Value},Inv (zgI CX0 P w K mg base N qual scope f cdv A outer s H E) [] σ' H' s'->RelV v u->Q v H'->CE outer P w H s Q u s' :=
  fun {σ' H' v u} J rv q=>⟨v,H',J.os,J.bare,J.base,J.hok,rv,q⟩
 cases fl with
 | ret u =>
  obtain⟨v,σ',H',J,rv,q⟩:=hs;exact fin J rv q
 | next =>
  obtain⟨σ',H',J,q⟩:=hs;exact fin (v:=V.non) (u:=Value.none) J rfl q
 | brk =>
  obtain⟨_,_,_,q⟩:=hs;exact False.elim q
 | cont =>
  obtain⟨_,_,_,q⟩:=hs;exact False.elim q
section
variable {P:Program} {w:World} {K:W.Frag} {mg:Str->Option Value} {base:Heap} {x:Str} {st:Stmt} {N ps pl:List Str} {k kl:Nat}
theorem zsu{qc:Addr->PN->PN}(D:Dd K mg x st ps)(S:FnScope N ps (zf st))(n:Nat)(hn:N.length=ps.length+n)
  (hbody:∀ (F:Addr) (ql:PN) (f:Addr) (cdv:Value) (A:Around) (outer:List Env) (s:Shared) (H:Hp) (E:XK),Room k (A.deeper (envOfC x (zf st) s.heap.objs.size f cdv))->LamOk P w K mg base kl pl F ql s H ->
   ∃ t dt,PSs (zgI CX0 P w K mg base N x (zf st) f cdv A outer s H E).nox (zaO st) t/\RS t dt/\∀ xs S R,qc F ql xs S R->dt (zbk S.length R) (xs.map some++List.replicate n none) S):DfH P w K mg base x ps (k+1) kl pl qc:=by
 obtain⟨f,fd,F,hm,hb⟩:=D.ex;have kp:=F.kp;obtain⟨oc,od,kV,doc,pm,an,cdv,ct,osl,rfl,lk,hcd⟩:=F.ex;refine⟨f,_,fun Fl ql=>zsL lk hcd S (fun vs H Q E h=>h.1) fun A outer s H vs Q E hr hG ⟨hl,h,o,S',xs,R,hs',hx,hq,c⟩=>?_,hm,kp,hb⟩;obtain⟨t,dt,h1,h2,h3⟩:=hbody Fl ql f cdv A outer s H E hr hG;refine⟨t,h1.nox,h2 h o H _ _ S' _ _ ?_ hs' (h3 xs S' R hq) (eok hs' c)⟩;have e:N.length - vs.length=n:=by omega
 unfold start;rw [e];exact zbx hx
end
def LamFz(X:Cx)(params:Arguments)(body:Expr)(scope:Scope)(H:Hp)(F:Addr):Prop:=∃ pm c' ctv,H F=some (.frz (zfx (X.env.qual ++ "<lambda>") params body scope (zjV X.env scope.names []) pm c' ctv) (.own 0))/\CodeFz H c' (X.env.qual ++ "<lambda>")
def zuZ(X:Cx)(params:Arguments)(body:Expr)(scope:Scope):TE:=fun σ H Q=>∀ F H',Same H H'->LamFz X params body scope H' F->Q (.ref F) H'
def zp8(X:Cx)(params:Arguments)(body:Expr)(scope:Scope)(ks:List Nat)(qc:Addr->PN->PN)(db:DE)(ps:List Str)(t:TA):TE:=fun σ H Q=>t σ H fun vs H1 =>
 ∃ F cds cs,LamFz X params body scope H1 F/\ks.map (fun i=>(σ[i]?).join)=cs.map some/\HasL (vi H1) cds cs/\spN ps (qc F (zr9 db cds)) vs H1 Q E0
section
variable {X:Cx} {dsc scope:Scope} {L kl k j:Nat} {pl caps ps:List Str} {ks:List Nat} {params:Arguments} {body:Expr} {c P:Addr} {lp pos pos':Pos} {x:Str} {qc:Addr->PN->PN} {e:Expr} {es:List Expr} {t:TA} {tb:TE} {db:DE}
theorem zsW(hT:((c,P),lamKey (X.env.qual ++ "<lambda>") lp)∈tabsG)(hcode:X.env.code=.ref c)(hd:X.env.scope=dsc)(hc:X.env.cells=cellsFrom L dsc.names [])(hl:zfg X.N dsc.names scope pl caps ks=true)(hdf:defaultsOf params X.env=([],[])):
  PE X (.Lambda params body scope lp) (zuZ X params body scope):=by
 intro zj s σ H Q I h;exact W.kla_eval hdf (zkF I hcode hT (zin hd hc hl) fun f c' ctv pm H2 s2 I2 sm nf hf hcf=>⟨.ref f,H2,I2,rfl,h f H2 sm ⟨pm,c',ctv,hf,hcf⟩⟩)
theorem zpQ(D:DfH X.prog X.w X.K X.mg X.base x ps k (kl+1) pl qc)(hr:Room j X.A)(hk:k<=j)(hd:X.env.scope=dsc)(hc:X.env.cells=cellsFrom L dsc.names [])(hk1:scope.kind=.function)(hco:scope.isCoroutine=false)(hgn:scope.isGenerator=false)(hl:zfg X.N dsc.names scope pl caps ks=true)
  (hbind:∀ cl pm c' ctv (us:List Value),us.length=pl.length->bindArgs (W.kla_fn "<lambda>" (X.env.qual ++ "<lambda>") params body scope cl pm (.ref c') ctv) ⟨us,[]⟩=pure (pl.zip us))
  (hb:∀ cl f c' A outer s H,Room kl (A.deeper (W.envX (X.env.qual ++ "<lambda>") scope s.heap.objs.size f (.ref c') cl))->PE (cxL X.prog X.w X.K X.mg X.base (pl++caps) (X.env.qual ++ "<lambda>") scope cl f (.ref c') A outer s H) body tb) (hdb:RE tb db)
  (ha:PA X (e :: es) t) (hg:Gl X x:=by rfl) (hdg:(x == ("__debug__":Str))=false:=by decide)
  (q1:starEach (e :: es) X.env=(false,eval e X.env) :: starEach es X.env:=by rfl) (q2:((backTo pos (starEach es X.env)).any fun x=>x.fst)=false:=by rfl) :
  PE X (.Call (.Name x pos') (e :: es) [] pos) (zp8 X params body scope ks qc db ps t):=by
 obtain⟨f,fd,Fo,hm,kp,hbi⟩:=D.ex;intro zj s σ H Q I h;refine wpAny_Call_Name_kw (zfj I hg hm ?_ hdg);refine W.callWith_K (h₀:=X.base) I.ok.mod.kin kp (thn (ha pos zj s σ H _ I h) fun us s1 ⟨vs,H1,I1,r,F,cds,cs,⟨pm,c',ctv,hf,hcf⟩,hcs,him,hq⟩=>⟨I1.kIn,?_⟩) q1 q2;have hlen:us.length=ps.length:=by rw [<- r.length]; exact hq.1
 have bd:=hbi s1 us I1.kIn (by rw [append_nil]; exact hlen);rw [append_nil] at bd;have LO:LamOk X.prog X.w X.K X.mg X.base (kl+1) pl F (zr9 db cds) s1 H1:=zoJ (zgi (X:=X) hk1 hco hgn hl) hf hcf (fun us hu=>hbind _ _ _ _ us hu) (zk9 I1 hd hc hl hcs) (fun A outer s H hr=>hb _ _ _ A outer s H hr) hdb him;refine wpAny_call (codeAny_mono ((Fo F _).run X.A X.stack s1 H1 ⟨us,[]⟩ us vs Q E0 (hr.mono hk) I1.env0 bd r LO hq) fun r' s' z=>?_);cases r' with
 | error e=>exact False.elim z
 | ok fl =>
  cases fl with
  | ret u=>exact I1.after z
  | next=>exact False.elim z
  | brk=>exact False.elim z
  | cont=>exact False.elim z
end
def ziy(ks:List Nat)(qc:Addr->PN->PN)(db de:DE):DE:=fun δ S R=>de δ S fun x S1=>∃ (d:PyData) (cds:List PyData),x=.d d/\ks.map (fun i=>(δ[i]?).join)=cds.map (fun d=>some (XV.d d))/\ImL cds=true /\
 ∀ F,qc F (zr9 db cds) [.d d,.o (.ref F)] [] (ret0 S1 R)
theorem zm0{X:Cx}{params:Arguments}{body:Expr}{scope:Scope}{ks:List Nat}{qc:Addr->PN->PN}{db de:DE}{te:TE}{a b:Str}(h1:RE te de):RE (zp8 X params body scope ks qc db [a,b] (zgm te (zgm (zuZ X params body scope) zsb))) (ziy ks qc db de):=fun h o H δ σ S R Q he hs q c =>
 h1 h o H δ σ S _ _ he hs q fun o1 H1 S1 x v e1 s1 x1 ⟨d,cds,ex,hcs,him,hq⟩=>by
  subst ex;intro F H2 sm hfz;have ex2:Ex o1 H1 o1 H2:=Ex.of_same sm;have s2:=s1.same sm;have hcs':ks.map (fun i=>(δ[i]?).join)=(cds.map XV.d).map some:=by rw [hcs,map_map]; rfl
  obtain⟨cvs,hcv,hx⟩:=zf2 ((he.mono e1).mono ex2) hcs';refine⟨F,cds,cvs,hfz,hcv,HasL.im _ _ him (znZ hx),rfl,h++o1,[],[],[.d d,.o (.ref F)],_,rep0 s2,⟨v,[.ref F],rfl,hx0 (x1.mono ex2),.ref F,[],rfl,rfl,rfl⟩,hq F,cn0 s2 (c.pre (e1.trans ex2))⟩
end L2
namespace L2
open PySem PySem.Spec PySem.Calls PyProof.Rows
end L2
namespace HT
open PySem PyProof.Rows
section
open PySem.SeqAt
open PySem.AutoSeq1 (wpAny_loadPart')
open PySem.MeetsSeq PySem.MeetsSeq2 PySem.MeetsSeq3
theorem zmZ{A:Around}{s:Shared}{x y:Addr}{items items2:Array Value}{ns ms:List Int}(hx:IsTup s.heap x items)(hy:IsTup s.heap y items2)(hi:IntsAre items.toList ns)(hj:IntsAre items2.toList ms)(hu:A.units<cLine):
  EqAt A s (.ref x) (.ref y) (decide (ns=ms)):=by
 have z1:items.size=ns.length:=by rw [<- hi.length]; simp
 have z2:items2.size=ms.length:=by rw [<- hj.length]; simp
 by_cases hne:x=y
 ·subst hne;obtain⟨o1,b1,c1,n1,d1⟩:=id hx;obtain⟨o2,b2,c2,n2,d2⟩:=id hy;rw [b1] at b2;cases b2;rw [d1] at d2;cases d2;rw [decide_eq_true (zhC hi hj)];exact EqAt.same _
 ·have:=EqAt.of_refs hne (RcAt.tuples (A:=A) (e:=fun j=>decide (ns[j]? = ms[j]?)) hx hy hu fun j h1 h2=>by
   obtain⟨a,t,e1,e2⟩:=zhI hi h1;obtain⟨c,u,e3,e4⟩:=zhI hj h2;rw [e1,e3,e2,e4];have:=EqAt.int_int (A:=A.in1) (s:=s) a t c u;rw [show decide (some a=some c)=(a == c) from by rw [Bool.eq_iff_iff]; simp];exact this)
  rw [show decide (ns=ms)=((List.range (min items.size items2.size)).all (fun j=>decide (ns[j]? = ms[j]?)) && items.size == items2.size) from ?_]
  ·exact this
  ·rw [Bool.eq_iff_iff,Bool.and_eq_true,all_eq_true];simp only [mem_range,decide_eq_true_eq,beq_iff_eq];constructor
   ·rintro rfl;exact⟨fun j _=>rfl,by omega⟩
   ·rintro⟨h,hs⟩;refine List.ext_getElem? fun j=>?_;by_cases hj':j<items.size
    ·exact h j (by omega)
    ·rw [getElem?_eq_none (by omega),getElem?_eq_none (by omega)]
theorem zni{A:Around}{s:Shared}{x y:Addr}{items items2:Array Value}{ns ms:List Int}(hx:IsTup s.heap x items)(hy:IsTup s.heap y items2)(hi:IntsAre items.toList ns)(hj:IntsAre items2.toList ms)(hu:A.units<cLine):
  RcLtAt A s (.ref x) (.ref y) (lexLt ns ms):=fun prog w E Q hq=>lt_tupInts hx hy hi hj hu hq
theorem lt_tupIT{prog:Program}{w:World}{A:Around}{E:Value->Shared->Prop}{s:Shared}{l b x y:Addr}{items items2:Array Value}{a c:Int}{t u:Tok}{ns ms:List Int}{Q:Value->Shared->Prop}(hl:IsTup s.heap l #[.int a t,.ref x])(hb:IsTup s.heap b #[.int c u,.ref y])
  (hx:IsTup s.heap x items) (hy:IsTup s.heap y items2) (hi:IntsAre items.toList ns) (hj:IntsAre items2.toList ms) (hu:A.units+1<cLine) (h:Q (.bool (lexLt (a :: ns) (c :: ms))) s):wpAny (model prog w) A (compareOp .Lt (.ref l) (.ref b)) Q E s:=by
 obtain⟨⟨cls,dd,data,sl⟩,ho,hc,n,hd⟩:=id hl;obtain⟨⟨cls2,dd2,data2,sl2⟩,ho2,hc2,n2,hd2⟩:=id hb;simp only at hc hd hc2 hd2;subst hc hd hc2 hd2;rw [lexLt_cons] at h;exact richCompare_meets_room (op:=.Lt) ⟨_,ho,rfl⟩ ⟨_,ho2,rfl⟩ PySem.F.slot_tuple_lt PySem.F.entry_tuple_lt (PySem.F.args_tuple_lt_2 _ _) (zjF l b n n2 dd dd2 sl sl2 a c t u (.ref x) (.ref y) ns ms)
  ⟨ho,ho2,zmZ hx hy hi hj hu,zni hx hy hi hj hu,show Value.bool _≠Value.notImplemented/\Q (.bool _) s from⟨(fun x=>nomatch x),h⟩⟩ (by omega)
end
end HT
namespace L2
open PySem PySem.Spec PyProof.Rows
section
section
variable {X:Cx}
def ztA(K:W.Frag):R2:=fun x y H Q=>∃ a b n m p q ns ms,x=.ref a/\y=.ref b/\SqT K H a [.int n,.ref p]/\SqT K H b [.int m,.ref q]/\SqT K H p (ns.map V.int)/\SqT K H q (ms.map V.int)/\Q (.bl (HT.lexLt (n :: ns) (m :: ms))) H
theorem zrR(hu:X.A.units+64<cLine):OpR X (compareOp .Lt) (ztA X.K):=by
 intro zj s σ H x y v u Q I rx ry h;obtain⟨a,b,n,m,p,q,ns,ms,rfl,rfl,ha,hb,hp,hq,k⟩:=h;cases rx;cases ry;obtain⟨its,r1,p1,_⟩:=I.tuple ha;obtain⟨its2,r2,p2,_⟩:=I.tuple hb;obtain⟨jts,s1,l1,_⟩:=I.tuple hp;obtain⟨jts2,s2,l2,_⟩:=I.tuple hq;have i1:IntsAre jts.toArray.toList ns:=zba s1;have i2:IntsAre jts2.toArray.toList ms:=zba s2;cases r1 with
 | cons ra r1=>cases r1 with
  | cons rb r1 =>
   cases r1;cases r2 with
   | cons rc r2=>cases r2 with
    | cons rd r2 =>
     cases r2;obtain⟨t,rfl⟩:=ra;obtain⟨t',rfl⟩:=rc;cases rb;cases rd;exact HT.lt_tupIT p1 p2 l1 l2 i1 i2 (by omega) ⟨.bl _,H,I,rfl,k⟩
def prI(p:Int×List Int):PyData:=.tuple [.int p.1,zoy p.2]
def zoO:D2:=fun x y S R=>∃ p q:Int×List Int,x=.d (prI p)/\y=.d (prI q)/\R (.d (.bool (HT.lexLt (p.1 :: p.2) (q.1 :: q.2)))) S
def IsPr(H:Hp)(v:V)(p:Int×List Int):Prop:=∃ a b,v=.ref a/\H a=some (.tup [.int p.1,.ref b])/\H b=some (.tup (p.2.map V.int))
theorem znq{h o:List Addr}{H:Hp}{p:Int×List Int}{v:V}(hv:Has (vx h o H) (prI p) v):IsPr H v p:=by
 obtain⟨a,vs,rfl,ea,l1⟩:=zaw.mp hv;obtain⟨v1,r1,e1,h1,k1⟩:=zA.mp l1;obtain⟨v2,r2,e2,h2,k2⟩:=zA.mp k1;have e3:=zJ.mp k2;subst e3 e2 e1;have e4:=zbR.mp h1;subst e4;obtain⟨b,ps,rfl,hb,lb⟩:=zaw.mp h2;rw [zcn lb] at hb;exact⟨a,b,rfl,zam _ _ ea,zam _ _ hb⟩
theorem zr0{K:W.Frag}:RO (ztA K) zoO:=fun h o H S x y v u R Q hs hx hy q c=>by
 obtain⟨p,q',rfl,rfl,q⟩:=q;obtain⟨a,b,rfl,e1,e2⟩:=znq (show Has (vx h o H) (prI p) v from hx);obtain⟨a',b',rfl,e3,e4⟩:=znq (show Has (vx h o H) (prI q') u from hy);exact⟨a,a',p.1,q'.1,b,b',p.2,q'.2,rfl,rfl,.of e1,.of e3,.of e2,.of e4,c o H S _ _ Ex.refl hs (xB _) q⟩
end
theorem lo{sc:Scope}{x:Str}(h:sc.names.lookup x=some .local:=by rfl):Loc sc x:=Or.inl h
theorem fsd{N P:List Str}{sc:Scope}(h:zuC N P sc=true:=by decide +kernel):FnScope N P sc:=fsc h
theorem zrp{X:Cx}{i:Nat}{x:Str}{e:Expr}{t:TE}{pos pos':Pos}(hN:X.N.Nodup)(hi:X.N[i]? = some x)(hx:Loc X.env.scope x)(he:QE X e t)(hs:swapsWith e (some (.Name x pos')) pos.line X.env=pure false:=by rfl)(hf:X.fn x=true\/X.env.scope.names.lookup x=some .local:=by first | exact .inl rfl | exact .inr rfl | assumption):
  QS X (.Assign [.Name x pos'] e pos) (ztG t (zma i)):=QS.mk (zu hN hi hx he.out hs hf)
end
section
def SubF(δ2 δ:XE):Prop:=δ2.length=δ.length/\∀ (i:Nat) x,δ2[i]? = some (some x)->δ[i]? = some (some x)/\x.flat=true
theorem RepE.sub{o:List Addr}{H:Hp}{δ δ2:XE}{σ:St}(r:RepE [] o H δ σ)(s:SubF δ2 δ):RepE [] [] H δ2 σ:=⟨s.1.trans r.len,fun i x e=>by
 obtain⟨e1,f⟩:=s.2 i x e;obtain⟨v,e2,hv⟩:=r.get i x e1;refine⟨v,e2,?_⟩;cases x with
 | d d=>exact Has.mono (fun b u q=>zap.mpr ⟨by simp,by simp,(zap.mp q).2.2⟩) d v hv
 | o w=>exact hv
 | l k=>exact absurd f (by simp [XV.flat])
 | x C fs=>exact absurd f (by simp [XV.flat])⟩
theorem zo0{K:W.Frag}{a:Addr}{ns:List Int}{N:Int}{j m:Nat}{tb:TS}{db:DS}{D:Ends}{σ:St}{H:Hp}{J:XE->Prop}(hb:RS tb db)(h0:σ[0]? = some (some (.ref a)))(hl:σ.length=m+1)(hS:SqL K H a (ns.map V.int))(hlen:ns.length<=63)
  (turn:∀ n:Int,db { nx:=fun δ _=>δ[0]? = some (some (.o (.ref a)))/\δ.length=m+1/\∃ δ2,J δ2/\SubF δ2 δ,ct:=fun _ _=>False,rt:=fun _ _=>False } ((some (.o (.ref a)) :: List.replicate m none).set j (some (.d (.int n)))) [])
  (hj:j≠0) (done:∀ (σ:St) (H1:Hp) (δ2:XE),Same H H1->J δ2->RepE [] [] H1 δ2 σ->σ[0]? = some (some (.ref a))->σ.length=m+1->D.nx σ H1) :
  zuu (ztZ K (tOp zsF (zsj (zgm (tC2 (zpS K) (zlv 0) (tC (.int 0))) zsb)) (tSl (zt5 K) (zlv 0) (zo6 (tC (.int 1))) (zo6 (tC (.int N)))))) (zma j) tb D σ H:=by
 refine⟨_,h0,a,ns,0,rfl,rfl,hS,by decide,fun n0=>⟨by show 1<=sizeLine; decide,fun p hp=>?_⟩⟩;have s1:Same H (upd H p (.lst [.int n0])):=Same.laid hp;refine⟨_,h0,_,rfl,_,rfl,a,_,rfl,s1.seq hS,fun p2 hp2=>?_⟩;have s2:=s1.trans (Same.laid (o:=.lst (zkY (ns.map V.int) (some 1) (some N))) hp2);have np:p≠p2:=zH zad hp2;have hz:(zkY (ns.map V.int) (some 1) (some N)).length<=63:=le_trans (zeg _ _ _) (by rw [length_map]; exact hlen);refine⟨p,p2,_,_,rfl,rfl,by rw [zO np,zad],zad,le_of_lt (small1000 (by simp only [length_cons,length_nil]; omega)),fun p3 hp3=>?_⟩;have s3:=s2.trans (Same.laid (o:=.lst ([V.int n0]++zkY (ns.map V.int) (some 1) (some N))) hp3);refine⟨p3,rfl,⟨_,.of zad⟩,zpb (K:=K) (a:=p3) (xs:=[V.int n0]++zkY (ns.map V.int) (some 1) (some N)) (fun i σ' H'=>Same _ H'/\σ'[0]? = some (some (.ref a))/\σ'.length=m+1/\(0<i->∃ δ2,J δ2/\RepE [] [] H' δ2 σ')) ⟨Same.refl _,h0,hl,fun h=>absurd h dz⟩ (fun i σ H4 _ ⟨s4,_⟩=>.of (s4 _ _ zad)) ?_ ?_⟩
 ·rintro i x σ' H4 hi ⟨s4,z0,z1,_⟩;obtain⟨n,rfl⟩:∃ n,x=.int n:=by
   rcases mem_append.mp (mem_of_getElem? hi) with m | m
   ·exact⟨n0,mem_singleton.mp m⟩
   ·exact zpg m
  show tb _ (σ'.set j (some (.int n))) H4;refine hb [] [] H4 _ _ [] _ _ ⟨by simp [z1],fun i x e=>?_⟩ zmP (turn n) ⟨?_,fun _ _ _ _ _ _ _ _ q=>q.elim,fun _ _ _ _ _ _ _ _ q=>q.elim,fun _ _ _ _ _ _ _ _ q=>q.elim⟩
  ·rw [getElem?_set] at e ⊢;by_cases hij:j=i
   ·rw [if_pos hij] at e ⊢;by_cases hjl:j<m+1
    ·rw [if_pos (by simpa using hjl)] at e;rw [if_pos (by rw [z1]; exact hjl)];cases e;exact⟨.int n,rfl,xI n⟩
    ·rw [if_neg (by simpa using hjl)] at e;cases e
   ·rw [if_neg hij] at e ⊢;cases i with
    | zero =>
     cases e;exact⟨.ref a,z0,rfl⟩
    | succ i =>
     rw [getElem?_cons_succ,List.getElem?_replicate] at e;split at e <;> cases e
  ·rintro o' H' δ' S' σ'' e he hs ⟨q1,q2,δ2,q3,q4⟩;obtain⟨v,ev,hv⟩:=he.get 0 _ q1;cases hv;exact⟨s4.trans e.same_nil,ev,by rw [<- he.len]; exact q2,fun _=>⟨δ2,q3,he.sub q4⟩⟩
 ·rintro σ' H4 ⟨s4,z0,z1,hJ⟩;obtain⟨δ2,q1,q2⟩:=hJ (by simp);exact done σ' H4 δ2 (s3.trans s4) q1 q2 z0 z1
theorem zpH{K:W.Frag}{a:Addr}{ns:List Int}{T u:TS}{dt:Int->DS}{D:Ends}{σ:St}{H:Hp}{δ:XE}{C:TE->TS}{G:Ends->St->VK}{i:Int}(ht:∀ (te:TE) (n:Int),RE te (dC (.int n))->RS (zk3 (C te) u) (dt n))(hC:∀ te D σ H,C te D σ H=te σ H (G D σ))(e1:T=zk3 (C (tC2 (zpS K) (zlv 0) (tC (.int i)))) u)(hi:0<=i)
  (h0:σ[0]? = some (some (.ref a))) (hS:SqL K H a (ns.map V.int)) (he:RepE [] [] H δ σ) (go:∀ n,dt n { nx:=fun _ _=>False,rt:=fun y _=>y=.d (.bool true) } δ []) (q:∀ H',D.rt (.bl true) H'):T D σ H:=by
 subst e1;have one:∀ n:Int,zk3 (C (tC (.int n))) u D σ H:=fun n=>by
  refine ht _ n zN [] [] H δ σ [] _ _ he zmP (go n) ⟨fun _ _ _ _ _ _ _ _ q=>q.elim,fun o' H' S' y v e hs hy ey=>?_,fun _ _ _ _ _ _ _ _ q=>q.elim,fun _ _ _ _ _ _ _ _ q=>q.elim⟩;subst ey;obtain rfl:=zcd.mp (show Has (vx [] o' H') (.bool true) v from hy);exact q H'
 show C (tC2 (zpS K) (zlv 0) (tC (.int i))) { D with nx:=u D } σ H;rw [hC];refine⟨_,h0,a,ns,i,rfl,rfl,hS,hi,fun n=>?_⟩;have h:=one n;have h':C (tC (.int n)) { D with nx:=u D } σ H:=h;rw [hC] at h';exact h'
end
end L2
namespace My
open PySem L2
def zc0:PN:=fun xs S R=>(zM (zab (dOp (dI (fun _ j=>0<j) fun i j=>i % j) (dOp zbK (zh 0) (dC (.int 7919))) (dC (.int 2147483647))) (zi 0)) (zaM (dOp (dI (fun _ j=>0<j) fun i j=>i % j) (dOp zbK (dOp zbK (dOp zfy (zh 0) (zh 0)) (dOp zfy (dC (.int 48271)) (zh 0))) (dC (.int 12345))) (dC (.int 2147483629))))) (zbk S.length R) (xs.map some++List.replicate 0 none) S
def zb4:PN:=fun xs S R=>(zM (zab (dCB (dI2 fun i j=>if j>i then j else i) (zb (zh 0) (zb (dOp (dI0 fun i j=>i - j) (dC (.int 0)) (zh 0)) zo))) (zi 1)) (zaM (zcX (zb (zh 1) (zb (dCB zpM (zb (dOp (dIb fun i j=>decide (j<=i)) (zh 1) (dOp (dI CPow fun i j=>i ^ j.toNat) (dC (.int 10)) (dC (.int 18)))) zo)) (zb (dOp (dI (fun _ j=>0<j) fun i j=>i % j) (zh 1) (dC (.int 1000003))) zo)))))) (zbk S.length R) (xs.map some++List.replicate 1 none) S
def zah:PN:=fun xs S R=>(zaM (zgK (dCB zr8 (zb (zh 0) (zb (dO (.ty "int")) zo))) (zoG (dCB zr8 (zb (zh 0) (zb (dO (.ty "bool")) zo)))))) (zbk S.length R) (xs.map some++List.replicate 0 none) S
def zn:PN:=fun xs S R=>(zM (zcy (dB (dOp zfr (dOp dIx (zh 0) (dC (.int 1))) (dC (.int 1)))) (zM (zab (dOp (dI (fun _ j=>0<j) fun i j=>i % j) (dOp dIx (zh 0) (dC (.int 0))) (zh 1)) (zi 2)) (zM (zab (dOp dFd (dOp dIx (zh 0) (dC (.int 0))) (zh 1)) (zjS (zh 0) (dC (.int 0)))) (zaM (zh 2)))) zaG) (zM (zab (zS 1 zc0 (zb (dOp zbK (zS 1 zc0 (zb (dOp dIx (zh 0) (dC (.int 2))) zo)) (dC (.int 7))) zo)) (zjS (zh 0) (dC (.int 2)))) (zaM (dOp (dI (fun _ j=>0<j) fun i j=>i % j) (dOp dFd (dOp dIx (zh 0) (dC (.int 2))) (dC (.int 64))) (zh 1))))) (zbk S.length R) (xs.map some++List.replicate 1 none) S
def zfl:PN:=fun xs S R=>(zM (zab (zB 0 2 zn (zb (zh 0) (zb (dC (.int 8)) zo))) (zi 1)) (zM (zcy (dB (dOp (dIb fun i j=>decide (i<j)) (zh 1) (dC (.int 5)))) (zaM (dOp (dI0 fun i j=>i - j) (zB 0 2 zn (zb (zh 0) (zb (dC (.int 13)) zo))) (dC (.int 6)))) zaG) (zM (zcy (dB (dOp (dIb fun i j=>decide (i<j)) (zh 1) (dC (.int 7)))) (zaM (dOp (dI0 fun i j=>i - j) (zB 0 2 zn (zb (zh 0) (zb (dC (.int 2001)) zo))) (dC (.int 1000)))) zaG) (zaM (dOp zfy (dOp (dI0 fun i j=>i - j) (zB 0 2 zn (zb (zh 0) (zb (dOp zfy (dC (.int 2)) (dOp (dI CPow fun i j=>i ^ j.toNat) (dC (.int 10)) (dC (.int 30)))) zo))) (dOp (dI CPow fun i j=>i ^ j.toNat) (dC (.int 10)) (dC (.int 30)))) (dOp (dI CPow fun i j=>i ^ j.toNat) (dC (.int 10)) (dC (.int 28)))))))) (zbk S.length R) (xs.map some++List.replicate 1 none) S
def zlj:PN:=fun xs S R=>(zaM (zbZ (zb (dOp zbK (dOp dIx (zh 0) (dC (.int 0))) (dOp dIx (zh 1) (dC (.int 0)))) (zb (dOp zbK (dOp dIx (zh 0) (dC (.int 1))) (dOp dIx (zh 1) (dC (.int 1)))) zo)))) (zbk S.length R) (xs.map some++List.replicate 0 none) S
def zcH:PN:=fun xs S R=>(zM (zab (zbZ (zb (dOp zfy (dOp dIx (zh 0) (dC (.int 0))) (zh 1)) (zb (dOp zfy (dOp dIx (zh 0) (dC (.int 1))) (zh 1)) zo))) (zi 2)) (zaM (zbZ (zb (dCB zlL (zb (zh 2) zo)) (zb (dCB zt0 (zb (zh 2) zo)) zo))))) (zbk S.length R) (xs.map some++List.replicate 1 none) S
def zaH:PN:=fun xs S R=>(zM (zab (zB 0 2 zn (zb (zh 0) (zb (dC (.int 8)) zo))) (zi 1)) (zM (zcy (dB (dOp (dIb fun i j=>decide (i<j)) (zh 1) (dC (.int 5)))) (zaM (dOp (dI0 fun i j=>i - j) (zB 0 2 zn (zb (zh 0) (zb (dC (.int 13)) zo))) (dC (.int 6)))) zaG) (zM (zcy (dB (dOp (dIb fun i j=>decide (i<j)) (zh 1) (dC (.int 7)))) (zaM (dOp (dI0 fun i j=>i - j) (zB 0 2 zn (zb (zh 0) (zb (dC (.int 2001)) zo))) (dC (.int 1000)))) zaG) (zaM (dOp zfy (dOp (dI0 fun i j=>i - j) (zB 0 2 zn (zb (zh 0) (zb (dOp zfy (dC (.int 2)) (dOp (dI CPow fun i j=>i ^ j.toNat) (dC (.int 10)) (dC (.int 30)))) zo))) (dOp (dI CPow fun i j=>i ^ j.toNat) (dC (.int 10)) (dC (.int 30)))) (dOp (dI CPow fun i j=>i ^ j.toNat) (dC (.int 10)) (dC (.int 28)))))))) (zbk S.length R) (xs.map some++List.replicate 1 none) S
def zb5:PN:=fun xs S R=>(zM (zab (zB 0 1 zaH (zb (zh 0) zo)) (zi 1)) (zM (zab (zB 0 2 zn (zb (zh 0) (zb (dC (.int 5)) zo))) (zi 2)) (zM (zcy (dB (dOp zfr (zB 0 2 zn (zb (zh 0) (zb (dC (.int 8)) zo))) (dC (.int 7)))) (zab (zB 0 2 zn (zb (zh 0) (zb (dOp (dI CPow fun i j=>i ^ j.toNat) (dC (.int 10)) (dC (.int 40))) zo))) (zi 2)) zaG) (zaM (zbZ (zb (zh 1) (zb (dOp zbK (zh 1) (zh 2)) zo))))))) (zbk S.length R) (xs.map some++List.replicate 2 none) S
def zhH:PN:=fun xs S R=>(zM (zab (zB 0 1 zfl (zb (zh 0) zo)) (zi 1)) (zM (zab (zB 0 2 zn (zb (zh 0) (zb (dC (.int 5)) zo))) (zi 2)) (zM (zcy (dB (dOp zfr (zB 0 2 zn (zb (zh 0) (zb (dC (.int 8)) zo))) (dC (.int 7)))) (zab (zB 0 2 zn (zb (zh 0) (zb (dOp (dI CPow fun i j=>i ^ j.toNat) (dC (.int 10)) (dC (.int 40))) zo))) (zi 2)) zaG) (zaM (zbZ (zb (zh 1) (zb (dOp zbK (zh 1) (zh 2)) zo))))))) (zbk S.length R) (xs.map some++List.replicate 2 none) S
def zch:PN:=fun xs S R=>(zM (zab (zfz (zb (dCB zlp (zb (zh 0) (zb (dO (.ref 37)) zo))) (zb (dCB zlp (zb (zh 0) (zb (dO (.ref 49)) zo))) (zb (dCB zlp (zb (zh 0) (zb (dO (.ref 61)) zo))) (zb (dCB zlp (zb (zh 0) (zb (dO (.ref 161)) zo))) zo))))) (zi 1)) (zM (zab (dOp zbK (zh 1) (zfz (zb (dCB zlp (zb (zh 0) (zb (dO (.ref 73)) zo))) (zb (dCB zlp (zb (zh 0) (zb (dO (.ref 85)) zo))) (zb (dCB zlp (zb (zh 0) (zb (dO (.ref 104)) zo))) (zb (dCB zlp (zb (zh 0) (zb (dO (.ref 123)) zo))) zo)))))) (zi 1)) (zM (zab (dOp zbK (zh 1) (zfz (zb (dCB zlp (zb (zh 0) (zb (dO (.ref 142)) zo))) (zb (dCB zlp (zb (zh 0) (zb (dO (.ref 180)) zo))) zo)))) (zi 1)) (zM (zcy (dOr (zkg (zid (dCB zlp (zb (zh 0) (zb (dO (.ty "ValueError")) zo))))) (dB (dOp zpY (zsa zh8 (zh 1) (zb (dC (.bool true)) zo)) (dC (.int 1))))) (zaM (dC (.str "other"))) zaG) (zM (zab (zfz (zb (dC (.str "span")) (zb (dC (.str "part")) (zb (dC (.str "set")) (zb (dC (.str "text")) (zb (dC (.str "row")) (zb (dC (.str "unlike")) (zb (dC (.str "drawing")) (zb (dC (.str "gap")) (zb (dC (.str "offer")) (zb (dC (.str "great")) zo))))))))))) (zi 2)) (zaM (dOp dIx (zh 2) (zsa zjn (zh 1) (zb (dC (.bool true)) zo))))))))) (zbk S.length R) (xs.map some++List.replicate 2 none) S
def zav:PN:=fun xs S R=>(zM (zab (dC (.str "abcdefghijklmnopqrstuvwxyz")) (zi 1)) (zM (zab (zB 0 2 zn (zb (zh 0) (zb (dC (.int 3)) zo))) (zi 2)) (zM (zab (zB 0 2 zn (zb (zh 0) (zb (dC (.int 26)) zo))) (zi 3)) (zM (zab (zfB [none,some 1,some 3] (zaI (zb (dC (.int 8)) zo)) (zi 0) zax (dOp zfy (dOp dIx (zh 1) (dOp (dI (fun _ j=>0<j) fun i j=>i % j) (dOp zbK (zh 2) (dOp zfy (dC (.int 5)) (zh 0))) (dC (.int 26)))) (dOp zbK (dC (.int 1)) (dOp (dI (fun _ j=>0<j) fun i j=>i % j) (dOp zbK (zh 2) (dOp zfy (dC (.int 3)) (zh 0))) (dC (.int 8)))))) (zi 4)) (zM (zcy (dB (dOp zfr (zh 2) (dC (.int 0)))) (zM (zab (zua zpv (dC (.str "")) (zb (zcq [none,some 1,some 3] (zaI (zb (dC (.int 8)) zo)) (zi 0) zax (dOp dIx (zh 1) (dOp (dI (fun _ j=>0<j) fun i j=>i % j) (dOp zbK (zh 2) (dOp zfy (dC (.int 7)) (zh 0))) (dC (.int 26))))) zo)) (zi 5)) (zab (zfB [none,some 5] (zaI (zb (dC (.int 8)) zo)) (zi 0) zax (dSl zmd (zh 1) zbT (ze2 (dOp zbK (zh 0) (dC (.int 1)))))) (zi 4))) zaG) (zM (zcy (dB (dOp zfr (zh 2) (dC (.int 1)))) (zab (zcX (zb (dC (.str "part")) (zb (dC (.str "gap")) (zb (dC (.str "cut")) (zb (dC (.str "a")) (zb (dC (.str "aa")) (zb (dC (.str "dear")) (zb (dC (.str "b")) (zb (dC (.str "keeps")) zo))))))))) (zi 4)) zaG) (zM (zab (zB 0 2 zn (zb (zh 0) (zb (dC (.int 8)) zo))) (zi 6)) (zM (zab (dOp zpO (dSl zmd (zh 4) (ze2 (zh 6)) zbT) (dSl zmd (zh 4) zbT (ze2 (zh 6)))) (zi 4)) (zM (zcy (dB (dOp zfr (zB 0 2 zn (zb (zh 0) (zb (dC (.int 2)) zo))) (dC (.int 1)))) (zct (ztW zfN (zh 4))) zaG) (zaM (zh 4))))))))))) (zbk S.length R) (xs.map some++List.replicate 6 none) S
def zdk:PN:=fun xs S R=>(zaM (dCB za7 (zb (zcq [none] (zbI (zh 0)) (zi 0) zax (dOp dIx (zh 0) (dC (.int 1)))) zo))) (zbk S.length R) (xs.map some++List.replicate 0 none) S
def zbU:PN:=fun xs S R=>(zM (zcy (dOr (zkg (zid (dCB zr8 (zb (zh 0) (zb (dO (.ty "tuple")) zo))))) (dB (dOp zpY (dCB zcu (zb (zh 0) zo)) (dCB zcu (zb (zh 1) zo))))) (zaM (dC (.bool false))) zaG) (zaM (zgK (dCB zt8 (zb (zcq [none] (zbI (zh 0)) (zi 0) zax (zS 1 zah (zb (zh 0) zo))) zo)) (dOp zfr (zh 0) (dCB za7 (zb (zh 1) zo)))))) (zbk S.length R) (xs.map some++List.replicate 0 none) S
def zbo:PN:=fun xs S R=>(zM (zab (zB 0 1 zav (zb (zh 0) zo)) (zi 2)) (zM (zab (zcX zo) (zi 3)) (zM (zfI (zaI (zb (dOp zbK (dC (.int 1)) (zB 0 2 zn (zb (zh 0) (zb (zh 1) zo)))) zo)) (zi 4) (zct (dBM zbs (zh 3) (zb (dOp zbK (zbZ (zb (dOp dIx (zh 2) (zh 4)) zo)) (zB 0 1 zb5 (zb (zh 0) zo))) zo)))) (zaM (dCB za7 (zb (zh 3) zo)))))) (zbk S.length R) (xs.map some++List.replicate 3 none) S
def zeT:PN:=fun xs S R=>(zaM (zbZ (zb (dOp dIx (zh 0) (dC (.int 1))) (zb (dOp dIx (zh 0) (dC (.int 2))) zo)))) (zbk S.length R) (xs.map some++List.replicate 0 none) S
def zaS:PN:=fun xs S R=>(zM (zab (zcX zo) (zi 2)) (zM (zfI (zbI (zh 0)) (zi 3) (zct (dBM zfa (zh 2) (zb (zcq [none,some 3] (zbI (zh 1)) (zi 0) zax (dOp zbK (zh 1) (zbZ (zb (zh 0) zo)))) zo)))) (zaM (zh 2)))) (zbk S.length R) (xs.map some++List.replicate 2 none) S
def zdY:PN:=fun xs S R=>(zaM (dCB zsc (zb (zcq [none,none,some 1] (zbI (dOp dIx (zh 0) (dC (.int 0)))) (zdi 2 (zag (zi 0) (zag (zi 1) zc5))) zax (dOp zfy (zh 1) (dOp dIx (zh 2) (zh 0)))) zo))) (zbk S.length R) (xs.map some++List.replicate 0 none) S
def zhR:PN:=fun xs S R=>(zaM (zkP (dIb fun i j=>decide (i<=j)) (dIb fun i j=>decide (i<=j)) (dOp dIx (zh 0) (dC (.int 1))) (zS 2 zdY (zb (zh 0) (zb (zh 1) zo))) (dOp dIx (zh 0) (dC (.int 2))))) (zbk S.length R) (xs.map some++List.replicate 0 none) S
def zcc:PN:=fun xs S R=>(zaM (dUn (dUI fun i=>-i) (dOp dFd (dUn (dUI fun i=>-i) (zh 0)) (zh 1)))) (zbk S.length R) (xs.map some++List.replicate 0 none) S
def zaU:PN:=fun xs S R=>(zM (zab (zbZ (zb (dC (.int 0)) (zb (dC (.int 0)) zo))) (zi 2)) (zM (zfI (zbI (zh 1)) (zdi 2 (zag (zi 3) (zag (zi 4) zc5))) (zab (zS 2 zlj (zb (zh 2) (zb (zS 2 zcH (zb (zS 1 zeT (zb (dOp dIx (zh 0) (zh 3)) zo)) (zb (zh 4) zo))) zo))) (zi 2))) (zaM (zh 2)))) (zbk S.length R) (xs.map some++List.replicate 3 none) S
def zd0:PN:=fun xs S R=>(zaM (dCB za7 (zb (zcq [none,none] (zbI (zh 0)) (zdi 2 (zag (zi 0) (zag (zi 1) zc5))) zax (zbZ (zb (zh 0) (zb (dUn (dUI fun i=>-i) (zh 1)) zo)))) zo))) (zbk S.length R) (xs.map some++List.replicate 0 none) S
def zaR:PN:=fun xs S R=>(zM (zab (dC (.int 0)) (zi 2)) (zM (zab (dC (.int 0)) (zi 3)) (zM (zfI (zbI (zh 1)) (zdi 2 (zag (zi 4) (zag (zi 5) zc5))) (zM (zab (zfz (zb (dOp zfy (zh 5) (dOp dIx (dOp dIx (zh 0) (zh 4)) (dC (.int 1)))) (zb (dOp zfy (zh 5) (dOp dIx (dOp dIx (zh 0) (zh 4)) (dC (.int 2)))) zo))) (zi 6)) (zM (zab (dOp zbK (zh 2) (dCB zlL (zb (zh 6) zo))) (zi 2)) (zab (dOp zbK (zh 3) (dCB zt0 (zb (zh 6) zo))) (zi 3))))) (zaM (zbZ (zb (zh 2) (zb (zh 3) zo))))))) (zbk S.length R) (xs.map some++List.replicate 5 none) S
def zaA:PN:=fun xs S R=>(zM (zcy (dB (dOp (dIb fun i j=>decide (j<i)) (dOp dIx (zS 2 zaU (zb (zh 0) (zb (zh 1) zo))) (dC (.int 0))) (zh 2))) (zaM (dC .none)) zaG) (zM (zab (dCB zfX (zb (zS 1 zdk (zb (zh 0) zo)) zo)) (zi 3)) (zM (zab (zh 2) (zi 4)) (zM (zfI (zib (zb (zh 1) zo)) (zdi 2 (zag (zi 5) (zag (zi 6) zc5))) (zM (zcy (dB (dOp (dIb fun i j=>decide (i<j)) (dOp dIx (zh 6) (dC (.int 1))) (dC (.int 0)))) (zM (zab (dOp dIx (zS 2 zaU (zb (zh 0) (zb (dSl zmd (zh 1) (ze2 (dOp zbK (zh 5) (dC (.int 1)))) zbT) zo))) (dC (.int 0))) (zi 7)) (zab (dCB (dI2 fun i j=>if j>i then j else i) (zb (dOp dIx (zh 3) (dOp dIx (zh 6) (dC (.int 0)))) (zb (zS 2 zcc (zb (dOp (dI0 fun i j=>i - j) (zh 4) (zh 7)) (zb (dOp dIx (zh 6) (dC (.int 1))) zo))) zo))) (zjS (zh 3) (dOp dIx (zh 6) (dC (.int 0)))))) zaG) (zab (dOp (dI0 fun i j=>i - j) (zh 4) (dOp zfy (dOp dIx (zh 6) (dC (.int 1))) (dOp dIx (zh 3) (dOp dIx (zh 6) (dC (.int 0)))))) (zi 4)))) (zaM (dCB za7 (zb (zh 3) zo))))))) (zbk S.length R) (xs.map some++List.replicate 5 none) S
def zdd:PN:=fun xs S R=>(zaM (zfB [none,some 1] (zbI (zh 0)) (zi 0) zax (zS 2 zhR (zb (zh 0) (zb (zh 1) zo))))) (zbk S.length R) (xs.map some++List.replicate 0 none) S
def zcI:PN:=fun xs S R=>(zM (zab (zcX zo) (zi 2)) (zM (zfI (zaI (zb (dCB zcu (zb (zh 1) zo)) zo)) (zi 3) (zM (zab (dOp (dI0 fun i j=>i - j) (zB 0 2 zn (zb (zh 0) (zb (dC (.int 9)) zo))) (dC (.int 4))) (zi 4)) (zcy (dB (dOp zkO (zh 4) (zbZ (zb (dUn (dUI fun i=>-i) (dC (.int 4))) (zb (dC (.int 0)) (zb (dC (.int 4)) zo)))))) (zct (dBM zbs (zh 2) (zb (zbZ (zb (zh 3) (zb (zh 4) zo))) zo))) zaG))) (zM (zcy (dB (dOp zfr (zh 2) (zfz zo))) (zab (zcX (zb (zbZ (zb (zB 0 2 zn (zb (zh 0) (zb (dCB zcu (zb (zh 1) zo)) zo))) (zb (dOp dIx (zfz (zb (dC (.int 1)) (zb (dUn (dUI fun i=>-i) (dC (.int 1))) (zb (dC (.int 2)) (zb (dUn (dUI fun i=>-i) (dC (.int 3))) zo))))) (zB 0 2 zn (zb (zh 0) (zb (dC (.int 4)) zo)))) zo))) zo)) (zi 2)) zaG) (zM (zab (zlq 2 zaR (zb (zh 1) (zb (zh 2) zo))) (zdi 2 (zag (zi 5) (zag (zi 6) zc5)))) (zM (zab (dOp (dI0 fun i j=>i - j) (zh 6) (zh 5)) (zi 7)) (zM (zab (dOp zbK (zh 5) (dOp dIx (zfz (zb (dC (.int 0)) (zb (dC (.int 1)) (zb (dUn (dUI fun i=>-i) (dC (.int 1))) (zb (dOp dFd (zh 7) (dC (.int 2))) (zb (dOp dFd (zh 7) (dC (.int 3))) (zb (dOp zbK (zh 7) (dC (.int 1))) zo))))))) (zB 0 2 zn (zb (zh 0) (zb (dC (.int 6)) zo))))) (zi 8)) (zM (zab (dOp zbK (zh 8) (dOp dIx (zfz (zb (dC (.int 0)) (zb (dC (.int 1)) (zb (dC (.int 2)) (zb (dOp dFd (zh 7) (dC (.int 2))) (zb (zh 7) (zb (dOp zbK (zh 7) (dC (.int 2))) zo))))))) (zB 0 2 zn (zb (zh 0) (zb (dC (.int 6)) zo))))) (zi 9)) (zaM (zbZ (zb (dCB za7 (zb (zh 2) zo)) (zb (zh 8) (zb (zh 9) zo)))))))))))) (zbk S.length R) (xs.map some++List.replicate 8 none) S
def zbr:PN:=fun xs S R=>(zM (zab (zcX zo) (zi 1)) (zM (zfI (zbI (dOp dIx (zh 0) (dC (.int 1)))) (zdi 3 (zag (zi 2) (zag (zi 3) (zag (zi 4) zc5)))) (zM (zct (dBM zbs (zh 1) (zb (zS 3 zaA (zb (dOp dIx (zh 0) (dC (.int 0))) (zb (zh 2) (zb (dOp (dI0 fun i j=>i - j) (zh 3) (dC (.int 1))) zo)))) zo))) (zct (dBM zbs (zh 1) (zb (zS 3 zaA (zb (dOp dIx (zh 0) (dC (.int 0))) (zb (zS 1 zd0 (zb (zh 2) zo)) (zb (dOp (dI0 fun i j=>i - j) (dUn (dUI fun i=>-i) (zh 4)) (dC (.int 1))) zo)))) zo))))) (zaM (zh 1)))) (zbk S.length R) (xs.map some++List.replicate 4 none) S
def zdL:PN:=fun xs S R=>(zM (zab (zB 0 1 zav (zb (zh 0) zo)) (zi 2)) (zM (zab (zcq [none,some 0] (zaI (zb (dOp zbK (dC (.int 1)) (zB 0 2 zn (zb (zh 0) (zb (zh 1) zo)))) zo)) (zi 0) zax (dOp zbK (dC (.int 1)) (zB 0 2 zn (zb (zh 1) (zb (dC (.int 3)) zo))))) (zi 3)) (zM (zcy (dB (dOp zfr (zB 0 2 zn (zb (zh 0) (zb (dC (.int 12)) zo))) (dC (.int 0)))) (zab (dOp dIx (zfz (zb (dOp zfy (zfz (zb (dC (.int 2)) zo)) (dC (.int 8))) (zb (zfz (zb (dC (.int 17)) (zb (dC (.int 17)) zo))) (zb (zfz (zb (dC (.int 300)) zo)) (zb (dOp zfy (zfz (zb (dC (.int 1)) zo)) (dC (.int 8))) zo))))) (zB 0 2 zn (zb (zh 0) (zb (dC (.int 4)) zo)))) (zi 3)) zaG) (zM (zab (zcX zo) (zi 4)) (zM (zfI (zaI (zb (dCB zcu (zb (zh 3) zo)) zo)) (zi 5) (zM (zab (zB 0 1 zaH (zb (zh 0) zo)) (zi 6)) (zct (dBM zbs (zh 4) (zb (zbZ (zb (dOp dIx (zh 2) (zh 5)) (zb (zh 6) (zb (dOp (dI0 fun i j=>i - j) (dOp zbK (zh 6) (dOp dIx (zh 3) (zh 5))) (dC (.int 1))) zo)))) zo))))) (zaM (dCB za7 (zb (zh 4) zo)))))))) (zbk S.length R) (xs.map some++List.replicate 5 none) S
def zcf:PN:=fun xs S R=>(zM (zab (zfB [none,some 0,some 1] (zaI (zb (dOp zbK (dC (.int 1)) (zB 0 2 zn (zb (zh 0) (zb (zh 2) zo)))) zo)) (zi 0) zax (zB 0 2 zcI (zb (zh 1) (zb (zh 2) zo)))) (zi 3)) (zM (zcy (zsk (dB (dOp zfr (zB 0 2 zn (zb (zh 0) (zb (dC (.int 3)) zo))) (dC (.int 0)))) (dB (dOp (dIb fun i j=>decide (j<i)) (dCB zcu (zb (zh 3) zo)) (dC (.int 1))))) (zab (zbZ (zb (dOp dIx (dOp dIx (zh 3) (dC (.int 0))) (dC (.int 0))) (zb (dOp zbK (dOp dIx (dOp dIx (zh 3) (dC (.int 0))) (dC (.int 2))) (dC (.int 1))) (zb (dOp zbK (dOp zbK (dOp dIx (dOp dIx (zh 3) (dC (.int 0))) (dC (.int 2))) (dC (.int 1))) (zB 0 2 zn (zb (zh 0) (zb (dC (.int 3)) zo)))) zo)))) (zjS (zh 3) (dUn (dUI fun i=>-i) (dC (.int 1))))) zaG) (zaM (dCB za7 (zb (zh 3) zo))))) (zbk S.length R) (xs.map some++List.replicate 1 none) S
def zdG:PN:=fun xs S R=>(zM (zab (zcq [none] (zbI (zS 1 zbr (zb (zh 0) zo))) (zi 0) (dB (dOp zmy (zh 0) (dC .none))) (zh 0)) (zi 1)) (zM (zcy (zkg (zid (zh 1))) (zaM (dC .none)) zaG) (zM (zab (dCB zlL (zb (zh 1) zo)) (zi 2)) (zaM (zbZ (zb (zh 2) (zb (zsa zjn (zS 2 zdd (zb (dOp dIx (zh 0) (dC (.int 1))) (zb (zh 2) zo))) (zb (dC (.bool false)) zo)) zo))))))) (zbk S.length R) (xs.map some++List.replicate 2 none) S
def zbg:PN:=fun xs S R=>(zaM (zfB [none] (zbI (zh 0)) (zi 0) zax (dCB zcu (zb (zh 0) zo)))) (zbk S.length R) (xs.map some++List.replicate 0 none) S
def zaX:PN:=fun xs S R=>(zaM (dCB zsc (zb (zcq [none,none] (zhm (zb (zh 0) (zb (zh 1) zo))) (zdi 2 (zag (zi 0) (zag (zi 1) zc5))) zax (dOp dIx (dOp dIx (zh 0) (zh 1)) (dC (.int 2)))) zo))) (zbk S.length R) (xs.map some++List.replicate 0 none) S
def zbF:PN:=fun xs S R=>(zM (zab (zcq [none,none] (zhm (zb (zh 1) (zb (zh 2) zo))) (zdi 2 (zag (zi 0) (zag (zi 1) zc5))) zax (dOp dIx (zh 0) (zh 1))) (zi 3)) (zaM (dCB za7 (zb (zcq [none,none] (zhm (zb (zh 0) (zb (zh 3) zo))) (zdi 2 (zag (zi 0) (zag (zi 1) zc5))) zax (zbZ (zb (dOp dIx (zh 0) (dC (.int 0))) (zb (dOp dIx (zh 1) (dC (.int 0))) (zb (dOp dIx (zh 1) (dC (.int 1))) zo))))) zo)))) (zbk S.length R) (xs.map some++List.replicate 1 none) S
def zbM:PN:=fun xs S R=>(zM (zab (zcX zo) (zi 2)) (zM (zab (dOp dIx (zfz (zb (dC (.int 4)) (zb (dC (.int 4)) (zb (dC (.int 4)) (zb (dOp (dI CPow fun i j=>i ^ j.toNat) (dC (.int 10)) (dC (.int 50))) zo))))) (zB 0 2 zn (zb (zh 0) (zb (dC (.int 4)) zo)))) (zi 3)) (zM (zfI (zbI (zh 1)) (zdi 3 (zag (zi 4) (zag (zi 5) (zag (zi 6) zc5)))) (zM (zab (zcX (zb (zbZ (zb (zh 5) (zb (zh 6) (zb (dC (.int 0)) zo)))) zo)) (zi 7)) (zM (zfI (zaI (zb (zB 0 2 zn (zb (zh 0) (zb (dC (.int 4)) zo))) zo)) (zi 8) (zM (zab (dOp dIx (zh 7) (dUn (dUI fun i=>-i) (dC (.int 1)))) (zdi 3 (zag (zi 9) (zag (zi 10) (zag (zi 11) zc5))))) (zcy (dB (dOp (dIb fun i j=>decide (i<j)) (zh 9) (zh 10))) (zM (zab (dOp zbK (zh 9) (zB 0 2 zn (zb (zh 0) (zb (dOp zbK (dCB (dI2 fun i j=>if j<i then j else i) (zb (dOp (dI0 fun i j=>i - j) (zh 10) (zh 9)) (zb (dC (.int 3)) zo))) (dC (.int 1))) zo)))) (zi 12)) (zM (zab (dCB (dI2 fun i j=>if j>i then j else i) (zb (zh 12) (zb (dOp (dI0 fun i j=>i - j) (zh 10) (zB 0 2 zn (zb (zh 0) (zb (dC (.int 3)) zo)))) zo))) (zi 13)) (zM (zcy (zsk (dB (dOp zfr (zh 12) (zh 9))) (dB (dOp zfr (zh 13) (zh 10)))) (zab (dOp zbK (zh 9) (dC (.int 1))) (zi 12)) zaG) (zct (dBM zbs (zh 7) (zb (zbZ (zb (zh 12) (zb (zh 13) (zb (dOp zbK (dOp zbK (zh 11) (dC (.int 1))) (zB 0 2 zn (zb (zh 0) (zb (zh 3) zo)))) zo)))) zo)))))) zaG))) (zct (dBM zbs (zh 2) (zb (dCB za7 (zb (zh 7) zo)) zo)))))) (zaM (dCB za7 (zb (zh 2) zo)))))) (zbk S.length R) (xs.map some++List.replicate 12 none) S
def zb9:PN:=fun xs S R=>(zM (zab (zfz (zb (zbZ zo) zo)) (zi 1)) (zM (zfI (zbI (zh 0)) (zi 2) (zM (zt6 (zM (zab (zcX zo) (zi 3)) (zfI (zbI (zh 1)) (zi 4) (zct (dBM zfa (zh 3) (zb (zcq [none,some 4] (zaI (zb (dCB zcu (zb (zh 2) zo)) zo)) (zi 0) zax (dOp zbK (zh 1) (zbZ (zb (zh 0) zo)))) zo)))))) (zab (zh 3) (zi 1)))) (zaM (zh 1)))) (zbk S.length R) (xs.map some++List.replicate 4 none) S
def zbW:PN:=fun xs S R=>(zaM (dCB zsc (zb (zcq [none,some 0,some 1] (zaI (zb (dCB zcu (zb (zh 1) zo)) zo)) (zi 0) zax (dOp dIx (dOp dIx (dOp dIx (zh 1) (zh 0)) (dOp dIx (zh 2) (zh 0))) (dC (.int 2)))) zo))) (zbk S.length R) (xs.map some++List.replicate 0 none) S
def zaE:PN:=fun xs S R=>(zaM (dCB za7 (zb (zcq [none,some 0,some 1,some 2] (zaI (zb (dCB zcu (zb (zh 0) zo)) zo)) (zi 0) zax (dOp zbK (zbZ (zb (dOp dIx (dOp dIx (zh 1) (zh 0)) (dC (.int 0))) zo)) (dSl zmd (dOp dIx (dOp dIx (zh 2) (zh 0)) (dOp dIx (zh 3) (zh 0))) zbT (ze2 (dC (.int 2)))))) zo))) (zbk S.length R) (xs.map some++List.replicate 0 none) S
def zc9:PN:=fun xs S R=>(zM (zab (zS 3 zaE (zb (zh 0) (zb (zh 2) (zb (zh 3) zo)))) (zi 4)) (zM (zfI (zbI (zh 1)) (zi 5) (zM (zab (zS 2 zaR (zb (zh 4) (zb (dOp dIx (zh 5) (dC (.int 0))) zo))) (zdi 2 (zag (zi 6) (zag (zi 7) zc5)))) (zcy (dOr (dB (dOp (dIb fun i j=>decide (i<j)) (zh 6) (dOp dIx (zh 5) (dC (.int 1))))) (dB (dOp (dIb fun i j=>decide (j<i)) (zh 7) (dOp dIx (zh 5) (dC (.int 2)))))) (zaM (dC (.bool false))) zaG))) (zaM (dC (.bool true))))) (zbk S.length R) (xs.map some++List.replicate 4 none) S
def zbC:PN:=fun xs S R=>(zM (zab (dCB zfX (zb (zB 0 3 zcf (zb (zh 0) (zb (zh 1) (zb (zh 3) zo)))) zo)) (zi 4)) (zM (zcy (dB (dOp (dIb fun i j=>decide (j<i)) (zB 0 2 zn (zb (zh 0) (zb (dC (.int 3)) zo))) (dC (.int 0)))) (zM (zab (dCB za7 (zb (zcq [none,some 0] (zbI (zh 2)) (zi 0) zax (zB 0 2 zn (zb (zh 1) (zb (dCB zcu (zb (zh 0) zo)) zo)))) zo)) (zi 5)) (zM (zab (zS 3 zaE (zb (zh 1) (zb (zh 2) (zb (zh 5) zo)))) (zi 6)) (zfI (zaI (zb (dCB zcu (zb (zh 4) zo)) zo)) (zi 7) (zM (zab (zS 2 zaR (zb (zh 6) (zb (dOp dIx (dOp dIx (zh 4) (zh 7)) (dC (.int 0))) zo))) (zdi 2 (zag (zi 8) (zag (zi 9) zc5)))) (zab (zbZ (zb (dOp dIx (dOp dIx (zh 4) (zh 7)) (dC (.int 0))) (zb (dOp (dI0 fun i j=>i - j) (zh 8) (zB 0 2 zn (zb (zh 0) (zb (dC (.int 2)) zo)))) (zb (dOp zbK (zh 9) (zB 0 2 zn (zb (zh 0) (zb (dC (.int 2)) zo)))) zo)))) (zjS (zh 4) (zh 7))))))) zaG) (zaM (dCB za7 (zb (zh 4) zo))))) (zbk S.length R) (xs.map some++List.replicate 6 none) S
def zjO:PN:=fun xs S R=>(zaM (dOp zqs (zS 1 zdG (zb (zbZ (zb (zS 3 zbF (zb (dOp dIx (zh 0) (dC (.int 0))) (zb (zh 1) (zb (zh 2) zo)))) (zb (dOp dIx (zh 0) (dC (.int 1))) zo))) zo)) (dC .none))) (zbk S.length R) (xs.map some++List.replicate 0 none) S
def zaT:PN:=fun xs S R=>(zM (zab (dC (.int 1)) (zi 2)) (zM (zfI (zbI (dSl zmd (zh 0) (ze2 (dCB zcu (zb (zh 1) zo))) zbT)) (zi 3) (zab (dOp zfy (zh 2) (zh 3)) (zi 2))) (zaM (zh 2)))) (zbk S.length R) (xs.map some++List.replicate 2 none) S
def zbJ:PN:=fun xs S R=>(zM (zab (zfz (zb (zbZ zo) zo)) (zi 1)) (zM (zfI (zbI (zh 0)) (zi 2) (zab (zS 2 zaS (zb (zh 1) (zb (zlg (zb (zh 2) zo)) zo))) (zi 1))) (zaM (zh 1)))) (zbk S.length R) (xs.map some++List.replicate 2 none) S
def zdh:PN:=fun xs S R=>(zM (zab (zcq [none] (zbI (zS 1 zbg (zb (zh 1) zo))) (zi 0) zax (dOp (dI0 fun i j=>i - j) (zh 0) (dC (.int 1)))) (zi 3)) (zaM (zS 3 zbF (zb (zh 0) (zb (zh 1) (zb (dOp zbK (zh 2) (dCB za7 (zb (dSl zmd (zh 3) (ze2 (dCB zcu (zb (zh 2) zo))) zbT) zo))) zo)))))) (zbk S.length R) (xs.map some++List.replicate 1 none) S
def zff:PN:=fun xs S R=>(zM (zab (zS 3 zaE (zb (zh 0) (zb (zh 2) (zb (zh 3) zo)))) (zi 4)) (zM (zfI (zbI (zh 1)) (zi 5) (zM (zab (zS 2 zaR (zb (zh 4) (zb (dOp dIx (zh 5) (dC (.int 0))) zo))) (zdi 2 (zag (zi 6) (zag (zi 7) zc5)))) (zcy (dOr (dB (dOp (dIb fun i j=>decide (i<j)) (zh 6) (dOp dIx (zh 5) (dC (.int 1))))) (dB (dOp (dIb fun i j=>decide (j<i)) (zh 7) (dOp dIx (zh 5) (dC (.int 2)))))) (zaM (dC (.bool false))) zaG))) (zaM (dC (.bool true))))) (zbk S.length R) (xs.map some++List.replicate 4 none) S
def zbc:PN:=fun xs S R=>(zM (zab (zS 2 zaT (zb (zh 0) (zb (zbZ zo) zo))) (zi 1)) (zcy (dB (dOp (dIb fun i j=>decide (j<i)) (zh 1) (dC (.int 300)))) zln zaG)) (zbk S.length R) (xs.map some++List.replicate 1 none) S
def zai:PX:=fun xs S R EX=>(zM (zab (zS 2 zaT (zb (zh 0) (zb (zbZ zo) zo))) (zi 1)) (zcy (dB (dOp (dIb fun i j=>decide (j<i)) (zh 1) (dC (.int 300)))) (zie EX 180 ["many","most"] (zb (zh 1) (zb (dC (.int 300)) zo))) zaG)) (zbk S.length R) (xs.map some++List.replicate 1 none) S
def zbB:PN:=fun xs S R=>(zM (zab (dC .none) (zi 3)) (zM (zfI (zbI (zS 1 zb9 (zb (zh 2) zo))) (zi 4) (zcy (zid (zS 4 zff (zb (zh 0) (zb (zh 1) (zb (zh 2) (zb (zh 4) zo)))))) (zM (zab (zbZ (zb (zS 2 zbW (zb (zh 2) (zb (zh 4) zo))) (zb (zh 4) zo))) (zi 5)) (zcy (dOr (dB (dOp zqs (zh 3) (dC .none))) (dB (dOp zoO (zh 5) (zh 3)))) (zab (zh 5) (zi 3)) zaG)) zaG)) (zaM (zh 3)))) (zbk S.length R) (xs.map some++List.replicate 3 none) S
def zcg:PN:=fun xs S R=>(zM (zab (zB 0 1 zav (zb (zh 0) zo)) (zi 1)) (zM (zab (zcX zo) (zi 2)) (zM (zab (zcX zo) (zi 3)) (zM (zfI (zaI (zb (dOp zbK (dC (.int 5)) (zB 0 2 zn (zb (zh 0) (zb (dC (.int 4)) zo)))) zo)) (zi 4) (zM (zab (dOp (dI0 fun i j=>i - j) (zB 0 2 zn (zb (zh 0) (zb (dC (.int 9)) zo))) (dC (.int 4))) (zi 5)) (zM (zct (dBM zbs (zh 2) (zb (zbZ (zb (dOp dIx (zh 1) (zh 4)) (zb (zh 5) (zb (dOp zbK (zh 5) (dC (.int 9))) zo)))) zo))) (zM (zab (zbZ (zb (zbZ (zb (zh 5) (zb (dOp zbK (zh 5) (dC (.int 9))) (zb (dC (.int 0)) zo)))) (zb (zbZ (zb (zh 5) (zb (dOp zbK (zh 5) (dC (.int 8))) (zb (dC (.int 1)) zo)))) (zb (zbZ (zb (dOp zbK (zh 5) (dC (.int 1))) (zb (dOp zbK (zh 5) (dC (.int 8))) (zb (dC (.int 3)) zo)))) (zb (zbZ (zb (dOp zbK (zh 5) (dC (.int 1))) (zb (dOp zbK (zh 5) (dC (.int 7))) (zb (dC (.int 4)) zo)))) zo))))) (zi 6)) (zct (dBM zbs (zh 3) (zb (dSl zr7 (zh 6) zbT (ze2 (dOp (dI0 fun i j=>i - j) (dC (.int 4)) (zB 0 2 zn (zb (zh 0) (zb (dC (.int 2)) zo)))))) zo))))))) (zaM (zbZ (zb (dCB za7 (zb (zh 2) zo)) (zb (dCB za7 (zb (zh 3) zo)) zo)))))))) (zbk S.length R) (xs.map some++List.replicate 6 none) S
def zeG:PN:=fun xs S R=>(zM (zcy (dB (dOp (dIb fun i j=>decide (j<=i)) (zS 2 zaX (zb (zh 1) (zb (zh 3) zo))) (zh 2))) (zaM (zbZ (zb (dC (.str "dear")) zo))) zaG) (zM (zab (zS 1 zdG (zb (zbZ (zb (zS 3 zdh (zb (dOp dIx (zh 0) (dC (.int 0))) (zb (zh 1) (zb (zh 3) zo)))) (zb (dOp dIx (zh 0) (dC (.int 1))) zo))) zo)) (zi 4)) (zaM (dIf (dB (dOp zqs (zh 4) (dC .none))) (dC .none) (zbZ (zb (dC (.str "breaks")) (zb (dOp dIx (zh 4) (dC (.int 1))) (zb (dOp dIx (zh 4) (dC (.int 0))) zo)))))))) (zbk S.length R) (xs.map some++List.replicate 1 none) S
def zbp(F:Addr)(ql:PN):PN:=fun xs S R=>(zM (zab (zcX zo) (zi 2)) (zM (zab (zcX (zb (zbZ zo) zo)) (zi 3)) (zM (zqt (zid (zh 3)) (zM (zab (ztW zud (zh 3)) (zi 4)) (zM (zab (zkS 1 F 1 ql (zb (zh 4) zo)) (zi 5)) (zcy (dB (dOp zmy (zh 5) (dC .none))) (zct (dBM zbs (zh 2) (zb (zbZ (zb (zh 4) (zb (zh 5) zo))) zo))) (zcy (dB (dOp zfr (dCB zcu (zb (zh 4) zo)) (dCB zcu (zb (zh 0) zo)))) (zaM (dC .none)) (zct (dBM zfa (zh 3) (zb (zS 2 zaS (zb (zfz (zb (zh 4) zo)) (zb (zk0 (zb (dOp (dI0 fun i j=>i - j) (dOp dIx (zh 0) (dCB zcu (zb (zh 4) zo))) (dC (.int 1))) (zb (dUn (dUI fun i=>-i) (dC (.int 1))) (zb (dUn (dUI fun i=>-i) (dC (.int 1))) zo)))) zo))) zo)))))))) (zaM (zh 2))))) (zbk S.length R) (xs.map some++List.replicate 4 none) S
def zcZ:PN:=fun xs S R=>(zM (zct (zS 1 zbc (zb (zS 1 zbg (zb (zh 1) zo)) zo))) (zM (zab (zcq [none,some 0,some 1] (zbI (zS 1 zbJ (zb (zS 1 zbg (zb (zh 1) zo)) zo))) (zi 0) (zid (zS 3 zjO (zb (zh 1) (zb (zh 2) (zb (zh 0) zo))))) (zh 0)) (zi 2)) (zaM (zgP [1] (zh 2) (zS 2 zaX (zb (zh 1) (zb (zh 0) zo))))))) (zbk S.length R) (xs.map some++List.replicate 1 none) S
def zcj:PX:=fun xs S R EX=>(zM (zct (zjQ EX 1 zai (zb (zS 1 zbg (zb (zh 1) zo)) zo))) (zM (zab (zcq [none,some 0,some 1] (zbI (zS 1 zbJ (zb (zS 1 zbg (zb (zh 1) zo)) zo))) (zi 0) (zid (zS 3 zjO (zb (zh 1) (zb (zh 2) (zb (zh 0) zo))))) (zh 0)) (zi 2)) (zaM (zgP [1] (zh 2) (zS 2 zaX (zb (zh 1) (zb (zh 0) zo))))))) (zbk S.length R) (xs.map some++List.replicate 1 none) S
def za8:PN:=fun xs S R=>(zM (zab (zS 2 zcZ (zb (zh 0) (zb (zh 1) zo))) (zi 3)) (zM (zcy (dB (dOp zqs (zh 2) (dC .none))) (zaM (dOp zqs (zh 3) (dC .none))) zaG) (zaM (zS 2 zbU (zb (zh 3) (zb (dOp dIx (zh 2) (dC (.int 1))) zo)))))) (zbk S.length R) (xs.map some++List.replicate 1 none) S
def zcl:PX:=fun xs S R EX=>(zM (zab (zS 1 zbg (zb (zh 1) zo)) (zi 3)) (zM (zct (zjQ EX 1 zai (zb (zh 3) zo))) (zaM (ziy [0,1,2] zbp (zS 4 zeG (zb (zh 1) (zb (zh 2) (zb (zh 3) (zb (zh 0) zo))))) (zh 3))))) (zbk S.length R) (xs.map some++List.replicate 1 none) S
def zaV:PN:=fun xs S R=>(zM (zab (dC (.int 1)) (zi 3)) (zM (zfI (zbI (zh 2)) (zi 4) (zab (dOp zfy (zh 3) (dCB zcu (zb (zh 4) zo))) (zi 3))) (zM (zcy (dB (dOp zfr (zh 0) (dC (.int 0)))) (znN knD 2 zcj (zb (zh 1) (zb (zh 2) zo)) 5 (zM (zcy (dOr (dB (dOp zpY (zhG zch (zb (zh 5) zo)) (dC (.str "great")))) (dOr (zkg (zid (zS 1 zah (zb (dXA [180] (zh 5) "many") zo)))) (zkg (zid (zS 1 zah (zb (dXA [180] (zh 5) "most") zo)))))) (zaM (dC (.bool false))) zaG) (zaM (zgK (dOp (dIb fun i j=>decide (j<i)) (zh 3) (dC (.int 300))) (zgK (dOp zfr (dXA [180] (zh 5) "many") (zh 3)) (dOp zfr (dXA [180] (zh 5) "most") (dC (.int 300)))))))) (znN knD 3 zcl (zb (zh 1) (zb (zh 2) (zb (dC (.int 5)) zo))) 5 (zM (zcy (dOr (dB (dOp zpY (zhG zch (zb (zh 5) zo)) (dC (.str "great")))) (dOr (zkg (zid (zS 1 zah (zb (dXA [180] (zh 5) "many") zo)))) (zkg (zid (zS 1 zah (zb (dXA [180] (zh 5) "most") zo)))))) (zaM (dC (.bool false))) zaG) (zaM (zgK (dOp (dIb fun i j=>decide (j<i)) (zh 3) (dC (.int 300))) (zgK (dOp zfr (dXA [180] (zh 5) "many") (zh 3)) (dOp zfr (dXA [180] (zh 5) "most") (dC (.int 300))))))))) (zaM (dOp (dIb fun i j=>decide (i<=j)) (zh 3) (dC (.int 300))))))) (zbk S.length R) (xs.map some++List.replicate 3 none) S
def zrm:DS:=(zM (zab (zS 1 zb4 (zb (zh 1) zo)) (zi 2)) (zM (zab (dIf (dB (dOp zfr (zB 0 2 zn (zb (zh 2) (zb (dC (.int 2)) zo))) (dC (.int 0)))) (zB 0 2 zdL (zb (zh 2) (zb (dC (.int 4)) zo))) (zB 0 2 zbo (zb (zh 2) (zb (dC (.int 4)) zo)))) (zi 3)) (zM (zab (dSl zr7 (zh 3) zbT (ze2 (dC (.int 4)))) (zi 3)) (zM (zcy (dB (dOp zfr (zB 0 2 zn (zb (zh 2) (zb (dC (.int 6)) zo))) (dC (.int 0)))) (zab (zB 0 2 zbo (zb (zh 2) (zb (dC (.int 8)) zo))) (zi 3)) zaG) (zM (zab (zB 0 2 zbM (zb (zh 2) (zb (zh 3) zo))) (zi 4)) (zM (zcy (dB (dOp (dIb fun i j=>decide (j<i)) (dCB zcu (zb (zh 3) zo)) (dC (.int 4)))) (zab (dCB za7 (zb (zcq [none] (zbI (zh 4)) (zi 0) zax (dSl zr7 (zh 0) zbT (ze2 (dC (.int 2))))) zo)) (zi 4)) zaG) (zM (zab (zB 0 4 zbC (zb (zh 2) (zb (zh 3) (zb (zh 4) (zb (dC (.int 3)) zo))))) (zi 5)) (zM (zab (zS 3 zbB (zb (zh 3) (zb (zh 5) (zb (zh 4) zo)))) (zi 6)) (zcy (zkg (zid (zS 3 za8 (zb (zbZ (zb (zh 3) (zb (zh 5) zo))) (zb (zh 4) (zb (zh 6) zo)))))) (zaM (dC (.bool false))) zaG)))))))))
def zic(c:Int):DS:=(zM (zab (zB 0 1 zcg (zb (zS 1 zb4 (zb (dC (.int c)) zo)) zo)) (zdi 2 (zag (zi 7) (zag (zi 8) zc5)))) (zM (zab (zbZ (zb (zh 7) (zb (zbZ (zb (zbZ (zb (zbZ (zb (zbZ (zb (dC (.int 0)) (zb (dC (.int 1)) zo))) zo)) (zb (dUn (dUI fun i=>-i) (dC (.int 5))) (zb (dC (.int 5)) zo)))) zo)) zo))) (zi 9)) (zM (zcy (dOr (zkg (zid (zS 3 zaV (zb (dC (.int 0)) (zb (zh 9) (zb (zh 8) zo)))))) (zkg (zid (zS 3 zaV (zb (dC (.int 1)) (zb (zh 9) (zb (zh 8) zo))))))) (zaM (dC (.bool false))) zaG) (zaM (zS 3 za8 (zb (zbZ (zb (zh 3) (zb (zh 5) zo))) (zb (zh 4) (zb (zh 6) zo))))))))
end My
namespace My
open PySem L2
theorem seq1{t u:DS}{E:DEnds}{δ:XE}{S:Sto}(h:t { E with nx:=u E } δ S):zM t u E δ S:=h
theorem cut{t u:DS}{E:DEnds}{δ:XE}{S:Sto}(I:XE->Sto->Prop)(h1:∀ N:XE->Sto->Prop,(∀ δ' S',I δ' S'->N δ' S')->t { E with nx:=N } δ S)(h2:∀ δ' S',I δ' S'->u E δ' S'):zM t u E δ S:=h1 _ h2
theorem zgl(i j:Int):PyData.eqv (.int i) (.int j)=decide (i=j):=rfl
theorem zto(i:Int):SeqAt.shaped (.int i)=true:=rfl
theorem ztL(i:Bool):SeqAt.shaped (.bool i)=true:=rfl
theorem zmw:("int" ∈ zpt)=True:=eq_true dz
theorem zk1:("bool" ∈ zpt)=True:=eq_true dz
theorem zji:("tuple" ∈ zpt)=True:=eq_true dz
theorem zkU:("list" ∈ zpt)=True:=eq_true dz
end My
namespace My
open PySem L2
local macro_rules | `(tactic| walk_at "d")=>`(tactic| (try simp only [zab,ziy,zr9,zoO,ztn,zlg,zk0,zgP,zkS,XV.flat,all_cons,List.all_nil,Bool.and_self,knD,zie,dXA,zjQ,znN,zu0,ztQ,zp6,zu7,zs2,zn4,zhG,zh8,zqU,zsH,zpV,zuY,zr7,zi,zh,dC,dO,dOp,dUn,zo,zb,dCB,zbZ,zfz,zcX,dB,zkg,zsk,dOr,zgK,zvd,zoG,dIf,zkP,dI,dI0,dIb,dUI,zfr,zpY,zqs,zmy,zsT,zs9,zsX,ztY,zqM,zqv,zql,zqd,zqy,zqm,znj,zqa,zqW,zqw,dFd,zid,zqx,zqF,zp0,zbT,ze2,dSl,zcu,znb,zpX,zqo,zr8,zpM,dI2,za7,zfX,dBM,ztW,zua,zsa,zbs,zfN,zfa,zud,zpv,zjn,zpO,zsc,zt8,zS,zB,zlq,zqR,zi6,zfk,zkI,zsr,ztu,zsS,zst,asL,zqD,zsf,zsD,ztf,ztk,zmM,zoi,zqK,zqC,zqk,zti,zsC,zn7,znQ,zqu,zqN,zpW,zqA,zaM,zcy,zct,zaG,zln,zfI,zbI,zp1,zpU,zaI,znA,zib,zhm,zdi,zag,ztK,zsJ,ztx,ztP,ztj,zsz,zc5,zjS,zcq,zfB,zax,zqQ,zt6,zf1,zkE,zlf,zkX,zjI,zhx,List.replicate,map_cons,map_nil,map_some,Option.bind_some,Option.bind_none,Option.join_some,getElem?_cons_zero,getElem?_cons_succ,set_cons_zero,set_cons_succ,List.take_succ_cons,take_zero,List.take_nil,length_cons,length_nil,nil_append,cons_append,Option.some.injEq,exists_eq_left',exists_eq_left,List.cons.injEq,XV.d.injEq,XV.l.injEq,XV.o.injEq,PyData.int.injEq,PyData.list.injEq,PyData.tuple.injEq,PyData.bool.injEq,PyData.str.injEq,and_true,true_and,decide_eq_true_eq,Bool.not_true,Bool.not_false,Bool.false_eq_true,Bool.true_eq_false,not_true_eq_false,not_false_eq_true,↓reduceIte,decide_true,decide_false,Bool.not_eq_true',zm1,decide_eq_false_iff_not,Nat.reduceAdd,Nat.reduceMul,zero_add,Nat.reduceLT,Nat.reduceLeDiff,Nat.reduceEqDiff,Int.reduceLT,Int.reduceLE,Int.reduceNeg,Int.reducePow,Int.reduceToNat,Int.reduceEq,Int.reduceAdd,Int.reduceSub,Int.reduceMul,le_refl,zero_le,length_append,length_map,zgl,zto,ztL,List.isEmpty_nil,List.isEmpty_cons,Int.cast_ofNat_Int,Int.natCast_zero,Int.natCast_one,zmw,zk1,zji,zkU,zmN,zk6,zjs,zlh]))
local macro_rules | `(tactic| walk_at "n")=>`(tactic| (refine seq1 ?_; walk_at "d"))
local macro_rules | `(tactic| walk_at "dX")=>`(tactic| (try simp -implicitDefEqProofs only [zab,ziy,zr9,zoO,ztn,zlg,zk0,zgP,zkS,XV.flat,all_cons,List.all_nil,Bool.and_self,knD,zie,dXA,zjQ,znN,zu0,ztQ,zp6,zu7,zs2,zn4,zhG,zh8,zqU,zsH,zpV,zuY,zr7,zi,zh,dC,dO,dOp,dUn,zo,zb,dCB,zbZ,zfz,zcX,dB,zkg,zsk,dOr,zgK,zvd,zoG,dIf,zkP,dI,dI0,dIb,dUI,zfr,zpY,zqs,zmy,zsT,zs9,zsX,ztY,zqM,zqv,zql,zqd,zqy,zqm,znj,zqa,zqW,zqw,dFd,zid,zqx,zqF,zp0,zbT,ze2,dSl,zcu,znb,zpX,zqo,zr8,zpM,dI2,za7,zfX,dBM,ztW,zua,zsa,zbs,zfN,zfa,zud,zpv,zjn,zpO,zsc,zt8,zS,zB,zlq,zqR,zi6,zfk,zkI,zsr,ztu,zsS,zst,asL,zqD,zsf,zsD,ztf,ztk,zmM,zoi,zqK,zqC,zqk,zti,zsC,zn7,znQ,zqu,zqN,zpW,zqA,zaM,zcy,zct,zaG,zln,zfI,zbI,zp1,zpU,zaI,znA,zib,zhm,zdi,zag,ztK,zsJ,ztx,ztP,ztj,zsz,zc5,zjS,zcq,zfB,zax,zqQ,zt6,zf1,zkE,zlf,zkX,zjI,zhx,List.replicate,map_cons,map_nil,map_some,Option.bind_some,Option.bind_none,Option.join_some,getElem?_cons_zero,getElem?_cons_succ,set_cons_zero,set_cons_succ,List.take_succ_cons,take_zero,List.take_nil,length_cons,length_nil,nil_append,cons_append,Option.some.injEq,exists_eq_left',exists_eq_left,List.cons.injEq,XV.d.injEq,XV.l.injEq,XV.o.injEq,PyData.int.injEq,PyData.list.injEq,PyData.tuple.injEq,PyData.bool.injEq,PyData.str.injEq,and_true,true_and,decide_eq_true_eq,Bool.not_true,Bool.not_false,Bool.false_eq_true,Bool.true_eq_false,not_true_eq_false,not_false_eq_true,↓reduceIte,decide_true,decide_false,Bool.not_eq_true',zm1,decide_eq_false_iff_not,Nat.reduceAdd,Nat.reduceMul,zero_add,Nat.reduceLT,Nat.reduceLeDiff,Nat.reduceEqDiff,Int.reduceLT,Int.reduceLE,Int.reduceNeg,Int.reducePow,Int.reduceToNat,Int.reduceEq,Int.reduceAdd,Int.reduceSub,Int.reduceMul,le_refl,zero_le,length_append,length_map,zgl,zto,ztL,List.isEmpty_nil,List.isEmpty_cons,Int.cast_ofNat_Int,Int.natCast_zero,Int.natCast_one,zmw,zk1,zji,zkU,zmN,zk6,zjs,zlh]))
local macro_rules | `(tactic| walk_at "e")=>`(tactic| (try simp only [zM,zab,ziy,zr9,zoO,ztn,zlg,zk0,zgP,zkS,XV.flat,all_cons,List.all_nil,Bool.and_self,knD,zie,dXA,zjQ,znN,zu0,ztQ,zp6,zu7,zs2,zn4,zhG,zh8,zqU,zsH,zpV,zuY,zr7,zi,zh,dC,dO,dOp,dUn,zo,zb,dCB,zbZ,zfz,zcX,dB,zkg,zsk,dOr,zgK,zvd,zoG,dIf,zkP,dI,dI0,dIb,dUI,zfr,zpY,zqs,zmy,zsT,zs9,zsX,ztY,zqM,zqv,zql,zqd,zqy,zqm,znj,zqa,zqW,zqw,dFd,zid,zqx,zqF,zp0,zbT,ze2,dSl,zcu,znb,zpX,zqo,zr8,zpM,dI2,za7,zfX,dBM,ztW,zua,zsa,zbs,zfN,zfa,zud,zpv,zjn,zpO,zsc,zt8,zS,zB,zlq,zqR,zi6,zfk,zkI,zsr,ztu,zsS,zst,asL,zqD,zsf,zsD,ztf,ztk,zmM,zoi,zqK,zqC,zqk,zti,zsC,zn7,znQ,zqu,zqN,zpW,zqA,zaM,zcy,zct,zaG,zln,zfI,zbI,zp1,zpU,zaI,znA,zib,zhm,zdi,zag,ztK,zsJ,ztx,ztP,ztj,zsz,zc5,zjS,zcq,zfB,zax,zqQ,zt6,zf1,zkE,zlf,zkX,zjI,zhx,List.replicate,map_cons,map_nil,map_some,Option.bind_some,Option.bind_none,Option.join_some,getElem?_cons_zero,getElem?_cons_succ,set_cons_zero,set_cons_succ,List.take_succ_cons,take_zero,List.take_nil,length_cons,length_nil,nil_append,cons_append,Option.some.injEq,exists_eq_left',exists_eq_left,List.cons.injEq,XV.d.injEq,XV.l.injEq,XV.o.injEq,PyData.int.injEq,PyData.list.injEq,PyData.tuple.injEq,PyData.bool.injEq,PyData.str.injEq,and_true,true_and,decide_eq_true_eq,Bool.not_true,Bool.not_false,Bool.false_eq_true,Bool.true_eq_false,not_true_eq_false,not_false_eq_true,↓reduceIte,decide_true,decide_false,Bool.not_eq_true',zm1,decide_eq_false_iff_not,Nat.reduceAdd,Nat.reduceMul,zero_add,Nat.reduceLT,Nat.reduceLeDiff,Nat.reduceEqDiff,Int.reduceLT,Int.reduceLE,Int.reduceNeg,Int.reducePow,Int.reduceToNat,Int.reduceEq,Int.reduceAdd,Int.reduceSub,Int.reduceMul,le_refl,zero_le,length_append,length_map,zgl,zto,ztL,List.isEmpty_nil,List.isEmpty_cons,Int.cast_ofNat_Int,Int.natCast_zero,Int.natCast_one,zmw,zk1,zji,zkU,zmN,zk6,zjs,zlh]))
section
variable {R:RX}
theorem zgs{n:Int}(q:∀ m,0<=m->R (.d (.int m)) []):zc0 [.d (.int n)] [] R:=by
 unfold zc0;walk_at "e";have h1:=Int.emod_nonneg (n+7919) (show (2147483647:Int)≠0 by decide);have h2:=Int.emod_lt_of_pos (n+7919) (show (0:Int)<2147483647 by decide);exact⟨zd5 (by omega) (by omega),zd5 dz dz,q _ (Int.emod_nonneg _ dz)⟩
theorem zq{p:List PyData}{n:Int}(hp:zY p)(hn:0<n)(hb:n.natAbs.log2<9000)(q:∀ r p',0<=r->r<n->zY p'->R (.d (.int r)) [p']):zn [.l 0,.d (.int n)] [p] R:=by
 obtain⟨l,g,sd,rfl,hl⟩:=hp;unfold zn;walk_at "e";split
 ·refine⟨hn,.inl ⟨⟨hn,hb⟩,0,rfl,?_⟩⟩;walk_at "e";exact q _ _ (Int.emod_nonneg _ (by omega)) (Int.emod_lt_of_pos _ hn) ⟨_,_,_,rfl,Int.ediv_nonneg hl (by omega)⟩
 ·refine zgs fun m _=>?_;walk_at "e";refine zgs fun m' h'=>?_;walk_at "e";refine⟨2,rfl,?_⟩;walk_at "e";exact .inl ⟨⟨by decide,by decide +kernel⟩,hn,q _ _ (Int.emod_nonneg _ (by omega)) (Int.emod_lt_of_pos _ hn) ⟨_,_,_,rfl,hl⟩⟩
theorem zeL{n:Int}(q:∀ p,zY p->R (.l 0) [p]):zb4 [.d (.int n)] [] R:=by
 unfold zb4;walk_at "e";refine⟨⟨by decide,by decide,by decide⟩,?_⟩;refine .inr (q _ ⟨_,_,_,rfl,?_⟩);split <;> omega
theorem zdr{p:List PyData}(hp:zY p)(q:∀ r p',-10 ^ 58<=r->r<=10 ^ 58->zY p'->R (.d (.int r)) [p']):zaH [.l 0] [p] R:=by
 unfold zaH;walk_at "e";refine zq hp dz (by decide +kernel) fun r p1 r0 r1 hp1=>?_;walk_at "e";split
 ·refine zq hp1 dz (by decide +kernel) fun r p2 r0 r1 hp2=>?_;walk_at "e";exact q _ _ (by omega) (by omega) hp2
 ·split
  ·refine zq hp1 dz (by decide +kernel) fun r p2 r0 r1 hp2=>?_;walk_at "e";exact q _ _ (by omega) (by omega) hp2
  ·refine⟨⟨by decide,by decide,by decide⟩,zd5 dz dz,?_⟩;have k1:(10:Int) ^ 30=1000000000000000000000000000000:=by decide +kernel
   have k2:(10:Int) ^ 28=10000000000000000000000000000:=by decide +kernel
   refine zq hp1 (by decide +kernel) (by decide +kernel) fun r p2 r0 r1 hp2=>?_;walk_at "e"
   try simp only [k1,k2] at r1 ⊢
   refine⟨⟨by decide,by decide,by decide⟩,⟨by decide,by decide,by decide⟩,zuq 128 128 (by omega) (by decide +kernel),q _ _ (by omega) (by omega) hp2⟩
theorem zhX{p:List PyData}(hp:zY p)(q:∀ r p',-10 ^ 58<=r->r<=10 ^ 58->zY p'->R (.d (.int r)) [p']):zfl [.l 0] [p] R:=zdr hp q
theorem zkx{p:List PyData}(hp:zY p)(q:∀ lo hi p',lo<=hi->-10 ^ 58<=lo->hi<=10 ^ 59->zY p'->R (.d (spD lo hi)) [p']):zhH [.l 0] [p] R:=by
 unfold zhH;walk_at "e";refine zhX hp fun lo p1 l0 l1 hp1=>?_;walk_at "e";refine zq hp1 dz (by decide +kernel) fun wd p2 w0 w1 hp2=>?_;walk_at "e";refine zq hp2 dz (by decide +kernel) fun t p3 t0 t1 hp3=>?_;walk_at "e";split
 ·refine⟨⟨by decide,by decide,by decide⟩,?_⟩;refine zq hp3 (by decide +kernel) (by decide +kernel) fun wd p4 w0 w1 hp4=>?_;walk_at "e";have k1:(10:Int) ^ 40=10000000000000000000000000000000000000000:=by decide +kernel
  try rw [k1] at w1
  exact q lo (lo+wd) _ (by omega) l0 (by omega) hp4
 ·exact q lo (lo+wd) _ (by omega) l0 (by omega) hp3
end
section
variable {R:RX}
theorem zse{α:Type}[Inhabited α]{l:List α}{i:Int}(h0:0<=i)(h1:i<l.length)(d:α):atI l i=some (l.getD i.toNat d):=by
 obtain⟨k,rfl⟩:=Int.eq_ofNat_of_zero_le h0;have hk:k<l.length:=by omega
 rw [zc6 (getElem?_eq_getElem hk)];simp [getD_eq_getElem?_getD,hk]
theorem zkQ:("abcdefghijklmnopqrstuvwxyz":Str).length=26:=by decide
theorem zoY:("abcdefghijklmnopqrstuvwxyz":Str).cps.toList.length=26:=by rw [<- zkQ]; simp [Str.length]
theorem zi4:("abcdefghijklmnopqrstuvwxyz":Str).length<=sizeLine:=le_of_lt (small1000 (by rw [zkQ]; decide))
theorem len1(c:Nat):(⟨#[c]⟩:Str).length=1:=rfl
abbrev lsgn (i:Int):Str:=⟨#[("abcdefghijklmnopqrstuvwxyz":Str).cps.toList.getD i.toNat 0]⟩
theorem znF{i:Int}(h0:0<=i)(h1:i<26):atI ("abcdefghijklmnopqrstuvwxyz":Str).cps.toList i=some (("abcdefghijklmnopqrstuvwxyz":Str).cps.toList.getD i.toNat 0):=zse h0 (by rw [zoY]; exact h1) 0
theorem zmI{ds:List PyData}{a b:Option Int}{d:PyData}(m:d∈zdE ds a b):d∈ds:=by
 unfold zdE at m;exact mem_of_mem_drop (mem_of_mem_take m)
def zez(z:Str):Bool:=decide (z.length<=100) && PyData.strOk z && !decide (z = "zy")
theorem zsp:∀ f<26,∀ k<8,zez (PySem.Txt.mul (lsgn (((f:Nat)+5*(0+((k:Nat):Int))) % 26)) (1+((f:Nat)+3*(0+((k:Nat):Int))) % 8))=true:=by decide +kernel
theorem ztT:∀ f<26,∀ k<8,zez (PySem.Txt.slice (PySem.Txt.join "" ((List.range 8).map fun k:Nat=>lsgn (((f:Nat)+7*(0+(k:Int))) % 26))) none (some (0+((k:Nat):Int)+1)))=true:=by decide +kernel
theorem zrL{ds:List PyData}(h:∀ d∈ds,∃ z:Str,d=.str z/\zez z=true):∃ zs:List Str,ds=zs.map PyData.str/\zs.length=ds.length/\∀ z∈zs,zez z=true:=by
 induction ds with
 | nil=>exact⟨[],rfl,rfl,by simp⟩
 | cons d ds ih =>
  obtain⟨z,rfl,hz⟩:=h d mem_cons_self;obtain⟨zs,rfl,hl,hzs⟩:=ih fun d m=>h d (mem_cons_of_mem _ m);refine⟨z :: zs,rfl,by simp,fun y m=>?_⟩;rcases mem_cons.mp m with rfl | m
  ·exact hz
  ·exact hzs y m
theorem zn6(a b:Str):(a++b).length=a.length+b.length:=strLen_append a b
theorem zja:∀ zs:List Str,(∀ z∈zs,z.length<=1)->(Str.join "" zs).length<=zs.length
 | [],_=>le_refl 0
 | [a],h=>h a mem_cons_self
 | a :: b :: r,h=>by
  show (a ++ "" ++ Str.join "" (b :: r)).length<=_;rw [zn6,zn6];have e:("":Str).length=0:=rfl;have h1:=h a mem_cons_self;have h2:=zja (b :: r) fun z m=>h z (mem_cons_of_mem _ m);rw [e];simp only [length_cons] at h2 ⊢;omega
def zjd(ds:List PyData):Prop:=∀ d∈ds,∃ z:Str,d=.str z/\zez z=true
theorem zj4{ds:List PyData}{a:Int}(h0:0<=a)(h1:a<=ds.length):(zdE ds (some a) none++zdE ds none (some a)).length=ds.length:=by
 obtain⟨k,rfl⟩:=Int.eq_ofNat_of_zero_le h0;have e1:HT.sIx ds.length 0 (some (k:Int))=k:=by rw [HT.sIx_nat]; omega
 have e2:HT.sIx ds.length ds.length (some (k:Int))=k:=by rw [HT.sIx_nat]; omega
 have e3:HT.sIx ds.length ds.length none=ds.length:=rfl;have e4:HT.sIx ds.length 0 none=0:=rfl;unfold zdE;rw [e1,e2,e3,e4,length_append,length_take,length_take,length_drop,length_drop];omega
def zoc:List Str:=["part","gap","cut","a","aa","dear","b","keeps"]
set_option maxHeartbeats 8000000 in
theorem zcs{p:List PyData}(hp:zY p)(q:∀ (ns:List Str) p',ns.length=8->(∀ z∈ns,zez z=true)->zY p'->R (.d (.list (ns.map PyData.str))) [p']):zav [.l 0] [p] R:=by
 unfold zav;walk_at "dX"
 (refine seq1 ?_; walk_at "dX")
 (refine seq1 ?_; walk_at "dX")
 refine zq hp dz (by decide +kernel) fun way p1 w0 w1 hp1=>?_;walk_at "dX"
 (refine seq1 ?_; walk_at "dX")
 refine zq hp1 dz (by decide +kernel) fun fst p2 f0 f1 hp2=>?_;walk_at "dX";refine cut (fun δ' S'=>∃ (ds:List PyData),zjd ds/\ds.length=8/\S'=[p2,ds]/\δ'=[some (.l 0),some (.d (.str ("abcdefghijklmnopqrstuvwxyz":Str))),some (.d (.int way)),some (.d (.int fst)),some (.l 1),none,none]) (fun N hN=>?_) ?_
 ·walk_at "dX";refine cmp1 (S0:=[p2]) (fun k:Nat=>.str (PySem.Txt.mul (lsgn ((fst+5*(0+k)) % 26)) (1+(fst+3*(0+k)) % 8))) rfl (List.range 8) (by simp) ?_ ?_
  ·intro k mk u acc R' hk;have b1:=Int.emod_nonneg (fst+5*(0+(k:Int))) (show (26:Int)≠0 by decide);have b2:=Int.emod_lt_of_pos (fst+5*(0+(k:Int))) (show (0:Int)<26 by decide);have b3:=Int.emod_nonneg (fst+3*(0+(k:Int))) (show (8:Int)≠0 by decide);have b4:=Int.emod_lt_of_pos (fst+3*(0+(k:Int))) (show (0:Int)<8 by decide);walk_at "dX";refine⟨zd5 dz dz,zi4,_,znF b1 b2,?_⟩;walk_at "dX";refine⟨zd5 dz dz,?_⟩;walk_at "dX";exact⟨by rw [len1]; decide,by omega,by omega,hk _⟩
  ·refine hN _ _ ⟨_,?_,by simp,rfl,rfl⟩;intro d m;obtain⟨k,mk,rfl⟩:=mem_map.mp m;obtain⟨f,rfl⟩:=Int.eq_ofNat_of_zero_le f0;exact⟨_,rfl,zsp f (by omega) k (mem_range.mp mk)⟩
 rintro _ _ ⟨ds,hds,hl,rfl,rfl⟩;refine cut (fun δ' S'=>∃ (ds:List PyData) (T:Sto) (k:Nat) (u:Option XV),zjd ds/\ds.length=8/\T[k]? = some ds/\S'=p2 :: T/\δ'=[some (.l 0),some (.d (.str ("abcdefghijklmnopqrstuvwxyz":Str))),some (.d (.int way)),some (.d (.int fst)),some (.l (k+1)),u,none]) (fun N hN=>?_) ?_
 ·walk_at "dX";split
  ·refine seq1 ?_;walk_at "dX";refine cmp1 (S0:=[p2,ds]) (fun k:Nat=>.str (lsgn ((fst+7*(0+k)) % 26))) rfl (List.range 8) (by simp) ?_ ?_
   ·intro k mk u acc R' hk;have b1:=Int.emod_nonneg (fst+7*(0+(k:Int))) (show (26:Int)≠0 by decide);have b2:=Int.emod_lt_of_pos (fst+7*(0+(k:Int))) (show (0:Int)<26 by decide);walk_at "dX";refine⟨zd5 dz dz,zi4,_,znF b1 b2,?_⟩;exact hk _
   ·walk_at "dX";refine⟨(List.range 8).map fun k:Nat=>lsgn ((fst+7*(0+k)) % 26),by rw [map_map]; rfl,by decide,by simp,fun y m=>?_,?_⟩
    ·obtain⟨k,_,rfl⟩:=mem_map.mp m;show 1<=1000;decide
    ·have wl:(PySem.Txt.join "" ((List.range 8).map fun k:Nat=>lsgn ((fst+7*(0+k)) % 26))).length<=8*1016:=by
      have:=zpG (y:=("":Str)) (zs:=(List.range 8).map fun k:Nat=>lsgn ((fst+7*(0+k)) % 26)) dz (fun y m=>by
       obtain⟨k,_,rfl⟩:=mem_map.mp m;show 1<=1000;decide)
      simpa using this
     have wl':(PySem.Txt.join "" ((List.range 8).map fun k:Nat=>lsgn ((fst+7*(0+k)) % 26))).length<=8:=by
      show (Builtin.Str.glued _ _).length<=_;rw [StrLaws.glued_eq_join];have:=zja ((List.range 8).map fun k:Nat=>lsgn ((fst+7*(0+k)) % 26)) (fun y m=>by
       obtain⟨k,_,rfl⟩:=mem_map.mp m;exact le_refl 1)
      simpa using this
     walk_at "dX";refine cmp1 (S0:=[p2,ds]) (fun k:Nat=>.str (PySem.Txt.slice (PySem.Txt.join "" ((List.range 8).map fun k:Nat=>lsgn ((fst+7*(0+k)) % 26))) none (some (0+k+1)))) rfl (List.range 8) (by simp) ?_ ?_
     ·intro k mk u acc R' hk;walk_at "dX";exact⟨le_trans wl (by rw [sizeLine_eq]; decide),hk _⟩
     ·refine hN _ _ ⟨_,[ds,_],1,_,?_,?_,rfl,rfl,rfl⟩
      ·intro d m;obtain⟨k,mk,rfl⟩:=mem_map.mp m;obtain⟨f,rfl⟩:=Int.eq_ofNat_of_zero_le f0;exact⟨_,rfl,ztT f (by omega) k (mem_range.mp mk)⟩
      ·simp
  ·exact hN _ _ ⟨ds,[ds],0,none,hds,hl,rfl,rfl,rfl⟩
 rintro _ _ ⟨ds,T,k,u,hds,hl,hk,rfl,rfl⟩;refine cut (fun δ' S'=>∃ (ds:List PyData) (T:Sto) (k:Nat),zjd ds/\ds.length=8/\T[k]? = some ds/\S'=p2 :: T/\δ'=[some (.l 0),some (.d (.str ("abcdefghijklmnopqrstuvwxyz":Str))),some (.d (.int way)),some (.d (.int fst)),some (.l (k+1)),u,none]) (fun N hN=>?_) ?_
 ·walk_at "dX";split
  ·refine hN _ _ ⟨zoc.map PyData.str,T++[zoc.map PyData.str],T.length,?_,rfl,by rw [getElem?_concat_length],rfl,rfl⟩;intro d m;obtain⟨z,hz,rfl⟩:=mem_map.mp m;refine⟨z,rfl,?_⟩;simp only [zoc,mem_cons,not_mem_nil,or_false] at hz;rcases hz with rfl | rfl | rfl | rfl | rfl | rfl | rfl | rfl <;> decide +kernel
  ·exact hN _ _ ⟨ds,T,k,hds,hl,hk,rfl,rfl⟩
 rintro _ _ ⟨ds,T,k,hds,hl,hk,rfl,rfl⟩
 (refine seq1 ?_; walk_at "dX")
 refine zq hp2 dz (by decide +kernel) fun at' p3 a0 a1 hp3=>?_;walk_at "dX"
 (refine seq1 ?_; walk_at "dX")
 refine⟨ds,hk,ds,hk,?_⟩;have hc:=zj4 (ds:=ds) a0 (by omega);rw [length_append] at hc;refine⟨by omega,?_⟩;have hk2:(T++[zdE ds (some at') none++zdE ds none (some at')])[T.length]? = some (zdE ds (some at') none++zdE ds none (some at')):=by rw [getElem?_concat_length]
 have hs2:zjd (zdE ds (some at') none++zdE ds none (some at')):=fun d m=>(mem_append.mp m).elim (fun m=>hds d (zmI m)) fun m=>hds d (zmI m);have hl2:(zdE ds (some at') none++zdE ds none (some at')).length=8:=by rw [length_append]; omega
 generalize zdE ds (some at') none++zdE ds none (some at')=es at hk2 hs2 hl2 ⊢;refine seq1 ?_;walk_at "dX";refine zq hp3 dz (by decide +kernel) fun r p4 r0 r1 hp4=>?_;walk_at "dX";have fin':∀ (fs:List PyData),zjd fs->fs.length=8->R (.d (.list fs)) [p4]:=by
  intro fs h1 h2;obtain⟨zs,rfl,z1,z2⟩:=zrL h1;exact q zs p4 (by omega) z2 hp4
 split
 ·refine⟨by simp,es,hk2,?_⟩;walk_at "dX";rw [if_neg (by omega)];refine⟨es.reverse,by simp [zeu],.inl (fin' _ (fun d m=>hs2 d (mem_reverse.mp m)) (by simpa using hl2))⟩
 ·rw [if_neg (by omega)];exact⟨es,hk2,.inl (fin' _ hs2 hl2)⟩
abbrev Part:=Str×Int×Int
def zes(p:Part):PyData:=.tuple [.str p.1,.int p.2.1,.int p.2.2]
def zbv(ps:List Part):PyData:=.tuple (ps.map zes)
structure Prt(p:Part):Prop where
 nm:zez p.1=true
 le:p.2.1<=p.2.2
 lo:-10 ^ 58<=p.2.1
 hi:p.2.2<=10 ^ 59
structure Drw(ps:List Part):Prop where
 l1:1<=ps.length
 l8:ps.length<=8
 all:∀ p∈ps,Prt p
theorem zbj{α:Type}{f:α->PyData}{l:List α}{k:Nat}{x:α}(e:l[k]? = some x):atI (l.map f) (k:Int)=some (f x):=zc6 (by rw [getElem?_map,e]; rfl)
theorem zfT{Q:PN}{p:List PyData}{m:Int}{span:PN}{names:PN}(hQ:Q=fun xs S R=>(zM (zab (zB 0 1 names (zb (zh 0) zo)) (zi 2)) (zM (zab (zcX zo) (zi 3)) (zM (zfI (zaI (zb (dOp zbK (dC (.int 1)) (zB 0 2 zn (zb (zh 0) (zb (zh 1) zo)))) zo)) (zi 4) (zct (dBM zbs (zh 3) (zb (dOp zbK (zbZ (zb (dOp dIx (zh 2) (zh 4)) zo)) (zB 0 1 span (zb (zh 0) zo))) zo)))) (zaM (dCB za7 (zb (zh 3) zo)))))) (zbk S.length R) (xs.map some++List.replicate 3 none) S)
  (hnames:∀ {p:List PyData} {R:RX},zY p->(∀ (ns:List Str) p',ns.length=8->(∀ z∈ns,zez z=true)->zY p'->R (.d (.list (ns.map PyData.str))) [p'])->names [.l 0] [p] R)
  (hspan:∀ {p:List PyData} {R:RX},zY p->(∀ lo hi p',lo<=hi->-10 ^ 58<=lo->hi<=10 ^ 59->zY p'->R (.d (spD lo hi)) [p'])->span [.l 0] [p] R)
  (hp:zY p) (m1:0<m) (m8:m<=8) (q:∀ (ps:List Part) p',Drw ps->zY p'->R (.d (zbv ps)) [p']):Q [.l 0,.d (.int m)] [p] R:=by
 subst hQ;walk_at "d"
 walk_at "n"
 refine hnames hp fun ns p1 hn hz hp1=>?_;walk_at "d"
 walk_at "n"
 walk_at "n";refine zq hp1 m1 (zck m1 (by omega)) fun r p2 r0 r1 hp2=>?_;walk_at "d";refine zaj (fun i δ S=>∃ (p:List PyData) (ps:List Part) (u:Option XV),zY p/\ps.length=i/\(∀ p∈ps,Prt p)/\S=[p,ps.map zes]/\δ=[some (.l 0),some (.d (.int m)),some (.d (.list (ns.map PyData.str))),some (.l 1),u]) ⟨p2,[],_,hp2,rfl,by simp,rfl,rfl⟩ ?_ ?_
 ·rintro i d _ _ N hi ⟨p,ps,u,hp,hl,ha,rfl,rfl⟩ hN;obtain⟨hi',rfl⟩:=zb2 hi;have i8:i<ns.length:=by omega
  have e:=zbj (f:=PyData.str) (getElem?_eq_getElem i8);walk_at "d";simp only [Int.zero_add];refine⟨_,e,?_⟩;walk_at "d";refine hspan hp fun lo hi p3 h1 h2 h3 hp3=>?_;simp only [spD];walk_at "d";refine⟨by omega,hN _ _ ⟨p3,ps++[(ns[i],lo,hi)],_,hp3,by simp [hl],fun x hx=>?_,by simp [zes],rfl⟩⟩;rcases mem_append.mp hx with hx | hx
  ·exact ha x hx
  ·rw [mem_singleton.mp hx];exact⟨hz _ (getElem_mem i8),h1,h2,h3⟩
 ·rintro _ _ ⟨p,ps,u,hp,hl,ha,rfl,rfl⟩;rw [zal] at hl;walk_at "d";exact q ps p ⟨by omega,by omega,ha⟩ hp
end
section
variable {R:RX} {S:Sto}
theorem zqc{a b m:Int}(h1:m∈[a,b])(h2:∀ x,x∈[a,b]->m<=x):m=min a b:=by
 have ha:=h2 a (by simp);have hb:=h2 b (by simp);simp only [mem_cons,not_mem_nil,or_false] at h1;omega
theorem zqn{a b m:Int}(h1:m∈[a,b])(h2:∀ x,x∈[a,b]->x<=m):m=max a b:=by
 have ha:=h2 a (by simp);have hb:=h2 b (by simp);simp only [mem_cons,not_mem_nil,or_false] at h1;omega
theorem zvq{a b:Int}(q:R (.d (.int (min a b))) S):zlL [.d (.list [.int a,.int b])] S R:=.inl ⟨_,rfl,[a,b],rfl,by simp,fun m h1 h2=>by rw [zqc h1 h2]; exact q⟩
theorem zvs{a b:Int}(q:R (.d (.int (min a b))) S):zlL [.d (.tuple [.int a,.int b])] S R:=.inl ⟨_,rfl,[a,b],rfl,by simp,fun m h1 h2=>by rw [zqc h1 h2]; exact q⟩
theorem zvz{a b:Int}(q:R (.d (.int (max a b))) S):zt0 [.d (.list [.int a,.int b])] S R:=⟨_,rfl,[a,b],rfl,by simp,fun m h1 h2=>by rw [zqn h1 h2]; exact q⟩
theorem zvw{a b:Int}(q:R (.d (.int (max a b))) S):zt0 [.d (.tuple [.int a,.int b])] S R:=⟨_,rfl,[a,b],rfl,by simp,fun m h1 h2=>by rw [zqn h1 h2]; exact q⟩
abbrev Term:=Nat×Int
def tmD(t:Term):PyData:=.tuple [.int t.1,.int t.2]
def znI(ts:List Term):PyData:=.tuple (ts.map tmD)
structure Gap where
 ts:List Term
 lo:Int
 hi:Int
def zjH(g:Gap):PyData:=.tuple [znI g.ts,.int g.lo,.int g.hi]
theorem zco(g:Gap):zjH g=.tuple [znI g.ts,.int g.lo,.int g.hi]:=rfl
theorem zk2(t:Term):tmD t=.tuple [.int t.1,.int t.2]:=rfl
theorem zh7(p:Part):zes p=.tuple [.str p.1,.int p.2.1,.int p.2.2]:=rfl
def zbf(ns:List Int):PyData:=.tuple (ns.map PyData.int)
structure Tms(n:Nat)(ts:List Term):Prop where
 ne:ts≠[]
 len:ts.length<=n
 ok:∀ t∈ts,t.1<n/\t.2≠0/\-3<=t.2/\t.2<=3
 srt:ts.Pairwise fun t u=>t.1<u.1
structure Tm3(n:Nat)(ts:List Term):Prop where
 len:ts.length<=100
 ok:∀ t∈ts,t.1<n/\-3<=t.2/\t.2<=3
theorem Tms.tm3{n:Nat}{ts:List Term}(h:Tms n ts)(hn:n<=8):Tm3 n ts:=⟨by have:=h.len; omega,fun t m=>⟨(h.ok t m).1,(h.ok t m).2.2⟩⟩
theorem Tm3.of_cons{n:Nat}{t:Term}{ts:List Term}(h:Tm3 n (t :: ts)):Tm3 n ts:=⟨by have:=h.len; rw [length_cons] at this; omega,fun u m=>h.ok u (mem_cons_of_mem _ m)⟩
theorem Tm3.drop{n:Nat}{ts:List Term}(h:Tm3 n ts)(i:Nat):Tm3 n (ts.drop i):=⟨by have:=h.len; rw [length_drop]; omega,fun u m=>h.ok u (mem_of_mem_drop m)⟩
def worth(ts:List Term)(ns:List Int):Int:=(ts.map fun t=>t.2*ns.getD t.1 0).sum
theorem zix{ns:List Int}{k:Nat}(h:k<ns.length):ns[k]? = some (ns.getD k 0):=by
 rw [getElem?_eq_getElem h,getD_eq_getElem?_getD,getElem?_eq_getElem h];rfl
def part(ps:List Part)(k:Nat):Part:=ps.getD k ("",0,0)
theorem zbG{ps:List Part}{k:Nat}(h:k<ps.length):ps[k]? = some (part ps k):=by
 unfold part;rw [getElem?_eq_getElem h,getD_eq_getElem?_getD,getElem?_eq_getElem h];rfl
theorem zpI{ps:List Part}{k:Nat}(h:k<ps.length):part ps k∈ps:=mem_of_getElem? (zbG h)
def plo(ps:List Part)(k:Nat):Int:=(part ps k).2.1
def phi(ps:List Part)(k:Nat):Int:=(part ps k).2.2
def tLo(ps:List Part)(t:Term):Int:=min (t.2*plo ps t.1) (t.2*phi ps t.1)
def tHi(ps:List Part)(t:Term):Int:=max (t.2*plo ps t.1) (t.2*phi ps t.1)
def zaa(ps:List Part)(ts:List Term):Int:=(ts.map (tLo ps)).sum
def zbP(ps:List Part)(ts:List Term):Int:=(ts.map (tHi ps)).sum
theorem zed{ps:List Part}{t:Term}{ts:List Term}:zaa ps (t :: ts)=tLo ps t+zaa ps ts:=by simp [zaa]
theorem zhE{ps:List Part}{t:Term}{ts:List Term}:zbP ps (t :: ts)=tHi ps t+zbP ps ts:=by simp [zbP]
theorem zcY{ns:List Int}{t:Term}{ts:List Term}:worth (t :: ts) ns=t.2*ns.getD t.1 0+worth ts ns:=by simp [worth]
theorem zgF{ps:List Part}{ts:List Term}{i:Nat}{t:Term}(h:ts[i]? = some t):zaa ps (ts.take (i+1))=zaa ps (ts.take i)+tLo ps t:=by
 unfold zaa;rw [take_add_one,h];simp
theorem zhA{ps:List Part}{ts:List Term}{i:Nat}{t:Term}(h:ts[i]? = some t):zbP ps (ts.take (i+1))=zbP ps (ts.take i)+tHi ps t:=by
 unfold zbP;rw [take_add_one,h];simp
theorem zc8(ps:List Part):∀ ts:List Term,zaa ps ts<=zbP ps ts
 | []=>by simp [zaa,zbP]
 | t :: ts=>by
  have:=zc8 ps ts;rw [zed,zhE];unfold tLo tHi;omega
theorem zbE{α:Type}{f:α->PyData}{l:List α}{i:Nat}{d:PyData}(h:(l.map f)[i]? = some d):∃ x,l[i]? = some x/\d=f x:=by
 rw [getElem?_map] at h;obtain⟨x,e,rfl⟩:=map_eq_some_iff.mp h;exact⟨x,e,rfl⟩
theorem zcO{ps:List Part}{ts:List Term}{t:PyData}(ht:zjW (.d t)=some (ts.map tmD))(h3:Tm3 ps.length ts)(q:R (.d (spD (zaa ps ts) (zbP ps ts))) []):zaR [.d (zbv ps),.d t] [] R:=by
 unfold zaR zbv;walk_at "d"
 walk_at "n"
 walk_at "n"
 walk_at "n";refine⟨_,ht,?_⟩;refine zaj (fun i δ S=>∃ (u1 u2 u3:Option XV),S=[]/\δ=[some (.d (.tuple (ps.map zes))),some (.d t),some (.d (.int (zaa ps (ts.take i)))),some (.d (.int (zbP ps (ts.take i)))),u1,u2,u3]) ⟨_,_,_,rfl,rfl⟩ ?_ ?_
 ·rintro i d _ _ N hi ⟨u1,u2,u3,rfl,rfl⟩ hN;obtain⟨t,ht,rfl⟩:=zbE hi;obtain⟨t1,t2,t3⟩:=h3.ok t (mem_of_getElem? ht);have ep:=zbj (f:=zes) (zbG t1);unfold tmD;walk_at "d"
  walk_at "n"
  refine⟨_,ep,?_⟩;unfold zes;walk_at "d";refine⟨zd5 (by omega) (by omega),_,ep,?_⟩;unfold zes;walk_at "d";refine⟨zd5 (by omega) (by omega),?_⟩
  walk_at "n"
  refine zvq ?_;walk_at "d";refine zvz ?_;walk_at "d";exact hN _ _ ⟨_,_,_,rfl,by rw [zgF ht,zhA ht]; rfl⟩
 ·rintro _ _ ⟨u1,u2,u3,rfl,rfl⟩;rw [length_map,take_length];walk_at "d";exact q
theorem zmz{ds:List PyData}{r:Int}{P:PyData->Prop}(h0:0<=r)(h1:r<ds.length)(hP:∀ d∈ds,P d):∃ d,atI ds r=some d/\P d:=by
 obtain⟨k,rfl⟩:=Int.eq_ofNat_of_zero_le h0;have hk:k<ds.length:=by omega
 exact⟨ds[k],zc6 (getElem?_eq_getElem hk),hP _ (getElem_mem hk)⟩
theorem zrH(ds:List PyData):PyData.eqv (.list ds) (.list [])=decide (ds=[]):=by
 cases ds with
 | nil=>rfl
 | cons d ds=>rfl
theorem zs8(t:Term):Shp 1 (tmD t):=zoo (zuz zkm zkm)
theorem zlZ(ts:List Term):SeqAt.shaped (.list (ts.map tmD))=true:=(zfQ (zis fun t _=>zs8 t)).ok
structure GapOk(n:Nat)(g:Gap):Prop where
 ts:Tms n g.ts
 le:g.lo<=g.hi
theorem zh5{p:List PyData}{ps:List Part}(hp:zY p)(hd:Drw ps)(q:∀ g p',GapOk ps.length g->zY p'->R (.d (zjH g)) [p']):zcI [.l 0,.d (zbv ps)] [p] R:=by
 have h8:=hd.l8;have h1:=hd.l1;unfold zcI;walk_at "d"
 walk_at "n"
 refine cut (fun δ S=>∃ (p:List PyData) (ts:List Term) (u1 u2:Option XV),zY p/\ts.length<=ps.length/\(∀ t∈ts,t.1<ps.length/\t.2≠0/\-3<=t.2/\t.2<=3)/\(ts.Pairwise fun t u=>t.1<u.1)/\S=[p,ts.map tmD]/\δ=[some (.l 0),some (.d (zbv ps)),some (.l 1),u1,u2,none,none,none,none,none]) (fun N hN=>?_) ?_
 ·walk_at "d";refine⟨ps.length,by unfold zbv; walk_at "d",?_⟩;refine zaj (fun i δ S=>∃ (p:List PyData) (ts:List Term) (u1 u2:Option XV),zY p/\ts.length<=i/\(∀ t∈ts,t.1<i/\t.2≠0/\-3<=t.2/\t.2<=3)/\(ts.Pairwise fun t u=>t.1<u.1)/\S=[p,ts.map tmD]/\δ=[some (.l 0),some (.d (zbv ps)),some (.l 1),u1,u2,none,none,none,none,none]) ⟨p,[],_,_,hp,le_refl _,by simp,.nil,rfl,rfl⟩ ?_ ?_
  ·rintro i d _ _ N hi ⟨p,ts,u1,u2,hp,hl,ht,hw,rfl,rfl⟩ hN;obtain⟨hi',rfl⟩:=zb2 hi;have hi8:i<ps.length:=by simpa using hi'
   walk_at "d"
   walk_at "n"
   refine zq hp dz (by decide +kernel) fun r p2 r0 r1 hp2=>?_;walk_at "d";refine⟨rfl,?_⟩;simp only [List.any_cons,List.any_nil,Bool.or_false,zgl];have low:=hN [some (.l 0),some (.d (zbv ps)),some (.l 1),some (.d (.int (0+(i:Int)))),some (.d (.int (r - 4))),none,none,none,none,none] [p2,ts.map tmD] ⟨p2,ts,_,_,hp2,by omega,fun t m=>⟨by have:=(ht t m).1; omega,(ht t m).2⟩,hw,rfl,rfl⟩;by_cases hz:r - 4 = -4\/r - 4=0\/r - 4=4
   ·have e:(decide ((-4:Int)=r - 4) || (decide ((0:Int)=r - 4) || decide ((4:Int)=r - 4)))=true:=by
     rcases hz with h | h | h <;> simp [h]
    rw [e];walk_at "d";exact low
   ·have e:(decide ((-4:Int)=r - 4) || (decide ((0:Int)=r - 4) || decide ((4:Int)=r - 4)))=false:=by
     simp;omega
    rw [e];walk_at "d";refine⟨by omega,hN _ _ ⟨p2,ts++[(i,r - 4)],_,_,hp2,by simp; omega,fun t m=>?_,?_,by simp [tmD],rfl⟩⟩
    ·rcases mem_append.mp m with m | m
     ·exact⟨by have:=(ht t m).1; omega,(ht t m).2⟩
     ·rw [mem_singleton.mp m];exact⟨by simp,by simp only; omega,by simp only; omega,by simp only; omega⟩
    ·rw [List.pairwise_append];exact⟨hw,by simp,fun t m u m'=>by rw [mem_singleton.mp m']; exact(ht t m).1⟩
  ·rintro _ _ ⟨p,ts,u1,u2,hp,hl,ht,hw,rfl,rfl⟩;rw [zal] at hl ht;have hz:(ps.length:Int).toNat=ps.length:=by simp
   rw [hz] at hl ht;exact hN _ _ ⟨p,ts,u1,u2,hp,hl,ht,hw,rfl,rfl⟩
 rintro _ _ ⟨p,ts,u1,u2,hp,hl,ht,hw,rfl,rfl⟩;refine cut (fun δ S=>∃ (p:List PyData) (ts:List Term) (T:Sto) (k:Nat),zY p/\Tms ps.length ts/\T[k]? = some (ts.map tmD)/\S=p :: T/\δ=[some (.l 0),some (.d (zbv ps)),some (.l (k+1)),u1,u2,none,none,none,none,none]) (fun N hN=>?_) ?_
 ·walk_at "d";refine⟨zlZ ts,rfl,?_⟩;rw [zrH];walk_at "d";split
  ·refine⟨ps.length,by unfold zbv; walk_at "d",?_⟩;refine zq hp (by omega) (zck (by omega) (by omega)) fun r p2 r0 r1 hp2=>?_;walk_at "d";refine zq hp2 dz (by decide +kernel) fun r3 p3 r2 r4 hp3=>?_;obtain⟨d,ed,n,rfl,hn⟩:=zmz (ds:=[PyData.int 1,PyData.int (-1),PyData.int 2,PyData.int (-3)]) (P:=fun d=>∃ n,d=.int n/\n≠0/\-3<=n/\n<=3) r2 r4 (by
    intro d m;simp only [mem_cons,not_mem_nil,or_false] at m;rcases m with rfl | rfl | rfl | rfl <;> exact⟨_,rfl,by decide,by decide,by decide⟩)
   obtain⟨k,rfl⟩:=Int.eq_ofNat_of_zero_le r0;walk_at "d";refine⟨_,ed,?_⟩;walk_at "d";refine hN _ _ ⟨p3,[(k,n)],[ts.map tmD,[tmD (k,n)]],1,hp3,⟨by simp,by simpa using h1,fun t m=>by rw [mem_singleton.mp m]; exact⟨by simp only; omega,hn⟩,by simp⟩,rfl,rfl,rfl⟩
  ·rename_i hne;exact hN _ _ ⟨p,ts,[ts.map tmD],0,hp,⟨fun z=>hne (by rw [z]; rfl),hl,ht,hw⟩,rfl,rfl,rfl⟩
 rintro _ _ ⟨p,ts,T,k,hp,hts,hk,rfl,rfl⟩
 walk_at "n"
 rw [hk];walk_at "d";refine zcO rfl (hts.tm3 h8) ?_;have lm:=zc8 ps ts;unfold spD;walk_at "d";refine⟨rfl,?_⟩;walk_at "d"
 walk_at "n"
 walk_at "n"
 refine .inl ⟨⟨by decide,by decide +kernel⟩,.inl ⟨⟨by decide,by decide +kernel⟩,?_⟩⟩;walk_at "d";refine zq hp dz (by decide +kernel) fun r p2 r0 r1 hp2=>?_;obtain⟨d,ed,n,rfl⟩:=zmz (P:=fun d=>∃ n,d=.int n) (ds:=[PyData.int 0,PyData.int 1,PyData.int (-1),PyData.int ((zbP ps ts - zaa ps ts) / 2),PyData.int ((zbP ps ts - zaa ps ts) / 3),PyData.int (zbP ps ts - zaa ps ts+1)]) r0 r1 (by simp);walk_at "d";refine⟨_,ed,?_⟩;walk_at "d"
 walk_at "n"
 refine .inl ⟨⟨by decide,by decide +kernel⟩,?_⟩;walk_at "d";refine zq hp2 dz (by decide +kernel) fun r' p3 r2 r3 hp3=>?_;obtain⟨d,ed,n',rfl,h0⟩:=zmz (P:=fun d=>∃ n,d=.int n/\0<=n) (ds:=[PyData.int 0,PyData.int 1,PyData.int 2,PyData.int ((zbP ps ts - zaa ps ts) / 2),PyData.int (zbP ps ts - zaa ps ts),PyData.int (zbP ps ts - zaa ps ts+2)]) r2 r3 (by simp; omega);walk_at "d";refine⟨_,ed,?_⟩;walk_at "d";refine⟨_,hk,?_⟩;walk_at "d";exact q ⟨ts,_,_⟩ p3 ⟨hts,by simp only; omega⟩ hp3
def zcP(gs:List Gap):PyData:=.tuple (gs.map zjH)
structure Gaps(n:Nat)(gs:List Gap):Prop where
 l1:1<=gs.length
 l6:gs.length<=6
 all:∀ g∈gs,GapOk n g
theorem zuK{g:DG}{te:DE}{fin:Sto->Prop}{α:Type}(F:α->Prop)(f:α->PyData)(P:XE->Prop):∀ (ds:List PyData) (acc:List α) (p:List PyData) (τ:XE),P τ->zY p->acc.length+ds.length<=1000 ->
  (∀ d∈ds,∀ τ p acc (R:XE->RX),P τ->zY p->(∀ τ' x p',P τ'->zY p'->F x->R τ' (.d (f x)) [p',acc])->g (.d d) τ [p,acc] fun τ1 S1=>te τ1 S1 (R τ1)) ->
  (∀ xs p',zY p'->(∀ x∈xs,F x)->xs.length=ds.length->fin [p',(acc++xs).map f])->zev 1 g zax te fin ds τ [p,acc.map f]
 | [],acc,p,τ,_,hp,_,_,h=>by
  have:=h [] p hp (by simp) rfl;rw [append_nil] at this;exact this
 | d :: ds,acc,p,τ,hP,hp,hl,el,h=>by
  show g (.d d) τ [p,acc.map f] fun τ1 S1=>zax τ1 S1 fun b S2=>if b=true then te τ1 S2 fun x S3=>asD x fun e=>∃ acc,S3[1]? = some acc/\acc.length<1000/\zev 1 g zax te fin ds τ1 (S3.set 1 (acc++[e])) else zev 1 g zax te fin ds τ1 S2
  simp only [zax,↓reduceIte];rw [length_cons] at hl;refine el d mem_cons_self τ p (acc.map f) (fun τ1 x S3=>asD x fun e=>∃ acc,S3[1]? = some acc/\acc.length<1000/\zev 1 g zax te fin ds τ1 (S3.set 1 (acc++[e]))) hP hp fun τ' x p' hP' hp' hF=>?_;refine⟨acc.map f,rfl,by rw [length_map]; omega,?_⟩;have e:([p',acc.map f]:Sto).set 1 (acc.map f++[f x])=[p',(acc++[x]).map f]:=by simp
  rw [e];refine zuK F f P ds (acc++[x]) p' τ' hP' hp' (by rw [length_append,length_singleton]; omega) (fun e m=>el e (mem_cons_of_mem _ m)) fun xs p'' hp'' fs hl=>?_;rw [append_assoc];exact h (x :: xs) p'' hp'' (fun y m=>(mem_cons.mp m).elim (fun e=>e▸hF) (fs y)) (by simp [hl])
theorem zgV{p:List PyData}{ps:List Part}{m:Int}(hp:zY p)(hd:Drw ps)(m1:0<m)(m6:m<=6)(q:∀ gs p',Gaps ps.length gs->(gs.length:Int)<=m->zY p'->R (.d (zcP gs)) [p']):zcf [.l 0,.d (zbv ps),.d (.int m)] [p] R:=by
 unfold zcf;walk_at "d"
 walk_at "n"
 refine zq hp m1 (zck m1 (by omega)) fun r p1 r0 r1 hp1=>?_;walk_at "d";refine zuK (α:=Gap) (GapOk ps.length) zjH (fun τ=>∃ u,τ=[u,some (.l 0),some (.d (zbv ps))]) _ [] p1 _ ⟨_,rfl⟩ hp1 (by rw [zal]; simp; omega) ?_ ?_
 ·rintro d md _ p acc R' ⟨u,rfl⟩ hp hk;walk_at "d";refine zh5 hp hd fun g p' hg hp'=>?_;walk_at "d";exact hk _ g p' ⟨_,rfl⟩ hp' hg
 ·intro gs p2 hp2 hg hl;rw [zal] at hl;rw [nil_append];have l1:1<=gs.length:=by omega
  have l6:(gs.length:Int)<=m:=by omega
  walk_at "d";refine cut (fun δ S=>∃ (p:List PyData) (gs:List Gap),zY p/\Gaps ps.length gs/\(gs.length:Int)<=m/\S=[p,gs.map zjH]/\δ=[some (.l 0),some (.d (zbv ps)),some (.d (.int m)),some (.l 1)]) (fun N hN=>?_) ?_
  ·walk_at "d";refine zq hp2 dz (by decide +kernel) fun r2 p3 r3 r4 hp3=>?_;walk_at "d";have no:=hN [some (.l 0),some (.d (zbv ps)),some (.d (.int m)),some (.l 1)] [p3,gs.map zjH] ⟨p3,gs,hp3,⟨l1,by omega,hg⟩,l6,rfl,rfl⟩;split
   ·split
    ·obtain⟨g0,hg0⟩:∃ g0,gs[0]? = some g0:=⟨gs[0],getElem?_eq_getElem (by omega)⟩;have e0:=zbj (f:=zjH) hg0;have ok0:=hg g0 (mem_of_getElem? hg0);refine⟨_,e0,?_⟩;rw [zco];walk_at "d";refine⟨_,e0,?_⟩;rw [zco];walk_at "d";refine⟨_,e0,?_⟩;rw [zco];walk_at "d";refine zq hp3 dz (by decide +kernel) fun r5 p4 r6 r7 hp4=>?_;walk_at "d";obtain⟨j,hj⟩:∃ j,ixN gs.length (-1)=some j/\j<gs.length:=⟨gs.length - 1,by unfold ixN; rw [if_neg (by omega),if_pos (by omega)]; congr 1; omega,by omega⟩;refine⟨j,hj.1,hN _ _ ⟨p4,gs.set j ⟨g0.ts,g0.hi+1,g0.hi+1+r5⟩,hp4,⟨by simp; omega,by simp; omega,fun g mg=>?_⟩,by simp; omega,by simp only [map_set,zjH],rfl⟩⟩;rcases List.mem_or_eq_of_mem_set mg with h | rfl
     ·exact hg g h
     ·exact⟨ok0.ts,by simp only; omega⟩
    ·exact no
   ·exact no
  ·rintro _ _ ⟨p,gs,hp,hgs,hm,rfl,rfl⟩;walk_at "d";exact q gs p hgs hm hp
end
section
variable {R:RX} {S:Sto}
theorem zrw{a b c d:Int}(q:R (.d (spD (a+c) (b+d))) []):zlj [.d (spD a b),.d (spD c d)] [] R:=by
 unfold zlj spD;walk_at "e";exact q
theorem ziq{a b n:Int}(h1:-3<=n)(h2:n<=3)(q:R (.d (spD (min (a*n) (b*n)) (max (a*n) (b*n)))) []):zcH [.d (spD a b),.d (.int n)] [] R:=by
 unfold zcH spD;walk_at "e";refine⟨zkV (by omega) (by omega),zkV (by omega) (by omega),?_⟩;refine zvs ?_;walk_at "e";refine zvw ?_;walk_at "e";exact q
theorem zmc{p:Part}(q:R (.d (spD p.2.1 p.2.2)) []):zeT [.d (zes p)] [] R:=by
 unfold zeT zes;walk_at "e";exact q
theorem zut{ps:List Part}{t:Term}:min ((part ps t.1).2.1*t.2) ((part ps t.1).2.2*t.2)=tLo ps t:=by
 unfold tLo plo phi;rw [Int.mul_comm t.2,Int.mul_comm t.2]
theorem zuM{ps:List Part}{t:Term}:max ((part ps t.1).2.1*t.2) ((part ps t.1).2.2*t.2)=tHi ps t:=by
 unfold tHi plo phi;rw [Int.mul_comm t.2,Int.mul_comm t.2]
theorem zcV{ps:List Part}{ts:List Term}{t:PyData}(ht:zjW (.d t)=some (ts.map tmD))(h3:Tm3 ps.length ts)(q:R (.d (spD (zaa ps ts) (zbP ps ts))) []):zaU [.d (zbv ps),.d t] [] R:=by
 unfold zaU zbv;walk_at "d"
 walk_at "n"
 walk_at "n";refine⟨_,ht,?_⟩;refine zaj (fun i δ S=>∃ (u1 u2:Option XV),S=[]/\δ=[some (.d (.tuple (ps.map zes))),some (.d t),some (.d (spD (zaa ps (ts.take i)) (zbP ps (ts.take i)))),u1,u2]) ⟨_,_,rfl,rfl⟩ ?_ ?_
 ·rintro i d _ _ N hi ⟨u1,u2,rfl,rfl⟩ hN;obtain⟨t,ht,rfl⟩:=zbE hi;obtain⟨t1,t2,t3⟩:=h3.ok t (mem_of_getElem? ht);have ep:=zbj (f:=zes) (zbG t1);rw [zk2];walk_at "d";refine⟨_,ep,?_⟩;refine zmc ?_;walk_at "d";refine ziq t2 t3 ?_;walk_at "d";refine zrw ?_;walk_at "d";exact hN _ _ ⟨_,_,rfl,by rw [zgF ht,zhA ht,<- zut,<- zuM]⟩
 ·rintro _ _ ⟨u1,u2,rfl,rfl⟩;rw [length_map,take_length];walk_at "d";exact q
def zgS(ps:List Part):List Int:=ps.map fun p=>p.2.1
theorem zlE{ps:List Part}{k:Nat}(h:k<ps.length):(zgS ps).getD k 0=plo ps k:=by
 unfold zgS plo;rw [getD_eq_getElem?_getD,getElem?_map,zbG h];rfl
theorem zje{ps:List Part}(hl:ps.length<=100)(q:R (.d (zbf (zgS ps))) []):zdk [.d (zbv ps)] [] R:=by
 unfold zdk zbv;walk_at "e";refine cmp1 (S0:=[]) (fun p:Part=>.int p.2.1) rfl ps (by omega) ?_ ?_
 ·intro p mp u acc R' hk;rw [zh7];walk_at "e";exact hk _
 ·walk_at "e";have e:zbf (zgS ps)=.tuple (ps.map fun p:Part=>PyData.int p.2.1):=by
   unfold zbf zgS;rw [map_map];rfl
  rw [e] at q;exact q
theorem zkd{g:Gap}{ns:List Int}(h3:Tm3 ns.length g.ts)(q:R (.d (.int (worth g.ts ns))) []):zdY [.d (zjH g),.d (zbf ns)] [] R:=by
 unfold zdY zbf;rw [zco,znI];walk_at "e";refine cmp2 (S0:=[]) (fun t:Term=>.int (t.2*ns.getD t.1 0)) rfl g.ts (by have:=h3.len; omega) ?_ ?_
 ·intro t mt u v acc R' hk;obtain⟨t1,t2,t3⟩:=h3.ok t mt;have e:=zbj (f:=PyData.int) (zix t1);rw [zk2];walk_at "e";refine⟨_,e,?_⟩;walk_at "e";exact⟨zd5 (by omega) (by omega),hk _ _⟩
 ·walk_at "e";refine⟨g.ts.map fun t:Term=>t.2*ns.getD t.1 0,by rw [map_map]; rfl,q⟩
def zb8(g:Gap)(ns:List Int):Bool:=decide (g.lo<=worth g.ts ns/\worth g.ts ns<=g.hi)
theorem zo5{g:Gap}{ns:List Int}(h3:Tm3 ns.length g.ts)(q:R (.d (.bool (zb8 g ns))) []):zhR [.d (zjH g),.d (zbf ns)] [] R:=by
 unfold zhR;walk_at "e";rw [zco];walk_at "e";rw [<- zco];refine zkd h3 ?_;walk_at "e";unfold zb8 at q;by_cases h:g.lo<=worth g.ts ns
 ·simp only [h,true_and] at q;rw [if_pos h];exact q
 ·simp only [h,false_and,decide_false] at q;rw [if_neg h];exact q
def zoR(a t:Int):Int:=-(a / (-t))
theorem zg2{a t:Int}(h1:-3<=t)(h2:t<0)(q:R (.d (.int (zoR a t))) []):zcc [.d (.int a),.d (.int t)] [] R:=by
 unfold zcc;walk_at "e";refine .inr ⟨⟨by omega,by omega⟩,?_⟩;have e:(-a).fdiv t=a / (-t):=by
  have h:=Int.neg_fdiv_neg a (-t);rw [Int.neg_neg] at h;rw [h,Int.fdiv_eq_ediv_of_nonneg _ (by omega)]
 rw [e];exact q
theorem zks{a t x:Int}(h2:t<0):zoR a t<=x↔t*x<=a:=by
 unfold zoR;have e:t*x = -(x*(-t)):=by rw [Int.mul_neg,Int.neg_neg,Int.mul_comm]
 have k:-x<=a / (-t) ↔ -x*(-t)<=a:=Int.le_ediv_iff_mul_le (by omega);rw [Int.neg_mul] at k;rw [e];omega
def pick(ps:List Part)(t:Term)(ts:List Term)(left:Int):Int:=if t.2<0 then max (plo ps t.1) (zoR (left - zaa ps ts) t.2) else plo ps t.1
def GR(ps:List Part):List Term->Int->List Int->Prop
 | [],_,_=>True
 | t :: ts,left,res=>res.getD t.1 0=pick ps t ts left/\GR ps ts (left - t.2*pick ps t ts left) res
structure InBox(ps:List Part)(ns:List Int):Prop where
 len:ns.length=ps.length
 ok:∀ k,k<ps.length->plo ps k<=ns.getD k 0/\ns.getD k 0<=phi ps k
def Ord(ps:List Part):Prop:=∀ p∈ps,p.2.1<=p.2.2
theorem Drw.ord{ps:List Part}(h:Drw ps):Ord ps:=fun p m=>(h.all p m).le
theorem Ord.at{ps:List Part}(h:Ord ps){k:Nat}(hk:k<ps.length):plo ps k<=phi ps k:=h _ (zpI hk)
theorem zm8{ps:List Part}{t:Term}(o:plo ps t.1<=phi ps t.1)(h1:-3<=t.2)(h2:t.2<0):tLo ps t=t.2*phi ps t.1:=by
 unfold tLo;have:t.2 = -3\/t.2 = -2\/t.2 = -1:=by omega
 rcases this with e | e | e <;> rw [e] <;> omega
theorem zom{ps:List Part}{t:Term}(o:plo ps t.1<=phi ps t.1)(h1:t.2<=3)(h2:0<=t.2):tLo ps t=t.2*plo ps t.1:=by
 unfold tLo;have:t.2=0\/t.2=1\/t.2=2\/t.2=3:=by omega
 rcases this with e | e | e | e <;> rw [e] <;> omega
theorem zmX{ps:List Part}{t:Term}{ts:List Term}{left:Int}(o:plo ps t.1<=phi ps t.1)(h1:-3<=t.2)(h2:t.2<=3)(hl:zaa ps (t :: ts)<=left):
  plo ps t.1<=pick ps t ts left/\pick ps t ts left<=phi ps t.1/\zaa ps ts<=left - t.2*pick ps t ts left:=by
 rw [zed] at hl;unfold pick;by_cases hn:t.2<0
 ·rw [if_pos hn];rw [zm8 o h1 hn] at hl;have a1:=(zks (a:=left - zaa ps ts) (x:=phi ps t.1) hn).mpr (by omega);have a2:=(zks (a:=left - zaa ps ts) (x:=max (plo ps t.1) (zoR (left - zaa ps ts) t.2)) hn).mp (by omega);omega
 ·rw [if_neg hn];rw [zom o h2 (by omega)] at hl;omega
theorem GR.worth_le{ps:List Part}(ho:Ord ps){res:List Int}:∀ {ts:List Term} {left:Int},Tm3 ps.length ts->zaa ps ts<=left->GR ps ts left res->worth ts res<=left
 | [],left,_,hl,_=>by simpa [worth,zaa] using hl
 | t :: ts,left,h3,hl,⟨h1,h2⟩=>by
  obtain⟨t1,t2,t3⟩:=h3.ok t mem_cons_self;obtain⟨_,_,a3⟩:=zmX (ho.at t1) t2 t3 hl;have:=GR.worth_le ho h3.of_cons a3 h2;rw [zcY,h1];omega
theorem GR.box{ps:List Part}(ho:Ord ps){res:List Int}:∀ {ts:List Term} {left:Int},Tm3 ps.length ts->zaa ps ts<=left->GR ps ts left res->∀ t∈ts,plo ps t.1<=res.getD t.1 0/\res.getD t.1 0<=phi ps t.1
 | [],left,_,hl,_=>by simp
 | t :: ts,left,h3,hl,⟨h1,h2⟩=>by
  obtain⟨t1,t2,t3⟩:=h3.ok t mem_cons_self;obtain⟨a1,a2,a3⟩:=zmX (ho.at t1) t2 t3 hl;have:=GR.box ho h3.of_cons a3 h2;intro u m;rcases mem_cons.mp m with rfl | m
  ·rw [h1]; exact⟨a1,a2⟩
  ·exact this u m
theorem zfO{ps:List Part}{ms:List Int}(hb:InBox ps ms):∀ {ts:List Term},Tm3 ps.length ts->zaa ps ts<=worth ts ms/\worth ts ms<=zbP ps ts
 | [],_=>by simp [zaa,zbP,worth]
 | t :: ts,h3=>by
  obtain⟨t1,t2,t3⟩:=h3.ok t mem_cons_self;obtain⟨b1,b2⟩:=hb.ok t.1 t1;have ih:=zfO hb h3.of_cons;rw [zed,zhE,zcY];have k:tLo ps t<=t.2*ms.getD t.1 0/\t.2*ms.getD t.1 0<=tHi ps t:=by
   unfold tLo tHi;generalize plo ps t.1=lo at b1 b2 ⊢;generalize phi ps t.1=hi at b1 b2 ⊢;generalize ms.getD t.1 0=x at b1 b2 ⊢;have:t.2 = -3\/t.2 = -2\/t.2 = -1\/t.2=0\/t.2=1\/t.2=2\/t.2=3:=by omega
   rcases this with e | e | e | e | e | e | e <;> rw [e] <;> omega
  omega
theorem GR.first{ps:List Part}{res ms:List Int}(hb:InBox ps ms){k:Nat}(heq:∀ j,j<k->ms.getD j 0=res.getD j 0)(hlt:ms.getD k 0<res.getD k 0):∀ {ts:List Term} {left:Int},Tm3 ps.length ts->(ts.Pairwise fun t u=>t.1<u.1)->GR ps ts left res->(∃ t∈ts,t.1=k)->left<worth ts ms
 | [],left,_,_,_,⟨t,m,_⟩=>by cases m
 | t :: ts,left,h3,hw,⟨h1,h2⟩,⟨u,mu,eu⟩=>by
  obtain⟨t1,t2,t3⟩:=h3.ok t mem_cons_self;rw [List.pairwise_cons] at hw;rw [zcY];rcases mem_cons.mp mu with rfl | mu
  ·have b:=(hb.ok u.1 t1).1;subst eu;rw [h1] at hlt;have lw:=(zfO hb h3.of_cons).1;unfold pick at hlt;by_cases hn:u.2<0
   ·rw [if_pos hn] at hlt;have:¬ zoR (left - zaa ps ts) u.2<=ms.getD u.1 0:=by omega
    rw [zks hn] at this;omega
   ·rw [if_neg hn] at hlt;omega
  ·have hk:t.1<k:=by rw [<- eu]; exact hw.1 u mu
   have:=GR.first hb heq hlt h3.of_cons hw.2 h2 ⟨u,mu,eu⟩
   rw [heq t.1 hk,h1];omega
theorem zkT:∀ {a b:List Int},a.length=b.length->HT.lexLt a b=true->∃ k,k<a.length/\(∀ j,j<k->a.getD j 0=b.getD j 0)/\a.getD k 0<b.getD k 0
 | [],[],_,h=>by cases h
 | [],_ :: _,h,_=>by simp at h
 | _ :: _,[],h,_=>by simp at h
 | x :: xs,y :: ys,hl,h=>by
  rw [HT.lexLt_cons] at h;by_cases e:x=y
  ·subst e;rw [if_pos rfl] at h;obtain⟨k,h1,h2,h3⟩:=zkT (by simpa using hl) h;refine⟨k+1,by simp; omega,fun j hj=>?_,by simpa using h3⟩;cases j with
   | zero=>rfl
   | succ j=>simpa using h2 j (by omega)
  ·rw [if_neg e] at h;exact⟨0,by simp,fun j hj=>by omega,by simpa using h⟩
def FirstNG(ps:List Part)(ts:List Term)(most:Int):Option (List Int)->Prop
 | none=>∀ ms,InBox ps ms->most<worth ts ms
 | some ns=>InBox ps ns/\worth ts ns<=most/\∀ ms,InBox ps ms->worth ts ms<=most->HT.lexLt ms ns=false
theorem zlR{ps:List Part}{ts:List Term}{most:Int}{res:List Int}(ho:Ord ps)(hn:ps.length<=100)(ht:Tms ps.length ts)(hl:zaa ps ts<=most)(hr:res.length=ps.length)(hout:∀ j,j<ps.length->(∀ t∈ts,t.1≠j)->res.getD j 0=plo ps j)(hg:GR ps ts most res):FirstNG ps ts most (some res):=by
 have h3:Tm3 ps.length ts:=⟨by have:=ht.len; omega,fun t m=>⟨(ht.ok t m).1,(ht.ok t m).2.2⟩⟩;refine⟨⟨hr,fun k hk=>?_⟩,hg.worth_le ho h3 hl,fun ms hb hw=>?_⟩
 ·by_cases hx:∃ t∈ts,t.1=k
  ·obtain⟨t,m,rfl⟩:=hx;exact hg.box ho h3 hl t m
  ·rw [hout k hk fun t m e=>hx ⟨t,m,e⟩];exact⟨Int.le_refl _,ho.at hk⟩
 ·cases hlt:HT.lexLt ms res with
  | false=>rfl
  | true =>
   obtain⟨k,k1,k2,k3⟩:=zkT (by rw [hb.len,hr]) hlt;rw [hb.len] at k1;by_cases hx:∃ t∈ts,t.1=k
   ·have:=hg.first hb k2 k3 h3 ht.srt hx
    omega
   ·rw [hout k k1 fun t m e=>hx ⟨t,m,e⟩] at k3;have:=(hb.ok k k1).1;omega
def zsh:Option (List Int)->PyData
 | none=>.none
 | some ns=>zbf ns
theorem zmv{n k:Nat}(h:k<n):ixN n (k:Int)=some k:=by
 unfold ixN;rw [if_pos (by omega),if_pos (by omega)];simp
theorem zpT{α:Type}{f:α->PyData}{ts:List α}{i:Nat}(il:i<ts.length):zdE (ts.map f) (some ((i:Int)+1)) none=(ts.drop (i+1)).map f:=by
 have ei:(i:Int)+1=((i+1:Nat):Int):=by omega
 unfold zdE;have e1:HT.sIx ts.length ts.length none=ts.length:=rfl;rw [length_map,ei,e1,HT.sIx_nat,Nat.min_eq_left il,take_of_length_le (by simp),map_drop]
theorem zok{n i:Nat}(il:i<n):¬ (HT.sIx n 0 (some ((i:Int)+1))=0/\HT.sIx n n none=n):=fun z=>by
 have ei:(i:Int)+1=((i+1:Nat):Int):=by omega
 have:=z.1;rw [ei,HT.sIx_nat] at this;omega
theorem zeN{l:List Int}{k:Nat}{x:Int}(h:k<l.length):(l.set k x).getD k 0=x:=by
 rw [getD_eq_getElem?_getD,getElem?_set_self h];rfl
theorem zgp{l:List Int}{k j:Nat}{x:Int}(h:k≠j):(l.set k x).getD j 0=l.getD j 0:=by
 rw [getD_eq_getElem?_getD,getD_eq_getElem?_getD,getElem?_set_ne h]
theorem zcA{ps:List Part}{ts:List Term}{most:Int}(ho:Ord ps)(hn:ps.length<=100)(ht:Tms ps.length ts)(q:∀ r,FirstNG ps ts most r->R (.d (zsh r)) []):zaA [.d (zbv ps),.d (znI ts),.d (.int most)] [] R:=by
 have h3:Tm3 ps.length ts:=⟨by have:=ht.len; omega,fun t m=>⟨(ht.ok t m).1,(ht.ok t m).2.2⟩⟩;unfold zaA;walk_at "d";walk_at "n";refine zcV rfl h3 ?_;unfold spD;walk_at "d";split
 ·rename_i hgt;exact q none fun ms hb=>by have:=(zfO hb h3).1; omega
 rename_i hle
 walk_at "n"
 refine zje hn ?_;unfold zbf;walk_at "d"
 walk_at "n"
 walk_at "n";unfold znI;walk_at "d";refine zaj (fun i δ S=>∃ (ns:List Int) (left:Int) (u1 u2 u3:Option XV),ns.length=ps.length/\(∀ j,j<ps.length->(∀ t∈ts.take i,t.1≠j)->ns.getD j 0=plo ps j) /\
   (∀ res:List Int,(∀ t∈ts.take i,res.getD t.1 0=ns.getD t.1 0)->GR ps (ts.drop i) left res->GR ps ts most res)/\S=[ns.map PyData.int] /\
   δ=[some (.d (zbv ps)),some (.d (.tuple (ts.map tmD))),some (.d (.int most)),some (.l 0),some (.d (.int left)),u1,u2,u3]) ⟨zgS ps,most,_,_,_,by simp [zgS],fun j hj _=>zlE hj,fun res _ h=>h,rfl,rfl⟩ ?_ ?_
 ·rintro i d _ _ N hi ⟨ns,left,u1,u2,u3,hl,hout,hg,rfl,rfl⟩ hN;obtain⟨e,he,rfl⟩:=zeO _ 0 i d hi;obtain⟨t,ht',rfl⟩:=zbE he;have mt:=mem_of_getElem? ht';have il:i<ts.length:=(List.getElem?_eq_some_iff.mp ht').1;obtain⟨t1,t2,t3,t4⟩:=ht.ok t mt;have ed:ts.drop i=t :: ts.drop (i+1):=by
   rw [List.drop_eq_getElem_cons il];rw [getElem?_eq_getElem il] at ht';rw [Option.some.inj ht']
  have notin:∀ u∈ts.take i,u.1≠t.1:=by
   intro u mu;have hs:=ht.srt;rw [<- List.take_append_drop i ts,ed,List.pairwise_append] at hs;have:=hs.2.2 u mu t mem_cons_self;omega
  have et:ns.getD t.1 0=plo ps t.1:=hout t.1 t1 notin;have eget:=zbj (f:=PyData.int) (zix (show t.1<ns.length by rw [hl]; exact t1));have tk:ts.take (i+1)=ts.take i++[t]:=by rw [take_add_one,ht']; rfl
  rw [zk2];walk_at "d";have fin:∀ x,x=pick ps t (ts.drop (i+1)) left->(t.2<0->x=max (plo ps t.1) (zoR (left - zaa ps (ts.drop (i+1))) t.2))->∀ u1 u2 u3,N [some (.d (zbv ps)),some (.d (.tuple (ts.map tmD))),some (.d (.int most)),some (.l 0),some (.d (.int (left - t.2*x))),u1,u2,u3] [(ns.set t.1 x).map PyData.int]:=by
   intro x ex _ u1 u2 u3;refine hN _ _ ⟨ns.set t.1 x,left - t.2*x,u1,u2,u3,by simp [hl],fun j hj hj'=>?_,fun res hr hgr=>?_,rfl,rfl⟩
   ·rw [tk] at hj';have n1:t.1≠j:=hj' t (by simp);rw [zgp n1];exact hout j hj fun u mu=>hj' u (mem_append_left _ mu)
   ·rw [tk] at hr;refine hg res (fun u mu=>?_) ?_
    ·rw [hr u (mem_append_left _ mu),zgp (Ne.symm (notin u mu))]
    ·rw [ed];refine⟨?_,by rw [<- ex]; exact hgr⟩;rw [hr t (by simp),zeN (by rw [hl]; exact t1),ex]
  refine cut (fun δ S=>∃ x u,x=pick ps t (ts.drop (i+1)) left/\S=[(ns.set t.1 x).map PyData.int]/\δ=[some (.d (zbv ps)),some (.d (.tuple (ts.map tmD))),some (.d (.int most)),some (.l 0),some (.d (.int left)),some (.d (.int (i:Int))),some (.d (.tuple [.int t.1,.int t.2])),u]) (fun N' hN'=>?_) ?_
  ·walk_at "d";by_cases hneg:t.2<0
   ·rw [if_pos hneg]
    walk_at "n"
    rw [zpT il];refine⟨by simpa using zok il,?_⟩;refine zcV rfl (h3.drop _) ?_;unfold spD;walk_at "d";refine⟨_,eget,?_⟩;walk_at "d";refine zg2 t3 hneg ?_;walk_at "d";refine⟨_,zmv (by rw [hl]; exact t1),?_⟩;have ep:(if zoR (left - zaa ps (ts.drop (i+1))) t.2>ns.getD t.1 0 then zoR (left - zaa ps (ts.drop (i+1))) t.2 else ns.getD t.1 0)=pick ps t (ts.drop (i+1)) left:=by
     unfold pick;rw [if_pos hneg,et];split <;> omega
    rw [ep];exact hN' _ _ ⟨_,_,rfl,by rw [map_set],rfl⟩
   ·rw [if_neg hneg];have ep:pick ps t (ts.drop (i+1)) left=ns.getD t.1 0:=by
     unfold pick;rw [if_neg hneg,et]
    refine hN' _ _ ⟨_,_,rfl,?_,rfl⟩;rw [ep];congr 1;congr 1;apply List.ext_getElem?;intro j;by_cases hj:t.1=j
    ·subst hj;rw [getElem?_set_self (by rw [hl]; exact t1),zix (by rw [hl]; exact t1)]
    ·rw [getElem?_set_ne hj]
  ·rintro _ _ ⟨x,u,ex,rfl,rfl⟩;have eget2:=zbj (f:=PyData.int) (zix (ns:=ns.set t.1 x) (k:=t.1) (by simp [hl]; exact t1));rw [zeN (by rw [hl]; exact t1)] at eget2;walk_at "d";refine⟨_,eget2,?_⟩;walk_at "d";refine⟨zd5 (by omega) (by omega),fin x ex (fun hneg=>by rw [ex]; unfold pick; rw [if_pos hneg]) _ _ _⟩
 ·rintro _ _ ⟨ns,left,u1,u2,u3,hl,hout,hg,rfl,rfl⟩;rw [zcF,length_map,take_length] at hout;rw [zcF,length_map,take_length,drop_length] at hg;walk_at "d";exact q (some ns) (zlR ho hn ht (by omega) hl hout (hg ns (fun _ _=>rfl) trivial))
def opp(ts:List Term):List Term:=ts.map fun t=>(t.1,-t.2)
theorem zrq{n:Nat}{ts:List Term}(h:Tms n ts):Tms n (opp ts) where
 ne:=by unfold opp; simp [h.ne]
 len:=by unfold opp; rw [length_map]; exact h.len
 ok:=fun t m=>by
  obtain⟨u,mu,rfl⟩:=mem_map.mp m;obtain⟨a,b,c,d⟩:=h.ok u mu;exact⟨a,by simp only; omega,by simp only; omega,by simp only; omega⟩
 srt:=by
  unfold opp;rw [List.pairwise_map];exact h.srt
theorem zf6{ns:List Int}:∀ ts:List Term,worth (opp ts) ns = - worth ts ns
 | []=>rfl
 | t :: ts=>by
  have e:opp (t :: ts)=(t.1,-t.2) :: opp ts:=rfl;rw [e,zcY,zcY,zf6 ts];simp only [Int.neg_mul];omega
theorem zj7{ts:List Term}(hl:ts.length<=100)(q:R (.d (znI (opp ts))) []):zd0 [.d (znI ts)] [] R:=by
 unfold zd0;rw [znI];walk_at "e";refine cmp2 (S0:=[]) (fun t:Term=>tmD (t.1,-t.2)) rfl ts (by omega) ?_ ?_
 ·intro t mt u v acc R' hk;rw [zk2];walk_at "e";exact hk _ _
 ·walk_at "e";have e:znI (opp ts)=.tuple (ts.map fun t:Term=>tmD (t.1,-t.2)):=by
   unfold znI opp;rw [map_map];rfl
  rw [e] at q;exact q
def zp9(ps:List Part)(gs:List Gap):PyData:=.tuple [zbv ps,zcP gs]
def Brk(ps:List Part)(g:Gap):Option (List Int)×Option (List Int)->Prop:=fun r=>FirstNG ps g.ts (g.lo - 1) r.1/\FirstNG ps (opp g.ts) (-g.hi - 1) r.2
def flat2(rs:List (Option (List Int)×Option (List Int))):List (Option (List Int)):=rs.flatMap fun r=>[r.1,r.2]
theorem zgM:∀ rs,(flat2 rs).length=2*rs.length
 | []=>rfl
 | r :: rs=>by
  have:=zgM rs;simp only [flat2,List.flatMap_cons,length_append,length_cons,length_nil] at this ⊢;omega
theorem ze7{ps:List Part}{gs:List Gap}(ho:Ord ps)(hn:ps.length<=100)(hl:gs.length<=100)(hg:∀ g∈gs,Tms ps.length g.ts)
  (q:∀ rs,Paired (Brk ps) gs rs->R (.d (.list ((flat2 rs).map zsh))) []):zbr [.d (zp9 ps gs)] [] R:=by
 unfold zbr;rw [zp9,zcP];walk_at "d"
 walk_at "n"
 walk_at "n";refine zaj (fun i δ S=>∃ (rs:List (Option (List Int)×Option (List Int))) (u1 u2 u3:Option XV),Paired (Brk ps) (gs.take i) rs/\S=[(flat2 rs).map zsh]/\δ=[some (.d (.tuple [zbv ps,.tuple (gs.map zjH)])),some (.l 0),u1,u2,u3]) ⟨[],_,_,_,.nil,rfl,rfl⟩ ?_ ?_
 ·rintro i d _ _ N hi ⟨rs,u1,u2,u3,pr,rfl,rfl⟩ hN;obtain⟨g,hg',rfl⟩:=zbE hi;have mg:=mem_of_getElem? hg';have ht:=hg g mg;have il:i<gs.length:=(List.getElem?_eq_some_iff.mp hg').1;have pl:=Paired.length pr;rw [length_take] at pl;have fl:=zgM rs;rw [zco];walk_at "d"
  walk_at "n"
  refine zcA ho hn ht fun r1 hr1=>?_;walk_at "d";refine⟨by omega,?_⟩;walk_at "d";refine zj7 (by have:=ht.len; omega) ?_;walk_at "d";refine zcA ho hn (zrq ht) fun r2 hr2=>?_;walk_at "d";refine⟨by omega,hN _ _ ⟨rs++[(r1,r2)],_,_,_,?_,?_,rfl⟩⟩
  ·have tk:gs.take (i+1)=gs.take i++[g]:=by rw [take_add_one,hg']; rfl
   rw [tk];have app:∀ {a:List Gap} {b:List (Option (List Int)×Option (List Int))},Paired (Brk ps) a b->Paired (Brk ps) (a++[g]) (b++[(r1,r2)]):=by
    intro a b h;induction h with
    | nil=>exact .cons ⟨hr1,hr2⟩ .nil
    | cons h _ ih=>exact .cons h ih
   exact app pr
  ·simp [flat2]
 ·rintro _ _ ⟨rs,u1,u2,u3,pr,rfl,rfl⟩;rw [length_map,take_length] at pr;walk_at "d";exact .inl (q rs pr)
theorem zjl{gs:List Gap}{ns:List Int}(hl:gs.length<=100)(h3:∀ g∈gs,Tm3 ns.length g.ts)(q:R (.d (.list (gs.map fun g=>.bool (zb8 g ns)))) []):zdd [.d (zcP gs),.d (zbf ns)] [] R:=by
 unfold zdd;rw [zcP];walk_at "e";refine cmp1 (S0:=[]) (fun g:Gap=>.bool (zb8 g ns)) rfl gs (by omega) ?_ ?_
 ·intro g mg u acc R' hk;walk_at "e";refine zo5 (h3 g mg) ?_;walk_at "e";exact hk _
 ·walk_at "e";exact .inl q
def BrkS(gs:List Gap)(ms:List Int):Prop:=∃ g∈gs,zb8 g ms=false
theorem zf8:∀ (bs:List Bool),false∈bs->∃ j:Nat,bs[j]? = some false/\∀ m:Nat,m<j->bs[m]? = some true
 | [],h=>by cases h
 | false :: bs,_=>⟨0,rfl,fun m hm=>by omega⟩
 | true :: bs,h=>by
  obtain⟨j,h1,h2⟩:=zf8 bs (by simpa using h);refine⟨j+1,by simpa using h1,fun m hm=>?_⟩;cases m with
  | zero=>rfl
  | succ m=>simpa using h2 m (by omega)
theorem zhj{α β:Type}{r:α->β->Prop}:∀ {a:List α} {b:List β},Paired r a b->(∀ x∈a,∃ y∈b,r x y)/\(∀ y∈b,∃ x∈a,r x y)
 | _,_,.nil=>⟨by simp,by simp⟩
 | _,_,.cons h t=>by
  obtain⟨h1,h2⟩:=zhj t;refine⟨fun x m=>?_,fun y m=>?_⟩
  ·rcases mem_cons.mp m with rfl | m
   ·exact⟨_,mem_cons_self,h⟩
   ·obtain⟨y,my,hy⟩:=h1 x m;exact⟨y,mem_cons_of_mem _ my,hy⟩
  ·rcases mem_cons.mp m with rfl | m
   ·exact⟨_,mem_cons_self,h⟩
   ·obtain⟨x,mx,hx⟩:=h2 y m;exact⟨x,mem_cons_of_mem _ mx,hx⟩
theorem zhK{ps:List Part}{gs:List Gap}(ho:Ord ps)(hn:ps.length<=100)(hl:gs.length<=100)(hg:∀ g∈gs,Tms ps.length g.ts)
  (no:(∀ ms,InBox ps ms->¬ BrkS gs ms)->R (.d .none) [])
  (yes:∀ (one:List Int) (j:Nat) (g:Gap),InBox ps one->gs[j]? = some g->zb8 g one=false->(∀ (m:Nat) (g':Gap),m<j->gs[m]? = some g'->zb8 g' one=true)->(∀ ms,InBox ps ms->BrkS gs ms->HT.lexLt ms one=false)->R (.d (.tuple [zbf one,.int (j:Nat)])) []):zdG [.d (zp9 ps gs)] [] R:=by
 unfold zdG;walk_at "d"
 walk_at "n"
 refine ze7 ho hn hl hg fun rs pr=>?_;have pl:=Paired.length pr;have fl:=zgM rs;obtain⟨pm1,pm2⟩:=zhj pr;walk_at "d";refine cmf1 (S0:=[]) zsh (fun r:Option (List Int)=>r.isSome) rfl (flat2 rs) (by omega) ?_ ?_
 ·intro r mr u acc R' hk;walk_at "d";cases r with
  | none =>
   refine hk _ fun h=>?_;cases h
  | some ns =>
   refine hk _ fun _ T hT=>?_;walk_at "d";exact hT
 ·obtain⟨nss,en⟩:∃ nss:List (List Int),(flat2 rs).filter (fun r=>r.isSome)=nss.map some:=by
   have:∀ l:List (Option (List Int)),∃ nss:List (List Int),l.filter (fun r=>r.isSome)=nss.map some:=by
    intro l;induction l with
    | nil=>exact⟨[],rfl⟩
    | cons r l ih =>
     obtain⟨nss,e⟩:=ih;cases r with
     | none=>exact⟨nss,by simpa using e⟩
     | some ns=>exact⟨ns :: nss,by simp [e]⟩
   exact this _
  have memN:∀ ns,ns∈nss↔some ns∈flat2 rs:=fun ns=>by
   have:some ns∈(flat2 rs).filter (fun r=>r.isSome)↔some ns∈flat2 rs:=by simp [mem_filter]
   rw [<- this,en];simp
  have mem2:∀ r,r∈flat2 rs↔∃ x∈rs,r=x.1\/r=x.2:=fun r=>by
   unfold flat2;rw [List.mem_flatMap];simp
  rw [en,map_map];have em:nss.map (zsh∘some)=nss.map zoy:=rfl;rw [em];walk_at "d"
  -- whoever breaks comes behind one of them
  have behind:∀ ms,InBox ps ms->BrkS gs ms->∃ ns∈nss,HT.lexLt ms ns=false:=by
   rintro ms hb ⟨g,mg,hk⟩;obtain⟨x,mx,x1,x2⟩:=pm1 g mg;have hk':¬ (g.lo<=worth g.ts ms/\worth g.ts ms<=g.hi):=by simpa [zb8] using hk
   by_cases h1:worth g.ts ms<=g.lo - 1
   ·cases e:x.1 with
    | none =>
     rw [e] at x1;have:=x1 ms hb;omega
    | some ns =>
     rw [e] at x1;exact⟨ns,(memN ns).mpr ((mem2 _).mpr ⟨x,mx,.inl e.symm⟩),x1.2.2 ms hb h1⟩
   ·have h2:worth (opp g.ts) ms <= -g.hi - 1:=by rw [zf6]; omega
    cases e:x.2 with
    | none =>
     rw [e] at x2;have:=x2 ms hb;omega
    | some ns =>
     rw [e] at x2;exact⟨ns,(memN ns).mpr ((mem2 _).mpr ⟨x,mx,.inr e.symm⟩),x2.2.2 ms hb h2⟩
  have each:∀ ns∈nss,InBox ps ns/\BrkS gs ns:=by
   intro ns mn;obtain⟨x,mx,hx⟩:=(mem2 _).mp ((memN ns).mp mn);obtain⟨g,mg,x1,x2⟩:=pm2 x mx;rcases hx with hx | hx
   ·rw [<- hx] at x1;exact⟨x1.1,g,mg,by have:=x1.2.1; simp [zb8]; omega⟩
   ·rw [<- hx] at x2;refine⟨x2.1,g,mg,?_⟩;have:=x2.2.1;rw [zf6] at this;simp [zb8];omega
  cases hne:nss with
  | nil =>
   walk_at "n";refine no fun ms hb hbr=>?_;obtain⟨ns,mn,_⟩:=behind ms hb hbr;rw [hne] at mn;cases mn
  | cons n0 nr =>
   rw [<- hne];have nn:nss≠[]:=by rw [hne]; simp
   have ie:(nss.map zoy).isEmpty=false:=by rw [hne]; rfl
   walk_at "n";rw [ie];walk_at "d"
   walk_at "n"
   refine .inr ⟨_,rfl,nss,rfl,nn,fun one mo hmin=>?_⟩;obtain⟨ob,g0,mg0,hb0⟩:=each one mo;walk_at "d";rw [show zoy one=zbf one from rfl];rw [zp9];walk_at "d";refine zjl hl (fun g mg=>by rw [ob.len]; exact⟨by have:=(hg g mg).len; omega,fun t m=>⟨((hg g mg).ok t m).1,((hg g mg).ok t m).2.2⟩⟩) ?_;obtain⟨j,j1,j2⟩:=zf8 (gs.map fun g=>zb8 g one) (mem_map.mpr ⟨g0,mg0,hb0⟩);rw [getElem?_map] at j1;obtain⟨gj,e1,e2⟩:=map_eq_some_iff.mp j1;walk_at "d";refine⟨(zfQ (n:=0) fun d m=>by obtain⟨g,_,rfl⟩:=mem_map.mp m; exact zhV).ok,by omega,j,⟨.bool false,by rw [getElem?_map,e1]; simp [e2],rfl⟩,fun m e hm he=>?_,?_⟩
   ·obtain⟨g',hg1,rfl⟩:=zbE he;have:=j2 m hm;rw [getElem?_map,hg1] at this;have t:zb8 g' one=true:=by simpa using this
    rw [t];rfl
   ·walk_at "d";refine yes one j gj ob e1 e2 (fun m g' hm hg'=>?_) fun ms hb hbr=>?_
    ·have:=j2 m hm;rw [getElem?_map,hg'] at this;simpa using this
    ·obtain⟨ns,mn,hn⟩:=behind ms hb hbr;exact ze8 ms ns one hn (hmin ns mn)
end
section
variable {R:RX} {S:Sto}
def zjG:PyData->Bool
 | .int _=>true
 | _=>false
theorem zi0{d:PyData}(q:R (.d (.bool (zjG d))) []):zah [.d d] [] R:=by
 unfold zah;cases d <;> (walk_at "e"; exact q)
theorem zfU:∀ {ts:List Term},(ts.Pairwise fun t u=>t.1<u.1)->∀ {t:Term},t∈ts->ts.find? (fun u=>u.1 == t.1)=some t
 | [],_,t,m=>by cases m
 | u :: ts,hs,t,m=>by
  rw [List.pairwise_cons] at hs;rcases mem_cons.mp m with rfl | m
  ·simp
  ·have:=hs.1 t m;rw [List.find?_cons_of_neg (by simp; omega)];exact zfU hs.2 m
def corner(ps:List Part)(ts:List Term)(up:Bool):List Int:=(List.range ps.length).map fun j=>match ts.find? (fun u=>u.1 == j) with
 | some t=>if decide (t.2<0)=up then plo ps j else phi ps j
 | none=>plo ps j
theorem ze4{ps:List Part}{ts:List Term}{up:Bool}{j:Nat}(h:j<ps.length):(corner ps ts up).getD j 0=match ts.find? (fun u=>u.1 == j) with
  | some t=>if decide (t.2<0)=up then plo ps j else phi ps j
  | none=>plo ps j:=by
 unfold corner;rw [getD_eq_getElem?_getD,getElem?_map,getElem?_range h];rfl
theorem zhL{ps:List Part}{ts:List Term}{up:Bool}(ho:Ord ps):InBox ps (corner ps ts up):=by
 refine⟨by simp [corner],fun k hk=>?_⟩;rw [ze4 hk];have:=ho.at hk;split
 ·split <;> omega
 ·omega
theorem zi3{ps:List Part}{ts:List Term}(ho:Ord ps)(h3:Tm3 ps.length ts)(hs:ts.Pairwise fun t u=>t.1<u.1):worth ts (corner ps ts false)=zaa ps ts:=by
 unfold worth zaa;congr 1;apply map_congr_left;intro t m;obtain⟨t1,t2,t3⟩:=h3.ok t m;rw [ze4 t1,zfU hs m];simp only;by_cases hn:t.2<0
 ·rw [if_neg (by simp [hn]),zm8 (ho.at t1) t2 hn]
 ·rw [if_pos (by simp [hn]),zom (ho.at t1) t3 (by omega)]
theorem zke{ps:List Part}{ts:List Term}(ho:Ord ps)(h3:Tm3 ps.length ts)(hs:ts.Pairwise fun t u=>t.1<u.1):worth ts (corner ps ts true)=zbP ps ts:=by
 unfold worth zbP;congr 1;apply map_congr_left;intro t m;obtain⟨t1,t2,t3⟩:=h3.ok t m;rw [ze4 t1,zfU hs m];simp only;have o:=ho.at t1;unfold tHi;generalize plo ps t.1=lo at o ⊢;generalize phi ps t.1=hi at o ⊢;have:t.2 = -3\/t.2 = -2\/t.2 = -1\/t.2=0\/t.2=1\/t.2=2\/t.2=3:=by omega
 rcases this with e | e | e | e | e | e | e <;> rw [e] <;> simp <;> omega
theorem Tms.tm3'{n:Nat}{ts:List Term}(h:Tms n ts)(hn:n<=100):Tm3 n ts:=⟨by have:=h.len; omega,fun t m=>⟨(h.ok t m).1,(h.ok t m).2.2⟩⟩
theorem zjC{ps:List Part}{g:Gap}(ho:Ord ps)(hn:ps.length<=100)(ht:Tms ps.length g.ts):(∀ ms,InBox ps ms->zb8 g ms=true)↔g.lo<=zaa ps g.ts/\zbP ps g.ts<=g.hi:=by
 have h3:=ht.tm3' hn;constructor
 ·intro h;have h1:=h _ (zhL (ts:=g.ts) (up:=false) ho);have h2:=h _ (zhL (ts:=g.ts) (up:=true) ho);unfold zb8 at h1 h2;rw [zi3 ho h3 ht.srt,decide_eq_true_eq] at h1;rw [zke ho h3 ht.srt,decide_eq_true_eq] at h2;exact⟨h1.1,h2.2⟩
 ·rintro⟨h1,h2⟩ ms hb;have:=zfO hb h3;unfold zb8;rw [decide_eq_true_eq];omega
def zjJ(ps:List Part)(g:Gap):Bool:=decide (g.lo<=zaa ps g.ts/\zbP ps g.ts<=g.hi)
end
section
variable {R:RX} {S:Sto}
def rng(lo:Int)(n:Nat):List Int:=(List.range n).map fun k:Nat=>lo+k
def zm3(p:Part):List Int:=rng p.2.1 (p.2.2 - p.2.1+1).toNat
theorem zpn(p:Part):(zm3 p).length=(p.2.2 - p.2.1+1).toNat:=by simp [zm3,rng]
def ext(found:List (List Int))(p:Part):List (List Int):=found.flatMap fun a=>(zm3 p).map fun x=>a++[x]
def zao:List Nat->Nat
 | []=>1
 | x :: xs=>x*zao xs
def zrY(ps:List Part):Nat:=zao (ps.map fun p=>(p.2.2 - p.2.1+1).toNat)
theorem zc4{α β:Type}{f:α->List β}{n:Nat}:∀ {l:List α},(∀ x∈l,(f x).length=n)->(l.flatMap f).length=l.length*n
 | [],_=>by simp
 | x :: l,h=>by
  rw [List.flatMap_cons,length_append,h x mem_cons_self,zc4 fun y m=>h y (mem_cons_of_mem _ m),length_cons,succ_mul,Nat.add_comm]
theorem zmO{found:List (List Int)}{p:Part}:(ext found p).length=found.length*(p.2.2 - p.2.1+1).toNat:=by
 unfold ext;exact zc4 fun x _=>by rw [length_map,zpn]
theorem zeH:∀ {l:List Nat},(∀ x∈l,1<=x)->1<=zao l
 | [],_=>le_refl _
 | x :: l,h=>mul_le_mul (h x mem_cons_self) (zeH fun y m=>h y (mem_cons_of_mem _ m))
theorem zdK:∀ (a b:List Nat),zao (a++b)=zao a*zao b
 | [],b=>by simp [zao]
 | x :: a,b=>by simp [zao,zdK a b,Nat.mul_assoc]
theorem zdg{α:Type}{l:List α}{i:Nat}{x:α}(h:l[i]? = some x):l.take (i+1)=l.take i++[x]:=by rw [take_add_one,h]; rfl
theorem ziK(a:List Int)(x:Int):PyData.tuple (a.map PyData.int++[.int x])=zbf (a++[x]):=by simp [zbf]
end
section
variable {R:RX} {S:Sto}
structure Wds(ws:List Int):Prop where
 l1:1<=ws.length
 l8:ws.length<=8
 pos:∀ x∈ws,1<=x
 le:∀ x∈ws,x<=300
 prod:zao (ws.map Int.toNat)<=300
theorem prod3:∀ {ws:List Int},(∀ x∈ws,1<=x/\x<=3)->zao (ws.map Int.toNat)<=3 ^ ws.length
 | [],_=>by simp [zao]
 | x :: ws,h=>by
  have h1:=h x mem_cons_self;have h2:=prod3 fun y m=>h y (mem_cons_of_mem _ m);rw [map_cons,zao,length_cons,Nat.pow_succ,mul_comm];exact mul_le_mul h2 (by omega)
theorem wds3{ws:List Int}(l1:1<=ws.length)(l4:ws.length<=4)(h:∀ x∈ws,1<=x/\x<=3):Wds ws:=by
 refine⟨l1,by omega,fun x m=>(h x m).1,fun x m=>by have:=(h x m).2; omega,le_trans (prod3 h) ?_⟩;have:ws.length=1\/ws.length=2\/ws.length=3\/ws.length=4:=by omega
 rcases this with e | e | e | e <;> rw [e] <;> decide
theorem zoN{Q names number:PN}{p:List PyData}{m:Int}(hQ:Q=fun xs S R=>(zM (zab (zB 0 1 names (zb (zh 0) zo)) (zi 2)) (zM (zab (zcq [none,some 0] (zaI (zb (dOp zbK (dC (.int 1)) (zB 0 2 zn (zb (zh 0) (zb (zh 1) zo)))) zo)) (zi 0) zax (dOp zbK (dC (.int 1)) (zB 0 2 zn (zb (zh 1) (zb (dC (.int 3)) zo))))) (zi 3)) (zM (zcy (dB (dOp zfr (zB 0 2 zn (zb (zh 0) (zb (dC (.int 12)) zo))) (dC (.int 0)))) (zab (dOp dIx (zfz (zb (dOp zfy (zfz (zb (dC (.int 2)) zo)) (dC (.int 8))) (zb (zfz (zb (dC (.int 17)) (zb (dC (.int 17)) zo))) (zb (zfz (zb (dC (.int 300)) zo)) (zb (dOp zfy (zfz (zb (dC (.int 1)) zo)) (dC (.int 8))) zo))))) (zB 0 2 zn (zb (zh 0) (zb (dC (.int 4)) zo)))) (zi 3)) zaG) (zM (zab (zcX zo) (zi 4)) (zM (zfI (zaI (zb (dCB zcu (zb (zh 3) zo)) zo)) (zi 5) (zM (zab (zB 0 1 number (zb (zh 0) zo)) (zi 6)) (zct (dBM zbs (zh 4) (zb (zbZ (zb (dOp dIx (zh 2) (zh 5)) (zb (zh 6) (zb (dOp (dI0 fun i j=>i - j) (dOp zbK (zh 6) (dOp dIx (zh 3) (zh 5))) (dC (.int 1))) zo)))) zo))))) (zaM (dCB za7 (zb (zh 4) zo)))))))) (zbk S.length R) (xs.map some++List.replicate 5 none) S)
  (hnames:∀ {p:List PyData} {R:RX},zY p->(∀ (ns:List Str) p',ns.length=8->(∀ z∈ns,zez z=true)->zY p'->R (.d (.list (ns.map PyData.str))) [p'])->names [.l 0] [p] R)
  (hnumber:∀ {p:List PyData} {R:RX},zY p->(∀ r p',-10 ^ 58<=r->r<=10 ^ 58->zY p'->R (.d (.int r)) [p'])->number [.l 0] [p] R)
  (hp:zY p) (m1:0<m) (m4:m<=4) (q:∀ (ps:List Part) p',Drw ps->zrY ps<=300->zY p'->R (.d (zbv ps)) [p']):Q [.l 0,.d (.int m)] [p] R:=by
 subst hQ;walk_at "d"
 walk_at "n"
 refine hnames hp fun ns p1 hn hz hp1=>?_;walk_at "d"
 walk_at "n"
 refine zq hp1 m1 (zck m1 (by omega)) fun r p2 r0 r1 hp2=>?_;walk_at "d";refine zuK (α:=Int) (fun x=>1<=x/\x<=3) PyData.int (fun τ=>∃ u,τ=[u,some (.l 0)]) _ [] p2 _ ⟨_,rfl⟩ hp2 (by rw [zal]; simp; omega) ?_ ?_
 ·rintro d md _ p acc R' ⟨u,rfl⟩ hp hk;walk_at "d";refine zq hp dz (by decide +kernel) fun r p' r0 r1 hp'=>?_;walk_at "d";exact hk _ _ p' ⟨_,rfl⟩ hp' ⟨by omega,by omega⟩
 ·intro ws p3 hp3 hw hl;rw [zal] at hl;have hws:Wds ws:=wds3 (by omega) (by omega) hw;rw [nil_append];walk_at "d";refine cut (fun δ S=>∃ (p:List PyData) (ws:List Int),zY p/\Wds ws/\S=[p]/\δ=[some (.l 0),some (.d (.int m)),some (.d (.list (ns.map PyData.str))),some (.d (.list (ws.map PyData.int))),none,none,none]) (fun N hN=>?_) ?_
  ·walk_at "d";refine zq hp3 dz (by decide +kernel) fun r2 p4 r3 r4 hp4=>?_;walk_at "d";split
   ·refine zq hp4 dz (by decide +kernel) fun r5 p5 r6 r7 hp5=>?_;obtain⟨d,ed,ws',rfl,hw'⟩:=zmz (P:=fun d=>∃ ws:List Int,d=.list (ws.map PyData.int)/\Wds ws) (ds:=[PyData.list (List.replicate 8 [PyData.int 2]).flatten,.list [.int 17,.int 17],.list [.int 300],.list (List.replicate 8 [PyData.int 1]).flatten]) r6 r7 (by
     intro d m;simp only [mem_cons,not_mem_nil,or_false] at m;rcases m with rfl | rfl | rfl | rfl
     ·exact⟨[2,2,2,2,2,2,2,2],rfl,by decide,by decide,by decide,by decide,by decide⟩
     ·exact⟨[17,17],rfl,by decide,by decide,by decide,by decide,by decide⟩
     ·exact⟨[300],rfl,by decide,by decide,by decide,by decide,by decide⟩
     ·exact⟨[1,1,1,1,1,1,1,1],rfl,by decide,by decide,by decide,by decide,by decide⟩)
    walk_at "d";refine⟨_,ed,hN _ _ ⟨p5,ws',hp5,hw',rfl,rfl⟩⟩
   ·exact hN _ _ ⟨p4,ws,hp4,hws,rfl,rfl⟩
  rintro _ _ ⟨p,ws,hp,hws,rfl,rfl⟩;have w8:=hws.l8
  walk_at "n"
  walk_at "n";refine zaj (fun i δ S=>∃ (p:List PyData) (ps:List Part) (u1 u2:Option XV),zY p/\ps.length=i/\(∀ p∈ps,Prt p)/\ps.map (fun p=>(p.2.2 - p.2.1+1).toNat)=(ws.take i).map Int.toNat/\S=[p,ps.map zes]/\δ=[some (.l 0),some (.d (.int m)),some (.d (.list (ns.map PyData.str))),some (.d (.list (ws.map PyData.int))),some (.l 1),u1,u2]) ⟨p,[],_,_,hp,rfl,by simp,rfl,rfl,rfl⟩ ?_ ?_
  ·rintro i d _ _ N hi ⟨p,ps,u1,u2,hp,hl,ha,hs,rfl,rfl⟩ hN;obtain⟨hi',rfl⟩:=zb2 hi;have iw:i<ws.length:=by simpa using hi'
   have i8:i<ns.length:=by omega
   have e:=zbj (f:=PyData.str) (getElem?_eq_getElem i8);have ew:=zbj (f:=PyData.int) (getElem?_eq_getElem iw);have w1:=hws.pos _ (getElem_mem iw);have w300:=hws.le _ (getElem_mem iw);have e0:(0:Int)+(i:Int)=(i:Int):=by omega
   walk_at "d"
   walk_at "n"
   refine hnumber hp fun lo p3 h1 h2 hp3=>?_;walk_at "d";rw [e0];refine⟨_,e,?_⟩;walk_at "d";refine⟨_,ew,?_⟩;walk_at "d";refine⟨by omega,hN _ _ ⟨p3,ps++[(ns[i],lo,lo+ws[i] - 1)],_,_,hp3,by simp [hl],fun x hx=>?_,?_,by simp [zes],rfl⟩⟩
   ·rcases mem_append.mp hx with hx | hx
    ·exact ha x hx
    ·rw [mem_singleton.mp hx];exact⟨hz _ (getElem_mem i8),by simp only; omega,h1,by simp only; omega⟩
   ·rw [map_append,hs,zdg (getElem?_eq_getElem iw),map_append];congr 1;simp only [map_cons,map_nil,List.cons.injEq,and_true];omega
  ·rintro _ _ ⟨p,ps,u1,u2,hp,hl,ha,hs,rfl,rfl⟩;rw [zal] at hl hs;have hz':(ws.length:Int).toNat=ws.length:=by simp
   rw [hz'] at hl hs;rw [take_length] at hs;walk_at "d";have hw1:=hws.l1;exact q ps p ⟨by omega,by omega,ha⟩ (by unfold zrY; rw [hs]; exact hws.prod) hp
theorem zhW{p:List PyData}{m:Int}(hp:zY p)(m1:0<m)(m4:m<=4)(q:∀ (ps:List Part) p',Drw ps->zrY ps<=300->zY p'->R (.d (zbv ps)) [p']):zdL [.l 0,.d (.int m)] [p] R :=
 zoN (names:=zav) (number:=zaH) rfl zcs zdr hp m1 m4 q
theorem zf9:∀ (a b:List Int),PyData.eqvAll (a.map PyData.int) (b.map PyData.int)=decide (a=b)
 | [],[]=>rfl
 | [],_ :: _=>rfl
 | _ :: _,[]=>rfl
 | x :: a,y :: b=>by
  show (PyData.eqv (.int x) (.int y) && PyData.eqvAll (a.map PyData.int) (b.map PyData.int))=_;rw [zgl,zf9 a b];by_cases h1:x=y <;> by_cases h2:a=b <;> simp [h1,h2]
theorem zrx(a b:List Int):PyData.eqv (zbf a) (zbf b)=decide (a=b):=zf9 a b
theorem zrJ{n:Nat}(a:List Int):Shp (n+1) (zbf a):=zoo (zis fun _ _=>zkm)
theorem zhn(a:List Int):SeqAt.shaped (zbf a)=true:=(zrJ (n:=0) a).ok
theorem zgC{a b:List Int}{d:PyData}(hd:zjW (.d d)=some (b.map PyData.int))(hl:a.length<=100)(q:R (.d (.bool (decide (a=b)))) []):zbU [.d (zbf a),.d d] [] R:=by
 have hd':∀ S,zoH S (.d d)=some b.length/\asQ S (.d d)=some (b.map PyData.int):=by
  intro S;unfold zjW at hd;split at hd
  ·cases hd; rename_i e; cases e; exact⟨by simp [zoH],rfl⟩
  ·cases hd; rename_i e; cases e; exact⟨by simp [zoH],rfl⟩
  ·cases hd
 unfold zbU;walk_at "d";refine seq1 ?_;rw [zbf];walk_at "d";refine⟨_,(hd' _).1,?_⟩;by_cases he:a.length=b.length
 ·rw [if_neg (by omega)];refine cmp1 (S0:=[]) (fun n:Int=>.bool true) rfl a (by omega) ?_ ?_
  ·intro n mn u acc R' hk;walk_at "d";refine zi0 ?_;simp only [zjG];walk_at "d";exact hk _
  ·walk_at "d";refine⟨a.map fun _=>true,by rw [map_map]; rfl,?_⟩;have ea:(a.map fun _=>true).all id=true:=by simp
   rw [ea];walk_at "d";refine⟨_,(hd' _).2,?_⟩;walk_at "d";rw [<- zbf,<- zbf];refine⟨zhn a,zhn b,?_⟩;rw [zrx];exact q
 ·rw [if_pos (by omega)];have e2:decide (a=b)=false:=by simp; exact fun h=>he (by rw [h])
  rw [e2] at q;exact q
end
section
variable {R:RX} {S:Sto}
abbrev Off:=Int×Int×Int
def zdD(o:Off):PyData:=.tuple [.int o.1,.int o.2.1,.int o.2.2]
theorem zej(o:Off):zdD o=.tuple [.int o.1,.int o.2.1,.int o.2.2]:=rfl
def zft(l:List Off):PyData:=.tuple (l.map zdD)
theorem zcD(l:List Off):zft l=.tuple (l.map zdD):=rfl
def zas(os:List (List Off)):PyData:=.tuple (os.map zft)
structure Ofp(p:Part)(l:List Off):Prop where
 l1:1<=l.length
 l4:l.length<=4
 ok:∀ o∈l,p.2.1<=o.1/\o.1<=o.2.1/\o.2.1<=p.2.2
structure Offs(ps:List Part)(os:List (List Off)):Prop where
 len:os.length=ps.length
 ok:∀ (i:Nat) p l,ps[i]? = some p->os[i]? = some l->Ofp p l
theorem zrn{α:Type}{l:List α}(h:1<=l.length):∃ m x,l=m++[x]:=⟨l.dropLast,l.getLast (by intro z; subst z; simp at h),(List.dropLast_concat_getLast _).symm⟩
theorem gD{α:Type}{l:List α}{k:Nat}{d:α}(h:k<l.length):l[k]? = some (l.getD k d):=by
 rw [getD_eq_getElem?_getD];rw [getElem?_eq_getElem h];rfl
def offer(os:List (List Off))(ks:List Nat)(i:Nat):Off:=(os.getD i []).getD (ks.getD i 0) (0,0,0)
structure Chs(os:List (List Off))(ks:List Nat):Prop where
 len:ks.length=os.length
 ok:∀ i,i<os.length->ks.getD i 0<(os.getD i []).length
def chosen(ps:List Part)(os:List (List Off))(ks:List Nat):List Part:=(List.range ps.length).map fun i=>((part ps i).1,(offer os ks i).1,(offer os ks i).2.1)
def zgT(ks:List Nat):PyData:=.tuple (ks.map fun k:Nat=>.int k)
theorem zbz{ps:List Part}{os:List (List Off)}{ks:List Nat}:(chosen ps os ks).length=ps.length:=by simp [chosen]
theorem zny{ps:List Part}{os:List (List Off)}{ks:List Nat}{i:Nat}(h:i<ps.length):part (chosen ps os ks) i=((part ps i).1,(offer os ks i).1,(offer os ks i).2.1):=by
 have:=zbG (ps:=chosen ps os ks) (k:=i) (by rw [zbz]; exact h);unfold chosen at this ⊢;rw [getElem?_map,getElem?_range h] at this;exact(Option.some.inj this).symm
theorem zf7{os:List (List Off)}{i:Nat}(h:i<os.length):os[i]? = some (os.getD i []):=by rw [getElem?_eq_getElem h,getD_eq_getElem?_getD,getElem?_eq_getElem h]; rfl
theorem zhT{os:List (List Off)}{ks:List Nat}(hc:Chs os ks){i:Nat}(h:i<os.length):(os.getD i [])[ks.getD i 0]? = some (offer os ks i):=by
 have:=hc.ok i h;exact gD this
theorem zpe{ps:List Part}{os:List (List Off)}{ks:List Nat}(ho:Offs ps os)(hc:Chs os ks){i:Nat}(h:i<ps.length):plo ps i<=(offer os ks i).1/\(offer os ks i).1<=(offer os ks i).2.1/\(offer os ks i).2.1<=phi ps i:=by
 have hi:i<os.length:=by rw [ho.len]; exact h
 exact(ho.ok i _ _ (zbG h) (zf7 hi)).ok _ (mem_of_getElem? (zhT hc hi))
theorem zs5{ps:List Part}(h:∀ i,i<ps.length->plo ps i<=phi ps i):Ord ps:=fun p m=>by
 obtain⟨i,hi⟩:=mem_iff_getElem?.mp m;have hl:=(List.getElem?_eq_some_iff.mp hi).1;have:=h i hl;rw [zbG hl] at hi;cases hi;exact this
theorem zhi{ps:List Part}{os:List (List Off)}{ks:List Nat}(ho:Offs ps os)(hc:Chs os ks):Ord (chosen ps os ks):=by
 refine zs5 fun i hi=>?_;rw [zbz] at hi;unfold plo phi;rw [zny hi];exact(zpe ho hc hi).2.1
theorem zmp{g:DG}{te:DE}{fin:Sto->Prop}{ps:List Part}{os:List (List Off)}{p:List PyData}{u0:Option XV}{caps:XE}{n:Nat}(S0:Sto)(hn:S0.length+1=n)(ho:Offs ps os)(h8:ps.length<=8)(hp:zY p)
  (el:∀ (l:List Off) (u:Option XV) p acc (R:XE->RX),1<=l.length->l.length<=4->zY p->(∀ u' (k:Nat) p',zY p'->k<l.length->R (u' :: caps) (.d (.int (k:Nat))) (p' :: (S0++[acc])))->g (.d (zft l)) (u :: caps) (p :: (S0++[acc])) fun τ1 S1=>te τ1 S1 (R τ1))
  (hf:∀ ks p',zY p'->Chs os ks->fin (p' :: (S0++[ks.map fun k:Nat=>.int k]))):zev n g zax te fin (os.map zft) (u0 :: caps) (p :: (S0++[[]])):=by
 subst hn;have go:∀ (os:List (List Off)) (u:Option XV) (acc:List Nat) (p:List PyData),zY p->acc.length+os.length<=1000->(∀ l∈os,1<=l.length/\l.length<=4) ->
   (∀ ks p',zY p'->Chs os ks->fin (p' :: (S0++[(acc++ks).map fun k:Nat=>.int k])))->zev (S0.length+1) g zax te fin (os.map zft) (u :: caps) (p :: (S0++[acc.map fun k:Nat=>.int k])):=by
  intro os;induction os with
  | nil =>
   intro u acc p hp _ _ h;have:=h [] p hp ⟨rfl,fun i hi=>by simp at hi⟩;rw [append_nil] at this;exact this
  | cons l os ih =>
   intro u acc p hp hl h4 h;show g (.d (zft l)) (u :: caps) (p :: (S0++[acc.map fun k:Nat=>.int k])) fun τ1 S1=>zax τ1 S1 fun b S2=>if b=true then te τ1 S2 fun x S3=>asD x fun e=>∃ acc,S3[S0.length+1]? = some acc/\acc.length<1000/\zev (S0.length+1) g zax te fin (os.map zft) τ1 (S3.set (S0.length+1) (acc++[e])) else zev (S0.length+1) g zax te fin (os.map zft) τ1 S2
   simp only [zax,↓reduceIte];rw [length_cons] at hl;have hl4:=h4 l mem_cons_self;refine el l u p _ (fun τ1 x S3=>asD x fun e=>∃ acc,S3[S0.length+1]? = some acc/\acc.length<1000/\zev (S0.length+1) g zax te fin (os.map zft) τ1 (S3.set (S0.length+1) (acc++[e]))) hl4.1 hl4.2 hp fun u' k p' hp' hk=>?_;refine⟨acc.map fun k:Nat=>.int k,by simp,by rw [length_map]; omega,?_⟩;have e:(p' :: (S0++[acc.map fun k:Nat=>PyData.int k]):Sto).set (S0.length+1) ((acc.map fun k:Nat=>PyData.int k)++[.int (k:Nat)])=p' :: (S0++[(acc++[k]).map fun k:Nat=>PyData.int k]):=by
    rw [set_cons_succ,zeu rfl];simp
   rw [e];refine ih u' (acc++[k]) p' hp' (by rw [length_append,length_singleton]; omega) (fun l m=>h4 l (mem_cons_of_mem _ m)) fun ks p'' hp'' hc=>?_;rw [append_assoc];refine h (k :: ks) p'' hp'' ⟨by simp [hc.len],fun i hi=>?_⟩;cases i with
   | zero=>exact hk
   | succ i=>exact hc.ok i (by simpa using hi)
 refine go os u0 [] p hp (by have:=ho.len; simp; omega) (fun l m=>?_) fun ks p' hp' hc=>hf ks p' hp' hc;obtain⟨i,hi⟩:=mem_iff_getElem?.mp m;have hl:=(List.getElem?_eq_some_iff.mp hi).1;have:=ho.ok i _ l (zbG (by rw [<- ho.len]; exact hl)) hi;exact⟨this.l1,this.l4⟩
theorem zdy{ps:List Part}{os:List (List Off)}{ks:List Nat}(ho:Offs ps os)(hc:Chs os ks)(h8:ps.length<=8)(q:R (.d (zbv (chosen ps os ks))) []):zaE [.d (zbv ps),.d (zas os),.d (zgT ks)] [] R:=by
 unfold zaE zbv zas zgT;walk_at "d";refine cmp1 (S0:=[]) (fun i:Nat=>zes ((part ps i).1,(offer os ks i).1,(offer os ks i).2.1)) rfl (List.range ps.length) (by simp; omega) ?_ ?_
 ·intro i mi u acc R' hk;have hi:=mem_range.mp mi;have hi2:i<os.length:=by rw [ho.len]; exact hi
  have hi3:i<ks.length:=by rw [hc.len]; exact hi2
  have e1:=zbj (f:=zes) (zbG hi);have e2:=zbj (f:=zft) (zf7 hi2);have e3:=zbj (f:=fun k:Nat=>PyData.int k) (show ks[i]? = some (ks.getD i 0) by rw [getElem?_eq_getElem hi3,getD_eq_getElem?_getD,getElem?_eq_getElem hi3]; rfl);have e4:=zbj (f:=zdD) (zhT hc hi2);walk_at "d";simp only [Int.zero_add];refine⟨_,e1,?_⟩;rw [zh7];walk_at "d";refine⟨_,e2,?_⟩;rw [zcD];walk_at "d";refine⟨_,e3,?_⟩;walk_at "d";refine⟨_,e4,?_⟩;rw [zej];walk_at "d";have ec:zdE [PyData.int (offer os ks i).1,.int (offer os ks i).2.1,.int (offer os ks i).2.2] none (some 2)=[PyData.int (offer os ks i).1,.int (offer os ks i).2.1]:=rfl;rw [ec];walk_at "d";exact⟨by decide,hk _⟩
 ·walk_at "d";have e:(List.range ps.length).map (fun i:Nat=>zes ((part ps i).1,(offer os ks i).1,(offer os ks i).2.1))=(chosen ps os ks).map zes:=by
   unfold chosen;rw [map_map];rfl
  rw [e];exact q
theorem zl5{ps:List Part}{os:List (List Off)}{ks:List Nat}(ho:Offs ps os)(hc:Chs os ks):(ps.zip ((os.zip ks).map fun q=>q.1.getD q.2 (0,0,0))).map (fun q=>zes (q.1.1,q.2.1,q.2.2.1))=(chosen ps os ks).map zes:=by
 have hl:=ho.len;have hk:=hc.len;refine List.ext_getElem (by simp [zbz]; omega) fun i h1 h2=>?_;have hi:i<ps.length:=by simpa [zbz] using h2
 have hi2:i<os.length:=by omega
 have hi3:i<ks.length:=by omega
 simp only [List.getElem_map,List.getElem_zip,chosen,List.getElem_range];have e1:part ps i=ps[i]:=by simp [part,hi]
 have e2:os.getD i []=os[i]:=by simp [hi2]
 have e3:ks.getD i 0=ks[i]:=by simp [hi3]
 unfold offer;rw [e1,e2,e3]
theorem zea{ps:List Part}{os:List (List Off)}{ks:List Nat}(ho:Offs ps os)(hc:Chs os ks)(h8:ps.length<=8)(q:R (.d (zbv (chosen ps os ks))) []):zbF [.d (zbv ps),.d (zas os),.d (zgT ks)] [] R:=by
 have hl:=ho.len;have hk:=hc.len;unfold zbF zbv zas zgT;walk_at "d"
 walk_at "n"
 rw [zeP];refine cmp2 (S0:=[]) (fun q:List Off×Nat=>zdD (q.1.getD q.2 (0,0,0))) rfl (os.zip ks) (by simp; omega) ?_ ?_
 ·intro x mx u v acc R' hk';obtain⟨i,hi⟩:=mem_iff_getElem?.mp mx;rw [getElem?_zip_eq_some] at hi;obtain⟨h1,h2⟩:=hi;have il:i<os.length:=(List.getElem?_eq_some_iff.mp h1).1;have e1:os.getD i []=x.1:=by rw [zf7 il] at h1; exact Option.some.inj h1
  have e2:ks.getD i 0=x.2:=by rw [gD (d:=0) (by omega)] at h2; exact Option.some.inj h2
  have kb:=hc.ok i il;rw [e1,e2] at kb;have e3:=zbj (f:=zdD) (gD (d:=((0,0,0):Off)) kb);rw [zcD];walk_at "d";refine⟨_,e3,?_⟩;exact hk' _ _
 ·walk_at "d";have em:(os.zip ks).map (fun q:List Off×Nat=>zdD (q.1.getD q.2 (0,0,0)))=((os.zip ks).map fun q:List Off×Nat=>q.1.getD q.2 (0,0,0)).map zdD:=by rw [map_map]; rfl
  rw [em,zeP];refine cmp2 (S0:=[]) (fun q:Part×Off=>zes (q.1.1,q.2.1,q.2.2.1)) rfl _ (by simp; omega) ?_ ?_
  ·intro x mx u v acc R' hk';rw [zh7,zej];walk_at "d";exact hk' _ _
  ·walk_at "d";rw [zl5 ho hc];exact q
def zen(ps:List Part)(gs:List Gap):Bool:=gs.all fun g=>zjJ ps g
theorem ziR{ps:List Part}{gs:List Gap}(ho:Ord ps)(hn:ps.length<=100)(hg:∀ g∈gs,Tms ps.length g.ts):zen ps gs=true↔∀ ms,InBox ps ms->¬ BrkS gs ms:=by
 unfold zen;rw [all_eq_true];constructor
 ·rintro h ms hb ⟨g,mg,hk⟩;have:=h g mg;unfold zjJ at this;rw [decide_eq_true_eq] at this;have:=(zjC ho hn (hg g mg)).mpr this ms hb;rw [hk] at this;cases this
 ·intro h g mg;unfold zjJ;rw [decide_eq_true_eq];refine(zjC ho hn (hg g mg)).mp fun ms hb=>?_;cases hk:zb8 g ms with
  | true=>rfl
  | false=>exact absurd ⟨g,mg,hk⟩ (h ms hb)
theorem zn5{ps:List Part}{os:List (List Off)}{ks:List Nat}{gs:List Gap}(ho:Offs ps os)(hc:Chs os ks)(h8:ps.length<=8)(h6:gs.length<=6)(hg:∀ g∈gs,Tms ps.length g.ts)(q:R (.d (.bool (zen (chosen ps os ks) gs))) []):zjO [.d (zp9 ps gs),.d (zas os),.d (zgT ks)] [] R:=by
 have co:=zhi ho hc;have cl:=zbz (ps:=ps) (os:=os) (ks:=ks);have hg':∀ g∈gs,Tms (chosen ps os ks).length g.ts:=by rw [cl]; exact hg
 unfold zjO;rw [zp9];walk_at "d";refine zea ho hc h8 ?_;walk_at "d";refine zhK co (by omega) (by omega) hg' (fun no=>?_) fun one j gj ob hj hbr hbef hmin=>?_
 ·rw [(ziR co (by omega) hg').mpr no] at q;walk_at "d";exact q
 ·have:zen (chosen ps os ks) gs=false:=by
   rw [Bool.eq_false_iff];intro h;exact(ziR co (by omega) hg').mp h one ob ⟨gj,mem_of_getElem? hj,hbr⟩
  rw [this] at q;walk_at "d";exact q
theorem zg9{ps:List Part}{os:List (List Off)}{ks:List Nat}{gs:List Gap}(ho:Offs ps os)(hc:Chs os ks)(h8:ps.length<=8)(hg:∀ g∈gs,Tms ps.length g.ts)(q:R (.d (.bool (zen (chosen ps os ks) gs))) []):zc9 [.d (zbv ps),.d (zcP gs),.d (zas os),.d (zgT ks)] [] R:=by
 have cl:=zbz (ps:=ps) (os:=os) (ks:=ks);unfold zc9;rw [zcP];walk_at "d"
 walk_at "n"
 refine zdy ho hc h8 ?_;walk_at "d";walk_at "n";refine zaj (fun i δ S=>∃ (u1 u2 u3:Option XV),(∀ (m:Nat) g,m<i->gs[m]? = some g->zjJ (chosen ps os ks) g=true)/\S=[]/\δ=[some (.d (zbv ps)),some (.d (.tuple (gs.map zjH))),some (.d (zas os)),some (.d (zgT ks)),some (.d (zbv (chosen ps os ks))),u1,u2,u3]) ⟨_,_,_,fun m g hm=>by omega,rfl,rfl⟩ ?_ ?_
 ·rintro i d _ _ N hi ⟨u1,u2,u3,hb,rfl,rfl⟩ hN;obtain⟨g,hgi,rfl⟩:=zbE hi;have mg:=mem_of_getElem? hgi;rw [zco];walk_at "d"
  walk_at "n"
  refine zcO rfl (by rw [cl]; exact(hg g mg).tm3 h8) ?_;unfold spD;walk_at "d";have bad:zjJ (chosen ps os ks) g=false->R (.d (.bool false)) []:=by
   intro hk;have:zen (chosen ps os ks) gs=false:=by
    rw [Bool.eq_false_iff];intro h;unfold zen at h;rw [all_eq_true] at h;have:=h g mg;rw [hk] at this;cases this
   rw [this] at q;exact q
  by_cases h1:zaa (chosen ps os ks) g.ts<g.lo
  ·rw [if_pos h1];exact bad (by simp [zjJ]; omega)
  ·rw [if_neg h1];by_cases h2:g.hi<zbP (chosen ps os ks) g.ts
   ·simp only [h2,↓reduceIte];exact bad (by simp [zjJ]; omega)
   ·simp only [h2,↓reduceIte];refine hN _ _ ⟨_,_,_,fun m g' hm hm'=>?_,rfl,rfl⟩;by_cases e:m=i
    ·subst e;rw [hgi] at hm';cases hm';simp [zjJ];omega
    ·exact hb m g' (by omega) hm'
 ·rintro _ _ ⟨u1,u2,u3,hb,rfl,rfl⟩;rw [length_map] at hb;have:zen (chosen ps os ks) gs=true:=by
   unfold zen;rw [all_eq_true];intro g mg;obtain⟨i,hi⟩:=mem_iff_getElem?.mp mg;exact hb i g (List.getElem?_eq_some_iff.mp hi).1 hi
  rw [this] at q;walk_at "d";exact q
theorem zfL{p:List PyData}{ps:List Part}{os:List (List Off)}{m:Int}(hp:zY p)(hd:Drw ps)(ho:Offs ps os)(m1:0<m)(m6:m<=6)(q:∀ gs p',Gaps ps.length gs->zY p'->R (.d (zcP gs)) [p']):zbC [.l 0,.d (zbv ps),.d (zas os),.d (.int m)] [p] R:=by
 have h8:=hd.l8;unfold zbC;walk_at "d"
 walk_at "n"
 refine zgV hp hd m1 m6 fun gs p1 hgs gm hp1=>?_;rw [zcP];walk_at "d";refine cut (fun δ S=>∃ (p:List PyData) (gs:List Gap) (u1 u2 u3 u4 u5:Option XV),zY p/\Gaps ps.length gs/\S=[p,gs.map zjH]/\δ=[some (.l 0),some (.d (zbv ps)),some (.d (zas os)),some (.d (.int m)),some (.l 1),u1,u2,u3,u4,u5]) (fun N hN=>?_) ?_
 ·walk_at "d";refine zq hp1 dz (by decide +kernel) fun r p2 r0 r1 hp2=>?_;walk_at "d";split
  ·walk_at "n"
   rw [zas];walk_at "d";refine zmp (ps:=ps) (os:=os) [gs.map zjH] rfl ho h8 hp2 ?_ ?_
   ·intro l u p acc R' l1 l4 hp hk;rw [zcD];walk_at "d";refine zq hp (by omega) (zck (by omega) (by omega)) fun r p2 r0 r1 hp2=>?_;obtain⟨k,rfl⟩:=Int.eq_ofNat_of_zero_le r0;walk_at "d";exact hk _ k p2 hp2 (by omega)
   ·intro ks p3 hp3 hc;walk_at "d"
    walk_at "n"
    have ec:PyData.tuple (ks.map fun k:Nat=>PyData.int k)=zgT ks:=rfl;have eo:PyData.tuple (os.map zft)=zas os:=rfl;rw [ec,eo];refine zdy ho hc h8 ?_;walk_at "d";have cl:=zbz (ps:=ps) (os:=os) (ks:=ks);refine zaj (fun i δ S=>∃ (p:List PyData) (gs':List Gap) (u3 u4 u5:Option XV),zY p/\Gaps ps.length gs'/\gs'.length=gs.length/\S=[p,gs'.map zjH]/\δ=[some (.l 0),some (.d (zbv ps)),some (.d (zas os)),some (.d (.int m)),some (.l 1),some (.d (zgT ks)),some (.d (zbv (chosen ps os ks))),u3,u4,u5]) ⟨p3,gs,_,_,_,hp3,hgs,rfl,rfl,rfl⟩ ?_ ?_
    ·rintro i d _ _ N' hi ⟨p,gs',u3,u4,u5,hp,hgs',hl,rfl,rfl⟩ hN';obtain⟨hi',rfl⟩:=zb2 hi;have il:i<gs'.length:=by
      have:i<gs.length:=by simpa using hi'
      omega
     have hg:=getElem?_eq_getElem il;have e:=zbj (f:=zjH) hg;have gok:=hgs'.all _ (mem_of_getElem? hg);generalize gs'[i]=g at hg e gok;walk_at "d"
     walk_at "n"
     simp only [Int.zero_add];refine⟨_,e,?_⟩;rw [zco];walk_at "d";refine zcO rfl (by rw [cl]; exact gok.ts.tm3 h8) ?_;unfold spD;walk_at "d";refine⟨_,e,?_⟩;rw [zco];walk_at "d";refine zq hp dz (by decide +kernel) fun r2 p4 r3 r4 hp4=>?_;walk_at "d";refine zq hp4 dz (by decide +kernel) fun r5 p5 r6 r7 hp5=>?_;walk_at "d";have lm:=zc8 (chosen ps os ks) g.ts;refine⟨i,zmv il,hN' _ _ ⟨p5,gs'.set i ⟨g.ts,zaa (chosen ps os ks) g.ts - r2,zbP (chosen ps os ks) g.ts+r5⟩,_,_,_,hp5,⟨by have:=hgs'.l1; simpa using this,by have:=hgs'.l6; simpa using this,fun x mx=>?_⟩,by simpa using hl,by simp only [map_set,zjH],rfl⟩⟩;rcases List.mem_or_eq_of_mem_set mx with h | rfl
     ·exact hgs'.all x h
     ·exact⟨gok.ts,by simp only; omega⟩
    ·rintro _ _ ⟨p,gs',u3,u4,u5,hp,hgs',hl,rfl,rfl⟩;exact hN _ _ ⟨p,gs',_,_,_,_,_,hp,hgs',rfl,rfl⟩
  ·exact hN _ _ ⟨p2,gs,_,_,_,_,_,hp2,hgs,rfl,rfl⟩
 ·rintro _ _ ⟨p,gs,u1,u2,u3,u4,u5,hp,hgs,rfl,rfl⟩;walk_at "d";exact q gs p hgs hp
end
section
variable {R:RX} {S:Sto}
theorem za4{os:List (List Off)}(h8:os.length<=8)(q:R (.d (.list (os.map fun l=>.int l.length))) []):zbg [.d (zas os)] [] R:=by
 unfold zbg zas;walk_at "d";refine cmp1 (S0:=[]) (fun l:List Off=>.int l.length) rfl os (by omega) ?_ ?_
 ·intro l ml u acc R' hk;rw [zcD];walk_at "d";exact hk _
 ·walk_at "d";exact .inl q
theorem zgy{ps:List Part}{os:List (List Off)}{ks:List Nat}(ho:Offs ps os)(hc:Chs os ks)(h8:ps.length<=8)(q:R (.d (.int (((os.zip ks).map fun q=>(q.1.getD q.2 (0,0,0)).2.2).sum))) []):zaX [.d (zas os),.d (zgT ks)] [] R:=by
 have hl:=ho.len;have hk:=hc.len;unfold zaX zas zgT;walk_at "d";rw [zeP];refine cmp2 (S0:=[]) (fun q:List Off×Nat=>.int (q.1.getD q.2 (0,0,0)).2.2) rfl (os.zip ks) (by simp; omega) ?_ ?_
 ·intro x mx u v acc R' hk';obtain⟨i,hi⟩:=mem_iff_getElem?.mp mx;rw [getElem?_zip_eq_some] at hi;obtain⟨h1,h2⟩:=hi;have il:i<os.length:=(List.getElem?_eq_some_iff.mp h1).1;have e1:os.getD i []=x.1:=by rw [zf7 il] at h1; exact Option.some.inj h1
  have e2:ks.getD i 0=x.2:=by rw [gD (d:=0) (by omega)] at h2; exact Option.some.inj h2
  have kb:=hc.ok i il;rw [e1,e2] at kb;have e3:=zbj (f:=zdD) (gD (d:=((0,0,0):Off)) kb);rw [zcD];walk_at "d";refine⟨_,e3,?_⟩;rw [zej];walk_at "d";exact hk' _ _
 ·walk_at "d";exact⟨_,by rw [map_map]; rfl,q⟩
end
section
variable {R:RX}
theorem zgU{found:List (List Int)}{p:Part}(hl:(ext found p).length<=1000)(fl:∀ a∈found,a.length<=100)(h1:1<=found.length)(q:R (.d (.list ((ext found p).map zbf))) []):zaS [.d (.list (found.map zbf)),.d (.list ((zm3 p).map PyData.int))] [] R:=by
 unfold zaS;walk_at "d"
 walk_at "n"
 walk_at "n";refine zaj (fun j δ S=>∃ (u:Option XV),S=[(ext (found.take j) p).map zbf]/\δ=[some (.d (.list (found.map zbf))),some (.d (.list ((zm3 p).map PyData.int))),some (.l 0),u]) ⟨_,rfl,rfl⟩ ?_ ?_
 ·rintro j d _ _ N hj ⟨u,rfl,rfl⟩ hN;obtain⟨a,ha,rfl⟩:=zbE hj;have al:=fl a (mem_of_getElem? ha);have ej:ext (found.take (j+1)) p=ext (found.take j) p++(zm3 p).map fun x=>a++[x]:=by
   rw [zdg ha];unfold ext;rw [List.flatMap_append];simp
  have lj:(ext (found.take (j+1)) p).length<=(ext found p).length:=by
   rw [zmO,zmO,length_take];exact Nat.mul_le_mul_right _ (by omega)
  have sm:(ext (found.take j) p).length+(zm3 p).length<=1000:=by
   rw [ej,length_append,length_map] at lj;omega
  rw [zbf];walk_at "d";refine cmp1 (S0:=[(ext (found.take j) p).map zbf]) (fun x:Int=>zbf (a++[x])) rfl (zm3 p) (by omega) ?_ ?_
  ·intro x mx u acc R' hk;walk_at "d";refine⟨by omega,?_⟩;rw [ziK];exact hk _
  ·walk_at "d";refine⟨sm,hN _ _ ⟨_,?_,rfl⟩⟩;rw [ej,map_append,map_map];rfl
 ·rintro _ _ ⟨u,rfl,rfl⟩;rw [length_map,take_length];walk_at "d";exact .inl q
end
section
variable {R:RX}
theorem len2{ds:List PyData}(h:ds.length=2):∃ x y,ds=[x,y]:=by
 match ds,h with
 | [x,y],_=>exact⟨x,y,rfl⟩
end
section
variable {R:RX} {S:Sto}
def zuJ(ps:List Part)(g:Gap):Bool:=decide (g.hi<zaa ps g.ts\/zbP ps g.ts<g.lo)
def zuQ(ps:List Part)(k:Nat)(lo hi:Int):List Part:=ps.set k ((part ps k).1,lo,hi)
inductive Hs:PyData->Prop
 | tup {ds:List PyData}:(∀ x r,ds=x :: r->SeqAt.shaped x=true)->(∀ y∈ds,Hs y)->Hs (.tuple ds)
 | oth {d:PyData}:(∀ ds,d≠.tuple ds)->Hs d
theorem Hs.hd{x:PyData}{r:List PyData}(h:Hs (.tuple (x :: r))):SeqAt.shaped x=true:=by
 cases h with
 | tup h1 h2=>exact h1 x r rfl
 | oth h=>exact absurd rfl (h _)
theorem Hs.item{ds:List PyData}(h:Hs (.tuple ds)):∀ y∈ds,Hs y:=by
 cases h with
 | tup h1 h2=>exact h2
 | oth h=>exact absurd rfl (h _)
def wOf(p:Part):Int:=p.2.2 - p.2.1
def zvx(ps:List Part)(p:Part):Bool:=ps.all fun x=>decide (wOf x<=wOf p)
def wid(ps:List Part):Nat:=ps.findIdx (zvx ps)
noncomputable def pw (gs:List Gap):Nat->List Part->PyData
 | 0,_=>.none
 | n+1,ps=>match gs.findIdx? (zuJ ps) with
  | some i=>.tuple [.str "gap",.int i]
  | none=>.tuple [.str "cut",.int (wid ps),.int ((plo ps (wid ps)+phi ps (wid ps)) / 2),pw gs n (zuQ ps (wid ps) (plo ps (wid ps)) ((plo ps (wid ps)+phi ps (wid ps)) / 2)),pw gs n (zuQ ps (wid ps) ((plo ps (wid ps)+phi ps (wid ps)) / 2+1) (phi ps (wid ps)))]
end
section
theorem ze9(a b:Int)(x y:List Int):HT.lexLt (a :: x) (b :: y)=true↔a<b\/a=b/\HT.lexLt x y=true:=by
 rw [HT.lexLt_cons];split
 ·rename_i h;exact⟨fun z=>.inr ⟨h,z⟩,fun z=>z.elim (fun z=>by omega) fun z=>z.2⟩
 ·rename_i h;rw [decide_eq_true_eq];exact⟨fun z=>.inl z,fun z=>z.elim id fun z=>absurd z.1 h⟩
theorem zp5(x:List Int):HT.lexLt x []=false:=by cases x <;> rfl
theorem zno:∀ x:List Int,HT.lexLt x x=false
 | []=>rfl
 | a :: x=>by
  cases h:HT.lexLt (a :: x) (a :: x) with
  | false=>rfl
  | true =>
   rcases(ze9 a a x x).mp h with z | ⟨_,z⟩
   ·omega
   ·rw [zno x] at z; cases z
theorem zs6:∀ {x y z:List Int},HT.lexLt x y=true->HT.lexLt y z=true->HT.lexLt x z=true
 | x,y,[],_,h=>by rw [zp5] at h; cases h
 | x,[],_,h,_=>by rw [zp5] at h; cases h
 | [],_ :: _,_ :: _,_,_=>rfl
 | a :: x,b :: y,c :: z,h,k=>by
  rw [ze9] at h k ⊢;rcases h with h | ⟨h,h'⟩ <;> rcases k with k | ⟨k,k'⟩
  ·exact .inl (by omega)
  ·exact .inl (by omega)
  ·exact .inl (by omega)
  ·exact .inr ⟨by omega,zs6 h' k'⟩
def fil:List Nat->List (List Int)
 | []=>[[]]
 | s :: r=>(List.range s).flatMap fun k:Nat=>(fil r).map fun z=>(k:Int) :: z
theorem zig:∀ sz:List Nat,(fil sz).length=zao sz
 | []=>rfl
 | s :: r=>by
  have:∀ (n:Nat),((List.range n).flatMap fun k:Nat=>(fil r).map fun z=>(k:Int) :: z).length=n*zao r:=by
   intro n;induction n with
   | zero=>simp
   | succ n ih =>
    rw [List.range_succ,List.flatMap_append,length_append,ih];simp [zig r,succ_mul]
  exact this s
def Bgn:List Nat->List Int->Prop
 | _,[]=>True
 | [],_ :: _=>False
 | s :: r,k :: b=>(0<=k/\k<s)/\Bgn r b
theorem zfc:∀ {sz:List Nat} {z:List Int},z∈fil sz↔z.length=sz.length/\Bgn sz z
 | [],z=>by
  cases z with
  | nil=>simp [fil,Bgn]
  | cons a z=>simp [fil,Bgn]
 | s :: r,z=>by
  simp only [fil,List.mem_flatMap,mem_range,mem_map];constructor
  ·rintro⟨k,hk,y,hy,rfl⟩;have:=(zfc (sz:=r)).mp hy;exact⟨by simp [this.1],⟨by omega,by omega⟩,this.2⟩
  ·rintro⟨h1,h2⟩;cases z with
   | nil=>simp at h1
   | cons k z =>
    obtain⟨⟨a,b⟩,c⟩:=h2;exact⟨k.toNat,by omega,z,(zfc (sz:=r)).mpr ⟨by simpa using h1,c⟩,by rw [Int.toNat_of_nonneg a]⟩
end
section
variable {R:RX} {S:Sto}
abbrev Trm:=Int×Int
def wys(l:List Trm):List Trm:=(0,0) :: l
def szD(sz:List Nat):PyData:=.list (sz.map fun n:Nat=>.int n)
def way(l:List Trm)(k:Int):Trm:=(wys l).getD k.toNat (0,0)
theorem zol:∀ {sz:List Nat} {b:List Int},Bgn sz b->b.length<=sz.length
 | _,[],_=>zero_le _
 | [],_ :: _,h=>by cases h
 | s :: sz,k :: b,h=>by have:=zol h.2; simp; omega
theorem zos{α:Type}{ds:List α}{k:Nat}(h:k<=ds.length):zdE ds (some (k:Int)) none=ds.drop k:=by
 have e1:HT.sIx ds.length 0 (some (k:Int))=k:=by rw [HT.sIx_nat]; omega
 have e2:HT.sIx ds.length ds.length none=ds.length:=rfl;unfold zdE;rw [e1,e2,take_of_length_le (by simp)]
def Sz(sz:List Nat):Prop:=sz.length<=8/\∀ s∈sz,s<=4
theorem zd1(l:List Nat)(x:Nat):zao (l++[x])=zao l*x:=by
 rw [zdK];simp [zao]
theorem zbQ{sz:List Nat}{ds:List PyData}(hz:Sz sz)(hl:ds.length<=sz.length)(q:R (.d (.int (zao (sz.drop ds.length)))) []):zaT [.d (szD sz),.d (.tuple ds)] [] R:=by
 obtain⟨h8,h4⟩:=hz;unfold zaT szD;walk_at "d"
 walk_at "n"
 walk_at "n"
 rw [zos (by simpa using hl),<- map_drop];refine zaj (fun i δ S=>∃ (u:Option XV),S=[]/\δ=[some (.d (.list (sz.map fun n:Nat=>PyData.int n))),some (.d (.tuple ds)),some (.d (.int (zao ((sz.drop ds.length).take i):Nat))),u]) ⟨none,rfl,by simp [zao]⟩ ?_ ?_
 ·rintro i d _ _ N hi ⟨u,rfl,rfl⟩ hN;obtain⟨x,hx,rfl⟩:=zbE hi;walk_at "d";have mx:x∈sz:=mem_of_mem_drop (mem_of_getElem? hx);have x4:=h4 x mx;refine⟨zkV (by omega) (by omega),hN _ _ ⟨some (.d (.int x)),rfl,?_⟩⟩;rw [take_add_one,hx];simp [zd1]
 ·rintro _ _ ⟨u,rfl,rfl⟩;rw [length_map,take_length];walk_at "d";exact q
theorem zik{α:Type}{ds:List α}{k:Nat}:zdE ds none (some (k:Int))=ds.take k:=by
 have e1:HT.sIx ds.length ds.length (some (k:Int))=min k ds.length:=by rw [HT.sIx_nat]
 have e2:HT.sIx ds.length 0 none=0:=rfl;unfold zdE;rw [e1,e2];rcases Nat.le_total k ds.length with h | h
 ·rw [Nat.min_eq_left h];simp
 ·rw [Nat.min_eq_right h,take_of_length_le (by simp),take_of_length_le h];simp
def t2:PyData->Bool
 | .tuple [_,_]=>true
 | _=>false
def sn1:PyData->PyData
 | .tuple [_,b]=>b
 | _=>.none
end
section
variable {R:RX} {S:Sto}
theorem zeD{d:PyData}(q:R (.d (.bool (zjG d))) []):zah [.d d] [] R:=by
 unfold zah;cases d <;> (walk_at "e"; exact q)
theorem zkR:∀ (sz:List Nat) (F:List (List Int)),sz.foldl (fun F s=>F.flatMap fun a=>(List.range s).map fun k:Nat=>a++[(k:Int)]) F=F.flatMap fun a=>(fil sz).map fun z=>a++z
 | [],F=>by simp [fil]
 | s :: sz,F=>by
  rw [List.foldl_cons,zkR sz,List.flatMap_assoc];congr 1;funext a;simp only [fil,List.flatMap_map,List.map_flatMap,map_map];congr 1;funext k;congr 1;funext z;simp
theorem zdF(sz:List Nat):sz.foldl (fun F s=>F.flatMap fun a=>(List.range s).map fun k:Nat=>a++[(k:Int)]) [[]]=fil sz:=by
 rw [zkR];simp
def stp(F:List (List Int))(s:Nat):List (List Int):=F.flatMap fun a=>(List.range s).map fun k:Nat=>a++[(k:Int)]
theorem zjx(l:List Nat)(x:Nat):(l++[x]).foldl stp [[]]=stp (l.foldl stp [[]]) x:=by simp
theorem zlw(l:List Nat):(l.foldl stp [[]]).length=zao l:=by
 have:=zdF l;rw [<- zig,<- this];rfl
theorem zoq{sz:List Nat}(h:∀ s∈sz,1<=s)(i:Nat):zao (sz.take i)<=zao sz:=by
 have:=zdK (sz.take i) (sz.drop i);rw [List.take_append_drop] at this;rw [this];exact Nat.le_mul_of_pos_right _ (zeH fun x m=>h x (mem_of_mem_drop m))
theorem zkC:∀ {sz:List Nat} {b:List Int} {s:Nat} {k:Int},Bgn sz b->sz[b.length]? = some s->0<=k->k<s->Bgn sz (b++[k])
 | [],[],_,_,_,e,_,_=>by simp at e
 | s0 :: sz,[],s,k,_,e,k0,k1=>by
  simp at e;subst e;exact⟨⟨k0,k1⟩,by cases sz <;> trivial⟩
 | [],_ :: _,_,_,h,_,_,_=>by cases h
 | s0 :: sz,x :: b,s,k,h,e,k0,k1=>⟨h.1,zkC h.2 (by simpa using e) k0 k1⟩
end
section
variable {R:RX} {S:Sto}
def szO(os:List (List Off)):List Nat:=os.map (·.length)
def kN(ks:List Int):List Nat:=ks.map Int.toNat
theorem zko:∀ {sz:List Nat} {z:List Int},Bgn sz z->(kN z).map (fun k:Nat=>(k:Int))=z/\z.length<=sz.length/\∀ (i:Nat) k s,z[i]? = some k->sz[i]? = some s->k.toNat<s
 | _,[],_=>⟨rfl,zero_le _,fun i k s e=>by simp at e⟩
 | [],_ :: _,h=>h.elim
 | s :: sz,k :: z,h=>by
  obtain⟨⟨h0,h1⟩,h2⟩:=h;obtain⟨e1,e2,e3⟩:=zko h2;refine⟨?_,by simp; omega,fun i k' s' q1 q2=>?_⟩
  ·show ((k.toNat:Nat):Int) :: (kN z).map (fun k:Nat=>(k:Int))=k :: z;rw [e1,Int.toNat_of_nonneg h0]
  ·cases i with
   | zero =>
    cases q1;cases q2;omega
   | succ i=>exact e3 i k' s' q1 q2
theorem zmG{ks:List Int}(h:(kN ks).map (fun k:Nat=>(k:Int))=ks):zbf ks=zgT (kN ks):=by
 unfold zbf zgT
 conv=>lhs; rw [<- h]
 rw [map_map];rfl
theorem zgQ{os:List (List Off)}{ks:List Int}(h:ks∈fil (szO os)):Chs os (kN ks)/\zbf ks=zgT (kN ks):=by
 obtain⟨h1,h2⟩:=zfc.mp h;obtain⟨e1,e2,e3⟩:=zko h2;have hl:ks.length=os.length:=by simpa [szO] using h1
 refine⟨⟨by simpa [kN] using hl,fun i hi=>?_⟩,zmG e1⟩;have hk:i<ks.length:=by omega
 have:=e3 i ks[i] (os.getD i []).length (getElem?_eq_getElem hk) (by unfold szO; rw [getElem?_map,zf7 hi]; rfl);have e:(kN ks).getD i 0=ks[i].toNat:=by simp [kN,hk]
 rw [e];exact this
structure OC(ps:List Part)(os:List (List Off)):Prop extends Offs ps os where
 h8:ps.length<=8
 few:zao (szO os)<=256
 nest:∀ (i:Nat) l,os[i]? = some l->∀ (j:Nat) o o',l[j]? = some o->l[j+1]? = some o'->o.1<=o'.1/\o'.2.1<=o.2.1
theorem OC.sz{ps:List Part}{os:List (List Off)}(h:OC ps os):Sz (szO os)/\∀ s∈szO os,1<=s:=by
 have hl:=h.len;have h8:=h.h8;have ok:∀ l∈os,1<=l.length/\l.length<=4:=fun l m=>by
  obtain⟨i,hi⟩:=mem_iff_getElem?.mp m;have il:=(List.getElem?_eq_some_iff.mp hi).1;have:=h.ok i _ l (zbG (by omega)) hi;exact⟨this.l1,this.l4⟩
 refine⟨⟨by simp [szO]; omega,fun s m=>?_⟩,fun s m=>?_⟩
 ·obtain⟨l,ml,rfl⟩:=mem_map.mp m;exact(ok l ml).2
 ·obtain⟨l,ml,rfl⟩:=mem_map.mp m;exact(ok l ml).1
theorem zc7(os:List (List Off)):(os.map fun l=>PyData.int (l.length:Nat))=(szO os).map fun n:Nat=>.int n:=by
 unfold szO;rw [map_map];rfl
theorem znw{n:Nat}(h:1<=n):zm3 ("",0,(n:Int) - 1)=(List.range n).map fun k:Nat=>(k:Int):=by
 unfold zm3 rng;rw [show ((n:Int) - 1 - 0+1).toNat=n by omega];simp
theorem zqZ{n:Nat}(h:1<=n)(F:List (List Int)):ext F ("",0,(n:Int) - 1)=stp F n:=by
 unfold ext stp;rw [znw h];simp [map_map,Function.comp_def]
theorem zd4{sz:List Nat}(hz:Sz sz)(h1:∀ s∈sz,1<=s)(hf:zao sz<=300)(q:R (.d (.list ((fil sz).map zbf))) []):zbJ [.d (szD sz)] [] R:=by
 obtain⟨h8,h4⟩:=hz;unfold zbJ szD;walk_at "d"
 walk_at "n"
 walk_at "n";refine zaj (fun i δ S=>∃ (u:Option XV),S=[]/\δ=[some (.d (.list (sz.map fun n:Nat=>.int n))),some (.d (.list (((sz.take i).foldl stp [[]]).map zbf))),u]) ⟨_,rfl,rfl⟩ ?_ ?_
 ·rintro i d _ _ N hi ⟨u,rfl,rfl⟩ hN;obtain⟨n,en,rfl⟩:=zbE hi;have il:i<sz.length:=(List.getElem?_eq_some_iff.mp en).1;have n1:=h1 n (mem_of_getElem? en);have n4:=h4 n (mem_of_getElem? en);have pl:=zoq h1 (i+1);rw [take_add_one,en] at pl;simp only [Option.toList_some] at pl;rw [zd1] at pl;generalize hF:(sz.take i).foldl stp [[]]=F;have lF:F.length=zao (sz.take i):=by rw [<- hF,zlw]
  have F1:1<=F.length:=by rw [lF]; exact zeH fun x m=>h1 x (mem_of_mem_take m)
  walk_at "d";refine⟨⟨by omega,by omega⟩,?_⟩;have ei:zfM 0 ((n:Int)).toNat=(zm3 ("",0,(n:Int) - 1)).map PyData.int:=by
   rw [znw n1,map_map,Int.toNat_natCast];simp [zfM]
  rw [ei];have es:=zqZ n1 F;refine zgU (by rw [es]; unfold stp; rw [zc4 (n:=n) (fun x _=>by simp),lF]; omega) (fun a ma=>?_) F1 ?_
  ·have ea:F=fil (sz.take i):=by rw [<- hF]; exact zdF _
   rw [ea] at ma;have:=(zfc.mp ma).1;rw [length_take] at this;omega
  ·rw [es];have e5:(sz.take (i+1)).foldl stp [[]]=stp F n:=by
    rw [take_add_one,en,<- hF];exact zjx _ _
   exact hN _ _ ⟨_,rfl,by rw [e5]⟩
 ·rintro _ _ ⟨u,rfl,rfl⟩;rw [length_map,take_length];walk_at "d";have:=zdF sz;rw [<- this] at q;exact q
theorem zl4{sz:List Nat}(hz:Sz sz)(hf:zao sz<=300)(q:R (.d .none) []):zbc [.d (szD sz)] [] R:=by
 unfold zbc;walk_at "d"
 walk_at "n"
 refine zbQ hz (by simp) ?_;walk_at "d";rw [drop_zero,if_neg (by omega)];exact q
theorem zg8{ps:List Part}{os:List (List Off)}(h:OC ps os)(q:R (.d (.list ((fil (szO os)).map zbf))) []):zb9 [.d (zas os)] [] R:=by
 obtain⟨⟨h8,h4⟩,h1⟩:=h.sz;have l8:os.length<=8:=by have:=h.len; have:=h.h8; omega
 unfold zb9 zas;walk_at "d"
 walk_at "n"
 walk_at "n"
 refine zaj (fun i δ S=>∃ (u1 u2 u3:Option XV),S=[]/\δ=[some (.d (.tuple (os.map zft))),some (.d (.list ((((szO os).take i).foldl stp [[]]).map zbf))),u1,u2,u3]) ⟨_,_,_,rfl,rfl⟩ ?_ ?_
 ·rintro i d _ _ N hi ⟨u1,u2,u3,rfl,rfl⟩ hN;obtain⟨l,hl,rfl⟩:=zbE hi;have es:(szO os)[i]? = some l.length:=by unfold szO; rw [getElem?_map,hl]; rfl
  have n4:=h4 _ (mem_of_getElem? es);have pl:=zoq (sz:=szO os) h1 (i+1);have pf:=h.few;rw [take_add_one,es] at pl;simp only [Option.toList_some] at pl;rw [zd1] at pl;generalize hF:((szO os).take i).foldl stp [[]]=F;have lF:F.length=zao ((szO os).take i):=by rw [<- hF,zlw]
  rw [zcD];walk_at "d"
  walk_at "n"
  walk_at "n"
  refine zaj (fun j δ S=>∃ (u3:Option XV),S=[(stp (F.take j) l.length).map zbf]/\δ=[some (.d (.tuple (os.map zft))),some (.d (.list (F.map zbf))),some (.d (.tuple (l.map zdD))),some (.l 0),u3]) ⟨_,by simp [stp],rfl⟩ ?_ ?_
  ·rintro j d _ _ N hj ⟨u3,rfl,rfl⟩ hN;obtain⟨a,ha,rfl⟩:=zbE hj;have jl:j<F.length:=(List.getElem?_eq_some_iff.mp ha).1;have e1:stp (F.take (j+1)) l.length=stp (F.take j) l.length++(List.range l.length).map fun k:Nat=>a++[(k:Int)]:=by
    rw [take_add_one,ha];simp [stp]
   have e2:(stp (F.take j) l.length).length=j*l.length:=by
    unfold stp;rw [zc4 (n:=l.length) (fun x _=>by simp),length_take];rw [Nat.min_eq_left (by omega)]
   have e3:j*l.length<=256:=le_trans (Nat.mul_le_mul_right _ (by omega)) (le_trans pl pf);have ei:zfM 0 ((l.length:Int)).toNat=(List.range l.length).map fun k:Nat=>PyData.int (0+(k:Int)):=by
    rw [show ((l.length:Int)).toNat=l.length by omega];simp [zfM]
   unfold zbf;walk_at "d";rw [ei];refine cmp1 (S0:=[_]) (fun k:Nat=>zbf (a++[(k:Int)])) rfl (List.range l.length) (by simp; omega) ?_ ?_
   ·intro k mk u acc R' hk;have:=hk (some (.d (.int (0+(k:Int)))));unfold zbf at this;walk_at "d";have al:a.length<=8:=by
     have ea:F=fil ((szO os).take i):=by rw [<- hF]; exact zdF _
     have ma:a∈fil ((szO os).take i):=by rw [<- ea]; exact mem_of_getElem? ha
     have:=(zfc.mp ma).1;simp [szO] at this;omega
    refine⟨by omega,?_⟩;simpa using this
   ·walk_at "d";rw [e2,length_range];refine⟨by omega,hN _ _ ⟨_,?_,rfl⟩⟩;rw [e1,map_append,map_map];rfl
  ·rintro _ _ ⟨u3,rfl,rfl⟩;rw [length_map,take_length];refine⟨[],_,rfl,_,rfl,?_⟩;have e5:((szO os).take (i+1)).foldl stp [[]]=stp F l.length:=by
    rw [take_add_one,es,<- hF];exact zjx _ _
   exact hN _ _ ⟨_,_,_,rfl,by rw [e5]; rfl⟩
 ·rintro _ _ ⟨u1,u2,u3,rfl,rfl⟩;rw [length_map,show os.length=(szO os).length by simp [szO],take_length];walk_at "d";have:=zdF (szO os);rw [<- this] at q;exact q
def pcO(os:List (List Off))(ks:List Nat):Int:=((os.zip ks).map fun q=>(q.1.getD q.2 (0,0,0)).2.2).sum
def ntD:PyData->Nat
 | .int i=>i.toNat
 | _=>0
def pcD(os:List (List Off)):PyData->Int
 | .tuple ds=>pcO os (ds.map ntD)
 | _=>0
theorem zfd(os:List (List Off))(ks:List Int):pcD os (zbf ks)=pcO os (kN ks):=by
 show pcO os ((ks.map PyData.int).map ntD)=_;rw [map_map];rfl
def ze1(ps:List Part)(os:List (List Off))(gs:List Gap):List (List Int):=(fil (szO os)).filter fun ks=>zen (chosen ps os (kN ks)) gs
theorem zul(ks:List Int)(i:Nat):(kN ks).getD i 0=(ks.getD i 0).toNat:=by
 unfold kN;simp only [getD_eq_getElem?_getD,getElem?_map];cases ks[i]? <;> simp
def Nst(l:List Off):Prop:=∀ (j:Nat) o o',l[j]? = some o->l[j+1]? = some o'->o.1<=o'.1/\o'.2.1<=o.2.1
theorem zrv{o:Off}:Nst [o]:=fun j a b e1 e2=>by simp at e2
theorem Nst.snoc{front:List Off}{o n:Off}(h:Nst (front++[o]))(hn:o.1<=n.1/\n.2.1<=o.2.1):Nst (front++[o]++[n]):=fun j a b e1 e2=>by
 have hl:=(List.getElem?_eq_some_iff.mp e2).1;simp only [length_append,length_singleton] at hl;by_cases hj:j+1<(front++[o]).length
 ·rw [getElem?_append_left (by omega)] at e1;rw [getElem?_append_left hj] at e2;exact h j a b e1 e2
 ·simp only [length_append,length_singleton] at hj;have ej:j=front.length:=by omega
  subst ej;simp at e1 e2;subst e1 e2;exact hn
theorem Nst.take{l:List Off}(h:Nst l)(n:Nat):Nst (l.take n):=fun j a b e1 e2=>by
 rw [List.getElem?_take] at e1 e2;split at e1
 ·split at e2
  ·exact h j a b e1 e2
  ·cases e2
 ·cases e1
structure Ofn(p:Part)(l:List Off):Prop extends Ofp p l where
 nst:Nst l
structure OffN(ps:List Part)(os:List (List Off)):Prop where
 len:os.length=ps.length
 ok:∀ (i:Nat) p l,ps[i]? = some p->os[i]? = some l->Ofn p l
theorem OffN.offs{ps:List Part}{os:List (List Off)}(h:OffN ps os):Offs ps os:=⟨h.len,fun i p l e1 e2=>(h.ok i p l e1 e2).toOfp⟩
theorem OffN.oc{ps:List Part}{os:List (List Off)}(h:OffN ps os)(h8:ps.length<=8)(few:zao (szO os)<=256):OC ps os :=
 ⟨h.offs,h8,few,fun i l e=>(h.ok i _ l (zbG (by have:=(List.getElem?_eq_some_iff.mp e).1; have:=h.len; omega)) e).nst⟩
theorem zlJ{p:List PyData}{ps:List Part}(hp:zY p)(hd:Drw ps)(q:∀ os p',OffN ps os->zY p'->R (.d (zas os)) [p']):zbM [.l 0,.d (zbv ps)] [p] R:=by
 have h8:=hd.l8;unfold zbM;walk_at "d"
 walk_at "n"
 walk_at "n"
 refine⟨⟨by decide,by decide,by decide⟩,?_⟩;refine zq hp dz (by decide +kernel) fun r p1 r0 r1 hp1=>?_;obtain⟨d,ed,great,rfl,g0,gb⟩:=zmz (P:=fun d=>∃ n:Int,d=.int n/\0<n/\n.natAbs.log2<9000) (ds:=[PyData.int 4,PyData.int 4,PyData.int 4,PyData.int (10 ^ 50)]) r0 r1 (by
  intro d m;simp only [mem_cons,not_mem_nil,or_false] at m;rcases m with rfl | rfl | rfl | rfl <;> exact⟨_,rfl,by decide +kernel,by decide +kernel⟩)
 walk_at "d";refine⟨_,ed,?_⟩;walk_at "d";refine seq1 ?_;rw [zbv];walk_at "d";refine zaj (fun i δ S=>∃ (p:List PyData) (os:List (List Off)) (T:Sto) (u1 u2 u3 u4 u5 u6 u7 u8 u9 u10:Option XV),zY p/\os.length=i/\(∀ (j:Nat) p l,ps[j]? = some p->os[j]? = some l->Ofn p l)/\S=p :: os.map zft :: T/\δ=[some (.l 0),some (.d (.tuple (ps.map zes))),some (.l 1),some (.d (.int great)),u1,u2,u3,u4,u5,u6,u7,u8,u9,u10]) ⟨p1,[],[],_,_,_,_,_,_,_,_,_,_,hp1,rfl,by simp,rfl,rfl⟩ ?_ ?_
 ·rintro i d _ _ N hi ⟨p,os,T,u1,u2,u3,u4,u5,u6,u7,u8,u9,u10,hp,hl,ha,rfl,rfl⟩ hN;obtain⟨pt,hpt,rfl⟩:=zbE hi;have op:=hd.ord pt (mem_of_getElem? hpt);have il:i<ps.length:=(List.getElem?_eq_some_iff.mp hpt).1;rw [zh7];walk_at "d"
  walk_at "n"
  refine cut (fun δ S=>∃ (p:List PyData) (some_:List Off) (u5 u6 u7 u8 u9 u10:Option XV),zY p/\Ofn pt some_/\S=p :: os.map zft :: (T++[some_.map zdD])/\δ=[some (.l 0),some (.d (.tuple (ps.map zes))),some (.l 1),some (.d (.int great)),some (.d (.str pt.1)),some (.d (.int pt.2.1)),some (.d (.int pt.2.2)),some (.l (T.length+1+1)),u5,u6,u7,u8,u9,u10]) (fun N' hN'=>?_) ?_
  ·walk_at "d";refine zq hp dz (by decide +kernel) fun r p1 r0 r1 hp1=>?_;walk_at "d";refine zaj (fun j δ S=>∃ (p:List PyData) (some_:List Off) (u5 u6 u7 u8 u9 u10:Option XV),zY p/\some_.length<=j+1/\1<=some_.length/\((∀ o∈some_,pt.2.1<=o.1/\o.1<=o.2.1/\o.2.1<=pt.2.2)/\Nst some_)/\S=p :: os.map zft :: (T++[some_.map zdD])/\δ=[some (.l 0),some (.d (.tuple (ps.map zes))),some (.l 1),some (.d (.int great)),some (.d (.str pt.1)),some (.d (.int pt.2.1)),some (.d (.int pt.2.2)),some (.l (T.length+1+1)),u5,u6,u7,u8,u9,u10]) ⟨p1,[(pt.2.1,pt.2.2,0)],_,_,_,_,_,_,hp1,by simp,by simp,⟨fun o m=>by rw [mem_singleton.mp m]; exact⟨Int.le_refl _,op,Int.le_refl _⟩,zrv⟩,rfl,rfl⟩ ?_ ?_
   ·rintro j d _ _ N2 hj ⟨p,some_,u5,u6,u7,u8,u9,u10,hp,hl2,hl1,hso,rfl,rfl⟩ hN2;obtain⟨hj',rfl⟩:=zb2 hj;obtain⟨front,o,rfl⟩:=zrn hl1;have oo:=hso.1 o (by simp);walk_at "d";walk_at "n";have gl:(T++[(front++[o]).map zdD])[T.length]? = some (front.map zdD++[zdD o]):=by simp
    have al:=zpu (front.map zdD) (zdD o);refine⟨_,gl,_,al,?_⟩;rw [zej];walk_at "d";have low:=fun(p:List PyData) (hp:zY p) (u5 u6 u7 u8 u9 u10:Option XV)=>hN2 [some (.l 0),some (.d (.tuple (ps.map zes))),some (.l 1),some (.d (.int great)),some (.d (.str pt.1)),some (.d (.int pt.2.1)),some (.d (.int pt.2.2)),some (.l (T.length+1+1)),u5,u6,u7,u8,u9,u10] (p :: os.map zft :: (T++[(front++[o]).map zdD])) ⟨p,front++[o],u5,u6,u7,u8,u9,u10,hp,by omega,hl1,hso,rfl,rfl⟩;split
    ·rename_i hlt;have add:=fun(p:List PyData) (hp:zY p) (u5 u6 u7 u8 u9 u10:Option XV) (n:Off) (hn:pt.2.1<=n.1/\n.1<=n.2.1/\n.2.1<=pt.2.2) (hn2:o.1<=n.1/\n.2.1<=o.2.1)=>hN2 [some (.l 0),some (.d (.tuple (ps.map zes))),some (.l 1),some (.d (.int great)),some (.d (.str pt.1)),some (.d (.int pt.2.1)),some (.d (.int pt.2.2)),some (.l (T.length+1+1)),u5,u6,u7,u8,u9,u10] (p :: os.map zft :: (T++[front.map zdD++[zdD o]++[zdD n]])) ⟨p,front++[o]++[n],u5,u6,u7,u8,u9,u10,hp,by simp at hl2 ⊢; omega,by simp,⟨fun x m=>by
      rcases mem_append.mp m with m | m
      ·exact hso.1 x m
      ·rw [mem_singleton.mp m]; exact hn,hso.2.snoc hn2⟩,by simp,rfl⟩
     walk_at "n"
     refine zq hp (by split <;> omega) (zck (by split <;> omega) (by split <;> omega)) fun r2 p2 r20 r21 hp2=>?_;walk_at "d"
     walk_at "n"
     refine zq hp2 dz (by decide +kernel) fun r3 p3 r30 r31 hp3=>?_;walk_at "d";have rb:r2<=o.2.1 - o.1:=by split at r21 <;> omega
     have eb:o.1+r2<=(if o.2.1 - r3>o.1+r2 then o.2.1 - r3 else o.1+r2)/\(if o.2.1 - r3>o.1+r2 then o.2.1 - r3 else o.1+r2)<=o.2.1:=by split <;> omega
     generalize (if o.2.1 - r3>o.1+r2 then o.2.1 - r3 else o.1+r2)=e at eb ⊢;refine cut (fun δ S=>∃ b:Int,o.1<=b/\b<=e/\S=p3 :: os.map zft :: (T++[(front++[o]).map zdD])/\δ=[some (.l 0),some (.d (.tuple (ps.map zes))),some (.l 1),some (.d (.int great)),some (.d (.str pt.1)),some (.d (.int pt.2.1)),some (.d (.int pt.2.2)),some (.l (T.length+1+1)),some (.d (.int (0+(j:Int)))),some (.d (.int o.1)),some (.d (.int o.2.1)),some (.d (.int o.2.2)),some (.d (.int b)),some (.d (.int e))]) (fun N3 hN3=>?_) ?_
     ·walk_at "d";have no:=hN3 _ _ ⟨o.1+r2,by omega,by omega,rfl,rfl⟩;split
      ·split
       ·exact hN3 _ _ ⟨o.1+1,by omega,by omega,rfl,rfl⟩
       ·exact no
      ·exact no
     ·rintro _ _ ⟨b,b1,b2,rfl,rfl⟩;walk_at "d";refine⟨by simp,?_⟩;refine zq hp3 g0 gb fun r4 p4 r40 r41 hp4=>?_;walk_at "d";refine⟨_,gl,by simp at hl2 ⊢; omega,?_⟩;have es:((T++[(front++[o]).map zdD]).set T.length (front.map zdD++[zdD o]++[zdD (b,e,o.2.2+1+r4)]))=T++[front.map zdD++[zdD o]++[zdD (b,e,o.2.2+1+r4)]]:=zeu rfl;rw [zej (b,e,_)] at es;rw [es];exact add _ hp4 _ _ _ _ _ _ (b,e,o.2.2+1+r4) ⟨by simp only; omega,by simp only; omega,by simp only; omega⟩ ⟨by simp only; omega,by simp only; omega⟩
    ·exact low _ hp _ _ _ _ _ _
   ·rintro _ _ ⟨p,some_,u5,u6,u7,u8,u9,u10,hp,hl2,hl1,hso,rfl,rfl⟩;rw [zal] at hl2;exact hN' _ _ ⟨p,some_,_,_,_,_,_,_,hp,⟨⟨hl1,by omega,hso.1⟩,hso.2⟩,rfl,rfl⟩
  ·rintro _ _ ⟨p,some_,u5,u6,u7,u8,u9,u10,hp,hso,rfl,rfl⟩;walk_at "d";have gl:(T++[some_.map zdD])[T.length]? = some (some_.map zdD):=by simp
   refine⟨by omega,_,gl,by omega,?_⟩;refine hN _ _ ⟨p,os++[some_],T++[some_.map zdD],_,_,_,_,_,_,_,_,_,_,hp,by simp [hl],fun j p' l hj1 hj2=>?_,by simp [zft],rfl⟩;by_cases e:j<os.length
   ·rw [getElem?_append_left e] at hj2;exact ha j p' l hj1 hj2
   ·rw [getElem?_append_right (by omega)] at hj2;have:j=i:=by
     have:=(List.getElem?_eq_some_iff.mp hj2).1;simp at this;omega
    subst this;rw [hpt] at hj1;cases hj1;have e0:j - os.length=0:=by omega
    rw [e0] at hj2;cases hj2;exact hso
 ·rintro _ _ ⟨p,os,T,u1,u2,u3,u4,u5,u6,u7,u8,u9,u10,hp,hl,ha,rfl,rfl⟩;rw [length_map] at hl;walk_at "d";exact q os p ⟨hl,ha⟩ hp
theorem zgN{b:Nat}:∀ {sz:List Nat},(∀ s∈sz,s<=b)->zao sz<=b ^ sz.length
 | [],_=>le_refl _
 | s :: sz,h=>by
  rw [length_cons,Nat.pow_succ,mul_comm (b ^ sz.length)];exact mul_le_mul (h s mem_cons_self) (zgN fun x m=>h x (mem_cons_of_mem _ m))
theorem few4{sz:List Nat}(hl:sz.length<=4)(h:∀ s∈sz,s<=4):zao sz<=256:=le_trans (zgN h) (le_trans (Nat.pow_le_pow_right dz hl) dz)
theorem few2{sz:List Nat}(hl:sz.length<=8)(h:∀ s∈sz,s<=2):zao sz<=256:=le_trans (zgN h) (le_trans (Nat.pow_le_pow_right dz hl) dz)
theorem OffN.few{ps:List Part}{os:List (List Off)}(h:OffN ps os)(h4:ps.length<=4):zao (szO os)<=256:=by
 refine few4 (by simp [szO]; have:=h.len; omega) fun s m=>?_;obtain⟨l,ml,rfl⟩:=mem_map.mp m;obtain⟨i,hi⟩:=mem_iff_getElem?.mp ml;exact(h.ok i _ l (zbG (by have:=(List.getElem?_eq_some_iff.mp hi).1; have:=h.len; omega)) hi).l4
theorem zpL{ps:List Part}(h:Drw ps):Drw (ps.take 4):=⟨by rw [length_take]; have:=h.l1; omega,by rw [length_take]; have:=h.l8; omega,fun p m=>h.all p (mem_of_mem_take m)⟩
end
section
variable {R:RX} {S:Sto}
theorem zgH{b:List Int}{ns:List Int}(hl:ns.length<=1000)(bl:b.length<=100)(q:R (.d (.list ((ns.map fun k=>b++[k]).map zbf))) []):zaS [.d (.list [zbf b]),.d (.list (ns.map PyData.int))] [] R:=by
 unfold zaS;walk_at "d"
 walk_at "n"
 walk_at "n";refine zaj (fun j δ S=>∃ (u:Option XV),S=[(([b].take j).flatMap fun a=>ns.map fun k=>a++[k]).map zbf]/\δ=[some (.d (.list [zbf b])),some (.d (.list (ns.map PyData.int))),some (.l 0),u]) ⟨_,rfl,rfl⟩ ?_ ?_
 ·rintro j d _ _ N hj ⟨u,rfl,rfl⟩ hN;have j0:j=0:=by
   have:=(List.getElem?_eq_some_iff.mp hj).1;simp at this;omega
  subst j0;obtain rfl:zbf b=d:=by simpa using hj
  rw [zbf];walk_at "d";refine cmp1 (S0:=[(([b].take 0).flatMap fun a=>ns.map fun k=>a++[k]).map zbf]) (fun x:Int=>zbf (b++[x])) rfl ns (by omega) ?_ ?_
  ·intro x mx u acc R' hk;walk_at "d";refine⟨by omega,?_⟩;rw [ziK];exact hk _
  ·walk_at "d";refine⟨by simp; omega,hN _ _ ⟨_,?_,rfl⟩⟩;simp [map_map,Function.comp_def]
 ·rintro _ _ ⟨u,rfl,rfl⟩;walk_at "d";refine .inl ?_;simpa using q
def ndS:List Nat->Nat
 | []=>1
 | s :: r=>1+s*ndS r
theorem ziE{α:Type}(c:Nat):∀ l:List α,(l.map fun _=>c).sum=l.length*c
 | []=>by simp
 | x :: l=>by rw [map_cons,sum_cons,ziE c l,length_cons,succ_mul]; omega
theorem zsZ:∀ l:List Nat,1<=ndS l
 | []=>le_refl _
 | s :: r=>by unfold ndS; omega
theorem zo3(s:Nat)(h:1<=s):znz ((s:Int) - 1) (((s:Int) - 1) - (-1)).toNat=((List.range s).reverse.map fun k:Nat=>(k:Int)).map PyData.int:=by
 rw [show ((s:Int) - 1 - -1).toNat=s by omega];apply List.ext_getElem
 ·simp [znz]
 ·intro i h1 h2;have hi:i<s:=by simpa [znz] using h1
  simp [znz];omega
theorem zm2{α:Type}{l:List α}{n:Nat}{x:α}(h:l[n]? = some x):l.drop n=x :: l.drop (n+1):=by
 obtain⟨hn,e⟩:=List.getElem?_eq_some_iff.mp h;rw [List.drop_eq_getElem_cons hn,e]
end
section
variable {R:RX} {S:Sto}
def ztS(C:Addr):Str:=if C=37 then "span" else if C=49 then "part" else if C=61 then "set" else if C=161 then "text" else if C=73 then "row" else if C=85 then "unlike" else if C=104 then "drawing" else if C=123 then "gap" else if C=142 then "offer" else "great"
theorem zow{C D:Addr}{fs:List (Str×PyData)}(hC:C∈excs)(hD:D∈excs)(q:R (.d (.bool (decide (C=D)))) S):zlp [.x C fs,.o (.ref D)] S R:=⟨C,fs,_,rfl,rfl,hC,.inl ⟨D,rfl,hD,q⟩⟩
theorem zvn{C:Addr}{fs:List (Str×PyData)}(hC:C∈excs)(q:R (.d (.bool true)) S):zlp [.x C fs,.o (.ty "ValueError")] S R:=⟨C,fs,_,rfl,rfl,hC,.inr ⟨rfl,q⟩⟩
theorem zjY{C:Addr}{fs:List (Str×PyData)}(hC:C∈excs)(q:R (.d (.str (ztS C))) []):zch [.x C fs] [] R:=by
 unfold zch;walk_at "d"
 walk_at "n"
 refine zow hC dz ?_;walk_at "d";refine zow hC dz ?_;walk_at "d";refine zow hC dz ?_;walk_at "d";refine zow hC dz ?_;walk_at "d"
 walk_at "n"
 refine zow hC dz ?_;walk_at "d";refine zow hC dz ?_;walk_at "d";refine zow hC dz ?_;walk_at "d";refine zow hC dz ?_;walk_at "d"
 walk_at "n"
 refine zow hC dz ?_;walk_at "d";refine zow hC dz ?_;walk_at "d"
 walk_at "n"
 refine zvn hC ?_;walk_at "d";refine⟨[decide (C=37),decide (C=49),decide (C=61),decide (C=161),decide (C=73),decide (C=85),decide (C=104),decide (C=123),decide (C=142),decide (C=180)],rfl,?_⟩;have sh:∀ bs:List Bool,SeqAt.shaped (.list (bs.map PyData.bool))=true:=fun bs=>(zfQ (zis fun _ _=>(zhV:Shp 0 _))).ok;simp only [excs,mem_cons,not_mem_nil,or_false] at hC;rcases hC with rfl | rfl | rfl | rfl | rfl | rfl | rfl | rfl | rfl | rfl
 ·rw [if_neg dz]
  walk_at "n"
  exact⟨sh [true,false,false,false,false,false,false,false,false,false],0,⟨_,rfl,rfl⟩,(fun m e hm he=>by rcases m with _ | _ | _ | _ | _ | _ | _ | _ | _ | m <;> first | (exfalso; omega) | (cases he; rfl)),_,rfl,q⟩
 ·rw [if_neg dz]
  walk_at "n"
  exact⟨sh [false,true,false,false,false,false,false,false,false,false],1,⟨_,rfl,rfl⟩,(fun m e hm he=>by rcases m with _ | _ | _ | _ | _ | _ | _ | _ | _ | m <;> first | (exfalso; omega) | (cases he; rfl)),_,rfl,q⟩
 ·rw [if_neg dz]
  walk_at "n"
  exact⟨sh [false,false,true,false,false,false,false,false,false,false],2,⟨_,rfl,rfl⟩,(fun m e hm he=>by rcases m with _ | _ | _ | _ | _ | _ | _ | _ | _ | m <;> first | (exfalso; omega) | (cases he; rfl)),_,rfl,q⟩
 ·rw [if_neg dz]
  walk_at "n"
  exact⟨sh [false,false,false,false,true,false,false,false,false,false],4,⟨_,rfl,rfl⟩,(fun m e hm he=>by rcases m with _ | _ | _ | _ | _ | _ | _ | _ | _ | m <;> first | (exfalso; omega) | (cases he; rfl)),_,rfl,q⟩
 ·rw [if_neg dz]
  walk_at "n"
  exact⟨sh [false,false,false,false,false,true,false,false,false,false],5,⟨_,rfl,rfl⟩,(fun m e hm he=>by rcases m with _ | _ | _ | _ | _ | _ | _ | _ | _ | m <;> first | (exfalso; omega) | (cases he; rfl)),_,rfl,q⟩
 ·rw [if_neg dz]
  walk_at "n"
  exact⟨sh [false,false,false,false,false,false,true,false,false,false],6,⟨_,rfl,rfl⟩,(fun m e hm he=>by rcases m with _ | _ | _ | _ | _ | _ | _ | _ | _ | m <;> first | (exfalso; omega) | (cases he; rfl)),_,rfl,q⟩
 ·rw [if_neg dz]
  walk_at "n"
  exact⟨sh [false,false,false,false,false,false,false,true,false,false],7,⟨_,rfl,rfl⟩,(fun m e hm he=>by rcases m with _ | _ | _ | _ | _ | _ | _ | _ | _ | m <;> first | (exfalso; omega) | (cases he; rfl)),_,rfl,q⟩
 ·rw [if_neg dz]
  walk_at "n"
  exact⟨sh [false,false,false,false,false,false,false,false,true,false],8,⟨_,rfl,rfl⟩,(fun m e hm he=>by rcases m with _ | _ | _ | _ | _ | _ | _ | _ | _ | m <;> first | (exfalso; omega) | (cases he; rfl)),_,rfl,q⟩
 ·rw [if_neg dz]
  walk_at "n"
  exact⟨sh [false,false,false,true,false,false,false,false,false,false],3,⟨_,rfl,rfl⟩,(fun m e hm he=>by rcases m with _ | _ | _ | _ | _ | _ | _ | _ | _ | m <;> first | (exfalso; omega) | (cases he; rfl)),_,rfl,q⟩
 ·rw [if_neg dz]
  walk_at "n"
  exact⟨sh [false,false,false,false,false,false,false,false,false,true],9,⟨_,rfl,rfl⟩,(fun m e hm he=>by rcases m with _ | _ | _ | _ | _ | _ | _ | _ | _ | m <;> first | (exfalso; omega) | (cases he; rfl)),_,rfl,q⟩
end
section
variable {R:RX} {S:Sto} {EX:EXD}
theorem zkf{sz:List Nat}{F:Addr}{ql:PN}(hz:Sz sz)(h1:∀ s∈sz,1<=s)(hf:zao sz<=300)
  (hw:∀ b,Bgn sz b->∀ R':RX,(∀ w,R' (.d w) [])->ql [.d (zbf b)] [] R') (q:∀ d,R (.d d) []):zbp F ql [.d (szD sz),.o (.ref F)] [] R:=by
 obtain⟨h8,h4⟩:=hz;have pos:∀ n,1<=zao (sz.drop n):=fun n=>zeH fun x m=>h1 x (mem_of_mem_drop m);unfold zbp szD;walk_at "d"
 walk_at "n"
 walk_at "n"
 walk_at "n";refine⟨fun m δ S=>∃ (st:List (List Int)) (rows:List PyData) (u v:Option XV),(∀ b∈st,Bgn sz b)/\m=(st.map fun b=>ndS (sz.drop b.length)).sum/\rows.length+(st.map fun b=>zao (sz.drop b.length)).sum<=300 /\
   S=[rows,st.map zbf]/\δ=[some (.d (.list (sz.map fun n:Nat=>.int n))),some (.o (.ref F)),some (.l 0),some (.l 1),u,v],⟨_,[[]],[],none,none,?_,rfl,?_,rfl,rfl⟩,?_⟩
 ·intro b m;rw [mem_singleton.mp m];cases sz <;> trivial
 ·simpa using hf
 ·rintro m _ _ ⟨st,rows,u,v,hb,rfl,hl,rfl,rfl⟩;walk_at "d";rcases List.eq_nil_or_concat st with rfl | ⟨st',b,rfl⟩
  ·simp only [map_nil,List.isEmpty_nil,Bool.true_eq_false,if_false];exact .inl (q _)
  ·rw [List.concat_eq_append] at *;rw [if_pos (by simp)];have hbb:=hb b (by simp);have hb':∀ c∈st',Bgn sz c:=fun c m=>hb c (by simp [m]);have bl:=zol hbb;rw [map_append,sum_append] at hl ⊢;simp only [map_cons,map_nil,sum_cons,List.sum_nil,Nat.add_zero] at hl ⊢;have pb:=pos b.length;refine⟨_,fun _ _ h=>h,?_⟩;walk_at "d"
   walk_at "n"
   refine⟨zbf b,by simp,?_⟩;have edl:(List.map zbf (st'++[b])).dropLast=st'.map zbf:=by simp
   rw [edl]
   walk_at "n"
   refine hw b hbb _ fun w=>?_;by_cases wn:w≠.none
   ·have np:=zsZ (sz.drop b.length);show ret0 _ _ (.d w) [];walk_at "d";refine⟨by omega,_,?_,st',rows++[.tuple [zbf b,w]],_,_,hb',rfl,?_,⟨rfl,rfl⟩,rfl,rfl⟩
    ·omega
    ·rw [length_append,length_singleton];omega
   ·have lx:∀ S,zoH S (.d (zbf b))=some b.length:=fun S=>by
     unfold zbf;rw [znb,length_map]
    obtain rfl:w=.none:=Classical.not_not.mp wn;show ret0 _ _ (.d .none) [];walk_at "d";refine⟨_,lx _,?_⟩;by_cases hfl:b.length=sz.length
    ·rw [if_pos (by omega)];exact q _
    ·rw [if_neg (by omega)];have il:b.length<sz.length:=by omega
     have es:=getElem?_eq_getElem il;generalize sz[b.length]'il=s at es;have s1:=h1 s (mem_of_getElem? es);have s4:=h4 s (mem_of_getElem? es);have ed:=zm2 es;refine⟨_,lx _,_,zbj es,?_⟩;walk_at "d";refine⟨_,_,⟨rfl,rfl⟩,⟨by omega,by omega⟩,⟨by decide,by decide⟩,?_⟩;rw [zo3 s s1];refine zgH (by simp; omega) (by omega) ?_;walk_at "d";have eN:∀ f:List Nat->Nat,(((List.range s).reverse.map fun k:Nat=>b++[(k:Int)]).map fun c=>f (sz.drop c.length)).sum=s*f (sz.drop (b.length+1)):=fun f=>by
      rw [map_map,map_congr_left (g:=fun _=>f (sz.drop (b.length+1))) fun k _=>by simp];rw [ziE,List.length_reverse,length_range]
     have stl:st'.length<=300:=by
      have:st'.length<=(st'.map fun b=>zao (sz.drop b.length)).sum:=by
       clear hl hb hb' edl
       induction st' with
       | nil=>simp
       | cons c l ih=>simp only [length_cons,map_cons,sum_cons]; have:=pos c.length; omega
      omega
     rw [ed] at hl ⊢;refine⟨by simp; omega,_,?_,st'++((List.range s).reverse.map fun k:Nat=>b++[(k:Int)]),rows,_,_,?_,rfl,?_,⟨rfl,by simp⟩,rfl,rfl⟩
     ·rw [map_append,sum_append,eN ndS];simp only [ndS];omega
     ·intro c m;rcases mem_append.mp m with m | m
      ·exact hb' c m
      ·obtain⟨k,mk,rfl⟩:=mem_map.mp m;have:=mem_range.mp (mem_reverse.mp mk);exact zkC hbb es (by omega) (by omega)
     ·rw [map_append,sum_append,eN zao];simp only [zao] at hl;omega
theorem zjz{os:List (List Off)}{ks:List Nat}(l8:os.length<=8)(hk:ks.length<=os.length)(hc:∀ i,i<ks.length->ks.getD i 0<(os.getD i []).length)(q:∀ x:Int,R (.d (.int x)) []):zaX [.d (zas os),.d (zgT ks)] [] R:=by
 unfold zaX zas zgT;walk_at "d";rw [zeP];refine cmp2 (S0:=[]) (fun q:List Off×Nat=>.int (q.1.getD q.2 (0,0,0)).2.2) rfl (os.zip ks) (by simp; omega) ?_ ?_
 ·intro x mx u v acc R' hk';obtain⟨i,hi⟩:=mem_iff_getElem?.mp mx;rw [getElem?_zip_eq_some] at hi;obtain⟨h1,h2⟩:=hi;have il:i<os.length:=(List.getElem?_eq_some_iff.mp h1).1;have ik:i<ks.length:=(List.getElem?_eq_some_iff.mp h2).1;have e1:os.getD i []=x.1:=by rw [zf7 il] at h1; exact Option.some.inj h1
  have e2:ks.getD i 0=x.2:=by rw [gD (d:=0) ik] at h2; exact Option.some.inj h2
  have kb:=hc i ik;rw [e1,e2] at kb;have e3:=zbj (f:=zdD) (gD (d:=((0,0,0):Off)) kb);rw [zcD];walk_at "d";refine⟨_,e3,?_⟩;rw [zej];walk_at "d";exact hk' _ _
 ·walk_at "d";exact⟨_,by rw [map_map]; rfl,q _⟩
theorem znY{os:List (List Off)}{b:List Int}(hb:Bgn (szO os) b):zbf b=zgT (kN b)/\(kN b).length=b.length/\b.length<=os.length/\∀ i,i<b.length->(kN b).getD i 0<(os.getD i []).length:=by
 obtain⟨e1,e2,e3⟩:=zko hb;have bl:b.length<=os.length:=by simpa [szO] using e2
 refine⟨zmG e1,by simp [kN],bl,fun i hi=>?_⟩;have eb:=getElem?_eq_getElem hi;have eo:=getElem?_eq_getElem (show i<os.length by omega);have:=e3 i _ (os[i]'(by omega)).length eb (by unfold szO; rw [getElem?_map,eo]; rfl);rw [zul,getD_eq_getElem?_getD,eb,getD_eq_getElem?_getD,eo];exact this
theorem zg7{ps:List Part}{os:List (List Off)}{b:List Int}(ho:Offs ps os)(h8:ps.length<=8)(hb:Bgn (szO os) b)(q:∀ ks,Chs os ks->R (.d (zbv (chosen ps os ks))) []):zdh [.d (zbv ps),.d (zas os),.d (zbf b)] [] R:=by
 have hl:=ho.len;obtain⟨e,kl,bl,hk⟩:=znY hb;unfold zdh;walk_at "d";walk_at "n";refine za4 (by omega) ?_;walk_at "d";refine cmp1 (S0:=[]) (fun l:List Off=>PyData.int ((l.length:Int) - 1)) rfl os (by omega) ?_ ?_
 ·intro l ml u acc R' hk;walk_at "d";exact hk _
 ·rw [e];unfold zgT;walk_at "d";have c1:zdE (os.map fun l:List Off=>PyData.int ((l.length:Int) - 1)) (some ((kN b).length:Int)) none=(os.drop b.length).map fun l=>PyData.int ((l.length:Int) - 1):=by
   rw [kl,zos (by simpa using bl),map_drop]
  rw [c1];refine⟨by simp; omega,?_⟩;have pos:∀ i,i<os.length->1<=(os.getD i []).length:=fun i hi=>by
   have:=(ho.ok i _ _ (zbG (by omega)) (zf7 hi)).l1;exact this
  have ck:Chs os (kN b++(os.drop b.length).map fun l=>l.length - 1):=by
   refine⟨by simp [kl]; omega,fun i hi=>?_⟩;by_cases hib:i<b.length
   ·rw [getD_eq_getElem?_getD,getElem?_append_left (by omega),<- getD_eq_getElem?_getD];exact hk i hib
   ·have:=pos i hi;rw [getD_eq_getElem?_getD,getElem?_append_right (by omega),kl,getElem?_map,List.getElem?_drop,show b.length+(i - b.length)=i by omega,zf7 hi];show (os.getD i []).length - 1<_;omega
  have ec:PyData.tuple ((kN b).map (fun k:Nat=>PyData.int (k:Int))++(os.drop b.length).map fun l=>PyData.int ((l.length:Int) - 1))=zgT (kN b++(os.drop b.length).map fun l=>l.length - 1):=by
   unfold zgT;rw [map_append,map_map];congr 2;refine map_congr_left fun l ml=>?_;obtain⟨i,hi⟩:=mem_iff_getElem?.mp ml;rw [List.getElem?_drop] at hi;have il:=(List.getElem?_eq_some_iff.mp hi).1;have:=pos _ il;have e5:os.getD (b.length+i) []=l:=by rw [zf7 il] at hi; exact Option.some.inj hi
   rw [e5] at this;show PyData.int ((l.length:Int) - 1)=PyData.int ((l.length - 1:Nat):Int);congr 1;omega
  rw [ec];exact zea ho ck h8 (q _ ck)
theorem ziC{ps:List Part}{os:List (List Off)}{gs:List Gap}{price:Int}{b:List Int}(ho:Offs ps os)(h8:ps.length<=8)(gl:gs.length<=100)(hg:∀ g∈gs,Tms ps.length g.ts)(hb:Bgn (szO os) b)(q:∀ w,R (.d w) []):zeG [.d (.tuple [zbv ps,zcP gs]),.d (zas os),.d (.int price),.d (zbf b)] [] R:=by
 have hl:=ho.len;obtain⟨e,kl,bl,hk⟩:=znY hb;unfold zeG;walk_at "d";walk_at "n";rw [e];refine zjz (by omega) (by omega) (fun i hi=>hk i (by omega)) fun x=>?_;rw [<- e];walk_at "d";split
 ·exact q _
 ·walk_at "n"
  refine zg7 ho h8 hb fun ks hc=>?_;walk_at "d";have cl:=zbz (ps:=ps) (os:=os) (ks:=ks);refine zhK (ps:=chosen ps os ks) (gs:=gs) (zhi ho hc) (by omega) gl (by rw [cl]; exact hg) (fun _=>?_) fun one j g _ _ _ _ _=>?_
  ·walk_at "d";exact q _
  ·walk_at "d";exact q _
theorem zgA{ps:List Part}{os:List (List Off)}(ho:Offs ps os)(h8:ps.length<=8):Sz (szO os)/\∀ s∈szO os,1<=s:=by
 have hl:=ho.len;have ok:∀ l∈os,1<=l.length/\l.length<=4:=fun l m=>by
  obtain⟨i,hi⟩:=mem_iff_getElem?.mp m;have il:=(List.getElem?_eq_some_iff.mp hi).1;have:=ho.ok i _ l (zbG (by omega)) hi;exact⟨this.l1,this.l4⟩
 refine⟨⟨by simp [szO]; omega,fun s m=>?_⟩,fun s m=>?_⟩
 ·obtain⟨l,ml,rfl⟩:=mem_map.mp m;exact(ok l ml).2
 ·obtain⟨l,ml,rfl⟩:=mem_map.mp m;exact(ok l ml).1
def zuf(n:Nat):List (Str×PyData):=[("many",.int n),("most",.int 300)]
theorem zhP{sz:List Nat}(hz:Sz sz)(hf:zao sz<=300)(q:R (.d .none) []):zai [.d (szD sz)] [] R EX:=by
 unfold zai;walk_at "d"
 walk_at "n"
 refine zbQ hz (by simp) ?_;walk_at "d";rw [drop_zero,if_neg (by omega)];exact q
theorem zfv{sz:List Nat}(hz:Sz sz)(hf:300<zao sz)(q:EX 180 (zuf (zao sz))):zai [.d (szD sz)] [] R EX:=by
 unfold zai;walk_at "d"
 walk_at "n"
 refine zbQ hz (by simp) ?_;walk_at "d";rw [drop_zero,if_pos (by omega)];exact q
theorem zrO(os:List (List Off)):ImD (zas os)=true:=by
 unfold zas;rw [zkw];refine zhB fun d m=>?_;obtain⟨l,_,rfl⟩:=mem_map.mp m;rw [zcD,zkw];refine zhB fun d m=>?_;obtain⟨t,_,rfl⟩:=mem_map.mp m;rfl
theorem zpJ(ps:List Part):ImD (zbv ps)=true:=by
 unfold zbv;rw [zkw];refine zhB fun d m=>?_;obtain⟨p,_,rfl⟩:=mem_map.mp m;rfl
theorem zna(gs:List Gap):ImD (zcP gs)=true:=by
 unfold zcP;rw [zkw];refine zhB fun d m=>?_;obtain⟨g,_,rfl⟩:=mem_map.mp m;rw [zco,zkw];simp only [ImL,ztp,Bool.and_true];unfold znI;rw [zkw];refine zhB fun d m=>?_;obtain⟨t,_,rfl⟩:=mem_map.mp m;rfl
section
variable {ps:List Part} {os:List (List Off)} {gs:List Gap}
theorem zpR(ho:Offs ps os)(h8:ps.length<=8)(hf:zao (szO os)<=300)(gl:gs.length<=100)(hg:∀ g∈gs,Tms ps.length g.ts){price:Int}(q:∀ d,R (.d d) []):zcl [.d (.tuple [zbv ps,zcP gs]),.d (zas os),.d (.int price)] [] R EX:=by
 have hl:=ho.len;obtain⟨hz,h1⟩:=zgA ho h8;unfold zcl;walk_at "d"
 walk_at "n"
 refine za4 (by omega) ?_;rw [zc7];walk_at "d"
 walk_at "n"
 refine zhP hz hf ?_;walk_at "d";refine⟨_,[.tuple [zbv ps,zcP gs],zas os,.int price],rfl,rfl,?_,fun F=>?_⟩
 ·simp only [ImL,ztp,zkw,zpJ,zna,zrO,Bool.and_self]
 ·refine zkf hz h1 hf (fun b hb R' hR=>?_) fun d=>?_
  ·walk_at "d";exact ziC ho h8 gl hg hb hR
  ·exact q d
theorem zhd(ho:Offs ps os)(h8:ps.length<=8)(hf:300<zao (szO os)){job pr:PyData}(q:EX 180 (zuf (zao (szO os)))):zcl [.d job,.d (zas os),.d pr] [] R EX:=by
 have hl:=ho.len;obtain⟨hz,h1⟩:=zgA ho h8;unfold zcl;walk_at "d"
 walk_at "n"
 refine za4 (by omega) ?_;rw [zc7];walk_at "d"
 walk_at "n"
 exact zfv hz hf q
theorem zef(ho:Offs ps os)(h8:ps.length<=8)(hf:300<zao (szO os)){job:PyData}(q:EX 180 (zuf (zao (szO os)))):zcj [.d job,.d (zas os)] [] R EX:=by
 have hl:=ho.len;obtain⟨hz,h1⟩:=zgA ho h8;unfold zcj;walk_at "d"
 walk_at "n"
 refine za4 (by omega) ?_;rw [zc7];walk_at "d";exact zfv hz hf q
theorem zh3(ho:Offs ps os)(h8:ps.length<=8)(hf:zao (szO os)<=300)(h6:gs.length<=6)(hg:∀ g∈gs,Tms ps.length g.ts)(q:∀ d,R (.d d) []):zcj [.d (.tuple [zbv ps,zcP gs]),.d (zas os)] [] R EX:=by
 have hl:=ho.len;obtain⟨hz,h1⟩:=zgA ho h8;unfold zcj;walk_at "d"
 walk_at "n"
 refine za4 (by omega) ?_;rw [zc7];walk_at "d";refine zhP hz hf ?_;walk_at "d"
 walk_at "n"
 refine za4 (by omega) ?_;rw [zc7];walk_at "d";refine zd4 hz h1 hf ?_;walk_at "d";refine cmf1 (S0:=[]) (h:=zbf) (f:=zbf) (p:=fun ks=>zen (chosen ps os (kN ks)) gs) rfl (fil (szO os)) (by rw [zig]; omega) ?_ ?_
 ·intro ks mk u acc R' hk';obtain⟨hc,e⟩:=zgQ mk;walk_at "d";rw [e];refine zn5 ho hc h8 h6 hg ?_;walk_at "d";exact hk' _ fun _ T hT=>⟨_,rfl,by rw [<- e]; exact hT⟩
 ·walk_at "d";refine⟨_,[.d (zas os)],pcD os,rfl,rfl,fun d md R' hR=>⟨_,rfl,[zas os,d],rfl,rfl,?_⟩,fun z=>q _,fun pre d post e hp hq=>q _⟩;obtain⟨ks,mk,rfl⟩:=mem_map.mp md;obtain⟨hc,e⟩:=zgQ (mem_filter.mp mk).1;rw [zfd] at hR;show zaX [.d (zas os),.d (zbf ks)] [] _;rw [e];refine zgy ho hc h8 ?_;walk_at "d";exact hR
end
theorem ziZ{ps:List Part}{os:List (List Off)}{gs:List Gap}(h:OC ps os)(h6:gs.length<=6)(hg:∀ g∈gs,Tms ps.length g.ts)(no:ze1 ps os gs=[]->R (.d .none) [])
  (yes:∀ pre b post,ze1 ps os gs=pre++b :: post->(∀ a∈pre,pcO os (kN b)<pcO os (kN a))->(∀ a∈post,pcO os (kN b)<=pcO os (kN a))->R (.d (zbf b)) []):zcZ [.d (zp9 ps gs),.d (zas os)] [] R:=by
 obtain⟨hz,h1⟩:=h.sz;have l8:os.length<=8:=by have:=h.len; have:=h.h8; omega
 have hf:=h.few;unfold zcZ;walk_at "d"
 walk_at "n"
 refine za4 l8 ?_;rw [zc7];walk_at "d";refine zl4 hz (by omega) ?_;walk_at "d"
 walk_at "n"
 refine za4 l8 ?_;rw [zc7];walk_at "d";refine zd4 hz h1 (by omega) ?_;walk_at "d";refine cmf1 (S0:=[]) (h:=zbf) (f:=zbf) (p:=fun ks=>zen (chosen ps os (kN ks)) gs) rfl (fil (szO os)) (by rw [zig]; omega) ?_ ?_
 ·intro ks mk u acc R' hk';obtain⟨hc,e⟩:=zgQ mk;walk_at "d";rw [e];refine zn5 h.toOffs hc h.h8 h6 hg ?_;walk_at "d";exact hk' _ fun _ T hT=>⟨_,rfl,by rw [<- e]; exact hT⟩
 ·walk_at "d";refine⟨_,[.d (zas os)],pcD os,rfl,rfl,fun d md R' hR=>⟨_,rfl,[zas os,d],rfl,rfl,?_⟩,fun z=>no (List.map_eq_nil_iff.mp z),fun pre d post e hp hq=>?_⟩
  ·obtain⟨ks,mk,rfl⟩:=mem_map.mp md;obtain⟨hc,e⟩:=zgQ (mem_filter.mp mk).1;rw [zfd] at hR;show zaX [.d (zas os),.d (zbf ks)] [] _;rw [e];refine zgy h.toOffs hc h.h8 ?_;walk_at "d";exact hR
  ·obtain⟨p1,r1,e1,rfl,e2⟩:=List.map_eq_append_iff.mp e;obtain⟨b,q1,rfl,rfl,rfl⟩:=List.map_eq_cons_iff.mp e2;have hgd:ze1 ps os gs=p1++b :: q1:=e1;refine yes p1 b q1 hgd (fun a ma=>?_) fun a ma=>?_
   ·have:=hp (zbf a) (mem_map_of_mem ma)
    rwa [zfd,zfd] at this
   ·have:=hq (zbf a) (mem_map_of_mem ma)
    rwa [zfd,zfd] at this
theorem zkJ:∀ sz:List Nat,(fil sz).Pairwise fun x y=>HT.lexLt x y=true
 | []=>List.pairwise_singleton _ _
 | s :: r=>by
  unfold fil;rw [List.pairwise_flatMap];refine⟨fun k _=>?_,?_⟩
  ·rw [List.pairwise_map];exact(zkJ r).imp fun h=>(ze9 _ _ _ _).mpr (.inr ⟨rfl,h⟩)
  ·refine List.Pairwise.imp_of_mem (fun {k1 k2} _ _ hk x mx y my=>?_) List.pairwise_lt_range;obtain⟨x',_,rfl⟩:=mem_map.mp mx;obtain⟨y',_,rfl⟩:=mem_map.mp my;have hk:k1<k2:=hk;exact(ze9 _ _ _ _).mpr (.inl (by omega))
def lxP(os:List (List Off))(a b:List Int):Bool:=HT.lexLt (pcO os (kN a) :: a) (pcO os (kN b) :: b)
def IsD(ps:List Part)(os:List (List Off))(gs:List Gap):Option (List Int)->Prop
 | none=>ze1 ps os gs=[]
 | some b=>b∈ze1 ps os gs/\∀ a∈ze1 ps os gs,lxP os a b=false
def zqe(os:List (List Off)):Option (List Int)->PyData
 | none=>.none
 | some b=>prI (pcO os (kN b),b)
theorem zlB{ps:List Part}{os:List (List Off)}{gs:List Gap}{pre post:List (List Int)}{b z:List Int}(e:ze1 ps os gs=pre++b :: post)(hp:∀ a∈pre,pcO os (kN b)<pcO os (kN a))(hq:∀ a∈post,pcO os (kN b)<=pcO os (kN a))(mz:z∈ze1 ps os gs)(hz:∀ y∈ze1 ps os gs,lxP os y z=false):b=z:=by
 have hb:=hz b (by rw [e]; simp);unfold lxP at hb;have pw:(ze1 ps os gs).Pairwise fun x y=>HT.lexLt x y=true:=(zkJ (szO os)).filter _;rw [e] at mz pw;rcases mem_append.mp mz with mz | mz
 ·have:=hp z mz;rw [(ze9 _ _ _ _).mpr (.inl this)] at hb;cases hb
 ·rcases mem_cons.mp mz with rfl | mz
  ·rfl
  ·have h1:=hq z mz;have h2:=(List.pairwise_cons.mp (List.pairwise_append.mp pw).2.1).1 z mz;have:HT.lexLt (pcO os (kN b) :: b) (pcO os (kN z) :: z)=true:=(ze9 _ _ _ _).mpr (by
    rcases Int.lt_or_le (pcO os (kN b)) (pcO os (kN z)) with h | h
    ·exact .inl h
    ·exact .inr ⟨by omega,h2⟩)
   rw [this] at hb;cases hb
theorem zh1{ps:List Part}{os:List (List Off)}{ks:List Nat}(ho:Offs ps os)(hc:Chs os ks)(h8:ps.length<=8)(q:R (.d (.int (pcO os ks))) []):zbW [.d (zas os),.d (zgT ks)] [] R:=by
 have hl:=ho.len;have hk:=hc.len;unfold zbW zas zgT;walk_at "d";refine cmp1 (S0:=[]) (fun i:Nat=>PyData.int (offer os ks i).2.2) rfl (List.range ks.length) (by simp; omega) ?_ ?_
 ·intro i mi u acc R' hk';have hi3:=mem_range.mp mi;have hi2:i<os.length:=by omega
  have e2:=zbj (f:=zft) (zf7 hi2);have e3:=zbj (f:=fun k:Nat=>PyData.int k) (show ks[i]? = some (ks.getD i 0) by rw [getElem?_eq_getElem hi3,getD_eq_getElem?_getD,getElem?_eq_getElem hi3]; rfl);have e4:=zbj (f:=zdD) (zhT hc hi2);walk_at "d";simp only [Int.zero_add];refine⟨_,e2,?_⟩;rw [zcD];walk_at "d";refine⟨_,e3,?_⟩;walk_at "d";refine⟨_,e4,?_⟩;rw [zej];walk_at "d";exact hk' _
 ·walk_at "d";refine⟨(List.range ks.length).map fun i=>(offer os ks i).2.2,by rw [map_map]; rfl,?_⟩;have e:(List.range ks.length).map (fun i=>(offer os ks i).2.2)=(os.zip ks).map fun q=>(q.1.getD q.2 (0,0,0)).2.2:=by
   apply List.ext_getElem?;intro i;rw [getElem?_map,getElem?_map];by_cases hi:i<ks.length
   ·have h2:i<os.length:=by omega
    rw [getElem?_range hi,(getElem?_zip_eq_some (z:=(os.getD i [],ks.getD i 0))).mpr ⟨zf7 h2,gD (d:=0) hi⟩];rfl
   ·rw [getElem?_eq_none (by simp; omega),getElem?_eq_none (by simp; omega)];rfl
  rw [e];exact q
theorem zo1:zff=zc9:=rfl
theorem ziM{ps:List Part}{os:List (List Off)}{gs:List Gap}(h:OC ps os)(hg:∀ g∈gs,Tms ps.length g.ts)(q:∀ o,IsD ps os gs o->R (.d (zqe os o)) []):zbB [.d (zbv ps),.d (zcP gs),.d (zas os)] [] R:=by
 have h8:=h.h8;unfold zbB;walk_at "d"
 walk_at "n"
 walk_at "n";refine zg8 h ?_;walk_at "d";refine zaj (fun i δ S=>∃ (o:Option (List Int)) (u4 u5:Option XV),S=[]/\(∀ b,o=some b->b∈ze1 ps os gs/\∀ a∈(fil (szO os)).take i,zen (chosen ps os (kN a)) gs=true->lxP os a b=false)/\(o=none->∀ a∈(fil (szO os)).take i,zen (chosen ps os (kN a)) gs=false)/\δ=[some (.d (zbv ps)),some (.d (zcP gs)),some (.d (zas os)),some (.d (zqe os o)),u4,u5]) ⟨none,none,none,rfl,fun b e=>(by cases e),fun _ a m=>(by simp at m),rfl⟩ ?_ ?_
 ·rintro i d _ _ N hi ⟨o,u4,u5,rfl,h1,h2,rfl⟩ hN;obtain⟨z,ez,rfl⟩:=zbE hi;have mz:=mem_of_getElem? ez;obtain⟨hc,e⟩:=zgQ mz;have tk:∀ a,a∈(fil (szO os)).take (i+1)->a∈(fil (szO os)).take i\/a=z:=fun a m=>by
   rw [zdg ez] at m;rcases mem_append.mp m with m | m
   ·exact .inl m
   ·exact .inr (mem_singleton.mp m)
  walk_at "d";rw [zo1,e];refine zg9 h.toOffs hc h8 hg ?_;rw [<- e];cases hs:zen (chosen ps os (kN z)) gs with
  | false =>
   walk_at "d";refine hN _ _ ⟨o,_,_,rfl,fun b eb=>⟨(h1 b eb).1,fun a ma sa=>?_⟩,fun eo a ma=>?_,rfl⟩
   ·rcases tk a ma with m | rfl
    ·exact(h1 b eb).2 a m sa
    ·rw [hs] at sa; cases sa
   ·rcases tk a ma with m | rfl
    ·exact h2 eo a m
    ·exact hs
  | true =>
   have mg:z∈ze1 ps os gs:=mem_filter.mpr ⟨mz,hs⟩;walk_at "d"
   walk_at "n"
   rw [e];refine zh1 h.toOffs hc h8 ?_;rw [<- e];cases o with
   | none =>
    unfold zqe;walk_at "d";refine hN _ _ ⟨some z,_,_,rfl,fun b eb=>?_,fun e=>(by cases e),rfl⟩;cases eb;refine⟨mg,fun a ma sa=>?_⟩;rcases tk a ma with m | rfl
    ·rw [h2 rfl a m] at sa;cases sa
    ·exact zno _
   | some b =>
    unfold zqe;walk_at "d";refine⟨(pcO os (kN z),z),(pcO os (kN b),b),rfl,rfl,?_⟩;have hb:=h1 b rfl;by_cases hlt:HT.lexLt (pcO os (kN z) :: z) (pcO os (kN b) :: b)=true
    ·rw [if_pos hlt];refine hN _ _ ⟨some z,_,_,rfl,fun b' eb=>?_,fun e=>(by cases e),rfl⟩;cases eb;refine⟨mg,fun a ma sa=>?_⟩;rcases tk a ma with m | rfl
     ·have h3:=hb.2 a m sa;unfold lxP at h3 ⊢;cases h4:HT.lexLt (pcO os (kN a) :: a) (pcO os (kN z) :: z) with
      | false=>rfl
      | true=>rw [zs6 h4 hlt] at h3; cases h3
     ·exact zno _
    ·rw [if_neg hlt];refine hN _ _ ⟨some b,_,_,rfl,fun b' eb=>?_,fun e=>(by cases e),rfl⟩;cases eb;refine⟨hb.1,fun a ma sa=>?_⟩;rcases tk a ma with m | rfl
     ·exact hb.2 a m sa
     ·unfold lxP;simpa using hlt
 ·rintro _ _ ⟨o,u4,u5,rfl,h1,h2,rfl⟩;rw [length_map,take_length] at h1 h2;walk_at "d";refine q o ?_;cases o with
  | none =>
   refine List.filter_eq_nil_iff.mpr fun a ma=>?_;rw [h2 rfl a ma];decide
  | some b =>
   refine⟨(h1 b rfl).1,fun a ma=>?_⟩;obtain⟨m1,m2⟩:=mem_filter.mp ma;exact(h1 b rfl).2 a m1 m2
theorem zd9{ps:List Part}{os:List (List Off)}{gs:List Gap}{o:Option (List Int)}(h:OC ps os)(h6:gs.length<=6)(hg:∀ g∈gs,Tms ps.length g.ts)(hD:IsD ps os gs o)(q:R (.d (.bool true)) []):za8 [.d (.tuple [zbv ps,zcP gs]),.d (zas os),.d (zqe os o)] [] R:=by
 have h8:=h.h8;have hl:=h.len;unfold za8;walk_at "d"
 walk_at "n"
 show zcZ [.d (zp9 ps gs),.d (zas os)] [] _;refine ziZ h h6 hg (fun hn=>?_) fun pre b post e hp hq=>?_
 ·cases o with
  | none =>
   unfold zqe;walk_at "d"
   walk_at "n"
   exact q
  | some z =>
   have:=hD.1;rw [hn] at this;cases this
 ·cases o with
  | none =>
   rw [show ze1 ps os gs=[] from hD] at e;simp at e
  | some z =>
   have eb:=zlB e hp hq hD.1 hD.2;subst eb;have bl:b.length<=100:=by
    have:=(zfc.mp (mem_filter.mp hD.1).1).1;rw [this];simp [szO];omega
   unfold zqe prI;walk_at "d"
   walk_at "n"
   refine zgC (b:=b) rfl bl ?_;rw [decide_eq_true rfl];exact q
theorem zju{ps:List Part}{os:List (List Off)}{p:Part}{l:List Off}(h:Offs ps os)(hl:Ofp p l):Offs (ps++[p]) (os++[l]):=by
 refine⟨by simp [h.len],fun i p' l' e1 e2=>?_⟩;by_cases hi:i<ps.length
 ·rw [getElem?_append_left hi] at e1;rw [getElem?_append_left (by rw [h.len]; exact hi)] at e2;exact h.ok i p' l' e1 e2
 ·have il:=(List.getElem?_eq_some_iff.mp e1).1;rw [length_append,length_singleton] at il;have ei:i=ps.length:=by omega
  subst ei;rw [getElem?_concat_length] at e1;rw [<- h.len,getElem?_concat_length] at e2;cases e1;cases e2;exact hl
theorem zg3{p:List PyData}(hp:zY p)(q:∀ (ps:List Part) (os:List (List Off)) p',1<=ps.length->ps.length<=8->Offs ps os->zY p'->R (.d (.tuple [zbv ps,zas os])) [p']):zcg [.l 0] [p] R:=by
 unfold zcg;walk_at "d"
 walk_at "n"
 refine zcs hp fun nm p1 nl nok hp1=>?_;walk_at "d"
 walk_at "n"
 walk_at "n"
 walk_at "n";refine zq hp1 dz (by decide +kernel) fun r p2 r0 r1 hp2=>?_;walk_at "d";refine zaj (fun i δ S=>∃ (p:List PyData) (ps:List Part) (os:List (List Off)) (u4 u5 u6:Option XV),S=[p,ps.map zes,os.map zft]/\zY p/\ps.length=i/\Offs ps os/\δ=[some (.l 0),some (.d (.list (nm.map PyData.str))),some (.l 1),some (.l 2),u4,u5,u6]) ⟨p2,[],[],_,_,_,rfl,hp2,rfl,⟨rfl,fun i p l e=>(by simp at e)⟩,rfl⟩ ?_ ?_
 ·rintro i d _ _ N hi ⟨p,ps,os,u4,u5,u6,rfl,hp,hpl,ho,rfl⟩ hN;obtain⟨hi',rfl⟩:=zb2 hi;have hol:=ho.len;have i8:i<8:=by omega
  have en:=getElem?_eq_getElem (show i<nm.length by omega);rw [Int.zero_add];walk_at "d"
  walk_at "n"
  refine zq hp dz (by decide +kernel) fun r3 p3 r30 r31 hp3=>?_;walk_at "d"
  walk_at "n"
  refine⟨_,zbj en,?_⟩;walk_at "d";refine⟨by omega,?_⟩
  walk_at "n"
  refine zq hp3 dz (by decide +kernel) fun r4 p4 r40 r41 hp4=>?_;have h01:r4=0\/r4=1:=by omega
  rcases h01 with rfl | rfl
  ·walk_at "d";refine⟨by omega,?_⟩;rw [show (some 4:Option Int)=some ((4:Nat):Int) from rfl,zik];refine hN _ _ ⟨p4,ps++[(nm[i],r3 - 4,r3 - 4+9)],os++[[(r3 - 4,r3 - 4+9,0),(r3 - 4,r3 - 4+8,1),(r3 - 4+1,r3 - 4+8,3),(r3 - 4+1,r3 - 4+7,4)]],_,_,_,by simp [zes,zft,zdD],hp4,by simp [hpl],zju ho ⟨by simp,by simp,fun o mo=>?_⟩,rfl⟩;simp only [mem_cons,not_mem_nil,or_false] at mo;rcases mo with rfl | rfl | rfl | rfl <;> (refine⟨?_,?_,?_⟩ <;> dsimp only <;> omega)
  ·walk_at "d";refine⟨by omega,?_⟩;rw [show (some 3:Option Int)=some ((3:Nat):Int) from rfl,zik];refine hN _ _ ⟨p4,ps++[(nm[i],r3 - 4,r3 - 4+9)],os++[[(r3 - 4,r3 - 4+9,0),(r3 - 4,r3 - 4+8,1),(r3 - 4+1,r3 - 4+8,3)]],_,_,_,by simp [zes,zft,zdD],hp4,by simp [hpl],zju ho ⟨by simp,by simp,fun o mo=>?_⟩,rfl⟩;simp only [mem_cons,not_mem_nil,or_false] at mo;rcases mo with rfl | rfl | rfl <;> (refine⟨?_,?_,?_⟩ <;> dsimp only <;> omega)
 ·rintro _ _ ⟨p,ps,os,u4,u5,u6,rfl,hp,hpl,ho,rfl⟩;rw [zal] at hpl;have hol:=ho.len;walk_at "d";exact q ps os p (by omega) (by omega) ho hp
theorem zli{E:DEnds}{m:Nat}{u0 u1 u2 u4:Option XV}(q:E.rt (.d (.bool (decide (300<(m:Int))))) []):zM
  (zcy
   (dOr (dB (dOp zpY (zhG zch (zb (zh 5) zo)) (dC (PyData.str (Str.ofString "great")))))
    (dOr (zkg (zid (zS 1 zah (zb (dXA [180] (zh 5) (Str.ofString "many")) zo))))
     (zkg (zid (zS 1 zah (zb (dXA [180] (zh 5) (Str.ofString "most")) zo))))))
   (zaM (dC (PyData.bool false))) zaG)
  (zaM
   (zgK (dOp (dIb fun i j=>decide (j<i)) (zh 3) (dC (PyData.int 300)))
    (zgK (dOp zfr (dXA [180] (zh 5) (Str.ofString "many")) (zh 3))
     (dOp zfr (dXA [180] (zh 5) (Str.ofString "most")) (dC (PyData.int 300))))))
  E [u0,u1,u2,some (.d (.int m)),u4,some (XV.x 180 (zuf m))] []:=by
 walk_at "n";refine⟨180,_,rfl,zjY dz ?_⟩;rw [show ztS 180=Str.ofString "great" by decide];walk_at "d";have shg:SeqAt.shaped (PyData.str (Str.ofString "great"))=true:=by decide +kernel
 refine⟨shg,shg,?_⟩;rw [if_neg (by rw [SeqAt.eqv_refl _ (SeqAt.canLay_of_shaped shg)]; decide)];refine⟨180,_,_,rfl,by decide,rfl,zeD ?_⟩;rw [show zjG (.int m)=true from rfl];walk_at "d";refine⟨180,_,_,rfl,by decide,rfl,zeD ?_⟩;rw [show zjG (.int 300)=true from rfl];walk_at "d";by_cases h:300<(m:Int)
 ·rw [if_pos h];rw [decide_eq_true h] at q;refine⟨180,_,_,rfl,by decide,rfl,rfl,?_⟩;rw [if_pos (by rw [zgl]; simp)];exact⟨180,_,_,rfl,by decide,rfl,rfl,q⟩
 ·rw [if_neg h];rw [decide_eq_false h] at q;exact q
theorem zds{ps:List Part}{os:List (List Off)}{gs:List Gap}{way:Int}(ho:Offs ps os)(h8:ps.length<=8)(h6:gs.length<=6)(hg:∀ g∈gs,Tms ps.length g.ts)(q:R (.d (.bool true)) []):zaV [.d (.int way),.d (.tuple [zbv ps,zcP gs]),.d (zas os)] [] R:=by
 have hl:=ho.len;obtain⟨hz,h1⟩:=zgA ho h8;unfold zaV zas;walk_at "d"
 walk_at "n"
 walk_at "n";refine zaj (fun i δ S=>∃ (u:Option XV),S=[]/\δ=[some (.d (.int way)),some (.d (.tuple [zbv ps,zcP gs])),some (.d (.tuple (os.map zft))),some (.d (.int (zao ((szO os).take i):Nat))),u,none]) ⟨none,rfl,by simp [zao]⟩ ?_ ?_
 ·rintro i d _ _ N hi ⟨u,rfl,rfl⟩ hN;obtain⟨l,el,rfl⟩:=zbE hi;have l4:=hz.2 l.length (mem_map_of_mem (f:=fun l:List Off=>l.length) (mem_of_getElem? el));rw [zcD];walk_at "d";refine⟨zkV (by omega) (by omega),hN _ _ ⟨some (.d (.tuple (l.map zdD))),rfl,?_⟩⟩;have es:(szO os)[i]? = some l.length:=by unfold szO; rw [getElem?_map,el]; rfl
  rw [take_add_one,es];simp [zd1]
 ·rintro _ _ ⟨u,rfl,rfl⟩;rw [length_map,show os.length=(szO os).length by simp [szO],take_length];walk_at "d"
  walk_at "n"
  by_cases w0:way=0
  ·rw [if_pos w0];rcases Nat.lt_or_ge 300 (zao (szO os)) with h | h
   ·refine zef ho h8 h ⟨by decide,zli ?_⟩;rw [decide_eq_true (by omega)];walk_at "d";exact q
   ·refine zh3 ho h8 h h6 hg fun d=>?_;walk_at "d";rw [decide_eq_true (by omega)];exact q
  ·rw [if_neg w0];rcases Nat.lt_or_ge 300 (zao (szO os)) with h | h
   ·refine zhd ho h8 h ⟨by decide,zli ?_⟩;rw [decide_eq_true (by omega)];walk_at "d";exact q
   ·refine zpR ho h8 h (by omega) hg fun d=>?_;walk_at "d";rw [decide_eq_true (by omega)];exact q
theorem zdp{p:List PyData}{m:Int}(hp:zY p)(m1:0<m)(m8:m<=8)(q:∀ (ps:List Part) p',Drw ps->zY p'->R (.d (zbv ps)) [p']):zbo [.l 0,.d (.int m)] [p] R :=
 zfT (span:=zb5) (names:=zav) rfl zcs zkx hp m1 m8 q
def zq1(a:Addr)(δ:XE):Prop:=∃ (ps:List Part) (os:List (List Off)) (gs:List Gap) (o:Option (List Int)),OC ps os/\gs.length<=6/\(∀ g∈gs,Tms ps.length g.ts)/\IsD ps os gs o /\
 δ=[some (.o (.ref a)),none,none,some (.d (zbv ps)),some (.d (zas os)),some (.d (zcP gs)),some (.d (zqe os o)),none,none,none]
theorem zj1(a:Addr)(n:Int):zrm { nx:=fun δ _=>δ[0]? = some (some (.o (.ref a)))/\δ.length=9+1/\∃ δ2,zq1 a δ2/\SubF δ2 δ,ct:=fun _ _=>False,rt:=fun _ _=>False } ((some (.o (.ref a)) :: List.replicate 9 none).set 1 (some (.d (.int n)))) []:=by
 unfold zrm;walk_at "d"
 walk_at "n"
 refine zeL fun p hp=>?_;walk_at "d";refine cut (fun δ S=>∃ (p:List PyData) (ps:List Part),zY p/\Drw ps/\S=[p]/\δ=[some (.o (.ref a)),some (.d (.int n)),some (.l 0),some (.d (zbv ps)),none,none,none,none,none,none]) (fun N hN=>?_) ?_
 ·walk_at "d";refine zq hp dz (by decide +kernel) fun r p1 r0 r1 hp1=>?_;walk_at "d";split
  ·refine zhW hp1 dz dz fun ps p2 hd _ hp2=>?_;walk_at "d";exact hN _ _ ⟨p2,ps,hp2,hd,rfl,rfl⟩
  ·refine zdp hp1 dz dz fun ps p2 hd hp2=>?_;walk_at "d";exact hN _ _ ⟨p2,ps,hp2,hd,rfl,rfl⟩
 rintro _ _ ⟨p1,ps,hp1,hd,rfl,rfl⟩;refine seq1 ?_;unfold zbv;walk_at "d";rw [show (some 4:Option Int)=some ((4:Nat):Int) from rfl,zik,<- List.map_take];have hd4:=zpL hd;refine cut (fun δ S=>∃ (p:List PyData) (ps:List Part),zY p/\Drw ps/\S=[p]/\δ=[some (.o (.ref a)),some (.d (.int n)),some (.l 0),some (.d (zbv ps)),none,none,none,none,none,none]) (fun N hN=>?_) ?_
 ·walk_at "d";refine zq hp1 dz (by decide +kernel) fun r p2 r0 r1 hp2=>?_;walk_at "d";split
  ·refine zdp hp2 dz dz fun ps p3 hd hp3=>?_;walk_at "d";exact hN _ _ ⟨p3,ps,hp3,hd,rfl,rfl⟩
  ·exact hN _ _ ⟨p2,ps.take 4,hp2,hd4,rfl,rfl⟩
 rintro _ _ ⟨p2,ps,hp2,hd,rfl,rfl⟩;have l8:=hd.l8;have l1:=hd.l1
 walk_at "n"
 refine zlJ hp2 hd fun os p3 hoN hp3=>?_;walk_at "d";refine cut (fun δ S=>∃ (os:List (List Off)),OffN ps os/\zao (szO os)<=256/\S=[p3]/\δ=[some (.o (.ref a)),some (.d (.int n)),some (.l 0),some (.d (zbv ps)),some (.d (zas os)),none,none,none,none,none]) (fun N hN=>?_) ?_
 ·unfold zbv;walk_at "d";have ol:=hoN.len;by_cases h4:4<ps.length
  ·rw [if_pos (by omega)];unfold zas;walk_at "d";refine cmp1 (S0:=[p3]) (fun l:List Off=>zft (l.take 2)) rfl os (by omega) ?_ ?_
   ·intro l ml u acc R' hk;rw [zcD];walk_at "d";rw [show (some 2:Option Int)=some ((2:Nat):Int) from rfl,zik,<- List.map_take];exact hk _
   refine⟨[p3],_,rfl,rfl,hN _ _ ⟨os.map (·.take 2),⟨by simpa using ol,fun i p' l e1 e2=>?_⟩,few2 (by simp [szO]; omega) fun s m=>?_,rfl,?_⟩⟩
   ·rw [getElem?_map] at e2;obtain⟨l',el,rfl⟩:=map_eq_some_iff.mp e2;have ok:=hoN.ok i p' l' e1 el;refine⟨⟨by rw [length_take]; have:=ok.l1; omega,by rw [length_take]; omega,fun o m=>ok.ok o (mem_of_mem_take m)⟩,ok.nst.take 2⟩
   ·unfold szO at m;rw [map_map] at m;obtain⟨l',_,rfl⟩:=mem_map.mp m;simp only [Function.comp,length_take];omega
   ·unfold zbv zas;rw [map_map];rfl
  ·rw [if_neg (by omega)];exact hN _ _ ⟨os,hoN,hoN.few (by omega),rfl,rfl⟩
 rintro _ _ ⟨os,hoN,hfew,rfl,rfl⟩;have ho:=hoN.oc l8 hfew;have ol:=hoN.len
 walk_at "n"
 refine zfL hp3 hd hoN.offs dz dz fun gs p4 hgs hp4=>?_;have h6:=hgs.l6;have hg:∀ g∈gs,Tms ps.length g.ts:=fun g m=>(hgs.all g m).ts;walk_at "d"
 walk_at "n"
 refine ziM ho hg fun o hD=>?_;walk_at "d";refine zd9 ho h6 hg hD ?_;walk_at "d";refine⟨_,⟨ps,os,gs,o,ho,h6,hg,hD,rfl⟩,rfl,fun i x e=>?_⟩
 match i,e with
 | 0,e=>cases e; exact⟨rfl,rfl⟩
 | 1,e=>cases e
 | 2,e=>cases e
 | 3,e=>cases e; exact⟨rfl,rfl⟩
 | 4,e=>cases e; exact⟨rfl,rfl⟩
 | 5,e=>cases e; exact⟨rfl,rfl⟩
 | 6,e=>cases e; exact⟨rfl,rfl⟩
 | 7,e=>cases e
 | 8,e=>cases e
 | 9,e=>cases e
 | i+10,e=>cases e
theorem tms1{n:Nat}(h:1<=n):Tms n [(0,1)]:=⟨by simp,h,fun t m=>by rw [mem_singleton.mp m]; exact⟨h,by decide,by decide,by decide⟩,List.pairwise_singleton _ _⟩
theorem zkc(a:Addr)(δ:XE)(h:zq1 a δ)(n:Int):zic n { nx:=fun _ _=>False,rt:=fun y _=>y=.d (.bool true) } δ []:=by
 obtain⟨ps,os,gs,o,ho,h6,hg,hD,rfl⟩:=h;unfold zic;walk_at "d"
 walk_at "n"
 refine zeL fun p hp=>?_;walk_at "d";refine zg3 hp fun qs rs p1 q1 q8 hr hp1=>?_;have hq:∀ g∈[(⟨[(0,1)],-5,5⟩:Gap)],Tms qs.length g.ts:=fun g m=>by
  rw [mem_singleton.mp m];exact tms1 q1
 walk_at "d"
 walk_at "n"
 walk_at "n"
 refine zds (ps:=qs) (gs:=[⟨[(0,1)],-5,5⟩]) hr q8 dz hq ?_;walk_at "d";refine zds (ps:=qs) (gs:=[⟨[(0,1)],-5,5⟩]) hr q8 dz hq ?_;walk_at "d";refine zd9 ho h6 hg hD ?_;rfl
end
end My
namespace My
open PySem L2
def top (i : Nat) : Stmt := PySem.Challenge.pw_gaugewright_k38_cheapest_choices.main.body.getD i (.Pass ⟨0, 0, 0, 0⟩)
abbrev zey:Stmt:=top 47
theorem zgY:FnScope ["script","k"] ["script","k"] (zf zey):=fsd
abbrev zhh:Stmt:=top 48
theorem zfY:FnScope ["seed"] ["seed"] (zf zhh):=fsd
abbrev zhz:Stmt:=top 50
theorem zgO:FnScope ["pen","many","found"] ["pen","many"] (zf zhz):=fsd
abbrev zbm:Stmt:=top 54
theorem zV:FnScope ["pen","letters","way","first","names","word","at"] ["pen"] (zf zbm):=fsd
abbrev zeS:Stmt:=top 70
theorem zaD:FnScope ["pen","names","drawing","offers","k","low","some"] ["pen"] (zf zeS):=fsd
abbrev zdC:Stmt:=top 40
theorem zbh:FnScope ["sizes","beginning","many","size"] ["sizes","beginning"] (zf zdC):=fsd
abbrev zcW:Stmt:=top 39
theorem za3:FnScope ["sizes","many"] ["sizes"] (zf zcW):=fsd
abbrev zfi:Stmt:=top 32
theorem zkp:FnScope ["offers"] ["offers"] (zf zfi):=fsd
abbrev zde:Stmt:=top 18
theorem zcQ:FnScope ["beginnings","numbers","longer","beginning"] ["beginnings","numbers"] (zf zde):=fsd
abbrev zeQ:Stmt:=top 41
theorem zbV:FnScope ["sizes","choices","size"] ["sizes"] (zf zeQ):=fsd
abbrev zem:Stmt:=top 17
theorem zi5:FnScope ["drawing"] ["drawing"] (zf zem):=fsd
abbrev zp7:Stmt:=top 13
theorem zr1:FnScope ["one","other"] ["one","other"] (zf zp7):=fsd
abbrev zfq:Stmt:=top 14
theorem zeX:FnScope ["one","by","ends"] ["one","by"] (zf zfq):=fsd
abbrev ziO:Stmt:=top 16
theorem zlH:FnScope ["part"] ["part"] (zf ziO):=fsd
abbrev zdo:Stmt:=top 23
theorem zaK:FnScope ["drawing","terms","ends","part","times"] ["drawing","terms"] (zf zdo):=fsd
abbrev zeR:Stmt:=top 24
theorem zg4:FnScope ["number","by"] ["number","by"] (zf zeR):=fsd
abbrev zcG:Stmt:=top 29
theorem zZ:FnScope ["drawing","terms","most","one","left","place","term","further"] ["drawing","terms","most"] (zf zcG):=fsd
abbrev ze0:Stmt:=top 28
theorem zkj:FnScope ["terms"] ["terms"] (zf ze0):=fsd
abbrev zdq:Stmt:=top 27
theorem zaL:FnScope ["job","found","terms","low","high"] ["job"] (zf zdq):=fsd
abbrev zfh:Stmt:=top 20
theorem zj6:FnScope ["gap","one"] ["gap","one"] (zf zfh):=fsd
abbrev zmt:Stmt:=top 21
theorem zph:FnScope ["gap","one"] ["gap","one"] (zf zmt):=fsd
abbrev zeo:Stmt:=top 30
theorem zjo:FnScope ["gaps","one"] ["gaps","one"] (zf zeo):=fsd
abbrev zgE:Stmt:=top 26
theorem zfb:FnScope ["job","found","one"] ["job"] (zf zgE):=fsd
abbrev zca:Stmt:=top 34
theorem zec:FnScope ["drawing","offers","choice","chosen"] ["drawing","offers","choice"] (zf zca):=fsd
abbrev zqH:Stmt:=top 35
theorem zr2:FnScope ["job","offers","choice"] ["job","offers","choice"] (zf zqH):=fsd
abbrev ze3:Stmt:=top 33
theorem zku:FnScope ["offers","choice"] ["offers","choice"] (zf ze3):=fsd
abbrev zci:Stmt:=top 38
theorem zdl:FnScope ["job","offers","found"] ["job","offers"] (zf zci):=fsd
abbrev zgD:Stmt:=top 51
theorem zfm:FnScope ["found"] ["found"] (zf zgD):=fsd
abbrev zcL:Stmt:=top 66
theorem zga:FnScope ["found","due"] ["found","due"] (zf zcL):=fsd
abbrev zge:Stmt:=top 69
theorem zfD:FnScope ["job","offers","due","found"] ["job","offers","due"] (zf zge):=fsd
abbrev zfF:Stmt:=top 49
theorem zet:FnScope ["cell","left"] ["cell"] (zf zfF):=fsd
abbrev zdJ:Stmt:=top 60
theorem zF:FnScope ["pen","drawing","offers","great","name","low","high","some","k","first","last","price","begin","end"] ["pen","drawing"] (zf zdJ):=fsd
abbrev zeJ:Stmt:=top 57
theorem zau:FnScope ["drawing","terms","least","most","part","times","ends"] ["drawing","terms"] (zf zeJ):=fsd
abbrev zfC:Stmt:=top 58
theorem zak:FnScope ["pen","drawing","terms","part","times","least","most","wide","low","high"] ["pen","drawing"] (zf zfC):=fsd
abbrev zda:Stmt:=top 59
theorem zd3:FnScope ["pen","drawing","most","gaps"] ["pen","drawing","most"] (zf zda):=fsd
abbrev zcp:Stmt:=top 63
theorem zfG:FnScope ["drawing","offers","choice"] ["drawing","offers","choice"] (zf zcp):=fsd
abbrev zcx:Stmt:=top 65
theorem zar:FnScope ["pen","drawing","offers","most","gaps","choice","chosen","k","least","high"] ["pen","drawing","offers","most"] (zf zcx):=fsd
abbrev zdf:Stmt:=top 61
theorem zaY:FnScope ["offers","found","some","longer","ahead"] ["offers"] (zf zdf):=fsd
abbrev zhM:Stmt:=top 64
theorem zcB:FnScope ["drawing","gaps","offers","choice","chosen","gap","least","most"] ["drawing","gaps","offers","choice"] (zf zhM):=fsd
abbrev zcR:Stmt:=top 62
theorem zgh:FnScope ["offers","choice"] ["offers","choice"] (zf zcR):=fsd
abbrev zfw:Stmt:=top 68
theorem zbL:FnScope ["drawing","gaps","offers","best","choice","one"] ["drawing","gaps","offers"] (zf zfw):=fsd
abbrev zdM:Stmt:=top 52
theorem zdt:FnScope ["pen","way"] ["pen"] (zf zdM):=fsd
abbrev zgk:Stmt:=top 56
theorem zbS:FnScope ["pen","most","names","wides","drawing","k","low"] ["pen","most"] (zf zgk):=fsd
abbrev zeE:Stmt:=top 53
theorem zbY:FnScope ["pen","low","wide"] ["pen"] (zf zeE):=fsd
abbrev zdw:Stmt:=top 55
theorem zbe:FnScope ["pen","most","names","drawing","k"] ["pen","most"] (zf zdw):=fsd
abbrev zdv:Stmt:=top 43
theorem zaF:FnScope ["sizes","why_of","rows","left","beginning","why"] ["sizes","why_of"] (zf zdv):=fsd
abbrev zer:Stmt:=top 45
theorem zfp:FnScope ["drawing","offers","beginning","lasts"] ["drawing","offers","beginning"] (zf zer):=fsd
abbrev zjr:Stmt:=top 44
theorem zhg:FnScope ["job","offers","price","beginning","found"] ["job","offers","price","beginning"] (zf zjr):=fsd
abbrev zdV:Stmt:=top 42
theorem zgn:FnScope ["job","offers","price","sizes"] ["job","offers","price"] (zf zdV):=fsd
abbrev zhr:Stmt:=top 67
theorem zcC:FnScope ["e","marks","words"] ["e"] (zf zhr):=fsd
abbrev zeC:Stmt:=top 71
theorem zbl:FnScope ["way","job","offers","many","some","e"] ["way","job","offers"] (zf zeC):=fsd
abbrev s_law:Stmt:=top 72
theorem zcT:FnScope ["script","cell","pen","drawing","offers","gaps","due","wide","more","job"] ["script"] (zf s_law):=fsd
abbrev s_I_TooGreat:Stmt:=zq8 (top 11) 0
theorem zih:FnScope ["self","many","most"] ["self","many","most"] (zf s_I_TooGreat):=fsc (by decide +kernel)
structure Txt(mg:Str->Option Value):Prop where
 n_len:mg "len" = none
 n_tuple:mg "tuple" = none
 n_range:mg "range" = none
 n_list:mg "list" = none
 n_max:mg "max" = none
 n_min:mg "min" = none
 n_enumerate:mg "enumerate" = none
 n_sum:mg "sum" = none
 n_zip:mg "zip" = none
 n_isinstance:mg "isinstance" = none
 n_bool:mg "bool" = none
 n_int:mg "int" = none
 n_all:mg "all" = none
 n_ValueError:mg "ValueError" = none
 g_MOST_CHOICES:∃ t,mg "MOST_CHOICES" = some (.int 300 t)
structure Dds(K:W.Frag)(mg:Str->Option Value):Prop where
 a0:Dd K mg "_law_cell_at" zey ["script","k"]
 a1:Dd K mg "_law_next" zhh ["seed"]
 a2:Dd K mg "_law_draw" zhz ["pen","many"]
 a3:Dd K mg "_law_names_of" zbm ["pen"]
 a4:Dd K mg "_law_wide_of" zeS ["pen"]
 a5:Dd K mg "choices_behind" zdC ["sizes","beginning"]
 a6:Dd K mg "refuse_too_many" zcW ["sizes"]
 a7:Dd K mg "sizes_of" zfi ["offers"]
 a8:Dd K mg "each_longer" zde ["beginnings","numbers"]
 a9:Dd K mg "all_choices" zeQ ["sizes"]
 a10:Dd K mg "first_set" zem ["drawing"]
 a11:Dd K mg "plus" zp7 ["one","other"]
 a12:Dd K mg "multiplied" zfq ["one","by"]
 a13:Dd K mg "span_of" ziO ["part"]
 a14:Dd K mg "reach_of_terms" zdo ["drawing","terms"]
 a15:Dd K mg "quotient_up" zeR ["number","by"]
 a16:Dd K mg "first_no_greater" zcG ["drawing","terms","most"]
 a17:Dd K mg "opposite" ze0 ["terms"]
 a18:Dd K mg "first_breakers" zdq ["job"]
 a19:Dd K mg "worth_of" zfh ["gap","one"]
 a20:Dd K mg "keeps" zmt ["gap","one"]
 a21:Dd K mg "kept_gaps" zeo ["gaps","one"]
 a22:Dd K mg "counter" zgE ["job"]
 a23:Dd K mg "narrowed_by" zca ["drawing","offers","choice"]
 a24:Dd K mg "safe" zqH ["job","offers","choice"]
 a25:Dd K mg "price_of" ze3 ["offers","choice"]
 a26:Dd K mg "cheapest" zci ["job","offers"]
 a27:Dd K mg "_law_whole" zgD ["found"]
 a28:Dd K mg "_law_tuple_of" zcL ["found","due"]
 a29:Dd K mg "_law_right" zge ["job","offers","due"]
 a30:Dd K mg "_law_pen_of" zfF ["cell"]
 a31:Dd K mg "_law_offers_of" zdJ ["pen","drawing"]
 a32:Dd K mg "_law_ends_of" zeJ ["drawing","terms"]
 a33:Dd K mg "_law_gap_of" zfC ["pen","drawing"]
 a34:Dd K mg "_law_gaps_of" zda ["pen","drawing","most"]
 a35:Dd K mg "_law_chosen_of" zcp ["drawing","offers","choice"]
 a36:Dd K mg "_law_some_gaps" zcx ["pen","drawing","offers","most"]
 a37:Dd K mg "_law_choices" zdf ["offers"]
 a38:Dd K mg "_law_safe" zhM ["drawing","gaps","offers","choice"]
 a39:Dd K mg "_law_price_of" zcR ["offers","choice"]
 a40:Dd K mg "_law_due_of" zfw ["drawing","gaps","offers"]
 a41:Dd K mg "_law_number_of" zdM ["pen"]
 a42:Dd K mg "_law_few" zgk ["pen","most"]
 a43:Dd K mg "_law_span_of" zeE ["pen"]
 a44:Dd K mg "_law_drawing_of" zdw ["pen","most"]
 a45:Dd K mg "rows_with_whys" zdv ["sizes","why_of"]
 a46:Dd K mg "narrowest" zer ["drawing","offers","beginning"]
 a47:Dd K mg "why_not" zjr ["job","offers","price","beginning"]
 a48:Dd K mg "floor_of" zdV ["job","offers","price"]
 a49:Dd K mg "_law_kind" zhr ["e"]
 a50:Dd K mg "_law_refused" zeC ["way","job","offers"]
structure Exx(K:W.Frag)(mg:Str->Option Value):Prop where
 ex:Exs K
 m_GaugeError:mg "GaugeError" = some (.ref 24)
 m_NoSpan:mg "NoSpan" = some (.ref 37)
 m_NoPart:mg "NoPart" = some (.ref 49)
 m_NoSet:mg "NoSet" = some (.ref 61)
 m_NoRow:mg "NoRow" = some (.ref 73)
 m_Unlike:mg "Unlike" = some (.ref 85)
 m_NoDrawing:mg "NoDrawing" = some (.ref 104)
 m_NoGap:mg "NoGap" = some (.ref 123)
 m_NoOffer:mg "NoOffer" = some (.ref 142)
 m_NoText:mg "NoText" = some (.ref 161)
 m_TooGreat:mg "TooGreat" = some (.ref 180)
 c_GaugeError:ExCls K 24 none
 c_NoSpan:ExCls K 37 none
 c_NoPart:ExCls K 49 none
 c_NoSet:ExCls K 61 none
 c_NoRow:ExCls K 73 none
 c_Unlike:ExCls K 85 none
 r_TooGreat:XI K 180 ["many","most"] "TooGreat.__init__" s_I_TooGreat
 a_many:ExsI K [180] "many"
 a_most:ExsI K [180] "most"
structure Lams(K:W.Frag)(mg:Str->Option Value):Prop where
 l_cheapest:∃ c P,CodeAt K mg "cheapest" c/\((c,P),L2.lamKey (("cheapest" ++ ".<locals>.") ++ "<lambda>") ⟨107,26,0,0⟩)∈L2.tabsG
 l_floor_of:∃ c P,CodeAt K mg "floor_of" c/\((c,P),L2.lamKey (("floor_of" ++ ".<locals>.") ++ "<lambda>") ⟨125,33,0,0⟩)∈L2.tabsG
section
variable {P:Program} {w:World} {K:W.Frag} {mg:Str->Option Value} {base:Heap}
theorem zl3{f:Addr}{fd:FuncData}(F:Fun K "__init__" "TooGreat.__init__" s_I_TooGreat f fd):FnOk P w K mg base CX0 1 f fd ["self","many","most"] (spI K ["many","most"]):=F.ok zih zrs fun cdv A outer s H vs Q E hr h=>⟨_,(zd (znt (pv 0) (pv 1) rfl) (zm (znt (pv 0) (pv 2) rfl))),init2 dz h⟩
local macro_rules | `(tactic| walk_at "r")=>`(tactic| repeat' (first | with_reducible (first | refine zg ?_ ?_ | refine zk | refine zr | refine zN | refine zy | refine zaz ?_ ?_ | refine zQ ?_ ?_ | refine zcE | refine zaJ ?_ | refine za2 ?_ ?_ | refine zQ | refine zan ?_ ?_ | refine zcJ | refine zcr ?_ | refine zcv | refine zfJ ?_ ?_ ?_ | refine zg | refine zhv | refine zbi ?_ ?_ | refine zc2 | refine zr5 | refine zpd | refine zjL ?_ ?_ ?_ | refine zaz | refine zr6 ?_ | refine zaJ | refine zjq ?_ | refine zfA | refine zeq | refine zvp | refine zht | refine zh6 ?_ | refine zb3 ?_ | refine zr4 | refine zpa ?_ ?_ ?_ | refine zq0 ?_ ?_ | refine zuj | refine zdm | refine zmJ | refine zf5 ?_ | refine zek | refine znT ?_ ?_ ?_ ?_ | refine zgb ?_ | refine zgB | refine zjT | refine zux | refine zce ?_ | refine zsy ?_ ?_ | refine zoh | refine ztU | refine zdz ?_ | refine zsB ?_ | refine zfJ | refine zuk | refine zjL | refine zgx | refine zrS | refine zkD | refine zd8 ?_ | refine zkW | refine zso | refine zjc ?_ ?_ | refine zjq | refine ztl ?_ ?_ | refine zki | refine zh6 | refine zpa | refine zt1 | refine zop | refine zk8 | refine ztr ?_ ?_ | refine zsi ?_ ?_ ?_ | refine zqG | refine zrj | refine zlT | refine zoX | refine zpK ?_ | refine zoM ?_ | refine zpl ?_ ?_ ?_ ?_ ?_ | refine zcr | refine zgd ?_ ?_ | refine zsO ?_ | refine zgd | refine zqS | refine zrl | refine zpw | refine zpP ?_ ?_ | refine zr0 | refine zoK ?_ ?_ | refine zsK | refine zoL ?_ ?_ | refine zng ?_ | refine zpj ?_ | refine zjc | refine zd8 | refine zdz | refine zaf ?_ ?_ ?_ | refine zbH ?_ ?_ | refine zov ?_ | refine zbH | refine zaf | refine zov) | rfl))
theorem zeM(T:Txt mg:=by assumption)(dd:Dds K mg:=by assumption):Df P w K mg base "_law_cell_at" ["script","k"] 1 (sp2 (zpS K)):=by
 refine Df.of2 dd.a0 zgY (fun v u=>[some v,some u]) (fun _ _=>rfl) fun f cdv A outer s H v u Q E hr h=>?_;obtain⟨a,ns,i,rfl,rfl,hS,h0,q⟩:=h;refine⟨_,(zd (zbd (zP zl1 (pv 1) (zx zn2 (by rfl) T.n_len zbA (za (pv 0) zc)) (nomark _)) (zm (zD (zI zne (pv 0) (pv 1) (fun _ _=>rfl)))) zX) (zm (zD ze))),?_⟩;simp only [zk3,zq6,zq9,tOp,zpo,tCB,zgm,zsb,zuL,tC,zrF,zmo,getElem?_cons_zero,getElem?_cons_succ];refine⟨a,_,rfl,.inl hS,?_⟩;simp only [zmo,zuI,decide_eq_true_eq];refine ite2 (fun hi=>?_) (fun _=>q 0);obtain⟨n,e⟩:=zrC h0 hi;exact⟨a,_,i,_,rfl,rfl,hS,e,q n⟩
variable (T:Txt mg:=by assumption) (dd:Dds K mg:=by assumption) (xx:Exx K mg:=by assumption) (ll:Lams K mg:=by assumption)
include T dd xx ll
theorem zhq:Df P w K mg base "_law_next" ["seed"] 1 (spN ["seed"] zc0):=by
 exact Df.dN dd.a1 zfY 0 rfl fun f cdv A outer s H E hr=>⟨_,_,(zd (zu (i:=0) zfY.nd rfl lo (zC zfo (zC zE (pv 0) ze) ze)) (zm (zD (zC zfo (zC zE (zC zE (zC zaZ (pv 0) (pv 0)) (zC zaZ ze (pv 0))) ze) ze)))),(by walk_at "r"),fun xs S R q=>q⟩
theorem zt:Df P w K mg base "_law_draw" ["pen","many"] 2 (spN ["pen","many"] zn):=by
 exact Df.dN dd.a2 zgO 1 rfl fun f cdv A outer s H E hr=>⟨_,_,(zd (zbd (zP (zb0 hr.units) (zI zw (pv 0) ze (fun _ _=>rfl)) ze (nomark _)) (zd (zu (i:=2) zgO.nd rfl lo (zC zfo (zI zw (pv 0) ze (fun _ _=>rfl)) (pv 1))) (zd (zd2 (zC zhQ (zI zw (pv 0) ze (fun _ _=>rfl)) (pv 1)) (zjf (pv 0) ze zeV)) (zm (zD (pv 2))))) zX) (zd (zd2 (zp zhq hr dz (za (zC zE (zp zhq hr dz (za (zI zw (pv 0) ze (fun _ _=>rfl)) zc)) ze) zc)) (zjf (pv 0) ze zeV)) (zm (zD (zC zfo (zC zhQ (zI zw (pv 0) ze (fun _ _=>rfl)) ze) (pv 1)))))),(by walk_at "r"),fun xs S R q=>q⟩
theorem zcN:Df P w K mg base "_law_names_of" ["pen"] 3 (spN ["pen"] zav):=by
 exact Df.dN dd.a3 zV 6 rfl fun f cdv A outer s H E hr=>⟨_,_,(zd (zu (i:=1) zV.nd rfl (Or.inr rfl) za1) (zd (zu (i:=2) zV.nd rfl lo (zp zt hr dz (za (pv 0) (za ze zc)))) (zd (zu (i:=3) zV.nd rfl (Or.inr rfl) (zp zt hr dz (za (pv 0) (za ze zc)))) (zd (zdb (i:=4) (fun _ _ h=>h) rfl (zR rfl rfl rfl rfl (N:=["k","letters","first"]) (caps:=[none,some 1,some 3]) (by show zaN ["pen","letters","way","first","names","word","at"] (zf zbm).names _ _ _=true; decide +kernel)) zV.nd rfl rfl (zaq rfl T.n_range (za ze zc)) (fun _ _ _ _=>(zv (i:=0) (by show List.Nodup (["k","letters","first"]:List Str); decide) rfl (Or.inl rfl))) (fun _ _ _ _=>zaC) (fun _ _ _ _=>(zC zaZ (zI zw (pv 1) (zC zfo (zC zE (pv 2) (zC zaZ ze (pv 0))) ze) (fun _ _=>rfl)) (zC zE ze (zC zfo (zC zE (pv 2) (zC zaZ ze (pv 0))) ze))))) (zd (zbd (zP (zb0 hr.units) (pv 2) ze (nomark _)) (zd (zu (i:=5) zV.nd rfl (Or.inr rfl) (zdR PySem.F.plainAttrs_str PySem.F.slot_str_join PySem.F.type_str_join zrh za1 (za (zbu (fun _ _ h=>h) rfl (zR rfl rfl rfl rfl (N:=["k","letters","first"]) (caps:=[none,some 1,some 3]) (by show zaN ["pen","letters","way","first","names","word","at"] (zf zbm).names _ _ _=true; decide +kernel)) (zaq rfl T.n_range (za ze zc)) (fun _ _ _ _=>(zv (i:=0) (by show List.Nodup (["k","letters","first"]:List Str); decide) rfl (Or.inl rfl))) (fun _ _ _ _=>zaC) (fun _ _ _ _=>(zI zw (pv 1) (zC zfo (zC zE (pv 2) (zC zaZ ze (pv 0))) ze) (fun _ _=>rfl)))) zc))) (zm (zdb (i:=4) (fun _ _ h=>h) rfl (zR rfl rfl rfl rfl (N:=["k","word"]) (caps:=[none,some 5]) (by show zaN ["pen","letters","way","first","names","word","at"] (zf zbm).names _ _ _=true; decide +kernel)) zV.nd rfl rfl (zaq rfl T.n_range (za ze zc)) (fun _ _ _ _=>(zv (i:=0) (by show List.Nodup (["k","word"]:List Str); decide) rfl (Or.inl rfl))) (fun _ _ _ _=>zaC) (fun _ _ _ _=>(zbD zgf (pv 1) zcM (zb6 (zC zE (pv 0) ze))))))) zX) (zd (zbd (zP (zb0 hr.units) (pv 2) ze (nomark _)) (zm (zu (i:=4) zV.nd rfl lo (zay (za za1 (za za1 (za za1 (za za1 (za za1 (za za1 (za za1 (za za1 zc))))))))))) zX) (zd (zu (i:=6) zV.nd rfl lo (zp zt hr dz (za (pv 0) (za ze zc)))) (zd (zu (i:=4) zV.nd rfl lo (zC zoe (zbD zgf (pv 4) (zb6 (pv 6)) zcM) (zbD zgf (pv 4) zcM (zb6 (pv 6))))) (zd (zbd (zP (zb0 hr.units) (zp zt hr dz (za (pv 0) (za ze zc))) ze (nomark _)) (zm (za6 (zqi PySem.F.plainAttrs_list PySem.F.slot_list_reverse PySem.F.type_list_reverse zlK (pv 4)))) zX) (zm (zD (pv 4)))))))))))),(zQ (zaz zhv zy) (zQ (by walk_at "r") (zQ (by walk_at "r") (zQ (zaz (zeU (zce (zg zN zr)) zy zaB (zaf zht (zaf zcE zk (zaf zr4 (zaf zcJ zk (zaf zht zN zk)) zN)) (zaf zcJ zN (zaf zr4 (zaf zcJ zk (zaf zht zN zk)) zN)))) zy) (zQ (zfJ (by walk_at "r") (zQ (zaz (zqG zoB zhv (zg (zaQ (zce (zg zN zr)) zy zaB (zaf zcE zk (zaf zr4 (zaf zcJ zk (zaf zht zN zk)) zN))) zr)) zy) (zaz (zeU (zce (zg zN zr)) zy zaB (znT zoh zk zgB (zgb (zaf zcJ zk zN)))) zy)) zcv) (by walk_at "r")))))),fun xs S R q=>q⟩
theorem zh0:Df P w K mg base "_law_wide_of" ["pen"] 4 (spN ["pen"] zcg):=by
 exact Df.dN dd.a4 zaD 6 rfl fun f cdv A outer s H E hr=>⟨_,_,(zd (zu (i:=1) zaD.nd rfl lo (zp zcN hr dz (za (pv 0) zc))) (zd (zu (i:=2) zaD.nd rfl lo (zay zc)) (zd (zu (i:=3) zaD.nd rfl lo (zay zc)) (zd (zbw PassesOwn.never rfl (zaq rfl T.n_range (za (zC zE ze (zp zt hr dz (za (pv 0) (za ze zc)))) zc)) (zv (i:=4) zaD.nd rfl (Or.inl rfl)) (zd (zu (i:=5) zaD.nd rfl lo (zC zbO (zp zt hr dz (za (pv 0) (za ze zc))) ze)) (zd (za6 (zdR PySem.F.plainAttrs_list PySem.F.slot_list_append PySem.F.type_list_append za9 (pv 2) (za (zU (za (zI zw (pv 1) (pv 4) (fun _ _=>rfl)) (za (pv 5) (za (zC zE (pv 5) ze) zc)))) zc))) (zd (zu (i:=6) zaD.nd rfl lo (zU (za (zU (za (pv 5) (za (zC zE (pv 5) ze) (za ze zc)))) (za (zU (za (pv 5) (za (zC zE (pv 5) ze) (za ze zc)))) (za (zU (za (zC zE (pv 5) ze) (za (zC zE (pv 5) ze) (za ze zc)))) (za (zU (za (zC zE (pv 5) ze) (za (zC zE (pv 5) ze) (za ze zc)))) zc)))))) (zm (za6 (zdR PySem.F.plainAttrs_list PySem.F.slot_list_append PySem.F.type_list_append za9 (pv 3) (za (zbD zkh (pv 6) zcM (zb6 (zC zbO ze (zp zt hr dz (za (pv 0) (za ze zc)))))) zc)))))))) (zm (zD (zU (za (zW zG (by rfl) T.n_tuple zat (za (pv 2) zc)) (za (zW zG (by rfl) T.n_tuple zat (za (pv 3) zc)) zc))))))))),(by walk_at "r"),fun xs S R q=>q⟩
theorem zdn:Df P w K mg base "choices_behind" ["sizes","beginning"] 1 (spN ["sizes","beginning"] zaT):=by
 exact Df.dN dd.a5 zbh 2 rfl fun f cdv A outer s H E hr=>⟨_,_,(zd (zu (i:=2) zbh.nd rfl lo ze) (zd (zbw PassesOwn.never rfl (zaW (zbD zgf (pv 0) (zb6 (zx zae (by rfl) T.n_len zbA (za (pv 1) zc))) zcM)) (zv (i:=3) zbh.nd rfl (Or.inl rfl)) (zm (zu (i:=2) zbh.nd rfl lo (zC zaZ (pv 2) (pv 3))))) (zm (zD (pv 2))))),(by walk_at "r"),fun xs S R q=>q⟩
theorem zcU:DfX P w K mg base "refuse_too_many" ["sizes"] 3 (spX ["sizes"] zai):=by
 exact DfX.dN dd.a6 za3 1 rfl fun f cdv A outer s H E EX hr=>⟨_,_,(zd (zqz (zu (i:=1) za3.nd rfl lo (zp zdn hr dz (za (pv 0) (za (zU zc) zc))))) (zm (zbd (PT.nox (zP zi1 (pv 1) (zim rfl T.g_MOST_CHOICES) (nomark _))) (zm (znP xx.r_TooGreat (fun _ _ F=>zl3 F) zps hr dz xx.m_TooGreat dz (za (pv 1) (za (zim rfl T.g_MOST_CHOICES) zc)))) zX))),(zlt (zgg (by walk_at "r")) (zs1 (zq5 (by walk_at "r")) (znO xx.r_TooGreat.i xx.r_TooGreat.na (by walk_at "r")) (zgg zcv))),fun xs S R q=>q⟩
theorem zfe:Df P w K mg base "refuse_too_many" ["sizes"] 3 (spN ["sizes"] zbc):=by
 exact Df.dN dd.a6 za3 1 rfl fun f cdv A outer s H E hr=>⟨_,_,(zd (zu (i:=1) za3.nd rfl lo (zp zdn hr dz (za (pv 0) (za (zU zc) zc)))) (zm (zbd (zP zi1 (pv 1) (zim rfl T.g_MOST_CHOICES) (nomark _)) (zm zpr) zX))),(by walk_at "r"),fun xs S R q=>q⟩
theorem zcm:Df P w K mg base "sizes_of" ["offers"] 1 (spN ["offers"] zbg):=by
 exact Df.dN dd.a7 zkp 0 rfl fun f cdv A outer s H E hr=>⟨_,_,(zm (zD (zbu (fun _ _ h=>h) rfl (zR (L:=0) rfl rfl rfl rfl (N:=["of_part"]) (caps:=[none]) (by show zaN ["offers"] (zf zfi).names _ _ _=true; decide +kernel)) (zaW (pv 0)) (fun _ _ _ _=>(zv (i:=0) (by show List.Nodup (["of_part"]:List Str); decide) rfl (Or.inl rfl))) (fun _ _ _ _=>zaC) (fun _ _ _ _=>(zx zae (by rfl) T.n_len zbA (za (pv 0) zc)))))),(zaJ (zeU (zb3 zk) zy zaB (zbH zeq (zg zk zr)))),fun xs S R q=>q⟩
theorem zew:Df P w K mg base "each_longer" ["beginnings","numbers"] 1 (spN ["beginnings","numbers"] zaS):=by
 exact Df.dN dd.a8 zcQ 2 rfl fun f cdv A outer s H E hr=>⟨_,_,(zd (zu (i:=2) zcQ.nd rfl lo (zay zc)) (zd (zbw PassesOwn.never rfl (zaW (pv 0)) (zv (i:=3) zcQ.nd rfl (Or.inr rfl)) (zm (za6 (zdR PySem.F.plainAttrs_list PySem.F.slot_list_extend PySem.F.type_list_extend zgw (pv 2) (za (zbu (fun _ _ h=>h) rfl (zR rfl rfl rfl rfl (N:=["number","beginning"]) (caps:=[none,some 3]) (by show zaN ["beginnings","numbers","longer","beginning"] (zf zde).names _ _ _=true; decide +kernel)) (zaW (pv 1)) (fun _ _ _ _=>(zv (i:=0) (by show List.Nodup (["number","beginning"]:List Str); decide) rfl (Or.inl rfl))) (fun _ _ _ _=>zaC) (fun _ _ _ _=>(zC zE (pv 1) (zU (za (pv 0) zc))))) zc))))) (zm (zD (pv 2))))),(zQ (by walk_at "r") (zQ (zjL (zb3 zk) zy (zh6 (zpa zgx zk (zg (zaQ (zb3 zk) zy zaB (zaf zcJ zk (zcr (zg zk zr)))) zr)))) (zaJ zk))),fun xs S R q=>q⟩
theorem zeB:Df P w K mg base "all_choices" ["sizes"] 2 (spN ["sizes"] zbJ):=by
 exact Df.dN dd.a9 zbV 2 rfl fun f cdv A outer s H E hr=>⟨_,_,(zd (zu (i:=1) zbV.nd rfl lo (zay (za (zU zc) zc))) (zd (zbw PassesOwn.never rfl (zaW (pv 0)) (zv (i:=2) zbV.nd rfl (Or.inl rfl)) (zm (zu (i:=1) zbV.nd rfl lo (zp zew hr dz (za (pv 1) (za (zoC rfl rfl T.n_list rfl T.n_range (za (pv 2) zc)) zc)))))) (zm (zD (pv 1))))),(by walk_at "r"),fun xs S R q=>q⟩
theorem zkq:Df P w K mg base "first_set" ["drawing"] 1 (spN ["drawing"] zdk):=by
 exact Df.dN dd.a10 zi5 0 rfl fun f cdv A outer s H E hr=>⟨_,_,(zm (zD (zW zG (by rfl) T.n_tuple zat (za (zbu (fun _ _ h=>h) rfl (zR (L:=0) rfl rfl rfl rfl (N:=["part"]) (caps:=[none]) (by show zaN ["drawing"] (zf zem).names _ _ _=true; decide +kernel)) (zaW (pv 0)) (fun _ _ _ _=>(zv (i:=0) (by show List.Nodup (["part"]:List Str); decide) rfl (Or.inl rfl))) (fun _ _ _ _=>zaC) (fun _ _ _ _=>(zI zw (pv 0) ze (fun _ _=>rfl)))) zc)))),(zaJ (zbH zc2 (zg (zaQ (zb3 zk) zy zaB (zaf zcE zk zN)) zr))),fun xs S R q=>q⟩
theorem zsn:Df P w K mg base "plus" ["one","other"] 1 (spN ["one","other"] zlj):=by
 exact Df.dN dd.a11 zr1 0 rfl fun f cdv A outer s H E hr=>⟨_,_,(zm (zD (zU (za (zC zE (zI zw (pv 0) ze (fun _ _=>rfl)) (zI zw (pv 1) ze (fun _ _=>rfl))) (za (zC zE (zI zw (pv 0) ze (fun _ _=>rfl)) (zI zw (pv 1) ze (fun _ _=>rfl))) zc))))),(by walk_at "r"),fun xs S R q=>q⟩
theorem ziA:Df P w K mg base "multiplied" ["one","by"] 1 (spN ["one","by"] zcH):=by
 exact Df.dN dd.a12 zeX 1 rfl fun f cdv A outer s H E hr=>⟨_,_,(zd (zu (i:=2) zeX.nd rfl lo (zU (za (zC zaZ (zI zw (pv 0) ze (fun _ _=>rfl)) (pv 1)) (za (zC zaZ (zI zw (pv 0) ze (fun _ _=>rfl)) (pv 1)) zc)))) (zm (zD (zU (za (zx (zf4 rfl hr.units) (by rfl) T.n_min ziJ (za (pv 2) zc)) (za (zx (ziU rfl) (by rfl) T.n_max ziF (za (pv 2) zc)) zc)))))),(by walk_at "r"),fun xs S R q=>q⟩
theorem zmB:Df P w K mg base "span_of" ["part"] 1 (spN ["part"] zeT):=by
 exact Df.dN dd.a13 zlH 0 rfl fun f cdv A outer s H E hr=>⟨_,_,(zm (zD (zU (za (zI zw (pv 0) ze (fun _ _=>rfl)) (za (zI zw (pv 0) ze (fun _ _=>rfl)) zc))))),(by walk_at "r"),fun xs S R q=>q⟩
theorem zdx:Df P w K mg base "reach_of_terms" ["drawing","terms"] 2 (spN ["drawing","terms"] zaU):=by
 exact Df.dN dd.a14 zaK 3 rfl fun f cdv A outer s H E hr=>⟨_,_,(zd (zu (i:=2) zaK.nd rfl lo (zU (za ze (za ze zc)))) (zd (zbw PassesOwn.never rfl (zaW (pv 1)) (zcw (n:=2) rfl (zL (zv (i:=3) zaK.nd rfl (Or.inl rfl)) (zL (zv (i:=4) zaK.nd rfl (Or.inl rfl)) zbt))) (zm (zu (i:=2) zaK.nd rfl lo (zp zsn hr dz (za (pv 2) (za (zp ziA hr dz (za (zp zmB hr dz (za (zI zw (pv 0) (pv 3) (fun _ _=>rfl)) zc)) (za (pv 4) zc))) zc)))))) (zm (zD (pv 2))))),(by walk_at "r"),fun xs S R q=>q⟩
theorem zii:Df P w K mg base "quotient_up" ["number","by"] 1 (spN ["number","by"] zcc):=by
 exact Df.dN dd.a15 zg4 0 rfl fun f cdv A outer s H E hr=>⟨_,_,(zm (zD (ze5 zcS (zC zhQ (ze5 zcS (pv 0)) (pv 1))))),(by walk_at "r"),fun xs S R q=>q⟩
theorem zcK:Df P w K mg base "first_no_greater" ["drawing","terms","most"] 3 (spN ["drawing","terms","most"] zaA):=by
 exact Df.dN dd.a16 zZ 5 rfl fun f cdv A outer s H E hr=>⟨_,_,(zd (zbd (zP zi1 (zI zw (zp zdx hr dz (za (pv 0) (za (pv 1) zc))) ze (fun _ _=>rfl)) (pv 2) (nomark _)) (zm (zD zdA)) zX) (zd (zu (i:=3) zZ.nd rfl lo (zW zfE (by rfl) T.n_list zif (za (zp zkq hr dz (za (pv 0) zc)) zc))) (zd (zu (i:=4) zZ.nd rfl lo (pv 2)) (zd (zbw PassesOwn.never rfl (zoQ rfl T.n_enumerate (za (pv 1) zc)) (zcw (n:=2) rfl (zL (zv (i:=5) zZ.nd rfl (Or.inl rfl)) (zL (zv (i:=6) zZ.nd rfl (Or.inl rfl)) zbt))) (zd (zbd (zP zl1 (zI zw (pv 6) ze (fun _ _=>rfl)) ze (nomark _)) (zd (zu (i:=7) zZ.nd rfl lo (zI zw (zp zdx hr dz (za (pv 0) (za (zbD zgf (pv 1) (zb6 (zC zE (pv 5) ze)) zcM) zc))) ze (fun _ _=>rfl))) (zm (zd2 (zx (zgv rfl) (by rfl) T.n_max ziF (za (zI zw (pv 3) (zI zw (pv 6) ze (fun _ _=>rfl)) (fun _ _=>rfl)) (za (zp zii hr dz (za (zC zbO (pv 4) (pv 7)) (za (zI zw (pv 6) ze (fun _ _=>rfl)) zc))) zc))) (zjf (pv 3) (zI zw (pv 6) ze (fun _ _=>rfl)) zeV)))) zX) (zm (zu (i:=4) zZ.nd rfl lo (zC zbO (pv 4) (zC zaZ (zI zw (pv 6) ze (fun _ _=>rfl)) (zI zw (pv 3) (zI zw (pv 6) ze (fun _ _=>rfl)) (fun _ _=>rfl)))))))) (zm (zD (zW zG (by rfl) T.n_tuple zat (za (pv 3) zc)))))))),(by walk_at "r"),fun xs S R q=>q⟩
theorem zl7:Df P w K mg base "opposite" ["terms"] 1 (spN ["terms"] zd0):=by
 exact Df.dN dd.a17 zkj 0 rfl fun f cdv A outer s H E hr=>⟨_,_,(zm (zD (zW zG (by rfl) T.n_tuple zat (za (zbu (fun _ _ h=>h) rfl (zR (L:=0) rfl rfl rfl rfl (N:=["part","times"]) (caps:=[none,none]) (by show zaN ["terms"] (zf ze0).names _ _ _=true; decide +kernel)) (zaW (pv 0)) (fun _ _ _ _=>(zcw (n:=2) rfl (zL (zv (i:=0) (by show List.Nodup (["part","times"]:List Str); decide) rfl (Or.inl rfl)) (zL (zv (i:=1) (by show List.Nodup (["part","times"]:List Str); decide) rfl (Or.inl rfl)) zbt)))) (fun _ _ _ _=>zaC) (fun _ _ _ _=>(zU (za (pv 0) (za (ze5 zcS (pv 1)) zc))))) zc)))),(zaJ (zbH zc2 (zg (zaQ (zb3 zk) (zf5 (zbi zy (zbi zy zek))) zaB (zcr (zg zk (zg (zq0 zuj zk) zr)))) zr))),fun xs S R q=>q⟩
theorem zfH:Df P w K mg base "first_breakers" ["job"] 4 (spN ["job"] zbr):=by
 exact Df.dN dd.a18 zaL 4 rfl fun f cdv A outer s H E hr=>⟨_,_,(zd (zu (i:=1) zaL.nd rfl lo (zay zc)) (zd (zbw PassesOwn.never rfl (zaW (zI zw (pv 0) ze (fun _ _=>rfl))) (zcw (n:=3) rfl (zL (zv (i:=2) zaL.nd rfl (Or.inl rfl)) (zL (zv (i:=3) zaL.nd rfl (Or.inl rfl)) (zL (zv (i:=4) zaL.nd rfl (Or.inl rfl)) zbt)))) (zd (za6 (zdR PySem.F.plainAttrs_list PySem.F.slot_list_append PySem.F.type_list_append za9 (pv 1) (za (zp zcK hr dz (za (zI zw (pv 0) ze (fun _ _=>rfl)) (za (pv 2) (za (zC zbO (pv 3) ze) zc)))) zc))) (zm (za6 (zdR PySem.F.plainAttrs_list PySem.F.slot_list_append PySem.F.type_list_append za9 (pv 1) (za (zp zcK hr dz (za (zI zw (pv 0) ze (fun _ _=>rfl)) (za (zp zl7 hr dz (za (pv 2) zc)) (za (zC zbO (ze5 zcS (pv 4)) ze) zc)))) zc)))))) (zm (zD (pv 1))))),(by walk_at "r"),fun xs S R q=>q⟩
theorem zlz:Df P w K mg base "worth_of" ["gap","one"] 1 (spN ["gap","one"] zdY):=by
 exact Df.dN dd.a19 zj6 0 rfl fun f cdv A outer s H E hr=>⟨_,_,(zm (zD (zx (zf3 rfl) (by rfl) T.n_sum znC (za (zbu (fun _ _ h=>h) rfl (zR rfl rfl rfl rfl (N:=["part","times","one"]) (caps:=[none,none,some 1]) (by show zaN ["gap","one"] (zf zfh).names _ _ _=true; decide +kernel)) (zaW (zI zw (pv 0) ze (fun _ _=>rfl))) (fun _ _ _ _=>(zcw (n:=2) rfl (zL (zv (i:=0) (by show List.Nodup (["part","times","one"]:List Str); decide) rfl (Or.inl rfl)) (zL (zv (i:=1) (by show List.Nodup (["part","times","one"]:List Str); decide) rfl (Or.inl rfl)) zbt)))) (fun _ _ _ _=>zaC) (fun _ _ _ _=>(zC zaZ (pv 1) (zI zw (pv 2) (pv 0) (fun _ _=>rfl))))) zc)))),(zaJ (zbH zkD (zg (zaQ (zb3 (zaf zcE zk zN)) (zf5 (zbi zy (zbi zy zek))) zaB (zaf zht zk (zaf zcE zk zk))) zr))),fun xs S R q=>q⟩
theorem zre:Df P w K mg base "keeps" ["gap","one"] 2 (spN ["gap","one"] zhR):=by
 exact Df.dN dd.a20 zph 0 rfl fun f cdv A outer s H E hr=>⟨_,_,(zm (zD (zpk zrr zrr (zI zw (pv 0) ze (fun _ _=>rfl)) (zp zlz hr dz (za (pv 0) (za (pv 1) zc))) (zI zw (pv 0) ze (fun _ _=>rfl))))),(by walk_at "r"),fun xs S R q=>q⟩
theorem zkr:Df P w K mg base "kept_gaps" ["gaps","one"] 3 (spN ["gaps","one"] zdd):=by
 exact Df.dN dd.a21 zjo 0 rfl fun f cdv A outer s H E hr=>⟨_,_,(zm (zD (zbu (fun _ _ h=>h) rfl (zR rfl rfl rfl rfl (N:=["gap","one"]) (caps:=[none,some 1]) (by show zaN ["gaps","one"] (zf zeo).names _ _ _=true; decide +kernel)) (zaW (pv 0)) (fun _ _ _ _=>(zv (i:=0) (by show List.Nodup (["gap","one"]:List Str); decide) rfl (Or.inl rfl))) (fun _ _ _ _=>zaC) (fun _ _ _ _=>(zp zre hr dz (za (pv 0) (za (pv 1) zc))))))),(zaJ (zeU (zb3 zk) zy zaB (zan (zg zk (zg zk zr))))),fun xs S R q=>q⟩
theorem zjv:Df P w K mg base "counter" ["job"] 5 (spN ["job"] zdG):=by
 exact Df.dN dd.a22 zfb 2 rfl fun f cdv A outer s H E hr=>⟨_,_,(zd (zdb (i:=1) (fun _ _ h=>h) rfl (zR (L:=0) rfl rfl rfl rfl (N:=["one"]) (caps:=[none]) (by show zaN ["job","found","one"] (zf zgE).names _ _ _=true; decide +kernel)) zfb.nd rfl rfl (zaW (zp zfH hr dz (za (pv 0) zc))) (fun _ _ _ _=>(zv (i:=0) (by show List.Nodup (["one"]:List Str); decide) rfl (Or.inl rfl))) (fun _ _ _ _=>(zkb (zP zlb (pv 0) zdA (nomark _)))) (fun _ _ _ _=>(pv 0))) (zd (zbd (zfn (zbq (pv 1) (fun _=>rfl))) (zm (zD zdA)) zX) (zd (zu (i:=2) zfb.nd rfl lo (zx (zf4 rfl hr.units) (by rfl) T.n_min ziJ (za (pv 1) zc))) (zm (zD (zU (za (pv 2) (za (zdR PySem.F.plainAttrs_list PySem.F.slot_list_index PySem.F.type_list_index (zjk hr.units) (zp zkr hr dz (za (zI zw (pv 0) ze (fun _ _=>rfl)) (za (pv 2) zc))) (za zij zc)) zc)))))))),(zQ (zaz (zaQ (zb3 (zan (zg zk zr))) zy (zov (zng zk)) zk) zy) (zQ (by walk_at "r") (zQ (by walk_at "r") (zaJ (zcr (zg zk (zg (zkW ziW (by walk_at "r") (zg zjT zr)) zr))))))),fun xs S R q=>q⟩
theorem zeA:Df P w K mg base "narrowed_by" ["drawing","offers","choice"] 1 (spN ["drawing","offers","choice"] zbF):=by
 exact Df.dN dd.a23 zec 1 rfl fun f cdv A outer s H E hr=>⟨_,_,(zd (zdb (i:=3) (fun _ _ h=>h) rfl (zR (L:=0) rfl rfl rfl rfl (N:=["of_part","number"]) (caps:=[none,none]) (by show zaN ["drawing","offers","choice","chosen"] (zf zca).names _ _ _=true; decide +kernel)) zec.nd rfl rfl (zjZ rfl T.n_zip (za (pv 1) (za (pv 2) zc))) (fun _ _ _ _=>(zcw (n:=2) rfl (zL (zv (i:=0) (by show List.Nodup (["of_part","number"]:List Str); decide) rfl (Or.inl rfl)) (zL (zv (i:=1) (by show List.Nodup (["of_part","number"]:List Str); decide) rfl (Or.inl rfl)) zbt)))) (fun _ _ _ _=>zaC) (fun _ _ _ _=>(zI zw (pv 0) (pv 1) (fun _ _=>rfl)))) (zm (zD (zW zG (by rfl) T.n_tuple zat (za (zbu (fun _ _ h=>h) rfl (zR (L:=0) rfl rfl rfl rfl (N:=["part","offer"]) (caps:=[none,none]) (by show zaN ["drawing","offers","choice","chosen"] (zf zca).names _ _ _=true; decide +kernel)) (zjZ rfl T.n_zip (za (pv 0) (za (pv 3) zc))) (fun _ _ _ _=>(zcw (n:=2) rfl (zL (zv (i:=0) (by show List.Nodup (["part","offer"]:List Str); decide) rfl (Or.inl rfl)) (zL (zv (i:=1) (by show List.Nodup (["part","offer"]:List Str); decide) rfl (Or.inl rfl)) zbt)))) (fun _ _ _ _=>zaC) (fun _ _ _ _=>(zU (za (zI zw (pv 0) ze (fun _ _=>rfl)) (za (zI zw (pv 1) ze (fun _ _=>rfl)) (za (zI zw (pv 1) ze (fun _ _=>rfl)) zc)))))) zc))))),(zQ (zaz (zaQ (zkz (zg zk (zg zk zr))) (zf5 (zbi zy (zbi zy zek))) zaB (zaf zcE zk zk)) zy) (zaJ (zbH zc2 (zg (zaQ (zkz (zg zk (zg zk zr))) (zf5 (zbi zy (zbi zy zek))) zaB (zcr (zg (zaf zcE zk zN) (zg (zaf zcE zk zN) (zg (zaf zcE zk zN) zr))))) zr)))),fun xs S R q=>q⟩
theorem zqX:Df P w K mg base "safe" ["job","offers","choice"] 6 (spN ["job","offers","choice"] zjO):=by
 exact Df.dN dd.a24 zr2 0 rfl fun f cdv A outer s H E hr=>⟨_,_,(zm (zD (zdP zgr (zp zjv hr dz (za (zU (za (zp zeA hr dz (za (zI zw (pv 0) ze (fun _ _=>rfl)) (za (pv 1) (za (pv 2) zc)))) (za (zI zw (pv 0) ze (fun _ _=>rfl)) zc))) zc)) zdA (nomark _)))),(by walk_at "r"),fun xs S R q=>q⟩
theorem ze6:Df P w K mg base "price_of" ["offers","choice"] 1 (spN ["offers","choice"] zaX):=by
 exact Df.dN dd.a25 zku 0 rfl fun f cdv A outer s H E hr=>⟨_,_,(zm (zD (zx (zf3 rfl) (by rfl) T.n_sum znC (za (zbu (fun _ _ h=>h) rfl (zR (L:=0) rfl rfl rfl rfl (N:=["of_part","number"]) (caps:=[none,none]) (by show zaN ["offers","choice"] (zf ze3).names _ _ _=true; decide +kernel)) (zjZ rfl T.n_zip (za (pv 0) (za (pv 1) zc))) (fun _ _ _ _=>(zcw (n:=2) rfl (zL (zv (i:=0) (by show List.Nodup (["of_part","number"]:List Str); decide) rfl (Or.inl rfl)) (zL (zv (i:=1) (by show List.Nodup (["of_part","number"]:List Str); decide) rfl (Or.inl rfl)) zbt)))) (fun _ _ _ _=>zaC) (fun _ _ _ _=>(zI zw (zI zw (pv 0) (pv 1) (fun _ _=>rfl)) ze (fun _ _=>rfl)))) zc)))),(zaJ (zbH zkD (zg (zaQ (zkz (zg zk (zg zk zr))) (zf5 (zbi zy (zbi zy zek))) zaB (zaf zcE (zaf zcE zk zk) zN)) zr))),fun xs S R q=>q⟩
theorem zlU:DfX P w K mg base "cheapest" ["job","offers"] 9 (spX ["job","offers"] zcj):=by
 obtain⟨c,P',hc,ht⟩:=ll.l_cheapest;exact zmk dd.a26 hc zdl 1 rfl fun f A outer s H E EX hr=>⟨_,_,(zd (za6 (zqq zcU pass1 hr dz (za (PE.nox (zp zcm hr dz (za (pv 1) zc))) zc))) (PSs.nox (zd (zdb (i:=2) (fun _ _ h=>h) rfl (zR rfl rfl rfl rfl (N:=["choice","job","offers"]) (caps:=[none,some 0,some 1]) (by show zaN ["job","offers","found"] (zf zci).names _ _ _=true; decide +kernel)) zdl.nd rfl rfl (zaW (zp zeB hr dz (za (zp zcm hr dz (za (pv 1) zc)) zc))) (fun _ _ _ _=>(zv (i:=0) (by show List.Nodup (["choice","job","offers"]:List Str); decide) rfl (Or.inl rfl))) (fun _ _ _ _=>(zkb (zbq (zp zqX hr dz (za (pv 1) (za (pv 2) (za (pv 0) zc)))) (fun _=>rfl)))) (fun _ _ _ _=>(pv 0))) (zm (zD (ziS (k:=6) (x:="choice") (caps:=["offers"]) (ks:=[1]) ht rfl rfl rfl rfl rfl rfl (by show zfg ["job","offers","found"] (zf zci).names _ _ _ _=true; decide +kernel) rfl (fun _ _ _ _ _=>rfl) hr rfl T.n_min (pv 2) (fun cl f c' s H hr=>(zp ze6 hr dz (za (pv 1) (za (pv 0) zc)))))))))),(zlt (zmL (zkK (znx (by walk_at "r")))) (zgg (zQ (zaz (zaQ (zb3 (zan (zg (zan (zg zk zr)) zr))) zy (zdz (zan (zg zk (zg zk (zg zk zr))))) zk) zy) (zaJ (ziH zk (zan (zg zk (zg zk zr)))))))),fun xs S R q=>q⟩
theorem zlI:Df P w K mg base "cheapest" ["job","offers"] 9 (spN ["job","offers"] zcZ):=by
 obtain⟨c,P',hc,ht⟩:=ll.l_cheapest;exact ztc dd.a26 hc zdl 1 rfl fun f A outer s H E hr=>⟨_,_,(zd (za6 (zp zfe hr dz (za (zp zcm hr dz (za (pv 1) zc)) zc))) (zd (zdb (i:=2) (fun _ _ h=>h) rfl (zR rfl rfl rfl rfl (N:=["choice","job","offers"]) (caps:=[none,some 0,some 1]) (by show zaN ["job","offers","found"] (zf zci).names _ _ _=true; decide +kernel)) zdl.nd rfl rfl (zaW (zp zeB hr dz (za (zp zcm hr dz (za (pv 1) zc)) zc))) (fun _ _ _ _=>(zv (i:=0) (by show List.Nodup (["choice","job","offers"]:List Str); decide) rfl (Or.inl rfl))) (fun _ _ _ _=>(zkb (zbq (zp zqX hr dz (za (pv 1) (za (pv 2) (za (pv 0) zc)))) (fun _=>rfl)))) (fun _ _ _ _=>(pv 0))) (zm (zD (ziS (k:=6) (x:="choice") (caps:=["offers"]) (ks:=[1]) ht rfl rfl rfl rfl rfl rfl (by show zfg ["job","offers","found"] (zf zci).names _ _ _ _=true; decide +kernel) rfl (fun _ _ _ _ _=>rfl) hr rfl T.n_min (pv 2) (fun cl f c' s H hr=>(zp ze6 hr dz (za (pv 1) (za (pv 0) zc))))))))),(zQ (by walk_at "r") (zQ (zaz (zaQ (zb3 (zan (zg (zan (zg zk zr)) zr))) zy (zdz (zan (zg zk (zg zk (zg zk zr))))) zk) zy) (zaJ (ziH zk (zan (zg zk (zg zk zr))))))),fun xs S R q=>q⟩
theorem zgc:DfN P w K mg base "_law_whole" ["found"] 1 (spN ["found"] zah):=by
 exact DfN.dN dd.a27 zfm 0 rfl fun f cdv A outer s H hr=>⟨_,_,(zm (zD (zjp (zx zeW (by rfl) T.n_isinstance zK (za (pv 0) (za (zeZ rfl T.n_int zob (v:=.ty "int") rfl) zc))) (zkZ (zp4 (zx zeW (by rfl) T.n_isinstance zK (za (pv 0) (za (zeZ rfl T.n_bool znX (v:=.ty "bool") rfl) zc)))))))),(by walk_at "r"),fun xs S R q=>q⟩
theorem zj8:Df P w K mg base "_law_whole" ["found"] 1 (spN ["found"] zah):=by
 exact Df.dN dd.a27 zfm 0 rfl fun f cdv A outer s H E hr=>⟨_,_,(zm (zD (zjp (zx zeW (by rfl) T.n_isinstance zK (za (pv 0) (za (zeZ rfl T.n_int zob (v:=.ty "int") rfl) zc))) (zkZ (zp4 (zx zeW (by rfl) T.n_isinstance zK (za (pv 0) (za (zeZ rfl T.n_bool znX (v:=.ty "bool") rfl) zc)))))))),(by walk_at "r"),fun xs S R q=>q⟩
theorem zhb:Df P w K mg base "_law_tuple_of" ["found","due"] 2 (spN ["found","due"] zbU):=by
 exact Df.dN dd.a28 zga 0 rfl fun f cdv A outer s H E hr=>⟨_,_,(zd (zbd (PW.pt (zkl (zfn (zbq (zx zeW (by rfl) T.n_isinstance zK (za (pv 0) (za (zeZ rfl T.n_tuple zat (v:=.ty "tuple") rfl) zc))) (fun _=>rfl))) (zhw (zP (zmu hr.units) (zx zae (by rfl) T.n_len zbA (za (pv 0) zc)) (zx zae (by rfl) T.n_len zbA (za (pv 1) zc)) (nomark _))))) (zm (zD zij)) zX) (zm (zD (zjp (zx (zn9 rfl) (by rfl) T.n_all zss (za (zbu (fun _ _ h=>h) rfl (zR (L:=0) rfl rfl rfl rfl (N:=["number"]) (caps:=[none]) (by show zaN ["found","due"] (zf zcL).names _ _ _=true; decide +kernel)) (zaW (pv 0)) (fun _ _ _ _=>(zv (i:=0) (by show List.Nodup (["number"]:List Str); decide) rfl (Or.inl rfl))) (fun _ _ _ _=>zaC) (fun _ _ _ _=>(zp zj8 hr dz (za (pv 0) zc)))) zc)) (zkZ (zdP (zb0 hr.units) (pv 0) (zW zG (by rfl) T.n_tuple zat (za (pv 1) zc)) (nomark _))))))),(zQ (by walk_at "r") (zaJ (zgd (zbH zqS (zg (zaQ (zb3 zk) zy zaB (zan (zg zk zr))) zr)) (by walk_at "r")))),fun xs S R q=>q⟩
theorem zgL:Df P w K mg base "_law_right" ["job","offers","due"] 10 (spN ["job","offers","due"] za8):=by
 exact Df.dN dd.a29 zfD 1 rfl fun f cdv A outer s H E hr=>⟨_,_,(zd (zu (i:=3) zfD.nd rfl lo (zp zlI hr dz (za (pv 0) (za (pv 1) zc)))) (zd (zbd (zP zgr (pv 2) zdA (nomark _)) (zm (zD (zdP zgr (pv 3) zdA (nomark _)))) zX) (zm (zD (zp zhb hr dz (za (pv 3) (za (zI zw (pv 2) ze (fun _ _=>rfl)) zc))))))),(by walk_at "r"),fun xs S R q=>q⟩
theorem zfs:Df P w K mg base "_law_pen_of" ["cell"] 1 (spN ["cell"] zb4):=by
 exact Df.dN dd.a30 zet 1 rfl fun f cdv A outer s H E hr=>⟨_,_,(zd (zu (i:=1) zet.nd rfl lo (zx (zgv rfl) (by rfl) T.n_max ziF (za (pv 0) (za (zC zbO ze (pv 0)) zc)))) (zm (zD (zay (za (pv 1) (za (zW znn (by rfl) T.n_int zob (za (zdP zsN (pv 1) (zC zhD ze ze) (nomark _)) zc)) (za (zC zfo (pv 1) ze) zc))))))),(by walk_at "r"),fun xs S R q=>q⟩
theorem zgR:Df P w K mg base "_law_offers_of" ["pen","drawing"] 3 (spN ["pen","drawing"] zbM):=by
 exact Df.dN dd.a31 zF 12 rfl fun f cdv A outer s H E hr=>⟨_,_,(zd (zu (i:=2) zF.nd rfl lo (zay zc)) (zd (zu (i:=3) zF.nd rfl lo (zI zw (zay (za ze (za ze (za ze (za (zC zhD ze ze) zc))))) (zp zt hr dz (za (pv 0) (za ze zc))) (fun _ _=>rfl))) (zd (zbw PassesOwn.never rfl (zaW (pv 1)) (zcw (n:=3) rfl (zL (zv (i:=4) zF.nd rfl (Or.inl rfl)) (zL (zv (i:=5) zF.nd rfl (Or.inl rfl)) (zL (zv (i:=6) zF.nd rfl (Or.inl rfl)) zbt)))) (zd (zu (i:=7) zF.nd rfl lo (zay (za (zU (za (pv 5) (za (pv 6) (za ze zc)))) zc))) (zd (zbw PassesOwn.never rfl (zaq rfl T.n_range (za (zp zt hr dz (za (pv 0) (za ze zc))) zc)) (zv (i:=8) zF.nd rfl (Or.inl rfl)) (zd (zd2 (zI zw (pv 7) (ze5 zcS ze) (fun _ _=>rfl)) (zcw (n:=3) rfl (zL (zv (i:=9) zF.nd rfl (Or.inl rfl)) (zL (zv (i:=10) zF.nd rfl (Or.inl rfl)) (zL (zv (i:=11) zF.nd rfl (Or.inl rfl)) zbt))))) (zm (zbd (zP zl1 (pv 9) (pv 10) (nomark _)) (zd (zu (i:=12) zF.nd rfl lo (zC zE (pv 9) (zp zt hr dz (za (pv 0) (za (zC zE (zx (znK rfl) (by rfl) T.n_min ziJ (za (zC zbO (pv 10) (pv 9)) (za ze zc))) ze) zc))))) (zd (zu (i:=13) zF.nd rfl lo (zx (zgv rfl) (by rfl) T.n_max ziF (za (pv 12) (za (zC zbO (pv 10) (zp zt hr dz (za (pv 0) (za ze zc)))) zc)))) (zd (zbd (PW.pt (zqf (zP (zb0 hr.units) (pv 12) (pv 9) (nomark _)) (zm4 (zP (zb0 hr.units) (pv 13) (pv 10) (nomark _))))) (zm (zu (i:=12) zF.nd rfl lo (zC zE (pv 9) ze))) zX) (zm (za6 (zdR PySem.F.plainAttrs_list PySem.F.slot_list_append PySem.F.type_list_append za9 (pv 7) (za (zU (za (pv 12) (za (pv 13) (za (zC zE (zC zE (pv 11) ze) (zp zt hr dz (za (pv 0) (za (pv 3) zc)))) zc)))) zc))))))) zX)))) (zm (za6 (zdR PySem.F.plainAttrs_list PySem.F.slot_list_append PySem.F.type_list_append za9 (pv 2) (za (zW zG (by rfl) T.n_tuple zat (za (pv 7) zc)) zc))))))) (zm (zD (zW zG (by rfl) T.n_tuple zat (za (pv 2) zc))))))),(by walk_at "r"),fun xs S R q=>q⟩
theorem zc1:Df P w K mg base "_law_ends_of" ["drawing","terms"] 1 (spN ["drawing","terms"] zaR):=by
 exact Df.dN dd.a32 zau 5 rfl fun f cdv A outer s H E hr=>⟨_,_,(zd (zu (i:=2) zau.nd rfl lo ze) (zd (zu (i:=3) zau.nd rfl lo ze) (zd (zbw PassesOwn.never rfl (zaW (pv 1)) (zcw (n:=2) rfl (zL (zv (i:=4) zau.nd rfl (Or.inl rfl)) (zL (zv (i:=5) zau.nd rfl (Or.inl rfl)) zbt))) (zd (zu (i:=6) zau.nd rfl lo (zay (za (zC zaZ (pv 5) (zI zw (zI zw (pv 0) (pv 4) (fun _ _=>rfl)) ze (fun _ _=>rfl))) (za (zC zaZ (pv 5) (zI zw (zI zw (pv 0) (pv 4) (fun _ _=>rfl)) ze (fun _ _=>rfl))) zc)))) (zd (zu (i:=2) zau.nd rfl lo (zC zE (pv 2) (zx (zf4 rfl hr.units) (by rfl) T.n_min ziJ (za (pv 6) zc)))) (zm (zu (i:=3) zau.nd rfl lo (zC zE (pv 3) (zx (ziU rfl) (by rfl) T.n_max ziF (za (pv 6) zc)))))))) (zm (zD (zU (za (pv 2) (za (pv 3) zc)))))))),(by walk_at "r"),fun xs S R q=>q⟩
theorem zi9:Df P w K mg base "_law_gap_of" ["pen","drawing"] 3 (spN ["pen","drawing"] zcI):=by
 exact Df.dN dd.a33 zak 8 rfl fun f cdv A outer s H E hr=>⟨_,_,(zd (zu (i:=2) zak.nd rfl lo (zay zc)) (zd (zbw PassesOwn.never rfl (zaq rfl T.n_range (za (zx zae (by rfl) T.n_len zbA (za (pv 1) zc)) zc)) (zv (i:=3) zak.nd rfl (Or.inl rfl)) (zd (zu (i:=4) zak.nd rfl lo (zC zbO (zp zt hr dz (za (pv 0) (za ze zc))) ze)) (zm (zbd (zP (zml hr.units) (pv 4) (zU (za (ze5 zcS ze) (za ze (za ze zc)))) (by rfl)) (zm (za6 (zdR PySem.F.plainAttrs_list PySem.F.slot_list_append PySem.F.type_list_append za9 (pv 2) (za (zU (za (pv 3) (za (pv 4) zc))) zc)))) zX)))) (zd (zbd (zP (zb0 hr.units) (pv 2) (zay zc) (nomark _)) (zm (zu (i:=2) zak.nd rfl lo (zay (za (zU (za (zp zt hr dz (za (pv 0) (za (zx zae (by rfl) T.n_len zbA (za (pv 1) zc)) zc))) (za (zI zw (zay (za ze (za (ze5 zcS ze) (za ze (za (ze5 zcS ze) zc))))) (zp zt hr dz (za (pv 0) (za ze zc))) (fun _ _=>rfl)) zc))) zc)))) zX) (zd (zd2 (zp zc1 hr dz (za (pv 1) (za (pv 2) zc))) (zcw (n:=2) rfl (zL (zv (i:=5) zak.nd rfl (Or.inl rfl)) (zL (zv (i:=6) zak.nd rfl (Or.inl rfl)) zbt)))) (zd (zu (i:=7) zak.nd rfl lo (zC zbO (pv 6) (pv 5))) (zd (zu (i:=8) zak.nd rfl lo (zC zE (pv 5) (zI zw (zfV (zac ze (zac ze (zac (ze5 zcS ze) (zac (zC zhQ (pv 7) ze) (zac (zC zhQ (pv 7) ze) (zac (zC zE (pv 7) ze) zd7))))))) (zp zt hr dz (za (pv 0) (za ze zc))) (fun _ _=>rfl)))) (zd (zu (i:=9) zak.nd rfl lo (zC zE (pv 8) (zI zw (zfV (zac ze (zac ze (zac ze (zac (zC zhQ (pv 7) ze) (zac (pv 7) (zac (zC zE (pv 7) ze) zd7))))))) (zp zt hr dz (za (pv 0) (za ze zc))) (fun _ _=>rfl)))) (zm (zD (zU (za (zW zG (by rfl) T.n_tuple zat (za (pv 2) zc)) (za (pv 8) (za (pv 9) zc))))))))))))),(by walk_at "r"),fun xs S R q=>q⟩
theorem zir:Df P w K mg base "_law_gaps_of" ["pen","drawing","most"] 4 (spN ["pen","drawing","most"] zcf):=by
 exact Df.dN dd.a34 zd3 1 rfl fun f cdv A outer s H E hr=>⟨_,_,(zd (zdb (i:=3) (fun _ _ h=>h) rfl (zR rfl rfl rfl rfl (N:=["k","pen","drawing"]) (caps:=[none,some 0,some 1]) (by show zaN ["pen","drawing","most","gaps"] (zf zda).names _ _ _=true; decide +kernel)) zd3.nd rfl rfl (zaq rfl T.n_range (za (zC zE ze (zp zt hr dz (za (pv 0) (za (pv 2) zc)))) zc)) (fun _ _ _ _=>(zv (i:=0) (by show List.Nodup (["k","pen","drawing"]:List Str); decide) rfl (Or.inl rfl))) (fun _ _ _ _=>zaC) (fun _ _ _ _=>(zp zi9 hr dz (za (pv 1) (za (pv 2) zc))))) (zd (zbd (PW.pt (zqf (zP (zb0 hr.units) (zp zt hr dz (za (pv 0) (za ze zc))) ze (nomark _)) (zm4 (zP zi1 (zx zae (by rfl) T.n_len zbA (za (pv 3) zc)) ze (nomark _))))) (zm (zd2 (zU (za (zI zw (zI zw (pv 3) ze (fun _ _=>rfl)) ze (fun _ _=>rfl)) (za (zC zE (zI zw (zI zw (pv 3) ze (fun _ _=>rfl)) ze (fun _ _=>rfl)) ze) (za (zC zE (zC zE (zI zw (zI zw (pv 3) ze (fun _ _=>rfl)) ze (fun _ _=>rfl)) ze) (zp zt hr dz (za (pv 0) (za ze zc)))) zc)))) (zjf (pv 3) (ze5 zcS ze) zeV))) zX) (zm (zD (zW zG (by rfl) T.n_tuple zat (za (pv 3) zc)))))),(zQ (zaz (zeU (zce (zg (zaf zcJ zN (za2 (i:=0) (zg zk (zg zk zr)))) zr)) zy zaB (za2 (i:=0) (zg zk (zg zk zr)))) zy) (by walk_at "r")),fun xs S R q=>q⟩
theorem zdI:Df P w K mg base "_law_chosen_of" ["drawing","offers","choice"] 1 (spN ["drawing","offers","choice"] zaE):=by
 exact Df.dN dd.a35 zfG 0 rfl fun f cdv A outer s H E hr=>⟨_,_,(zm (zD (zW zG (by rfl) T.n_tuple zat (za (zbu (fun _ _ h=>h) rfl (zR rfl rfl rfl rfl (N:=["k","drawing","offers","choice"]) (caps:=[none,some 0,some 1,some 2]) (by show zaN ["drawing","offers","choice"] (zf zcp).names _ _ _=true; decide +kernel)) (zaq rfl T.n_range (za (zx zae (by rfl) T.n_len zbA (za (pv 0) zc)) zc)) (fun _ _ _ _=>(zv (i:=0) (by show List.Nodup (["k","drawing","offers","choice"]:List Str); decide) rfl (Or.inl rfl))) (fun _ _ _ _=>zaC) (fun _ _ _ _=>(zC zE (zU (za (zI zw (zI zw (pv 1) (pv 0) (fun _ _=>rfl)) ze (fun _ _=>rfl)) zc)) (zbD zgf (zI zw (zI zw (pv 2) (pv 0) (fun _ _=>rfl)) (zI zw (pv 3) (pv 0) (fun _ _=>rfl)) (fun _ _=>rfl)) zcM (zb6 ze))))) zc)))),(zaJ (zbH zc2 (zg (zaQ (zce (zg (zbH zeq (zg zk zr)) zr)) zy zaB (zaf zcJ (zcr (zg (zaf zcE (zaf zcE zk zk) zN) zr)) (znT zoh (zaf zcE (zaf zcE zk zk) (zaf zcE zk zk)) zgB (zgb zN)))) zr))),fun xs S R q=>q⟩
theorem zgJ:Df P w K mg base "_law_some_gaps" ["pen","drawing","offers","most"] 5 (spN ["pen","drawing","offers","most"] zbC):=by
 exact Df.dN dd.a36 zar 6 rfl fun f cdv A outer s H E hr=>⟨_,_,(zd (zu (i:=4) zar.nd rfl lo (zW zfE (by rfl) T.n_list zif (za (zp zir hr dz (za (pv 0) (za (pv 1) (za (pv 3) zc)))) zc))) (zd (zbd (zP zi1 (zp zt hr dz (za (pv 0) (za ze zc))) ze (nomark _)) (zd (zu (i:=5) zar.nd rfl lo (zW zG (by rfl) T.n_tuple zat (za (zbu (fun _ _ h=>h) rfl (zR rfl rfl rfl rfl (N:=["some","pen"]) (caps:=[none,some 0]) (by show zaN ["pen","drawing","offers","most","gaps","choice","chosen","k","least","high"] (zf zcx).names _ _ _=true; decide +kernel)) (zaW (pv 2)) (fun _ _ _ _=>(zv (i:=0) (by show List.Nodup (["some","pen"]:List Str); decide) rfl (Or.inl rfl))) (fun _ _ _ _=>zaC) (fun _ _ _ _=>(zp zt hr dz (za (pv 1) (za (zx zae (by rfl) T.n_len zbA (za (pv 0) zc)) zc))))) zc))) (zd (zu (i:=6) zar.nd rfl lo (zp zdI hr dz (za (pv 1) (za (pv 2) (za (pv 5) zc))))) (zm (zbw PassesOwn.never rfl (zaq rfl T.n_range (za (zx zae (by rfl) T.n_len zbA (za (pv 4) zc)) zc)) (zv (i:=7) zar.nd rfl (Or.inl rfl)) (zd (zd2 (zp zc1 hr dz (za (pv 6) (za (zI zw (zI zw (pv 4) (pv 7) (fun _ _=>rfl)) ze (fun _ _=>rfl)) zc))) (zcw (n:=2) rfl (zL (zv (i:=8) zar.nd rfl (Or.inl rfl)) (zL (zv (i:=9) zar.nd rfl (Or.inl rfl)) zbt)))) (zm (zd2 (zU (za (zI zw (zI zw (pv 4) (pv 7) (fun _ _=>rfl)) ze (fun _ _=>rfl)) (za (zC zbO (pv 8) (zp zt hr dz (za (pv 0) (za ze zc)))) (za (zC zE (pv 9) (zp zt hr dz (za (pv 0) (za ze zc)))) zc)))) (zjf (pv 4) (pv 7) zeV)))))))) zX) (zm (zD (zW zG (by rfl) T.n_tuple zat (za (pv 4) zc)))))),(zQ (by walk_at "r") (zQ (zfJ (by walk_at "r") (zQ (zaz (zbH zc2 (zg (zaQ (zb3 zk) zy zaB (za2 (i:=0) (zg zk (zg (zbH zeq (zg zk zr)) zr)))) zr)) zy) (by walk_at "r")) zcv) (by walk_at "r"))),fun xs S R q=>q⟩
theorem zhY:Df P w K mg base "_law_choices" ["offers"] 1 (spN ["offers"] zb9):=by
 exact Df.dN dd.a37 zaY 4 rfl fun f cdv A outer s H E hr=>⟨_,_,(zd (zu (i:=1) zaY.nd rfl lo (zay (za (zU zc) zc))) (zd (zbw PassesOwn.never rfl (zaW (pv 0)) (zv (i:=2) zaY.nd rfl (Or.inl rfl)) (zd (zu (i:=3) zaY.nd rfl lo (zay zc)) (zd (zbw PassesOwn.never rfl (zaW (pv 1)) (zv (i:=4) zaY.nd rfl (Or.inr rfl)) (zm (za6 (zdR PySem.F.plainAttrs_list PySem.F.slot_list_extend PySem.F.type_list_extend zgw (pv 3) (za (zbu (fun _ _ h=>h) rfl (zR rfl rfl rfl rfl (N:=["number","ahead"]) (caps:=[none,some 4]) (by show zaN ["offers","found","some","longer","ahead"] (zf zdf).names _ _ _=true; decide +kernel)) (zaq rfl T.n_range (za (zx zae (by rfl) T.n_len zbA (za (pv 2) zc)) zc)) (fun _ _ _ _=>(zv (i:=0) (by show List.Nodup (["number","ahead"]:List Str); decide) rfl (Or.inl rfl))) (fun _ _ _ _=>zaC) (fun _ _ _ _=>(zC zE (pv 1) (zU (za (pv 0) zc))))) zc))))) (zm (zu (i:=1) zaY.nd rfl lo (pv 3)))))) (zm (zD (pv 1))))),(zQ (by walk_at "r") (zQ (zjL (zb3 zk) zy (ztq (zQ (ztH (zQ (by walk_at "r") (zjL (zb3 zk) zy (zh6 (zpa zgx zk (zg (zaQ (zce (zg (zbH zeq (zg zk zr)) zr)) zy zaB (zaf zcJ zk (zcr (zg zk zr)))) zr)))))) (zaz zk zy)))) (zaJ zk))),fun xs S R q=>q⟩
theorem zlQ:Df P w K mg base "_law_safe" ["drawing","gaps","offers","choice"] 2 (spN ["drawing","gaps","offers","choice"] zff):=by
 exact Df.dN dd.a38 zcB 4 rfl fun f cdv A outer s H E hr=>⟨_,_,(zd (zu (i:=4) zcB.nd rfl lo (zp zdI hr dz (za (pv 0) (za (pv 2) (za (pv 3) zc))))) (zd (zbw PassesOwn.never rfl (zaW (pv 1)) (zv (i:=5) zcB.nd rfl (Or.inl rfl)) (zd (zd2 (zp zc1 hr dz (za (pv 4) (za (zI zw (pv 5) ze (fun _ _=>rfl)) zc))) (zcw (n:=2) rfl (zL (zv (i:=6) zcB.nd rfl (Or.inl rfl)) (zL (zv (i:=7) zcB.nd rfl (Or.inl rfl)) zbt)))) (zm (zbd (PW.pt (zkl (zP zl1 (pv 6) (zI zw (pv 5) ze (fun _ _=>rfl)) (nomark _)) (zhw (zP zi1 (pv 7) (zI zw (pv 5) ze (fun _ _=>rfl)) (nomark _))))) (zm (zD zij)) zX)))) (zm (zD zij)))),(by walk_at "r"),fun xs S R q=>q⟩
theorem zg5:Df P w K mg base "_law_price_of" ["offers","choice"] 1 (spN ["offers","choice"] zbW):=by
 exact Df.dN dd.a39 zgh 0 rfl fun f cdv A outer s H E hr=>⟨_,_,(zm (zD (zx (zf3 rfl) (by rfl) T.n_sum znC (za (zbu (fun _ _ h=>h) rfl (zR rfl rfl rfl rfl (N:=["k","offers","choice"]) (caps:=[none,some 0,some 1]) (by show zaN ["offers","choice"] (zf zcR).names _ _ _=true; decide +kernel)) (zaq rfl T.n_range (za (zx zae (by rfl) T.n_len zbA (za (pv 1) zc)) zc)) (fun _ _ _ _=>(zv (i:=0) (by show List.Nodup (["k","offers","choice"]:List Str); decide) rfl (Or.inl rfl))) (fun _ _ _ _=>zaC) (fun _ _ _ _=>(zI zw (zI zw (zI zw (pv 1) (pv 0) (fun _ _=>rfl)) (zI zw (pv 2) (pv 0) (fun _ _=>rfl)) (fun _ _=>rfl)) ze (fun _ _=>rfl)))) zc)))),(zaJ (zbH zkD (zg (zaQ (zce (zg (zbH zeq (zg zk zr)) zr)) zy zaB (zaf zcE (zaf zcE (zaf zcE zk zk) (zaf zcE zk zk)) zN)) zr))),fun xs S R q=>q⟩
theorem ziz:Df P w K mg base "_law_due_of" ["drawing","gaps","offers"] 3 (spN ["drawing","gaps","offers"] zbB):=by
 exact Df.dN dd.a40 zbL 3 rfl fun f cdv A outer s H E hr=>⟨_,_,(zd (zu (i:=3) zbL.nd rfl lo zdA) (zd (zbw PassesOwn.never rfl (zaW (zp zhY hr dz (za (pv 2) zc))) (zv (i:=4) zbL.nd rfl (Or.inl rfl)) (zm (zbd (zbq (zp zlQ hr dz (za (pv 0) (za (pv 1) (za (pv 2) (za (pv 4) zc))))) (fun _=>rfl)) (zd (zu (i:=5) zbL.nd rfl lo (zU (za (zp zg5 hr dz (za (pv 2) (za (pv 4) zc))) (za (pv 4) zc)))) (zm (zbd (PW.pt (zkl (zP zgr (pv 3) zdA (nomark _)) (zhw (zP (zrR hr.units) (pv 5) (pv 3) (nomark _))))) (zm (zu (i:=3) zbL.nd rfl lo (pv 5))) zX))) zX))) (zm (zD (pv 3))))),(by walk_at "r"),fun xs S R q=>q⟩
theorem zdT:Df P w K mg base "_law_number_of" ["pen"] 3 (spN ["pen"] zaH):=by
 exact Df.dN dd.a41 zdt 1 rfl fun f cdv A outer s H E hr=>⟨_,_,(zd (zu (i:=1) zdt.nd rfl lo (zp zt hr dz (za (pv 0) (za ze zc)))) (zd (zbd (zP zl1 (pv 1) ze (nomark _)) (zm (zD (zC zbO (zp zt hr dz (za (pv 0) (za ze zc))) ze))) zX) (zd (zbd (zP zl1 (pv 1) ze (nomark _)) (zm (zD (zC zbO (zp zt hr dz (za (pv 0) (za ze zc))) ze))) zX) (zm (zD (zC zaZ (zC zbO (zp zt hr dz (za (pv 0) (za (zC zaZ ze (zC zhD ze ze)) zc))) (zC zhD ze ze)) (zC zhD ze ze))))))),(by walk_at "r"),fun xs S R q=>q⟩
theorem znc:Df P w K mg base "_law_few" ["pen","most"] 4 (spN ["pen","most"] zdL):=by
 exact Df.dN dd.a42 zbS 5 rfl fun f cdv A outer s H E hr=>⟨_,_,(zd (zu (i:=2) zbS.nd rfl lo (zp zcN hr dz (za (pv 0) zc))) (zd (zdb (i:=3) (fun _ _ h=>h) rfl (zR rfl rfl rfl rfl (N:=["k","pen"]) (caps:=[none,some 0]) (by show zaN ["pen","most","names","wides","drawing","k","low"] (zf zgk).names _ _ _=true; decide +kernel)) zbS.nd rfl rfl (zaq rfl T.n_range (za (zC zE ze (zp zt hr dz (za (pv 0) (za (pv 1) zc)))) zc)) (fun _ _ _ _=>(zv (i:=0) (by show List.Nodup (["k","pen"]:List Str); decide) rfl (Or.inl rfl))) (fun _ _ _ _=>zaC) (fun _ _ _ _=>(zC zE ze (zp zt hr dz (za (pv 1) (za ze zc)))))) (zd (zbd (zP (zb0 hr.units) (zp zt hr dz (za (pv 0) (za ze zc))) ze (nomark _)) (zm (zu (i:=3) zbS.nd rfl lo (zI zw (zay (za (zC zaZ (zay (za ze zc)) ze) (za (zay (za ze (za ze zc))) (za (zay (za ze zc)) (za (zC zaZ (zay (za ze zc)) ze) zc))))) (zp zt hr dz (za (pv 0) (za ze zc))) (fun _ _=>rfl)))) zX) (zd (zu (i:=4) zbS.nd rfl lo (zay zc)) (zd (zbw PassesOwn.never rfl (zaq rfl T.n_range (za (zx zae (by rfl) T.n_len zbA (za (pv 3) zc)) zc)) (zv (i:=5) zbS.nd rfl (Or.inl rfl)) (zd (zu (i:=6) zbS.nd rfl lo (zp zdT hr dz (za (pv 0) zc))) (zm (za6 (zdR PySem.F.plainAttrs_list PySem.F.slot_list_append PySem.F.type_list_append za9 (pv 4) (za (zU (za (zI zw (pv 2) (pv 5) (fun _ _=>rfl)) (za (pv 6) (za (zC zbO (zC zE (pv 6) (zI zw (pv 3) (pv 5) (fun _ _=>rfl))) ze) zc)))) zc)))))) (zm (zD (zW zG (by rfl) T.n_tuple zat (za (pv 4) zc))))))))),(zQ (by walk_at "r") (zQ (zaz (zaQ (zce (zg (zaf zcJ zN (za2 (i:=0) (zg zk (zg zk zr)))) zr)) zy zaB (zaf zcJ zN (za2 (i:=0) (zg zk (zg zN zr))))) zy) (by walk_at "r"))),fun xs S R q=>q⟩
theorem ziw:Df P w K mg base "_law_span_of" ["pen"] 4 (spN ["pen"] zb5):=by
 exact Df.dN dd.a43 zbY 2 rfl fun f cdv A outer s H E hr=>⟨_,_,(zd (zu (i:=1) zbY.nd rfl lo (zp zdT hr dz (za (pv 0) zc))) (zd (zu (i:=2) zbY.nd rfl lo (zp zt hr dz (za (pv 0) (za ze zc)))) (zd (zbd (zP (zb0 hr.units) (zp zt hr dz (za (pv 0) (za ze zc))) ze (nomark _)) (zm (zu (i:=2) zbY.nd rfl lo (zp zt hr dz (za (pv 0) (za (zC zhD ze ze) zc))))) zX) (zm (zD (zU (za (pv 1) (za (zC zE (pv 1) (pv 2)) zc)))))))),(by walk_at "r"),fun xs S R q=>q⟩
theorem zdu:Df P w K mg base "_law_drawing_of" ["pen","most"] 5 (spN ["pen","most"] zbo):=by
 exact Df.dN dd.a44 zbe 3 rfl fun f cdv A outer s H E hr=>⟨_,_,(zd (zu (i:=2) zbe.nd rfl lo (zp zcN hr dz (za (pv 0) zc))) (zd (zu (i:=3) zbe.nd rfl lo (zay zc)) (zd (zbw PassesOwn.never rfl (zaq rfl T.n_range (za (zC zE ze (zp zt hr dz (za (pv 0) (za (pv 1) zc)))) zc)) (zv (i:=4) zbe.nd rfl (Or.inl rfl)) (zm (za6 (zdR PySem.F.plainAttrs_list PySem.F.slot_list_append PySem.F.type_list_append za9 (pv 3) (za (zC zE (zU (za (zI zw (pv 2) (pv 4) (fun _ _=>rfl)) zc)) (zp ziw hr dz (za (pv 0) zc))) zc))))) (zm (zD (zW zG (by rfl) T.n_tuple zat (za (pv 3) zc))))))),(by walk_at "r"),fun xs S R q=>q⟩
theorem zfK:DfH P w K mg base "rows_with_whys" ["sizes","why_of"] 8 (6+1) ["beginning"] zbp:=by
 exact zsu dd.a45 zaF 4 rfl fun F ql f cdv A outer s H E hr LA=>⟨_,_,(zd (zu (i:=2) zaF.nd rfl lo (zay zc)) (zd (zu (i:=3) zaF.nd rfl lo (zay (za (zU zc) zc))) (zd (zoV PassesOwn.never (zbq (pv 3) (fun _=>rfl)) (zd (zu (i:=4) zaF.nd rfl lo (zqi PySem.F.plainAttrs_list PySem.F.slot_list_pop PySem.F.type_list_pop zt2 (pv 3))) (zd (zu (i:=5) zaF.nd rfl lo (zl2 LA hr dz (pv 1) (za (pv 4) zc))) (zm (zbd (zP zlb (pv 5) zdA (nomark _)) (zm (za6 (zdR PySem.F.plainAttrs_list PySem.F.slot_list_append PySem.F.type_list_append za9 (pv 2) (za (zU (za (pv 4) (za (pv 5) zc))) zc)))) (zm (zbd (zP (zb0 hr.units) (zx zae (by rfl) T.n_len zbA (za (pv 4) zc)) (zx zae (by rfl) T.n_len zbA (za (pv 0) zc)) (nomark _)) (zm (zD zdA)) (zm (za6 (zdR PySem.F.plainAttrs_list PySem.F.slot_list_extend PySem.F.type_list_extend zgw (pv 3) (za (zp zew hr dz (za (zay (za (pv 4) zc)) (za (zpm rfl rfl T.n_list rfl T.n_range (za (zC zbO (zI zw (pv 0) (zx zae (by rfl) T.n_len zbA (za (pv 4) zc)) (fun _ _=>rfl)) ze) (za (ze5 zcS ze) (za (ze5 zcS ze) zc)))) zc))) zc))))))))))) (zm (zD (pv 2)))))),(by walk_at "r"),fun xs S R q=>q⟩
theorem zkn:Df P w K mg base "narrowest" ["drawing","offers","beginning"] 2 (spN ["drawing","offers","beginning"] zdh):=by
 exact Df.dN dd.a46 zfp 1 rfl fun f cdv A outer s H E hr=>⟨_,_,(zd (zdb (i:=3) (fun _ _ h=>h) rfl (zR (L:=0) rfl rfl rfl rfl (N:=["size"]) (caps:=[none]) (by show zaN ["drawing","offers","beginning","lasts"] (zf zer).names _ _ _=true; decide +kernel)) zfp.nd rfl rfl (zaW (zp zcm hr dz (za (pv 1) zc))) (fun _ _ _ _=>(zv (i:=0) (by show List.Nodup (["size"]:List Str); decide) rfl (Or.inl rfl))) (fun _ _ _ _=>zaC) (fun _ _ _ _=>(zC zbO (pv 0) ze))) (zm (zD (zp zeA hr dz (za (pv 0) (za (pv 1) (za (zC zE (pv 2) (zW zG (by rfl) T.n_tuple zat (za (zbD zgf (pv 3) (zb6 (zx zae (by rfl) T.n_len zbA (za (pv 2) zc))) zcM) zc))) zc))))))),(zQ (zaz (zaQ (zb3 (zan (zg zk zr))) zy zaB (zaf zr5 zk zN)) zy) (by walk_at "r")),fun xs S R q=>q⟩
theorem znL:Df P w K mg base "why_not" ["job","offers","price","beginning"] 6 (spN ["job","offers","price","beginning"] zeG):=by
 exact Df.dN dd.a47 zhg 1 rfl fun f cdv A outer s H E hr=>⟨_,_,(zd (zbd (zP zsN (zp ze6 hr dz (za (pv 1) (za (pv 3) zc))) (pv 2) (nomark _)) (zm (zD (zU (za za1 zc)))) zX) (zd (zu (i:=4) zhg.nd rfl lo (zp zjv hr dz (za (zU (za (zp zkn hr dz (za (zI zw (pv 0) ze (fun _ _=>rfl)) (za (pv 1) (za (pv 3) zc)))) (za (zI zw (pv 0) ze (fun _ _=>rfl)) zc))) zc))) (zm (zD (zll (zP zgr (pv 4) zdA (nomark _)) zdA (zU (za za1 (za (zI zw (pv 4) ze (fun _ _=>rfl)) (za (zI zw (pv 4) ze (fun _ _=>rfl)) zc))))))))),(by walk_at "r"),fun xs S R q=>q⟩
theorem zlN:DfX P w K mg base "floor_of" ["job","offers","price"] 11 (spX ["job","offers","price"] zcl):=by
 obtain⟨c,P',hc,ht⟩:=ll.l_floor_of;exact zmk dd.a48 hc zgn 1 rfl fun f A outer s H E EX hr=>⟨_,_,(zd (zqz (zu (i:=3) zgn.nd rfl lo (zp zcm hr dz (za (pv 1) zc)))) (zd (za6 (zqq zcU pass1 hr dz (za (PE.nox (pv 3)) zc))) (PSs.nox (zm (zD (zpQ (kl:=6) (pl:=["beginning"]) (caps:=["job","offers","price"]) (ks:=[0,1,2]) zfK hr dz rfl rfl rfl rfl rfl (by show zfg ["job","offers","price","sizes"] (zf zdV).names _ _ _ _=true; decide +kernel) (fun _ _ _ _ us hl=>by obtain⟨_,rfl⟩:=L2.len1 hl; rfl) (fun cl f c' A outer s H hr=>(zp znL hr dz (za (pv 1) (za (pv 2) (za (pv 3) (za (pv 0) zc)))))) (zan (zg zk (zg zk (zg zk (zg zk zr))))) (za (pv 3) (za (zsW (pl:=["beginning"]) (caps:=["job","offers","price"]) (ks:=[0,1,2]) ht rfl rfl rfl (by show zfg ["job","offers","price","sizes"] (zf zdV).names _ _ _ _=true; decide +kernel) rfl) zc)))))))),(zlt (zgg (by walk_at "r")) (zlt (zmL (zkK (znx (zg zk zr)))) (zgg (zaJ (zm0 zk))))),fun xs S R q=>q⟩
theorem zlO:DfN P w K mg base "_law_kind" ["e"] 1 (spN ["e"] zch):=by
 exact DfN.dN dd.a49 zcC 2 rfl fun f cdv A outer s H hr=>⟨_,_,(zd (zu (i:=1) zcC.nd rfl lo (zfV (zac (zx zbN (by rfl) T.n_isinstance zK (za (pv 0) (za (zcz (v:=.ref 37) rfl xx.m_NoSpan rfl) zc))) (zac (zx zbN (by rfl) T.n_isinstance zK (za (pv 0) (za (zcz (v:=.ref 49) rfl xx.m_NoPart rfl) zc))) (zac (zx zbN (by rfl) T.n_isinstance zK (za (pv 0) (za (zcz (v:=.ref 61) rfl xx.m_NoSet rfl) zc))) (zac (zx zbN (by rfl) T.n_isinstance zK (za (pv 0) (za (zcz (v:=.ref 161) rfl xx.m_NoText rfl) zc))) zd7)))))) (zd (zu (i:=1) zcC.nd rfl lo (zC zE (pv 1) (zfV (zac (zx zbN (by rfl) T.n_isinstance zK (za (pv 0) (za (zcz (v:=.ref 73) rfl xx.m_NoRow rfl) zc))) (zac (zx zbN (by rfl) T.n_isinstance zK (za (pv 0) (za (zcz (v:=.ref 85) rfl xx.m_Unlike rfl) zc))) (zac (zx zbN (by rfl) T.n_isinstance zK (za (pv 0) (za (zcz (v:=.ref 104) rfl xx.m_NoDrawing rfl) zc))) (zac (zx zbN (by rfl) T.n_isinstance zK (za (pv 0) (za (zcz (v:=.ref 123) rfl xx.m_NoGap rfl) zc))) zd7))))))) (zd (zu (i:=1) zcC.nd rfl lo (zC zE (pv 1) (zay (za (zx zbN (by rfl) T.n_isinstance zK (za (pv 0) (za (zcz (v:=.ref 142) rfl xx.m_NoOffer rfl) zc))) (za (zx zbN (by rfl) T.n_isinstance zK (za (pv 0) (za (zcz (v:=.ref 180) rfl xx.m_TooGreat rfl) zc))) zc))))) (zd (zbd (PW.pt (zkl (zfn (zbq (zx zbN (by rfl) T.n_isinstance zK (za (pv 0) (za (zeZ rfl T.n_ValueError zit (v:=.ty "ValueError") rfl) zc))) (fun _=>rfl))) (zhw (zP (zmu hr.units) (zdR PySem.F.plainAttrs_list PySem.F.slot_list_count PySem.F.type_list_count znd (pv 1) (za zij zc)) ze (nomark _))))) (zm (zD za1)) zX) (zd (zu (i:=2) zcC.nd rfl lo (zfV (zac za1 (zac za1 (zac za1 (zac za1 (zac za1 (zac za1 (zac za1 (zac za1 (zac za1 (zac za1 zd7)))))))))))) (zm (zD (zI zw (pv 2) (zdR PySem.F.plainAttrs_list PySem.F.slot_list_index PySem.F.type_list_index (zjk hr.units) (pv 1) (za zij zc)) (fun _ _=>rfl))))))))),(zQ (zaz (zjq (zg (zbH (zdm xx.ex) (by walk_at "r")) (zg (zbH (zdm xx.ex) (by walk_at "r")) (zg (zbH (zdm xx.ex) (by walk_at "r")) (zg (zbH (zdm xx.ex) (by walk_at "r")) zr))))) zy) (zQ (zaz (zaf zcJ zk (zjq (zg (zbH (zdm xx.ex) (by walk_at "r")) (zg (zbH (zdm xx.ex) (by walk_at "r")) (zg (zbH (zdm xx.ex) (by walk_at "r")) (zg (zbH (zdm xx.ex) (by walk_at "r")) zr)))))) zy) (zQ (zaz (zaf zcJ zk (zjq (zg (zbH (zdm xx.ex) (by walk_at "r")) (zg (zbH (zdm xx.ex) (by walk_at "r")) zr)))) zy) (zQ (zfJ (zjc (zd8 (zdz (zbH (zdm xx.ex) (by walk_at "r")))) (zov (zaf zk8 (zkW zlD zk (zg zjT zr)) zN))) (zaJ zhv) zcv) (zQ (by walk_at "r") (zaJ (zaf zcE zk (zkW ziW zk (zg zjT zr))))))))),fun xs S R q=>q⟩
theorem zeK:Df P w K mg base "_law_refused" ["way","job","offers"] 12 (spN ["way","job","offers"] zaV):=by
 exact Df.dN dd.a50 zbl 3 rfl fun f cdv A outer s H E hr=>⟨_,_,(zd (zu (i:=3) zbl.nd rfl lo ze) (zd (zbw PassesOwn.never rfl (zaW (pv 2)) (zv (i:=4) zbl.nd rfl (Or.inl rfl)) (zm (zu (i:=3) zbl.nd rfl lo (zC zaZ (pv 3) (zx zae (by rfl) T.n_len zbA (za (pv 4) zc)))))) (zd (zrN (i:=5) (fun _ _ z=>z) rfl rfl zbl.nd rfl rfl rfl xx.m_GaugeError xx.c_GaugeError (zuD (fun _ _ z=>z) (zP (zb0 hr.units) (pv 0) ze (nomark _)) (znE (ztD zlU hr dz (fun _ _ z=>z) (za (pv 1) (za (pv 2) zc)))) (znE (ztD zlN hr dz (fun _ _ z=>z) (za (pv 1) (za (pv 2) (za ze zc)))))) (fun _=>(zd (zbd (PW.pt (zkl (zP (zmu hr.units) (zj3 zlO (hr.suite _) dz (za (pv 5) zc)) za1 (nomark _)) (zkl (zfn (zbq (zj3 zgc (hr.suite _) dz (za (zo2 (pv 5) rfl) zc)) (fun _=>rfl))) (zhw (zfn (zbq (zj3 zgc (hr.suite _) dz (za (zo2 (pv 5) rfl) zc)) (fun _=>rfl))))))) (zm (zD zij)) zX) (zm (zD (zjp (zdP zi1 (pv 3) ze (nomark _)) (zjp (zdP (zb0 hr.units) (zo2 (pv 5) rfl) (pv 3) (nomark _)) (zkZ (zdP (zb0 hr.units) (zo2 (pv 5) rfl) ze (nomark _)))))))))) (zm (zD (zdP zrr (pv 3) ze (nomark _))))))),(zQ (zaz zN zy) (zQ (by walk_at "r") (zQ (zpF (zov (zaf zfA zk zN)) (zmA xx.ex rfl znv (fun _ _ _ _=>rfl) (zg zk (zg zk zr)) (zQ (zfJ (zjc (zov (zaf zk8 (zlc rfl (zg zk zr)) zhv)) (zjc (zd8 (zdz (zan (zg (zjg xx.a_many zk) zr)))) (zd8 (zdz (zan (zg (zjg xx.a_most zk) zr)))))) (zaJ zjT) zcv) (zaJ (zgd (zaf zpd zk zN) (zgd (zaf zfA (zjg xx.a_many zk) zk) (zaf zfA (zjg xx.a_most zk) zN)))))) (zmA xx.ex rfl znv (fun _ _ _ _=>rfl) (zg zk (zg zk (zg zN zr))) (zQ (zfJ (zjc (zov (zaf zk8 (zlc rfl (zg zk zr)) zhv)) (zjc (zd8 (zdz (zan (zg (zjg xx.a_many zk) zr)))) (zd8 (zdz (zan (zg (zjg xx.a_most zk) zr)))))) (zaJ zjT) zcv) (zaJ (zgd (zaf zpd zk zN) (zgd (zaf zfA (zjg xx.a_many zk) zk) (zaf zfA (zjg xx.a_most zk) zN))))))) (by walk_at "r")))),fun xs S R q=>q⟩
theorem ok_law{f:Addr}{fd:FuncData}(F:Fun K "law" "law" s_law f fd):FnOk P w K mg base CX0 13 f fd ["script"] (sp1 (zuw K)):=by
 refine F.ok1 zcT (fun v=>[some v,none,none,none,none,none,none,none,none,none]) (fun _=>rfl) fun cdv A outer s H v Q E hr h=>?_;obtain⟨a,ns,rfl,hS,hlen,q⟩:=h;refine⟨_,(zd (zbw PassesOwn.never rfl (zrW (zC zoe (zay (za (zqp zeM hr dz (pv 0) ze) zc)) (zbD zof (pv 0) (zb6 ze) (zb6 ze)))) (zv (i:=1) zcT.nd rfl (Or.inl rfl)) (zd (zu (i:=2) zcT.nd rfl lo (zp zfs hr dz (za (pv 1) zc))) (zd (zu (i:=3) zcT.nd rfl lo (zll (zP (zb0 hr.units) (zp zt hr dz (za (pv 2) (za ze zc))) ze (nomark _)) (zp znc hr dz (za (pv 2) (za ze zc))) (zp zdu hr dz (za (pv 2) (za ze zc))))) (zd (zu (i:=3) zcT.nd rfl lo (zbD zkh (pv 3) zcM (zb6 ze))) (zd (zbd (zP (zb0 hr.units) (zp zt hr dz (za (pv 2) (za ze zc))) ze (nomark _)) (zm (zu (i:=3) zcT.nd rfl lo (zp zdu hr dz (za (pv 2) (za ze zc))))) zX) (zd (zu (i:=4) zcT.nd rfl lo (zp zgR hr dz (za (pv 2) (za (pv 3) zc)))) (zd (zbd (zP zi1 (zx zae (by rfl) T.n_len zbA (za (pv 3) zc)) ze (nomark _)) (zm (zu (i:=4) zcT.nd rfl lo (zW zG (by rfl) T.n_tuple zat (za (zbu (fun _ _ h=>h) rfl (zR (L:=0) rfl rfl rfl rfl (N:=["some"]) (caps:=[none]) (by show zaN ["script","cell","pen","drawing","offers","gaps","due","wide","more","job"] (zf s_law).names _ _ _=true; decide +kernel)) (zaW (pv 4)) (fun _ _ _ _=>(zv (i:=0) (by show List.Nodup (["some"]:List Str); decide) rfl (Or.inl rfl))) (fun _ _ _ _=>zaC) (fun _ _ _ _=>(zbD (zo7 (K:=K) rfl) (pv 0) zcM (zb6 ze)))) zc)))) zX) (zd (zu (i:=5) zcT.nd rfl lo (zp zgJ hr dz (za (pv 2) (za (pv 3) (za (pv 4) (za ze zc)))))) (zd (zu (i:=6) zcT.nd rfl lo (zp ziz hr dz (za (pv 3) (za (pv 5) (za (pv 4) zc))))) (zm (zbd (zfn (zbq (zp zgL hr dz (za (zU (za (pv 3) (za (pv 5) zc))) (za (pv 4) (za (pv 6) zc)))) (fun _=>rfl))) (zm (zD zij)) zX))))))))))) (zmD (zd2 (zp zh0 hr dz (za (zp zfs hr dz (za (zqp zeM hr dz (pv 0) ze) zc)) zc)) (zcw (n:=2) rfl (zL (zv (i:=7) zcT.nd rfl (Or.inl rfl)) (zL (zv (i:=8) zcT.nd rfl (Or.inl rfl)) zbt)))) (zmr (zrp (i:=9) zcT.nd rfl (Or.inl rfl) (zjw (zuH (QE.mk (pv 7)) (zo8 (zjw (zo8 (zjw (zo8 (zjw (zo8 (zjw (zrg (QE.mk ze) (zrg (QE.mk ze) zd7))) zd7)) (zoS (QE.mk (ze5 zcS ze)) (zrg (QE.mk ze) zd7)))) zd7)) zd7)))) (QSs.mk (zd (zbd (PW.pt (zkl (zfn (zbq (zp zeK hr dz (za ze (za (pv 9) (za (pv 8) zc)))) (fun _=>rfl))) (zhw (zfn (zbq (zp zeK hr dz (za ze (za (pv 9) (za (pv 8) zc)))) (fun _=>rfl)))))) (zm (zD zij)) zX) (zm (zD (zp zgL hr dz (za (zU (za (pv 3) (za (pv 5) zc))) (za (pv 4) (za (pv 6) zc))))))))))),?_⟩;refine zo0 (m:=9) (J:=zq1 a) (db:=zrm) (zQ (zaz (zan (zg zk zr)) zy) (zQ (zaz (zsi (zov (zaf zfA (za2 (i:=0) (zg zk (zg zN zr))) zN)) (za2 (i:=0) (zg zk (zg zN zr))) (za2 (i:=0) (zg zk (zg zN zr)))) zy) (zQ (zaz (znT zki zk zgB (zgb zN)) zy) (zQ (zfJ (zov (zaf zfA (za2 (i:=0) (zg zk (zg zN zr))) zN)) (zaz (za2 (i:=0) (zg zk (zg zN zr))) zy) zcv) (zQ (zaz (za2 (i:=0) (zg zk (zg zk zr))) zy) (zQ (zfJ (zov (zaf zpd (zbH zeq (zg zk zr)) zN)) (zaz (zbH zc2 (zg (zaQ (zb3 zk) zy zaB (znT zki zk zgB (zgb zN))) zr)) zy) zcv) (zQ (zaz (za2 (i:=0) (zg zk (zg zk (zg zk (zg zN zr))))) zy) (zQ (zaz (zan (zg zk (zg zk (zg zk zr)))) zy) (zfJ (zd8 (zdz (zan (zg (zcr (zg zk (zg zk zr))) (zg zk (zg zk zr)))))) (zaJ zjT) zcv))))))))) rfl rfl hS hlen (fun n=>zj1 a n) dz fun σ1 H1 δ2 s1 hJ he z0 z1=>?_;dsimp only;exact zpH (K:=K) (a:=a) (ns:=ns) (i:=3) (dt:=zic) (fun te n hre=>(zQ (zaz (za2 (i:=0) (zg (zan (zg hre zr)) zr)) (zf5 (zbi zy (zbi zy zek)))) (zQ (zaz (zcr (zg zk (zg (zcr (zg (zcr (zg (zcr (zg (zcr (zg zN (zg zN zr))) zr)) (zg (zq0 zuj zN) (zg zN zr)))) zr)) zr))) zy) (zQ (zfJ (zjc (zd8 (zdz (zan (zg zN (zg zk (zg zk zr)))))) (zd8 (zdz (zan (zg zN (zg zk (zg zk zr))))))) (zaJ zjT) zcv) (zaJ (zan (zg (zcr (zg zk (zg zk zr))) (zg zk (zg zk zr))))))))) (fun _ _ _ _=>rfl) rfl dz z0 (s1.seq hS) he (zkc a δ2 hJ) q
end
end My
theorem zdU:L2.tabsG=[((294,292),L2.lamKey (("cheapest" ++ ".<locals>.") ++ "<lambda>") ⟨107,26,0,0⟩),((322,318),L2.lamKey (("floor_of" ++ ".<locals>.") ++ "<lambda>") ⟨125,33,0,0⟩)]:=rfl
namespace PySem.W.Fast
def tw1818726521466072176:Unit:=()
def tw15174626802521466813:Unit:=()
def tw366397888645245336:Unit:=()
def tw16874289555660304875:Unit:=()
def tw158238739564592018:Unit:=()
def tw2096846335121260312:Unit:=()
def tw4667348428225956882:Unit:=()
def tw14840413345477044167:Unit:=()
def tw6061385949522678350:Unit:=()
def tw14363195351203396075:Unit:=()
def tw5749579389617222890:Unit:=()
def tw17200410794064383360:Unit:=()
def tw4978193110667446256:Unit:=()
def tw11452696003830813736:Unit:=()
def tw1346797392797413456:Unit:=()
def tw7057788607617038646:Unit:=()
def tw18227887487802809064:Unit:=()
def tw10988849119738770892:Unit:=()
def tw12748658497005220840:Unit:=()
def tw6025848771715835755:Unit:=()
def tw13993583560946069564:Unit:=()
def tw5144851206733892569:Unit:=()
def tw9312221958395150967:Unit:=()
def tw11323795051892856934:Unit:=()
def tw17985329694512721005:Unit:=()
def tw12808162878334945417:Unit:=()
def tw3148109011955739084:Unit:=()
def tw7234174439892657248:Unit:=()
def tw6082690034300669925:Unit:=()
def tw10832867150793897405:Unit:=()
def tw3700565172604127762:Unit:=()
def tw8545403725965275051:Unit:=()
def tw4787491676220060156:Unit:=()
def tw9767621666671641651:Unit:=()
def tw17811462683508499853:Unit:=()
def tw2489942713069649089:Unit:=()
def tw1452399433065055510:Unit:=()
def tw5557960339137740340:Unit:=()
def tw723013315435720380:Unit:=()
def tw5756012805562207904:Unit:=()
def tw8137379663741797987:Unit:=()
def tw2995474516188343923:Unit:=()
def tw298625654628712542:Unit:=()
def tw13436103719630884450:Unit:=()
def tw3164325992266941757:Unit:=()
def tw4005848705174663933:Unit:=()
def tw4918461685704856575:Unit:=()
def tw14002757573056815316:Unit:=()
def tw10893122153951824:Unit:=()
def tw7219718439778357315:Unit:=()
def tw10794781038549890548:Unit:=()
def tw6874270553714918033:Unit:=()
def tw15261705652999341681:Unit:=()
def tw5927928191374332741:Unit:=()
def tw460234869896589813:Unit:=()
def tw2370449219953108045:Unit:=()
def tw1581445853805906626:Unit:=()
def tw17017427309274128535:Unit:=()
def tw9557129722839439961:Unit:=()
def tw9980616749630467753:Unit:=()
def tw7174904584546235830:Unit:=()
def tw13824532257271643675:Unit:=()
def tw4870953444330791837:Unit:=()
def tw5271851308403923900:Unit:=()
def tw1251677891802676034:Unit:=()
def tw7114121992225960395:Unit:=()
def tw424596607993631340:Unit:=()
def tw16689704434649670347:Unit:=()
def tw15203354353559412776:Unit:=()
def tw8993360572178368445:Unit:=()
def tw11481212776959202089:Unit:=()
def tw15463235752474129313:Unit:=()
def tw11755227380955017695:Unit:=()
def tw13295563568629404710:Unit:=()
def tw17746543677806858423:Unit:=()
def tw12453129595212269087:Unit:=()
def tw14412866815037059198:Unit:=()
def tw17535888024762567206:Unit:=()
def tw7109530421898356719:Unit:=()
def tw4576865497873921113:Unit:=()
def tw12223003132994659302:Unit:=()
def tw11012281574831360407:Unit:=()
def tw12881122669773267400:Unit:=()
def tw8950035033925683403:Unit:=()
def tw18234663527984367568:Unit:=()
def tw16510009814661268093:Unit:=()
def tw17342322114758803333:Unit:=()
def tw2967617217115639694:Unit:=()
def tw18024650283099493114:Unit:=()
def tw3081134688979429136:Unit:=()
def tw18282536856333894339:Unit:=()
def tw9223300399970865703:Unit:=()
def tw1593639731349887137:Unit:=()
def tw1021704698410117773:Unit:=()
def tw1975362592034520576:Unit:=()
def tw5460992652095690198:Unit:=()
def tw11308821483944317942:Unit:=()
def tw16236709567555986486:Unit:=()
def tw3718136979524717482:Unit:=()
def tw12294387399390395510:Unit:=()
def tw8801119610967043041:Unit:=()
def tw11758451031409551429:Unit:=()
def tw12912384275890421833:Unit:=()
def tw3124143394227355318:Unit:=()
def tw12607122262537105196:Unit:=()
def tw130831805562225847:Unit:=()
def tw6194565066782125074:Unit:=()
def tw15735751848053197921:Unit:=()
def tw9542732115286672952:Unit:=()
def tw10122539700956379208:Unit:=()
def tw17424124044863795210:Unit:=()
def tw7525786245071433868:Unit:=()
def tw10466125767941100598:Unit:=()
def tw14901625559043177017:Unit:=()
def tw9621819641155012622:Unit:=()
def tw12658403021912484381:Unit:=()
def tw657857906534708539:Unit:=()
def tw8242655412475548202:Unit:=()
def tw11620013533732421593:Unit:=()
def tw17443013813208091771:Unit:=()
def tw17660019278931404488:Unit:=()
def tw9628204097608318554:Unit:=()
def tw2440962843151070388:Unit:=()
def tw4173376089991375873:Unit:=()
def tw11240080824776321117:Unit:=()
def tw15211005683720508858:Unit:=()
def tw9337050663582815015:Unit:=()
def tw11481859457784996441:Unit:=()
def tw12001207073193984110:Unit:=()
def tw13449319019019912294:Unit:=()
def tw7709028497834074927:Unit:=()
def tw11220994826511008411:Unit:=()
def tw6568225000598897910:Unit:=()
def tw14352509598729880874:Unit:=()
def tw5570239660497213229:Unit:=()
def tw16670214576056194401:Unit:=()
def tw15217654860013939928:Unit:=()
def tw17361422942814689124:Unit:=()
def tw8014836452134625919:Unit:=()
def tw7219277938158723945:Unit:=()
def tw13479177027484644887:Unit:=()
def tw5489804953677140617:Unit:=()
def tw4454259829625174745:Unit:=()
def tw15291484304031953213:Unit:=()
def tw15340294031594893741:Unit:=()
def tw15066510776178476919:Unit:=()
def tw18090856719306797028:Unit:=()
def tw12048899862339226588:Unit:=()
def tw17092861464668629328:Unit:=()
def tw6522823394497054408:Unit:=()
def tw8820689387949019479:Unit:=()
def tw735887151819999675:Unit:=()
def tw489503104263028725:Unit:=()
def tw789982868788483553:Unit:=()
def tw15732109313867773385:Unit:=()
def tw8170665783919869338:Unit:=()
def tw17944687302541753736:Unit:=()
def tw7876335973886102998:Unit:=()
def tw3855204289183648297:Unit:=()
def tw13068412624176755674:Unit:=()
def tw15339836437031376393:Unit:=()
def tw5336598169859179749:Unit:=()
def tw13907863990079675915:Unit:=()
def tw14662121470057698656:Unit:=()
def tw10900628286405849355:Unit:=()
def tw2524483437589665165:Unit:=()
def tw15894525645004609905:Unit:=()
def tw13542910964201062152:Unit:=()
def tw6216041110346547916:Unit:=()
def tw7514523629582149359:Unit:=()
def tw5349667680887763620:Unit:=()
def tw3876133941555028987:Unit:=()
def tw16349300842810138841:Unit:=()
def tw7340379175869502971:Unit:=()
def tw18380692037785536832:Unit:=()
def tw7448761447080220885:Unit:=()
def tw8776190021275572054:Unit:=()
def tw1306811332834633254:Unit:=()
def tw1898895941848807278:Unit:=()
def tw643130463599157393:Unit:=()
def tw13492560320254035664:Unit:=()
def tw8847726662067625500:Unit:=()
def tw5682482416210554423:Unit:=()
def tw14926840968847933987:Unit:=()
def tw9140262831390534356:Unit:=()
def tw14840243875703253241:Unit:=()
def tw9408382832220980254:Unit:=()
def tw5125023864529282795:Unit:=()
def tw17924188787638557237:Unit:=()
def tw9113111016068299757:Unit:=()
def tw12025078530733168960:Unit:=()
def tw5040862817559376987:Unit:=()
def tw15090246604108982107:Unit:=()
def tw17024487488053385556:Unit:=()
def tw7649897448946669643:Unit:=()
def tw10080185604973193539:Unit:=()
def tw6730712786392780706:Unit:=()
def tw9141301069361328694:Unit:=()
def tw1023834461052513867:Unit:=()
def tw4658793399797573496:Unit:=()
def tw16755930792756113894:Unit:=()
def tw17222430615406448301:Unit:=()
def tw12389945562368940889:Unit:=()
def tw3711577414189303885:Unit:=()
def tw7748548337767187766:Unit:=()
def tw14078785337196953833:Unit:=()
def tw8556170998703866742:Unit:=()
def tw5203305999056719913:Unit:=()
def tw17299193037334059135:Unit:=()
def tw11683664634738322949:Unit:=()
def tw11630612793757269284:Unit:=()
def tw16214482653504040090:Unit:=()
def tw12471933999342767149:Unit:=()
def tw10646274120151611162:Unit:=()
def tw11336566753739044408:Unit:=()
def tw13715670725235202981:Unit:=()
end PySem.W.Fast
open PySem PySem.W PyProof.Rows L2
set_option maxRecDepth 100000 in
set_option maxHeartbeats 0 in
theorem PySem.Challenge.cw_gaugewright_k38_cheapest_choices_holds : PySem.Challenge.rw_gaugewright_k38_cheapest_choices.Holds := by
 w_on; o_law; k_head; (case hw=>w_witness2)
 k_fill
 refine L2.walk_law (l := PySem.Challenge.rw_gaugewright_k38_cheapest_choices) (k := 13) rfl rfl ⟨rfl, by decide, by decide⟩ (fun w h Y => W.km_in_of Y) ?TT ?F
 case TT =>
  intro w h Y;have KX:=W.km_in_of Y;have t8:=W.km_tabs_of Y;refine⟨?nd,?hd,?em,?of⟩
  case nd=>rw [zdU]; show ([292,318]:List Nat).Nodup; decide
  case hd=>rw [zdU]; exact forall_mem_cons.mpr ⟨W.codeHd_of_K (c:=294) (P:=292) KX (by kernel_rfl),forall_mem_cons.mpr ⟨W.codeHd_of_K (c:=322) (P:=318) KX (by kernel_rfl),fun _ h=>nomatch h⟩⟩
  case em=>rw [zdU]; exact forall_mem_cons.mpr ⟨t8 292 (by k_mem),forall_mem_cons.mpr ⟨t8 318 (by k_mem),fun _ h=>nomatch h⟩⟩
  case of=>rw [zdU]; exact forall_mem_cons.mpr ⟨(by kernel_rfl),forall_mem_cons.mpr ⟨(by kernel_rfl),fun _ h=>nomatch h⟩⟩
 case F =>
  intro w mg fa h KX G hmg;have d_law:Dd (L2.KOf KX) mg "law" My.s_law ["script"]:=by
   dsimp only [L2.KOf];refine' Dd.mk' KX G ?a ?l ?c ?k ?b
   (case a=>k_is); (case l=>k_is); (case c=>k_is); (case k=>k_is); (case b=>intro _ _ _ _ _ _ us hl; obtain⟨_,rfl⟩:=L2.len1 hl; rfl)
  have g14:∃ t,mg "MOST_CHOICES" = some (.int 300 t):=by
   apply Exists.intro;apply W.mg_of KX G
   k_is
  have T:My.Txt mg:=by
   refine' ⟨W.mg_none_of KX G ?z0,W.mg_none_of KX G ?z1,W.mg_none_of KX G ?z2,W.mg_none_of KX G ?z3,W.mg_none_of KX G ?z4,W.mg_none_of KX G ?z5,W.mg_none_of KX G ?z6,W.mg_none_of KX G ?z7,W.mg_none_of KX G ?z8,W.mg_none_of KX G ?z9,W.mg_none_of KX G ?z10,W.mg_none_of KX G ?z11,W.mg_none_of KX G ?z12,W.mg_none_of KX G ?z13,g14⟩
   (case z0=>k_is); (case z1=>k_is); (case z2=>k_is); (case z3=>k_is); (case z4=>k_is); (case z5=>k_is); (case z6=>k_is); (case z7=>k_is); (case z8=>k_is); (case z9=>k_is); (case z10=>k_is); (case z11=>k_is); (case z12=>k_is); (case z13=>k_is)
  have m24:mg "GaugeError" = some (.ref 24):=by
   apply W.mg_of KX G
   k_is
  have c24:L2.ExCls (L2.KOf KX) 24 none:=by
   apply L2.exc_of_in;dsimp only [L2.KOf,L2.veB]
   k_exc
  have m37:mg "NoSpan" = some (.ref 37):=by
   apply W.mg_of KX G
   k_is
  have k37:L2.ExK (L2.KOf KX) 37:=by
   dsimp only [L2.KOf];refine' L2.ExK.mk' ?a ?b ?c ?d ?e ?f
   (case a=>k_is); (case b=>k_is); (case c=>k_is); (case d=>k_is); (case e=>k_is); (case f=>rfl)
  have c37:L2.ExCls (L2.KOf KX) 37 none:=by
   apply L2.exc_of_in;dsimp only [L2.KOf,L2.veB]
   k_exc
  have m49:mg "NoPart" = some (.ref 49):=by
   apply W.mg_of KX G
   k_is
  have k49:L2.ExK (L2.KOf KX) 49:=by
   dsimp only [L2.KOf];refine' L2.ExK.mk' ?a ?b ?c ?d ?e ?f
   (case a=>k_is); (case b=>k_is); (case c=>k_is); (case d=>k_is); (case e=>k_is); (case f=>rfl)
  have c49:L2.ExCls (L2.KOf KX) 49 none:=by
   apply L2.exc_of_in;dsimp only [L2.KOf,L2.veB]
   k_exc
  have m61:mg "NoSet" = some (.ref 61):=by
   apply W.mg_of KX G
   k_is
  have k61:L2.ExK (L2.KOf KX) 61:=by
   dsimp only [L2.KOf];refine' L2.ExK.mk' ?a ?b ?c ?d ?e ?f
   (case a=>k_is); (case b=>k_is); (case c=>k_is); (case d=>k_is); (case e=>k_is); (case f=>rfl)
  have c61:L2.ExCls (L2.KOf KX) 61 none:=by
   apply L2.exc_of_in;dsimp only [L2.KOf,L2.veB]
   k_exc
  have m73:mg "NoRow" = some (.ref 73):=by
   apply W.mg_of KX G
   k_is
  have k73:L2.ExK (L2.KOf KX) 73:=by
   dsimp only [L2.KOf];refine' L2.ExK.mk' ?a ?b ?c ?d ?e ?f
   (case a=>k_is); (case b=>k_is); (case c=>k_is); (case d=>k_is); (case e=>k_is); (case f=>rfl)
  have c73:L2.ExCls (L2.KOf KX) 73 none:=by
   apply L2.exc_of_in;dsimp only [L2.KOf,L2.veB]
   k_exc
  have m85:mg "Unlike" = some (.ref 85):=by
   apply W.mg_of KX G
   k_is
  have k85:L2.ExK (L2.KOf KX) 85:=by
   dsimp only [L2.KOf];refine' L2.ExK.mk' ?a ?b ?c ?d ?e ?f
   (case a=>k_is); (case b=>k_is); (case c=>k_is); (case d=>k_is); (case e=>k_is); (case f=>rfl)
  have c85:L2.ExCls (L2.KOf KX) 85 none:=by
   apply L2.exc_of_in;dsimp only [L2.KOf,L2.veB]
   k_exc
  have m104:mg "NoDrawing" = some (.ref 104):=by
   apply W.mg_of KX G
   k_is
  have k104:L2.ExK (L2.KOf KX) 104:=by
   dsimp only [L2.KOf];refine' L2.ExK.mk' ?a ?b ?c ?d ?e ?f
   (case a=>k_is); (case b=>k_is); (case c=>k_is); (case d=>k_is); (case e=>k_is); (case f=>rfl)
  have m123:mg "NoGap" = some (.ref 123):=by
   apply W.mg_of KX G
   k_is
  have k123:L2.ExK (L2.KOf KX) 123:=by
   dsimp only [L2.KOf];refine' L2.ExK.mk' ?a ?b ?c ?d ?e ?f
   (case a=>k_is); (case b=>k_is); (case c=>k_is); (case d=>k_is); (case e=>k_is); (case f=>rfl)
  have m142:mg "NoOffer" = some (.ref 142):=by
   apply W.mg_of KX G
   k_is
  have k142:L2.ExK (L2.KOf KX) 142:=by
   dsimp only [L2.KOf];refine' L2.ExK.mk' ?a ?b ?c ?d ?e ?f
   (case a=>k_is); (case b=>k_is); (case c=>k_is); (case d=>k_is); (case e=>k_is); (case f=>rfl)
  have m161:mg "NoText" = some (.ref 161):=by
   apply W.mg_of KX G
   k_is
  have k161:L2.ExK (L2.KOf KX) 161:=by
   dsimp only [L2.KOf];refine' L2.ExK.mk' ?a ?b ?c ?d ?e ?f
   (case a=>k_is); (case b=>k_is); (case c=>k_is); (case d=>k_is); (case e=>k_is); (case f=>rfl)
  have m180:mg "TooGreat" = some (.ref 180):=by
   apply W.mg_of KX G
   k_is
  have k180:L2.ExK (L2.KOf KX) 180:=by
   dsimp only [L2.KOf];refine' L2.ExK.mk' ?a ?b ?c ?d ?e ?f
   (case a=>k_is); (case b=>k_is); (case c=>k_is); (case d=>k_is); (case e=>k_is); (case f=>rfl)
  have sp:L2.SpK (L2.KOf KX):=by
   dsimp only [L2.KOf];refine' ⟨?a,?b⟩
   (case a=>k_is); (case b=>k_is)
  have i37:∃ ini,L2.ExCls (L2.KOf KX) 37 ini:=⟨_,c37⟩;have i49:∃ ini,L2.ExCls (L2.KOf KX) 49 ini:=⟨_,c49⟩;have i61:∃ ini,L2.ExCls (L2.KOf KX) 61 ini:=⟨_,c61⟩;have i73:∃ ini,L2.ExCls (L2.KOf KX) 73 ini:=⟨_,c73⟩;have i85:∃ ini,L2.ExCls (L2.KOf KX) 85 ini:=⟨_,c85⟩;have i104:∃ ini,L2.ExCls (L2.KOf KX) 104 ini:=by
   apply Exists.intro;refine' L2.exc_ofI ?l ?o ?s ?i c24
   (case l=>dsimp only [L2.KOf]; k_is); (case o=>dsimp only [L2.KOf]; k_is); (case s=>rfl); (case i=>dsimp only [L2.KOf]; k_is)
  have i123:∃ ini,L2.ExCls (L2.KOf KX) 123 ini:=by
   apply Exists.intro;refine' L2.exc_ofI ?l ?o ?s ?i c24
   (case l=>dsimp only [L2.KOf]; k_is); (case o=>dsimp only [L2.KOf]; k_is); (case s=>rfl); (case i=>dsimp only [L2.KOf]; k_is)
  have i142:∃ ini,L2.ExCls (L2.KOf KX) 142 ini:=by
   apply Exists.intro;refine' L2.exc_ofI ?l ?o ?s ?i c24
   (case l=>dsimp only [L2.KOf]; k_is); (case o=>dsimp only [L2.KOf]; k_is); (case s=>rfl); (case i=>dsimp only [L2.KOf]; k_is)
  have i161:∃ ini,L2.ExCls (L2.KOf KX) 161 ini:=by
   apply Exists.intro;refine' L2.exc_ofI ?l ?o ?s ?i c24
   (case l=>dsimp only [L2.KOf]; k_is); (case o=>dsimp only [L2.KOf]; k_is); (case s=>rfl); (case i=>dsimp only [L2.KOf]; k_is)
  have i180:∃ ini,L2.ExCls (L2.KOf KX) 180 ini:=by
   apply Exists.intro;refine' L2.exc_ofI ?l ?o ?s ?i c24
   (case l=>dsimp only [L2.KOf]; k_is); (case o=>dsimp only [L2.KOf]; k_is); (case s=>rfl); (case i=>dsimp only [L2.KOf]; k_is)
  have n180_many:L2.NoAttr (L2.KOf KX) 180 "many":=by
   unfold L2.NoAttr;dsimp only [L2.KOf]
   k_is
  have n180_most:L2.NoAttr (L2.KOf KX) 180 "most":=by
   unfold L2.NoAttr;dsimp only [L2.KOf]
   k_is
  have e180:L2.ExI (L2.KOf KX) 180:=by
   refine' ⟨k180,?b,?c⟩
   (case b=>dsimp only [L2.KOf]; k_is); (case c=>dsimp only [L2.KOf]; k_is)
  have r180:L2.XI (L2.KOf KX) 180 ["many","most"] "TooGreat.__init__" My.s_I_TooGreat:=by
   refine' L2.XI.mk' ?l ?o ?s ?i c24 ?t ?f ?c ?k ?b ?kc k180 e180.hd e180.sa ?na
   (case l=>dsimp only [L2.KOf]; k_is); (case o=>dsimp only [L2.KOf]; k_is); (case s=>rfl); (case i=>dsimp only [L2.KOf]; k_is); (case t=>dsimp only [L2.KOf]; k_is); (case f=>dsimp only [L2.KOf]; k_is); (case c=>dsimp only [L2.KOf]; k_is); (case k=>dsimp only [L2.KOf]; k_is); (case b=>intro _ _ _ _ _ _ us hl; obtain⟨_,_,_,rfl⟩:=L2.len3 hl; rfl); (case kc=>dsimp only [L2.KOf]; k_is)
   (case na=>intro a m; simp only [mem_cons,not_mem_nil,or_false] at m; rcases m with rfl | rfl <;> assumption)
  have a_many:L2.ExsI (L2.KOf KX) [180] "many":=by
   refine⟨fun C m=>?_,fun C m=>?_⟩
   ·simp only [mem_cons,not_mem_nil,or_false] at m;rcases m with rfl <;> assumption
   ·simp only [mem_cons,not_mem_nil,or_false] at m;rcases m with rfl <;> assumption
  have a_most:L2.ExsI (L2.KOf KX) [180] "most":=by
   refine⟨fun C m=>?_,fun C m=>?_⟩
   ·simp only [mem_cons,not_mem_nil,or_false] at m;rcases m with rfl <;> assumption
   ·simp only [mem_cons,not_mem_nil,or_false] at m;rcases m with rfl <;> assumption
  have ex:L2.Exs (L2.KOf KX):=by
   refine⟨sp,fun C m=>?_,fun C m=>?_,fun C m=>?_⟩
   ·simp only [L2.excs,mem_cons,not_mem_nil,or_false] at m;rcases m with rfl | rfl | rfl | rfl | rfl | rfl | rfl | rfl | rfl | rfl <;> assumption
   ·simp only [L2.exc0,mem_cons,not_mem_nil,or_false] at m;rcases m with rfl | rfl | rfl | rfl | rfl <;> assumption
   ·simp only [L2.excs,mem_cons,not_mem_nil,or_false] at m;rcases m with rfl | rfl | rfl | rfl | rfl | rfl | rfl | rfl | rfl | rfl <;> assumption
  have xx:My.Exx (L2.KOf KX) mg:=⟨ex,m24,m37,m49,m61,m73,m85,m104,m123,m142,m161,m180,c24,c37,c49,c61,c73,c85,r180,a_many,a_most⟩;have dd:My.Dds (L2.KOf KX) mg:=by constructor <;> (dsimp only [L2.KOf]; refine' Dd.mk' KX G ?a ?l ?c ?k ?b; (case a=>k_is); (case l=>k_is); (case c=>k_is); (case k=>k_is); (case b=>(intro _ _ _ _ _ _ us hl; first | (obtain⟨_,rfl⟩:=L2.len1 hl; rfl) | (obtain⟨_,_,rfl⟩:=L2.len2 hl; rfl) | (obtain⟨_,_,_,rfl⟩:=L2.len3 hl; rfl) | (obtain⟨_,_,_,_,rfl⟩:=L2.len4 hl; rfl))))
  obtain⟨f,fd,F,hm,_⟩:=d_law.ex;have e0:=hmg.symm.trans hm;cases e0;have ll:My.Lams (L2.KOf KX) mg:=⟨⟨294,292,L2.CodeAt.of (P:=292) KX G (by dsimp only [L2.KOf]; kernel_rfl),by rw [zdU]; exact mem_cons_self⟩,⟨322,318,L2.CodeAt.of (P:=318) KX G (by dsimp only [L2.KOf]; kernel_rfl),by rw [zdU]; exact mem_cons_of_mem _ (mem_cons_self)⟩⟩;exact⟨fd,F.bind1 fun _ _ _ _ _ _ _=>rfl,fun base _ _=>My.ok_law T dd xx ll F⟩
#print axioms PySem.Challenge.cw_gaugewright_k38_cheapest_choices_holds
end