import PyProof.Rows.All
import Wide.All
import OpenK.AllK
import Wide.FinOn
import Lean
import PyProof.EqAt
import PyProof.EqKinds
import PyProof.TupleCall
import KE.KTupSum
import KE.KSortTup
import PyProof.SetKind
import PyProof.SetRoads
import PyProof.SetNew
import PyProof.DictKinds
import PyProof.NsDelKeeps
import PyProof.StrWalks
import KE.KEqDict
import KE.KDictList
import PyProof.AttrMissSeq
import PyProof.WalksMore
import KE.KDictOf
import PyProof.Rows.Range3
import KE.KItemsList
import PyProof.FactsAll.dict_3
import KE.KMinKey
import PyProof.Rows.CallKwBuiltin
import PyProof.TupleOfSeq
import KE.KLam
import KE.KNestM
import PySem.Challenge.RW_gaugewright_k67_filings_gone_through
open Option (isSome_iff_exists map_eq_some_iff map_some)
open Nat (le_add_right le_of_eq le_of_lt le_refl le_succ le_trans lt_irrefl lt_of_lt_of_le lt_or_ge lt_succ_of_lt mul_comm mul_le_mul ne_of_gt ne_of_lt pow_succ succ_mul succ_ne_self zero_add zero_le)
open List (all_cons all_eq_true all_map append_assoc append_nil cons_append drop_length drop_zero eq_nil_of_length_eq_zero filterMap_cons flatten_cons forIn_cons forIn_nil forall_mem_cons getD_eq_getElem?_getD getElem?_append_left getElem?_append_right getElem?_concat_length getElem?_cons_succ getElem?_cons_zero getElem?_eq_getElem getElem?_map getElem?_replicate getElem?_set getElem?_set_ne getElem?_set_self getElem?_zip_eq_some getElem_mem length_append length_cons length_drop length_map length_nil length_range length_set length_singleton length_take lookup_cons map_append map_cons map_eq_nil_iff map_map map_nil mem_append mem_append_left mem_append_right mem_cons mem_cons_of_mem mem_cons_self mem_filter mem_iff_getElem? mem_map mem_map_of_mem mem_of_getElem? mem_of_mem_drop mem_range mem_reverse mem_singleton nil_append nodup_append nodup_cons nodup_nil not_mem_nil of_mem_zip replicate_succ reverse_cons set_cons_succ set_cons_zero size_toArray sum_append sum_cons take_add_one take_length take_of_length_le take_zero zip_cons_cons)
open PySem.Heap (get?_push_of_some get?_push_size get?_update_ne get?_update_other get?_update_self lt_size size_push size_update)
open Array (length_toList)
theorem dz{p:Prop}[Decidable p](h:decide p=true:=by rfl):p:=of_decide_eq_true h
set_option Elab.async false
set_option linter.all false
set_option maxRecDepth 100000
set_option maxHeartbeats 8000000
noncomputable section
namespace L2
open PySem PySem.Spec PyProof.Rows
section
abbrev Key:=Sum Int Str
def zrT:Key->Value->Bool
 | .inl k,v=>Value.isInt k v
 | .inr x,v=>Value.isStrOf x v
def zuQ(w:World):Key->Int
 | .inl k=>hashInt k
 | .inr x=>hashStr w x
theorem zaM:∀ {k:Key} {v:Value},zrT k v=true->(∃ i t,k=Sum.inl i/\v=Value.int i t)\/(∃ x t,k=Sum.inr x/\v=Value.str x t)
 | .inl i,v,h=>by
  obtain⟨t,e⟩:=Value.isInt_shape (k:=i) (v:=v) h;exact .inl ⟨i,t,rfl,e⟩
 | .inr x,v,h=>by
  obtain⟨t,e⟩:=Value.isStrOf_shape (x:=x) (v:=v) h;exact .inr ⟨x,t,rfl,e⟩
theorem zrB(a b:Int):decide ((Sum.inl a:Key)=Sum.inl b)=(a == b):=by
 by_cases e:a=b
 ·subst e; simp
 ·have h:¬ (Sum.inl a:Key)=Sum.inl b:=fun q=>e (Sum.inl.inj q);rw [decide_eq_false h];exact(beq_eq_false_iff_ne.mpr e).symm
theorem zr4(a b:Str):decide ((Sum.inr a:Key)=Sum.inr b)=decide (a=b):=by
 by_cases e:a=b
 ·subst e; simp
 ·have h:¬ (Sum.inr a:Key)=Sum.inr b:=fun q=>e (Sum.inr.inj q);rw [decide_eq_false h,decide_eq_false e]
theorem ztf(a:Int)(b:Str):decide ((Sum.inl a:Key)=Sum.inr b)=false:=decide_eq_false (fun q=>nomatch q)
theorem zsW(a:Str)(b:Int):decide ((Sum.inr a:Key)=Sum.inl b)=false:=decide_eq_false (fun q=>nomatch q)
def zje(prog:Program)(w:World):PySem.KeyKind prog w Key where
 is:=zrT
 hash:=zuQ w
 inj:=fun v a b ha hb=>by
  rcases zaM ha with ⟨i,t,rfl,rfl⟩ | ⟨x,t,rfl,rfl⟩
  ·rcases zaM hb with ⟨j,u,rfl,e⟩ | ⟨y,u,rfl,e⟩
   ·injection e with e1 _; rw [e1]
   ·exact nomatch e
  ·rcases zaM hb with ⟨j,u,rfl,e⟩ | ⟨y,u,rfl,e⟩
   ·exact nomatch e
   ·injection e with e1 _; rw [e1]
 byValue:=fun k v h=>by
  rcases zaM h with ⟨i,t,rfl,rfl⟩ | ⟨x,t,rfl,rfl⟩ <;> rfl
 pyHash:=fun hv h=>by
  rcases zaM hv with ⟨i,t,rfl,rfl⟩ | ⟨x,t,rfl,rfl⟩
  ·exact wpAny_pyHash_int h
  ·exact wpAny_pyHash_str h
 eqBool:=fun hu hv h=>by
  rcases zaM hu with ⟨i,t,rfl,rfl⟩ | ⟨x,t,rfl,rfl⟩
  ·rcases zaM hv with ⟨j,u,rfl,rfl⟩ | ⟨y,u,rfl,rfl⟩
   ·rw [zrB] at h; exact wpAny_eqBool_int h
   ·rw [ztf] at h; exact SeqAt.EqAt.int_str i t y u _ _ _ _ h
  ·rcases zaM hv with ⟨j,u,rfl,rfl⟩ | ⟨y,u,rfl,rfl⟩
   ·rw [zsW] at h; exact SeqAt.EqAt.str_int x t j u _ _ _ _ h
   ·rw [zr4] at h; exact wpAny_eqBool_str h
 «strs»:=fun k x t v h=>by
  rcases zaM h with ⟨i,u,rfl,e⟩ | ⟨y,u,rfl,e⟩
  ·exact nomatch e
  ·injection e with e1 _
   subst e1;cases v <;> rfl
end
section
inductive V where
 | non | bl (b:Bool) | int (i:Int) | str (x:Str) | byt (b:Array UInt8) | flt (b:UInt64) | ref (a:Addr) | ty (n:String)
 deriving DecidableEq
def RelV:V->Value->Prop
 | .non,u=>u=Value.none
 | .bl b,u=>u=Value.bool b
 | .int i,u=>∃ t,u=Value.int i t
 | .str x,u=>∃ t,u=Value.str x t
 | .byt b,u=>∃ t,u=Value.bytes b t
 | .flt b,u=>∃ t,u=Value.float b t
 | .ref a,u=>u=Value.ref a
 | .ty n,u=>u=Value.type n
abbrev Vals:List V->List Value->Prop:=Paired RelV
theorem Vals.length{xs:List V}{us:List Value}(r:Vals xs us):xs.length=us.length:=Paired.length r
theorem Vals.get:∀ {xs:List V} {us:List Value} {i:Nat} {x:V},Vals xs us->xs[i]? = some x->∃ u,us[i]? = some u/\RelV x u
 | _,_,_,_,.nil,e=>by simp at e
 | _,_,0,_,.cons r _,e=>by simp at e; subst e; exact⟨_,rfl,r⟩
 | _,_,i+1,x,.cons _ t,e=>by
  obtain⟨u,h1,h2⟩:=Vals.get (i:=i) (x:=x) t (by simpa using e);exact⟨u,by simpa using h1,h2⟩
theorem Vals.set{x:V}{u:Value}(r:RelV x u):∀ {xs:List V} {us:List Value} (i:Nat),Vals xs us->Vals (xs.set i x) (us.set i u)
 | _,_,_,.nil=>.nil
 | _,_,0,.cons _ t=>.cons r t
 | _,_,i+1,.cons q t=>.cons q (Vals.set r i t)
theorem Vals.append:∀ {xs ys:List V} {us ws:List Value},Vals xs us->Vals ys ws->Vals (xs++ys) (us++ws)
 | _,_,_,_,.nil,s=>s
 | _,_,_,_,.cons r t,s=>.cons r (Vals.append t s)
theorem Vals.take:∀ {xs:List V} {us:List Value} (n:Nat),Vals xs us->Vals (xs.take n) (us.take n)
 | _,_,0,_=>.nil
 | _,_,_+1,.nil=>.nil
 | _,_,n+1,.cons r t=>.cons r (Vals.take n t)
theorem Vals.drop:∀ {xs:List V} {us:List Value} (n:Nat),Vals xs us->Vals (xs.drop n) (us.drop n)
 | _,_,0,r=>r
 | _,_,_+1,.nil=>.nil
 | _,_,n+1,.cons _ t=>Vals.drop n t
def RelO:Option V->Option Value->Prop
 | some v,some u=>RelV v u
 | none,none=>True
 | _,_=>False
def KV{κ:Type}:List (κ×V)->List (κ×Value)->Prop:=Paired fun(p:κ×V) (q:κ×Value)=>p.1=q.1/\RelV p.2 q.2
def kV:Key->V
 | .inl i=>.int i
 | .inr x=>.str x
inductive HO where
 | lst (xs:List V)
 | tup (xs:List V)
 | dK (kvs:List (Key×V)) | dT (kvs:List (List Key×V))
 | set (S:Int->Bool) (n:Nat)
 | ins (C dx:Addr) (fs:List (Str×V))
 | own (x:Addr)
 | xd (fs:List (Str×V))
 | met (f x:Addr)
 | rng (lo hi:Int)
 | frz (o:Obj) (u:HO)
 | tbl (ps:Array Value)
 | ext (φ:Heap->Prop)
abbrev Hp:=Addr->Option HO
def upd(H:Hp)(a:Addr)(o:HO):Hp:=fun b=>if b=a then some o else H b
theorem zZ{H:Hp}{a:Addr}{o:HO}:upd H a o a=some o:=by unfold upd; rw [if_pos rfl]
theorem zI{H:Hp}{a b:Addr}{o:HO}(h:b≠a):upd H a o b=H b:=by unfold upd; rw [if_neg h]
theorem zqa{H:Hp}{a:Addr}{o u:HO}:upd (upd H a o) a u=upd H a u:=by
 funext b; unfold upd; split <;> rfl
theorem zE{H:Hp}{a b:Addr}{o:HO}(h:H a=some o)(h':H b=none):a≠b:=by
 intro e; subst e; rw [h] at h'; cases h'
def TblOk(H:Hp)(ps qs:Array Value):Prop:=qs = #[]\/∃ (l c:Value) (q:Str) (t:Tok) (k:Addr) (oc:Obj) (vs:Array Value) (t':Tok),ps = #[l,c,.str q t]/\qs = #[l,c,.ref k]/\H k=some (.frz oc (.own 0))/\oc.data=.fields vs/\vs[1]? = some (.str q t')
theorem TblOk.stay{H H':Hp}{ps qs:Array Value}(x:TblOk H ps qs)(hf:∀ b o u,H b=some (.frz o u)->H' b=some (.frz o u)):TblOk H' ps qs:=by
 rcases x with x | ⟨l,c,q,t,k,oc,vs,t',e1,e2,e3,r⟩
 ·exact .inl x
 ·exact .inr ⟨l,c,q,t,k,oc,vs,t',e1,e2,hf _ _ _ e3,r⟩
section
variable (P:Program) (w:World)
def ObjOk(H:Hp)(h:Heap)(a:Addr):HO->Prop
 | .lst xs=>xs.length<=sizeLine/\∃ (its:List Value) (n:Nat),Vals xs its/\h.get? a=some { cls:=.type "list",data:=.seq its.toArray n }
 | .tup xs=>(xs.length<=sizeLine/\∃ o:Obj,h.get? a=some o/\o.dict=none)/\∃ its:List Value,Vals xs its/\IsTup h a its.toArray
 | .dK kvs=>kvs.length<=sizeLine/\(a == sysModules)=false/\∃ vs,KV kvs vs/\h.DictOf (zje P w) a vs
 | .dT kvs=>kvs.length<=sizeLine/\(a == sysModules)=false/\∃ xs:List (List Key×Addr×Value),
   Paired (fun(p:List Key×V) (q:List Key×Addr×Value)=>p.1=q.1/\H q.2.1=some (.tup (p.1.map kV))/\RelV p.2 q.2.2) kvs xs /\
   ∃ o es ep,h.get? a=some o/\o.ExactDict/\o.data=.dict es ep/\es.toList=xs.map (entryOfKey (tupleKind (zje P w)))/\(xs.map (·.1)).Nodup
 | .set S n=>h.SetOf (intKind P w) a S n
 | .ins C dx fs=>H dx=some (.own a)/\fs.length<=1000/\dx≠a/\h.get? a=some (W.instObj C dx) /\
   ∃ mA,h.Ns1 dx mA/\(∀ f,RelO (fs.lookup f) (mA f))/\PySem.Within mA (fs.map (·.1))
 | .own _=>∃ o,h.get? a=some o
 | .xd fs=>∃ mA,h.Ns1 a mA/\∀ f,RelO (fs.lookup f) (mA f)
 | .rng lo hi=>∃ t u v,h.get? a=some { cls:=.type "range",data:=.fields #[.int lo t,.int hi u,.int 1 v] }
 | .frz o u=>h.get? a=some o/\ObjOk H h a u
 | .tbl ps=>∃ qs:Array Value,h.get? a=some { cls:=.none,data:=.fields qs }/\TblOk H ps qs
 | .met f x=>h.get? a=some (W.methodObj (.ref f) (.ref x))
 | .ext φ=>φ h/\(∃ o,h.get? a=some o)/\∀ h1 h2:Heap,φ h1->(∀ o,h1.get? a=some o->h2.get? a=some o)->φ h2
def HOk(H:Hp)(h:Heap):Prop:=∀ a o,H a=some o->ObjOk P w H h a o
end
section
variable {P:Program} {w:World} {H H':Hp} {h h':Heap} {a:Addr} {o:HO}
theorem ObjOk.lt(x:ObjOk P w H h a o):a<h.objs.size:=by
 cases o with
 | lst xs=>obtain⟨_,_,_,_,e⟩:=x; exact lt_size e
 | tup xs=>obtain⟨_,_,_,p⟩:=x; exact p.lt
 | dK kvs=>obtain⟨_,_,_,_,o,_,_,e,_⟩:=x; exact lt_size e
 | dT kvs=>obtain⟨_,_,_,_,o,_,_,e,_⟩:=x; exact lt_size e
 | set S n=>obtain⟨o,_,_,_,e,_⟩:=x; exact lt_size e
 | ins C dx fs=>obtain⟨_,_,_,e,_⟩:=x; exact lt_size e
 | own y=>obtain⟨_,e⟩:=x; exact lt_size e
 | xd fs=>obtain⟨_,⟨_,_,_,e,_⟩,_⟩:=x; exact lt_size e
 | rng lo hi=>obtain⟨_,_,_,e⟩:=x; exact lt_size e
 | frz ob u=>obtain⟨e,_⟩:=x; exact lt_size e
 | tbl ps=>obtain⟨_,e,_⟩:=x; exact lt_size e
 | met f y=>exact lt_size (show h.get? a=some _ from x)
 | ext φ=>obtain⟨_,⟨_,e⟩,_⟩:=x; exact lt_size e
theorem Paired.mapP{α β:Type}{F G:α->β->Prop}:∀ {l₁:List α} {l₂:List β},Paired F l₁ l₂->(∀ a b,F a b->G a b)->Paired G l₁ l₂
 | _,_,.nil,_=>.nil
 | _,_,.cons r t,f=>.cons (f _ _ r) (Paired.mapP t f)
theorem ObjOk.stay(x:ObjOk P w H h a o)(k:∀ b u,(b=a\/H b=some (.own a))->h.get? b=some u->h'.get? b=some u)
  (ho:∀ b,H b=some (.own a)->H' b=some (.own a)) (ht:∀ b xs,H b=some (.tup xs)->H' b=some (.tup xs))
  (hf:∀ b o u,H b=some (.frz o u)->H' b=some (.frz o u):=by first | exact fun _ _ _ q=>q | (intro b o u q; rw [zI (zE q (by assumption))]; exact q)):ObjOk P w H' h' a o:=by
 induction o with
 | lst xs=>obtain⟨z,its,n,r,e⟩:=x; exact⟨z,its,n,r,k _ _ (.inl rfl) e⟩
 | tup xs=>obtain⟨⟨z,o2,e2,d2⟩,its,r,ob,e,c⟩:=x; exact⟨⟨z,o2,k _ _ (.inl rfl) e2,d2⟩,its,r,ob,k _ _ (.inl rfl) e,c⟩
 | dK kvs=>obtain⟨z,y,vs,r,ob,es,ep,e,c⟩:=x; exact⟨z,y,vs,r,ob,es,ep,k _ _ (.inl rfl) e,c⟩
 | dT kvs =>
  obtain⟨z,y,xs,r,ob,es,ep,e,c⟩:=x;exact⟨z,y,xs,Paired.mapP r fun p q z=>⟨z.1,ht _ _ z.2.1,z.2.2⟩,ob,es,ep,k _ _ (.inl rfl) e,c⟩
 | set S n=>obtain⟨ob,es,ep,t,e,c⟩:=x; exact⟨ob,es,ep,t,k _ _ (.inl rfl) e,c⟩
 | ins C dx fs =>
  obtain⟨d,z,ne,e,mA,⟨od,es,ep,e2,c⟩,r⟩:=x;exact⟨ho _ d,z,ne,k _ _ (.inl rfl) e,mA,⟨od,es,ep,k _ _ (.inr d) e2,c⟩,r⟩
 | own y=>obtain⟨ob,e⟩:=x; exact⟨ob,k _ _ (.inl rfl) e⟩
 | xd fs=>obtain⟨mA,⟨od,es,ep,e,c⟩,r⟩:=x; exact⟨mA,⟨od,es,ep,k _ _ (.inl rfl) e,c⟩,r⟩
 | rng lo hi=>obtain⟨t,u,v,e⟩:=x; exact⟨t,u,v,k _ _ (.inl rfl) e⟩
 | frz ob u ih=>obtain⟨e,q⟩:=x; exact⟨k _ _ (.inl rfl) e,ih q⟩
 | tbl ps =>
  obtain⟨qs,e,q⟩:=x;exact⟨qs,k a _ (.inl rfl) e,q.stay hf⟩
 | met f y =>
  have e:h.get? a=some (W.methodObj (.ref f) (.ref y)):=x;show h'.get? a=some (W.methodObj (.ref f) (.ref y));exact k a _ (.inl rfl) e
 | ext φ=>obtain⟨p,⟨o,e⟩,st⟩:=x; exact⟨st _ _ p fun o q=>k _ _ (.inl rfl) q,⟨o,k _ _ (.inl rfl) e⟩,st⟩
theorem HOk.lt(x:HOk P w H h)(e:H a=some o):a<h.objs.size:=(x a o e).lt
theorem HOk.fresh(x:HOk P w H h)(e:h.objs.size<=a):H a=none:=by
 cases q:H a with
 | none=>rfl
 | some u=>exact absurd (lt_of_lt_of_le (x.lt q) e) (lt_irrefl _)
theorem HOk.kept(x:HOk P w H h)(k:∀ b u,h.get? b=some u->h'.get? b=some u):HOk P w H h':=fun a o e =>
 (x a o e).stay (fun b u _ q=>k b u q) (fun _ q=>q) fun _ _ q=>q
theorem HOk.laid(x:HOk P w H h)(k:∀ b u,h.get? b=some u->h'.get? b=some u)(hp:h.objs.size<=a)(new:ObjOk P w (upd H a o) h' a o):HOk P w (upd H a o) h':=fun b u e=>by
 have hn:=x.fresh hp;by_cases hb:b=a
 ·subst hb; rw [zZ] at e; cases e; exact new
 ·rw [zI hb] at e;exact(x b u e).stay (fun c v _ q=>k c v q) (fun c q=>by rw [zI (zE q hn)]; exact q) fun c xs q=>by rw [zI (zE q hn)]; exact q
end
def Rd(H:Hp)(a:Addr)(u:HO):Prop:=H a=some u\/∃ o,H a=some (.frz o u)
theorem Rd.ok{P:Program}{w:World}{H:Hp}{h:Heap}{a:Addr}{u:HO}(r:Rd H a u)(x:HOk P w H h):ObjOk P w H h a u:=by
 rcases r with r | ⟨o,r⟩
 ·exact x a u r
 ·obtain⟨_,q⟩:=x a _ r;exact q
def Mut:Option HO->Prop
 | some (.lst _)=>True
 | some (.dK _)=>True
 | some (.dT _)=>True
 | some (.set _ _)=>True
 | some (.ins _ _ _)=>True
 | some (.ext _)=>True
 | _=>False
section
variable {P:Program} {w:World} {H:Hp} {h h':Heap} {x e:Addr} {o':HO}
theorem HOk.write(ok:HOk P w H h)(mu:Mut (H x))(he:e=x\/H e=some (.own x))(k:∀ b u,b≠e->h.get? b=some u->h'.get? b=some u)(heo:∃ u,h'.get? e=some u)
  (new:ObjOk P w (upd H x o') h' x o'):HOk P w (upd H x o') h':=fun b u q=>by
 have nown:∀ c y,H c=some (.own y)->c≠x:=fun c y r z=>by subst z; rw [r] at mu; exact mu
 have ntup:∀ c xs,H c=some (.tup xs)->c≠x:=fun c xs r z=>by subst z; rw [r] at mu; exact mu
 have nfrz:∀ c o u,H c=some (.frz o u)->c≠x:=fun c o u r z=>by subst z; rw [r] at mu; exact mu
 by_cases hb:b=x
 ·subst hb; rw [zZ] at q; cases q; exact new
 ·rw [zI hb] at q;by_cases hbe:b=e
  ·have q':H b=some (.own x):=by
    rcases he with z | z
    ·exact absurd (hbe.trans z) hb
    ·rw [hbe]; exact z
   rw [q] at q'; cases q';obtain⟨v,hv⟩:=heo;exact⟨v,by rw [hbe]; exact hv⟩
  ·refine(ok b u q).stay (fun c v hc r=>k c v ?_ r) (fun c r=>by rw [zI (nown c b r)]; exact r) (fun c xs r=>by rw [zI (ntup c xs r)]; exact r) fun c o u r=>by rw [zI (nfrz c o u r)]; exact r
   rcases hc with rfl | hc
   ·exact hbe
   ·rintro rfl;rcases he with z | z
    ·exact nown c b hc z
    ·rw [hc] at z; cases z; exact hb rfl
end
structure Un(fs ex:List Addr)(H H':Hp)(h h':Heap):Prop where
 keep:∀ b o,h.get? b=some o->H b=none->b∉fs->b∉ex->h'.get? b=some o
 slot:∀ b o,h.get? b=some o->H b=none->b∈fs->b∉ex->∃ sl,h'.get? b=some { o with slots:=sl }
 free:∀ b o,h.get? b=some o->H b=none->b∉ex->H' b=none
 there:∀ b o,h.get? b=some o->b∉ex->∃ o',h'.get? b=some o'
 tups:∀ b xs,H b=some (.tup xs)->H' b=some (.tup xs)
 frzs:∀ b o u,H b=some (.frz o u)->H' b=some (.frz o u)
 tbls:∀ b ps,H b=some (.tbl ps)->H' b=some (.tbl ps)
section
variable {fs fs' ex ex':List Addr} {H H1 H2:Hp} {h h1 h2 h':Heap} {a x e:Addr} {o:HO}
theorem Un.any(u:Un fs ex H H1 h h1){b:Addr}{ob:Obj}(q:h.get? b=some ob)(n:H b=none)(hx:b∉ex):∃ sl,h1.get? b=some { ob with slots:=sl }:=by
 by_cases hb:b∈fs
 ·exact u.slot b ob q n hb hx
 ·exact⟨ob.slots,u.keep b ob q n hb hx⟩
theorem Un.trans(a:Un fs ex H H1 h h1)(b:Un fs ex H1 H2 h1 h2):Un fs ex H H2 h h2 where
 keep:=fun c ob q n hc hx=>b.keep c ob (a.keep c ob q n hc hx) (a.free c ob q n hx) hc hx
 slot:=fun c ob q n hc hx=>by
  obtain⟨sl,e1⟩:=a.slot c ob q n hc hx;obtain⟨sl',e2⟩:=b.slot c _ e1 (a.free c ob q n hx) hc hx;exact⟨sl',e2⟩
 free:=fun c ob q n hx=>by
  obtain⟨o',e1⟩:=a.there c ob q hx;exact b.free c o' e1 (a.free c ob q n hx) hx
 there:=fun c ob q hx=>by
  obtain⟨o',e1⟩:=a.there c ob q hx;exact b.there c o' e1 hx
 tups:=fun c xs q=>b.tups c xs (a.tups c xs q)
 frzs:=fun c ob xs q=>b.frzs c ob xs (a.frzs c ob xs q)
 tbls:=fun c ps q=>b.tbls c _ (a.tbls c ps q)
theorem Un.kept(k:∀ b u,h.get? b=some u->h'.get? b=some u):Un fs ex H H h h' :=
 ⟨fun b ob q _ _ _=>k b ob q,fun b ob q _ _ _=>⟨ob.slots,k b ob q⟩,fun _ _ _ n _=>n,fun b ob q _=>⟨ob,k b ob q⟩,fun _ _ q=>q,fun _ _ _ q=>q,fun _ _ q=>q⟩
theorem Un.refl:Un fs ex H H h h:=Un.kept fun _ _ q=>q
theorem Un.laid(k:∀ b u,h.get? b=some u->h'.get? b=some u)(hp:h.objs.size<=a)(hn:H a=none):Un fs ex H (upd H a o) h h' where
 keep:=fun b u q _ _ _=>k b u q
 slot:=fun b u q _ _ _=>⟨u.slots,k b u q⟩
 free:=fun b u q n _=>by rw [zI (ne_of_lt (lt_of_lt_of_le (lt_size q) hp))]; exact n
 there:=fun b u q _=>⟨u,k b u q⟩
 tups:=fun b xs q=>by rw [zI (zE q hn)]; exact q
 frzs:=fun b u xs q=>by rw [zI (zE q hn)]; exact q
 tbls:=fun b ps q=>by rw [zI (zE q hn)]; exact q
theorem Un.write(mu:Mut (H x))(he:e=x\/H e=some (.own x))(k:∀ b u,b≠e->h.get? b=some u->h'.get? b=some u)(heo:∃ u,h'.get? e=some u):Un fs ex H (upd H x o) h h':=by
 have hx:∀ b,H b=none->b≠x:=fun b n z=>by subst z; rw [n] at mu; exact mu
 have hb:∀ b,H b=none->b≠e:=fun b n z=>by
  subst z;rcases he with r | r
  ·exact hx b n r
  ·rw [n] at r; cases r
 have hm:∀ b u,H b=some u->¬ Mut (some u)->b≠x:=fun b u q nm z=>by subst z; rw [q] at mu; exact nm mu
 refine⟨fun b u q n _ _=>k b u (hb b n) q,fun b u q n _ _=>⟨u.slots,k b u (hb b n) q⟩,fun b u q n _=>by rw [zI (hx b n)]; exact n,fun b u q _=>?_,
  fun b xs q=>by rw [zI (hm b _ q fun z=>z)]; exact q,fun b u xs q=>by rw [zI (hm b _ q fun z=>z)]; exact q,fun b ps q=>by rw [zI (hm b _ q fun z=>z)]; exact q⟩
 by_cases hbe:b=e
 ·subst hbe; exact heo
 ·exact⟨u,k b u hbe q⟩
theorem Un.mono(u:Un fs ex H H1 h h1)(hs:∀ b∈fs,b∈fs')(hx:∀ b∈ex,b∈ex'):Un fs' ex' H H1 h h1 :=
 ⟨fun b ob q n hb he=>u.keep b ob q n (fun z=>hb (hs b z)) fun z=>he (hx b z),fun _ _ q n _ he=>u.any q n fun z=>he (hx _ z),fun b ob q n he=>u.free b ob q n fun z=>he (hx b z),fun b ob q he=>u.there b ob q fun z=>he (hx b z),u.tups,u.frzs,u.tbls⟩
end
def trk(h:Heap)(H:Hp):List Addr:=(List.range h.objs.size).filter fun a=>(H a).isSome
def zoM(h:Heap)(H:Hp):Heap:=W.hideAll h (trk h H)
theorem zm9(h:Heap)(H:Hp):(zoM h H).objs.size=h.objs.size:=W.hideAll_size _ _
theorem zoK{h:Heap}{H:Hp}{b:Addr}{o:Obj}(e:h.get? b=some o)(n:H b=none):(zoM h H).get? b=some o :=
 W.hideAll_get _ e fun hm=>by
  have q:(H b).isSome=true:=(mem_filter.mp hm).2;rw [n] at q; simp at q
theorem zq9{h:Heap}{H:Hp}{b:Addr}{o:Obj}(e:(zoM h H).get? b=some o):h.get? b=some o/\H b=none:=by
 have e':h.get? b=some o:=W.of_hideAll (trk h H) e;refine⟨e',?_⟩;cases q:H b with
 | none=>rfl
 | some x =>
  have hm:b∈trk h H:=mem_filter.mpr ⟨mem_range.mpr (lt_size e'),by simp [q]⟩;have z:(zoM h H).get? b=none:=W.hideAll_none (trk h H) hm;rw [z] at e; cases e
def zqE(g h:Heap)(L:Addr):List (Addr×Obj):=(List.range h.objs.size).filterMap fun a=>if a=L\/(g.get? a).isSome=true then none else (h.get? a).map fun o=>(a,o)
def rest(g h:Heap)(L d:Addr):List (Addr×Obj):=(zqE g h L).filter fun p=>decide (p.1≠d)
end
section
def tabsG:List ((Addr×Addr)×Array Value):=[((324,320),#[rawInt ((123:Nat):Int),rawInt ((33:Nat):Int),.str (("bar_of" ++ ".<locals>.") ++ "<lambda>") 0]),((317,315),#[rawInt ((119:Nat):Int),rawInt ((26:Nat):Int),.str (("cheapest_filing" ++ ".<locals>.") ++ "<lambda>") 0])]
def BltAt(base:Heap)(mg:Str->Option Value):Prop:=∃ bm ob,mg "__builtins__" = some (.ref bm)/\bm≠builtinsNs/\base.get? bm=some ob/\ob.cls=.type "module"/\ob.dict=some builtinsNs/\ob.data=.plain
structure Frf(fs:List Addr)(H:Hp):Prop where
 free:∀ b∈fs,H b=none
 tab:∀ q∈tabsG,H q.1.2=some (.tbl q.2)
structure Mod(K:W.Frag)(mg:Str->Option Value)(base:Heap):Prop where
 kin:K.In base
 glob:base.Ns mainGlobals mg
 blt:∃ mb,base.Ns builtinsNs mb/\∀ x:Str,x ≠ "__name__"->mb x=bootBuiltins x
 nolimit:base.NoLimit
 bm:BltAt base mg
 hd:∀ q∈tabsG,W.CodeHd base q.1.1 q.1.2
structure Cx where
 prog:Program
 w:World
 K:W.Frag
 mg:Str->Option Value
 base:Heap
 A:Around
 N:List Str
 s₀:Shared
 H₀:Hp
 env:Env
 outer:List Env
 stack:List Env
 ex:List Addr
 fn:Str->Bool
 calm:Bool
 pn:List (Addr×Obj)
 xe:Value->Shared->Prop
def frs(l:List Env):List Addr:=l.filterMap (·.frame)
abbrev Cx.fs (X:Cx):List Addr:=frs X.outer
def Vis(sc:Scope)(x:Str):Prop:=sc.names.lookup x=some .local\/sc.names.lookup x=some .cell\/sc.names.lookup x=some .free
def Loc(sc:Scope)(x:Str):Prop:=sc.names.lookup x=some .local\/sc.names.lookup x=some .cell
def Look(env:Env)(h:Heap)(m:Str->Option Value)(x:Str)(u:Value):Prop :=
 (env.kindOf x=some .local/\m x=some u)\/((env.kindOf x=some .cell\/env.kindOf x=some .free)/\∃ c,env.cells.lookup x=some c/\h.IsCell c (some u))
structure Cx.Ok(X:Cx):Prop where
 mod:Mod X.K X.mg X.base
 kind:X.env.scope.kind=.function
 glob:X.env.globals=mainGlobals
 blt:X.env.builtins=builtinsNs
 above:X.s₀.heap.objs.size<=X.env.locals
 inj:∀ x y c,X.env.cells.lookup x=some c->X.env.cells.lookup y=some c->x=y
 has:∀ x,(X.env.kindOf x=some .cell\/X.env.kindOf x=some .free)->∃ c,X.env.cells.lookup x=some c
 cab:∀ x c,X.fn x=true->X.env.cells.lookup x=some c->X.s₀.heap.objs.size<=c
 hd:X.calm=true->X.A.handled=none
 frames:X.A.frames=some X.stack
 stk:X.stack=X.outer\/(X.stack=X.env :: X.outer/\X.env.frame=some X.env.locals)
 exf:∀ b∈X.ex,b≠X.env.locals/\∀ x c,X.env.cells.lookup x=some c->c≠b
 bs:∀ b o,X.base.get? b=some o->X.s₀.heap.get? b=some o/\X.H₀ b=none
 bsz:X.base.objs.size<=X.s₀.heap.objs.size
 noex:∀ b o,X.base.get? b=some o->b∉X.ex
 exfs:∀ b∈X.ex,b∉X.fs
 funs:X.s₀.heap.FunFrames X.base X.outer
 frf:Frf X.fs X.H₀
structure Inv(X:Cx)(zh:List (Addr×Obj))(σ:List (Option V))(H:Hp)(s:Shared):Prop where
 ok:X.Ok
 os:s.os=X.s₀.os
 bare:AllBare s.gens
 base:Un X.fs X.ex X.H₀ H X.s₀.heap s.heap
 loc:∃ m,s.heap.Ns X.env.locals m/\∀ (i:Nat) (x:Str) (v:V),X.N[i]? = some x->σ[i]? = some (some v)->Vis X.env.scope x->∃ u,RelV v u/\Look X.env s.heap m x u
 cell:∀ x c,X.env.cells.lookup x=some c->∃ v,s.heap.IsCell c v
 free:H X.env.locals=none
 freeC:∀ x c,X.env.cells.lookup x=some c->H c=none
 pin:∀ p∈X.pn++zh,s.heap.get? p.1=some p.2/\H p.1=none/\p.1≠X.env.locals/\p.1∉X.fs/\∀ v,p.2.data≠.cell v
 hok:HOk X.prog X.w H s.heap
 len:σ.length=X.N.length
section
variable {X:Cx} {zh:List (Addr×Obj)} {σ:List (Option V)} {H H':Hp} {s:Shared} {h':Heap}
theorem Cx.Ok.nofr(ok:X.Ok){b:Addr}{o:Obj}(e:X.base.get? b=some o):b∉X.fs:=fun hb=>by
 have:=(ok.funs.mem hb).1;rw [e] at this; cases this
theorem Inv.bs(I:Inv X zh σ H s):∀ b o,X.base.get? b=some o->s.heap.get? b=some o/\H b=none:=fun b o e =>
 ⟨I.base.keep b o (I.ok.bs b o e).1 (I.ok.bs b o e).2 (I.ok.nofr e) (I.ok.noex b o e),I.base.free b o (I.ok.bs b o e).1 (I.ok.bs b o e).2 (I.ok.noex b o e)⟩
theorem Inv.bk(I:Inv X zh σ H s):∀ b o,X.base.get? b=some o->s.heap.get? b=some o:=fun b o e=>(I.bs b o e).1
theorem Inv.mod(I:Inv X zh σ H s):Mod X.K X.mg X.base:=I.ok.mod
theorem Inv.kIn(I:Inv X zh σ H s):X.K.In s.heap:=I.ok.mod.kin.keeps I.bk
theorem Inv.lt(I:Inv X zh σ H s):X.env.locals<s.heap.objs.size:=let ⟨_,hn,_⟩:=I.loc; hn.lt
theorem Inv.sz(I:Inv X zh σ H s):X.s₀.heap.objs.size<=s.heap.objs.size:=le_trans I.ok.above (le_of_lt I.lt)
theorem Inv.nofs(I:Inv X zh σ H s){a:Addr}(h:s.heap.objs.size<=a):a∉X.fs:=fun hb=>by
 obtain⟨_,o,ho,_⟩:=I.ok.funs.mem hb;exact absurd (lt_of_lt_of_le (lt_size ho) (le_trans I.sz h)) (lt_irrefl _)
theorem Inv.cne(I:Inv X zh σ H s):∀ x c,X.env.cells.lookup x=some c->c≠X.env.locals:=fun x c e z=>by
 obtain⟨v,o,ho,hd⟩:=I.cell x c e;obtain⟨m,⟨o',es,ep,ho',hd',_⟩,_⟩:=I.loc;rw [z,ho'] at ho; cases ho; rw [hd'] at hd; cases hd
theorem Inv.funs(I:Inv X zh σ H s):s.heap.FunFrames X.base X.outer:=by
 have all:∀ (l:List Env),(∀ b∈frs l,b∈X.fs)->X.s₀.heap.FunFrames X.base l->s.heap.FunFrames X.base l:=by
  intro l;induction l with
  | nil=>intro _ _; trivial
  | cons env r ih =>
   intro hs hl;obtain⟨hk,⟨L,o,hf,hn,ho,hd⟩,hr⟩:=hl;have hL:L∈X.fs:=hs L (by unfold frs; rw [filterMap_cons,hf]; exact mem_cons_self);obtain⟨sl,e⟩:=I.base.slot L o ho (I.ok.frf.free L hL) hL fun z=>I.ok.exfs L z hL;exact⟨hk,⟨L,_,hf,hn,e,hd⟩,ih (fun b hb=>hs b (by unfold frs; rw [filterMap_cons,hf]; exact mem_cons_of_mem _ hb)) hr⟩
 exact all X.outer (fun _ hb=>hb) I.ok.funs
theorem Inv.stack(I:Inv X zh σ H s):s.heap.FunFrames X.base X.stack:=by
 rcases I.ok.stk with e | ⟨e,hf⟩
 ·rw [e]; exact I.funs
 ·rw [e];obtain⟨m,hn,_⟩:=I.loc;refine .cons (by rw [I.ok.kind]; decide) hf hn ?_ I.funs;exact Heap.get?_none_of_le (le_trans I.ok.bsz I.ok.above)
theorem Inv.stkSub(I:Inv X zh σ H s):∀ b∈frs X.stack,b∈X.env.locals :: X.fs:=fun b hb=>by
 rcases I.ok.stk with e | ⟨e,hf⟩
 ·rw [e] at hb; exact mem_cons_of_mem _ hb
 ·rw [e] at hb;unfold frs at hb;rw [filterMap_cons,hf] at hb;exact hb
theorem Inv.stkFree(I:Inv X zh σ H s):Frf (frs X.stack) H:=⟨fun b hb=>by
 rcases mem_cons.mp (I.stkSub b hb) with e | hb
 ·rw [e]; exact I.free
 ·obtain⟨_,o,ho,_⟩:=I.ok.funs.mem hb;exact I.base.free b o ho (I.ok.frf.free b hb) fun z=>I.ok.exfs b z hb,fun q hq=>I.base.tbls _ _ (I.ok.frf.tab q hq)⟩
theorem Inv.step{g':Array GenState}{t':Nat}{d':Drawn}{ch:List Addr}(I:Inv X zh σ H s)
  (hch:∀ b∈ch,(b∈X.ex\/X.s₀.heap.objs.size<=b)/\b≠X.env.locals/\(∀ x c,X.env.cells.lookup x=some c->c≠b)/\∀ p∈X.pn++zh,p.1≠b)
  (keep:∀ b o,b≠X.env.locals->b∉X.fs->b∉ch->s.heap.get? b=some o->H b=none->h'.get? b=some o)
  (slot:∀ b o,b≠X.env.locals->b∈X.fs->b∉ch->s.heap.get? b=some o->H b=none->∃ sl,h'.get? b=some { o with slots:=sl }) (free:∀ b o,b∉ch->s.heap.get? b=some o->H b=none->H' b=none)
  (there:∀ b o,b∉ch->s.heap.get? b=some o->∃ o',h'.get? b=some o')
  (tups:∀ b xs,H b=some (.tup xs)->H' b=some (.tup xs)) (frzs:∀ b o u,H b=some (.frz o u)->H' b=some (.frz o u)) (tbls:∀ b ps,H b=some (.tbl ps)->H' b=some (.tbl ps))
  (ns:∀ m,s.heap.Ns X.env.locals m->h'.Ns X.env.locals m) (hok:HOk X.prog X.w H' h') (hg:AllBare g') :
  Inv X zh σ H' { s with heap:=h',gens:=g',drawn:=d',toks:=t' }:=by
 have neL:∀ b o,X.s₀.heap.get? b=some o->b≠X.env.locals:=fun b o e=>ne_of_lt (lt_of_lt_of_le (lt_size e) I.ok.above);have neC:∀ b o,X.s₀.heap.get? b=some o->b∉X.ex->b∉ch:=fun b o e hx hb=>by
  rcases(hch b hb).1 with z | z
  ·exact hx z
  ·exact absurd (lt_of_lt_of_le (lt_size e) z) (lt_irrefl _)
 have cellK:∀ x c,X.env.cells.lookup x=some c->∀ v,s.heap.IsCell c v->h'.IsCell c v:=fun x c e v ⟨o,ho,hd⟩=>by
  have nch:c∉ch:=fun z=>(hch c z).2.2.1 x c e rfl;by_cases hc:c∈X.fs
  ·obtain⟨sl,q⟩:=slot c o (I.cne x c e) hc nch ho (I.freeC x c e);exact⟨_,q,hd⟩
  ·exact⟨o,keep c o (I.cne x c e) hc nch ho (I.freeC x c e),hd⟩
 refine⟨I.ok,I.os,hg,⟨fun b o e n hb hx=>?_,fun b o e n hb hx=>?_,fun b o e n hx=>?_,fun b o e hx=>?_,fun b xs e=>tups b xs (I.base.tups b xs e),fun b o xs e=>frzs b o xs (I.base.frzs b o xs e),fun b ps e=>?_⟩,?_,fun x c e=>?_,?_,fun x c e=>?_,fun p hp=>?_,hok,I.len⟩
 ·exact keep b o (neL b o e) hb (neC b o e hx) (I.base.keep b o e n hb hx) (I.base.free b o e n hx)
 ·obtain⟨sl,e1⟩:=I.base.slot b o e n hb hx;obtain⟨sl',e2⟩:=slot b _ (neL b o e) hb (neC b o e hx) e1 (I.base.free b o e n hx);exact⟨sl',e2⟩
 ·obtain⟨o',e1⟩:=I.base.there b o e hx;exact free b o' (neC b o e hx) e1 (I.base.free b o e n hx)
 ·obtain⟨o',e1⟩:=I.base.there b o e hx;exact there b o' (neC b o e hx) e1
 ·exact tbls b _ (I.base.tbls b ps e)
 ·obtain⟨m,hn,hl⟩:=I.loc;refine⟨m,ns m hn,fun i x v e1 e2 e3=>?_⟩;obtain⟨u,r,l⟩:=hl i x v e1 e2 e3;refine⟨u,r,?_⟩;rcases l with l | ⟨k,c,e,z⟩
  ·exact .inl l
  ·exact .inr ⟨k,c,e,cellK x c e _ z⟩
 ·obtain⟨v,z⟩:=I.cell x c e;exact⟨v,cellK x c e v z⟩
 ·obtain⟨m,⟨o,_,_,ho,_⟩,_⟩:=I.loc;exact free _ o (fun z=>(hch _ z).2.1 rfl) ho I.free
 ·obtain⟨v,o,ho,hd⟩:=I.cell x c e;exact free c o (fun z=>(hch c z).2.2.1 x c e rfl) ho (I.freeC x c e)
 ·obtain⟨e,n,ne,nf,d⟩:=I.pin p hp;have nch:p.1∉ch:=fun z=>(hch p.1 z).2.2.2 p hp rfl;exact⟨keep p.1 p.2 ne nf nch e n,free p.1 p.2 nch e n,ne,nf,d⟩
theorem Inv.un{t':Nat}(I:Inv X zh σ H s)(u:Un X.fs [] H H' s.heap h')(hok:HOk X.prog X.w H' h'):Inv X zh σ H' { s with heap:=h',toks:=t' }:=by
 obtain⟨m,⟨o,es,ep,ho,r⟩,_⟩:=id I.loc;obtain⟨sl,hL⟩:=u.any ho I.free (by simp);exact I.step (g':=s.gens) (d':=s.drawn) (ch:=[]) (fun _ z=>nomatch z) (fun b o _ hb _ e n=>u.keep b o e n hb (by simp)) (fun b o _ hb _ e n=>u.slot b o e n hb (by simp)) (fun b o _ e n=>u.free b o e n (by simp)) (fun b o _ e=>u.there b o e (by simp)) u.tups u.frzs u.tbls (fun m' hm=>by
  obtain⟨o',es',ep',ho',r'⟩:=hm;rw [ho] at ho'; cases ho';exact⟨_,es',ep',hL,r'⟩) hok I.bare
theorem Inv.call{g':Array GenState}{t':Nat}{d':Drawn}{ch:List Addr}(I:Inv X zh σ H s)(u:Un (frs X.stack) ch H H' s.heap h')(hok:HOk X.prog X.w H' h')(hg:AllBare g')
  (hch:∀ b∈ch,(b∈X.ex\/X.s₀.heap.objs.size<=b)/\b≠X.env.locals/\(∀ x c,X.env.cells.lookup x=some c->c≠b)/\∀ p∈X.pn++zh,p.1≠b) :
  Inv X zh σ H' { s with heap:=h',gens:=g',drawn:=d',toks:=t' }:=by
 obtain⟨m,⟨o,es,ep,ho,r⟩,_⟩:=id I.loc;obtain⟨sl,hL⟩:=u.any ho I.free fun z=>(hch _ z).2.1 rfl;exact I.step (ch:=ch) hch (fun b o hL hb hc e n=>u.keep b o e n (fun z=>(mem_cons.mp (I.stkSub b z)).elim hL hb) hc) (fun b o _ _ hc e n=>u.any e n hc) (fun b o hc e n=>u.free b o e n hc) (fun b o hc e=>u.there b o e hc) u.tups u.frzs u.tbls (fun m' hm=>by
  obtain⟨o',es',ep',ho',r'⟩:=hm;rw [ho] at ho'; cases ho';exact⟨_,es',ep',hL,r'⟩) hok hg
theorem Inv.turned{t':Nat}{it:Addr}(I:Inv X zh σ H s)(k:∀ b o,b≠it->s.heap.get? b=some o->h'.get? b=some o)(hn:H it=none)(hL:it≠X.env.locals)
  (h1:it∈X.ex\/X.s₀.heap.objs.size<=it) (h2:∀ x c,X.env.cells.lookup x=some c->c≠it) (h3:∀ p∈X.pn++zh,p.1≠it):Inv X zh σ H { s with heap:=h',toks:=t' }:=by
 have nit:∀ b u,H b=some u->b≠it:=fun b u e z=>by rw [z,hn] at e; cases e
 refine I.step (g':=s.gens) (d':=s.drawn) (ch:=[it]) (fun b hb=>?_) (fun b o _ _ hc e _=>k b o (fun z=>hc (by simp [z])) e) (fun b o _ _ hc e _=>⟨o.slots,k b o (fun z=>hc (by simp [z])) e⟩) (fun _ _ _ _ n=>n)
  (fun b o hc e=>⟨o,k b o (fun z=>hc (by simp [z])) e⟩) (fun _ _ e=>e) (fun _ _ _ e=>e) (fun _ _ e=>e) (fun m hm=>?_) (fun b u e=>?_) I.bare
 ·have e:b=it:=by simpa using hb
  subst e;exact⟨h1,hL,h2,h3⟩
 ·obtain⟨o,es,ep,ho,r⟩:=hm;exact⟨o,es,ep,k _ o (Ne.symm hL) ho,r⟩
 ·refine(I.hok b u e).stay (fun c v hc q=>k c v ?_ q) (fun _ q=>q) fun _ _ q=>q;rcases hc with z | z
  ·rw [z]; exact nit b u e
  ·exact nit c _ z
theorem Inv.tok(I:Inv X zh σ H s)(t:Nat):Inv X zh σ H { s with toks:=t }:=I.un (h':=s.heap) (t':=t) Un.refl I.hok
theorem Inv.kept{t':Nat}(I:Inv X zh σ H s)(k:∀ b u,s.heap.get? b=some u->h'.get? b=some u):Inv X zh σ H { s with heap:=h',toks:=t' }:=I.un (Un.kept k) (I.hok.kept k)
theorem Inv.laid{a:Addr}{o:HO}{t':Nat}(I:Inv X zh σ H s)(k:∀ b u,s.heap.get? b=some u->h'.get? b=some u)(hp:s.heap.objs.size<=a)(new:ObjOk X.prog X.w (upd H a o) h' a o):
  Inv X zh σ (upd H a o) { s with heap:=h',toks:=t' }:=I.un (Un.laid k hp (I.hok.fresh hp)) (I.hok.laid k hp new)
theorem Inv.write{x e:Addr}{o:HO}{t':Nat}(I:Inv X zh σ H s)(mu:Mut (H x))(he:e=x\/H e=some (.own x))(k:∀ b u,b≠e->s.heap.get? b=some u->h'.get? b=some u)(heo:∃ u,h'.get? e=some u)
  (new:ObjOk X.prog X.w (upd H x o) h' x o):Inv X zh σ (upd H x o) { s with heap:=h',toks:=t' }:=I.un (Un.write mu he k heo) (I.hok.write mu he k heo new)
theorem Inv.pins_of{pins':List (Addr×Obj)}(I:Inv X zh σ H s)(h:∀ p∈pins',s.heap.get? p.1=some p.2/\H p.1=none/\p.1≠X.env.locals/\p.1∉X.fs/\∀ v,p.2.data≠.cell v):Inv X pins' σ H s :=
 ⟨I.ok,I.os,I.bare,I.base,I.loc,I.cell,I.free,I.freeC,fun p hp=>(mem_append.mp hp).elim (fun z=>I.pin p (mem_append_left _ z)) (h p),I.hok,I.len⟩
theorem zkd{N:List Str}(hN:N.Nodup){i j:Nat}{x:Str}(a:N[i]? = some x)(b:N[j]? = some x):i=j:=by
 obtain⟨h1,e1⟩:=List.getElem?_eq_some_iff.mp a;obtain⟨h2,e2⟩:=List.getElem?_eq_some_iff.mp b;exact(List.getElem_inj hN).mp (e1.trans e2.symm)
theorem zmS{M:Model}{A:Around}{E:Value->Shared->Prop}{i:Nat}{x:Str}{v:V}{u:Value}{Q:Unit->Shared->Prop}(I:Inv X zh σ H s)(hN:X.N.Nodup)(hi:X.N[i]? = some x)(hx:Loc X.env.scope x)(r:RelV v u)
  (h:∀ s',Inv X zh (σ.set i (some v)) H s'->(∃ a,Heap.SameBut a s.heap s'.heap/\(a=X.env.locals\/X.env.cells.lookup x=some a))->Q () s') (hf:X.fn x=true\/X.env.scope.names.lookup x=some .local:=by first | exact .inl rfl | exact .inr rfl | assumption):wpAny M A (storeName X.env x u) Q E s:=by
 obtain⟨m,hn,hl⟩:=id I.loc;have hcls:(X.env.scope.kind == .class || (X.env.scope.kind == .module && X.env.locals != X.env.globals))=false:=by rw [I.ok.kind]; rfl
 have hiσ:i<σ.length:=by rw [I.len]; exact(List.getElem?_eq_some_iff.mp hi).1
 have cne:=I.cne;have tracked:∀ {a:Addr} {h':Heap},(∃ o,s.heap.get? a=some o/\H a=none)->Heap.SameBut a s.heap h'->HOk X.prog X.w H h':=fun {a h'} ha hs b ob e=>by
  obtain⟨_,_,hfree⟩:=ha;refine(I.hok b ob e).stay (fun c w' hc q=>(hs.2 c ?_).trans q) (fun _ q=>q) fun _ _ q=>q;rintro rfl;rcases hc with rfl | hc
  ·rw [hfree] at e; cases e
  ·rw [hfree] at hc; cases hc
 rcases hx with hk | hk
 ·refine wpAny_storeName_local hk hn (fun h' hn' hs=>?_) hcls;obtain⟨oL,_,_,hoL,_⟩:=id hn;refine h _ ⟨I.ok,I.os,I.bare,⟨fun b o e n hb hx=>?_,fun b o e n hb hx=>?_,I.base.free,fun b o e hx=>?_,I.base.tups,I.base.frzs,I.base.tbls⟩,⟨_,hn',fun j y v' e1 e2 e3=>?_⟩,fun y c e=>?_,I.free,I.freeC,fun p hp=>?_,tracked ⟨oL,hoL,I.free⟩ hs,by simpa using I.len⟩ ⟨_,hs,.inl rfl⟩
  ·exact(hs.2 b (ne_of_lt (lt_of_lt_of_le (lt_size e) I.ok.above))).trans (I.base.keep b o e n hb hx)
  ·obtain⟨sl,e1⟩:=I.base.slot b o e n hb hx;exact⟨sl,(hs.2 b (ne_of_lt (lt_of_lt_of_le (lt_size e) I.ok.above))).trans e1⟩
  ·obtain⟨o',e1⟩:=I.base.there b o e hx;exact⟨o',(hs.2 b (ne_of_lt (lt_of_lt_of_le (lt_size e) I.ok.above))).trans e1⟩
  ·by_cases hj:j=i
   ·subst hj;rw [hi] at e1; cases e1;rw [getElem?_set_self hiσ] at e2;cases e2;exact⟨u,r,.inl ⟨hk,by simp⟩⟩
   ·rw [getElem?_set_ne (Ne.symm hj)] at e2;obtain⟨u',r',q⟩:=hl j y v' e1 e2 e3;refine⟨u',r',?_⟩;rcases q with ⟨k,e⟩ | ⟨k,c,e,z⟩
    ·refine .inl ⟨k,?_⟩;have:y≠x:=fun e=>hj (zkd hN e1 (e▸hi));simp [this,e]
    ·exact .inr ⟨k,c,e,z.sameBut hs (cne y c e)⟩
  ·obtain⟨w',z⟩:=I.cell y c e;exact⟨w',z.sameBut hs (cne y c e)⟩
  ·obtain⟨e,n,ne,nf,d⟩:=I.pin p hp;exact⟨(hs.2 p.1 ne).trans e,n,ne,nf,d⟩
 ·have hfn:X.fn x=true:=by
   rcases hf with z | z
   ·exact z
   ·rw [z] at hk; cases hk
  obtain⟨c,hc⟩:=I.ok.has x (.inl hk);obtain⟨w',z⟩:=I.cell x c hc;refine wpAny_storeName_cell I.ok.kind hk hc z (fun h' hc' hs=>?_);obtain⟨oc,hoc,hocd⟩:=id z;refine h { s with heap:=h' } ⟨I.ok,I.os,I.bare,⟨fun b o e n hb hx=>?_,fun b o e n hb hx=>?_,I.base.free,fun b o e hx=>?_,I.base.tups,I.base.frzs,I.base.tbls⟩,⟨m,hn.sameBut hs (Ne.symm (cne x c hc)),fun j y v' e1 e2 e3=>?_⟩,fun y c' e=>?_,I.free,I.freeC,fun p hp=>?_,tracked ⟨oc,hoc,I.freeC x c hc⟩ hs,by simpa using I.len⟩ ⟨c,hs,.inr hc⟩
  ·exact(hs.2 b (ne_of_lt (lt_of_lt_of_le (lt_size e) (I.ok.cab x c hfn hc)))).trans (I.base.keep b o e n hb hx)
  ·obtain⟨sl,e1⟩:=I.base.slot b o e n hb hx;exact⟨sl,(hs.2 b (ne_of_lt (lt_of_lt_of_le (lt_size e) (I.ok.cab x c hfn hc)))).trans e1⟩
  ·obtain⟨o',e1⟩:=I.base.there b o e hx;exact⟨o',(hs.2 b (ne_of_lt (lt_of_lt_of_le (lt_size e) (I.ok.cab x c hfn hc)))).trans e1⟩
  ·by_cases hj:j=i
   ·subst hj;rw [hi] at e1; cases e1;rw [getElem?_set_self hiσ] at e2;cases e2;exact⟨u,r,.inr ⟨.inl hk,c,hc,hc'⟩⟩
   ·rw [getElem?_set_ne (Ne.symm hj)] at e2;obtain⟨u',r',q⟩:=hl j y v' e1 e2 e3;refine⟨u',r',?_⟩;rcases q with q | ⟨k,c',e,z'⟩
    ·exact .inl q
    ·refine .inr ⟨k,c',e,z'.sameBut hs ?_⟩;rintro rfl;exact hj (zkd hN e1 (I.ok.inj _ _ _ e hc▸hi))
  ·by_cases hcc:c'=c
   ·subst hcc; exact⟨_,hc'⟩
   ·obtain⟨w2,z2⟩:=I.cell y c' e;exact⟨w2,z2.sameBut hs hcc⟩
  ·obtain⟨e,n,ne,nf,d⟩:=I.pin p hp;refine⟨(hs.2 p.1 ?_).trans e,n,ne,nf,d⟩;intro q;rw [q,hoc] at e;have q':oc=p.2:=Option.some.inj e;exact d w' (by rw [<- q']; exact hocd)
theorem zfa{M:Model}{A:Around}{E:Value->Shared->Prop}{i:Nat}{x:Str}{v:V}{u:Value}{Q:Unit->Shared->Prop}(I:Inv X zh σ H s)(hN:X.N.Nodup)(hi:X.N[i]? = some x)(hx:Loc X.env.scope x)(r:RelV v u)
  (h:∀ s',Inv X zh (σ.set i (some v)) H s'->Q () s') (hf:X.fn x=true\/X.env.scope.names.lookup x=some .local:=by first | exact .inl rfl | exact .inr rfl | assumption):wpAny M A (storeName X.env x u) Q E s :=
 zmS I hN hi hx r (fun s' I' _=>h s' I') hf
theorem Inv.call'{s':Shared}{ch:List Addr}(I:Inv X zh σ H s)(ho:s'.os=s.os)(u:Un (frs X.stack) ch H H' s.heap s'.heap)(hok:HOk X.prog X.w H' s'.heap)(hg:AllBare s'.gens)
  (hch:∀ b∈ch,(b∈X.ex\/X.s₀.heap.objs.size<=b)/\b≠X.env.locals/\(∀ x c,X.env.cells.lookup x=some c->c≠b)/\∀ p∈X.pn++zh,p.1≠b):Inv X zh σ H' s':=by
 obtain⟨h',g',d',t',o'⟩:=s';have e:o'=s.os:=ho;subst e;exact I.call (g':=g') (t':=t') (d':=d') u hok hg hch
end
abbrev XK:=Value->Option Addr->Hp->Prop
abbrev St:=List (Option V)
abbrev VK:=V->Hp->Prop
abbrev TE:=St->Hp->VK->Prop
abbrev TT:=St->Hp->(Bool->Hp->Prop)->Prop
abbrev TA:=St->Hp->(List V->Hp->Prop)->Prop
structure Ends where
 nx:St->Hp->Prop
 rt:VK
 bk:St->Hp->Prop:=fun _ _=>False
 ct:St->Hp->Prop:=fun _ _=>False
abbrev TS:=Ends->St->Hp->Prop
def EP(X:Cx)(zh:List (Addr×Obj))(σ:St)(Q:VK)(u:Value)(s':Shared):Prop:=∃ v H',Inv X zh σ H' s'/\RelV v u/\Q v H'
def TP(X:Cx)(zh:List (Addr×Obj))(σ:St)(Q:Bool->Hp->Prop)(b:Bool)(s':Shared):Prop:=∃ H',Inv X zh σ H' s'/\Q b H'
def AP(X:Cx)(zh:List (Addr×Obj))(σ:St)(Q:List V->Hp->Prop)(us:List Value)(s':Shared):Prop:=∃ vs H',Inv X zh σ H' s'/\Vals vs us/\Q vs H'
def SP(X:Cx)(zh:List (Addr×Obj))(D:Ends)(f:Flow)(s':Shared):Prop :=
 match f with
 | .next=>∃ σ' H',Inv X zh σ' H' s'/\D.nx σ' H'
 | .brk=>∃ σ' H',Inv X zh σ' H' s'/\D.bk σ' H'
 | .cont=>∃ σ' H',Inv X zh σ' H' s'/\D.ct σ' H'
 | .ret u=>∃ v σ' H',Inv X zh σ' H' s'/\RelV v u/\D.rt v H'
def PE(X:Cx)(e:Expr)(t:TE):Prop :=
 ∀ (zh:List (Addr×Obj)) (s:Shared) (σ:St) (H:Hp) (Q:VK),Inv X zh σ H s->t σ H Q->wpAny (model X.prog X.w) X.A (eval e X.env) (EP X zh σ Q) X.xe s
def PT(X:Cx)(e:Expr)(t:TT):Prop :=
 ∀ (zh:List (Addr×Obj)) (s:Shared) (σ:St) (H:Hp) (Q:Bool->Hp->Prop),Inv X zh σ H s->t σ H Q->wpAny (model X.prog X.w) X.A (isTrue e X.env (eval e X.env)) (TP X zh σ Q) X.xe s
def PW(X:Cx)(e:Expr)(t:TT):Prop :=
 ∀ (whole:Sem Value) (zh:List (Addr×Obj)) (s:Shared) (σ:St) (H:Hp) (Q:Bool->Hp->Prop),Inv X zh σ H s->t σ H Q->wpAny (model X.prog X.w) X.A (isTrue e X.env whole) (TP X zh σ Q) X.xe s
theorem PW.pt{X:Cx}{e:Expr}{t:TT}(h:PW X e t):PT X e t:=h _
def PA(X:Cx)(es:List Expr)(t:TA):Prop :=
 ∀ (pos:Pos) (zh:List (Addr×Obj)) (s:Shared) (σ:St) (H:Hp) (Q:List V->Hp->Prop),Inv X zh σ H s->t σ H Q->wpAny (model X.prog X.w) X.A (spliced (backTo pos (starEach es X.env))) (AP X zh σ Q) X.xe s
def PS(X:Cx)(st:Stmt)(t:TS):Prop :=
 ∀ (zh:List (Addr×Obj)) (s:Shared) (σ:St) (H:Hp) (D:Ends),Inv X zh σ H s->t D σ H->wpAny (model X.prog X.w) X.A (exec st X.env) (SP X zh D) X.xe s
def PSs(X:Cx)(st:List Stmt)(t:TS):Prop :=
 ∀ (zh:List (Addr×Obj)) (s:Shared) (σ:St) (H:Hp) (D:Ends),Inv X zh σ H s->t D σ H->wpAny (model X.prog X.w) X.A (execs st X.env) (SP X zh D) X.xe s
theorem thn{α:Type}{t:Sem α}{Q Q':α->Shared->Prop}{M:Model}{A:Around}{E:Value->Shared->Prop}{s:Shared}(h:wpAny M A t Q E s)(hQ:∀ a s,Q a s->Q' a s):wpAny M A t Q' E s:=wpAny_mono h hQ fun _ _ x=>x
end
section
section
variable {X:Cx}
def zj1(i:Nat):TE:=fun σ H Q=>∃ v,σ[i]? = some (some v)/\Q v H
def tC(v:V):TE:=fun _ H Q=>Q v H
theorem zso{i:Nat}{x:Str}{pos:Pos}(hN:X.N[i]? = some x)(hv:Vis X.env.scope x)(hd:(x == ("__debug__":Str))=false:=by decide)(hcd:(x == ("__classdict__":Str))=false:=by decide):PE X (.Name x pos) (zj1 i):=by
 intro zh s σ H Q I h;obtain⟨v,e,h⟩:=h;obtain⟨m,hn,hl⟩:=I.loc;obtain⟨u,r,l⟩:=hl i x v hN e hv;have fin:EP X zh σ Q u s:=⟨v,H,I,r,h⟩;rcases l with ⟨hk,hm⟩ | ⟨hk,c,hc,hcell⟩
 ·exact wpAny_Name (wpAny_loadName_local I.ok.kind hk hn hm fin) hd
 ·rcases hk with hk | hk
  ·exact wpAny_Name (wpAny_loadName_cell I.ok.kind hk hc hcell fin) hd
  ·exact wpAny_Name (wpAny_loadName_free I.ok.kind hk hc hcell fin hcd) hd
theorem ze{i j pos}:PE X (.Constant (.int i) j pos) (tC (.int i)):=fun _ _ _ H _ I h=>wpAny_Constant_int ⟨.int i,H,I.tok _,⟨_,rfl⟩,h⟩
theorem zgt{b j pos}:PE X (.Constant (.bool b) j pos) (tC (.bl b)):=fun _ _ _ H _ I h=>Constant_bool ⟨.bl b,H,I,rfl,h⟩
theorem zdb{j pos}:PE X (.Constant .none j pos) (tC .non):=fun _ _ _ H _ I h=>Constant_none ⟨.non,H,I,rfl,h⟩
theorem zas{x j pos}:PE X (.Constant (.str x) j pos) (tC (.str x)):=fun _ _ _ H _ I h=>Calls.Constant_str ⟨.str x,H,I.tok _,⟨_,rfl⟩,h⟩
def Gl(X:Cx)(x:Str):Prop:=X.env.kindOf x=some .globalImplicit
theorem zeE{E:Value->Shared->Prop}{zh:List (Addr×Obj)}{s:Shared}{σ:St}{H:Hp}{x:Str}{u:Value}{pos:Pos}{Q:Value->Shared->Prop}(I:Inv X zh σ H s)(hg:Gl X x)(hm:X.mg x=some u)(h:Q u s)
  (hd:(x == ("__debug__":Str))=false:=by decide):wpAny (model X.prog X.w) X.A (eval (.Name x pos) X.env) Q E s :=
 Calls.Name_function_global I.ok.kind hg (Calls.loadGlobal_global (by rw [I.ok.glob]; exact I.mod.glob.keeps I.bk) hm h) hd
theorem zcF{E:Value->Shared->Prop}{zh:List (Addr×Obj)}{s:Shared}{σ:St}{H:Hp}{x:Str}{u:Value}{pos:Pos}{Q:Value->Shared->Prop}(I:Inv X zh σ H s)(hg:Gl X x)(hm:X.mg x=none)(hv:bootBuiltins x=some u)(h:Q u s)
  (hn:x ≠ "__name__":=by decide) (hd:(x == ("__debug__":Str))=false:=by decide):wpAny (model X.prog X.w) X.A (eval (.Name x pos) X.env) Q E s:=by
 obtain⟨mb,h1,h2⟩:=I.mod.blt;exact Calls.Name_function_global I.ok.kind hg (Calls.loadGlobal_builtin (by rw [I.ok.glob]; exact I.mod.glob.keeps I.bk) hm (by rw [I.ok.blt]; exact h1.keeps I.bk) ((h2 x hn).trans hv) h) hd
theorem zb9{x:Str}{v:V}{u:Value}{pos:Pos}(hg:Gl X x)(hm:X.mg x=some u)(r:RelV v u)(hd:(x == ("__debug__":Str))=false:=by decide):PE X (.Name x pos) (tC v) :=
 fun _ _ _ H _ I h=>zeE I hg hm ⟨v,H,I,r,h⟩ hd
theorem zeL{x:Str}{v:V}{u:Value}{pos:Pos}(hg:Gl X x)(hm:X.mg x=none)(hv:bootBuiltins x=some u)(r:RelV v u)(hn:x ≠ "__name__":=by decide)(hd:(x == ("__debug__":Str))=false:=by decide):PE X (.Name x pos) (tC v) :=
 fun _ _ _ H _ I h=>zcF I hg hm hv ⟨v,H,I,r,h⟩ hn hd
variable {a b:Expr} {ta tb:TE} {pos:Pos}
def tB(t:TE):TT:=fun σ H Q=>t σ H fun x H1=>∃ c,x=.bl c/\Q c H1
variable {tA tB':TT} {rest:List Expr}
def zuE(t u:TT):TT:=fun σ H Q=>t σ H fun c H1=>if c=true then u σ H1 Q else Q false H1
def tOr(t u:TT):TT:=fun σ H Q=>t σ H fun c H1=>if c=true then Q true H1 else u σ H1 Q
def zuf(t:TT):TT:=fun σ H Q=>t σ H fun c H1=>Q (!c) H1
theorem zhC(ha:PT X a tA):PW X (.BoolOp .And [a] pos) tA:=by
 intro wh zh s σ H Q I h;refine isTrue_and (thn (ha zh s σ H Q I h) fun c s1 e=>?_);cases c with
 | true=>exact isTrue_and_nil e
 | false=>exact e
theorem zh0(ha:PT X a tA):PW X (.BoolOp .Or [a] pos) tA:=by
 intro wh zh s σ H Q I h;refine isTrue_or (thn (ha zh s σ H Q I h) fun c s1 e=>?_);cases c with
 | false=>exact isTrue_or_nil e
 | true=>exact e
theorem zkm(ha:PT X a tA)(hb:PW X (.BoolOp .And (b :: rest) pos) tB'):PW X (.BoolOp .And (a :: b :: rest) pos) (zuE tA tB'):=by
 intro wh zh s σ H Q I h;refine isTrue_and (thn (ha zh s σ H _ I h) fun c s1 ⟨H1,I1,q1⟩=>?_);cases c with
 | true=>exact hb wh zh s1 σ H1 Q I1 q1
 | false=>exact⟨H1,I1,q1⟩
theorem zlk(ha:PT X a tA)(hb:PW X (.BoolOp .Or (b :: rest) pos) tB'):PW X (.BoolOp .Or (a :: b :: rest) pos) (tOr tA tB'):=by
 intro wh zh s σ H Q I h;refine isTrue_or (thn (ha zh s σ H _ I h) fun c s1 ⟨H1,I1,q1⟩=>?_);cases c with
 | true=>exact⟨H1,I1,q1⟩
 | false=>exact hb wh zh s1 σ H1 Q I1 q1
theorem ze1(ha:PT X a tA):PT X (.UnaryOp .Not a pos) (zuf tA):=by
 intro zh s σ H Q I h;exact isTrue_not (ha zh s σ H (fun c H1=>Q (!c) H1) I h)
def zsH(ta tb:TE):TE:=fun σ H Q=>ta σ H fun x H1=>∃ c,x=.bl c/\if c=true then tb σ H1 Q else Q (.bl false) H1
def zuc(ta tb:TE):TE:=fun σ H Q=>ta σ H fun x H1=>∃ c,x=.bl c/\if c=true then Q (.bl true) H1 else tb σ H1 Q
def zrA(ta:TE):TE:=fun σ H Q=>ta σ H fun x H1=>∃ c,x=.bl c/\Q (.bl (!c)) H1
theorem zmE{op}{t:TE}(h:PE X a t):PE X (.BoolOp op [a] pos) t:=fun zh s σ H Q I hw=>BoolOp_one (h zh s σ H Q I hw)
theorem zpK(ha:PE X a ta)(hb:PE X (.BoolOp .And (b :: rest) pos) tb):PE X (.BoolOp .And (a :: b :: rest) pos) (zsH ta tb):=by
 intro zh s σ H Q I h;refine BoolOp_and (thn (ha zh s σ H _ I h) fun v s1 ⟨x,H1,I1,r1,q1⟩=>?_);obtain⟨c,rfl,q1⟩:=q1;cases r1;refine wpAny_truthy_bool ?_;cases c with
 | true=>exact hb zh s1 σ H1 Q I1 q1
 | false=>exact⟨.bl false,H1,I1,rfl,q1⟩
theorem zt6(ha:PE X a ta)(hb:PE X (.BoolOp .Or (b :: rest) pos) tb):PE X (.BoolOp .Or (a :: b :: rest) pos) (zuc ta tb):=by
 intro zh s σ H Q I h;refine BoolOp_or (thn (ha zh s σ H _ I h) fun v s1 ⟨x,H1,I1,r1,q1⟩=>?_);obtain⟨c,rfl,q1⟩:=q1;cases r1;refine wpAny_truthy_bool ?_;cases c with
 | false=>exact hb zh s1 σ H1 Q I1 q1
 | true=>exact⟨.bl true,H1,I1,rfl,q1⟩
theorem zp1(ha:PE X a ta):PE X (.UnaryOp .Not a pos) (zrA ta):=by
 intro zh s σ H Q I h;refine UnaryOp_ (thn (ha zh s σ H _ I h) fun v s1 ⟨x,H1,I1,r1,q1⟩=>?_);obtain⟨c,rfl,q1⟩:=q1;cases r1;exact not_of (wpAny_truthy_bool ⟨.bl (!c),H1,I1,rfl,q1⟩)
def tIf(t:TT)(ta tb:TE):TE:=fun σ H Q=>t σ H fun c H1=>if c=true then ta σ H1 Q else tb σ H1 Q
theorem zon{c:Expr}(hc:PT X c tA)(ha:PE X a ta)(hb:PE X b tb):PE X (.IfExp c a b pos) (tIf tA ta tb):=by
 intro zh s σ H Q I h;refine wpAny_IfExp (thn (hc zh s σ H _ I h) fun d s1 ⟨H1,I1,q1⟩=>?_);cases d with
 | true=>exact ha zh s1 σ H1 Q I1 q1
 | false=>exact hb zh s1 σ H1 Q I1 q1
end
end
section
def SqL(K:W.Frag)(H:Hp)(a:Addr)(xs:List V):Prop :=
 Rd H a (.lst xs) \/
  ∃ (o:Obj) (its:Array Value) (n:Nat),K.lookup a=some o/\o.cls=.type "list"/\o.dict=none/\o.data=.seq its n/\its.size<=sizeLine/\Vals xs its.toList
def SqT(K:W.Frag)(H:Hp)(a:Addr)(xs:List V):Prop :=
 Rd H a (.tup xs) \/
  ∃ (o:Obj) (its:Array Value) (n:Nat),K.lookup a=some o/\o.cls=.type "tuple"/\o.data=.seq its n/\its.size<=sizeLine/\Vals xs its.toList
def zuJ:Value->Option V
 | .none=>some .non
 | .bool b=>some (.bl b)
 | .int i _=>some (.int i)
 | .str x _=>some (.str x)
 | .bytes b _=>some (.byt b)
 | .float b _=>some (.flt b)
 | .ref a=>some (.ref a)
 | .type n=>some (.ty n)
 | _=>none
theorem RelV.abs{x:V}{u:Value}(r:RelV x u):zuJ u=some x:=by
 cases x with
 | non=>cases r; rfl
 | bl _=>cases r; rfl
 | int _=>obtain⟨t,rfl⟩:=r; rfl
 | str _=>obtain⟨t,rfl⟩:=r; rfl
 | byt _=>obtain⟨t,rfl⟩:=r; rfl
 | flt _=>obtain⟨t,rfl⟩:=r; rfl
 | ref _=>cases r; rfl
 | ty _=>cases r; rfl
theorem RelV.inj{x y:V}{u:Value}(r:RelV x u)(q:RelV y u):x=y:=Option.some.inj (r.abs.symm.trans q.abs)
theorem Vals.inj:∀ {xs ys:List V} {us:List Value},Vals xs us->Vals ys us->xs=ys
 | _,_,_,.nil,.nil=>rfl
 | _,_,_,.cons r t,.cons r' t'=>by rw [r.inj r',Vals.inj t t']
section
variable {X:Cx} {zh:List (Addr×Obj)} {σ:St} {H:Hp} {s:Shared} {a:Addr} {xs ys:List V}
theorem SqL.of{K:W.Frag}(h:H a=some (.lst xs)):SqL K H a xs:=.inl (.inl h)
theorem SqT.of{K:W.Frag}(h:H a=some (.tup xs)):SqT K H a xs:=.inl (.inl h)
theorem Inv.list(I:Inv X zh σ H s)(h:SqL X.K H a xs):∃ its:List Value,Vals xs its/\PlainL s.heap a its.toArray/\xs.length<=sizeLine:=by
 rcases h with h | ⟨o,its,n,hk,hc,hd,hs,hz,r⟩
 ·obtain⟨z,its,n,r,e⟩:=h.ok I.hok;exact⟨its,r,⟨_,n,e,rfl,rfl,rfl⟩,z⟩
 ·refine⟨its.toList,r,⟨o,n,I.kIn a o hk,hc,hd,by simpa using hs⟩,?_⟩;have e:=r.length;simp only [length_toList] at e;omega
theorem Inv.tuple(I:Inv X zh σ H s)(h:SqT X.K H a xs):∃ its:List Value,Vals xs its/\IsTup s.heap a its.toArray/\xs.length<=sizeLine:=by
 rcases h with h | ⟨o,its,n,hk,hc,hs,hz,r⟩
 ·obtain⟨z,its,r,p⟩:=h.ok I.hok;exact⟨its,r,p,z.1⟩
 ·refine⟨its.toList,r,⟨o,I.kIn a o hk,hc,n,by simpa using hs⟩,?_⟩;have e:=r.length;simp only [length_toList] at e;omega
theorem Inv.list_inj(I:Inv X zh σ H s)(h:SqL X.K H a xs)(h':SqL X.K H a ys):xs=ys:=by
 obtain⟨its,r,⟨o,n,e,_,_,d⟩,_⟩:=I.list h;obtain⟨its',r',⟨o',n',e',_,_,d'⟩,_⟩:=I.list h';rw [e] at e'; cases e';rw [d] at d';injection d' with d1 _
 have:its=its':=by simpa using congrArg Array.toList d1
 subst this;exact r.inj r'
theorem Inv.tuple_inj(I:Inv X zh σ H s)(h:SqT X.K H a xs)(h':SqT X.K H a ys):xs=ys:=by
 obtain⟨its,r,⟨o,e,_,n,d⟩,_⟩:=I.tuple h;obtain⟨its',r',⟨o',e',_,n',d'⟩,_⟩:=I.tuple h';rw [e] at e'; cases e';rw [d] at d';injection d' with d1 _
 have:its=its':=by simpa using congrArg Array.toList d1
 subst this;exact r.inj r'
end
abbrev Cx.wish (X:Cx) (E:Value->Shared->Prop):Cx:={ X with xe:=E }
abbrev Cx.nox (X:Cx):Cx:=X.wish fun _ _=>False
theorem Cx.Ok.wish{X:Cx}(ok:X.Ok)(E:Value->Shared->Prop):(X.wish E).Ok :=
 ⟨ok.mod,ok.kind,ok.glob,ok.blt,ok.above,ok.inj,ok.has,ok.cab,ok.hd,ok.frames,ok.stk,ok.exf,ok.bs,ok.bsz,ok.noex,ok.exfs,ok.funs,ok.frf⟩
theorem Cx.Ok.unwish{X:Cx}{E:Value->Shared->Prop}(ok:(X.wish E).Ok):X.Ok :=
 ⟨ok.mod,ok.kind,ok.glob,ok.blt,ok.above,ok.inj,ok.has,ok.cab,ok.hd,ok.frames,ok.stk,ok.exf,ok.bs,ok.bsz,ok.noex,ok.exfs,ok.funs,ok.frf⟩
section
variable {X:Cx} {zh:List (Addr×Obj)} {σ:St} {H:Hp} {s:Shared} {E:Value->Shared->Prop}
theorem Inv.wish(I:Inv X zh σ H s)(E:Value->Shared->Prop):Inv (X.wish E) zh σ H s:=⟨I.ok.wish E,I.os,I.bare,I.base,I.loc,I.cell,I.free,I.freeC,I.pin,I.hok,I.len⟩
theorem Inv.unwish(I:Inv (X.wish E) zh σ H s):Inv X zh σ H s:=⟨I.ok.unwish,I.os,I.bare,I.base,I.loc,I.cell,I.free,I.freeC,I.pin,I.hok,I.len⟩
theorem SP.unwish{D:Ends}{f:Flow}{s':Shared}(h:SP (X.wish E) zh D f s'):SP X zh D f s':=by
 cases f with
 | next=>obtain⟨σ',H',I,q⟩:=h; exact⟨σ',H',I.unwish,q⟩
 | brk=>obtain⟨σ',H',I,q⟩:=h; exact⟨σ',H',I.unwish,q⟩
 | cont=>obtain⟨σ',H',I,q⟩:=h; exact⟨σ',H',I.unwish,q⟩
 | ret u=>obtain⟨v,σ',H',I,r,q⟩:=h; exact⟨v,σ',H',I.unwish,r,q⟩
theorem PE.nox{e:Expr}{t:TE}(h:PE X.nox e t):PE X e t:=fun zh s σ H Q I hw =>
 wpAny_mono (h zh s σ H Q (I.wish _) hw) (fun _ _ ⟨v,H',I',r,q⟩=>⟨v,H',I'.unwish,r,q⟩) fun _ _ z=>False.elim z
theorem PT.nox{e:Expr}{t:TT}(h:PT X.nox e t):PT X e t:=fun zh s σ H Q I hw =>
 wpAny_mono (h zh s σ H Q (I.wish _) hw) (fun _ _ ⟨H',I',q⟩=>⟨H',I'.unwish,q⟩) fun _ _ z=>False.elim z
theorem PSs.nox{st:List Stmt}{t:TS}(h:PSs X.nox st t):PSs X st t:=fun zh s σ H D I hw =>
 wpAny_mono (h zh s σ H D (I.wish _) hw) (fun _ _ q=>q.unwish) fun _ _ z=>False.elim z
end
section
variable {X:Cx} {st:Stmt} {rest:List Stmt} {t u:TS} {e:Expr} {te:TE} {pos:Pos}
def zrk:TS:=fun D σ H=>D.nx σ H
def zi3(t u:TS):TS:=fun D σ H=>t { D with nx:=u D } σ H
theorem zab:PSs X [] zrk:=fun _ _ σ H _ I h=>wpAny_execs_nil ⟨σ,H,I,h⟩
theorem zf(h1:PS X st t)(h2:PSs X rest u):PSs X (st :: rest) (zi3 t u):=by
 intro zh s σ H D I h;refine wpAny_execs_cons (thn (h1 zh s σ H { D with nx:=u D } I h) fun f s1 q=>?_);cases f with
 | next =>
  obtain⟨σ',H',I',q⟩:=q;exact h2 zh s1 σ' H' D I' q
 | ret v=>exact q
 | brk=>exact q
 | cont=>exact q
theorem zm(h1:PS X st t):PSs X [st] t:=by
 intro zh s σ H D I h;refine wpAny_execs_cons (thn (h1 zh s σ H D I h) fun f s1 q=>?_);cases f with
 | next=>exact wpAny_execs_nil q
 | ret v=>exact q
 | brk=>exact q
 | cont=>exact q
theorem Inv.quiet{zh:List (Addr×Obj)}{σ:St}{H:Hp}{s:Shared}(I:Inv X zh σ H s):interactive X.env=false:=by simp [interactive,I.ok.kind]
def zrn(te:TE):TS:=fun D σ H=>te σ H fun _ H1=>D.nx σ H1
theorem zbd(he:PE X e te)(hs:swapsWith e none pos.line X.env=pure false:=by rfl):PS X (.Expr e pos) (zrn te):=by
 intro zh s σ H D I h;exact wpAny_Expr_any (thn (he zh s σ H _ I h) fun v s1 ⟨x,H1,I1,r1,q1⟩=>⟨σ,H1,I1,q1⟩) I.quiet hs
def zty(te:TE):TS:=fun D σ H=>te σ H D.rt
theorem zD(he:PE X e te):PS X (.Return (some e) pos) (zty te):=by
 intro zh s σ H D I h;exact wpAny_Return_some (thn (he zh s σ H _ I h) fun v s1 ⟨x,H1,I1,r1,q1⟩=>⟨x,σ,H1,I1,r1,q1⟩)
def zqg(c:TT)(t u:TS):TS:=fun D σ H=>c σ H fun b H1=>if b=true then t D σ H1 else u D σ H1
theorem zbD{c:Expr}{a b:List Stmt}{tc:TT}(hc:PT X c tc)(ha:PSs X a t)(hb:PSs X b u):PS X (.If c a b pos) (zqg tc t u):=by
 intro zh s σ H D I h;refine wpAny_If (thn (hc zh s σ H _ I h) fun d s1 ⟨H1,I1,q1⟩=>?_);cases d with
 | true=>exact ha zh s1 σ H1 D I1 q1
 | false=>exact hb zh s1 σ H1 D I1 q1
def zo6:TS:=fun _ _ _=>False
theorem znU:PS X st zo6:=fun _ _ _ _ _ _ h=>h.elim
end
abbrev TG:=V->St->Hp->(St->Hp->Prop)->Prop
abbrev TGs:=List V->St->Hp->(St->Hp->Prop)->Prop
def PG(X:Cx)(target:Expr)(t:TG):Prop :=
 ∀ (zh:List (Addr×Obj)) (s:Shared) (σ:St) (H:Hp) (v:V) (u:Value) (Q:St->Hp->Prop),Inv X zh σ H s->RelV v u->t v σ H Q ->
  wpAny (model X.prog X.w) X.A (assign target X.env u) (fun _ s'=>∃ σ' H',Inv X zh σ' H' s'/\Q σ' H') X.xe s
def PGs(X:Cx)(ts:List Expr)(t:TGs):Prop :=
 ∀ (zh:List (Addr×Obj)) (s:Shared) (σ:St) (H:Hp) (vs:List V) (us:List Value) (Q:St->Hp->Prop),Inv X zh σ H s->Vals vs us->t vs σ H Q ->
  wpAny (model X.prog X.w) X.A (assignInOrder ((assignEach ts X.env).map (·.2)) us) (fun _ s'=>∃ σ' H',Inv X zh σ' H' s'/\Q σ' H') X.xe s
abbrev TSet:=V->V->V->Hp->(Hp->Prop)->Prop
def PSet(X:Cx)(t:TSet):Prop :=
 ∀ (zh:List (Addr×Obj)) (s:Shared) (σ:St) (H:Hp) (o i v:V) (ov iv u:Value) (Q:Hp->Prop),Inv X zh σ H s->RelV o ov->RelV i iv->RelV v u->t o i v H Q ->
  wpAny (model X.prog X.w) X.A (setItem ov iv u) (fun _ s'=>∃ H',Inv X zh σ H' s'/\Q H') X.xe s
section
variable {X:Cx} {pos:Pos}
def zjf(i:Nat):TG:=fun v σ H Q=>Q (σ.set i (some v)) H
theorem zx{i:Nat}{x:Str}(hN:X.N.Nodup)(hi:X.N[i]? = some x)(hx:Loc X.env.scope x)(hf:X.fn x=true\/X.env.scope.names.lookup x=some .local:=by first | exact .inl rfl | exact .inr rfl | assumption):PG X (.Name x pos) (zjf i):=by
 intro zh s σ H v u Q I r h;exact wpAny_assign_Name (zfa I hN hi hx r (fun s' I'=>⟨_,H,I',h⟩) hf)
def zuh:TGs:=fun vs σ H Q=>vs=[]/\Q σ H
def zsk(t:TG)(u:TGs):TGs:=fun vs σ H Q=>∃ v r,vs=v :: r/\t v σ H fun σ' H'=>u r σ' H' Q
theorem zct:PGs X [] zuh:=by
 intro zh s σ H vs us Q I r h;obtain⟨e,h⟩:=h;subst e;cases r;exact assignInOrder_nil ⟨σ,H,I,h⟩
theorem zag{e:Expr}{es:List Expr}{t:TG}{u:TGs}(h1:PG X e t)(h2:PGs X es u)
  (hs:(assignEach (e :: es) X.env).map (·.2)=assign e X.env :: (assignEach es X.env).map (·.2):=by rfl):PGs X (e :: es) (zsk t u):=by
 intro zh s σ H vs us Q I r h;obtain⟨v,vr,e1,h⟩:=h;subst e1;cases r with
 | cons r rr =>
  rw [hs];refine assignInOrder_cons (thn (h1 zh s σ H _ _ _ I r h) fun _ s1 ⟨σ1,H1,I1,q1⟩=>?_);exact h2 zh s1 σ1 H1 _ _ Q I1 rr q1
def zup(K:W.Frag)(n:Nat)(t:TGs):TG:=fun v σ H Q=>∃ a xs,v=.ref a/\SqT K H a xs/\xs.length=n/\t xs σ H Q
theorem zdL{es:List Expr}{k:Nat}{t:TGs}{n:Nat}(hc:X.calm=true)(h:PGs X es t)
  (hn:(assignEach es X.env).length=n:=by rfl) (hst:(assignEach es X.env).findIdx? (·.1)=none:=by rfl):PG X (.Tuple es k pos) (zup X.K n t):=by
 intro zh s σ H v u Q I r hw;obtain⟨a,xs,e1,hq,hl,hw⟩:=hw;subst e1;cases r;obtain⟨its,rv,ht,hz⟩:=I.tuple hq;refine assign_Tuple_tuple (I.ok.hd hc) ht (by simp [hn,<- hl,rv.length]) hst fun h' hx=>?_;have I1:Inv X zh σ H { s with heap:=h' }:=I.kept (t':=s.toks) fun b o e=>hx b o (ne_of_lt (lt_size e)) e;exact h zh _ σ H xs _ Q I1 (by simpa using rv) hw
def zum(to ti:TE)(t:TSet):TG:=fun v σ H Q=>to σ H fun o H1=>ti σ H1 fun i H2=>t o i v H2 fun H3=>Q σ H3
theorem zm0{o i:Expr}{to ti:TE}{t:TSet}(ho:PE X o to)(hi:PE X i ti)(hs:PSet X t)
  (ha:∀ v,assign (.Subscript o i pos) X.env v=(do
   let ov <- holding [v] (eval o X.env)
   let iv <- holding [v,ov] (eval i X.env)
   standAt pos
   holding [v,ov,iv] (setItem ov iv v)
   release [v,ov,iv] []):=by intro _; rfl):PG X (.Subscript o i pos) (zum to ti t):=by
 intro zh s σ H v u Q I r h;rw [ha];refine wpAny_bind (wpAny_holding (thn (ho zh s σ H _ I h) fun ov s1 ⟨x,H1,I1,r1,q1⟩=>?_));refine wpAny_bind (wpAny_holding (thn (hi zh s1 σ H1 _ I1 q1) fun iv s2 ⟨y,H2,I2,r2,q2⟩=>?_));refine wpAny_bind (wpAny_standAt (wpAny_bind (wpAny_holding (thn (hs zh s2 σ H2 x y v ov iv u _ I2 r1 r2 r q2) fun _ s3 ⟨H3,I3,q3⟩=>?_))));exact wpAny_release ⟨σ,H3,I3,q3⟩
def zr8(te:TE)(g:TG):TS:=fun D σ H=>te σ H fun x H1=>g x σ H1 D.nx
theorem zlF{tg e:Expr}{te:TE}{g:TG}(he:PE X e te)(hg:PG X tg g)(hs:swapsWithSole [tg] e pos.line X.env=pure false:=by rfl)(hw:swappedStores [tg] e X.env=pure none:=by rfl)
  (h1:(assignEach [tg] X.env).map (·.2)=[assign tg X.env]:=by rfl):PS X (.Assign [tg] e pos) (zr8 te g):=by
 intro zh s σ H D I h;refine wpAny_Assign_stores (thn (he zh s σ H _ I h) fun v s1 ⟨x,H1,I1,r1,q1⟩=>?_) hs hw;rw [h1];exact thn (hg zh s1 σ H1 x v _ I1 r1 q1) fun _ s2 q=>q
theorem zu{i:Nat}{x:Str}{e:Expr}{te:TE}{pos':Pos}(hN:X.N.Nodup)(hi:X.N[i]? = some x)(hx:Loc X.env.scope x)(he:PE X e te)(hs:swapsWith e (some (.Name x pos')) pos.line X.env=pure false:=by rfl)(hf:X.fn x=true\/X.env.scope.names.lookup x=some .local:=by first | exact .inl rfl | exact .inr rfl | assumption):
  PS X (.Assign [.Name x pos'] e pos) (zr8 te (zjf i)):=by
 intro zh s σ H D I h;refine wpAny_Assign_Name (thn (he zh s σ H _ I h) fun v s1 ⟨y,H1,I1,r1,q1⟩=>?_) hs;exact zfa I1 hN hi hx r1 (fun s2 I2=>⟨_,H1,I2,q1⟩) hf
end
section
variable {X:Cx} {pos:Pos}
def zpn(c:TT)(tb:TS):TS:=fun D σ H=>∃ W:Nat->St->Hp->Prop,(∃ m,W m σ H)/\∀ m σ H,W m σ H ->
 c σ H fun b H1=>if b=true then ∃ N:St->Hp->Prop,(∀ σ' H',N σ' H'->∃ m',m'<m/\W m' σ' H')/\tb { D with nx:=N,ct:=N,bk:=D.nx } σ H1 else D.nx σ H1
theorem znV{c:Expr}{body:List Stmt}{tc:TT}{tb:TS}(hp:PassesOwn (model X.prog X.w) X.A X.env X.xe)(hc:PT X c tc)(hb:PSs X body tb):PS X (.While c body [] pos) (zpn tc tb):=by
 intro zh s σ H D I h;obtain⟨W,⟨m0,w0⟩,turn⟩:=h;refine wpAny_While (codeAny_whileLoop (fun n s'=>∃ σ' H',Inv X zh σ' H' s'/\W n σ' H') ?_ m0 ⟨σ,H,I,w0⟩);rintro n s1 ⟨σ1,H1,I1,w1⟩;refine wpAny_passesOwn hp (thn (hc zh s1 σ1 H1 _ I1 (turn n σ1 H1 w1)) fun b s2 ⟨H2,I2,q2⟩=>?_);cases b with
 | true =>
  obtain⟨N,hN,q2⟩:=q2;rw [if_pos rfl];refine wpAny_passesOwn hp (thn (hb zh s2 σ1 H2 _ I2 q2) fun f s3 q3=>?_);cases f with
  | next =>
   obtain⟨σ3,H3,I3,n3⟩:=q3;obtain⟨m',hm,w3⟩:=hN σ3 H3 n3;exact⟨m',hm,σ3,H3,I3,w3⟩
  | cont =>
   obtain⟨σ3,H3,I3,n3⟩:=q3;obtain⟨m',hm,w3⟩:=hN σ3 H3 n3;exact⟨m',hm,σ3,H3,I3,w3⟩
  | brk=>exact q3
  | ret v=>exact q3
 | false =>
  rw [if_neg Bool.false_ne_true];exact wpAny_execs_nil ⟨σ1,H2,I2,q2⟩
end
structure It where
 go:Nat->Hp->Prop
 yld:Nat->Hp->V->Hp->Prop
 stop:Nat->Hp->Prop
def FpOk(X:Cx)(zh:List (Addr×Obj))(H:Hp)(b:Addr):Prop :=
 H b=none/\b≠X.env.locals/\b∉X.fs/\(b∈X.ex\/X.s₀.heap.objs.size<=b)/\(∀ x c,X.env.cells.lookup x=some c->c≠b)/\∀ p∈X.pn++zh,p.1≠b
theorem Inv.fpOk{X:Cx}{zh:List (Addr×Obj)}{σ:St}{H H':Hp}{s:Shared}{b:Addr}(I:Inv X zh σ H s)(hb:s.heap.objs.size<=b)(hn:H' b=none):FpOk X zh H' b:=by
 refine⟨hn,ne_of_gt (lt_of_lt_of_le I.lt hb),I.nofs hb,.inr (le_trans I.sz hb),fun x c e z=>?_,fun p hp z=>?_⟩
 ·obtain⟨v,q⟩:=I.cell x c e;exact absurd (lt_of_lt_of_le q.lt (by rw [z]; exact hb)) (lt_irrefl _)
 ·exact absurd (lt_of_lt_of_le (lt_size (I.pin p hp).1) (by rw [z]; exact hb)) (lt_irrefl _)
structure Turn(P:Program)(w:World)(K:W.Frag)(tg:Expr)(J:It)(fp:List Addr)(it:Addr)(tn:Nat->Heap->Prop):Prop where
 mem:it∈fp
 obj:∀ i h,tn i h->∀ b∈fp,∃ o,h.get? b=some o/\∀ v,o.data≠.cell v
 keep:∀ i h h',tn i h->(∀ b∈fp,∀ o,h.get? b=some o->h'.get? b=some o)->tn i h'
 item:∀ (X:Cx),X.prog=P->X.w=w->X.K=K->X.calm=true->∀ (i:Nat) (zh:List (Addr×Obj)) (s:Shared) (σ:St) (H:Hp) (E:Value->Shared->Prop),Inv X zh σ H s->(∀ b∈fp,FpOk X zh H b)->tn i s.heap->J.go i H ->
  wpAny (model P w) X.A (pyNext (.ref it)) (fun r s1=>∃ u,r=some u /\
   wpAny (model P w) X.A (letOwnedTupleGo tg (.ref it) u) (fun _ s2=>∃ x H',Inv X zh σ H' s2/\RelV x u/\J.yld i H x H'/\tn (i+1) s2.heap/\∀ b∈fp,H' b=none) E s1) E s
 done:∀ (X:Cx),X.prog=P->X.w=w->X.K=K->X.calm=true->∀ (i:Nat) (zh:List (Addr×Obj)) (s:Shared) (σ:St) (H:Hp) (E:Value->Shared->Prop),Inv X zh σ H s->(∀ b∈fp,FpOk X zh H b)->tn i s.heap->J.stop i H ->
  wpAny (model P w) X.A (pyNext (.ref it)) (fun r s1=>r=none/\Inv X zh σ H s1) E s
 self:∀ (A:Around) (i:Nat) (s:Shared) (Q:Value->Shared->Prop) (E:Value->Shared->Prop),tn i s.heap->Q (.ref it) s->wpAny (model P w) A (pyIter (.ref it)) Q E s
abbrev TI:=St->Hp->(It->Hp->Prop)->Prop
def PIE(X:Cx)(zh:List (Addr×Obj))(σ:St)(tg:Expr)(R:It->Hp->Prop)(itv:Value)(s2:Shared):Prop :=
 ∃ (it:Addr) (fp:List Addr) (tn:Nat->Heap->Prop) (J:It) (H':Hp),itv=.ref it/\Inv X zh σ H' s2/\Turn X.prog X.w X.K tg J fp it tn/\tn 0 s2.heap/\(∀ b∈fp,FpOk X zh H' b)/\R J H'
def PI(X:Cx)(tg iter:Expr)(wi:TI):Prop :=
 ∀ (zh:List (Addr×Obj)) (s:Shared) (σ:St) (H:Hp) (R:It->Hp->Prop),Inv X zh σ H s->wi σ H R ->
  wpAny (model X.prog X.w) X.A (eval iter X.env) (fun v s1=>wpAny (model X.prog X.w) X.A (pyIter v) (PIE X zh σ tg R) X.xe s1) X.xe s
theorem zoo{M:Model}{A:Around}{E:Value->Shared->Prop}{s:Shared}{tg:Expr}{it:Addr}{u:Value}{o:Obj}{n:String}{vs:Array Value}{Q:Unit->Shared->Prop}(ho:s.heap.get? it=some o)(hc:o.cls=.type n)(hd:o.data=.fields vs)
    (hn:["enumerate","zip","dict_itemiterator","dict_reverseitemiterator","odict_iterator","itertools.zip_longest","itertools.pairwise"].contains n=false) (hQ:Q () s):wpAny M A (letOwnedTupleGo tg (.ref it) u) Q E s:=by
  unfold letOwnedTupleGo;cases tg <;> first
    | exact wpAny_pure hQ
    | (cases u <;> first
        | exact wpAny_pure hQ
        | (refine wpAny_bind (wpAny_load ho ?_)
           rw [hc,hd];show wpAny M A (if (["enumerate","zip","dict_itemiterator","dict_reverseitemiterator","odict_iterator","itertools.zip_longest","itertools.pairwise"].contains n && vs[0]? == some (rawInt _))=true then _ else _) Q E s;rw [if_neg (by intro h; rw [hn,Bool.false_and] at h; cases h)];exact wpAny_pure hQ))
def Itl(K:W.Frag)(a:Addr):It :=
 ⟨fun i H=>∃ xs x,SqL K H a xs/\xs[i]? = some x,fun i H x H'=>H'=H/\∀ xs,SqL K H a xs->xs[i]? = some x,fun i H=>∃ xs,SqL K H a xs/\xs.length<=i⟩
def Itt(K:W.Frag)(a:Addr):It :=
 ⟨fun i H=>∃ xs x,SqT K H a xs/\xs[i]? = some x,fun i H x H'=>H'=H/\∀ xs,SqT K H a xs->xs[i]? = some x,fun i H=>∃ xs,SqT K H a xs/\xs.length<=i⟩
def Itr(lo:Int)(n:Nat):It:=⟨fun i _=>i<n,fun i H x H'=>H'=H/\x=.int (lo+i),fun i _=>n<=i⟩
theorem ziv{P:Program}{w:World}{K:W.Frag}{tg:Expr}(a it:Addr):Turn P w K tg (Itl K a) [it] it (fun i h=>h.IsListIter it a i) where
 mem:=by simp
 obj:=fun i h st b hb=>by
  have e:b=it:=by simpa using hb
  subst e;obtain⟨o,e,c,d⟩:=st;exact⟨o,e,fun v z=>by rw [d] at z; cases z⟩
 keep:=fun i h h' st k=>st.at fun o e=>k it (by simp) o e
 item:=by
  intro X hP hw hK hc i zh s σ H E I hf st hg;subst hP hw hK;obtain⟨xs,x,hq,hx⟩:=hg;obtain⟨its,rv,p,hz⟩:=I.list hq;obtain⟨u,hu,ru⟩:=rv.get hx;obtain⟨f0,f1,f2,f3,f4,f5⟩:=hf it (by simp);refine wpAny_pyNext_list_item st p.isList (x:=u) (by simpa using hu) fun h' st' sb=>?_;have I1:Inv X zh σ H { s with heap:=h' }:=I.turned (t':=s.toks) (fun b o hb e=>(sb.2 b hb).trans e) f0 f1 f3 f4 f5;obtain⟨o,e,c,d⟩:=id st';exact⟨u,rfl,zoo (s:={ s with heap:=h' }) e c d dz ⟨x,H,I1,ru,⟨rfl,fun ys hy=>by rw [I.list_inj hy hq]; exact hx⟩,st',fun b hb=>(hf b hb).1⟩⟩
 done:=by
  intro X hP hw hK hc i zh s σ H E I hf st hg;subst hP hw hK;obtain⟨xs,hq,hx⟩:=hg;obtain⟨its,rv,p,hz⟩:=I.list hq;obtain⟨f0,f1,f2,f3,f4,f5⟩:=hf it (by simp);have hl:=rv.length;exact wpAny_pyNext_list_end (I.ok.hd hc) st p.isList (by simp; omega) fun h' eb=>⟨rfl,I.turned (t':=s.toks) (fun b o hb e=>eb b o hb e) f0 f1 f3 f4 f5⟩
 self:=fun _ _ _ _ _ st h=>wpAny_pyIter_listiter st h
theorem zlm{P:Program}{w:World}{K:W.Frag}{tg:Expr}(a it:Addr):Turn P w K tg (Itt K a) [it] it (fun i h=>h.IsTupleIter it a i) where
 mem:=by simp
 obj:=fun i h st b hb=>by
  have e:b=it:=by simpa using hb
  subst e;obtain⟨o,e,c,d⟩:=st;exact⟨o,e,fun v z=>by rw [d] at z; cases z⟩
 keep:=fun i h h' st k=>st.at fun o e=>k it (by simp) o e
 item:=by
  intro X hP hw hK hc i zh s σ H E I hf st hg;subst hP hw hK;obtain⟨xs,x,hq,hx⟩:=hg;obtain⟨its,rv,p,hz⟩:=I.tuple hq;obtain⟨u,hu,ru⟩:=rv.get hx;obtain⟨f0,f1,f2,f3,f4,f5⟩:=hf it (by simp);refine wpAny_pyNext_tuple_item st (show s.heap.IsTuple a its.toArray from p) (x:=u) (by simpa using hu) fun h' st' sb=>?_;have I1:Inv X zh σ H { s with heap:=h' }:=I.turned (t':=s.toks) (fun b o hb e=>(sb.2 b hb).trans e) f0 f1 f3 f4 f5;obtain⟨o,e,c,d⟩:=id st';exact⟨u,rfl,zoo (s:={ s with heap:=h' }) e c d dz ⟨x,H,I1,ru,⟨rfl,fun ys hy=>by rw [I.tuple_inj hy hq]; exact hx⟩,st',fun b hb=>(hf b hb).1⟩⟩
 done:=by
  intro X hP hw hK hc i zh s σ H E I hf st hg;subst hP hw hK;obtain⟨xs,hq,hx⟩:=hg;obtain⟨its,rv,p,hz⟩:=I.tuple hq;obtain⟨f0,f1,f2,f3,f4,f5⟩:=hf it (by simp);have hl:=rv.length;exact wpAny_pyNext_tuple_end (I.ok.hd hc) st (show s.heap.IsTuple a its.toArray from p) (by simp; omega) fun h' eb=>⟨rfl,I.turned (t':=s.toks) (fun b o hb e=>eb b o hb e) f0 f1 f3 f4 f5⟩
 self:=fun _ _ _ _ _ st h=>wpAny_pyIter_tupleiter st h
theorem zk0{P:Program}{w:World}{K:W.Frag}{tg:Expr}(it:Addr)(lo:Int)(n:Nat):Turn P w K tg (Itr lo n) [it] it (fun i h=>IsRangeIter h it (lo+(i:Nat)*1) ((n:Int) - (i:Nat)) 1) where
 mem:=by simp
 obj:=fun i h st b hb=>by
  have e:b=it:=by simpa using hb
  subst e;exact⟨_,st,fun v z=>by
   have z':Data.fields _=Data.cell v:=z;cases z'⟩
 keep:=fun i h h' st k=>k it (by simp) _ st
 item:=by
  intro X hP hw hK hc i zh s σ H E I hf st hg;subst hP hw hK;obtain⟨f0,f1,f2,f3,f4,f5⟩:=hf it (by simp);have W:=Walks.range (prog:=X.prog) (w:=X.w) (I.ok.hd hc) it lo 1 n;refine W.item i s _ _ hg st fun v h' tk hv st' kk=>?_;obtain⟨t,rfl⟩:=hv;have I1:Inv X zh σ H { s with heap:=h',toks:=tk }:=I.turned (fun b o hb e=>kk b o (by simpa using hb) e) f0 f1 f3 f4 f5;refine⟨_,rfl,zoo (s:={ s with heap:=h',toks:=tk }) (n:="range_iterator") st' rfl rfl dz ⟨.int (lo+i),H,I1,⟨t,?_⟩,⟨rfl,rfl⟩,st',fun b hb=>(hf b hb).1⟩⟩;rw [Int.mul_one]
 done:=by
  intro X hP hw hK hc i zh s σ H E I hf st hg;subst hP hw hK;obtain⟨f0,f1,f2,f3,f4,f5⟩:=hf it (by simp);exact wpAny_pyNext_range_end (I.ok.hd hc) st (by have:n<=i:=hg; omega) fun h' eb=>⟨rfl,I.turned (t':=s.toks) (fun b o hb e=>eb b o hb e) f0 f1 f3 f4 f5⟩
 self:=fun _ _ _ _ _ st h=>wpAny_pyIter_rangeiter st h
end
section
section
variable {X:Cx} {tg:Expr}
def zqH(K:W.Frag)(tl:TE):TI:=fun σ H R=>tl σ H fun x H1=>∃ a,x=.ref a/\(∃ xs,SqL K H1 a xs)/\R (Itl K a) H1
theorem zq6{l:Expr}{tl:TE}(hl:PE X l tl):PI X tg l (zqH X.K tl):=by
 intro zh s σ H R I h;refine thn (hl zh s σ H _ I h) fun v s1 ⟨x,H1,I1,r1,q1⟩=>?_;obtain⟨a,e,⟨xs,hq⟩,q⟩:=q1;subst e;cases r1;obtain⟨its,rv,p,hz⟩:=I1.list hq;refine wpAny_pyIter_list p.isList ?_;refine⟨s1.heap.objs.size,[s1.heap.objs.size],_,_,H1,rfl,I1.kept (t':=s1.toks) fun b o e=>get?_push_of_some _ e,ziv a _,⟨_,get?_push_size _ rfl,rfl,rfl⟩,fun b hb=>?_,q⟩;have e:b=s1.heap.objs.size:=by simpa using hb
 subst e;exact I1.fpOk (le_refl _) (I1.hok.fresh (le_refl _))
def ztw(wi:TI)(g:TG)(tb:TS):TS:=fun D σ H=>wi σ H fun J H1=>∃ W:Nat->Nat->St->Hp->Prop,(∃ m,W 0 m σ H1)/\∀ i m σ H,W i m σ H ->
 (J.stop i H/\D.nx σ H)\/(J.go i H/\∃ N:St->Hp->Prop,(∀ σ' H',N σ' H'->∃ m',m'<m/\W (i+1) m' σ' H')/\∀ x H',J.yld i H x H'->g x σ H' fun σ2 H2=>tb { D with nx:=N,ct:=N,bk:=D.nx } σ2 H2)
def ziP(fp:List Addr)(h:Heap):List (Addr×Obj):=fp.filterMap fun b=>(h.get? b).map fun o=>(b,o)
theorem zdv{fp:List Addr}{h:Heap}{b:Addr}{o:Obj}(hb:b∈fp)(e:h.get? b=some o):(b,o)∈ziP fp h:=List.mem_filterMap.mpr ⟨b,hb,by rw [e]; rfl⟩
theorem zlU{fp:List Addr}{h:Heap}{p:Addr×Obj}(hp:p∈ziP fp h):p.1∈fp/\h.get? p.1=some p.2:=by
 obtain⟨b,hb,e⟩:=List.mem_filterMap.mp hp;cases q:h.get? b with
 | none=>rw [q] at e; cases e
 | some o =>
  rw [q] at e;have e':(b,o)=p:=Option.some.inj e;subst e';exact⟨hb,q⟩
theorem Inv.pinned{zh:List (Addr×Obj)}{σ:St}{H:Hp}{s:Shared}{fp:List Addr}(I:Inv X zh σ H s)(hf:∀ b∈fp,FpOk X zh H b)(ho:∀ b∈fp,∃ o,s.heap.get? b=some o/\∀ v,o.data≠.cell v):Inv X (zh++ziP fp s.heap) σ H s :=
 I.pins_of fun p hp=>(mem_append.mp hp).elim (fun z=>I.pin p (mem_append_right _ z)) fun z=>by
  obtain⟨hb,e⟩:=zlU z;obtain⟨f0,f1,f2,_⟩:=hf p.1 hb;obtain⟨o,e',d⟩:=ho p.1 hb;rw [e] at e'; cases e';exact⟨e,f0,f1,f2,d⟩
theorem Inv.unpinned{zh pl:List (Addr×Obj)}{σ:St}{H:Hp}{s:Shared}(I:Inv X (zh++pl) σ H s):Inv X zh σ H s:=I.pins_of fun p hp=>I.pin p (mem_append_right _ (mem_append_left _ hp))
theorem zbc{iter:Expr}{body:List Stmt}{wi:TI}{g:TG}{tb:TS}{pos:Pos}(hp:PassesOwn (model X.prog X.w) X.A X.env X.xe)(hc:X.calm=true)(hi:PI X tg iter wi)(hg:PG X tg g)(hb:PSs X body tb)
  (hs:∀ x,foldedSetIterable iter X.env x=pure x:=by intro _; rfl):PS X (.For tg iter body [] pos) (ztw wi g tb):=by
 intro zh s σ H D I h;refine wpAny_For (thn (hi zh s σ H _ I h) fun v s1 h1=>thn h1 fun itv s2 h2=>?_) hs;obtain⟨it,fp,tn,J,H2,e,I2,T,st2,f2,W,⟨m0,w0⟩,turn⟩:=h2;subst e
 -- what stays true of the iterator's objects through the loop
 have stat:∀ {H':Hp},(∀ b∈fp,H' b=none)->∀ b∈fp,FpOk X zh H' b:=fun hn b hb=>⟨hn b hb,(f2 b hb).2⟩;refine codeAny_forLoop_any (fun n s'=>∃ i σ' H',Inv X zh σ' H' s'/\tn i s'.heap/\(∀ b∈fp,H' b=none)/\W i n σ' H') ?_ m0 ⟨0,σ,H2,I2,st2,fun b hb=>(f2 b hb).1,w0⟩;rintro n s3 ⟨i,σ3,H3,I3,st3,fr3,w3⟩;rcases turn i n σ3 H3 w3 with ⟨stop,qn⟩ | ⟨go,N,hN,step⟩
 ·refine wpAny_passesOwn hp (thn (T.done X rfl rfl rfl hc i zh s3 σ3 H3 X.xe I3 (stat fr3) st3 stop) fun r s4 ⟨hr,I4⟩=>?_);subst hr;exact wpAny_execs_nil ⟨σ3,H3,I4,qn⟩
 ·refine wpAny_passesOwn hp (thn (T.item X rfl rfl rfl hc i zh s3 σ3 H3 X.xe I3 (stat fr3) st3 go) fun r s4 ⟨u,hr,h4⟩=>?_);subst hr;refine wpAny_passesOwn hp (thn h4 fun _ s5 ⟨x,H5,I5,r5,y5,st5,fr5⟩=>?_);have I5':=I5.pinned (stat fr5) (T.obj _ _ st5);refine wpAny_passesOwn hp (thn (hg _ s5 σ3 H5 x u _ I5' r5 (step x H5 y5)) fun _ s6 ⟨σ6,H6,I6,q6⟩=>?_);refine wpAny_passesOwn hp (thn (hb _ s6 σ6 H6 _ I6 q6) fun f s7 q7=>?_);have again:∀ {σ7:St} {H7:Hp},Inv X (zh++ziP fp s5.heap) σ7 H7 s7->N σ7 H7->∃ m,m<n/\∃ i σ' H',Inv X zh σ' H' s7/\tn i s7.heap/\(∀ b∈fp,H' b=none)/\W i m σ' H':=fun {σ7 H7} I7 n7=>by
   obtain⟨m',hm,w7⟩:=hN σ7 H7 n7;refine⟨m',hm,i+1,σ7,H7,I7.unpinned,T.keep _ _ _ st5 fun b hb o e=>(I7.pin (b,o) (mem_append_right _ (mem_append_right _ (zdv hb e)))).1,fun b hb=>?_,w7⟩;obtain⟨o,e,d⟩:=T.obj _ _ st5 b hb;exact(I7.pin (b,o) (mem_append_right _ (mem_append_right _ (zdv hb e)))).2.1
  cases f with
  | next=>obtain⟨σ7,H7,I7,n7⟩:=q7; exact again I7 n7
  | cont=>obtain⟨σ7,H7,I7,n7⟩:=q7; exact again I7 n7
  | brk=>obtain⟨σ7,H7,I7,q7⟩:=q7; exact⟨σ7,H7,I7.unpinned,q7⟩
  | ret v=>obtain⟨x7,σ7,H7,I7,r7,q7⟩:=q7; exact⟨x7,σ7,H7,I7.unpinned,r7,q7⟩
end
theorem znK{K:W.Frag}{a:Addr}{xs:List V}{g:TG}{tb:TS}{D:Ends}{σ:St}{H:Hp}(Pv:Nat->St->Hp->Prop)(h0:Pv 0 σ H)(hl:∀ i σ H,i<=xs.length->Pv i σ H->SqL K H a xs)
  (hs:∀ i x σ H,xs[i]? = some x->Pv i σ H->g x σ H fun σ2 H2=>tb { D with nx:=Pv (i+1),ct:=Pv (i+1),bk:=D.nx } σ2 H2) (hd:∀ σ H,Pv xs.length σ H->D.nx σ H) :
  ∃ W:Nat->Nat->St->Hp->Prop,(∃ m,W 0 m σ H)/\∀ i m σ H,W i m σ H ->
   ((Itl K a).stop i H/\D.nx σ H)\/((Itl K a).go i H/\∃ N:St->Hp->Prop,(∀ σ' H',N σ' H'->∃ m',m'<m/\W (i+1) m' σ' H')/\∀ x H',(Itl K a).yld i H x H'->g x σ H' fun σ2 H2=>tb { D with nx:=N,ct:=N,bk:=D.nx } σ2 H2):=by
 refine⟨fun i m σ H=>m=xs.length - i/\i<=xs.length/\Pv i σ H,⟨xs.length,by simp,zero_le _,h0⟩,?_⟩;rintro i m σ H ⟨rfl,hi,p⟩;have q:=hl i σ H hi p;by_cases hlt:i<xs.length
 ·refine .inr ⟨⟨xs,xs[i],q,by simp [hlt]⟩,Pv (i+1),fun σ' H' p'=>⟨xs.length - (i+1),by omega,rfl,hlt,p'⟩,fun x H' y=>?_⟩;obtain⟨e,y⟩:=y;subst e;exact hs i x σ _ (y xs q) p
 ·have e:i=xs.length:=by omega
  subst e;exact .inl ⟨⟨xs,q,le_refl _⟩,hd σ H p⟩
end
section
abbrev R2:=V->V->Hp->VK->Prop
def OpR(X:Cx)(f:Value->Value->Sem Value)(r:R2):Prop :=
 ∀ (zh:List (Addr×Obj)) (s:Shared) (σ:St) (H:Hp) (x y:V) (v u:Value) (Q:VK),Inv X zh σ H s->RelV x v->RelV y u->r x y H Q ->
  wpAny (model X.prog X.w) X.A (f v u) (EP X zh σ Q) X.xe s
def UnR(X:Cx)(f:Value->Sem Value)(r:V->Hp->VK->Prop):Prop :=
 ∀ (zh:List (Addr×Obj)) (s:Shared) (σ:St) (H:Hp) (x:V) (v:Value) (Q:VK),Inv X zh σ H s->RelV x v->r x H Q ->
  wpAny (model X.prog X.w) X.A (f v) (EP X zh σ Q) X.xe s
def CallR(X:Cx)(f:Value)(r:List V->Hp->VK->Prop):Prop :=
 ∀ (zh:List (Addr×Obj)) (s:Shared) (σ:St) (H:Hp) (xs:List V) (us:List Value) (Q:VK),Inv X zh σ H s->Vals xs us->r xs H Q ->
  wpAny (model X.prog X.w) X.A (call f us) (EP X zh σ Q) X.xe s
def TruR(X:Cx)(r:V->Hp->(Bool->Hp->Prop)->Prop):Prop :=
 ∀ (zh:List (Addr×Obj)) (s:Shared) (σ:St) (H:Hp) (x:V) (v:Value) (Q:Bool->Hp->Prop),Inv X zh σ H s->RelV x v->r x H Q ->
  wpAny (model X.prog X.w) X.A (truthy v) (TP X zh σ Q) X.xe s
def tOp(r:R2)(ta tb:TE):TE:=fun σ H Q=>ta σ H fun x H1=>tb σ H1 fun y H2=>r x y H2 Q
def tUn(r:V->Hp->VK->Prop)(ta:TE):TE:=fun σ H Q=>ta σ H fun x H1=>r x H1 Q
def rI(C:Int->Int->Prop)(g:Int->Int->V):R2:=fun x y H Q=>∃ i j,x=.int i/\y=.int j/\C i j/\Q (g i j) H
def rI0(g:Int->Int->V):R2:=fun x y H Q=>∃ i j,x=.int i/\y=.int j/\Q (g i j) H
def rU(g:Int->V):V->Hp->VK->Prop:=fun x H Q=>∃ i,x=.int i/\Q (g i) H
section
variable {X:Cx} {a b c:Expr} {ta tb tc:TE} {pos:Pos}
theorem zt8(ha:PE X a ta)(hb:PE X b tb){zh:List (Addr×Obj)}{s:Shared}{σ:St}{H:Hp}{R:V->V->Hp->Prop}(I:Inv X zh σ H s)
  (h:ta σ H fun x H1=>tb σ H1 fun y H2=>R x y H2) {Q:Value->Shared->Prop} {f:Value->Value->Sem Value}
  (hf:∀ v u s2 x y H2,Inv X zh σ H2 s2->RelV x v->RelV y u->R x y H2->wpAny (model X.prog X.w) X.A (f v u) Q X.xe s2) :
  wpAny (model X.prog X.w) X.A (eval a X.env) (fun v s₁=>wpAny (model X.prog X.w) X.A (eval b X.env) (fun u s₂=>wpAny (model X.prog X.w) X.A (f v u) Q X.xe s₂) X.xe s₁) X.xe s:=by
 refine thn (ha zh s σ H _ I h) fun v s1 ⟨x,H1,I1,r1,q1⟩=>?_;refine thn (hb zh s1 σ H1 _ I1 q1) fun u s2 ⟨y,H2,I2,r2,q2⟩=>?_;exact hf v u s2 x y H2 I2 r1 r2 q2
theorem zF{op:Operator}{r:R2}(ho:OpR X (binaryOp op) r)(ha:PE X a ta)(hb:PE X b tb):PE X (.BinOp a op b pos) (tOp r ta tb):=by
 intro zh s σ H Q I h;exact wpAny_BinOp (zt8 ha hb I h fun v u s2 x y H2 I2 rx ry q=>ho zh s2 σ H2 x y v u Q I2 rx ry q)
theorem zeG{op:UnaryOp}{r:V->Hp->VK->Prop}(ho:UnR X (unaryOp op) r)(ha:PE X a ta):PE X (.UnaryOp op a pos) (tUn r ta):=by
 intro zh s σ H Q I h;exact UnaryOp_ (thn (ha zh s σ H _ I h) fun v s1 ⟨x,H1,I1,r1,q1⟩=>ho zh s1 σ H1 x v Q I1 r1 q1)
theorem opI{f:Value->Value->Sem Value}{C:Int->Int->Prop}{g:Int->Int->Int}
  (rule:∀ (i j:Int) (t u:Tok) (s:Shared) (Q:Value->Shared->Prop) (E:Value->Shared->Prop),C i j->Q (.int (g i j) s.toks) { s with toks:=s.toks+1 }->wpAny (model X.prog X.w) X.A (f (.int i t) (.int j u)) Q E s) :
  OpR X f (rI C fun i j=>.int (g i j)):=by
 intro zh s σ H x y v u Q I rx ry h;obtain⟨i,j,rfl,rfl,hc,q⟩:=h;obtain⟨t,rfl⟩:=rx;obtain⟨t',rfl⟩:=ry;exact rule i j t t' s _ _ hc ⟨.int (g i j),H,I.tok _,⟨_,rfl⟩,q⟩
theorem zuA{f:Value->Value->Sem Value}{g:Int->Int->Int}
  (rule:∀ (i j:Int) (t u:Tok) (s:Shared) (Q:Value->Shared->Prop) (E:Value->Shared->Prop),Q (.int (g i j) s.toks) { s with toks:=s.toks+1 }->wpAny (model X.prog X.w) X.A (f (.int i t) (.int j u)) Q E s) :
  OpR X f (rI0 fun i j=>.int (g i j)):=by
 intro zh s σ H x y v u Q I rx ry h;obtain⟨i,j,rfl,rfl,q⟩:=h;obtain⟨t,rfl⟩:=rx;obtain⟨t',rfl⟩:=ry;exact rule i j t t' s _ _ ⟨.int (g i j),H,I.tok _,⟨_,rfl⟩,q⟩
theorem ztu{f:Value->Value->Sem Value}{g:Int->Int->Bool}
  (rule:∀ (i j:Int) (t u:Tok) (s:Shared) (Q:Value->Shared->Prop) (E:Value->Shared->Prop),Q (.bool (g i j)) s->wpAny (model X.prog X.w) X.A (f (.int i t) (.int j u)) Q E s) :
  OpR X f (rI0 fun i j=>.bl (g i j)):=by
 intro zh s σ H x y v u Q I rx ry h;obtain⟨i,j,rfl,rfl,q⟩:=h;obtain⟨t,rfl⟩:=rx;obtain⟨t',rfl⟩:=ry;exact rule i j t t' s _ _ ⟨.bl (g i j),H,I,rfl,q⟩
def CDivN(i j:Int):Prop:=j≠0/\j.natAbs<1073741824
def CPow(i j:Int):Prop:=0<=j/\j<=1000000/\i.natAbs<2 ^ 64
theorem zrC:OpR X (binaryOp .Add) (rI0 fun i j=>.int (i+j)):=zuA fun _ _ _ _ _ _ _ q=>add_int q
theorem zcj:OpR X (binaryOp .Sub) (rI0 fun i j=>.int (i - j)):=zuA fun _ _ _ _ _ _ _ q=>sub_int q
theorem znM:OpR X (binaryOp .FloorDiv) (rI CDivN fun i j=>.int (i.fdiv j)):=opI fun _ _ _ _ _ _ _ hc q=>floordiv_int hc.1 q (.inl (PyProof.noPylong_small hc.2))
theorem zed:OpR X (binaryOp .Mod) (rI (fun _ j=>0<j) fun i j=>.int (i % j)):=opI fun i j _ _ _ _ _ hc q=>by
 have h1:(0:Int)<j:=hc;exact mod_int' (by omega) (by rw [Int.fmod_eq_emod_of_nonneg i (by omega)]; exact q)
theorem zgG:OpR X (binaryOp .Pow) (rI CPow fun i j=>.int (i ^ j.toNat)):=opI fun _ _ _ _ _ _ _ hc q=>pow_int_small hc.1 hc.2.1 hc.2.2 q
theorem unI{f:Value->Sem Value}{g:Int->Int}
  (rule:∀ (i:Int) (t:Tok) (s:Shared) (Q:Value->Shared->Prop) (E:Value->Shared->Prop),Q (.int (g i) s.toks) { s with toks:=s.toks+1 }->wpAny (model X.prog X.w) X.A (f (.int i t)) Q E s) :
  UnR X f (rU fun i=>.int (g i)):=by
 intro zh s σ H x v Q I rx h;obtain⟨i,rfl,q⟩:=h;obtain⟨t,rfl⟩:=rx;exact rule i t s _ _ ⟨.int (g i),H,I.tok _,⟨_,rfl⟩,q⟩
theorem zcz:UnR X (unaryOp .USub) (rU fun i=>.int (-i)):=unI fun _ _ _ _ _ q=>neg_int q
end
section
variable {X:Cx} {a b c:Expr} {ta tb tc:TE} {pos:Pos}
theorem zo3{zh:List (Addr×Obj)}{σ:St}{H:Hp}{s:Shared}{Q:VK}{k k':Bool}(I:Inv X zh σ H s)(q:Q (.bl k) H)(e:k=k'):EP X zh σ Q (.bool k') s:=by
 subst e;exact⟨.bl k,H,I,rfl,q⟩
theorem zp5:OpR X (compareOp .Lt) (rI0 fun i j=>.bl (decide (i<j))):=ztu fun _ _ _ _ _ _ _ q=>lt_int q
theorem zkN:OpR X (compareOp .LtE) (rI0 fun i j=>.bl (decide (i<=j))):=ztu fun _ _ _ _ _ _ _ q=>le_int q
theorem zjA:OpR X (compareOp .Gt) (rI0 fun i j=>.bl (decide (j<i))):=ztu fun _ _ _ _ _ _ _ q=>gt_int q
theorem zrX:OpR X (compareOp .GtE) (rI0 fun i j=>.bl (decide (j<=i))):=ztu fun _ _ _ _ _ _ _ q=>ge_int q
theorem zr6:OpR X (compareOp .Is) (fun x y H Q=>y=.non/\Q (.bl (decide (x=.non))) H):=by
 intro zh s σ H x y v u Q I rx ry h;obtain⟨rfl,q⟩:=h;cases ry;refine is_none_gen (zo3 I q ?_);cases x <;> first
  | (cases rx; rfl)
  | (obtain⟨t,rfl⟩:=rx; rfl)
theorem zqG:OpR X (compareOp .IsNot) (fun x y H Q=>y=.non/\Q (.bl (!decide (x=.non))) H):=by
 intro zh s σ H x y v u Q I rx ry h;obtain⟨rfl,q⟩:=h;cases ry;refine isnot_none_gen (zo3 I q ?_);cases x <;> first
  | (cases rx; rfl)
  | (obtain⟨t,rfl⟩:=rx; rfl)
theorem OpR.or{f:Value->Value->Sem Value}{r r':R2}(h:OpR X f r)(h':OpR X f r'):OpR X f (fun x y H Q=>r x y H Q\/r' x y H Q):=by
 intro zh s σ H x y v u Q I rx ry q;rcases q with q | q
 ·exact h zh s σ H x y v u Q I rx ry q
 ·exact h' zh s σ H x y v u Q I rx ry q
theorem nomark(b:Expr){op:CmpOp}(h:op≠.In:=by decide)(h2:op≠.NotIn:=by decide):behindInMarks op b=false:=by
 have e1:(op == CmpOp.In)=false:=by cases op <;> first | rfl | exact absurd rfl h
 have e2:(op == CmpOp.NotIn)=false:=by cases op <;> first | rfl | exact absurd rfl h2
 cases b <;> simp [behindInMarks,e1,e2]
theorem zjw{op:CmpOp}{r:R2}(ho:OpR X (compareOp op) r)(ha:PE X a ta)(hb:PE X b tb)(hm:behindInMarks op b=false):PE X (.Compare a [op] [b] pos) (tOp r ta tb):=by
 intro zh s σ H Q I h;exact wpAny_Compare1 (zt8 ha hb I h fun v u s2 x y H2 I2 rx ry q=>ho zh s2 σ H2 x y v u Q I2 rx ry q) hm
def zqp(t:TE):TT:=fun σ H Q=>t σ H fun x H'=>∃ k,x=.bl k/\Q k H'
theorem zV{op:CmpOp}{r:R2}(ho:OpR X (compareOp op) r)(ha:PE X a ta)(hb:PE X b tb)(hm:behindInMarks op b=false):PT X (.Compare a [op] [b] pos) (zqp (tOp r ta tb)):=by
 intro zh s σ H Q I h;refine wpAny_isTrue_Compare1 (thn (ha zh s σ H _ I h) fun v s1 ⟨x,H1,I1,r1,q1⟩=>thn (hb zh s1 σ H1 _ I1 q1) fun u s2 ⟨y,H2,I2,r2,q2⟩ =>
  thn (ho zh s2 σ H2 x y v u _ I2 r1 r2 q2) fun c s3 ⟨z,H3,I3,r3,k,e,q3⟩=>?_) hm
 subst e;cases r3;exact wpAny_truthy_bool ⟨H3,I3,q3⟩
def zpT(r r':R2)(ta tb tc:TE):TE:=fun σ H Q=>ta σ H fun x H1=>tb σ H1 fun y H2=>r x y H2 fun z H3=>∃ k,z=.bl k /\
 (if k=true then tc σ H3 fun w' H4=>r' y w' H4 Q else Q (.bl false) H3)
theorem zky{op op':CmpOp}{r r':R2}(ho:OpR X (compareOp op) r)(ho':OpR X (compareOp op') r')(ha:PE X a ta)(hb:PE X b tb)(hc:PE X c tc)
  (hm:lastMarks [op,op'] [b,c]=false:=by with_unfolding_all rfl):PE X (.Compare a [op,op'] [b,c] pos) (zpT r r' ta tb tc):=by
 intro zh s σ H Q I h;refine Compare_chain (thn (ha zh s σ H _ I h) fun v s1 ⟨x,H1,I1,r1,q1⟩=>chain_link (thn (hb zh s1 σ H1 _ I1 q1) fun u s2 ⟨y,H2,I2,r2,q2⟩ =>
  thn (ho zh s2 σ H2 x y v u _ I2 r1 r2 q2) fun d s3 ⟨z,H3,I3,r3,k,e,q3⟩=>?_)) hm
 subst e;cases r3;refine wpAny_truthy_bool ?_;cases k with
 | false=>exact ite_ff ⟨.bl false,H3,I3,rfl,q3⟩
 | true=>exact ite_tt (chain_last (thn (hc zh s3 σ H3 _ I3 q3) fun w' s4 ⟨z',H4,I4,r4,q4⟩=>ho' zh s4 σ H4 y z' u w' Q I4 r2 r4 q4))
def TruV(K:W.Frag)(x:V)(H:Hp)(k:Bool):Prop :=
 match x with
 | .non=>k=false
 | .bl b=>k=b
 | .int i=>k=(i != 0)
 | .str y=>y.length<=sizeLine/\k=((y.length:Int) != 0)
 | .byt y=>y.size<=sizeLine/\k=((y.size:Int) != 0)
 | .ref p=>(∃ xs,SqL K H p xs/\k = !xs.isEmpty)\/(∃ xs,SqT K H p xs/\k = !xs.isEmpty)\/∃ kvs,H p=some (.dK kvs)/\k = !kvs.isEmpty
 | _=>False
theorem zlf{κ:Type}{kvs:List (κ×V)}{vs:List (κ×Value)}(r:KV kvs vs):(!vs.isEmpty) = !kvs.isEmpty:=by
 cases r <;> rfl
theorem zgU{xs:List V}{its:List Value}(r:Vals xs its):(!its.toArray.isEmpty) = !xs.isEmpty:=by
 cases r <;> simp
theorem line63:(sizeLine:Nat)<2 ^ 63:=by rw [sizeLine_eq]; decide
theorem zrV:TruR X (fun x H Q=>∃ k,TruV X.K x H k/\Q k H):=by
 intro zh s σ H x v Q I rx h;obtain⟨k,e,q⟩:=h;have hl:=line63;have hs:sizeLine=16777216:=sizeLine_eq;cases x with
 | non =>
  cases rx;have e':k=false:=e;subst e';exact truthy_none ⟨H,I,q⟩
 | bl b =>
  cases rx;have e':k=b:=e;subst e';exact wpAny_truthy_bool ⟨H,I,q⟩
 | int i =>
  obtain⟨t,rfl⟩:=rx;have e':k=(i != 0):=e;subst e';exact PySem.P.truthy_int ⟨H,I,q⟩
 | str y =>
  obtain⟨t,rfl⟩:=rx;obtain⟨hy,e'⟩:y.length<=sizeLine/\k=((y.length:Int) != 0):=e;subst e';exact PySem.P.truthy_str (by omega) ⟨H,I.tok _,q⟩
 | byt y =>
  obtain⟨t,rfl⟩:=rx;obtain⟨hy,e'⟩:y.size<=sizeLine/\k=((y.size:Int) != 0):=e;subst e';exact W.truthy_bytes (by omega) ⟨H,I.tok _,q⟩
 | ref p =>
  cases rx;have e':(∃ xs,SqL X.K H p xs/\k = !xs.isEmpty)\/(∃ xs,SqT X.K H p xs/\k = !xs.isEmpty)\/∃ kvs,H p=some (.dK kvs)/\k = !kvs.isEmpty:=e;rcases e' with ⟨xs,hx,e'⟩ | ⟨xs,hx,e'⟩ | ⟨kvs,hx,e'⟩
  ·subst e';obtain⟨its,r,pl,hz⟩:=I.list hx;have hlen:=r.length;exact wpAny_truthy_list pl.isList (by simp only [size_toArray]; omega) ⟨H,I.tok _,by rw [zgU r]; exact q⟩
  ·subst e';obtain⟨its,r,pl,hz⟩:=I.tuple hx;have hlen:=r.length;exact truthy_tuple pl (by simp only [size_toArray]; omega) ⟨H,I.tok _,by rw [zgU r]; exact q⟩
  ·subst e';obtain⟨hz,hS,vs,r,m⟩:kvs.length<=sizeLine/\(p == sysModules)=false/\∃ vs,KV kvs vs/\s.heap.DictOf (zje X.prog X.w) p vs:=I.hok p _ hx;have hlen:kvs.length=vs.length:=Paired.length r;exact wpAny_truthy_dict hS m (by omega) ⟨H,I.tok _,by rw [zlf r]; exact q⟩
 | _=>exact(show False from e).elim
theorem za4(ha:PE X a ta)(he:∀ whole,isTrue a X.env whole=(do let v <- whole; standAt a.pos; holding [v] (truthy v))):
  PT X a (fun σ H Q=>ta σ H fun x H'=>∃ k,TruV X.K x H' k/\Q k H'):=by
 intro zh s σ H Q I h;exact isTrue_plain (thn (ha zh s σ H _ I h) fun v s1 ⟨x,H1,I1,r1,q1⟩=>zrV zh s1 σ H1 x v Q I1 r1 q1) (he _)
theorem zk6:OpR X (binaryOp .Add) (fun x y H Q=>∃ i j,x=.str i/\y=.str j/\i.length+j.length<=sizeLine/\Q (.str (i++j)) H):=by
 intro zh s σ H x y v u Q I rx ry h;obtain⟨i,j,rfl,rfl,hz,q⟩:=h;obtain⟨t,rfl⟩:=rx;obtain⟨t',rfl⟩:=ry;exact add_str (fun t' tk=>⟨.str (i++j),H,I.tok _,⟨_,rfl⟩,q⟩) hz
theorem vals1{x:V}{us:List Value}(r:Vals [x] us):∃ u,us=[u]/\RelV x u:=by
 cases r with
 | cons r1 r2=>cases r2; exact⟨_,rfl,r1⟩
theorem vals2{x y:V}{us:List Value}(r:Vals [x,y] us):∃ u w',us=[u,w']/\RelV x u/\RelV y w':=by
 cases r with
 | cons r1 r2 =>
  cases r2 with
  | cons r3 r4=>cases r4; exact⟨_,_,rfl,r1,r3⟩
theorem zfB(hc:X.calm=true):CallR X (.builtin "max") (fun xs H Q=>∃ i j,xs=[.int i,.int j]/\Q (.int (if j>i then j else i)) H):=by
 intro zh s σ H xs us Q I r h;obtain⟨i,j,rfl,q⟩:=h;obtain⟨u,w',rfl,⟨t,rfl⟩,⟨t',rfl⟩⟩:=vals2 r;refine max_two_ints (I.ok.hd hc) fun h' tk k=>⟨_,H,I.kept k,?_,q⟩;by_cases hj:j>i
 ·rw [if_pos hj,if_pos hj]; exact⟨_,rfl⟩
 ·rw [if_neg hj,if_neg hj]; exact⟨_,rfl⟩
theorem ziV(hc:X.calm=true):CallR X (.builtin "min") (fun xs H Q=>∃ i j,xs=[.int i,.int j]/\Q (.int (if j<i then j else i)) H):=by
 intro zh s σ H xs us Q I r h;obtain⟨i,j,rfl,q⟩:=h;obtain⟨u,w',rfl,⟨t,rfl⟩,⟨t',rfl⟩⟩:=vals2 r;refine min_two_ints (I.ok.hd hc) fun h' tk k=>⟨_,H,I.kept k,?_,q⟩;by_cases hj:j<i
 ·rw [if_pos hj,if_pos hj]; exact⟨_,rfl⟩
 ·rw [if_neg hj,if_neg hj]; exact⟨_,rfl⟩
theorem zl9:CallR X (.type "int") (fun xs H Q=>(∃ i,xs=[.int i]/\Q (.int i) H)\/∃ k,xs=[.bl k]/\Q (.int (if k then 1 else 0)) H):=by
 intro zh s σ H xs us Q I r h;rcases h with ⟨i,rfl,q⟩ | ⟨k,rfl,q⟩
 ·obtain⟨u,rfl,t,rfl⟩:=vals1 r;exact call_int_int ⟨.int i,H,I,⟨_,rfl⟩,q⟩
 ·obtain⟨u,rfl,r1⟩:=vals1 r;cases r1;exact call_int_bool ⟨.int (if k then 1 else 0),H,I.tok _,⟨_,rfl⟩,q⟩
end
end
section
structure ObjM(h:Heap)(x dx C:Addr)(mA:Str->Option Value):Prop where
 obj:h.get? x=some (W.instObj C dx)
 ns:h.Ns1 dx mA
 ne:dx≠x
theorem ziS{h:Heap}{dx:Addr}{mA:Str->Option Value}(n:h.Ns1 dx mA):∃ od,h.get? dx=some od/\∀ name,W.lookIn name od=some (mA name):=by
 obtain⟨o,es,ep,ho,hd,hk,_,hm⟩:=n;refine⟨o,ho,fun name=>?_⟩;have e:=hm name;unfold nsFind findBy at e;rw [<- Array.find?_toList] at e;unfold W.lookIn;rw [hd];dsimp only;split
 ·rename_i y q;rw [q] at e;exact congrArg some e
 ·rename_i q;rw [q] at e;have a:es.toList.any (·.refKey)=false:=by
   rw [List.any_eq_false];intro y hy;obtain⟨z,t,hkey⟩:=hk y (Array.mem_toList_iff.mp hy);simp [DictEntry.refKey,hkey]
  have a':¬ es.toList.any (·.refKey)=true:=by rw [a]; exact Bool.false_ne_true
  rw [if_neg a'];exact congrArg some e
theorem ObjM.look{h:Heap}{x dx C:Addr}{mA:Str->Option Value}(I:ObjM h x dx C mA):∃ od,W.InstAt h x (W.instObj C dx) C (some od)/\∀ name,W.lookIn name od=some (mA name) :=
 let ⟨od,ho,hl⟩:=ziS I.ns
 ⟨od,⟨I.obj,rfl,rfl,ho⟩,hl⟩
def zjh(f:Str)(v:V):List (Str×V)->List (Str×V)
 | []=>[(f,v)]
 | (g,x) :: r=>if g=f then (g,v) :: r else (g,x) :: zjh f v r
theorem zdN(f g:Str)(v:V):∀ fs:List (Str×V),(zjh f v fs).lookup g=if g=f then some v else fs.lookup g
 | []=>by
  show List.lookup g [(f,v)]=_;by_cases h:g=f
  ·have hb:(g == f)=true:=beq_iff_eq.mpr h;simp only [List.lookup,hb,if_pos h]
  ·have hb:(g == f)=false:=beq_eq_false_iff_ne.mpr h;simp only [List.lookup,hb,if_neg h]
 | (k,x) :: r=>by
  have ih:=zdN f g v r;rw [show zjh f v ((k,x) :: r)=(if k=f then (k,v) :: r else (k,x) :: zjh f v r) from rfl];by_cases hk:k=f
  ·rw [if_pos hk];by_cases h:g=k
   ·have hb:(g == k)=true:=beq_iff_eq.mpr h;simp only [List.lookup,hb,if_pos (h.trans hk)]
   ·have hb:(g == k)=false:=beq_eq_false_iff_ne.mpr h;simp only [List.lookup,hb,if_neg (fun e:g=f=>h (e.trans hk.symm))]
  ·rw [if_neg hk];by_cases h:g=k
   ·have hb:(g == k)=true:=beq_iff_eq.mpr h;simp only [List.lookup,hb,if_neg (fun e:g=f=>hk (h.symm.trans e))]
   ·have hb:(g == k)=false:=beq_eq_false_iff_ne.mpr h;simp only [List.lookup,hb];exact ih
theorem zf9(f:Str)(v:V):∀ fs:List (Str×V),f∈(zjh f v fs).map (·.1)/\∀ g,g∈fs.map (·.1)->g∈(zjh f v fs).map (·.1)
 | []=>⟨by simp [zjh],fun g h=>by simp at h⟩
 | (k,x) :: r=>by
  obtain⟨i1,i2⟩:=zf9 f v r;rw [show zjh f v ((k,x) :: r)=(if k=f then (k,v) :: r else (k,x) :: zjh f v r) from rfl];by_cases hk:k=f
  ·rw [if_pos hk];subst hk;exact⟨by simp,fun g h=>by simpa using h⟩
  ·rw [if_neg hk];refine⟨?_,fun g h=>?_⟩
   ·rw [map_cons];exact mem_cons_of_mem _ i1
   ·rw [map_cons] at h ⊢;rcases mem_cons.mp h with e | e
    ·exact mem_cons.mpr (.inl e)
    ·exact mem_cons_of_mem _ (i2 g e)
theorem zl2{v:V}{u:Value}(r:RelV v u):W.handedIn u=true:=by
 cases v with
 | non=>cases (show u=Value.none from r); rfl
 | bl b=>cases (show u=Value.bool b from r); rfl
 | int i=>obtain⟨t,e⟩:=(show ∃ t,u=Value.int i t from r); cases e; rfl
 | str x=>obtain⟨t,e⟩:=(show ∃ t,u=Value.str x t from r); cases e; rfl
 | byt b=>obtain⟨t,e⟩:=(show ∃ t,u=Value.bytes b t from r); cases e; rfl
 | flt b=>obtain⟨t,e⟩:=(show ∃ t,u=Value.float b t from r); cases e; rfl
 | ref a=>cases (show u=Value.ref a from r); rfl
 | ty n=>cases (show u=Value.type n from r); rfl
section
variable {P:Program} {w:World} {H H':Hp} {h h':Heap} {a C dx:Addr} {fs fs':List (Str×V)}
theorem zq7(hok:HOk P w H h)(e:H a=some (.ins C dx fs)):∃ mA,ObjM h a dx C mA/\(∀ f,RelO (fs.lookup f) (mA f))/\PySem.Within mA (fs.map (·.1))/\fs.length<=1000/\H dx=some (.own a):=by
 obtain⟨d,z,ne,ob,mA,n,r,q⟩:=(show ObjOk P w H h a (.ins C dx fs) from hok a _ e);exact⟨mA,⟨ob,n,ne⟩,r,q,z,d⟩
end
structure Cls(K:W.Frag)(C:Addr):Prop where
 pg:W.plainGet K C Str.empty=true
 hd:W.hasDictIn K C=true
 po:W.plainOver K C=true
 sa:W.findIn K (.ref C) "__setattr__" = some (some (.builtin "object.__setattr__"))
theorem Cls.get{K:W.Frag}{C:Addr}(c:Cls K C)(f:Str):W.plainGet K C f=true:=c.pg
def NoAttr(K:W.Frag)(C:Addr)(f:Str):Prop:=W.findIn K (.ref C) f=some none
section
variable {X:Cx} {zh:List (Addr×Obj)} {σ:St} {H:Hp} {s:Shared} {a C dx:Addr} {fs:List (Str×V)} {f:Str} {v:V} {A:Around} {E:Value->Shared->Prop}
theorem zqD{prog:Program}{w:World}{env:Env}{e:Expr}{f:Str}{pos:Pos}{s:Shared}{Q:Value->Shared->Prop}(hb:attributeBase e f env (eval e env)=eval e env)
  (h:wpAny (model prog w) A (eval e env) (fun o s₁=>wpAny (model prog w) A (getAttr o f true) Q E s₁) E s):wpAny (model prog w) A (eval (.Attribute e f pos) env) Q E s :=
 Attribute_any_ h (by rw [arm_eval_Attribute,hb])
end
section
variable {X:Cx} {zh:List (Addr×Obj)} {σ:St} {H:Hp} {s:Shared} {A:Around} {E:Value->Shared->Prop} {Q:Value->Shared->Prop} {c:Value} {b:Bool}
inductive TyOf (K:W.Frag) (H:Hp):V->Value->Prop where
 | non:TyOf K H .non (.type "NoneType")
 | bl (x:Bool):TyOf K H (.bl x) (.type "bool")
 | int (i:Int):TyOf K H (.int i) (.type "int")
 | str (x:Str):TyOf K H (.str x) (.type "str")
 | flt (x:UInt64):TyOf K H (.flt x) (.type "float")
 | lst {a:Addr} {xs:List V} (e:H a=some (.lst xs)):TyOf K H (.ref a) (.type "list")
 | frz {a:Addr} {o:Obj} {xs:List V} (e:H a=some (.frz o (.lst xs))):TyOf K H (.ref a) (.type "list")
 | tup {a:Addr} {xs:List V} (e:H a=some (.tup xs)):TyOf K H (.ref a) (.type "tuple")
 | dK {a:Addr} {kvs:List (Key×V)} (e:Rd H a (.dK kvs)):TyOf K H (.ref a) (.type "dict")
 | dT {a:Addr} {kvs:List (List Key×V)} (e:Rd H a (.dT kvs)):TyOf K H (.ref a) (.type "dict")
 | ins {a C dx:Addr} {fs:List (Str×V)} (e:H a=some (.ins C dx fs)) (cl:Cls K C) (ha:W.findIn K (.ref C) "__class__" = some (some (.builtin "object.__class__")))
   (hn:W.specialIn K (.builtin "object.__class__") "__get__" = some (some (.builtin "getset_descriptor.__get__"))) (htk:W.takesIn K (.builtin "object.__class__")=some true)
   (hm:W.mroIn K C (.type "object")=some true):TyOf K H (.ref a) (.ref C)
theorem zmm{x:V}{u t:Value}(I:Inv X zh σ H s)(rx:RelV x u)(ty:TyOf X.K H x t)(e:W.kitOne X.K t c=some b)(h:∀ tk,Q (.bool b) { s with toks:=tk }):
  wpAny (model X.prog X.w) A (call (.builtin "isinstance") [u,c]) Q E s:=by
 cases ty with
 | non=>cases (show u=Value.none from rx); exact W.kia_one W.kitx_none I.kIn True.intro e (fun z=>nomatch z) h
 | bl y=>cases (show u=Value.bool y from rx); exact W.kia_one W.kitx_bool I.kIn True.intro e (fun z=>nomatch z) h
 | int i=>obtain⟨t,q⟩:=(show ∃ t,u=Value.int i t from rx); cases q; exact W.kia_one W.kitx_int I.kIn True.intro e (fun z=>nomatch z) h
 | str y=>obtain⟨t,q⟩:=(show ∃ t,u=Value.str y t from rx); cases q; exact W.kia_one W.kitx_str I.kIn True.intro e (fun z=>nomatch z) h
 | flt y=>obtain⟨t,q⟩:=(show ∃ t,u=Value.float y t from rx); cases q; exact W.kia_one W.kitx_float I.kIn True.intro e (fun z=>nomatch z) h
 | @lst a xs ea =>
  cases (show u=Value.ref a from rx);obtain⟨_,_,n,_,h1⟩:=(show ObjOk X.prog X.w H s.heap a (.lst xs) from I.hok a _ ea);exact W.kia_one W.kitx_list I.kIn ⟨_,h1,rfl⟩ e (fun z=>nomatch z) h
 | @frz a ob xs ea =>
  cases (show u=Value.ref a from rx);obtain⟨_,_,_,n,_,h1⟩:=(show ObjOk X.prog X.w H s.heap a (.frz ob (.lst xs)) from I.hok a _ ea);exact W.kia_one W.kitx_list I.kIn ⟨_,h1,rfl⟩ e (fun z=>nomatch z) h
 | @tup a xs ea =>
  cases (show u=Value.ref a from rx);obtain⟨_,_,_,p⟩:=(show ObjOk X.prog X.w H s.heap a (.tup xs) from I.hok a _ ea);obtain⟨o,h1,h2,_⟩:=p;exact W.kia_one W.kitx_tuple I.kIn ⟨o,h1,h2⟩ e (fun z=>nomatch z) h
 | @dK a kvs ea =>
  cases (show u=Value.ref a from rx);obtain⟨_,_,vs,_,p⟩:=(show ObjOk X.prog X.w H s.heap a (.dK kvs) from ea.ok I.hok);obtain⟨o,es,ep,h1,h2,_⟩:=p;exact W.kia_one W.kitx_dict I.kIn ⟨o,h1,h2.1⟩ e (fun z=>nomatch z) h
 | @dT a kvs ea =>
  cases (show u=Value.ref a from rx);obtain⟨_,_,xs,_,o,es,ep,h1,h2,_⟩:=(show ObjOk X.prog X.w H s.heap a (.dT kvs) from ea.ok I.hok);exact W.kia_one W.kitx_dict I.kIn ⟨o,h1,h2.1⟩ e (fun z=>nomatch z) h
 | @ins a C dx fs ea cl ha hn htk hm =>
  cases (show u=Value.ref a from rx);obtain⟨mA,O,_⟩:=zq7 I.hok ea;obtain⟨od,J,_⟩:=O.look;exact W.kia_one (W.kitx_own (cl.get _) cl.hd ha hn htk hm) I.kIn J e (fun z=>nomatch z) h
end
end
section
structure Room(k:Nat)(A:Around):Prop where
 hd:A.handled=none
 dp:A.depth+3*k+5<recursionLimit
 un:A.units+16*k+200<cLine
theorem Room.mono{j k:Nat}{A:Around}(r:Room k A)(h:j<=k):Room j A:=⟨r.hd,by have:=r.dp; omega,by have:=r.un; omega⟩
theorem Room.deeper{k:Nat}{A:Around}(r:Room (k+1) A)(env:Env):Room k (A.deeper env) :=
 ⟨r.hd,by have:=r.dp; show A.depth+1+3*k+5<_; omega,by have:=r.un; show A.units+3+16*k+200<_; omega⟩
theorem Room.in1{k:Nat}{A:Around}(r:Room (k+1) A):Room k A.in1 :=
 ⟨r.hd,by have:=r.dp; show A.depth+3*k+5<_; omega,by have:=r.un; show A.units+1+16*k+200<_; omega⟩
theorem zkB{A:Around}{C:Addr}{us:List Value}{kw:List (Str×Value)}:(A.under (.builtin "type.__call__" ⟨.ref C :: us,kw⟩)).depth=A.depth+1:=by
 first | rfl | simp [Around.under,Code.weight,Code.isCreation,Code.isGuard,Code.isCaller,Code.frames,Code.isFrame,guardIds]
theorem zlj{A:Around}{C:Addr}{us:List Value}{kw:List (Str×Value)}:(A.under (.builtin "type.__call__" ⟨.ref C :: us,kw⟩)).units=A.units+1:=by
 first | rfl | simp [Around.under,Code.cUnits,Code.frames,Code.isFrame]
theorem Room.make{k:Nat}{A:Around}(r:Room (k+1) A)(C:Addr)(us:List Value)(kw:List (Str×Value)):Room k (A.under (.builtin "type.__call__" ⟨.ref C :: us,kw⟩)) :=
 ⟨r.hd,by have:=r.dp; rw [zkB]; omega,by have:=r.un; rw [zlj]; omega⟩
theorem Room.depth{k:Nat}{A:Around}(r:Room k A):A.depth<recursionLimit:=by have:=r.dp; omega
theorem Room.units{k:Nat}{A:Around}(r:Room k A):A.units+64<cLine:=by have:=r.un; omega
def zqf:TA:=fun _ H Q=>Q [] H
def ze7(ta:TE)(tr:TA):TA:=fun σ H Q=>ta σ H fun x H1=>tr σ H1 fun xs H2=>Q (x :: xs) H2
section
variable {X:Cx} {e:Expr} {es:List Expr} {te:TE} {t:TA} {pos:Pos}
theorem zc:PA X [] zqf:=fun _ _ _ _ H Q I h=>Calls.spliced_nil ⟨[],H,I,.nil,h⟩
theorem za(ha:PE X e te)(hr:PA X es t)(hs:starEach (e :: es) X.env=(false,eval e X.env) :: starEach es X.env:=by rfl):PA X (e :: es) (ze7 te t):=by
 intro pos zh s σ H Q I h;rw [hs];show wpAny _ _ (spliced ((false,eval e X.env) :: backTo pos (starEach es X.env))) _ _ s;refine Calls.spliced_cons (thn (ha zh s σ H _ I h) fun u s1 ⟨x,H1,I1,r1,q1⟩=>?_);exact thn (hr pos zh s1 σ H1 _ I1 q1) fun us s2 ⟨xs,H2,I2,r2,q2⟩=>⟨x :: xs,H2,I2,.cons r1 r2,q2⟩
def ztO(t:TA):TE:=fun σ H Q=>t σ H fun xs H1=>xs.length<=sizeLine/\∀ p,H1 p=none->Q (.ref p) (upd H1 p (.tup xs))
def zrv(t:TA):TE:=fun σ H Q=>t σ H fun xs H1=>xs.length<=sizeLine/\∀ p,H1 p=none->Q (.ref p) (upd H1 p (.lst xs))
theorem zW{x1}(h:PA X es t):PE X (.Tuple es x1 pos) (ztO t):=by
 intro zh s σ H Q I hq;refine wpAny_Tuple_spliced (thn (h pos zh s σ H _ I hq) fun us s1 ⟨xs,H1,I1,r,z,q⟩=>⟨by rw [<- r.length]; exact z,?_⟩);have hf:H1 s1.heap.objs.size=none:=I1.hok.fresh (le_refl _);refine⟨.ref s1.heap.objs.size,upd H1 s1.heap.objs.size (.tup xs),I1.laid (t':=s1.toks) (fun b u e=>get?_push_of_some _ e) (le_refl _) ?_,rfl,q _ hf⟩;exact⟨⟨z,_,get?_push_size _ rfl,rfl⟩,us,r,⟨_,get?_push_size _ rfl,rfl,_,rfl⟩⟩
theorem zae(h:PA X es t):PE X (.List es pos) (zrv t):=by
 intro zh s σ H Q I hq;refine wpAny_List_spliced (thn (h pos zh s σ H _ I hq) fun us s1 ⟨xs,H1,I1,r,z,q⟩=>⟨by rw [<- r.length]; exact z,?_⟩);have hf:H1 s1.heap.objs.size=none:=I1.hok.fresh (le_refl _);refine⟨.ref s1.heap.objs.size,upd H1 s1.heap.objs.size (.lst xs),I1.laid (t':=s1.toks) (fun b u e=>get?_push_of_some _ e) (le_refl _) ?_,rfl,q _ hf⟩;exact⟨z,us,0,r,get?_push_size _ rfl⟩
end
abbrev Sp:=List V->Hp->VK->XK->Prop
abbrev CXT:=List Env->Hp->Shared->XK->Value->Shared->Prop
structure Env0(P:Program)(w:World)(K:W.Frag)(mg:Str->Option Value)(base:Heap)(A:Around)(outer:List Env)(s:Shared)(H:Hp):Prop where
 frames:A.frames=some outer
 mod:Mod K mg base
 bs:∀ b o,base.get? b=some o->s.heap.get? b=some o/\H b=none
 bsz:base.objs.size<=s.heap.objs.size
 funs:s.heap.FunFrames base outer
 frf:Frf (frs outer) H
 hok:HOk P w H s.heap
 bare:AllBare s.gens
def CE(outer:List Env)(P:Program)(w:World)(H:Hp)(s:Shared)(Q:VK)(u:Value)(s':Shared):Prop :=
 ∃ v H',s'.os=s.os/\AllBare s'.gens/\Un (frs outer) [] H H' s.heap s'.heap/\HOk P w H' s'.heap/\RelV v u/\Q v H'
def CR(CX:CXT)(outer:List Env)(P:Program)(w:World)(H:Hp)(s:Shared)(Q:VK)(E:XK)(r:Result)(s':Shared):Prop :=
 match r with
 | .ok (.ret u)=>CE outer P w H s Q u s'
 | .ok _=>False
 | .error e=>CX outer H s E e s'
structure FnOk(P:Program)(w:World)(K:W.Frag)(mg:Str->Option Value)(base:Heap)(CX:CXT)(k:Nat)(f:Addr)(fd:FuncData)(ps:List Str)(sp:Sp):Prop where
 len:∀ vs H Q E,sp vs H Q E->vs.length=ps.length
 run:∀ (A:Around) (outer:List Env) (s:Shared) (H:Hp) (args:Args) (us:List Value) (vs:List V) (Q:VK) (E:XK),Room k A->Env0 P w K mg base A outer s H->BindsTo s fd args (ps.zip us)->Vals vs us->sp vs H Q E ->
  codeAny (model P w) A (.call (.ref f) args) (CR CX outer P w H s Q E) s
theorem Env0.make{P:Program}{w:World}{K:W.Frag}{mg:Str->Option Value}{base:Heap}{A:Around}{outer:List Env}{s:Shared}{H:Hp}(e:Env0 P w K mg base A outer s H)(C:Addr)(us:List Value)(kw:List (Str×Value)):
  Env0 P w K mg base (A.under (.builtin "type.__call__" ⟨.ref C :: us,kw⟩)) outer s H:=⟨by first | exact e.frames | (simpa [Around.under,Code.envs,Code.isFrame,pushEnvs] using e.frames),e.mod,e.bs,e.bsz,e.funs,e.frf,e.hok,e.bare⟩
theorem Env0.in1{P:Program}{w:World}{K:W.Frag}{mg:Str->Option Value}{base:Heap}{A:Around}{outer:List Env}{s:Shared}{H:Hp}(e:Env0 P w K mg base A outer s H):
  Env0 P w K mg base A.in1 outer s H:=⟨e.frames,e.mod,e.bs,e.bsz,e.funs,e.frf,e.hok,e.bare⟩
section
variable {X:Cx} {zh:List (Addr×Obj)} {σ:St} {H:Hp} {s s':Shared}
theorem Inv.env0(I:Inv X zh σ H s):Env0 X.prog X.w X.K X.mg X.base X.A X.stack s H :=
 ⟨I.ok.frames,I.ok.mod,I.bs,le_trans I.ok.bsz I.sz,I.stack,I.stkFree,I.hok,I.bare⟩
theorem Inv.after{Q:VK}{u:Value}(I:Inv X zh σ H s)(h:CE X.stack X.prog X.w H s Q u s'):EP X zh σ Q u s':=by
 obtain⟨v,H',os,bare,un,hok,r,q⟩:=h;obtain⟨hh,g,d,t,os'⟩:=s';obtain rfl:os'=s.os:=os;exact⟨v,H',I.call (h':=hh) (g':=g) (d':=d) (t':=t) (ch:=[]) un hok bare (fun b z=>absurd z (by simp)),r,q⟩
end
def zfW(sp:Sp)(dvs:List V)(E:XK)(t:TA):TE:=fun σ H Q=>t σ H fun vs H1=>sp (vs++dvs) H1 Q E
def Binds(K:W.Frag)(fd:FuncData)(ps:List Str)(ds:List Value):Prop :=
 ∀ (s:Shared) (us:List Value),K.In s.heap->(us++ds).length=ps.length->BindsTo s fd ⟨us,[]⟩ (ps.zip (us++ds))
theorem Binds.all{K:W.Frag}{fd:FuncData}{ps:List Str}(h:∀ us:List Value,us.length=ps.length->bindArgs fd ⟨us,[]⟩=pure (ps.zip us)):Binds K fd ps []:=fun s us _ hl=>by
 rw [append_nil] at hl ⊢;exact .of_eq (h us hl)
def Passes(CX:CXT)(X:Cx)(E:XK):Prop:=∀ (zh:List (Addr×Obj)) (σ:St) (H:Hp) (s:Shared) (e:Value) (s':Shared),Inv X zh σ H s->CX X.stack H s E e s'->X.xe e s'
section
variable {X:Cx} {CX:CXT} {k:Nat} {f C:Addr} {fd:FuncData} {ps:List Str} {sp:Sp} {dvs:List V} {ds:List Value} {E:XK} {x m:Str} {p pos apos:Pos} {e o:Expr} {es:List Expr} {ta:TE} {t:TA}
theorem zsl{zh:List (Addr×Obj)}{σ:St}{H:Hp}{s:Shared}{Q:VK}{us:List Value}{vs:List V}(F:FnOk X.prog X.w X.K X.mg X.base CX k f fd ps sp)(hr:Room k X.A)(hb:Binds X.K fd ps ds)(hd:Vals dvs ds)(hx:Passes CX X E)
  (I:Inv X zh σ H s) (r:Vals vs us) (h:sp (vs++dvs) H Q E):wpAny (model X.prog X.w) X.A (call (.ref f) us) (EP X zh σ Q) X.xe s:=by
 have r2:Vals (vs++dvs) (us++ds):=r.append hd;have hl:(us++ds).length=ps.length:=by rw [<- r2.length]; exact F.len _ _ _ _ h
 refine wpAny_call (codeAny_mono (F.run X.A X.stack s H ⟨us,[]⟩ (us++ds) (vs++dvs) Q E hr I.env0 (hb s us I.kIn hl) r2 h) fun r s' hq=>?_);cases r with
 | error e=>exact hx zh σ H s e s' I hq
 | ok fl =>
  cases fl with
  | ret u=>exact I.after hq
  | next=>exact False.elim hq
  | brk=>exact False.elim hq
  | cont=>exact False.elim hq
theorem zjH(F:FnOk X.prog X.w X.K X.mg X.base CX k f fd ps sp)(hr:Room k X.A)(hg:Gl X x)(hm:X.mg x=some (.ref f))(hk:W.keepIn X.K (.ref f)=true)(hb:Binds X.K fd ps ds)(hd:Vals dvs ds)(hx:Passes CX X E)
  (ha:PA X (e :: es) t) (hdb:(x == ("__debug__":Str))=false:=by decide) (he:starEach (e :: es) X.env=(false,eval e X.env) :: starEach es X.env:=by rfl) (hpl:(backTo pos (starEach es X.env)).any (·.1)=false:=by rfl) :
  PE X (.Call (.Name x p) (e :: es) [] pos) (zfW sp dvs E t):=by
 intro zh s σ H Q I h;refine wpAny_Call_Name_kw (zeE I hg hm ?_ hdb);refine W.callWith_K (h₀:=X.base) I.ok.mod.kin hk (thn (ha pos zh s σ H _ I h) fun us s1 ⟨vs,H1,I1,r,q⟩=>⟨I1.kIn,?_⟩) he hpl;exact zsl F hr hb hd hx I1 r q
end
structure FnScope(N P:List Str)(sc:Scope):Prop where
 kind:sc.kind=.function
 co:sc.isCoroutine=false
 gen:sc.isGenerator=false
 nd:N.Nodup
 pre:N.take P.length=P
 par:∀ x∈P,sc.names.lookup x=some .local\/sc.names.lookup x=some .cell
 nofree:∀ y∈sc.names,y.2≠.free
theorem zh3{kindOf:Str->Option NameKind}{x:Str}:∀ {binds:List (Str×Value)} {m:Str->Option Value},(∀ v,(x,v)∉binds)->bindL kindOf binds m x=m x
 | [],_,_=>rfl
 | (n,v) :: r,m,h=>by
  unfold bindL;rw [zh3 fun w hw=>h w (mem_cons_of_mem _ hw)];split
  ·have:x≠n:=by rintro rfl; exact h v mem_cons_self
   simp [this]
  ·rfl
theorem zhW{kindOf:Str->Option NameKind}{x:Str}:∀ {binds:List (Str×Value)} {m:Str->Option Value},(∀ v,(x,v)∉binds)->bindC kindOf binds m x=m x
 | [],_,_=>rfl
 | (n,v) :: r,m,h=>by
  unfold bindC;rw [zhW fun w hw=>h w (mem_cons_of_mem _ hw)];split
  ·rfl
  ·have:x≠n:=by rintro rfl; exact h v mem_cons_self
   simp [this]
theorem ziY{kindOf:Str->Option NameKind}{x:Str}{v:Value}:∀ {P:List Str} {vs:List Value} {i:Nat} {m:Str->Option Value},P.Nodup->P[i]? = some x->vs[i]? = some v->kindOf x=some .local ->
  bindL kindOf (P.zip vs) m x=some v
 | [],_,_,_,_,h,_,_=>by simp at h
 | _ :: _,[],_,_,_,_,h,_=>by simp at h
 | p :: P,w :: vs,0,m,nd,h1,h2,hk=>by
  simp at h1 h2; subst h1; subst h2;show bindL kindOf ((p,w) :: P.zip vs) m p=_;unfold bindL;rw [zh3 fun v hv=>(nodup_cons.mp nd).1 (of_mem_zip hv).1,if_pos hk];simp
 | p :: P,w :: vs,i+1,m,nd,h1,h2,hk=>by
  show bindL kindOf ((p,w) :: P.zip vs) m x=_;unfold bindL;exact ziY (i:=i) (nodup_cons.mp nd).2 (by simpa using h1) (by simpa using h2) hk
theorem zis{kindOf:Str->Option NameKind}{x:Str}{v:Value}:∀ {P:List Str} {vs:List Value} {i:Nat} {m:Str->Option Value},P.Nodup->P[i]? = some x->vs[i]? = some v->kindOf x≠some .local ->
  bindC kindOf (P.zip vs) m x=some v
 | [],_,_,_,_,h,_,_=>by simp at h
 | _ :: _,[],_,_,_,_,h,_=>by simp at h
 | p :: P,w :: vs,0,m,nd,h1,h2,hk=>by
  simp at h1 h2; subst h1; subst h2;show bindC kindOf ((p,w) :: P.zip vs) m p=_;unfold bindC;rw [zhW fun v hv=>(nodup_cons.mp nd).1 (of_mem_zip hv).1,if_neg hk];simp
 | p :: P,w :: vs,i+1,m,nd,h1,h2,hk=>by
  show bindC kindOf ((p,w) :: P.zip vs) m x=_;unfold bindC;exact zis (i:=i) (nodup_cons.mp nd).2 (by simpa using h1) (by simpa using h2) hk
def start(N:List Str)(vs:List V):St:=vs.map some++List.replicate (N.length - vs.length) none
def zf0(CX:CXT)(P:Program)(w:World)(K:W.Frag)(mg:Str->Option Value)(base:Heap)(N:List Str)(qual:Str)(scope:Scope)(f:Addr)(cd:Value)(A:Around)(outer:List Env)(s:Shared)(H:Hp)(E:XK):Cx where
 prog:=P
 w:=w
 K:=K
 mg:=mg
 base:=base
 A:=A.deeper (envOfC qual scope s.heap.objs.size f cd)
 N:=N
 s₀:=s
 H₀:=H
 env:=envOfC qual scope s.heap.objs.size f cd
 outer:=outer
 stack:=envOfC qual scope s.heap.objs.size f cd :: outer
 ex:=[]
 calm:=true
 fn:=fun _=>true
 pn:=[]
 xe:=fun e s'=>wpAny (model P w) (A.deeper (envOfC qual scope s.heap.objs.size f cd)) (leaving (envOfC qual scope s.heap.objs.size f cd) e) (fun _ s''=>CX outer H s E e s'') (fun e' s''=>CX outer H s E e' s'') s'
theorem zkn{sc:Scope}{n:Nat}{x:Str}(h:sc.names.lookup x=some .cell):∃ c,(cellsFrom n sc.names []).lookup x=some c:=by
 have q:=W.cellsFrom_some sc.names n [] (.inl h);exact isSome_iff_exists.mp q
theorem zfn{CX:CXT}{P:Program}{w:World}{K:W.Frag}{mg:Str->Option Value}{base:Heap}{N ps:List Str}{qual:Str}{scope:Scope}{f:Addr}{cd:Value}{A:Around}{outer:List Env}{s s1:Shared}{H:Hp}{E:XK}{us:List Value}{vs:List V}
  (S:FnScope N ps scope) (hd:A.handled=none) (e0:Env0 P w K mg base A outer s H) (hl:vs.length=ps.length) (r:Vals vs us)
  (x:InCallC s s.heap.objs.size (bindL (envOfC qual scope s.heap.objs.size f cd).kindOf (ps.zip us) fun _=>none) (cellsFrom (s.heap.objs.size+1) scope.names []) (bindC (envOfC qual scope s.heap.objs.size f cd).kindOf (ps.zip us) fun _=>none) s1) :
  Inv (zf0 CX P w K mg base N qual scope f cd A outer s H E) [] (start N vs) H s1:=by
 have hpl:ps.length<=N.length:=by have:=congrArg List.length S.pre; rw [length_take] at this; omega
 obtain⟨h1,tk,rfl,hk⟩:=x.done;have noA:∀ b:Addr,b∉(zf0 CX P w K mg base N qual scope f cd A outer s H E).ex:=fun b z=>absurd (show b∈([]:List Addr) from z) (by simp);refine⟨⟨e0.mod,S.kind,rfl,rfl,le_refl _,fun y z c h1 h2=>?_,fun y hy=>?_,fun y c _ h=>?_,fun _=>hd,Around.frames_deeper e0.frames,.inr ⟨rfl,rfl⟩,fun b z=>absurd z (noA b),e0.bs,e0.bsz,fun b _ _=>noA b,fun b z=>absurd z (noA b),e0.funs,e0.frf⟩,
  rfl,e0.bare,Un.kept hk,⟨_,x.toInCall.ns,fun i y v h1 h2 h3=>?_⟩,fun y c h=>⟨_,x.cell y c h⟩,e0.hok.fresh (le_refl _),fun y c h=>?_,fun p hp=>absurd (show p∈([]:List (Addr×Obj)) from hp) (by simp),e0.hok.kept hk,?_⟩
 ·exact name_of_addr x.apart (PySem.mem_of_lookup h1) (PySem.mem_of_lookup h2)
 ·have hy:scope.names.lookup y=some .cell\/scope.names.lookup y=some .free:=hy;rcases hy with hy | hy
  ·exact zkn hy
  ·exact absurd rfl (S.nofree _ (PySem.mem_of_lookup hy))
 ·exact le_of_lt (x.above y c (PySem.mem_of_lookup h))
 ·have hi:i<vs.length:=by
   unfold start at h2;by_cases hi:i<vs.length
   ·exact hi
   ·rw [getElem?_append_right (by simpa using hi)] at h2;rw [getElem?_replicate] at h2;split at h2 <;> cases h2
  have ha:vs[i]? = some v:=by
   unfold start at h2;rw [getElem?_append_left (by simpa using hi),getElem?_map] at h2;cases e:vs[i]? with
   | none=>rw [e] at h2; cases h2
   | some a=>rw [e] at h2; cases h2; rfl
  obtain⟨u,hu,rv⟩:=r.get ha;have hp:ps[i]? = some y:=by
   rw [<- S.pre,List.getElem?_take_of_lt (by omega)]; exact h1
  have ndP:ps.Nodup:=by rw [<- S.pre]; exact S.nd.sublist (List.take_sublist _ _)
  refine⟨u,rv,?_⟩;rcases S.par y (mem_of_getElem? hp) with k | k
  ·exact .inl ⟨k,ziY ndP hp hu k⟩
  ·obtain⟨c,e⟩:=zkn (n:=s.heap.objs.size+1) k;refine .inr ⟨.inl k,c,e,?_⟩;have q:=x.cell y c e;rw [zis ndP hp hu (by show scope.names.lookup y≠_; rw [k]; decide)] at q;exact q
 ·exact e0.hok.fresh (le_of_lt (x.above y c (PySem.mem_of_lookup h)))
 ·unfold start;show _=N.length;rw [length_append,length_map,List.length_replicate];omega
theorem zoP{CX:CXT}{P:Program}{w:World}{K:W.Frag}{mg:Str->Option Value}{base:Heap}{k:Nat}{f:Addr}{name qual:Str}{params:Arguments}{body:List Stmt}{scope:Scope}{dV kV doc pm cdv ct oc:Value}{an od:Option Addr}
  {osl:Array (Option Value)} {N ps:List Str} {sp:Sp} (lk:K.lookup f=some ⟨oc,od,.func (W.fnOf name qual params body scope dV kV doc pm an cdv ct),osl⟩) (hcd:W.codeIn K cdv qual=true) (S:FnScope N ps scope)
  (len:∀ vs H Q E,sp vs H Q E->vs.length=ps.length)
  (hbody:∀ (A:Around) (outer:List Env) (s:Shared) (H:Hp) (vs:List V) (Q:VK) (E:XK),Room k (A.deeper (envOfC qual scope s.heap.objs.size f cdv))->sp vs H Q E ->
   ∃ t,PSs (zf0 CX P w K mg base N qual scope f cdv A outer s H E) body t/\t { nx:=fun _ H'=>Q .non H',rt:=Q } (start N vs) H) :
  FnOk P w K mg base CX (k+1) f (W.fnOf name qual params body scope dV kV doc pm an cdv ct) ps sp:=by
 refine⟨len,fun A outer s H args us vs Q E hr e0 hb r hsp=>?_⟩;have hl:=len _ _ _ _ hsp;have KX:K.In s.heap:=e0.mod.kin.keeps fun b o e=>(e0.bs b o e).1;have lim:s.heap.NoLimit:=e0.mod.nolimit.keeps fun b o e=>(e0.bs b o e).1;have hkind:∀ y∈ps.zip us,scope.names.lookup y.1=some .local\/(scope.names.lookup y.1=some .cell/\((cellsFrom (s.heap.objs.size+1) scope.names []).lookup y.1).isSome=true):=fun⟨n,v⟩ hy=>by
  rcases S.par n (of_mem_zip hy).1 with q | q
  ·exact .inl q
  ·exact .inr ⟨q,W.cellsFrom_some _ _ _ (.inl q)⟩
 refine codeAny_call_function hr.depth (KX _ _ lk) rfl S.co S.gen rfl (W.codeRec_of KX hcd) (hb _ _ _ _ ?_);refine wpAny_newFunctionEnv_cells S.kind hkind fun env he s1 x=>?_;subst he;refine⟨lim.keeps x.toInCall.keep,codeAny_func ?_⟩;obtain⟨t,ht,hq⟩:=hbody A outer s H vs Q E (hr.deeper _) hsp;have I:Inv (zf0 CX P w K mg base N qual scope f cdv A outer s H E) [] (start N vs) H s1:=zfn S hr.hd e0 hl r x;refine wpAny_mono (ht [] s1 (start N vs) H _ I hq) (fun fl s' hs=>?_) fun e s' hs=>hs;have fin:∀ {σ':St} {H':Hp} {v:V} {u:Value},Inv (zf0 CX P w K mg base N qual scope f cdv A outer s H E) [] σ' H' s'->RelV v u->Q v H'->CE outer P w H s Q u s' :=
  fun {σ' H' v u} J rv q=>⟨v,H',J.os,J.bare,J.base,J.hok,rv,q⟩
 cases fl with
 | ret u =>
  obtain⟨v,σ',H',J,rv,q⟩:=hs;exact fin J rv q
 | next =>
  obtain⟨σ',H',J,q⟩:=hs;exact fin (v:=V.non) (u:=Value.none) J rfl q
 | brk =>
  obtain⟨_,_,_,q⟩:=hs;exact False.elim q
 | cont =>
  obtain⟨_,_,_,q⟩:=hs;exact False.elim q
end
section
section
variable {X:Cx} {x:Str} {p pos:Pos} {e:Expr} {es:List Expr} {t:TA} {id T:String} {r:List V->Hp->VK->Prop}
def tCB(r:List V->Hp->VK->Prop)(t:TA):TE:=fun σ H Q=>t σ H fun vs H1=>r vs H1 Q
theorem zt(hc:CallR X (.builtin id) r)(hg:Gl X x)(hm:X.mg x=none)(hv:bootBuiltins x=some (.builtin id))(ha:PA X (e :: es) t)(hn:x ≠ "__name__":=by decide)(hdb:(x == ("__debug__":Str))=false:=by decide)
  (he:starEach (e :: es) X.env=(false,eval e X.env) :: starEach es X.env:=by rfl) (hpl:(backTo pos (starEach es X.env)).any (·.1)=false:=by rfl):PE X (.Call (.Name x p) (e :: es) [] pos) (tCB r t):=by
 intro zh s σ H Q I h;refine wpAny_Call_Name_kw (zcF I hg hm hv ?_ hn hdb);exact PyProof.Rows.callWith_builtin1 (thn (ha pos zh s σ H _ I h) fun us s1 ⟨vs,H1,I1,r1,q1⟩=>hc zh s1 σ H1 vs us Q I1 r1 q1) he hpl
theorem zau(hc:CallR X (.type T) r)(hg:Gl X x)(hm:X.mg x=none)(hv:bootBuiltins x=some (.type T))(ha:PA X (e :: es) t)(hn:x ≠ "__name__":=by decide)(hdb:(x == ("__debug__":Str))=false:=by decide)
  (he:starEach (e :: es) X.env=(false,eval e X.env) :: starEach es X.env:=by rfl) (hpl:(backTo pos (starEach es X.env)).any (·.1)=false:=by rfl):PE X (.Call (.Name x p) (e :: es) [] pos) (tCB r t):=by
 intro zh s σ H Q I h;refine wpAny_Call_Name_kw (zcF I hg hm hv ?_ hn hdb);exact PyProof.Rows.callWith_type1 (thn (ha pos zh s σ H _ I h) fun us s1 ⟨vs,H1,I1,r1,q1⟩=>hc zh s1 σ H1 vs us Q I1 r1 q1) he hpl
end
end
end L2
namespace HT
open PySem PyProof.Rows
def lexLt:List Int->List Int->Bool
 | [],[]=>false
 | [],_ :: _=>true
 | _ :: _,[]=>false
 | x :: xs,y :: ys=>if x=y then lexLt xs ys else decide (x<y)
theorem lexLt_cons(x y:Int)(xs ys:List Int):lexLt (x :: xs) (y :: ys)=if x=y then lexLt xs ys else decide (x<y):=rfl
theorem zhk:lexLt [] []=false:=rfl
theorem zgq(y:Int)(ys:List Int):lexLt [] (y :: ys)=true:=rfl
theorem zgv(x:Int)(xs:List Int):lexLt (x :: xs) []=false:=rfl
theorem zkq(A:Around)(s:Shared)(a:Int)(t:Tok)(c:Int)(u:Tok):∃ e,SeqAt.EqAt A s (.int a t) (.int c u) e/\(e=true↔a=c) :=
 ⟨(a == c),SeqAt.EqAt.int_int a t c u,by simp⟩
theorem zke(A:Around)(s:Shared)(a:Int)(t:Tok)(c:Int)(u:Tok)(prog:Program)(w:World)(E:Value->Shared->Prop)(Q:Value->Shared->Prop)(h:Q (.bool (decide (a<c))) s):
  wpAny (model prog w) A (richCompare .Lt (.int a t) (.int c u)) Q E s :=
 (PyProof.Rows.lt_int h:wpAny (model prog w) A (compareOp .Lt (.int a t) (.int c u)) Q E s)
section
open PySem.SeqAt
open PySem.AutoSeq1 (wpAny_loadPart')
open PySem.MeetsSeq PySem.MeetsSeq2 PySem.MeetsSeq3
theorem zho(l b:Addr)(items items2:Array Value)(n n2:Nat)(dd dd2:Option Addr)(sl sl2:Array (Option Value))(ns ms:List Int)(hi:IntsAre items.toList ns)(hj:IntsAre items2.toList ms):
  Meets (Builtin.«tuple.__lt__» ⟨[.ref l,.ref b],[]⟩)
   (fun _ R s=>s.heap.get? l=some { cls:=.type "tuple",dict:=dd,data:=.seq items n,slots:=sl }/\s.heap.get? b=some { cls:=.type "tuple",dict:=dd2,data:=.seq items2 n2,slots:=sl2 } /\
    R (.ok (.ret (.bool (lexLt ns ms)))) s) :=
 .of_wp fun prog w A R s h=>by
  obtain⟨hp,g,d,tk,os⟩:=s; obtain⟨hl,hb,h⟩:=h;have f2:=AutoSeq1.sub_tuple_tuple;have z1:items.size=ns.length:=by rw [<- hi.length]; simp
  have z2:items2.size=ms.length:=by rw [<- hj.length]; simp
  wp_walk using wpAny_loadPart' hl,wpAny_loadPart' hb,wpAny_forIn_list _ (fun rest b s'=>b.1=none/\s'=⟨hp,g,d,tk,os⟩/\∃ (vs ws:List Value) (ns' ms':List Int),rest=vs.zip ws /\
   IntsAre vs ns'/\IntsAre ws ms'/\ns'.length+items2.size=ms'.length+items.size/\R (.ok (.ret (.bool (lexLt ns' ms')))) ⟨hp,g,d,tk,os⟩) _
  case turn =>
   rintro⟨y,x⟩ rest b s' ⟨hb',rfl,vs,ws,ns',ms',hz,hvi,hwi,hlen,hR⟩;cases hvi with
   | nil=>rw [List.zip_nil_left] at hz; cases hz
   | cons a t hvi' =>
    cases hwi with
    | nil=>rw [List.zip_nil_right] at hz; cases hz
    | cons c u hwi' =>
     rw [zip_cons_cons] at hz;injection hz with hyx hrest
     injection hyx with hy hx
     subst hy hx;rw [lexLt_cons] at hR;simp only [length_cons] at hlen;obtain⟨e,he,hiff⟩:=zkq A.in1 ⟨hp,g,d,tk,os⟩ a t c u;refine wpAny_bind (he prog w _ _ ?_);cases e with
     | true =>
      rw [if_pos (hiff.mp rfl)] at hR
      wp_walk
      exact⟨rfl,rfl,_,_,_,_,hrest,hvi',hwi',by omega,hR⟩
     | false =>
      rw [if_neg (fun q=>absurd (hiff.mpr q) Bool.false_ne_true)] at hR;have hri:=zke A.in1 ⟨hp,g,d,tk,os⟩ a t c u prog w
      wp_walk using hri
      exact⟨_,rfl,by simpa using hR⟩
  case fin =>
   rintro⟨b1,b2⟩ s' ⟨hb',rfl,vs,ws,ns',ms',hz,hvi,hwi,hlen,hR⟩;simp only at hb';subst hb';have hv:lexLt ns' ms'=decide (items.size<items2.size):=by
    cases hvi with
    | nil =>
     cases hwi with
     | nil =>
      simp only [length_nil] at hlen;rw [zhk];exact(decide_eq_false (by omega)).symm
     | cons c u hw =>
      simp only [length_nil,length_cons] at hlen;rw [zgq];exact(decide_eq_true (by omega)).symm
    | cons a t hv =>
     cases hwi with
     | nil =>
      simp only [length_nil,length_cons] at hlen;rw [zgv];exact(decide_eq_false (by omega)).symm
     | cons c u hw =>
      rw [zip_cons_cons] at hz;cases hz
   rw [hv] at hR
   wp_walk
   exact⟨_,rfl,by simpa [Builtin.Tuple.tupleCompareSizes] using hR⟩
  case h =>
   exact⟨rfl,rfl,items.toList,items2.toList,ns,ms,rfl,hi,hj,by omega,h⟩
end
section
variable {prog:Program} {w:World} {A:Around} {E:Value->Shared->Prop} {s:Shared}
theorem lt_tupInts{l b:Addr}{items items2:Array Value}{ns ms:List Int}{Q:Value->Shared->Prop}(hl:IsTup s.heap l items)(hb:IsTup s.heap b items2)(hi:IntsAre items.toList ns)(hj:IntsAre items2.toList ms)
  (hu:A.units<cLine) (h:Q (.bool (lexLt ns ms)) s):wpAny (model prog w) A (compareOp .Lt (.ref l) (.ref b)) Q E s:=by
 obtain⟨⟨cls,dd,data,sl⟩,ho,hc,n,hd⟩:=id hl;obtain⟨⟨cls2,dd2,data2,sl2⟩,ho2,hc2,n2,hd2⟩:=id hb;simp only at hc hd hc2 hd2;subst hc hd hc2 hd2;exact richCompare_meets_room (op:=.Lt) ⟨_,ho,rfl⟩ ⟨_,ho2,rfl⟩ PySem.F.slot_tuple_lt PySem.F.entry_tuple_lt (PySem.F.args_tuple_lt_2 _ _) (zho l b items items2 n n2 dd dd2 sl sl2 ns ms hi hj)
  ⟨ho,ho2,show Value.bool (lexLt ns ms)≠Value.notImplemented/\Q (.bool (lexLt ns ms)) s from⟨(fun x=>nomatch x),h⟩⟩ hu
theorem cat_tup{t b:Addr}{vs ws:List Value}{Q:Value->Shared->Prop}(ht:IsTup s.heap t vs.toArray)(hb:IsTup s.heap b ws.toArray)(hv:vs≠[])
  (h1:ws=[]->Q (.ref t) s) (h2:ws≠[]->Q (.ref s.heap.objs.size) { s with heap:=s.heap.push { cls:=.type "tuple",data:=.seq (vs++ws).toArray } })
  (hsz:vs.length+ws.length<=sizeLine):wpAny (model prog w) A (binaryOp .Add (.ref t) (.ref b)) Q E s:=by
 obtain⟨⟨cls,dd,data,sl⟩,ho,hc,n,hd⟩:=id ht;obtain⟨⟨cls2,dd2,data2,sl2⟩,ho2,hc2,n2,hd2⟩:=id hb;simp only at hc hd hc2 hd2;subst hc hd hc2 hd2;have e:vs.toArray++ws.toArray=(vs++ws).toArray:=by simp
 by_cases hw:ws=[]
 ·exact concat_meets ⟨_,ho,rfl⟩ ⟨_,ho2,rfl⟩ noFill_tuple_add seq_tuple_add PySem.F.slot_tuple_add PySem.F.entry_tuple_add (PySem.F.args_tuple_add_2 _ _)
   (tuple_addW1 t b vs.toArray ws.toArray n n2 dd dd2 sl sl2 (by simpa using hv) (by simp [hw])) ⟨ho,ho2,h1 hw⟩
 ·refine concat_meets ⟨_,ho,rfl⟩ ⟨_,ho2,rfl⟩ noFill_tuple_add seq_tuple_add PySem.F.slot_tuple_add PySem.F.entry_tuple_add (PySem.F.args_tuple_add_2 _ _)
   (tuple_addW2 t b vs.toArray ws.toArray n n2 dd dd2 sl sl2 (by simpa using hv) (by simpa using hw) (by rw [size_toArray,size_toArray]; exact hsz)) ⟨ho,ho2,?_⟩
  rw [e];exact h2 hw
def sIx(n d:Nat):Option Int->Nat
 | none=>d
 | some v=>if v<0 then (v+(n:Int)).toNat else min v.toNat n
theorem sIx_nat(n d k:Nat):sIx n d (some (k:Int))=min k n:=by
 show (if (k:Int)<0 then ((k:Int)+(n:Int)).toNat else min (k:Int).toNat n)=min k n;rw [if_neg (by omega),Int.toNat_natCast]
theorem zsT(n d:Nat)(hd:d<=n)(o:Option Int):sIx n d o<=n:=by
 cases o with
 | none=>exact hd
 | some v =>
  show (if v<0 then (v+(n:Int)).toNat else min v.toNat n)<=n;by_cases hv:v<0
  ·rw [if_pos hv]; omega
  ·rw [if_neg hv]; exact Nat.min_le_right _ _
theorem zmi(v:Int)(n d:Nat):(if v<0 then max (v+(n:Int)) 0 else min v (n:Int))=((sIx n d (some v):Nat):Int):=by
 show (if v<0 then max (v+(n:Int)) 0 else min v (n:Int))=(((if v<0 then (v+(n:Int)).toNat else min v.toNat n):Nat):Int);by_cases hv:v<0
 ·simp only [if_pos hv]; omega
 ·simp only [if_neg hv]; omega
theorem zk9(lo hi:Option Int)(n:Nat):Builtin.Slice.sliceAdjust lo hi 1 (n:Int)=(((sIx n 0 lo:Nat):Int),((sIx n n hi:Nat):Int)):=by
 have h1:¬ ((1:Int)<0):=by omega
 unfold Builtin.Slice.sliceAdjust;simp only [h1,if_false];refine Prod.ext ?_ ?_
 ·cases lo with
  | none=>rfl
  | some v=>exact zmi v n 0
 ·cases hi with
  | none=>rfl
  | some v=>exact zmi v n n
theorem zkM(i j:Nat):Builtin.Slice.slicePlaces (i:Int) (j:Int) 1=j - i:=by
 unfold Builtin.Slice.slicePlaces;have h1:(1:Int)>0:=by omega
 simp only [h1,if_true,Int.ediv_one];split <;> omega
theorem zgP{v:Value}{o:Option Int}{Q:Option Int->Shared->Prop}(p:IsPart v o)(h:Q o s):wpAny (model prog w) A (Builtin.Slice.slicePartIndex v) Q E s:=by
 cases p with
 | none=>exact slicePart_none h
 | int i t=>exact slicePart_int h
theorem zc4{sl:Addr}{vl vu:Value}{lo hi:Option Int}{n:Nat}{Q:Int×Int×Nat->Shared->Prop}(hs:s.heap.IsSliceOf sl vl vu .none)(pl:IsPart vl lo)(pu:IsPart vu hi)
  (h:Q (((sIx n 0 lo:Nat):Int),1,sIx n n hi - sIx n 0 lo) s):wpAny (model prog w) A (Builtin.Slice.sliceApplied (.ref sl) (pure (n:Int))) Q E s:=by
 obtain⟨os,hos,hcs,hds⟩:=id hs;unfold Builtin.Slice.sliceApplied Builtin.Slice.sliceFields;refine wpAny_bind (wpAny_bind (wpAny_field hos hds (x:=vl) rfl (wpAny_bind (wpAny_field hos hds (x:=vu) rfl (wpAny_bind (wpAny_field hos hds (x:=.none) rfl (wpAny_pure ?_)))))));refine wpAny_bind (slicePart_none ?_);show wpAny _ _ (if ((1:Int) == 0)=true then _ else _) _ _ s;rw [if_neg dz];refine wpAny_bind (zgP pl (wpAny_bind (zgP pu (wpAny_bind (wpAny_pure ?_)))));show wpAny _ _ (match Builtin.Slice.sliceAdjust lo hi 1 (n:Int) with | (lo,hi)=>pure (lo,(1:Int),Builtin.Slice.slicePlaces lo hi 1)) _ _ s;rw [zk9 lo hi n];show wpAny _ _ (pure (((sIx n 0 lo:Nat):Int),(1:Int),Builtin.Slice.slicePlaces ((sIx n 0 lo:Nat):Int) ((sIx n n hi:Nat):Int) 1)) _ _ s;rw [zkM];exact wpAny_pure h
theorem zoA(xs:Array Value)(i k:Nat):((List.range k).filterMap fun(m:Nat)=>xs[((i:Int)+(m:Int)*1).toNat]?).toArray=((xs.toList.drop i).take k).toArray:=by
 have e:(fun(m:Nat)=>xs[((i:Int)+(m:Int)*1).toNat]?)=fun m=>xs[i+m]?:=by
  funext m;have:((i:Int)+(m:Int)*1).toNat=i+m:=by omega
  rw [this]
 rw [e];have:=pick_run xs i k;rw [List.filterMap_map] at this;have e2:((fun x=>xs[x]?)∘fun x=>i+x)=fun m=>xs[i+m]?:=rfl;rw [e2] at this;rw [this]
theorem getItem_tuple_cut{t sl:Addr}{items:Array Value}{vl vu:Value}{lo hi:Option Int}{Q:Value->Shared->Prop}(ht:IsTup s.heap t items)(hs:s.heap.IsSliceOf sl vl vu .none)(pl:IsPart vl lo)(pu:IsPart vu hi)
  (hw:¬ (sIx items.size 0 lo=0/\sIx items.size items.size hi=items.size))
  (h:Q (.ref s.heap.objs.size) { s with heap:=s.heap.push { cls:=.type "tuple",data:=.seq ((items.toList.drop (sIx items.size 0 lo)).take (sIx items.size items.size hi - sIx items.size 0 lo)).toArray } })
  (hsz:items.size<=sizeLine):wpAny (model prog w) A (getItem (.ref t) (.ref sl)) Q E s:=by
 have htake:sizeOk (.seq ((items.toList.drop (sIx items.size 0 lo)).take (sIx items.size items.size hi - sIx items.size 0 lo)).toArray):=by
  show ((items.toList.drop (sIx items.size 0 lo)).take (sIx items.size items.size hi - sIx items.size 0 lo)).toArray.size<=sizeLine;rw [size_toArray,length_take,length_drop,length_toList];omega
 have hj:sIx items.size items.size hi<=items.size:=zsT _ _ (le_refl _) hi;obtain⟨os,hos,hcs,hds⟩:=id hs;have hTs:s.TypeIs (.ref sl) "slice":=⟨os,hos,hcs⟩;unfold getItem
 try with_reducible refine wpAny_holding ?_
 first | refine wpAny_bind (wpAny_pure ?_) | skip
 refine wpAny_bind (wpAny_sequenceKey ht.typeIs dz ?_);refine wpAny_bind (wpAny_callSpecial?_slot (name:=Str.ofString "__getitem__") ht.typeIs PyProof.Rows.slot_tuple_getitem
  (wpAny_call_entry PyProof.Rows.slot_tuple_getitem ht.typeIs entry_tuple_getitem ?_ (args_tuple_getitem _ _)))
 show wpAny _ _ (Builtin.Tuple.tupleItemsOf (.ref t) >>= _) _ _ s;refine wpAny_bind (tupleItemsOf_ ht ?_);refine wpAny_bind (wpAny_typeOf hTs ?_);rw [if_pos dz];refine wpAny_bind (zc4 hs pl pu ?_);have hno:¬ ((((sIx items.size 0 lo:Nat):Int) == 0 && (1:Int) == 1 && (sIx items.size items.size hi - sIx items.size 0 lo) == items.size)=true):=by
  intro q;rw [Bool.and_eq_true,Bool.and_eq_true] at q;have q1:((sIx items.size 0 lo:Nat):Int)=0:=eq_of_beq q.1.1;have q2:sIx items.size items.size hi - sIx items.size 0 lo=items.size:=eq_of_beq q.2;exact hw ⟨by omega,by omega⟩
 show wpAny _ _ (if (((sIx items.size 0 lo:Nat):Int) == 0 && (1:Int) == 1 && (sIx items.size items.size hi - sIx items.size 0 lo) == items.size)=true then _ else _) _ _ s;rw [if_neg hno,zoA]
 first
  | exact wpAny_bind (m:=Builtin.Tuple.tupleExact _) (wpAny_newObj_type (wpAny_pure ⟨_,rfl,wpAny_pure h⟩) htake)
  | exact wpAny_bind (m:=Builtin.Tuple.tupleExact _) (wpAny_newObj_type (wpAny_bind (wpAny_pure (wpAny_pure ⟨_,rfl,wpAny_pure h⟩))) htake)
  | exact wpAny_bind (wpAny_bind (m:=Builtin.Tuple.tupleExact _) (wpAny_newObj_type (wpAny_pure (wpAny_pure ⟨_,rfl,wpAny_pure h⟩)) htake))
  | exact wpAny_bind (wpAny_bind (m:=Builtin.Tuple.tupleExact _) (wpAny_newObj_type (wpAny_pure ⟨_,rfl,wpAny_pure h⟩) htake))
end
end HT
namespace L2
open PySem PySem.Spec PyProof.Rows
section
abbrev TO:=St->Hp->(Option Int->Hp->Prop)->Prop
def PO(X:Cx)(e:Option Expr)(t:TO):Prop :=
 ∀ (zh:List (Addr×Obj)) (s:Shared) (σ:St) (H:Hp) (Q:Option Int->Hp->Prop),Inv X zh σ H s->t σ H Q ->
  wpAny (model X.prog X.w) X.A (evalPart e X.env) (fun u s'=>∃ o H',Inv X zh σ H' s'/\IsPart u o/\Q o H') X.xe s
def zlI:TO:=fun _ H Q=>Q none H
def zkV(t:TE):TO:=fun σ H Q=>t σ H fun x H1=>∃ i,x=.int i/\Q (some i) H1
theorem za5{ns:List Int}:∀ {us:List Value},Vals (ns.map V.int) us->IntsAre us ns:=by
 induction ns with
 | nil=>intro us r; rw [map_nil] at r; cases r; exact .nil
 | cons n ns ih =>
  intro us r;rw [map_cons] at r;cases r with
  | cons r1 r2 =>
   obtain⟨t,e⟩:=r1;subst e;exact .cons n t (ih r2)
section
variable {X:Cx} {e:Expr} {te:TE} {lo hi:Option Expr} {tl th:TO} {pos p2:Pos}
theorem zdl:PO X none zlI:=by
 intro zh s σ H Q I h;rw [evalPart_none];exact wpAny_pure ⟨none,H,I,.none,h⟩
theorem zcp(h:PE X e te):PO X (some e) (zkV te):=by
 intro zh s σ H Q I hw;rw [evalPart_some];refine thn (h zh s σ H _ I hw) fun u s1 ⟨x,H1,I1,r1,q1⟩=>?_;obtain⟨i,rfl,q⟩:=q1;obtain⟨t,rfl⟩:=r1;exact⟨some i,H1,I1,.int i t,q⟩
def SlR(X:Cx)(r:V->Option Int->Option Int->Hp->VK->Prop):Prop :=
 ∀ (zh:List (Addr×Obj)) (s:Shared) (σ:St) (H:Hp) (x:V) (v vl vu:Value) (lo hi:Option Int) (sl:Addr) (Q:VK),Inv X zh σ H s->RelV x v->s.heap.IsSliceOf sl vl vu .none->IsPart vl lo->IsPart vu hi->r x lo hi H Q ->
  ∃ T id,typeLookup (.type T) "__getitem__" = pure (some (.builtin id))/\s.TypeIs v T/\wpAny (model X.prog X.w) X.A (getItem v (.ref sl)) (EP X zh σ Q) X.xe s
theorem SlR.or{r r':V->Option Int->Option Int->Hp->VK->Prop}(h:SlR X r)(h':SlR X r'):SlR X (fun x lo hi H Q=>r x lo hi H Q\/r' x lo hi H Q):=by
 intro zh s σ H x v vl vu lo hi sl Q I rx hs pl pu q;rcases q with q | q
 ·exact h zh s σ H x v vl vu lo hi sl Q I rx hs pl pu q
 ·exact h' zh s σ H x v vl vu lo hi sl Q I rx hs pl pu q
def tSl(r:V->Option Int->Option Int->Hp->VK->Prop)(te:TE)(tl th:TO):TE:=fun σ H Q=>te σ H fun x H1=>tl σ H1 fun l H2=>th σ H2 fun u H3=>r x l u H3 Q
theorem zbY{r:V->Option Int->Option Int->Hp->VK->Prop}(hr:SlR X r)(he:PE X e te)(hl:PO X lo tl)(hu:PO X hi th):PE X (.Subscript e (.Slice lo hi none p2) pos) (tSl r te tl th):=by
 intro zh s σ H Q I h;refine Subscript_ (thn (he zh s σ H _ I h) fun v s1 ⟨x,H1,I1,r1,q1⟩=>?_);refine wpAny_Slice (thn (hl zh s1 σ H1 _ I1 q1) fun vl s2 ⟨l,H2,I2,pl,q2⟩=>thn (hu zh s2 σ H2 _ I2 q2) fun vu s3 ⟨u,H3,I3,pu,q3⟩=>?_);rw [evalPart_none];refine wpAny_pure ?_;have I4:Inv X zh σ H3 { s3 with heap:=s3.heap.push { cls:=.type "slice",data:=.fields #[vl,vu,.none] } }:=I3.kept (t':=s3.toks) fun b ob q=>get?_push_of_some _ q;obtain⟨T,id,hT,ht,hg⟩:=hr zh { s3 with heap:=s3.heap.push { cls:=.type "slice",data:=.fields #[vl,vu,.none] } } σ H3 x v vl vu l u s3.heap.objs.size Q I4 r1 (Heap.IsSliceOf.new ..) pl pu q3;show wpAny (model X.prog X.w) X.A (subscriptTail e (.Slice lo hi none p2) v (.ref s3.heap.objs.size)) (EP X zh σ Q) X.xe { s3 with heap:=s3.heap.push { cls:=.type "slice",data:=.fields #[vl,vu,.none] } };exact tail_any (ops:=[.ref s3.heap.objs.size,v]) ht hT hg (by with_unfolding_all rfl)
def zj5(xs:List V)(lo hi:Option Int):List V:=(xs.drop (HT.sIx xs.length 0 lo)).take (HT.sIx xs.length xs.length hi - HT.sIx xs.length 0 lo)
theorem zdP(xs:List V)(lo hi:Option Int):(zj5 xs lo hi).length<=xs.length:=by
 unfold zj5;rw [length_take,length_drop];omega
def ztS(K:W.Frag):V->Option Int->Option Int->Hp->VK->Prop:=fun x lo hi H Q=>∃ a xs,x=.ref a/\SqT K H a xs /\
 ¬ (HT.sIx xs.length 0 lo=0/\HT.sIx xs.length xs.length hi=xs.length)/\∀ p,H p=none->Q (.ref p) (upd H p (.tup (zj5 xs lo hi)))
theorem zpS:SlR X (ztS X.K):=by
 intro zh s σ H x v vl vu lo hi sl Q I rx hs pl pu h;obtain⟨a,xs,rfl,hx,hw,q⟩:=h;cases rx;obtain⟨its,r,ht,hz⟩:=I.tuple hx;have hlen:its.toArray.size=xs.length:=by rw [size_toArray]; exact r.length.symm
 refine⟨"tuple",_,PyProof.Rows.slot_tuple_getitem.lookup,ht.typeIs,?_⟩;refine HT.getItem_tuple_cut ht hs pl pu (by rw [hlen]; exact hw) ?_ (by rw [hlen]; exact hz);rw [hlen];refine⟨.ref s.heap.objs.size,_,I.laid (t':=s.toks) (o:=.tup (zj5 xs lo hi)) (fun b ob q=>get?_push_of_some _ q) (le_refl _) ?_,rfl,q _ (I.hok.fresh (le_refl _))⟩;exact⟨⟨le_trans (zdP xs lo hi) hz,_,get?_push_size _ rfl,rfl⟩,_,(r.drop (HT.sIx xs.length 0 lo)).take (HT.sIx xs.length xs.length hi - HT.sIx xs.length 0 lo),IsTup.new _ _⟩
def zqd(K:W.Frag):R2:=fun x y H Q=>∃ a b xs ys,x=.ref a/\y=.ref b/\SqT K H a xs/\SqT K H b ys/\xs≠[]/\xs.length+ys.length<=sizeLine /\
 (ys=[]->Q (.ref a) H)/\(ys≠[]->∀ p,H p=none->Q (.ref p) (upd H p (.tup (xs++ys))))
theorem Vals.nil_iff{xs:List V}{us:List Value}(r:Vals xs us):us=[]↔xs=[]:=by
 cases r with
 | nil=>simp
 | cons _ _=>simp
theorem zqb:OpR X (binaryOp .Add) (zqd X.K):=by
 intro zh s σ H x y v u Q I rx ry h;obtain⟨a,b,xs,ys,rfl,rfl,ha,hb,hx,hz,q1,q2⟩:=h;cases rx;cases ry;obtain⟨its,r1,p1,_⟩:=I.tuple ha;obtain⟨its2,r2,p2,_⟩:=I.tuple hb;refine HT.cat_tup p1 p2 (fun z=>hx (r1.nil_iff.mp z)) (fun z=>⟨.ref a,H,I,rfl,q1 (r2.nil_iff.mp z)⟩) (fun z=>?_) (by rw [<- r1.length,<- r2.length]; exact hz);refine⟨.ref s.heap.objs.size,_,I.laid (t':=s.toks) (o:=.tup (xs++ys)) (fun b ob q=>get?_push_of_some _ q) (le_refl _) ?_,rfl,q2 (fun w=>z (r2.nil_iff.mpr w)) _ (I.hok.fresh (le_refl _))⟩;exact⟨⟨by rw [length_append]; exact hz,_,get?_push_size _ rfl,rfl⟩,_,r1.append r2,IsTup.new _ _⟩
end
end
section
def ixN(n:Nat)(i:Int):Option Nat:=if 0<=i then (if i<n then some i.toNat else none) else if -(n:Int)<=i then some (i+n).toNat else none
def atI{α:Type}(xs:List α)(i:Int):Option α:=(ixN xs.length i).bind fun j=>xs[j]?
theorem zng{n:Nat}{i:Int}{j:Nat}(h:ixN n i=some j):seqIndex? i n=some j/\j<n/\-(n:Int)<=i/\i<n:=by
 unfold ixN at h;by_cases h0:0<=i
 ·rw [if_pos h0] at h;by_cases h1:i<n
  ·rw [if_pos h1] at h;have e:i.toNat=j:=Option.some.inj h;exact⟨by rw [seqIndex_of h0 h1,e],by omega,by omega,h1⟩
  ·rw [if_neg h1] at h; cases h
 ·rw [if_neg h0] at h;by_cases h1:-(n:Int)<=i
  ·rw [if_pos h1] at h;have e:(i+n).toNat=j:=Option.some.inj h;exact⟨by rw [seqIndex_neg (by omega) h1,e],by omega,h1,by omega⟩
  ·rw [if_neg h1] at h; cases h
theorem zjv{α:Type}{xs:List α}{i:Int}{v:α}(h:atI xs i=some v):∃ j,seqIndex? i xs.length=some j/\xs[j]? = some v/\j<xs.length/\-(xs.length:Int)<=i/\i<xs.length:=by
 unfold atI at h;cases e:ixN xs.length i with
 | none=>rw [e] at h; cases h
 | some j =>
  rw [e] at h;obtain⟨h1,h2,h3,h4⟩:=zng e;exact⟨j,h1,h,h2,h3,h4⟩
theorem zcd{α:Type}{xs:List α}{j:Nat}{v:α}(h:xs[j]? = some v):atI xs (j:Int)=some v:=by
 have hj:j<xs.length:=(List.getElem?_eq_some_iff.mp h).1;have e:ixN xs.length (j:Int)=some j:=by
  unfold ixN;rw [if_pos (by omega),if_pos (by omega)]; simp
 unfold atI; rw [e]; exact h
def PlainIx(b:Expr):Prop:=∀ o i,subscripted b false o i=operate [o,i] (getItem o i)
def IxR(X:Cx)(r:R2):Prop :=
 ∀ (value slice:Expr) (zh:List (Addr×Obj)) (s:Shared) (σ:St) (H:Hp) (x y:V) (v u:Value) (Q:VK),Inv X zh σ H s->RelV x v->RelV y u->r x y H Q ->
  subscripted slice false v u=operate [v,u] (getItem v u)->wpAny (model X.prog X.w) X.A (subscriptTail value slice v u) (EP X zh σ Q) X.xe s
def MtR(X:Cx)(id:String)(r:V->List V->Hp->VK->Prop):Prop :=
 ∀ (zh:List (Addr×Obj)) (s:Shared) (σ:St) (H:Hp) (x:V) (xs:List V) (v:Value) (us:List Value) (Q:VK),Inv X zh σ H s->RelV x v->Vals xs us->r x xs H Q ->
  wpAny (model X.prog X.w) X.A (call (.builtin id) (v :: us)) (EP X zh σ Q) X.xe s
section
variable {X:Cx} {a b:Expr} {ta tb:TE} {pos:Pos}
theorem IxR.or{r r':R2}(h:IxR X r)(h':IxR X r'):IxR X (fun x y H Q=>r x y H Q\/r' x y H Q):=by
 intro value slice zh s σ H x y v u Q I rx ry q hs;rcases q with q | q
 ·exact h value slice zh s σ H x y v u Q I rx ry q hs
 ·exact h' value slice zh s σ H x y v u Q I rx ry q hs
theorem zN{r:R2}(hr:IxR X r)(ha:PE X a ta)(hb:PE X b tb)(hs:PlainIx b):PE X (.Subscript a b pos) (tOp r ta tb):=by
 intro zh s σ H Q I h;exact Subscript_ (zt8 ha hb I h fun v u s2 x y H2 I2 rx ry q=>hr a b zh s2 σ H2 x y v u Q I2 rx ry q (hs _ _))
def ztL(K:W.Frag):R2:=fun x y H Q=>∃ p xs i v,x=.ref p/\y=.int i/\SqL K H p xs/\atI xs i=some v/\Q v H
def ztR(K:W.Frag):R2:=fun x y H Q=>∃ p xs i v,x=.ref p/\y=.int i/\SqT K H p xs/\atI xs i=some v/\Q v H
def zt4:R2:=fun x y H Q=>∃ z i c,x=.str z/\y=.int i/\z.length<=sizeLine/\atI z.cps.toList i=some c/\Q (.str ⟨#[c]⟩) H
theorem zmn:IxR X (ztL X.K):=by
 intro value slice zh s σ H x y v u Q I rx ry h hs;obtain⟨p,xs,i,z,rfl,rfl,hq,he,q⟩:=h;cases rx;obtain⟨t,rfl⟩:=ry;obtain⟨its,r,pl,hz⟩:=I.list hq;obtain⟨j,h1,h2,h3,h4,h5⟩:=zjv he;obtain⟨w,ew,rw'⟩:=r.get h2;have hl:=r.length;have hn:=line63;have fin:EP X zh σ Q w s:=⟨z,H,I,rw',q⟩;by_cases h0:0<=i
 ·have hj:i.toNat=j:=by
   rw [seqIndex_of h0 h5] at h1;exact Option.some.inj h1
  exact item_listR pl.isList h0 (by omega) (by rw [hj]; simpa using ew) fin hs
 ·have hj:(i+(its.toArray.size:Int)).toNat=j:=by
   rw [seqIndex_neg (by omega) h4] at h1;rw [size_toArray,<- hl];exact Option.some.inj h1
  exact subscriptTail_builtinR (x:=w) pl.isList.typeIs slot_list_getitem.lookup
   (wpAny_getItem_list_neg (Q:=fun r s'=>r=w/\EP X zh σ Q r s') pl.isList (by omega) (by rw [size_toArray] <;> omega) (by omega) (by rw [hj]; simpa using ew) ⟨rfl,fin⟩) hs
theorem zrD:IxR X (ztR X.K):=by
 intro value slice zh s σ H x y v u Q I rx ry h hs;obtain⟨p,xs,i,z,rfl,rfl,hq,he,q⟩:=h;cases rx;obtain⟨t,rfl⟩:=ry;obtain⟨its,r,pl,hz⟩:=I.tuple hq;obtain⟨j,h1,h2,h3,h4,h5⟩:=zjv he;obtain⟨w,ew,rw'⟩:=r.get h2;have hl:=r.length;have hn:=line63;have fin:EP X zh σ Q w s:=⟨z,H,I,rw',q⟩;exact subscriptTail_builtinR (x:=w) pl.typeIs slot_tuple_getitem.lookup
  (getItem_tuple (j:=j) (Q:=fun r s'=>r=w/\EP X zh σ Q r s') pl (by omega) (by omega) (by rw [size_toArray,<- hl]; exact h1) (by simpa using ew) ⟨rfl,fin⟩) hs
theorem zrI:IxR X zt4:=by
 intro value slice zh s σ H x y v u Q I rx ry h hs;obtain⟨z,i,c,rfl,rfl,hz,he,q⟩:=h;obtain⟨t,rfl⟩:=rx;obtain⟨t',rfl⟩:=ry;obtain⟨j,h1,h2,h3,h4,h5⟩:=zjv he;have hl:z.cps.toList.length=z.length:=by simp [Str.length]
 rw [hl] at h1 h4 h5;have hn:=line63;exact tail_any (typeIs_str s z t) slot_str_getitem.lookup (getItem_str (c:=c) (by
  have e1:decide (i < -(2 ^ 63:Int))=false:=decide_eq_false (by omega);have e2:decide (i≥2 ^ 63)=false:=decide_eq_false (by omega);rw [e1,e2,Bool.or_false]) (by rw [h1]; simpa using h2) ⟨.str ⟨#[c]⟩,H,I.tok _,⟨_,rfl⟩,q⟩) hs
def rIx(K:W.Frag):R2:=fun x y H Q=>ztL K x y H Q\/ztR K x y H Q\/zt4 x y H Q
theorem zB:IxR X (rIx X.K):=zmn.or (zrD.or zrI)
theorem zkE(its:List Value)(n j:Nat)(u:Value):Obj.mapSeq (·.setIfInBounds j u) { cls:=.type "list",data:=.seq its.toArray n } = { cls:=.type "list",data:=.seq (its.set j u).toArray n }:=by
 simp [Obj.mapSeq]
theorem Inv.lst{zh:List (Addr×Obj)}{σ:St}{H:Hp}{s:Shared}{p:Addr}{xs:List V}(I:Inv X zh σ H s)(h:H p=some (.lst xs)):
  ∃ (its:List Value) (n:Nat),Vals xs its/\s.heap.get? p=some { cls:=.type "list",data:=.seq its.toArray n }/\xs.length<=sizeLine:=by
 obtain⟨z,its,n,r,e⟩:=I.hok p _ h;exact⟨its,n,r,e,z⟩
theorem Inv.lstUpd{zh:List (Addr×Obj)}{σ:St}{H:Hp}{s:Shared}{p:Addr}{xs ys:List V}{its its':List Value}{n n':Nat}{f:Obj->Obj}(I:Inv X zh σ H s)(h:H p=some (.lst xs))
  (ho:s.heap.get? p=some { cls:=.type "list",data:=.seq its.toArray n }) (hf:f { cls:=.type "list",data:=.seq its.toArray n } = { cls:=.type "list",data:=.seq its'.toArray n' }) (r:Vals ys its') (hz:ys.length<=sizeLine) (t:Nat) :
  Inv X zh σ (upd H p (.lst ys)) { s with heap:=s.heap.update p f,toks:=t }:=by
 have e:(s.heap.update p f).get? p=some { cls:=.type "list",data:=.seq its'.toArray n' }:=by
  rw [get?_update_self f ho (by rw [hf] <;> rfl),hf]
 refine I.write (x:=p) (e:=p) (by rw [h]; trivial) (.inl rfl) (fun b u hb q=>(get?_update_other _ _ (Ne.symm hb)).trans q) ⟨_,e⟩ ?_;exact⟨hz,its',n',r,e⟩
def zr3:V->V->V->Hp->(Hp->Prop)->Prop:=fun o i v H Q=>∃ p xs k j,o=.ref p/\i=.int k/\H p=some (.lst xs)/\ixN xs.length k=some j/\Q (upd H p (.lst (xs.set j v)))
theorem zhy:PSet X zr3:=by
 intro zh s σ H o i v ov iv u Q I ro ri rv h;obtain⟨p,xs,k,j,rfl,rfl,hp,hj,q⟩:=h;cases ro;obtain⟨t,rfl⟩:=ri;obtain⟨its,n,r,ho,hz⟩:=I.lst hp;obtain⟨h1,h2,h3,h4⟩:=zng hj;have hl:=r.length;have hn:=line63;have I':Inv X zh σ (upd H p (.lst (xs.set j v))) { s with heap:=s.heap.update p (Obj.mapSeq (·.setIfInBounds j u)) } :=
  I.lstUpd hp ho (zkE its n j u) (r.set rv j) (by rw [length_set]; exact hz) s.toks
 by_cases h0:0<=k
 ·have hk:k.toNat=j:=by
   rw [seqIndex_of h0 h4] at h1;exact Option.some.inj h1
  exact W.ki_setAt ho h0 (by omega) (by rw [size_toArray,<- hl]; exact h4) (by rw [hk]; exact⟨_,I',q⟩)
 ·have hk:(k+(its.toArray.size:Int)).toNat=j:=by
   rw [seqIndex_neg (by omega) h3] at h1;rw [size_toArray,<- hl];exact Option.some.inj h1
  exact W.ki_setBack ho (by omega) (by rw [size_toArray,<- hl]; exact h3) (by omega) (by rw [hk]; exact⟨_,I',q⟩)
theorem ziH(lo hi:Option Int)(n:Nat):(sliceBounds lo hi none n).1=((HT.sIx n 0 lo:Nat):Int)/\(sliceBounds lo hi none n).2.1=((HT.sIx n n hi:Nat):Int)/\(sliceBounds lo hi none n).2.2=1:=by
 refine⟨?_,?_,rfl⟩
 ·cases lo with
  | none=>simp [sliceBounds,HT.sIx]
  | some i =>
   simp only [sliceBounds,HT.sIx,Option.getD_none,show (1:Int)>0 by decide,if_true];by_cases h:i<0
   ·simp only [h,if_true] <;> omega
   ·simp only [h,if_false] <;> omega
 ·cases hi with
  | none=>simp [sliceBounds,HT.sIx]
  | some i =>
   simp only [sliceBounds,HT.sIx,Option.getD_none,show (1:Int)>0 by decide,if_true];by_cases h:i<0
   ·simp only [h,if_true] <;> omega
   ·simp only [h,if_false] <;> omega
theorem zhd(its:List Value)(lo hi:Option Int):slicePick its.toArray lo hi none=((its.drop (HT.sIx its.length 0 lo)).take (HT.sIx its.length its.length hi - HT.sIx its.length 0 lo)).toArray:=by
 obtain⟨h1,h2,h3⟩:=ziH lo hi its.toArray.size;unfold slicePick;rw [h1,h2,h3];simp only [sliceRange_one,pick_run,size_toArray] <;> rfl
def zrZ(K:W.Frag):V->Option Int->Option Int->Hp->VK->Prop:=fun x lo hi H Q=>∃ a xs,x=.ref a/\SqL K H a xs/\∀ p,H p=none->Q (.ref p) (upd H p (.lst (zj5 xs lo hi)))
theorem zmr:SlR X (zrZ X.K):=by
 intro zh s σ H x v vl vu lo hi sl Q I rx hs pl pu h;obtain⟨a,xs,rfl,hx,q⟩:=h;cases rx;obtain⟨its,r,ht,hz⟩:=I.list hx;have hlen:=r.length;refine⟨"list",_,slot_list_getitem.lookup,ht.isList.typeIs,?_⟩;refine wpAny_getItem_list_slice ht.isList hs pl pu .none (by simp) ?_ (by rw [size_toArray] <;> omega);rw [zhd,<- hlen];refine⟨.ref s.heap.objs.size,_,I.laid (t':=s.toks) (o:=.lst (zj5 xs lo hi)) (fun b ob q=>get?_push_of_some _ q) (le_refl _) ?_,rfl,q _ (I.hok.fresh (le_refl _))⟩;exact⟨le_trans (zdP xs lo hi) hz,_,0,(r.drop (HT.sIx xs.length 0 lo)).take (HT.sIx xs.length xs.length hi - HT.sIx xs.length 0 lo),get?_push_size _ rfl⟩
theorem zeY:CallR X (.builtin "len") (fun xs H Q=>∃ p ys,xs=[.ref p]/\(SqL X.K H p ys\/SqT X.K H p ys)/\Q (.int ys.length) H):=by
 intro zh s σ H xs us Q I r h;obtain⟨p,ys,rfl,hq,q⟩:=h;obtain⟨u,rfl,rx⟩:=vals1 r;cases rx;have hn:=line63;rcases hq with hq | hq
 ·obtain⟨its,r',pl,hz⟩:=I.list hq;have hlen:=r'.length;exact Calls.call_len_list pl.isList (by simp only [size_toArray] <;> omega) ⟨.int ys.length,H,I.tok _,⟨s.toks+1,by rw [size_toArray,hlen]⟩,q⟩
 ·obtain⟨its,r',pl,hz⟩:=I.tuple hq;have hlen:=r'.length;exact len_tuple pl (by simp only [size_toArray] <;> omega) ⟨.int ys.length,H,I.tok _,⟨s.toks+1,by rw [size_toArray,hlen]⟩,q⟩
theorem zhV:CallR X (.builtin "len") (fun xs H Q=>∃ z,xs=[.str z]/\z.length<=sizeLine/\Q (.int z.length) H):=by
 intro zh s σ H xs us Q I r h;obtain⟨z,rfl,hz,q⟩:=h;obtain⟨u,rfl,t,rfl⟩:=vals1 r;have hn:=line63;exact len_str (by omega) ⟨.int z.length,H,I.tok _,⟨_,rfl⟩,q⟩
theorem CallR.or{f:Value}{r r':List V->Hp->VK->Prop}(h:CallR X f r)(h':CallR X f r'):CallR X f (fun xs H Q=>r xs H Q\/r' xs H Q):=by
 intro zh s σ H xs us Q I rs q;rcases q with q | q
 ·exact h zh s σ H xs us Q I rs q
 ·exact h' zh s σ H xs us Q I rs q
theorem ziN:CallR X (.type "list") (fun xs H Q=>∃ p ys,xs=[.ref p]/\(SqL X.K H p ys\/SqT X.K H p ys)/\∀ l,H l=none->Q (.ref l) (upd H l (.lst ys))):=by
 intro zh s σ H xs us Q I r h;obtain⟨p,ys,rfl,hq,q⟩:=h;obtain⟨u,rfl,rx⟩:=vals1 r;cases rx;have fin:∀ (its:List Value),Vals ys its->ys.length<=sizeLine->∀ (h':Heap) (c':Nat),(∀ b o',s.heap.get? b=some o'->h'.get? b=some o') ->
   h'.get? s.heap.objs.size=some { cls:=.type "list",dict:=none,data:=.seq its.toArray c',slots:=#[] }->EP X zh σ Q (.ref s.heap.objs.size) { s with heap:=h' }:=fun its r' hz h' c' kp e =>
  ⟨.ref s.heap.objs.size,_,I.laid (t':=s.toks) kp (le_refl _) (show ObjOk X.prog X.w _ h' _ (.lst ys) from⟨hz,its,c',r',e⟩),rfl,q _ (I.hok.fresh (le_refl _))⟩
 rcases hq with hq | hq
 ·obtain⟨its,r',pl,hz⟩:=I.list hq;have hlen:=r'.length;obtain⟨o,ho,hc,n,hd⟩:=pl.isList;exact call_list_seq p (.inl rfl) ho hc hd (fun h' c' kp e=>fin its r' hz h' c' kp e) (by simp only [size_toArray] <;> omega)
 ·obtain⟨its,r',pl,hz⟩:=I.tuple hq;have hlen:=r'.length;obtain⟨o,ho,hc,n,hd⟩:=pl;exact call_list_seq p (.inr rfl) ho hc hd (fun h' c' kp e=>fin its r' hz h' c' kp e) (by simp only [size_toArray] <;> omega)
theorem zS:CallR X (.type "tuple") (fun xs H Q=>∃ p ys,xs=[.ref p]/\((SqL X.K H p ys/\∀ l,H l=none->Q (.ref l) (upd H l (.tup ys)))\/(SqT X.K H p ys/\Q (.ref p) H))):=by
 intro zh s σ H xs us Q I r h;obtain⟨p,ys,rfl,h⟩:=h;obtain⟨u,rfl,rx⟩:=vals1 r;cases rx;rcases h with ⟨hq,q⟩ | ⟨hq,q⟩
 ·obtain⟨its,r',pl,hz⟩:=I.list hq;have hlen:=r'.length;refine call_tuple_list pl.isList (fun h' kp=>?_) (by simp only [size_toArray] <;> omega);have I1:Inv X zh σ H { s with heap:=h' }:=I.kept (t':=s.toks) kp;have I2:Inv X zh σ (upd H h'.objs.size (.tup ys)) { s with heap:=h'.push { cls:=.type "tuple",data:=.seq its.toArray } } :=
   I1.laid (t':=s.toks) (fun b o e=>get?_push_of_some _ e) (le_refl _) (show ObjOk X.prog X.w _ _ _ (.tup ys) from⟨⟨hz,_,get?_push_size _ rfl,rfl⟩,its,r',IsTup.new _ _⟩)
  exact⟨.ref h'.objs.size,_,I2,rfl,q _ (I1.hok.fresh (le_refl _))⟩
 ·obtain⟨its,r',pl,hz⟩:=I.tuple hq;exact call_tuple_same pl ⟨.ref p,H,I,rfl,q⟩
def tyV(K:W.Frag)(T:String)(x:V)(H:Hp):Prop:=match x with
 | .str _=>T = "str"
 | .int _=>T = "int"
 | .ref p=>(T = "list"/\∃ xs,SqL K H p xs)\/(T = "tuple"/\∃ o,K.lookup p=some o/\o.cls=.type "tuple"/\o.dict=none) \/
   (T = "dict"/\((∃ kvs,H p=some (.dK kvs))\/∃ kvs,H p=some (.dT kvs)))\/(T = "set"/\∃ S n,H p=some (.set S n))
 | _=>False
theorem zo8{zh:List (Addr×Obj)}{σ:St}{H:Hp}{s:Shared}{T:String}{x:V}{v:Value}(I:Inv X zh σ H s)(r:RelV x v)(ty:tyV X.K T x H):
  s.TypeIs v T/\∀ a,v=.ref a->∃ ob,s.heap.get? a=some ob/\ob.dict=none:=by
 cases x with
 | str z =>
  obtain⟨t,rfl⟩:=r;cases (show T = "str" from ty);exact⟨typeIs_str s z t,fun _ e=>nomatch e⟩
 | int i =>
  obtain⟨t,rfl⟩:=r;cases (show T = "int" from ty);exact⟨typeIs_int s i t,fun _ e=>nomatch e⟩
 | ref p =>
  cases r;rcases ty with ⟨rfl,xs,hq⟩ | ⟨rfl,o,hk,hc,hd⟩ | ⟨rfl,hk⟩ | ⟨rfl,S,n,hk⟩
  ·obtain⟨its,_,pl,_⟩:=I.list hq;refine⟨pl.isList.typeIs,fun a e=>?_⟩;cases e;obtain⟨o,n,e,c,hd,_⟩:=pl;exact⟨o,e,hd⟩
  ·refine⟨⟨o,I.kIn p o hk,hc⟩,fun a e=>?_⟩;cases e;exact⟨o,I.kIn _ o hk,hd⟩
  ·have z:∃ o,s.heap.get? p=some o/\o.ExactDict:=by
    rcases hk with ⟨kvs,hk⟩ | ⟨kvs,hk⟩
    ·obtain⟨_,_,_,_,o,_,_,e,ex,_⟩:=I.hok p _ hk;exact⟨o,e,ex⟩
    ·obtain⟨_,_,_,_,o,_,_,e,ex,_⟩:=I.hok p _ hk;exact⟨o,e,ex⟩
   obtain⟨o,e,ex⟩:=z;refine⟨⟨o,e,ex.1⟩,fun a e2=>?_⟩;cases e2;exact⟨o,e,ex.2.1⟩
  ·obtain⟨o,_,_,_,e,ex,_⟩:=I.hok p _ hk;refine⟨⟨o,e,ex.1⟩,fun a e2=>?_⟩;cases e2;exact⟨o,e,ex.2.1⟩
 | _=>exact False.elim ty
def zut(K:W.Frag)(T:String)(r:V->List V->Hp->VK->Prop)(to:TE):TE:=fun σ H Q=>to σ H fun x H1=>tyV K T x H1/\r x [] H1 Q
def tBM(K:W.Frag)(T:String)(r:V->List V->Hp->VK->Prop)(to:TE)(t:TA):TE:=fun σ H Q=>to σ H fun x H1=>tyV K T x H1/\t σ H1 fun xs H2=>r x xs H2 Q
variable {o e:Expr} {es:List Expr} {to:TE} {t:TA} {name:Str} {apos cpos:Pos} {T id:String} {r:V->List V->Hp->VK->Prop}
theorem zpf(pa:PlainAttrs T)(slot:Slot T name id)(hty:typeOf (.builtin id)=pure (.type "method_descriptor"))(hm:MtR X id r)(ho:PE X o to)
  (hbase:attributeBase o name X.env (eval o X.env)=eval o X.env:=by rfl) (hline:(apos.endLine == cpos.line)=true:=by rfl):PE X (.Call (.Attribute o name apos) [] [] cpos) (zut X.K T r to):=by
 intro zh s σ H Q I h;refine wpAny_Call_method0_late hbase hline (thn (ho zh s σ H _ I h) fun v s1 ⟨x,H1,I1,r1,ty,q1⟩=>?_);obtain⟨h1,h2⟩:=zo8 I1 r1 ty;exact⟨T,id,pa,slot,hty,h1,h2,Calls.callWith_builtin rfl (PySem.evalArgs_none (hm zh s1 σ H1 x [] v [] Q I1 r1 .nil q1))⟩
theorem zdS(pa:PlainAttrs T)(slot:Slot T name id)(hty:typeOf (.builtin id)=pure (.type "method_descriptor"))(hm:MtR X id r)(ho:PE X o to)(ha:PA X (e :: es) t)
  (hbase:attributeBase o name X.env (eval o X.env)=eval o X.env:=by rfl)
  (hfew:((backTo cpos (starEach (e :: es) X.env)).all (fun x=>!x.1) && (backToKw cpos (keywordEach [] X.env)).all (fun x=>x.1.isSome)
   && decide ((e :: es).length+([]:List Keyword).length+(if ([]:List Keyword).isEmpty then 0 else 1)<30))=true:=by rfl)
  (hline:(apos.endLine == cpos.line)=true:=by rfl) (hs:starEach (e :: es) X.env=(false,eval e X.env) :: starEach es X.env:=by rfl) (hplain:(backTo cpos (starEach es X.env)).any (·.1)=false:=by rfl) :
  PE X (.Call (.Attribute o name apos) (e :: es) [] cpos) (tBM X.K T r to t):=by
 intro zh s σ H Q I h;refine wpAny_Call_method_late hbase hfew hline rfl (thn (ho zh s σ H _ I h) fun v s1 ⟨x,H1,I1,r1,ty,q1⟩=>?_);obtain⟨h1,h2⟩:=zo8 I1 r1 ty;refine⟨T,id,pa,slot,hty,h1,h2,?_⟩;have hA:=ha cpos zh s1 σ H1 _ I1 q1;rw [hs] at hA ⊢;refine Calls.callWith_builtin (by show (false || (backTo cpos (starEach es X.env)).any (·.1))=false; rw [hplain] <;> rfl) (Calls.evalArgs_plain ?_);exact thn hA fun us s2 ⟨vs,H2,I2,r2,q2⟩=>hm zh s2 σ H2 x vs v us Q I2 r1 r2 q2
end
end
section
def MtM(X:Cx)(id:String)(r:V->List V->Hp->VK->Prop):Prop :=
 ∀ (zh:List (Addr×Obj)) (s:Shared) (σ:St) (H:Hp) (x:V) (xs:List V) (v:Value) (us:List Value) (Q:VK),Inv X zh σ H s->RelV x v->Vals xs us->r x xs H Q ->
  wpAny (model X.prog X.w) X.A (call (.builtin id) (v :: us)) (EP X zh σ Q) X.xe s
theorem Vals.one:∀ {x:V} {us:List Value},Vals [x] us->∃ u,us=[u]/\RelV x u
 | _,_,.cons r .nil=>⟨_,rfl,r⟩
theorem Vals.zero:∀ {us:List Value},Vals [] us->us=[]
 | _,.nil=>rfl
theorem Vals.dropLast{xs:List V}{us:List Value}(h:Vals xs us):Vals xs.dropLast us.dropLast:=by
 induction h with
 | nil=>exact .nil
 | cons r t ih =>
  cases t with
  | nil=>exact .nil
  | cons q t'=>exact .cons r ih
theorem Vals.reverse{xs:List V}{us:List Value}(h:Vals xs us):Vals xs.reverse us.reverse:=by
 induction h with
 | nil=>exact .nil
 | cons r t ih=>rw [reverse_cons,reverse_cons]; exact Vals.append ih (.cons r .nil)
theorem Vals.rep{xs:List V}{us:List Value}(h:Vals xs us):∀ k:Nat,Vals (List.replicate k xs).flatten (List.replicate k us).flatten
 | 0=>.nil
 | k+1=>by
  rw [replicate_succ,replicate_succ,flatten_cons,flatten_cons];exact Vals.append h (Vals.rep h k)
theorem zlg{α:Type}(l:List α):l.eraseIdx (l.length - 1)=l.dropLast:=by
 induction l with
 | nil=>rfl
 | cons a r ih =>
  cases r with
  | nil=>rfl
  | cons b r =>
   have e:(a :: b :: r).length - 1=((b :: r).length - 1)+1:=by
    have h1:(a :: b :: r).length=r.length+2:=rfl;have h2:(b :: r).length=r.length+1:=rfl;omega
   rw [e,List.eraseIdx_cons_succ,ih]
   all_goals rfl
theorem zem(its:List Value):∀ (k:Nat) (acc:List Value),
  List.foldl (fun x1 x2=>x1++x2) acc.toArray (List.replicate k its.toArray)=(acc++(List.replicate k its).flatten).toArray
 | 0,acc=>by simp
 | k+1,acc=>by
  have e:acc.toArray++its.toArray=(acc++its).toArray:=by simp
  have e2:(acc++its)++(List.replicate k its).flatten=acc++(List.replicate (k+1) its).flatten:=by
   rw [replicate_succ,flatten_cons,append_assoc]
  rw [<- e2,<- zem its k (acc++its),<- e,replicate_succ,List.foldl_cons]
section
variable {X:Cx} {zh:List (Addr×Obj)} {σ:St} {H:Hp} {s:Shared} {l b:Addr} {xs ys zs:List V}
theorem Inv.lset{its its':List Value}{n:Nat}{f:Array Value->Array Value}{t':Nat}(I:Inv X zh σ H s)(hH:H l=some (.lst xs))
  (e:s.heap.get? l=some { cls:=.type "list",data:=.seq its.toArray n }) (hf:f its.toArray=its'.toArray) (hv:Vals ys its') (hz:ys.length<=sizeLine) :
  Inv X zh σ (upd H l (.lst ys)) { s with heap:=s.heap.update l (Obj.mapSeq f),toks:=t' }:=by
 have q:=PySem.IsL.update e f;rw [hf] at q;refine I.write (x:=l) (e:=l) (by rw [hH]; exact trivial) (.inl rfl) (fun b' u hb hu=>(get?_update_other s.heap (Obj.mapSeq f) (Ne.symm hb)).trans hu) ⟨_,q⟩ ?_;exact⟨hz,its',_,hv,q⟩
theorem Inv.lnew{its:List Value}{t':Nat}(I:Inv X zh σ H s)(hv:Vals ys its)(hz:ys.length<=sizeLine):
  Inv X zh σ (upd H s.heap.objs.size (.lst ys)) { s with heap:=s.heap.push { cls:=.type "list",data:=.seq its.toArray },toks:=t' } :=
 I.laid (fun _ _ q=>get?_push_of_some _ q) (le_refl _) ⟨hz,its,0,hv,get?_push_size _ rfl⟩
theorem Inv.fresh(I:Inv X zh σ H s):H s.heap.objs.size=none:=I.hok.fresh (le_refl _)
theorem Inv.lstM(I:Inv X zh σ H s)(hH:H l=some (.lst xs)):xs.length<=sizeLine/\∃ (its:List Value) (n:Nat),Vals xs its/\xs.length=its.length/\s.heap.get? l=some { cls:=.type "list",data:=.seq its.toArray n }:=by
 obtain⟨z,its,n,r,e⟩:=I.hok l _ hH;exact⟨z,its,n,r,r.length,e⟩
theorem zj0{n:Nat}(h:n<=sizeLine):Builtin.List.listTooLong n=false:=by
 unfold Builtin.List.listTooLong;exact decide_eq_false (by omega)
end
section
variable {X:Cx}
def zlA:V->List V->Hp->VK->Prop:=fun x vs H Q=>∃ l xs y,x=.ref l/\vs=[y]/\H l=some (.lst xs)/\xs.length<sizeLine/\Q .non (upd H l (.lst (xs++[y])))
theorem zbl:MtM X "list.append" zlA:=by
 intro zh s σ H x vs v us Q I rx rv h;obtain⟨l,xs,y,rfl,rfl,hH,hz,q⟩:=h;cases rx;obtain⟨u,rfl,ru⟩:=rv.one;obtain⟨z,its,n,r,hl,e⟩:=I.lstM hH;refine call_meets F.slot_list_append ⟨_,e,rfl⟩ F.entry_list_append (F.args_list_append_2 _ _) (PySem.list_append l its.toArray n u (by rw [size_toArray]; omega)) ⟨e,?_⟩;refine⟨.non,_,I.lset (its':=its++[u]) hH e (by simp) (r.append (.cons ru .nil)) ?_,rfl,q⟩;rw [length_append,length_singleton];omega
def zmv:V->List V->Hp->VK->Prop:=fun x vs H Q=>∃ l b xs zs,x=.ref l/\vs=[.ref b]/\H l=some (.lst xs)/\H b=some (.lst zs)/\xs.length+zs.length<=sizeLine/\Q .non (upd H l (.lst (xs++zs)))
theorem zfu:MtM X "list.extend" zmv:=by
 intro zh s σ H x vs v us Q I rx rv h;obtain⟨l,b,xs,zs,rfl,rfl,hH,hB,hz,q⟩:=h;cases rx;obtain⟨u,rfl,ru⟩:=rv.one;cases ru;obtain⟨z,its,n,r,hl,e⟩:=I.lstM hH;obtain⟨z2,its2,n2,r2,hl2,e2⟩:=I.lstM hB;have hsz:its.toArray.size+its2.toArray.size<=sizeLine:=by rw [size_toArray,size_toArray]; omega
 have hlong:¬ (!its.toArray.isEmpty && Builtin.List.listTooLong (its.toArray.size+its2.toArray.size))=true:=by
  rw [zj0 hsz,Bool.and_false];exact Bool.false_ne_true
 refine call_meets F.slot_list_extend ⟨_,e,rfl⟩ F.entry_list_extend (F.args_list_extend_2 _ _)
  (AutoSeq1.list_extend_list_list_0 l its.toArray n b its2.toArray n2 hlong (by rw [size_toArray]; omega) (by omega)) ⟨e,e2,?_⟩
 refine⟨.non,_,I.lset (its':=its++its2) hH e (by simp) (r.append r2) ?_,rfl,q⟩;rw [length_append];omega
def zul:V->List V->Hp->VK->Prop:=fun x vs H Q=>∃ l xs y,x=.ref l/\vs=[]/\H l=some (.lst xs)/\xs[xs.length - 1]? = some y/\Q y (upd H l (.lst xs.dropLast))
theorem zsQ:MtM X "list.pop" zul:=by
 intro zh s σ H x vs v us Q I rx rv h;obtain⟨l,xs,y,rfl,rfl,hH,hy,q⟩:=h;cases rx;have hus:=rv.zero;subst hus;obtain⟨z,its,n,r,hl,e⟩:=I.lstM hH;obtain⟨u,hu,ru⟩:=r.get hy;have hy':its.toArray[its.toArray.size - 1]? = some u:=by
  show its.toArray[its.length - 1]? = some u;rw [<- Array.getElem?_toList,<- hl];exact hu
 refine call_meets F.slot_list_pop ⟨_,e,rfl⟩ F.entry_list_pop (F.args_list_pop_1 _) (MeetsSeq.list_pop_last l its.toArray n u hy' (by rw [size_toArray]; omega)) ⟨e,?_⟩;refine⟨y,_,I.lset (its':=its.dropLast) hH e ?_ r.dropLast ?_,ru,q⟩
 ·show its.toArray.eraseIdxIfInBounds (its.toArray.size - 1)=its.dropLast.toArray;rw [size_toArray,List.eraseIdxIfInBounds_toArray,zlg]
 ·rw [List.length_dropLast];omega
def zjK:V->List V->Hp->VK->Prop:=fun x vs H Q=>∃ l xs,x=.ref l/\vs=[]/\H l=some (.lst xs)/\Q .non (upd H l (.lst xs.reverse))
theorem zkP:MtM X "list.reverse" zjK:=by
 intro zh s σ H x vs v us Q I rx rv h;obtain⟨l,xs,rfl,rfl,hH,q⟩:=h;cases rx;have hus:=rv.zero;subst hus;obtain⟨z,its,n,r,hl,e⟩:=I.lstM hH;refine call_meets F.slot_list_reverse ⟨_,e,rfl⟩ F.entry_list_reverse (F.args_list_reverse_1 _) (AutoSeq1.list_reverse_list_0 l its.toArray n (by rw [size_toArray]; omega)) ⟨e,?_⟩;refine⟨.non,_,I.lset (its':=its.reverse) hH e (by simp) r.reverse ?_,rfl,q⟩;rw [List.length_reverse];omega
def zrq:R2:=fun x y H Q=>∃ l b xs zs,x=.ref l/\y=.ref b/\H l=some (.lst xs)/\H b=some (.lst zs)/\xs.length+zs.length<=sizeLine/\∀ p,H p=none->Q (.ref p) (upd H p (.lst (xs++zs)))
theorem zl3:OpR X (binaryOp .Add) zrq:=by
 intro zh s σ H x y v u Q I rx ry h;obtain⟨l,b,xs,zs,rfl,rfl,hH,hB,hz,q⟩:=h;cases rx;cases ry;obtain⟨z,its,n,r,hl,e⟩:=I.lstM hH;obtain⟨z2,its2,n2,r2,hl2,e2⟩:=I.lstM hB;refine PySem.P.add_list e e2 ?_ (by rw [size_toArray,size_toArray]; omega);have ea:its.toArray++its2.toArray=(its++its2).toArray:=by simp
 rw [ea];exact⟨.ref _,_,I.lnew (t':=s.toks) (r.append r2) (by rw [length_append]; omega),rfl,q _ I.fresh⟩
def zus:R2:=fun x y H Q=>∃ l k xs,x=.ref l/\y=.int k/\H l=some (.lst xs)/\-(2 ^ 63)<=k/\k<2 ^ 63/\xs.length*k.toNat<=sizeLine /\
 ∀ p,H p=none->Q (.ref p) (upd H p (.lst (List.replicate k.toNat xs).flatten))
theorem zji{α:Type}(xs:List α)(k:Nat):(List.replicate k xs).flatten.length=k*xs.length:=by
 induction k with
 | zero=>simp
 | succ k ih=>rw [replicate_succ,flatten_cons,length_append,ih,succ_mul,Nat.add_comm]
theorem zsi:OpR X (binaryOp .Mult) zus:=by
 intro zh s σ H x y v u Q I rx ry h;obtain⟨l,k,xs,rfl,rfl,hH,h1,h2,hz,q⟩:=h;cases rx;obtain⟨t,rfl⟩:=ry;obtain⟨z,its,n,r,hl,e⟩:=I.lstM hH;have hlen:its.toArray.size*k.toNat<=sizeLine:=by rw [size_toArray,<- hl]; exact hz
 have hcap:¬ its.toArray.size*k.toNat>(2 ^ 63 - 1) / 8:=by
  have:(sizeLine:Nat)<=(2 ^ 63 - 1) / 8:=by decide
  omega
 have hfit:¬ (!Builtin.List.listFitsIndex k)=true:=by
  rw [fitsIndex_both h1 h2];exact Bool.false_ne_true
 have hlong:¬ Builtin.List.listTooLong (its.toArray.size*k.toNat)=true:=by
  rw [zj0 hlen];exact Bool.false_ne_true
 have hnew:List.foldl (fun x1 x2=>x1++x2) #[] (List.replicate (if its.toArray.isEmpty=true then 0 else k.toNat) its.toArray)=(List.replicate k.toNat its).flatten.toArray:=by
  have f0:∀ m:Nat,List.foldl (fun x1 x2=>x1++x2) #[] (List.replicate m its.toArray)=(List.replicate m its).flatten.toArray:=fun m=>by
   have:=zem its m [];rw [nil_append] at this;exact this
  rw [f0];cases its with
  | nil=>simp
  | cons a r'=>rw [if_neg (by simp)]
 refine wpAny_binaryOp_repeat_ref (T:="list") (U:="int") dz ⟨_,e,rfl⟩ (fun s'=>typeIs_int s' k t) noFill_list_mul F.fills_int_mul F.slot_int_rmul repeat_list F.slot_int_index.lookup
  (call_meets F.slot_int_rmul (typeIs_int s k t) F.entry_int_rmul (F.args_int_rmul_2 _ _) (int___rmul___int_list k t l its.toArray n)
   ⟨e,rfl,⟨_,e,rfl⟩,call_meets F.slot_list_mul ⟨_,e,rfl⟩ F.entry_list_mul (F.args_list_mul_2 _ _) (AutoListH.list___mul___list_int_3 l its.toArray n k t hfit hcap hlong) ⟨e,?_⟩⟩)
 rw [hnew];exact⟨.ref _,_,I.lnew (t':=s.toks) (r.rep k.toNat) (by rw [zji,mul_comm]; exact hz),rfl,q _ I.fresh⟩
end
end
section
structure M1(X:Cx)(o:Expr)(m:Str)(apos:Pos)(e:Expr)(cpos:Pos):Prop where
 base:attributeBase o m X.env (eval o X.env)=eval o X.env
 few:((backTo cpos (starEach [e] X.env)).all (fun x=>!x.1) && (backToKw cpos (keywordEach [] X.env)).all (fun x=>x.1.isSome)
  && decide (([e]:List Expr).length+([]:List Keyword).length+(if ([]:List Keyword).isEmpty then 0 else 1)<30))=true
 line:(apos.endLine == cpos.line)=true
 trees:backTo cpos (starEach [e] X.env)=[(false,eval e X.env)]
structure M2(X:Cx)(o:Expr)(m:Str)(apos:Pos)(e f:Expr)(cpos:Pos):Prop where
 base:attributeBase o m X.env (eval o X.env)=eval o X.env
 few:((backTo cpos (starEach [e,f] X.env)).all (fun x=>!x.1) && (backToKw cpos (keywordEach [] X.env)).all (fun x=>x.1.isSome)
  && decide (([e,f]:List Expr).length+([]:List Keyword).length+(if ([]:List Keyword).isEmpty then 0 else 1)<30))=true
 line:(apos.endLine == cpos.line)=true
 trees:backTo cpos (starEach [e,f] X.env)=[(false,eval e X.env),(false,eval f X.env)]
end
end L2
namespace Att
open PySem PySem.W PySem.Calls PyProof.Rows
theorem zfU{P:Params}{h:Heap}:∀ (ns:List Int) (vs:List Value),WellAll P h vs (ns.map WData.int)->IntsAre vs ns:=by
 intro ns;induction ns with
 | nil =>
  intro vs w;rw [map_nil] at w;cases w;exact .nil
 | cons n ns ih =>
  intro vs w;rw [map_cons] at w;cases w with
  | cons a b =>
   cases a;exact .cons _ _ (ih _ b)
theorem zmb{l:OpenLaw}{n:Nat}(hn:l.most=some n){P:Params}{h:Heap}{args:List WData}{vals:List Value}
  (hpre:l.row.toRowW.claim.pre args=true) (hwl:WellAll P h vals args) :
  ∃ a vs ns,vals=[Value.ref a]/\args=[WData.list (ns.map WData.int)]/\h.get? a=some { cls:=.type "list",data:=.seq vs.toArray }/\IntsAre vs ns/\ns.length<=n:=by
 have hsh:WShape.hasAll [] args [.list .int]=true:=(pre_splitW hpre).1;have hc:l.pre.holds [] { args:=args } = true:=(pre_splitW hpre).2;obtain⟨d,r,rfl,h1,h2⟩:=hasAllW_cons hsh;obtain rfl:=hasAllW_nil h2;obtain⟨xs,rfl,h3⟩:=hasW_list h1;obtain⟨ns,rfl⟩:=items_int h3;have hlen:ns.length<=n:=by
  unfold OpenLaw.pre at hc;have h4:(WTm.not (.lt (.lit (.int (n:Int))) (.len (.arg 0)))).holds [] { args:=[.list (ns.map .int)] } = true:=by
   have h4:=(holds_andW hc).1;rw [hn] at h4;exact h4
  have h5:=condW_of h4 (w_not (w_lt w_lit (w_len_list (w_arg rfl))));rw [length_map] at h5;refine Nat.le_of_not_lt fun q=>?_;have q':(n:Int)<((ns.length:Nat):Int):=by omega
  first
   | (rw [decide_eq_true q'] at h5; exact absurd h5 dz)
   | (simp at h5; omega)
 cases hwl with
 | cons w1 w2 =>
  cases w2;cases w1 with
  | list ho hall=>exact⟨_,_,ns,rfl,rfl,ho,zfU ns _ hall,hlen⟩
theorem zmy(l:OpenLaw)(args:List WData):l.row.toRowW.claim.post args (.bool true) args=true :=
 postW_of (r:=l.row.toRowW) (X:=(true == true))
  (show WShape.has [] (.bool true) .bool=true by first | rfl | decide | simp [WShape.has,WShape.arms,WShape.armsAll])
  (show (WTm.eq .res (.lit (.bool true))).value [] { args:=args,res:=some (.bool true),after:=args } = some (.bool (true == true)) from w_eq_bool (w_res rfl) w_lit) rfl
theorem attach_call{l:OpenLaw}{n:Nat}{q:Program}{loose:List Str}{XP:(Str->Option Value)->Heap->Prop}{YP:World->Heap->Prop}{d:DefRec}
  (hn:l.most=some n) (hdf:d.params.defaults=[])
  (call:∀ (w:World) (s₀ s₁:Shared) (mg mb:Str->Option Value) (fa:Addr) (o:Obj) (pm cd doc:Value) (a:Addr) (vs:List Value) (ns:List Int),
   Ground q loose [] XP w s₀ mg mb s₁.heap->YP w s₁.heap ->
   s₁.heap.get? fa=some o->o.data=.func (docDef d.name d.params d.body d.scope pm cd doc)->s₁.heap.CodeRec cd d.name->mg d.name=some (.ref fa) ->
   s₁.heap.get? a=some { cls:=.type "list",data:=.seq vs.toArray }->IntsAre vs ns->ns.length<=n->s₁.gens = #[] ->
   codeAny (model l.prog w) callerA (.call (.ref fa) ⟨[.ref a],[]⟩) (fun r s'=>r=.ok (.ret (.bool true))/\OldK s₁.heap s'.heap/\s'.os=s₁.os/\AllBare s'.gens) s₁) :
  WalkO q loose XP YP l.row.toRowW d [] (fun f vs=>PySem.call f vs):=by
 intro w s₀ s₁ mg mb G Y fa o pm cd doc dV kV ho hd hcd hD hmg hg args vals as hpre hlay hrd hwl hlo;obtain rfl:dV=.none:=Dflts.none hD hdf;obtain rfl:kV=.none:=Dflts.noKw hD;obtain⟨a,vs,ns,rfl,rfl,hobj,hints,hlen⟩:=zmb hn hpre hwl;refine enter_call (codeAny_mono (call w s₀ s₁ mg mb fa o pm cd doc a vs ns G Y ho (fd_plain hd) hcd hmg hobj hints hlen hg) fun r s' hq=>?_);obtain⟨rfl,h2,h3,h4⟩:=hq;exact⟨.inl ⟨.bool true,.bool true,[],rfl,fun _=>rfl,.bool true,zmy l _,fun _=>⟨List.Pairwise.nil,fun _ hm=>(nomatch hm)⟩⟩,h2,h3,h4⟩
end Att
namespace L2
open PySem PySem.Spec PyProof.Rows
section
theorem zhL:∀ {vs:List Value} {ns:List Int},IntsAre vs ns->Vals (ns.map V.int) vs
 | _,_,.nil=>.nil
 | _,_,.cons n t h=>.cons ⟨t,rfl⟩ (zhL h)
def Only(H:Hp):Prop:=∀ b,H b=none\/(∃ o xs,H b=some (.frz o (.lst xs)))\/∃ q∈tabsG,q.1.2=b/\H b=some (.tbl q.2)
def zev(b:Addr):Option HO:=(tabsG.find? fun q=>q.1.2 == b).map fun q=>.tbl q.2
theorem zdw{b:Addr}{u:HO}(e:zev b=some u):∃ q∈tabsG,q.1.2=b/\u=.tbl q.2:=by
 unfold zev at e;cases h:tabsG.find? fun q=>q.1.2 == b with
 | none=>rw [h] at e; cases e
 | some q =>
  rw [h] at e;cases e;exact⟨q,List.mem_of_find?_eq_some h,by simpa using List.find?_some h,rfl⟩
theorem zle{l:List ((Addr×Addr)×Array Value)}(nd:(l.map fun q=>q.1.2).Nodup){q:(Addr×Addr)×Array Value}(h:q∈l):l.find? (fun r=>r.1.2 == q.1.2)=some q:=by
 induction l with
 | nil=>cases h
 | cons p l ih =>
  rw [map_cons,nodup_cons] at nd;rcases mem_cons.mp h with e | e
  ·subst e; simp
  ·have ne:¬ p.1.2=q.1.2:=fun z=>nd.1 (by rw [z]; exact mem_map_of_mem (f:=fun q:(Addr×Addr)×Array Value=>q.1.2) e);rw [List.find?_cons_of_neg (by simpa using ne)];exact ih nd.2 e
theorem ziL(nd:(tabsG.map fun q=>q.1.2).Nodup){q:(Addr×Addr)×Array Value}(h:q∈tabsG):zev q.1.2=some (.tbl q.2):=by
 unfold zev;rw [zle nd h];rfl
structure TabsOk(K:W.Frag)(h:Heap):Prop where
 nd:(tabsG.map fun q=>q.1.2).Nodup
 hd:∀ q∈tabsG,W.CodeHd h q.1.1 q.1.2
 empty:∀ q∈tabsG,h.get? q.1.2=some (W.tabObj #[])
 off:∀ q∈tabsG,K.lookup q.1.2=none
theorem zok{P:Program}{w:World}{K:W.Frag}{mg mb:Str->Option Value}{CX:CXT}{k:Nat}{fa a:Addr}{fd:FuncData}{x:Str}{sp:Sp}{s₁:Shared}{vs:List Value}{ns:List Int}
  (KX:K.In s₁.heap) (TT:TabsOk K s₁.heap) (hbm:BltAt s₁.heap mg) (hns:s₁.heap.Ns mainGlobals mg) (hb:s₁.heap.Ns builtinsNs mb) (hbb:∀ x:Str,x ≠ "__name__"->mb x=bootBuiltins x) (hlim:s₁.heap.NoLimit) (hg:s₁.gens = #[])
  (ha:s₁.heap.get? a=some { cls:=.type "list",data:=.seq vs.toArray }) (hi:IntsAre vs ns) (hl:ns.length<=sizeLine) (hr:Room k callerA)
  (F:∀ base:Heap,K.In base->base.Ns mainGlobals mg->FnOk P w K mg base CX k fa fd [x] sp) (hbind:∀ (s:Shared) (u:Value),BindsTo s fd ⟨[u],[]⟩ [(x,u)])
  (hsp:∀ H:Hp,Only H->SqL K H a (ns.map V.int)->sp [.ref a] H (fun v _=>v=.bl true) fun _ _ _=>False)
  (hCX:∀ H e s',CX [] H s₁ (fun _ _ _=>False) e s'->False) :
  codeAny (model P w) callerA (.call (.ref fa) ⟨[.ref a],[]⟩) (fun r s'=>r=.ok (.ret (.bool true))/\OldK s₁.heap s'.heap/\s'.os=s₁.os/\AllBare s'.gens) s₁:=by
 have rv:=zhL hi;have lenV:=hi.length
 -- from an abstract heap in which nothing but the script may be tracked
 have core:∀ H:Hp,Only H->SqL K H a (ns.map V.int)->HOk P w H s₁.heap->(∀ b,H b≠none->b=a\/∃ q∈tabsG,q.1.2=b)->(H a≠none->K.lookup a=none)->(∀ q∈tabsG,H q.1.2=some (.tbl q.2)) ->
   codeAny (model P w) callerA (.call (.ref fa) ⟨[.ref a],[]⟩) (fun r s'=>r=.ok (.ret (.bool true))/\OldK s₁.heap s'.heap/\s'.os=s₁.os/\AllBare s'.gens) s₁:=by
  intro H hO hS hok hA hK hTab;have noO:∀ {b:Addr} {o:Obj},s₁.heap.get? b=some o->o.cls≠.type "list"->o.cls≠.none->H b=none:=fun {b o} e c1 c2=>by
   cases q:H b with
   | none=>rfl
   | some u =>
    rcases hA b (by rw [q]; simp) with e' | ⟨r,hr',e'⟩
    ·subst e';rw [ha] at e; cases e;exact absurd rfl c1
    ·have:=TT.empty r hr';rw [e',e] at this;cases this;exact absurd rfl c2
  have base_of:∀ {b:Addr} {o:Obj},s₁.heap.get? b=some o->H b=none->(zoM s₁.heap H).get? b=some o:=fun e n=>zoK e n;have noA:∀ {b:Addr} {o:Obj} {es:Array DictEntry} {ep:Nat},s₁.heap.get? b=some o->o.data=.dict es ep->H b=none:=fun {b o es ep} e d=>by
   cases q:H b with
   | none=>rfl
   | some u =>
    rcases hA b (by rw [q]; simp) with e' | ⟨r,hr',e'⟩
    ·subst e';rw [ha] at e; cases e;have d':Data.seq vs.toArray _=Data.dict es ep:=d;cases d'
    ·have:=TT.empty r hr';rw [e',e] at this;cases this;cases d
  have nsK:∀ {b:Addr} {m:Str->Option Value},s₁.heap.Ns b m->(zoM s₁.heap H).Ns b m:=fun {b m} ⟨o,es,ep,e,d,r⟩=>⟨o,es,ep,base_of e (noA e d),d,r⟩;have hKb:K.In (zoM s₁.heap H):=fun b o e=>base_of (KX b o e) (by
   cases q:H b with
   | none=>rfl
   | some u =>
    rcases hA b (by rw [q]; simp) with e' | ⟨r,hr',e'⟩
    ·subst e';rw [hK (by rw [q]; simp)] at e; cases e
    ·rw [<- e',TT.off r hr'] at e; cases e)
  have hM:Mod K mg (zoM s₁.heap H):=⟨hKb,nsK hns,⟨mb,nsK hb,hbb⟩,let ⟨mc,h1,h2⟩:=hlim; ⟨mc,nsK h1,h2⟩,
   let ⟨bm,ob,b1,b2,b3,b4,b5⟩:=hbm; ⟨bm,ob,b1,b2,base_of b3 (noO b3 (by rw [b4]; decide) (by rw [b4]; decide)),b4,b5⟩,
   fun q hq=>let ⟨o,vs,file,tf,flags,tg,inF,text,tt,e1,c1,r⟩:=TT.hd q hq; ⟨o,vs,file,tf,flags,tg,inF,text,tt,base_of e1 (noO e1 (by rw [c1]; decide) (by rw [c1]; decide)),c1,r⟩⟩
  have e0:Env0 P w K mg (zoM s₁.heap H) callerA [] s₁ H:=⟨rfl,hM,fun b o e=>zq9 e,le_of_eq (zm9 _ _),trivial,⟨fun b hb=>absurd (show b∈([]:List Addr) from hb) (by simp),hTab⟩,hok,.of_eq hg⟩;refine codeAny_mono ((F _ hKb (nsK hns)).run callerA [] s₁ H ⟨[.ref a],[]⟩ [.ref a] [.ref a] _ _ hr e0 (hbind s₁ (.ref a)) (.cons rfl .nil) (hsp H hO hS)) fun r s' h=>?_;cases r with
  | error e=>exact(hCX H e s' h).elim
  | ok fl =>
   cases fl with
   | next=>exact False.elim h
   | brk=>exact False.elim h
   | cont=>exact False.elim h
   | ret u =>
    obtain⟨v,H',os,bare,un,hok',r',q⟩:=h;have q':v=.bl true:=q;subst q';obtain rfl:u=Value.bool true:=r';have all:∀ b o,s₁.heap.get? b=some o->s'.heap.get? b=some o\/∃ q∈tabsG,q.1.2=b/\o=W.tabObj #[]/\∃ ps,s'.heap.get? b=some (W.tabObj ps):=fun b o e=>by
     cases q:H b with
     | none=>exact .inl (un.keep b o e q (by intro z; exact absurd (show b∈([]:List Addr) from z) (by simp)) (by simp))
     | some u =>
      rcases hO b with z | ⟨ob,xs,z⟩ | ⟨r,hr',e',z⟩
      ·rw [q] at z; cases z
      ·have z2:=un.frzs b ob _ z;obtain⟨e1,_⟩:=hok b _ z;obtain⟨e2,_⟩:=hok' b _ z2;rw [e] at e1; cases e1;exact .inl e2
      ·obtain⟨qs,e2,_⟩:=hok' b _ (un.tbls b _ z);have:=TT.empty r hr';rw [e',e] at this;cases this;exact .inr ⟨r,hr',e',rfl,qs,e2⟩
    refine⟨rfl,⟨fun b o e=>?_,fun b o e=>?_⟩,os,bare⟩
    ·rcases all b o e with z | ⟨r,hr',rfl,rfl,ps,z⟩
     ·exact .inl z
     ·exact .inr (.inl ⟨((TT.hd r hr').tab (TT.empty r hr')).isCodeTable,rfl,#[],ps,rfl,by rw [Array.empty_append]; exact z⟩)
    ·rcases all b o e with z | ⟨r,hr',rfl,rfl,ps,z⟩
     ·exact⟨o,z⟩
     ·exact⟨_,z⟩
 have naT:∀ q∈tabsG,q.1.2≠a:=fun q hq z=>by
  have:=TT.empty q hq;rw [z,ha] at this;cases this
 have tOk:∀ (H:Hp) (b:Addr) (u:HO),zev b=some u->ObjOk P w H s₁.heap b u:=fun H b u z=>by
  obtain⟨q,hq,rfl,rfl⟩:=zdw z;exact⟨#[],TT.empty q hq,.inl rfl⟩
 cases hk:K.lookup a with
 | some o =>
  -- the script is one of the module's own objects
  have e:=KX a o hk;rw [ha] at e;cases e;refine core zev (fun b=>?_) (.inr ⟨_,vs.toArray,_,hk,rfl,rfl,rfl,by rw [size_toArray,lenV]; exact hl,by simpa using rv⟩) (tOk zev) (fun b z=>?_) (fun z=>?_) fun q hq=>ziL TT.nd hq
  ·cases q:zev b with
   | none=>exact .inl rfl
   | some u=>obtain⟨r,hr',e',rfl⟩:=zdw q; exact .inr (.inr ⟨r,hr',e',rfl⟩)
  ·cases q:zev b with
   | none=>exact absurd q z
   | some u=>obtain⟨r,hr',e',_⟩:=zdw q; exact .inr ⟨r,hr',e'⟩
  ·cases q:zev a with
   | none=>exact absurd q z
   | some u=>obtain⟨r,hr',e',_⟩:=zdw q; exact absurd e' (naT r hr')
 | none =>
  refine core (fun b=>if b=a then some (.frz { cls:=.type "list",data:=.seq vs.toArray } (.lst (ns.map V.int))) else zev b) (fun b=>?_) (.inl (.inr ⟨{ cls:=.type "list",data:=.seq vs.toArray },if_pos rfl⟩)) (fun b u z=>?_) (fun b z=>?_) (fun _=>hk) fun q hq=>(if_neg (naT q hq)).trans (ziL TT.nd hq)
  ·by_cases hb:b=a
   ·exact .inr (.inl ⟨_,_,if_pos hb⟩)
   ·cases q:zev b with
    | none=>exact .inl ((if_neg hb).trans q)
    | some u=>obtain⟨r,hr',e',rfl⟩:=zdw q; exact .inr (.inr ⟨r,hr',e',(if_neg hb).trans q⟩)
  ·by_cases hb:b=a
   ·have z':=(if_pos hb).symm.trans z;cases z';subst hb;exact⟨ha,by rw [length_map]; exact hl,vs,_,rv,ha⟩
   ·have z':=(if_neg hb).symm.trans z;exact tOk _ b u z'
  ·by_cases hb:b=a
   ·exact .inl hb
   ·cases q:zev b with
    | none=>exact absurd ((if_neg hb).trans q) z
    | some u=>obtain⟨r,hr',e',_⟩:=zdw q; exact .inr ⟨r,hr',e'⟩
end
section
abbrev KOf {K:W.Frag} {h:Heap} (_:K.In h):W.Frag:=K
theorem walk_of{l:W.OpenLaw}{n k:Nat}{q:Program}{loose:List Str}{XP:(Str->Option Value)->Heap->Prop}{YP:World->Heap->Prop}{d:DefRec}{K:Params->W.Frag}{CX:World->CXT}{sp:World->Sp}{x:Str}
  (hn:l.most=some n) (hn2:n<=sizeLine) (hdf:d.params.defaults=[]) (hr:Room k callerA)
  (hY:∀ (w:World) (h:Heap),YP w h->(K w.params).In h)
  (hT:∀ (w:World) (h:Heap),YP w h->TabsOk (K w.params) h)
  (F:∀ (w:World) (mg:Str->Option Value) (fa:Addr) (h:Heap),(K w.params).In h->h.Ns mainGlobals mg->mg d.name=some (.ref fa) ->
   ∃ fd:FuncData,(∀ (s:Shared) (u:Value),BindsTo s fd ⟨[u],[]⟩ [(x,u)]) /\
    ∀ base:Heap,(K w.params).In base->base.Ns mainGlobals mg->FnOk l.prog w (K w.params) mg base (CX w) k fa fd [x] (sp w))
  (hsp:∀ (w:World) (H:Hp) (a:Addr) (ns:List Int),ns.length<=n->Only H->SqL (K w.params) H a (ns.map V.int)->sp w [.ref a] H (fun v _=>v=.bl true) fun _ _ _=>False)
  (hCX:∀ (w:World) (H:Hp) (s:Shared) (e:Value) (s':Shared),CX w [] H s (fun _ _ _=>False) e s'->False) :
  W.WalkO q loose XP YP l.row.toRowW d [] (fun f vs=>PySem.call f vs):=by
 refine Att.attach_call hn hdf fun w s₀ s₁ mg mb fa o pm cd doc a vs ns G Y ho hd hcd hmg hobj hints hlen hg=>?_;have KX:=hY w _ Y;obtain⟨fd,hb,hF⟩:=F w mg fa _ KX G.T.g hmg;exact zok KX (hT w _ Y) (let ⟨bm,ob,a1,a2,a3,a4,a5,a6⟩:=G.T.bmain; ⟨bm,ob,a1,a2,a3,a4,a5,a6⟩) G.T.g G.T.b G.T.builtins G.T.nolimit hg hobj hints (le_trans hlen hn2) hr hF hb (fun H hO hS=>hsp w H a ns hlen hO hS) fun H e s'=>hCX w H s₁ e s'
end
section
def zqJ(s:Stmt)(j:Nat):Stmt:=match s with
 | .ClassDef _ _ _ body _ _ _ _ _ _ _=>body.getD j (.Pass ⟨0,0,0,0⟩)
 | _=>.Pass ⟨0,0,0,0⟩
def zcJ(s:Stmt):Arguments:=match s with
 | .FunctionDef _ a _ _ _ _ _ _ _ _=>a
 | _=>{ posonlyargs:=[],args:=[],vararg:=none,kwonlyargs:=[],kw_defaults:=[],kwarg:=none,defaults:=[] }
def zaK(s:Stmt):List Stmt:=match s with
 | .FunctionDef _ _ b _ _ _ _ _ _ _=>b
 | _=>[]
def zg(s:Stmt):Scope:=match s with
 | .FunctionDef _ _ _ _ _ _ sc _ _ _=>sc
 | _=>{ kind:=.function,names:=[],isGenerator:=false,isCoroutine:=false }
abbrev CX0:CXT:=fun _ _ _ _ _ _=>False
abbrev E0:XK:=fun _ _ _=>False
theorem pass0{X:Cx}:Passes CX0 X E0:=fun _ _ _ _ _ _ _ h=>h.elim
structure Fun(K:W.Frag)(x qual:Str)(st:Stmt)(f:Addr)(fd:FuncData):Prop where
 ex:∃ (oc:Value) (od:Option Addr) (kV doc pm:Value) (an:Option Addr) (cdv ct:Value) (osl:Array (Option Value)),
  fd=W.fnOf x qual (zcJ st) (zaK st) (zg st) .none kV doc pm an cdv ct/\K.lookup f=some ⟨oc,od,.func fd,osl⟩/\W.codeIn K cdv qual=true
 kp:W.keepIn K (.ref f)=true
section
variable {P:Program} {w:World} {K:W.Frag} {mg:Str->Option Value} {base:Heap}
theorem Fun.ok{x qual:Str}{st:Stmt}{f:Addr}{fd:FuncData}{N ps:List Str}{k:Nat}{sp:Sp}(F:Fun K x qual st f fd)(S:FnScope N ps (zg st))(len:∀ vs H Q E,sp vs H Q E->vs.length=ps.length)
  (hbody:∀ (cdv:Value) (A:Around) (outer:List Env) (s:Shared) (H:Hp) (vs:List V) (Q:VK) (E:XK),Room k (A.deeper (envOfC qual (zg st) s.heap.objs.size f cdv))->sp vs H Q E ->
   ∃ t,PSs (zf0 CX0 P w K mg base N qual (zg st) f cdv A outer s H E).nox (zaK st) t/\t { nx:=fun _ H'=>Q .non H',rt:=Q } (start N vs) H):FnOk P w K mg base CX0 (k+1) f fd ps sp:=by
 obtain⟨oc,od,kV,doc,pm,an,cdv,ct,osl,rfl,lk,hcd⟩:=F.ex;refine zoP lk hcd S len fun A outer s H vs Q E hr hsp=>?_;obtain⟨t,h,q⟩:=hbody cdv A outer s H vs Q E hr hsp;exact⟨t,h.nox,q⟩
theorem Fun.binds{x qual:Str}{st:Stmt}{f:Addr}{fd:FuncData}{ps:List Str}(F:Fun K x qual st f fd)
  (h:∀ (kV doc pm:Value) (an:Option Addr) (cdv ct:Value) (us:List Value),us.length=ps.length->bindArgs (W.fnOf x qual (zcJ st) (zaK st) (zg st) .none kV doc pm an cdv ct) ⟨us,[]⟩=pure (ps.zip us)):Binds K fd ps []:=by
 obtain⟨oc,od,kV,doc,pm,an,cdv,ct,osl,rfl,lk,hcd⟩:=F.ex;exact .all (h kV doc pm an cdv ct)
theorem zkj{x qual:Str}{st:Stmt}{f:Addr}{oc:Value}{od an:Option Addr}{osl:Array (Option Value)}{kV doc pm cdv ct:Value}(l:K.lookup f=some ⟨oc,od,.func (W.fnOf x qual (zcJ st) (zaK st) (zg st) .none kV doc pm an cdv ct),osl⟩)
  (c:W.codeIn K cdv qual=true) (k:W.keepIn K (.ref f)=true):Fun K x qual st f (W.fnOf x qual (zcJ st) (zaK st) (zg st) .none kV doc pm an cdv ct):=⟨⟨oc,od,kV,doc,pm,an,cdv,ct,osl,rfl,l,c⟩,k⟩
end
theorem small1000{n:Nat}(h:n<=1000):n<sizeLine:=Nat.lt_of_le_of_lt h dz
section
variable {X:Cx}
theorem pv(i:Nat){x:Str}{pos:Pos}(hN:X.N[i]? = some x:=by rfl)(hv:Vis X.env.scope x:=by first | exact Or.inl rfl | exact Or.inr (Or.inl rfl) | exact Or.inr (Or.inr rfl))(hd:(x == ("__debug__":Str))=false:=by decide)
  (hcd:(x == ("__classdict__":Str))=false:=by decide):PE X (.Name x pos) (zj1 i):=zso hN hv hd hcd
end
theorem zlz{A B:Prop}(h:B):if false=true then A else B:=by
 rw [if_neg Bool.false_ne_true];exact h
theorem zl8{A B:Prop}(h:A):if true=true then A else B:=by
 rw [if_pos rfl];exact h
theorem ite2{c A B:Prop}[Decidable c](h1:c->A)(h2:¬ c->B):if c then A else B:=by
 by_cases h:c
 ·rw [if_pos h];exact h1 h
 ·rw [if_neg h];exact h2 h
def Same(H H':Hp):Prop:=∀ b o,H b=some o->H' b=some o
theorem Same.refl(H:Hp):Same H H:=fun _ _ h=>h
theorem Same.trans{H H1 H2:Hp}(a:Same H H1)(b:Same H1 H2):Same H H2:=fun c o h=>b c o (a c o h)
theorem Same.seq{K:W.Frag}{H H':Hp}{a:Addr}{xs:List V}(e:Same H H')(h:SqL K H a xs):SqL K H' a xs:=by
 rcases h with (h | ⟨o,h⟩) | h
 ·exact .inl (.inl (e _ _ h))
 ·exact .inl (.inr ⟨o,e _ _ h⟩)
 ·exact .inr h
end
section
section
variable {X:Cx}
def CDivX(i j:Int):Prop:=0<j/\j.natAbs.log2<9000
theorem znR:OpR X (binaryOp .FloorDiv) (rI CDivX fun i j=>.int (i / j)):=opI fun i j _ _ _ _ _ hc q=>by
 have h1:(0:Int)<j:=hc.1;exact floordiv_int (by omega) (by rw [Int.fdiv_eq_ediv_of_nonneg i (by omega)]; exact q) (.inl (PyProof.noPylong_of_log2 hc.2))
theorem zqw:OpR X (binaryOp .Mult) (rI IntMulOk fun i j=>.int (i*j)):=opI fun _ _ _ _ _ _ _ hc q=>mul_int q hc
theorem zmJ{k:Int}{n:Nat}(h:k.natAbs<2 ^ n):Builtin.Int.intBits k<=n:=by
 unfold Builtin.Int.intBits;split
 ·exact zero_le _
 ·rename_i h0;have hk:k.natAbs≠0:=by
   intro z;apply h0;rw [Int.natAbs_eq_zero.mp z];rfl
  have:=(Nat.log2_lt hk).mpr h;omega
theorem ztD{i j:Int}(n m:Nat)(hi:i.natAbs<2 ^ n)(hj:j.natAbs<2 ^ m)(hn:n<=2 ^ 20:=by decide)(hm:m<=2 ^ 20:=by decide):IntMulOk i j :=
 .of_bits (le_trans (zmJ hi) hn) (le_trans (zmJ hj) hm)
theorem zeV{i j:Int}(h1:-(2 ^ 64)<i)(h2:i<2 ^ 64):IntMulOk i j:=.of_left (intBits_le_64 h1 h2)
theorem zkg{i j:Int}(h1:-(2 ^ 64)<j)(h2:j<2 ^ 64):IntMulOk i j:=.of_right (intBits_le_64 h1 h2)
theorem zcG{n:Int}{k:Nat}(h0:0<n)(h:n<2 ^ k):n.natAbs.log2<k:=by
 refine(Nat.log2_lt (by omega)).mpr ?_;have e:((2 ^ k:Nat):Int)=(2:Int) ^ k:=by simp
 omega
end
def kD:Key->PyData
 | .inl i=>.int i
 | .inr x=>.str x
def DOf(H:Hp)(a:Addr)(ks:List PyData)(vs:List V):Prop :=
 (∃ (ob:Obj) (m:List (Key×V)),H a=some (.frz ob (.dK m))/\ks=m.map (fun p=>kD p.1)/\vs=m.map (·.2)) \/
 ∃ (ob:Obj) (p:List Key×V) (m:List (List Key×V)),H a=some (.frz ob (.dT (p :: m)))/\ks=(p :: m).map (fun p=>.tuple (p.1.map kD))/\vs=(p :: m).map (·.2)
mutual
def Has(H:Hp):PyData->V->Prop
 | .none,v=>v=.non
 | .bool b,v=>v=.bl b
 | .int i,v=>v=.int i
 | .str x,v=>v=.str x
 | .list ds,v=>∃ a vs,v=.ref a/\H a=some (.lst vs)/\HasL H ds vs
 | .tuple ds,v=>∃ a vs,v=.ref a/\H a=some (.tup vs)/\HasL H ds vs
 | .dict kvs,v=>∃ a vs,v=.ref a/\DOf H a (kvs.map (·.1)) vs/\HasV H kvs vs
def HasL(H:Hp):List PyData->List V->Prop
 | [],vs=>vs=[]
 | d :: ds,vs=>∃ v r,vs=v :: r/\Has H d v/\HasL H ds r
def HasV(H:Hp):List (PyData×PyData)->List V->Prop
 | [],vs=>vs=[]
 | p :: ps,vs=>∃ v r,vs=v :: r/\HasP H p v/\HasV H ps r
def HasP(H:Hp):PyData×PyData->V->Prop
 | (_,d),v=>Has H d v
end
mutual
theorem Has.mono{H H':Hp}(s:Same H H'):∀ (d:PyData) (v:V),Has H d v->Has H' d v
 | .none,_,h=>by simp only [Has] at h ⊢; exact h
 | .bool _,_,h=>by simp only [Has] at h ⊢; exact h
 | .int _,_,h=>by simp only [Has] at h ⊢; exact h
 | .str _,_,h=>by simp only [Has] at h ⊢; exact h
 | .list ds,v,h=>by
  simp only [Has] at h ⊢;obtain⟨a,vs,e,q,l⟩:=h;exact⟨a,vs,e,s _ _ q,HasL.mono s ds vs l⟩
 | .tuple ds,v,h=>by
  simp only [Has] at h ⊢;obtain⟨a,vs,e,q,l⟩:=h;exact⟨a,vs,e,s _ _ q,HasL.mono s ds vs l⟩
 | .dict kvs,v,h=>by
  simp only [Has] at h ⊢;obtain⟨a,vs,e,q,l⟩:=h;refine⟨a,vs,e,?_,HasV.mono s kvs vs l⟩;rcases q with ⟨ob,m,e1,e2⟩ | ⟨ob,p,m,e1,e2⟩
  ·exact .inl ⟨ob,m,s _ _ e1,e2⟩
  ·exact .inr ⟨ob,p,m,s _ _ e1,e2⟩
theorem HasL.mono{H H':Hp}(s:Same H H'):∀ (ds:List PyData) (vs:List V),HasL H ds vs->HasL H' ds vs
 | [],_,h=>by simp only [HasL] at h ⊢; exact h
 | d :: ds,vs,h=>by
  simp only [HasL] at h ⊢;obtain⟨v,r,e,q,l⟩:=h;exact⟨v,r,e,Has.mono s d v q,HasL.mono s ds r l⟩
theorem HasV.mono{H H':Hp}(s:Same H H'):∀ (ds:List (PyData×PyData)) (vs:List V),HasV H ds vs->HasV H' ds vs
 | [],_,h=>by simp only [HasV] at h ⊢; exact h
 | d :: ds,vs,h=>by
  simp only [HasV] at h ⊢;obtain⟨v,r,e,q,l⟩:=h;exact⟨v,r,e,HasP.mono s d v q,HasV.mono s ds r l⟩
theorem HasP.mono{H H':Hp}(s:Same H H'):∀ (p:PyData×PyData) (v:V),HasP H p v->HasP H' p v
 | (_,d),v,h=>by
  simp only [HasP] at h ⊢;exact Has.mono s d v h
end
section
variable {H:Hp} {v:V}
theorem zdZ:Has H .none v↔v=.non:=by simp only [Has]
theorem zds{b:Bool}:Has H (.bool b) v↔v=.bl b:=by simp only [Has]
theorem zb8{i:Int}:Has H (.int i) v↔v=.int i:=by simp only [Has]
theorem zdR{x:Str}:Has H (.str x) v↔v=.str x:=by simp only [Has]
theorem za8{ds:List PyData}:Has H (.list ds) v↔∃ a vs,v=.ref a/\H a=some (.lst vs)/\HasL H ds vs:=by simp only [Has]
theorem zaw{ds:List PyData}:Has H (.tuple ds) v↔∃ a vs,v=.ref a/\H a=some (.tup vs)/\HasL H ds vs:=by simp only [Has]
theorem zkh{kvs:List (PyData×PyData)}:Has H (.dict kvs) v↔∃ a vs,v=.ref a/\DOf H a (kvs.map (·.1)) vs/\HasV H kvs vs:=by simp only [Has]
theorem zC{vs:List V}:HasL H [] vs↔vs=[]:=by simp only [HasL]
theorem zr{d:PyData}{ds:List PyData}{vs:List V}:HasL H (d :: ds) vs↔∃ v r,vs=v :: r/\Has H d v/\HasL H ds r:=by simp only [HasL]
theorem HasL.length:∀ {ds:List PyData} {vs:List V},HasL H ds vs->vs.length=ds.length
 | [],_,h=>by rw [zC.mp h]; rfl
 | d :: ds,vs,h=>by
  obtain⟨v,r,e,_,l⟩:=zr.mp h;rw [e,length_cons,length_cons,HasL.length l]
theorem HasL.get:∀ {ds:List PyData} {vs:List V} {i:Nat} {d:PyData},HasL H ds vs->ds[i]? = some d->∃ v,vs[i]? = some v/\Has H d v
 | [],_,_,_,_,e=>by simp at e
 | c :: ds,vs,0,d,h,e=>by
  obtain⟨v,r,rfl,q,_⟩:=zr.mp h;simp at e;subst e;exact⟨v,rfl,q⟩
 | c :: ds,vs,i+1,d,h,e=>by
  obtain⟨v,r,rfl,_,l⟩:=zr.mp h;obtain⟨u,e1,e2⟩:=HasL.get (i:=i) (d:=d) l (by simpa using e);exact⟨u,by simpa using e1,e2⟩
theorem HasL.append:∀ {ds es:List PyData} {vs us:List V},HasL H ds vs->HasL H es us->HasL H (ds++es) (vs++us)
 | [],es,vs,us,h,h'=>by rw [zC.mp h]; exact h'
 | d :: ds,es,vs,us,h,h'=>by
  obtain⟨v,r,rfl,q,l⟩:=zr.mp h;exact zr.mpr ⟨v,r++us,rfl,q,HasL.append l h'⟩
theorem zfX:∀ (ns:List Int),HasL H (ns.map .int) (ns.map V.int)
 | []=>zC.mpr rfl
 | n :: ns=>zr.mpr ⟨_,_,rfl,zb8.mpr rfl,zfX ns⟩
end
def tyD:PyData->String
 | .none=>"NoneType" | .bool _=>"bool" | .int _=>"int" | .str _=>"str" | .list _=>"list" | .tuple _=>"tuple" | .dict _=>"dict"
theorem Has.ty{K:W.Frag}{H:Hp}{d:PyData}{v:V}(h:Has H d v):TyOf K H v (.type (tyD d)):=by
 cases d with
 | none=>rw [zdZ.mp h]; exact .non
 | bool b=>rw [zds.mp h]; exact .bl b
 | int i=>rw [zb8.mp h]; exact .int i
 | str x=>rw [zdR.mp h]; exact .str x
 | list ds=>obtain⟨a,vs,rfl,e,_⟩:=za8.mp h; exact .lst e
 | tuple ds=>obtain⟨a,vs,rfl,e,_⟩:=zaw.mp h; exact .tup e
 | dict kvs =>
  obtain⟨a,vs,rfl,e,_⟩:=zkh.mp h;rcases e with ⟨ob,m,e,_⟩ | ⟨ob,p,m,e,_⟩
  ·exact .dK (.inr ⟨ob,e⟩)
  ·exact .dT (.inr ⟨ob,e⟩)
def ztx:List String:=["NoneType","bool","int","str","list","tuple","dict"]
def zoF:List String:=["int","bool","str","list","tuple","dict"]
def znG(t c:String):Bool:=t == c || (t == "bool" && c == "int")
def zqR(d:PyData)(c:String):Bool:=znG (tyD d) c
theorem zrh(d:PyData):tyD d∈ztx:=by cases d <;> simp [tyD,ztx]
theorem zrf(K:W.Frag){t c:String}(ht:t∈ztx)(hc:c∈zoF):W.kitOne K (.type t) (.type c)=some (znG t c):=by
 simp only [ztx,zoF,mem_cons,not_mem_nil,or_false] at ht hc;rcases ht with rfl | rfl | rfl | rfl | rfl | rfl | rfl <;> rcases hc with rfl | rfl | rfl | rfl | rfl | rfl <;> rfl
def ztU:List V->Hp->VK->Prop
 | [x,.ty c],H,Q=>∃ d,Has H d x/\c∈zoF/\Q (.bl (zqR d c)) H
 | _,_,_=>False
theorem zqh{H:Hp}{d:PyData}{x:V}{c:String}{Q:VK}(h:Has H d x)(hc:c∈zoF)(q:Q (.bl (zqR d c)) H):ztU [x,.ty c] H Q:=⟨d,h,hc,q⟩
section
variable {X:Cx}
theorem zd1:CallR X (.builtin "isinstance") ztU:=by
 intro zh s σ H xs us Q I r h
 match xs,h with
 | [x,.ty c],h =>
  obtain⟨d,hx,hc,q⟩:=h;obtain⟨u,w',rfl,ru,rw'⟩:=vals2 r;cases (show w'=Value.type c from rw');exact zmm I ru hx.ty (zrf X.K (zrh d) hc) fun tk=>⟨.bl _,H,I.tok tk,rfl,q⟩
end
def sp1(p:V->Hp->VK->Prop):Sp:=fun vs H Q _=>match vs with | [x]=>p x H Q | _=>False
def sp2(p:V->V->Hp->VK->Prop):Sp:=fun vs H Q _=>match vs with | [x,y]=>p x y H Q | _=>False
theorem zm3{p:V->Hp->VK->Prop}:∀ (vs:List V) (H:Hp) (Q:VK) (E:XK),sp1 p vs H Q E->∃ x,vs=[x]/\p x H Q:=by
 intro vs H Q E h
 match vs,h with
 | [x],h=>exact⟨x,rfl,h⟩
theorem znr{p:V->V->Hp->VK->Prop}:∀ (vs:List V) (H:Hp) (Q:VK) (E:XK),sp2 p vs H Q E->∃ x y,vs=[x,y]/\p x y H Q:=by
 intro vs H Q E h
 match vs,h with
 | [x,y],h=>exact⟨x,y,rfl,h⟩
structure Dd(K:W.Frag)(mg:Str->Option Value)(x:Str)(st:Stmt)(ps:List Str):Prop where
 ex:∃ f fd,Fun K x x st f fd/\mg x=some (.ref f)/\Binds K fd ps []
structure Df(P:Program)(w:World)(K:W.Frag)(mg:Str->Option Value)(base:Heap)(x:Str)(ps:List Str)(k:Nat)(sp:Sp):Prop where
 ex:∃ f fd,FnOk P w K mg base CX0 k f fd ps sp/\mg x=some (.ref f)/\W.keepIn K (.ref f)=true/\Binds K fd ps []
section
variable {P:Program} {w:World} {K:W.Frag} {mg:Str->Option Value} {base:Heap} {x a b c d e:Str} {st:Stmt} {N:List Str} {k:Nat}
theorem Df.of{ps:List Str}{sp:Sp}(D:Dd K mg x st ps)(S:FnScope N ps (zg st))(len:∀ vs H Q E,sp vs H Q E->vs.length=ps.length)
  (hbody:∀ (f:Addr) (cdv:Value) (A:Around) (outer:List Env) (s:Shared) (H:Hp) (vs:List V) (Q:VK) (E:XK),Room k (A.deeper (envOfC x (zg st) s.heap.objs.size f cdv))->sp vs H Q E ->
   ∃ t,PSs (zf0 CX0 P w K mg base N x (zg st) f cdv A outer s H E).nox (zaK st) t/\t { nx:=fun _ H'=>Q .non H',rt:=Q } (start N vs) H):Df P w K mg base x ps (k+1) sp:=by
 obtain⟨f,fd,F,hm,hb⟩:=D.ex;exact⟨f,fd,F.ok S len (hbody f),hm,F.kp,hb⟩
theorem Df.of2{p:V->V->Hp->VK->Prop}(D:Dd K mg x st [a,b])(S:FnScope N [a,b] (zg st))(σ0:V->V->St)(hs:∀ v u,start N [v,u]=σ0 v u)
  (hbody:∀ (f:Addr) (cdv:Value) (A:Around) (outer:List Env) (s:Shared) (H:Hp) (v u:V) (Q:VK) (E:XK),Room k (A.deeper (envOfC x (zg st) s.heap.objs.size f cdv))->p v u H Q ->
   ∃ t,PSs (zf0 CX0 P w K mg base N x (zg st) f cdv A outer s H E).nox (zaK st) t/\t { nx:=fun _ H'=>Q .non H',rt:=Q } (σ0 v u) H):Df P w K mg base x [a,b] (k+1) (sp2 p):=by
 refine Df.of D S (fun vs H Q E h=>?_) fun f cdv A outer s H vs Q E hr h=>?_
 ·obtain⟨x,y,rfl,_⟩:=znr vs H Q E h;rfl
 ·obtain⟨x,y,rfl,h⟩:=znr vs H Q E h;rw [hs];exact hbody f cdv A outer s H x y Q E hr h
end
def tC2(p:V->V->Hp->VK->Prop)(ta tb:TE):TE:=fun σ H Q=>ta σ H fun x H1=>tb σ H1 fun y H2=>p x y H2 Q
section
variable {X:Cx} {x a b c d e':Str} {k j:Nat} {pos pos':Pos} {e1 e2 e3 e4 e5:Expr} {t1 t2 t3 t4 t5:TE}
theorem zs5{p:V->V->Hp->VK->Prop}(D:Df X.prog X.w X.K X.mg X.base x [a,b] k (sp2 p))(hr:Room j X.A)(hk:k<=j)(h1:PE X e1 t1)(h2:PE X e2 t2)(hg:Gl X x:=by rfl)(hdb:(x == ("__debug__":Str))=false:=by decide)
  (q1:starEach [e1,e2] X.env=(false,eval e1 X.env) :: starEach [e2] X.env:=by rfl) (q2:starEach [e2] X.env=(false,eval e2 X.env) :: starEach [] X.env:=by rfl)
  (hpl:(backTo pos (starEach [e2] X.env)).any (·.1)=false:=by rfl):PE X (.Call (.Name x pos') [e1,e2] [] pos) (tC2 p t1 t2):=by
 obtain⟨f,fd,F,hm,kp,hb⟩:=D.ex;intro zh s σ H Q I h;exact zjH (dvs:=[]) (ds:=[]) (E:=E0) F (hr.mono hk) hg hm kp hb .nil pass0 (za h1 (za h2 zc q2) q1) hdb q1 hpl zh s σ H Q I h
end
theorem Dd.mk'{K:W.Frag}{h:Heap}{mg:Str->Option Value}(X:K.In h)(G:h.Ns mainGlobals mg){x:Str}{st:Stmt}{ps:List Str}{f:Addr}{oc:Value}{od an:Option Addr}{osl:Array (Option Value)}{kV doc pm cdv ct:Value}
  (a:W.nsIn K mainGlobals x=some (some (.ref f))) (l:K.lookup f=some ⟨oc,od,.func (W.fnOf x x (zcJ st) (zaK st) (zg st) .none kV doc pm an cdv ct),osl⟩)
  (c:W.codeIn K cdv x=true) (k:W.keepIn K (.ref f)=true)
  (hb:∀ (kV doc pm:Value) (an:Option Addr) (cdv ct:Value) (us:List Value),us.length=ps.length->bindArgs (W.fnOf x x (zcJ st) (zaK st) (zg st) .none kV doc pm an cdv ct) ⟨us,[]⟩=pure (ps.zip us)):Dd K mg x st ps :=
 ⟨f,_,zkj (st:=st) l c k,W.mg_of X G a,(zkj (st:=st) l c k).binds hb⟩
theorem zbG:bootBuiltins "len" = some (.builtin "len"):=by decide +kernel
theorem zG:bootBuiltins "isinstance" = some (.builtin "isinstance"):=by decide +kernel
theorem zkA:bootBuiltins "max" = some (.builtin "max"):=by decide +kernel
theorem zie:bootBuiltins "min" = some (.builtin "min"):=by decide +kernel
theorem znD:bootBuiltins "int" = some (.type "int"):=by decide +kernel
theorem zmg:bootBuiltins "bool" = some (.type "bool"):=by decide +kernel
theorem zhb:bootBuiltins "list" = some (.type "list"):=by decide +kernel
theorem za3:bootBuiltins "tuple" = some (.type "tuple"):=by decide +kernel
section
variable {H:Hp} {Q:VK}
theorem zor{i:Nat}{σ:St}:zj1 i σ H Q↔match σ[i]? with | some (some v)=>Q v H | _=>False:=by
 unfold zj1;constructor
 ·rintro⟨v,e,q⟩;rw [e];exact q
 ·intro h;split at h
  ·rename_i v e;exact⟨v,e,h⟩
  ·exact h.elim
theorem znw{g:Int->Int->V}{i j:Int}:rI0 g (.int i) (.int j) H Q↔Q (g i j) H :=
 ⟨fun⟨_,_,e1,e2,q⟩=>by cases e1; cases e2; exact q,fun q=>⟨i,j,rfl,rfl,q⟩⟩
theorem ztE{p:Bool->Prop}{b:Bool}:(∃ c,V.bl b=V.bl c/\p c)↔p b:=⟨fun⟨_,e,q⟩=>by cases e; exact q,fun q=>⟨b,rfl,q⟩⟩
end
section
variable {K:W.Frag} {H:Hp} {Q:VK} {x y:V} {d:PyData} {ds:List PyData}
def zt5(K:W.Frag):List V->Hp->VK->Prop:=fun xs H Q=>∃ p ys,xs=[.ref p]/\(SqL K H p ys\/SqT K H p ys)/\Q (.int ys.length) H
end
section
variable {X:Cx}
theorem zl1:CallR X (.builtin "len") (zt5 X.K):=zeY
end
def hid(a:Addr)(H:Hp):Hp:=fun b=>if b=a then none else H b
theorem zrG{a b:Addr}{H:Hp}(h:b≠a):hid a H b=H b:=if_neg h
theorem zoy{a:Addr}{H:Hp}:hid a H a=none:=if_pos rfl
theorem Same.laid{H:Hp}{p:Addr}{o:HO}(h:H p=none):Same H (upd H p o):=fun b u e=>by
 rw [zI (zE e h)];exact e
end
section
theorem znx(d:PyData):zqR d "int" = match d with | .int _=>true | .bool _=>true | _=>false:=by cases d <;> first | rfl | (show znG _ _=_; simp [znG,tyD])
theorem zjU(d:PyData):zqR d "bool" = match d with | .bool _=>true | _=>false:=by cases d <;> first | rfl | (show znG _ _=_; simp [znG,tyD])
theorem zhP(d:PyData):zqR d "tuple" = match d with | .tuple _=>true | _=>false:=by cases d <;> first | rfl | (show znG _ _=_; simp [znG,tyD])
theorem zjW(d:PyData):zqR d "list" = match d with | .list _=>true | _=>false:=by cases d <;> first | rfl | (show znG _ _=_; simp [znG,tyD])
def vw:List Addr->Hp->Hp
 | [],H=>H
 | a :: r,H=>hid a (vw r H)
def zqi(K:W.Frag):V->V->Hp->VK->Prop:=fun x y H Q=>∃ (a:Addr) (ns:List Int) (i:Int),x=.ref a/\y=.int i/\SqL K H a (ns.map V.int)/\0<=i/\∀ n,Q (.int n) H
theorem zqF{ns:List Int}{i:Int}(h0:0<=i)(h1:i<((ns.map V.int).length:Int)):∃ n,atI (ns.map V.int) i=some (.int n):=by
 obtain⟨k,rfl⟩:=Int.eq_ofNat_of_zero_le h0;have hk:k<ns.length:=by rw [length_map] at h1; omega
 exact⟨ns[k],zcd (by rw [getElem?_map,getElem?_eq_getElem hk]; rfl)⟩
theorem znO{ns:List Int}{lo hi:Option Int}{x:V}(h:x∈zj5 (ns.map V.int) lo hi):∃ n,x=.int n:=by
 have h1:=mem_of_mem_drop (List.mem_of_mem_take h);obtain⟨n,_,e⟩:=mem_map.mp h1;exact⟨n,e.symm⟩
theorem Fun.bind1{K:W.Frag}{x a:Str}{st:Stmt}{f:Addr}{fd:FuncData}(F:Fun K x x st f fd)
  (h:∀ (kV doc pm:Value) (an:Option Addr) (cdv ct:Value) (u:Value),bindArgs (W.fnOf x x (zcJ st) (zaK st) (zg st) .none kV doc pm an cdv ct) ⟨[u],[]⟩=pure [(a,u)]):∀ (s:Shared) (u:Value),BindsTo s fd ⟨[u],[]⟩ [(a,u)]:=by
 obtain⟨oc,od,kV,doc,pm,an,cdv,ct,osl,rfl,lk,hcd⟩:=F.ex;exact fun s u=>.of_eq (h kV doc pm an cdv ct u)
def ztW(K:W.Frag):V->Hp->VK->Prop:=fun x H Q=>∃ (a:Addr) (ns:List Int),x=.ref a/\SqL K H a (ns.map V.int)/\ns.length<=63/\∀ H',Q (.bl true) H'
theorem walk_law{l:W.OpenLaw}{k:Nat}{q:Program}{loose:List Str}{XP:(Str->Option Value)->Heap->Prop}{YP:World->Heap->Prop}{d:DefRec}{K:Params->W.Frag}(hn:l.most=some 63)(hdf:d.params.defaults=[])
  (hr:Room k callerA) (hY:∀ (w:World) (h:Heap),YP w h->(K w.params).In h) (hT:∀ (w:World) (h:Heap),YP w h->TabsOk (K w.params) h)
  (F:∀ (w:World) (mg:Str->Option Value) (fa:Addr) (h:Heap),(K w.params).In h->h.Ns mainGlobals mg->mg d.name=some (.ref fa) ->
   ∃ fd:FuncData,(∀ (s:Shared) (u:Value),BindsTo s fd ⟨[u],[]⟩ [("script",u)])/\∀ base:Heap,(K w.params).In base->base.Ns mainGlobals mg->FnOk l.prog w (K w.params) mg base CX0 k fa fd ["script"] (sp1 (ztW (K w.params)))) :
  W.WalkO q loose XP YP l.row.toRowW d [] (fun f vs=>PySem.call f vs) :=
 L2.walk_of (n:=63) (k:=k) (x:="script") (CX:=fun _=>CX0) (sp:=fun w=>sp1 (ztW (K w.params))) hn dz hdf hr hY hT F (fun _ _ a ns hl _ hS=>⟨a,ns,rfl,hS,hl,fun _=>rfl⟩) fun _ _ _ _ _ z=>z
theorem Fun.ok1{P:Program}{w:World}{K:W.Frag}{mg:Str->Option Value}{base:Heap}{x a:Str}{st:Stmt}{f:Addr}{fd:FuncData}{N:List Str}{k:Nat}{p:V->Hp->VK->Prop}(F:Fun K x x st f fd)(S:FnScope N [a] (zg st))(σ0:V->St)(hs:∀ v,start N [v]=σ0 v)
  (hbody:∀ (cdv:Value) (A:Around) (outer:List Env) (s:Shared) (H:Hp) (v:V) (Q:VK) (E:XK),Room k (A.deeper (envOfC x (zg st) s.heap.objs.size f cdv))->p v H Q ->
   ∃ t,PSs (zf0 CX0 P w K mg base N x (zg st) f cdv A outer s H E).nox (zaK st) t/\t { nx:=fun _ H'=>Q .non H',rt:=Q } (σ0 v) H):FnOk P w K mg base CX0 (k+1) f fd [a] (sp1 p):=by
 refine F.ok S (fun vs H Q E h=>?_) fun cdv A outer s H vs Q E hr h=>?_
 ·obtain⟨x,rfl,_⟩:=zm3 vs H Q E h;rfl
 ·obtain⟨x,rfl,h⟩:=zm3 vs H Q E h;rw [hs];exact hbody cdv A outer s H x Q E hr h
end
section
mutual
theorem Has.reads{X:Cx}{zh:List (Addr×Obj)}{σ:St}{H:Hp}{s:Shared}(I:Inv X zh σ H s):∀ (d:PyData) (v:V) (u:Value),Has H d v->d.canLay0=true->RelV v u->∃ as,Reads s.heap u d as
 | .none,v,u,h,_,r=>by
  rw [zdZ.mp h] at r;cases (show u=Value.none from r);exact⟨_,.none⟩
 | .bool b,v,u,h,_,r=>by
  rw [zds.mp h] at r;cases (show u=Value.bool b from r);exact⟨_,.bool b⟩
 | .int i,v,u,h,_,r=>by
  rw [zb8.mp h] at r;obtain⟨t,q⟩:=(show ∃ t,u=Value.int i t from r);cases q;exact⟨_,.int i t⟩
 | .str x,v,u,h,_,r=>by
  rw [zdR.mp h] at r;obtain⟨t,q⟩:=(show ∃ t,u=Value.str x t from r);cases q;exact⟨_,.str x t⟩
 | .list ds,v,u,h,c,r=>by
  obtain⟨a,vs,rfl,e,l⟩:=za8.mp h;cases (show u=Value.ref a from r);obtain⟨_,its,n,rv,e1⟩:=(show ObjOk X.prog X.w H s.heap a (.lst vs) from I.hok a _ e);obtain⟨as,q⟩:=HasL.reads I ds vs its l (by simpa only [PyData.canLay0] using c) rv;exact⟨_,.list e1 rfl rfl (by simpa using q)⟩
 | .tuple ds,v,u,h,c,r=>by
  obtain⟨a,vs,rfl,e,l⟩:=zaw.mp h;cases (show u=Value.ref a from r);obtain⟨_,its,rv,o,e1,e2,n,e3⟩:=(show ObjOk X.prog X.w H s.heap a (.tup vs) from I.hok a _ e);obtain⟨as,q⟩:=HasL.reads I ds vs its l (by simpa only [PyData.canLay0] using c) rv;exact⟨_,.tuple e1 e2 e3 (by simpa using q)⟩
 | .dict _,_,_,_,c,_=>by simp [PyData.canLay0] at c
theorem HasL.reads{X:Cx}{zh:List (Addr×Obj)}{σ:St}{H:Hp}{s:Shared}(I:Inv X zh σ H s):∀ (ds:List PyData) (vs:List V) (us:List Value),HasL H ds vs->PyData.canLayAll0 ds=true->Vals vs us->∃ as,ReadsAll s.heap us ds as
 | [],vs,us,h,_,r=>by
  rw [zC.mp h] at r;cases r;exact⟨_,.nil⟩
 | d :: ds,vs,us,h,c,r=>by
  obtain⟨v,w',rfl,h1,h2⟩:=zr.mp h;have c':d.canLay0=true/\PyData.canLayAll0 ds=true:=by simpa [PyData.canLayAll0] using c
  cases r with
  | cons r1 r2 =>
   obtain⟨as,q1⟩:=Has.reads I d v _ h1 c'.1 r1;obtain⟨bs,q2⟩:=HasL.reads I ds w' _ h2 c'.2 r2;exact⟨_,.cons q1 q2⟩
end
def zuG:R2:=fun x y H Q=>∃ d e,Has H d x/\Has H e y/\SeqAt.shaped d=true/\SeqAt.shaped e=true/\Q (.bl (PyData.eqv d e)) H
def zuD:R2:=fun x y H Q=>∃ d e,Has H d x/\Has H e y/\SeqAt.shaped d=true/\SeqAt.shaped e=true/\Q (.bl (!PyData.eqv d e)) H
section
variable {X:Cx}
theorem zd8(hu:X.A.units+64<cLine):OpR X (compareOp .Eq) zuG:=by
 intro zh s σ H x y v u Q I rx ry h;obtain⟨d,e,hd,he,sd,se,q⟩:=h;obtain⟨as,q1⟩:=Has.reads I d x v hd (SeqAt.canLay_of_shaped sd) rx;obtain⟨bs,q2⟩:=Has.reads I e y u he (SeqAt.canLay_of_shaped se) ry;exact eq_dataH q1 q2 sd se hu ⟨.bl _,H,I,rfl,q⟩
theorem zhZ(hu:X.A.units+64<cLine):OpR X (compareOp .NotEq) zuD:=by
 intro zh s σ H x y v u Q I rx ry h;obtain⟨d,e,hd,he,sd,se,q⟩:=h;obtain⟨as,q1⟩:=Has.reads I d x v hd (SeqAt.canLay_of_shaped sd) rx;obtain⟨bs,q2⟩:=Has.reads I e y u he (SeqAt.canLay_of_shaped se) ry;exact ne_dataH q1 q2 sd se hu ⟨.bl _,H,I,rfl,q⟩
end
section
variable {prog:Program} {w:World} {A:Around} {E:Value->Shared->Prop} {s:Shared} {l:Addr}
theorem zlt{xs:Array (Int×Tok)}{Q:Value->Shared->Prop}(hh:A.handled=none)(hl:s.heap.IsTuple l (intItems xs))(hne:0<xs.size)
  (h:∀ v h' tk,(intItems xs)[argBest (fun i j=>decide (numAt xs i<numAt xs j)) (xs.size - 1)]? = some v->(∀ b o,s.heap.get? b=some o->h'.get? b=some o)->Q v { s with heap:=h',toks:=tk }) :
  wpAny (model prog w) A (call (.builtin "min") [.ref l]) Q E s:=by
 have hlt:l<s.heap.objs.size:=by obtain⟨o,e,_⟩:=hl; exact lt_size e
 refine call_min_walk (wpAny_pyIter_tuple hl ?_);refine⟨_,[_,l],[_],_,_,_,_,rfl,Walks.tuple (A:=A.in1) hh _ l (ne_of_lt hlt) (intItems xs),⟨⟨_,get?_push_size _ rfl,rfl,rfl⟩,hl.push _⟩,fun c hc=>?_,by simpa [intItems] using hne,CmpOf.ints_lt (numAt xs) (fun _ _=>intItems_at),fun v h' tk hP hk=>?_⟩
 ·show c<(s.heap.push _).objs.size;rw [size_push];rcases mem_cons.mp hc with rfl | hc
  ·exact Nat.lt_succ_self _
  ·rcases mem_cons.mp hc with rfl | hc
   ·exact lt_succ_of_lt hlt
   ·cases hc
 ·refine h v h' tk (by simpa [intItems] using hP) fun b o e=>hk b o (fun hm=>?_) (get?_push_of_some _ e);rcases mem_cons.mp hm with e1 | hm
  ·exact absurd (e1▸lt_size e) (lt_irrefl _)
  ·cases hm
theorem zkK{xs:Array (Int×Tok)}{Q:Value->Shared->Prop}(hh:A.handled=none)(hl:s.heap.IsTuple l (intItems xs))(hne:0<xs.size)
  (h:∀ v h' tk,(intItems xs)[argBest (fun i j=>decide (numAt xs i>numAt xs j)) (xs.size - 1)]? = some v->(∀ b o,s.heap.get? b=some o->h'.get? b=some o)->Q v { s with heap:=h',toks:=tk }) :
  wpAny (model prog w) A (call (.builtin "max") [.ref l]) Q E s:=by
 have hlt:l<s.heap.objs.size:=by obtain⟨o,e,_⟩:=hl; exact lt_size e
 refine call_max_walk (wpAny_pyIter_tuple hl ?_);refine⟨_,[_,l],[_],_,_,_,_,rfl,Walks.tuple (A:=A.in1) hh _ l (ne_of_lt hlt) (intItems xs),⟨⟨_,get?_push_size _ rfl,rfl,rfl⟩,hl.push _⟩,fun c hc=>?_,by simpa [intItems] using hne,CmpOf.ints_gt (numAt xs) (fun _ _=>intItems_at),fun v h' tk hP hk=>?_⟩
 ·show c<(s.heap.push _).objs.size;rw [size_push];rcases mem_cons.mp hc with rfl | hc
  ·exact Nat.lt_succ_self _
  ·rcases mem_cons.mp hc with rfl | hc
   ·exact lt_succ_of_lt hlt
   ·cases hc
 ·refine h v h' tk (by simpa [intItems] using hP) fun b o e=>hk b o (fun hm=>?_) (get?_push_of_some _ e);rcases mem_cons.mp hm with e1 | hm
  ·exact absurd (e1▸lt_size e) (lt_irrefl _)
  ·cases hm
theorem zfZ{vs:List Value}{ns:List Int}(hi:IntsAre vs ns):∃ xs:Array (Int×Tok),vs.toArray=intItems xs/\ns=xs.toList.map (·.1):=by
 obtain⟨xs,e⟩:=hi.allInts.items;exact⟨xs,e,by rw [<- hi.numsOf,<- nums_intItems,<- e]⟩
end
def zub(K:W.Frag):List V->Hp->VK->Prop:=fun xs H Q=>∃ p ns,xs=[.ref p]/\(SqL K H p (ns.map V.int)\/SqT K H p (ns.map V.int))/\ns≠[]/\∀ m,m∈ns->(∀ a,a∈ns->m<=a)->Q (.int m) H
def zug(K:W.Frag):List V->Hp->VK->Prop:=fun xs H Q=>∃ p ns,xs=[.ref p]/\(SqL K H p (ns.map V.int)\/SqT K H p (ns.map V.int))/\ns≠[]/\∀ m,m∈ns->(∀ a,a∈ns->a<=m)->Q (.int m) H
section
variable {X:Cx}
theorem zmj(hc:X.calm=true):CallR X (.builtin "min") (zub X.K):=by
 intro zh s σ H xs us Q I r h;obtain⟨p,ns,rfl,hq,hne,q⟩:=h;obtain⟨u,rfl,rx⟩:=vals1 r;cases (show u=Value.ref p from rx);have done:∀ (ys:Array (Int×Tok)) (v:Value) (h':Heap) (tk:Nat),ns=ys.toList.map (·.1)->0<ys.size->(intItems ys)[argBest (fun i j=>decide (numAt ys i<numAt ys j)) (ys.size - 1)]? = some v ->
   (∀ b o,s.heap.get? b=some o->h'.get? b=some o)->EP X zh σ Q v { s with heap:=h',toks:=tk }:=by
  intro ys v h' tk hns hsz hv hk;obtain⟨t,rfl⟩:=intItems_at hv;obtain⟨h1,h2⟩:=argBest_lt (numAt ys) (ys.size - 1);refine⟨.int _,H,I.kept (t':=tk) hk,⟨t,rfl⟩,q _ ?_ fun a ha=>?_⟩
  ·rw [hns,numAt_eq]; exact getD_mem (by rw [length_map,length_toList]; omega)
  ·rw [hns] at ha;obtain⟨j,hj,rfl⟩:=mem_getD ha;rw [length_map,length_toList] at hj;rw [<- numAt_eq]; exact h2 j (by omega)
 rcases hq with hq | hq
 ·obtain⟨its,rv,pl,_⟩:=I.list hq;obtain⟨ys,e,hns⟩:=zfZ (za5 rv);have hsz:0<ys.size:=by
   cases ys with
   | mk l=>cases l with
    | nil=>exact absurd hns hne
    | cons _ _=>exact Nat.succ_pos _
  exact min_intList (I.ok.hd hc) (by rw [<- e]; exact pl.isList) hsz fun v h' tk hv hk=>done ys v h' tk hns hsz hv hk
 ·obtain⟨its,rv,pl,_⟩:=I.tuple hq;obtain⟨ys,e,hns⟩:=zfZ (za5 rv);have hsz:0<ys.size:=by
   cases ys with
   | mk l=>cases l with
    | nil=>exact absurd hns hne
    | cons _ _=>exact Nat.succ_pos _
  exact zlt (I.ok.hd hc) (by rw [<- e]; exact pl) hsz fun v h' tk hv hk=>done ys v h' tk hns hsz hv hk
theorem znC(hc:X.calm=true):CallR X (.builtin "max") (zug X.K):=by
 intro zh s σ H xs us Q I r h;obtain⟨p,ns,rfl,hq,hne,q⟩:=h;obtain⟨u,rfl,rx⟩:=vals1 r;cases (show u=Value.ref p from rx);have done:∀ (ys:Array (Int×Tok)) (v:Value) (h':Heap) (tk:Nat),ns=ys.toList.map (·.1)->0<ys.size->(intItems ys)[argBest (fun i j=>decide (numAt ys i>numAt ys j)) (ys.size - 1)]? = some v ->
   (∀ b o,s.heap.get? b=some o->h'.get? b=some o)->EP X zh σ Q v { s with heap:=h',toks:=tk }:=by
  intro ys v h' tk hns hsz hv hk;obtain⟨t,rfl⟩:=intItems_at hv;obtain⟨h1,h2⟩:=argBest_gt (numAt ys) (ys.size - 1);refine⟨.int _,H,I.kept (t':=tk) hk,⟨t,rfl⟩,q _ ?_ fun a ha=>?_⟩
  ·rw [hns,numAt_eq]; exact getD_mem (by rw [length_map,length_toList]; omega)
  ·rw [hns] at ha;obtain⟨j,hj,rfl⟩:=mem_getD ha;rw [length_map,length_toList] at hj;rw [<- numAt_eq]; exact h2 j (by omega)
 rcases hq with hq | hq
 ·obtain⟨its,rv,pl,_⟩:=I.list hq;obtain⟨ys,e,hns⟩:=zfZ (za5 rv);have hsz:0<ys.size:=by
   cases ys with
   | mk l=>cases l with
    | nil=>exact absurd hns hne
    | cons _ _=>exact Nat.succ_pos _
  exact max_intList (I.ok.hd hc) (by rw [<- e]; exact pl.isList) hsz fun v h' tk hv hk=>done ys v h' tk hns hsz hv hk
 ·obtain⟨its,rv,pl,_⟩:=I.tuple hq;obtain⟨ys,e,hns⟩:=zfZ (za5 rv);have hsz:0<ys.size:=by
   cases ys with
   | mk l=>cases l with
    | nil=>exact absurd hns hne
    | cons _ _=>exact Nat.succ_pos _
  exact zkK (I.ok.hd hc) (by rw [<- e]; exact pl) hsz fun v h' tk hv hk=>done ys v h' tk hns hsz hv hk
end
section
variable {K:W.Frag} {o:List Addr} {σ:St} {H0:Hp} {t t1 t2 t3 t4 t5:TE} {ta:TA} {tt tu:TT} {d d1 d2 d3 d4 d5:PyData} {ds:List PyData} {b c:Bool}
def zm2:PyData->Bool
 | .none=>true
 | _=>false
theorem zhS{H:Hp}{v:V}(h:Has H d v):decide (v=.non)=zm2 d:=by
 cases d with
 | none=>rw [zdZ.mp h]; rfl
 | bool _=>rw [zds.mp h]; rfl
 | int _=>rw [zb8.mp h]; rfl
 | str _=>rw [zdR.mp h]; rfl
 | list _=>obtain⟨a,vs,rfl,_⟩:=za8.mp h; rfl
 | tuple _=>obtain⟨a,vs,rfl,_⟩:=zaw.mp h; rfl
 | dict _=>obtain⟨a,vs,rfl,_⟩:=zkh.mp h; rfl
def zuk:R2:=fun x y H Q=>y=.non/\Q (.bl (decide (x=.non))) H
def zr0:R2:=fun x y H Q=>y=.non/\Q (.bl (!decide (x=.non))) H
theorem zjG{X:Cx}:OpR X (compareOp .Is) zuk:=zr6
theorem zhf{X:Cx}:OpR X (compareOp .IsNot) zr0:=zqG
end
def spD(a b:Int):PyData:=.tuple [.int a,.int b]
end
section
theorem zmz{K:W.Frag}{a:Addr}{ns:List Int}{N:Int}{j:Nat}{tb:TS}{D:Ends}{σ:St}{H:Hp}(P:St->Prop)(h0:σ[0]? = some (some (.ref a)))(hS:SqL K H a (ns.map V.int))(hlen:ns.length<=63)(hP:P σ)
  (turn:∀ (n:Int) (σ:St) (H1 H2:Hp),P σ->Same H H1->Same H1 H2->tb { D with nx:=fun σ' H'=>Same H1 H'/\P σ',ct:=fun σ' H'=>Same H1 H'/\P σ',bk:=D.nx } (σ.set j (some (.int n))) H2)
  (done:∀ (σ:St) (H1:Hp),P σ->Same H H1->D.nx σ H1) :
  ztw (zqH K (tOp zrq (zrv (ze7 (tC2 (zqi K) (zj1 0) (tC (.int 0))) zqf)) (tSl (zrZ K) (zj1 0) (zkV (tC (.int 1))) (zkV (tC (.int N)))))) (zjf j) tb D σ H:=by
 refine⟨_,h0,a,ns,0,rfl,rfl,hS,by decide,fun n0=>⟨by show 1<=sizeLine; decide,fun p hp=>?_⟩⟩;have s1:Same H (upd H p (.lst [.int n0])):=Same.laid hp;refine⟨_,h0,_,rfl,_,rfl,a,_,rfl,s1.seq hS,fun p2 hp2=>?_⟩;have s2:=s1.trans (Same.laid (o:=.lst (zj5 (ns.map V.int) (some 1) (some N))) hp2);have np:p≠p2:=zE zZ hp2;have hz:(zj5 (ns.map V.int) (some 1) (some N)).length<=63:=le_trans (zdP _ _ _) (by rw [length_map]; exact hlen);refine⟨p,p2,_,_,rfl,rfl,by rw [zI np,zZ],zZ,le_of_lt (small1000 (by simp only [length_cons,length_nil]; omega)),fun p3 hp3=>?_⟩;have s3:=s2.trans (Same.laid (o:=.lst ([V.int n0]++zj5 (ns.map V.int) (some 1) (some N))) hp3);refine⟨p3,rfl,⟨_,.of zZ⟩,znK (K:=K) (a:=p3) (xs:=[V.int n0]++zj5 (ns.map V.int) (some 1) (some N)) (fun i σ' H'=>Same _ H'/\P σ') ⟨Same.refl _,hP⟩ (fun i σ H4 _ ⟨s4,_⟩=>.of (s4 _ _ zZ)) ?_ ?_⟩
 ·rintro i x σ' H4 hi ⟨s4,p4⟩;obtain⟨n,rfl⟩:∃ n,x=.int n:=by
   rcases mem_append.mp (mem_of_getElem? hi) with m | m
   ·exact⟨n0,mem_singleton.mp m⟩
   ·exact znO m
  exact turn n σ' _ H4 p4 s3 s4
 ·rintro σ' H4 ⟨s4,p4⟩;exact done σ' H4 p4 (s3.trans s4)
end
section
section
variable {prog:Program} {w:World} {A:Around} {E:Value->Shared->Prop} {R:Result->Shared->Prop} {s:Shared}
theorem ziA{elt target iter:Expr}{ifs:List Expr}{scope:Scope}{pos:Pos}{it acc:Value}{env:Env}(I:Nat->Shared->Prop)
  (turn:∀ n s,I n s->wpAny (model prog w) A (pyNext it) (fun r s₁=>match r with
   | none=>R (.ok .next) s₁
   | some v=>wpAny (model prog w) A (letOwnedTupleGo target it v) (fun _ s₀=>wpAny (model prog w) A (assign target env v) (fun _ s₂ =>
     wpAny (model prog w) A (forIn ifs true fun c r=>if r=true then do let ok <- isTrue c env (eval c env); pure (ForInStep.yield ok) else pure (ForInStep.yield r)) (fun ok s₃ =>
      if ok=true then wpAny (model prog w) A (eval elt env) (fun x s₄ =>
       wpAny (model prog w) A (call (.builtin "list.append") [acc,x]) (fun _ s₅=>∃ m,m<n/\I m s₅) (fun _ _=>False) s₄) (fun _ _=>False) s₃
      else ∃ m,m<n/\I m s₃) (fun _ _=>False) s₂) (fun _ _=>False) s₀) (fun _ _=>False) s₁) (fun _ _=>False) s)
  (n:Nat) (h:I n s) :
  codeAny (model prog w) A (.compLoop (.ListComp elt [⟨target,iter,ifs,0⟩] scope pos) 0 it acc env) R s:=by
 have up:∀ {α:Type} {t:Sem α} {Q:α->Shared->Prop} {E':Value->Shared->Prop} {s':Shared},wpAny (model prog w) A t Q (fun _ _=>False) s'->wpAny (model prog w) A t Q E' s':=fun h=>wpAny_mono h (fun _ _ q=>q) fun _ _ z=>z.elim;refine codeAny_loop rfl I (fun n s hI=>?_) n h;show wpAny _ A ((compTurn (.ListComp elt [⟨target,iter,ifs,0⟩] scope pos) 0 it acc env).onRaise (fun x=>do noteFrame x env; theTreesLotGoes x)) _ _ s;refine wpAny_noted ?_;rw [compTurn_list];refine wpAny_bind (wpAny_standAt (wpAny_bind (thn (up (turn n s hI)) fun r s₁ h₁=>?_)));cases r with
 | none=>exact wpAny_pure h₁
 | some v =>
  refine wpAny_bind (thn (up h₁) fun _ s₀ h₀=>?_);refine wpAny_bind (thn (up h₀) fun _ s₂ h₂=>wpAny_bind (thn (up h₂) fun ok s₃ h₃=>?_));cases ok with
  | false=>exact wpAny_pure ⟨rfl,h₃⟩
  | true =>
   exact wpAny_bind (wpAny_bind (thn (up h₃) fun x s₄ h₄=>wpAny_bind (thn (up h₄) fun _ s₅ h₅=>wpAny_pure (wpAny_pure ⟨rfl,h₅⟩))))
end
def zbT(X:Cx)(scope:Scope)(cl:List (Str×Addr))(C:Addr)(s₃:Shared)(H₃:Hp)(fp:List Addr)(N:List Str):Cx where
 prog:=X.prog
 w:=X.w
 K:=X.K
 mg:=X.mg
 base:=X.base
 A:=X.A
 N:=N
 s₀:=s₃
 H₀:=H₃
 env:=compEnvC scope cl C X.env
 outer:=X.stack
 stack:=X.stack
 ex:=fp
 fn:=fun _=>false
 calm:=X.calm
 pn:=[]
 xe:=fun _ _=>False
def PTs(X:Cx)(ifs:List Expr)(t:TT):Prop :=
 ∀ (zh:List (Addr×Obj)) (s:Shared) (σ:St) (H:Hp) (Q:Bool->Hp->Prop),Inv X zh σ H s->t σ H Q ->
  wpAny (model X.prog X.w) X.A (forIn ifs true fun c r=>if r=true then do let ok <- isTrue c X.env (eval c X.env); pure (ForInStep.yield ok) else pure (ForInStep.yield r)) (TP X zh σ Q) X.xe s
def ztl:TT:=fun _ H Q=>Q true H
theorem zaB{X:Cx}:PTs X [] ztl:=fun _ _ _ H _ I h=>wpAny_tests_nil ⟨H,I,h⟩
theorem zly{X:Cx}{c:Expr}{t:TT}(h:PT X c t):PTs X [c] t:=fun zh s σ H Q I hw=>wpAny_tests_one (h zh s σ H Q I hw)
def tau(caps:List (Option Nat))(σ:St):St:=caps.map fun o=>o.bind fun i=>(σ[i]?).join
def zml(caps:List (Option Nat))(wi:TI)(g:TG)(tt:TT)(te:TE):TE:=fun σ H Q=>wi σ H fun J H1=>∀ D,H1 D=none->∃ W:Nat->Nat->St->Hp->Prop,(∃ m,W 0 m (tau caps σ) (upd H1 D (.lst []))) /\
 ∀ i m τ H2,W i m τ H2->(J.stop i H2/\Q (.ref D) H2)\/(J.go i H2/\∀ x H3,J.yld i H2 x H3->g x τ H3 fun τ4 H4=>tt τ4 H4 fun b H5 =>
  if b=true then te τ4 H5 fun v H6=>∃ xs,H6 D=some (.lst xs)/\xs.length<sizeLine/\∃ m',m'<m/\W (i+1) m' τ4 (upd H6 D (.lst (xs++[v]))) else ∃ m',m'<m/\W (i+1) m' τ4 H5)
structure CompOk(X:Cx)(scope:Scope)(cl:List (Str×Addr))(N:List Str)(caps:List (Option Nat)):Prop where
 clos:closureFor scope X.env=pure cl
 sub:∀ x c,cl.lookup x=some c->X.env.cells.lookup x=some c
 kind:scope.kind=.function
 cell:∀ y∈scope.names,y.2≠.cell
 names:∀ y∈scope.names,y.2=.local->scope.names.lookup y.1=some .local
 has:∀ x,((relabel scope X.env).names.lookup x=some .cell\/(relabel scope X.env).names.lookup x=some .free)->∃ c,cl.lookup x=some c
 cap:∀ (j i:Nat) (x:Str),caps[j]? = some (some i)->N[j]? = some x->X.N[i]? = some x/\Vis X.env.scope x/\¬ X.env.kindOf x=some .local/\∃ c,cl.lookup x=some c/\((relabel scope X.env).names.lookup x=some .cell\/(relabel scope X.env).names.lookup x=some .free)
 len:caps.length=N.length
section
variable {X:Cx} {scope:Scope} {cl:List (Str×Addr)} {N:List Str} {caps:List (Option Nat)} {tg iter elt:Expr} {ifs:List Expr} {pos:Pos} {wi:TI} {g:TG} {tt:TT} {te:TE}
theorem zkQ{zh:List (Addr×Obj)}{σ:St}{H:Hp}{s:Shared}{fp:List Addr}{h₁:Heap}{t':Nat}(c:CompOk X scope cl N caps)(I:Inv X zh σ H s)(f:∀ b∈fp,FpOk X zh H b)(fo:∀ b∈fp,∃ o,s.heap.get? b=some o)
  (hns:h₁.Ns s.heap.objs.size (fun _=>none)) (hk:∀ b o,s.heap.get? b=some o->h₁.get? b=some o) :
  Inv (zbT X scope cl s.heap.objs.size s H fp N) [] (tau caps σ) H { s with heap:=h₁,toks:=t' }:=by
 have lt:∀ b∈fp,b<s.heap.objs.size:=fun b hb=>by obtain⟨o,e⟩:=fo b hb; exact lt_size e
 have cells:∀ x k,cl.lookup x=some k->∃ v,s.heap.IsCell k v:=fun x k e=>I.cell x k (c.sub x k e);refine⟨⟨I.ok.mod,c.kind,I.ok.glob,I.ok.blt,le_refl _,fun x y k h1 h2=>I.ok.inj x y k (c.sub x k h1) (c.sub y k h2),fun x hx=>c.has x hx,fun x k h _=>absurd (show false=true from h) dz,I.ok.hd,I.ok.frames,.inl rfl,
  fun b hb=>⟨ne_of_lt (lt b hb),fun x k e=>(f b hb).2.2.2.2.1 x k (c.sub x k e)⟩,I.bs,le_trans I.ok.bsz I.sz,fun b o e hb=>?_,fun b hb z=>?_,I.stack,I.stkFree⟩,
  rfl,I.bare,Un.kept hk,⟨_,hns,fun j x v h1 h2 h3=>?_⟩,fun x k e=>?_,I.hok.fresh (le_refl _),fun x k e=>I.freeC x k (c.sub x k e),fun p hp=>absurd (show p∈([]:List (Addr×Obj)) from hp) (by simp),I.hok.kept hk,?_⟩
 ·rcases(f b hb).2.2.2.1 with q | q
  ·exact I.ok.noex b o e q
  ·exact absurd (lt_of_lt_of_le (lt_size e) (le_trans I.ok.bsz q)) (lt_irrefl _)
 ·rcases mem_cons.mp (I.stkSub b z) with q | q
  ·exact(f b hb).2.1 q
  ·exact(f b hb).2.2.1 q
 ·have h2':(caps.map fun o=>o.bind fun i=>(σ[i]?).join)[j]? = some (some v):=h2;rw [getElem?_map] at h2';cases e:caps[j]? with
  | none=>rw [e] at h2'; cases h2'
  | some oi =>
   rw [e] at h2';have h2'':(oi.bind fun i=>(σ[i]?).join)=some v:=Option.some.inj h2';cases oi with
   | none=>cases h2''
   | some i =>
    have h4:(σ[i]?).join=some v:=h2'';have h5:σ[i]? = some (some v):=by
     cases q:σ[i]? with
     | none=>rw [q] at h4; cases h4
     | some w'=>rw [q] at h4; exact congrArg some h4
    obtain⟨k1,k2,k3,cc,k4,k5⟩:=c.cap j i x e h1;obtain⟨m,hn,hl⟩:=I.loc;obtain⟨u,r,l⟩:=hl i x v k1 h5 k2;refine⟨u,r,.inr ⟨k5,cc,k4,?_⟩⟩;rcases l with ⟨q,_⟩ | ⟨_,c',hc',hcell⟩
    ·exact(k3 q).elim
    ·rw [c.sub x cc k4] at hc';cases hc';exact hcell.keeps hk
 ·obtain⟨v,q⟩:=cells x k e;exact⟨v,q.keeps hk⟩
 ·show (caps.map _).length=N.length;rw [length_map];exact c.len
theorem zlR{zh:List (Addr×Obj)}{σ τ:St}{H H':Hp}{s s':Shared}{h':Heap}{fp:List Addr}(I:Inv X zh σ H s)(f:∀ b∈fp,FpOk X zh H b)(J:Inv (zbT X scope cl s.heap.objs.size s H fp N) [] τ H' s')(hs:Heap.SameBut s.heap.objs.size s'.heap h'):
  Inv X zh σ H' { s' with heap:=h' }:=by
 have hC:H' s.heap.objs.size=none:=J.free;have keep:∀ b o,b≠s.heap.objs.size->s'.heap.get? b=some o->h'.get? b=some o:=fun b o nb e=>hs.extBut b o nb e;have u1:Un (frs X.stack) (s.heap.objs.size :: fp) H H' s.heap s'.heap:=Un.mono J.base (fun b hb=>hb) (fun b hb=>mem_cons_of_mem _ hb);have u2:Un (frs X.stack) (s.heap.objs.size :: fp) H' H' s'.heap h' :=
  ⟨fun b o e _ _ hx=>keep b o (fun z=>hx (by rw [z]; exact mem_cons_self)) e,fun b o e _ _ hx=>⟨o.slots,keep b o (fun z=>hx (by rw [z]; exact mem_cons_self)) e⟩,fun _ _ _ n _=>n,fun b o e hx=>⟨o,keep b o (fun z=>hx (by rw [z]; exact mem_cons_self)) e⟩,fun _ _ q=>q,fun _ _ _ q=>q,fun _ _ q=>q⟩
 have hok:HOk X.prog X.w H' h':=fun a o e=>(J.hok a o e).stay (fun b u hb q=>keep b u (fun z=>by
  rcases hb with hb | hb
  ·rw [<- hb,z,hC] at e; cases e
  ·rw [z,hC] at hb; cases hb) q) (fun b q=>q) fun b xs q=>q
 refine I.call' (s':={ s' with heap:=h' }) (ch:=s.heap.objs.size :: fp) J.os (u1.trans u2) hok J.bare fun b hb=>?_;rcases mem_cons.mp hb with rfl | hb
 ·refine⟨.inr I.sz,ne_of_gt I.lt,fun x k e z=>?_,fun p hp z=>?_⟩
  ·obtain⟨v,q⟩:=I.cell x k e;exact absurd q.lt (by rw [z]; exact lt_irrefl _)
  ·exact absurd (lt_size (I.pin p hp).1) (by rw [z]; exact lt_irrefl _)
 ·obtain⟨f0,f1,f2,f3,f4,f5⟩:=f b hb;exact⟨f3,f1,f4,f5⟩
theorem zgN{zh:List (Addr×Obj)}{σ:St}{H2:Hp}{s2:Shared}{it:Addr}{fp:List Addr}{tn:Nat->Heap->Prop}{J:It}{RR:Value->Addr->Result->Shared->Prop}{E:Value->Shared->Prop}(hc:X.calm=true)(c:CompOk X scope cl N caps)
  (I2:Inv X zh σ H2 s2) (T:Turn X.prog X.w X.K tg J fp it tn) (st2:tn 0 s2.heap) (f2:∀ b∈fp,FpOk X zh H2 b)
  (hg:∀ C s H fp,PG (zbT X scope cl C s H fp N) tg g) (ht:∀ C s H fp,PTs (zbT X scope cl C s H fp N) ifs tt) (he:∀ C s H fp,PE (zbT X scope cl C s H fp N) elt te)
  (Q:VK) (hq:∀ D,H2 D=none->∃ W:Nat->Nat->St->Hp->Prop,(∃ m,W 0 m (tau caps σ) (upd H2 D (.lst []))) /\
   ∀ i m τ H2,W i m τ H2->(J.stop i H2/\Q (.ref D) H2)\/(J.go i H2/\∀ x H3,J.yld i H2 x H3->g x τ H3 fun τ4 H4=>tt τ4 H4 fun b H5 =>
    if b=true then te τ4 H5 fun v H6=>∃ xs,H6 D=some (.lst xs)/\xs.length<sizeLine/\∃ m',m'<m/\W (i+1) m' τ4 (upd H6 D (.lst (xs++[v]))) else ∃ m',m'<m/\W (i+1) m' τ4 H5))
  (hRR:∀ (D C:Addr) (H':Hp) (s':Shared) (m:Str->Option Value),s'.heap.Ns C m->FpOk X zh H' C->(∀ h',Heap.SameBut C s'.heap h'->Inv X zh σ H' { s' with heap:=h' })->Q (.ref D) H'->RR (.ref D) C (.ok .next) s') :
  wpAny (model X.prog X.w) X.A (newList []) (fun acc s₃=>wpAny (model X.prog X.w) X.A (newFunctionEnv scope X.env.globals cl [] X.env.qual none .none (some X.env)) (fun cenv s₄ =>
   codeAny (model X.prog X.w) X.A (.compStart (.ListComp elt [⟨tg,iter,ifs,0⟩] scope pos) 0 (.ref it) acc { cenv with scope:=relabel scope X.env }) (RR acc cenv.locals) s₄) E s₃) E s2:=by
 have hD:H2 s2.heap.objs.size=none:=I2.hok.fresh (le_refl _);obtain⟨W,⟨m0,w0⟩,turn⟩:=hq s2.heap.objs.size hD;have I3:Inv X zh σ (upd H2 s2.heap.objs.size (.lst [])) { s2 with heap:=s2.heap.push { cls:=.type "list",data:=.seq ([]:List Value).toArray } }:=I2.laid (t':=s2.toks) (fun b u e=>get?_push_of_some _ e) (le_refl _) ⟨zero_le _,[],0,.nil,get?_push_size _ rfl⟩;have fo:∀ b∈fp,∃ o,s2.heap.get? b=some o:=fun b hb=>by obtain⟨o,e,_⟩:=T.obj 0 _ st2 b hb; exact⟨o,e⟩
 have f3:∀ b∈fp,FpOk X zh (upd H2 s2.heap.objs.size (.lst [])) b:=fun b hb=>by
  obtain⟨o,e⟩:=fo b hb;refine⟨?_,(f2 b hb).2⟩;rw [zI (ne_of_lt (lt_size e))];exact(f2 b hb).1
 refine wpAny_newObj_type (wpAny_newFunctionEnv c.cell (by intro y hy; simp at hy) (fun h₁ hns₁ hsb₁=>?_) c.kind);have hk:∀ b o,(s2.heap.push { cls:=.type "list",data:=.seq ([]:List Value).toArray }).get? b=some o->h₁.get? b=some o:=fun b o e=>hsb₁.extBut b o (ne_of_lt (lt_size e)) (get?_push_of_some _ e);have st4:tn 0 h₁:=T.keep 0 _ _ st2 fun b _ o e=>hk b o (get?_push_of_some _ e);have I4:=zkQ (t':=s2.toks+([]:List (Str×Value)).length) c I3 f3 (fun b hb=>by obtain⟨o,e⟩:=fo b hb; exact⟨o,get?_push_of_some _ e⟩) hns₁ hk;have fpok:∀ {H':Hp},(∀ b∈fp,H' b=none)->∀ b∈fp,FpOk (zbT X scope cl (s2.heap.push { cls:=.type "list",data:=.seq ([]:List Value).toArray }).objs.size { s2 with heap:=s2.heap.push { cls:=.type "list",data:=.seq ([]:List Value).toArray } } (upd H2 s2.heap.objs.size (.lst [])) fp N) [] H' b:=fun hn b hb =>
  ⟨hn b hb,(I4.ok.exf b hb).1,I4.ok.exfs b hb,.inl hb,(I4.ok.exf b hb).2,fun p hp=>absurd (show p∈([]:List (Addr×Obj)) from hp) (by simp)⟩
 have loop:codeAny (model X.prog X.w) X.A (.compLoop (.ListComp elt [⟨tg,iter,ifs,0⟩] scope pos) 0 (.ref it) (.ref s2.heap.objs.size) (compEnvC scope cl (s2.heap.push { cls:=.type "list",data:=.seq ([]:List Value).toArray }).objs.size X.env))
   (RR (.ref s2.heap.objs.size) (s2.heap.push { cls:=.type "list",data:=.seq ([]:List Value).toArray }).objs.size) { s2 with heap:=h₁,toks:=s2.toks+([]:List (Str×Value)).length }:=by
  refine ziA (fun n s'=>∃ i τ H',Inv (zbT X scope cl (s2.heap.push { cls:=.type "list",data:=.seq ([]:List Value).toArray }).objs.size { s2 with heap:=s2.heap.push { cls:=.type "list",data:=.seq ([]:List Value).toArray } } (upd H2 s2.heap.objs.size (.lst [])) fp N) [] τ H' s'/\tn i s'.heap/\(∀ b∈fp,H' b=none)/\W i n τ H') ?_ m0 ⟨0,_,_,I4,st4,fun b hb=>(f3 b hb).1,w0⟩;rintro n s5 ⟨i,τ,H5,I5,st5,fr5,w5⟩;rcases turn i n τ H5 w5 with ⟨stop,qn⟩ | ⟨go,step⟩
  ·refine thn (T.done (zbT X scope cl (s2.heap.push { cls:=.type "list",data:=.seq ([]:List Value).toArray }).objs.size { s2 with heap:=s2.heap.push { cls:=.type "list",data:=.seq ([]:List Value).toArray } } (upd H2 s2.heap.objs.size (.lst [])) fp N) rfl rfl rfl hc i [] s5 τ H5 (fun _ _=>False) I5 (fpok fr5) st5 stop) fun r s6 ⟨hr,I6⟩=>?_;subst hr;obtain⟨m,hn,_⟩:=id I6.loc;exact hRR _ _ H5 s6 m hn (I3.fpOk (le_refl _) I6.free) (fun h' hs=>zlR I3 f3 I6 hs) qn
  ·refine thn (T.item (zbT X scope cl (s2.heap.push { cls:=.type "list",data:=.seq ([]:List Value).toArray }).objs.size { s2 with heap:=s2.heap.push { cls:=.type "list",data:=.seq ([]:List Value).toArray } } (upd H2 s2.heap.objs.size (.lst [])) fp N) rfl rfl rfl hc i [] s5 τ H5 (fun _ _=>False) I5 (fpok fr5) st5 go) fun r s6 ⟨u,hr,h6⟩=>?_;subst hr;refine thn h6 fun _ s7 ⟨x,H7,I7,r7,y7,st7,fr7⟩=>?_;have I7':=I7.pinned (fpok fr7) (T.obj _ _ st7);refine thn (hg _ _ _ _ _ s7 τ H7 x u _ I7' r7 (step x H7 y7)) fun _ s8 ⟨τ8,H8,I8,q8⟩=>?_;refine thn (ht _ _ _ _ _ s8 τ8 H8 _ I8 q8) fun ok s9 ⟨H9,I9,q9⟩=>?_;have again:∀ {H':Hp} {s':Shared} {m:Nat},Inv (zbT X scope cl (s2.heap.push { cls:=.type "list",data:=.seq ([]:List Value).toArray }).objs.size { s2 with heap:=s2.heap.push { cls:=.type "list",data:=.seq ([]:List Value).toArray } } (upd H2 s2.heap.objs.size (.lst [])) fp N) ([]++ziP fp s7.heap) τ8 H' s'->(m<n/\W (i+1) m τ8 H') ->
     ∃ m,m<n/\∃ i τ H',Inv (zbT X scope cl (s2.heap.push { cls:=.type "list",data:=.seq ([]:List Value).toArray }).objs.size { s2 with heap:=s2.heap.push { cls:=.type "list",data:=.seq ([]:List Value).toArray } } (upd H2 s2.heap.objs.size (.lst [])) fp N) [] τ H' s'/\tn i s'.heap/\(∀ b∈fp,H' b=none)/\W i m τ H':=fun {H' s' m} I' q=>by
    refine⟨m,q.1,i+1,τ8,H',I'.unpinned,T.keep _ _ _ st7 fun b hb o e=>(I'.pin (b,o) (mem_append_right _ (mem_append_right _ (zdv hb e)))).1,fun b hb=>?_,q.2⟩;obtain⟨o,e,d⟩:=T.obj _ _ st7 b hb;exact(I'.pin (b,o) (mem_append_right _ (mem_append_right _ (zdv hb e)))).2.1
   cases ok with
   | false =>
    rw [if_neg Bool.false_ne_true] at q9 ⊢;obtain⟨m',hm,w9⟩:=q9;exact again I9 ⟨hm,w9⟩
   | true =>
    rw [if_pos rfl] at q9 ⊢;refine thn (he _ _ _ _ _ s9 τ8 H9 _ I9 q9) fun v s10 ⟨z,H10,I10,r10,xs,hx,hz,m',hm,w10⟩=>?_;refine thn (zbl _ s10 τ8 H10 (.ref s2.heap.objs.size) [z] (.ref s2.heap.objs.size) [v] (fun _ H11=>W (i+1) m' τ8 H11) I10 rfl (.cons r10 .nil) ⟨_,xs,z,rfl,rfl,hx,hz,w10⟩) fun _ s11 ⟨_,H11,I11,_,w11⟩=>?_;exact again I11 ⟨hm,w11⟩
 exact codeAny_compStart_list loop (T.self _ 0 _ _ _ st4 loop)
theorem zbe(hx:∀ e s,X.xe e s->False)(hc:X.calm=true)(c:CompOk X scope cl N caps)(hi:PI X tg iter wi)(hg:∀ C s H fp,PG (zbT X scope cl C s H fp N) tg g)(ht:∀ C s H fp,PTs (zbT X scope cl C s H fp N) ifs tt)(he:∀ C s H fp,PE (zbT X scope cl C s H fp N) elt te)
  (hs:∀ x,foldedSetIterable iter X.env x=pure x:=by intro _; rfl):PE X (.ListComp elt [⟨tg,iter,ifs,0⟩] scope pos) (zml caps wi g tt te):=by
 intro zh s σ H Q I h;rw [eval_ListComp];refine wpAny_comprehension_free (use:=none) rfl hs c.clos c.kind c.names (thn (hi zh s σ H _ I h) fun v s1 h1=>thn h1 fun itv s2 h2=>?_);obtain⟨it,fp,tn,J,H2,e,I2,T,st2,f2,q2⟩:=h2;subst e;exact zgN (RR:=fun acc C=>compPost (model X.prog X.w) X.A X.xe none (EP X zh σ Q) acc C) hc c I2 T st2 f2 hg ht he Q q2 fun D C H' s' m hn _ hb q=>⟨m,hn,fun h' hs=>⟨.ref D,H',hb h' hs,rfl,q⟩⟩
theorem zeJ{i:Nat}{y:Str}{py spos:Pos}(hx:∀ e s,X.xe e s->False)(hc:X.calm=true)(c:CompOk X scope cl N caps)(hN:X.N.Nodup)(hyi:X.N[i]? = some y)(hl:X.env.scope.names.lookup y=some .local)(hi:PI X tg iter wi)(hg:∀ C s H fp,PG (zbT X scope cl C s H fp N) tg g)
  (ht:∀ C s H fp,PTs (zbT X scope cl C s H fp N) ifs tt) (he:∀ C s H fp,PE (zbT X scope cl C s H fp N) elt te)
  (hsw:swapsWith (.ListComp elt [⟨tg,iter,ifs,0⟩] scope pos) (some (.Name y py)) spos.line X.env=pure true:=by rfl)
  (hs:∀ x,foldedSetIterable iter X.env x=pure x:=by intro _; rfl):PS X (.Assign [.Name y py] (.ListComp elt [⟨tg,iter,ifs,0⟩] scope pos) spos) (zr8 (zml caps wi g tt te) (zjf i)):=by
 intro zh s σ H D I h;rw [exec_Assign_Name_used _ _ _ _ hsw];refine wpAny_bind (wpAny_standAt (wpAny_bind ?_));show wpAny _ X.A (do let _ <- comprehension (.ListComp elt [⟨tg,iter,ifs,0⟩] scope pos) scope X.env _ (newList []) false (eval iter X.env) (some (assign (.Name y py) X.env))) _ _ s;refine wpAny_bind (wpAny_mono (wpAny_comprehension_free (use:=some (assign (.Name y py) X.env)) (Q:=fun _ s'=>SP X zh D .next s') rfl hs c.clos c.kind c.names (thn (hi zh s σ H _ I h) fun v s1 h1=>thn h1 fun itv s2 h2=>?_)) (fun _ s' hq=>wpAny_pure (wpAny_pure hq)) fun _ _ e=>e);obtain⟨it,fp,tn,J,H2,e,I2,T,st2,f2,q2⟩:=h2;subst e;refine zgN (RR:=fun acc C=>compPost (model X.prog X.w) X.A X.xe (some (assign (.Name y py) X.env)) (fun _ s'=>SP X zh D .next s') acc C) hc c I2 T st2 f2 hg ht he (fun v H'=>D.nx (σ.set i (some v)) H') q2 fun Da C H' s' m hn f hb q=>?_;obtain⟨o,es,ep,ho,hd,r⟩:=hn;have I':Inv X zh σ H' s':=hb s'.heap (Heap.SameBut.refl _ _);have I'':Inv X (zh++[(C,o)]) σ H' s':=I'.pins_of fun p hp=>(mem_append.mp hp).elim (fun z=>I'.pin p (mem_append_right _ z)) fun z=>by
  cases mem_singleton.mp z;exact⟨ho,f.1,f.2.1,f.2.2.1,fun v e=>by rw [hd] at e; cases e⟩
 refine wpAny_assign_Name (zfa I'' hN hyi (.inl hl) (show RelV (V.ref Da) (Value.ref Da) from rfl) (fun s2 J2=>?_) (.inr hl));refine⟨m,⟨o,es,ep,(J2.pin (C,o) (mem_append_right _ (mem_append_right _ (mem_singleton.mpr rfl)))).1,hd,r⟩,fun h' hs=>?_⟩;exact⟨_,H',J2.unpinned.turned (t':=s2.toks) (fun b ob nb e=>hs.extBut b ob nb e) f.1 f.2.1 f.2.2.2.1 f.2.2.2.2.1 f.2.2.2.2.2,q⟩
end
def zi2(env:Env):List (Str×NameKind)->List (Str×Addr)->List (Str×Addr)
 | [],acc=>acc
 | (n,k) :: r,acc=>zi2 env r (if k == .free then (n,(env.cells.lookup n).getD 0) :: acc else acc)
theorem zg3{env:Env}{x:Str}{c:Addr}:∀ {names:List (Str×NameKind)} {acc:List (Str×Addr)},(x,c)∈zi2 env names acc->(x,c)∈acc\/((x,NameKind.free)∈names/\c=(env.cells.lookup x).getD 0)
 | [],_,h=>.inl h
 | (n,k) :: r,acc,h=>by
  rcases zg3 (names:=r) h with h | ⟨h,e⟩
  ·by_cases hk:k == .free
   ·rw [if_pos hk] at h;rcases mem_cons.mp h with h | h
    ·cases h;have:k=.free:=by simpa using hk
     subst this;exact .inr ⟨mem_cons_self,rfl⟩
    ·exact .inl h
   ·rw [if_neg hk] at h;exact .inl h
  ·exact .inr ⟨mem_cons_of_mem _ h,e⟩
theorem zj6{env:Env}{p:Str×Addr}:∀ {names:List (Str×NameKind)} {acc:List (Str×Addr)},p∈acc->p∈zi2 env names acc
 | [],_,h=>h
 | (n,k) :: r,acc,h=>zj6 (names:=r) (by split <;> first | exact mem_cons_of_mem _ h | exact h)
theorem zfg{env:Env}{x:Str}:∀ {names:List (Str×NameKind)} {acc:List (Str×Addr)},(x,NameKind.free)∈names->∃ c,(x,c)∈zi2 env names acc
 | (n,k) :: r,acc,h=>by
  rcases mem_cons.mp h with h | h
  ·cases h;exact⟨_,zj6 (names:=r) (by rw [if_pos dz]; exact mem_cons_self)⟩
  ·exact zfg (names:=r) h
theorem zb0{β:Type}{x:Str}{c:β}:∀ {l:List (Str×β)},(x,c)∈l->∃ c',l.lookup x=some c'
 | (n,v) :: r,h=>by
  cases e:x == n with
  | true=>exact⟨v,by rw [lookup_cons,e]⟩
  | false =>
   rcases mem_cons.mp h with h | h
   ·cases h;simp at e
   ·obtain⟨c',q⟩:=zb0 (l:=r) h;exact⟨c',by rw [lookup_cons,e]; exact q⟩
theorem zef{env:Env}{scope:Scope}(h:∀ y∈scope.names,y.2=.free->(env.cells.lookup y.1).isSome=true):closureFor scope env=pure (zi2 env scope.names []):=by
 have go:∀ (names:List (Str×NameKind)) (acc:List (Str×Addr)),(∀ y∈names,y.2=.free->(env.cells.lookup y.1).isSome=true) ->
   (forIn names acc (fun(x:Str×NameKind) (cs:List (Str×Addr))=>(if x.2 == .free then (do let c <- cellOf env x.1; pure (ForInStep.yield ((x.1,c) :: cs))) else pure (ForInStep.yield cs):Sem (ForInStep (List (Str×Addr))))))=(pure (zi2 env names acc):Sem (List (Str×Addr))):=by
  intro names;induction names with
  | nil=>intro acc _; rfl
  | cons y r ih =>
   intro acc hy;obtain⟨n,k⟩:=y;rw [forIn_cons];by_cases hk:k == .free
   ·have hs:=hy (n,k) mem_cons_self (by simpa using hk);obtain⟨c,hc⟩:=isSome_iff_exists.mp hs;have hc':env.cells.lookup n=some c:=hc;simp only [hk,if_true,cellOf,hc',pure_bind,zi2,Option.getD_some];exact ih _ fun y hy'=>hy y (mem_cons_of_mem _ hy')
   ·simp only [hk,Bool.false_eq_true,if_false,pure_bind,zi2];exact ih _ fun y hy'=>hy y (mem_cons_of_mem _ hy')
 have g:=go scope.names [] h;exact(bind_pure _).trans g
def zaU(DN:List Str)(dsc sc:List (Str×NameKind))(N:List Str)(caps:List (Option Nat)):Bool :=
 (caps.length == N.length) && sc.all (fun y=>y.2 != .cell && (y.2 != .free || dsc.lookup y.1 == some .cell) && (y.2 != .local || sc.lookup y.1 == some .local)) &&
 (caps.zip N).all fun p=>match p.1 with | none=>true | some i=>DN[i]? == some p.2 && dsc.lookup p.2 == some .cell && sc.lookup p.2 == some .free
theorem zdi{dsc:List (Str×NameKind)}{env:Env}{x:Str}{k:NameKind}:∀ {names:List (Str×NameKind)},(names.map fun(n,k)=>if (k == .free && env.scope.kind == .function && env.kindOf n == some .cell) then (n,.cell) else (n,k)).lookup x=some k ->
  ∃ k',names.lookup x=some k'/\(k'=k\/(k'=.free/\k=.cell))
 | [],h=>by simp at h
 | (n,k0) :: r,h=>by
  cases e:x == n with
  | true =>
   refine⟨k0,by rw [lookup_cons,e],?_⟩;rw [map_cons] at h;dsimp only at h;split at h
   ·rename_i hc;rw [lookup_cons,e] at h;have:k0=.free:=by simp at hc; exact hc.1.1
    cases h;exact .inr ⟨this,rfl⟩
   ·rw [lookup_cons,e] at h;cases h;exact .inl rfl
  | false =>
   rw [map_cons] at h;dsimp only at h;have h':(r.map fun(n,k)=>if (k == NameKind.free && env.scope.kind == .function && env.kindOf n == some .cell) then (n,NameKind.cell) else (n,k)).lookup x=some k:=by
    split at h <;> (rw [lookup_cons,e] at h; exact h)
   obtain⟨k',q,z⟩:=zdi (dsc:=dsc) h';exact⟨k',by rw [lookup_cons,e]; exact q,z⟩
theorem zgJ{env:Env}{x:Str}(h1:env.scope.kind=.function)(h2:env.kindOf x=some .cell):∀ {names:List (Str×NameKind)},names.lookup x=some .free ->
  (names.map fun(n,k)=>if (k == .free && env.scope.kind == .function && env.kindOf n == some .cell) then (n,.cell) else (n,k)).lookup x=some .cell
 | [],h=>by simp at h
 | (n,k0) :: r,h=>by
  rw [map_cons];cases e:x == n with
  | true =>
   rw [lookup_cons,e] at h;cases h;have en:x=n:=by simpa using e
   subst en;dsimp only;rw [if_pos (by rw [h1,h2]; decide),lookup_cons,e]
  | false =>
   rw [lookup_cons,e] at h;have ih:=zgJ h1 h2 (names:=r) h;dsimp only;split <;> (rw [lookup_cons,e]; exact ih)
theorem zL{X:Cx}{dsc:Scope}{L:Nat}{scope:Scope}{N:List Str}{caps:List (Option Nat)}(hd:X.env.scope=dsc)(hc:X.env.cells=cellsFrom L dsc.names [])(hdk:dsc.kind=.function)(hk:scope.kind=.function)(h:zaU X.N dsc.names scope.names N caps=true):
  CompOk X scope (zi2 X.env scope.names []) N caps:=by
 subst hd;simp only [zaU,Bool.and_eq_true,all_eq_true,beq_iff_eq] at h;obtain⟨⟨hl,hs⟩,hz⟩:=h;have hfree:∀ y∈scope.names,y.2=.free->X.env.scope.names.lookup y.1=some .cell:=fun y hy e=>by
  have q:=(hs y hy).1.2;rw [e] at q;simpa using q
 have hcell:∀ y∈scope.names,y.2≠.cell:=fun y hy e=>by
  have q:=(hs y hy).1.1;rw [e] at q;simp at q
 have hsome:∀ x,X.env.scope.names.lookup x=some .cell->(X.env.cells.lookup x).isSome=true:=fun x e=>by
  rw [hc];exact W.cellsFrom_some _ _ _ (.inl e)
 have sub:∀ x c,(zi2 X.env scope.names []).lookup x=some c->X.env.cells.lookup x=some c:=fun x c e=>by
  rcases zg3 (PySem.mem_of_lookup e) with q | ⟨q,ec⟩
  ·cases q
  ·obtain⟨c',hc'⟩:=isSome_iff_exists.mp (hsome x (hfree _ q rfl));rw [ec,hc'];rfl
 refine⟨zef fun y hy e=>hsome y.1 (hfree y hy e),sub,hk,hcell,fun y hy e=>?_,fun x hx=>?_,fun j i x h1 h2=>?_,hl⟩
 ·have q:=(hs y hy).2;rw [e] at q;simpa using q
 ·have fin:(x,NameKind.free)∈scope.names->∃ c,(zi2 X.env scope.names []).lookup x=some c:=fun m=>by
   obtain⟨c,hm⟩:=zfg (env:=X.env) (acc:=[]) m;exact zb0 hm
  rcases hx with hx | hx
  ·obtain⟨k',q,z⟩:=zdi (dsc:=[]) hx;rcases z with rfl | ⟨rfl,_⟩
   ·exact absurd rfl (hcell _ (PySem.mem_of_lookup q))
   ·exact fin (PySem.mem_of_lookup q)
  ·obtain⟨k',q,z⟩:=zdi (dsc:=[]) hx;rcases z with rfl | ⟨_,z⟩
   ·exact fin (PySem.mem_of_lookup q)
   ·cases z
 ·have hm:(some i,x)∈caps.zip N:=by
   have:(caps.zip N)[j]? = some (some i,x):=by rw [getElem?_zip_eq_some]; exact⟨h1,h2⟩
   exact mem_of_getElem? this
  have q:=hz _ hm;simp only [Bool.and_eq_true,beq_iff_eq] at q;obtain⟨⟨q1,q2⟩,q3⟩:=q;obtain⟨c,hmc⟩:=zfg (env:=X.env) (acc:=[]) (PySem.mem_of_lookup q3);obtain⟨c',hc'⟩:=zb0 hmc;refine⟨q1,.inr (.inl q2),fun z=>?_,c',hc',.inl (zgJ hdk q2 q3)⟩;have z':X.env.scope.names.lookup x=some .local:=z;rw [q2] at z';cases z'
end
section
section
variable {X:Cx}
def zs2:R2:=fun x y H Q=>∃ z n,x=.str z/\y=.int n/\z.length<=1000/\n<=1000/\-1000<=n/\Q (.str (PySem.Txt.mul z n)) H
theorem zr1{z:Str}{n:Int}(h1:z.length<=1000)(h2:n<=1000)(h3:-1000<=n):PySem.MulOk z n:=by
 refine⟨by simp; omega,fun a _ b=>?_,fun a _=>?_⟩
 ·have e:(1000:Int)<=(2 ^ 63 - 1) / n:=by
   rw [Int.le_ediv_iff_mul_le (by omega)];have:=Int.mul_le_mul_of_nonneg_left h2 (show (0:Int)<=1000 by decide);omega
  omega
 ·have e:z.length*n.toNat<=1000*1000:=mul_le_mul h1 (by omega);unfold Builtin.Str.tooLong;simp only [decide_eq_false_iff_not,Nat.not_lt];exact le_trans e dz
theorem zre:OpR X (binaryOp .Mult) zs2:=by
 intro zh s σ H x y v u Q I rx ry h;obtain⟨z,n,rfl,rfl,h1,h2,h3,q⟩:=h;obtain⟨t,rfl⟩:=rx;obtain⟨t',rfl⟩:=ry;exact PySem.SB.mul (zr1 h1 h2 h3) fun _ k=>⟨.str _,H,I.tok _,⟨_,rfl⟩,q⟩
def zuF:V->Option Int->Option Int->Hp->VK->Prop:=fun x lo hi H Q=>∃ z,x=.str z/\z.length<=sizeLine/\Q (.str (PySem.Txt.slice z lo hi)) H
theorem zsF:SlR X zuF:=by
 intro zh s σ H x v vl vu lo hi sl Q I rx hs pl pu h;obtain⟨z,rfl,hz,q⟩:=h;obtain⟨t,rfl⟩:=rx;refine⟨"str",_,F.slot_str_getitem.lookup,typeIs_str _ _ _,?_⟩;have fin:∀ (a b:Option (Int×Tok)),a.map (·.1)=lo->b.map (·.1)=hi->s.heap.IsSlice sl a b none->wpAny (model X.prog X.w) X.A (getItem (.str z t) (.ref sl)) (EP X zh σ Q) X.xe s:=fun a b e1 e2 hsl=>by
  subst e1 e2;exact wpAny_getItem_str_slice (l:=a) (u:=b) (st:=none) hsl rfl (post_val_or_str ⟨le_trans (PySem.Txt.slice_le z _ _) hz,fun _ k=>⟨.str _,H,I.tok _,⟨_,rfl⟩,q⟩⟩)
 cases pl with
 | none =>
  cases pu with
  | none=>exact fin none none rfl rfl hs
  | int j tj=>exact fin none (some (j,tj)) rfl rfl hs
 | int i ti =>
  cases pu with
  | none=>exact fin (some (i,ti)) none rfl rfl hs
  | int j tj=>exact fin (some (i,ti)) (some (j,tj)) rfl rfl hs
theorem zgF:∀ {zs:List Str} {us:List Value},Vals (zs.map V.str) us->StrsAre us zs
 | [],_,.nil=>.nil
 | z :: zs,_,.cons r t=>by
  obtain⟨tk,rfl⟩:=r;exact .cons z tk (zgF t)
def zsp(K:W.Frag):V->List V->Hp->VK->Prop:=fun x vs H Q=>∃ z a zs,x=.str z/\vs=[.ref a]/\SqL K H a (zs.map V.str)/\z.length<=16/\zs.length<=1000/\(∀ y∈zs,y.length<=1000)/\Q (.str (PySem.Txt.join z zs)) H
theorem zhQ{zs:List Str}(h:∀ y∈zs,y.length<=1000):(zs.map (·.length)).sum<=zs.length*1000:=by
 induction zs with
 | nil=>simp
 | cons z zs ih =>
  have h1:=h z mem_cons_self;have h2:=ih fun y hy=>h y (mem_cons_of_mem _ hy);simp only [map_cons,sum_cons,length_cons,Nat.add_mul,Nat.one_mul];omega
theorem zqq:MtR X "str.join" (zsp X.K):=by
 intro zh s σ H x vs v us Q I rx rv h;obtain⟨z,a,zs,rfl,rfl,hq,hz,hn,hl,q⟩:=h;obtain⟨t,rfl⟩:=rx;obtain⟨u,rfl,r1⟩:=rv.one;cases r1;obtain⟨its,r,pl,hsz⟩:=I.list hq;have hs:=zhQ hl;refine join_listW pl.isList (by simpa using zgF r) hz (by omega) fun _ k=>⟨.str _,H,I.tok _,⟨_,rfl⟩,q⟩
end
section
variable {K:W.Frag} {o:List Addr} {σ:St} {H0:Hp} {t:TE} {ta:TA} {ds:List PyData}
def ze6(lo:Int)(n:Nat):List PyData:=(List.range n).map fun k:Nat=>.int (lo+k)
theorem zah{lo:Int}{n:Nat}:(ze6 lo n).length=n:=by simp [ze6]
theorem zbi{lo:Int}{n i:Nat}{d:PyData}(h:(ze6 lo n)[i]? = some d):i<n/\d=.int (lo+i):=by
 have hi:i<n:=by
  have:=List.getElem?_eq_some_iff.mp h;obtain⟨hl,_⟩:=this
  rwa [zah] at hl
 refine⟨hi,?_⟩;simp only [ze6,getElem?_map,List.getElem?_range hi,map_some,Option.some.injEq] at h;exact h.symm
end
theorem zow{y:Str}{zs:List Str}(hy:y.length<=16)(hz:∀ z∈zs,z.length<=1000):(PySem.Txt.join y zs).length<=zs.length*1016:=by
 show (Builtin.Str.glued y zs).length<=_;rw [StrLaws.glued_eq_join];cases zs with
 | nil=>exact zero_le _
 | cons a r =>
  rw [len_join_cons];have h1:=zhQ hz;have h2:r.length*y.length<=r.length*16:=Nat.mul_le_mul_left _ hy;simp only [length_cons] at h1 ⊢;omega
def zdE{α:Type}(xs:List α)(lo hi:Option Int):List α:=(xs.drop (HT.sIx xs.length 0 lo)).take (HT.sIx xs.length xs.length hi - HT.sIx xs.length 0 lo)
theorem HasL.drop{H:Hp}:∀ {ds:List PyData} {vs:List V} (n:Nat),HasL H ds vs->HasL H (ds.drop n) (vs.drop n)
 | ds,vs,0,h=>h
 | [],vs,n+1,h=>by rw [zC.mp h]; exact zC.mpr rfl
 | d :: ds,vs,n+1,h=>by
  obtain⟨v,r,rfl,_,l⟩:=zr.mp h;exact HasL.drop n l
theorem HasL.take{H:Hp}:∀ {ds:List PyData} {vs:List V} (n:Nat),HasL H ds vs->HasL H (ds.take n) (vs.take n)
 | ds,vs,0,h=>zC.mpr rfl
 | [],vs,n+1,h=>by rw [zC.mp h]; exact zC.mpr rfl
 | d :: ds,vs,n+1,h=>by
  obtain⟨v,r,rfl,q,l⟩:=zr.mp h;exact zr.mpr ⟨v,_,rfl,q,HasL.take n l⟩
theorem HasL.cut{H:Hp}{ds:List PyData}{vs:List V}(lo hi:Option Int)(h:HasL H ds vs):HasL H (zdE ds lo hi) (zj5 vs lo hi):=by
 unfold zdE zj5;rw [h.length];exact(h.drop _).take _
theorem HasL.rev{H:Hp}:∀ {ds:List PyData} {vs:List V},HasL H ds vs->HasL H ds.reverse vs.reverse
 | [],vs,h=>by rw [zC.mp h]; exact zC.mpr rfl
 | d :: ds,vs,h=>by
  obtain⟨v,r,rfl,q,l⟩:=zr.mp h;rw [reverse_cons,reverse_cons];exact(HasL.rev l).append (zr.mpr ⟨v,[],rfl,q,zC.mpr rfl⟩)
end
section
theorem zo1:∀ {l:List Addr} {H:Hp} {b:Addr} {u:HO},vw l H b=some u↔b∉l/\H b=some u
 | [],H,b,u=>by simp [vw]
 | a :: r,H,b,u=>by
  show hid a (vw r H) b=some u↔_;by_cases h:b=a
  ·subst h; simp [zoy]
  ·rw [zrG h,zo1]; simp [h]
def vx(h o:List Addr)(H:Hp):Hp:=vw (h++o) H
theorem zat{h o:List Addr}{H:Hp}{b:Addr}{u:HO}:vx h o H b=some u↔b∉h/\b∉o/\H b=some u:=by
 unfold vx;rw [zo1];simp [and_assoc]
theorem zal{h o:List Addr}{H:Hp}:Same (vx h o H) H:=fun b u e=>(zat.mp e).2.2
theorem zc8{h o:List Addr}{H H':Hp}(s:Same H H'):Same (vx h o H) (vx h o H'):=fun b u e=>by
 obtain⟨h1,h2,h3⟩:=zat.mp e;exact zat.mpr ⟨h1,h2,s b u h3⟩
structure Ex(o:List Addr)(H:Hp)(o':List Addr)(H':Hp):Prop where
 pre:∃ r,o'=o++r
 kp:∀ b u,b∉o->H b=some u->b∉o'/\H' b=some u
section
variable {h o o' o'':List Addr} {H H' H'':Hp} {S:List (List PyData)} {p a:Addr}
theorem Ex.refl:Ex o H o H:=⟨⟨[],by simp⟩,fun _ _ a b=>⟨a,b⟩⟩
theorem Ex.trans(a:Ex o H o' H')(b:Ex o' H' o'' H''):Ex o H o'' H'':=by
 obtain⟨⟨r,e⟩,ka⟩:=a;obtain⟨⟨t,e'⟩,kb⟩:=b;refine⟨⟨r++t,by rw [e',e,append_assoc]⟩,fun b u h1 h2=>?_⟩;obtain⟨h3,h4⟩:=ka b u h1 h2;exact kb b u h3 h4
theorem Ex.vx(e:Ex o H o' H'):Same (L2.vx h o H) (L2.vx h o' H'):=fun b u q=>by
 obtain⟨h1,h2,h3⟩:=zat.mp q;obtain⟨h4,h5⟩:=e.kp b u h2 h3;exact zat.mpr ⟨h1,h4,h5⟩
structure ExH(h o:List Addr)(H:Hp)(o':List Addr)(H':Hp):Prop where
 pre:∃ r,o'=o++r
 kp:∀ b u,b∉h->b∉o->H b=some u->b∉o'/\H' b=some u
theorem Ex.hid(e:Ex o H o' H'):ExH h o H o' H':=⟨e.pre,fun b u _=>e.kp b u⟩
theorem ExH.refl:ExH h o H o H:=Ex.refl.hid
theorem ExH.vx(e:ExH h o H o' H'):Same (L2.vx h o H) (L2.vx h o' H'):=fun b u q=>by
 obtain⟨h1,h2,h3⟩:=zat.mp q;obtain⟨h4,h5⟩:=e.kp b u h1 h2 h3;exact zat.mpr ⟨h1,h4,h5⟩
theorem Ex.of_same(s:Same H H'):Ex o H o H':=⟨⟨[],by simp⟩,fun b u h e=>⟨h,s b u e⟩⟩
theorem zdM{α:Type}{l t:List α}{k:Nat}{a:α}(q:l[k]? = some a):(l++t)[k]? = some a:=by
 obtain⟨hk,_⟩:=List.getElem?_eq_some_iff.mp q;rw [getElem?_append_left hk];exact q
def exO(a C:Addr)(d:Option Addr):HO:=.ext fun h=>∃ o,h.get? a=some o/\o.cls=.ref C/\o.dict=d/\∃ vs,o.data=.fields vs
def xw(dx:Addr)(fs:List (Str×V)):HO:=.ext fun h=>∃ mA,h.Ns1 dx mA/\(∀ f,RelO (fs.lookup f) (mA f))/\PySem.Within mA (fs.map (·.1))
def HasE(H:Hp)(C:Addr)(fs:List (Str×PyData))(v:V):Prop:=∃ a d,v=.ref a/\H a=some (exO a C d)/\∀ f dt,fs.lookup f=some dt->∃ dx vs u,d=some dx/\H dx=some (xw dx vs)/\vs.lookup f=some u/\Has H dt u
theorem HasE.mono{H H':Hp}{C:Addr}{fs:List (Str×PyData)}{v:V}(s:Same H H')(q:HasE H C fs v):HasE H' C fs v:=by
 obtain⟨a,d,e,ha,hf⟩:=q;refine⟨a,d,e,s _ _ ha,fun f dt l=>?_⟩;obtain⟨dx,vs,u,e1,e2,e3,e4⟩:=hf f dt l;exact⟨dx,vs,u,e1,s _ _ e2,e3,Has.mono s _ _ e4⟩
inductive XV where
 | d (d:PyData)
 | l (k:Nat)
 | o (v:V)
 | x (C:Addr) (fs:List (Str×PyData))
def HasX(h o:List Addr)(H:Hp):XV->V->Prop
 | .d d,v=>Has (vx h o H) d v
 | .l k,v=>∃ a,o[k]? = some a/\v=.ref a
 | .o w,v=>v=w
 | .x C fs,v=>HasE (vx h o H) C fs v
theorem HasX.mono(e:Ex o H o' H'):∀ {x:XV} {v:V},HasX h o H x v->HasX h o' H' x v
 | .d d,v,q=>Has.mono e.vx d v q
 | .l k,v,⟨a,q,r⟩=>by
  obtain⟨t,rfl⟩:=e.pre;exact⟨a,zdM q,r⟩
 | .o w,v,q=>q
 | .x C fs,v,q=>HasE.mono e.vx q
def HasXs(h o:List Addr)(H:Hp):List XV->List V->Prop
 | [],vs=>vs=[]
 | x :: xs,vs=>∃ v r,vs=v :: r/\HasX h o H x v/\HasXs h o H xs r
theorem HasXs.mono(e:Ex o H o' H'):∀ {xs:List XV} {vs:List V},HasXs h o H xs vs->HasXs h o' H' xs vs
 | [],_,q=>q
 | x :: xs,vs,⟨v,r,e1,q,l⟩=>⟨v,r,e1,q.mono e,HasXs.mono e l⟩
abbrev Sto:=List (List PyData)
inductive MO where
 | l (vs:List V)
 | k (m:List (Key×V))
 | t (m:List (List Key×V))
def MO.ho:MO->HO
 | .l vs=>.lst vs
 | .k m=>.dK m
 | .t m=>.dT m
structure RepS(h o:List Addr)(H:Hp)(S:Sto):Prop where
 len:S.length=o.length
 nd:o.Nodup
 dis:∀ a∈o,a∉h
 hal:∀ b∈h,∃ u:MO,H b=some u.ho
 cont:∀ (k:Nat) (a:Addr) (ds:List PyData),o[k]? = some a->S[k]? = some ds->∃ vs,H a=some (.lst vs)/\HasL (vx h o H) ds vs
theorem zou{α β:Type}{l:List α}{t:List β}{k:Nat}{a:α}(hl:t.length=l.length)(q:l[k]? = some a):∃ b,t[k]? = some b:=by
 obtain⟨hk,_⟩:=List.getElem?_eq_some_iff.mp q;exact⟨t[k]'(by omega),getElem?_eq_getElem _⟩
theorem RepS.oal(r:RepS h o H S):∀ a∈o,∃ u,H a=some (.lst u):=fun a ha=>by
 obtain⟨k,hk⟩:=mem_iff_getElem?.mp ha;obtain⟨ds,e⟩:=zou r.len hk;obtain⟨vs,e',_⟩:=r.cont k a ds hk e;exact⟨_,e'⟩
theorem RepS.oam(r:RepS h o H S):∀ a∈o,∃ u:MO,H a=some u.ho:=fun a ha=>let ⟨u,e⟩:=r.oal a ha; ⟨.l u,e⟩
theorem RepS.fresh(r:RepS h o H S)(hp:H p=none):p∉h/\p∉o:=by
 constructor
 ·intro m;obtain⟨u,e⟩:=r.hal p m;rw [hp] at e;cases e
 ·intro m;obtain⟨u,e⟩:=r.oal p m;rw [hp] at e;cases e
theorem RepS.same(r:RepS h o H S)(s:Same H H'):RepS h o H' S where
 len:=r.len
 nd:=r.nd
 dis:=r.dis
 hal:=fun b m=>by obtain⟨u,e⟩:=r.hal b m; exact⟨u,s b _ e⟩
 cont:=fun k a ds e1 e2=>by
  obtain⟨vs,e3,l⟩:=r.cont k a ds e1 e2;exact⟨vs,s _ _ e3,HasL.mono (zc8 s) _ _ l⟩
theorem RepS.laid{u:HO}(r:RepS h o H S)(hp:H p=none):vx h o (upd H p u) p=some u:=by
 obtain⟨h1,h2⟩:=r.fresh hp;exact zat.mpr ⟨h1,h2,zZ⟩
theorem Ex.new{u:HO}(r:RepS h o H S)(hp:H p=none):Ex o H (o++[p]) (upd H p u):=by
 refine⟨⟨[p],rfl⟩,fun b w hb e=>?_⟩;have ne:b≠p:=zE e hp;exact⟨by simp [hb,ne],by rw [zI ne]; exact e⟩
theorem zcw{α:Type}{l:List α}{a:α}(h:l.Nodup)(n:a∉l):(l++[a]).Nodup:=by
 rw [nodup_append];refine⟨h,by simp,fun x hx y hy e=>?_⟩;rw [mem_singleton] at hy;subst hy;subst e;exact n hx
theorem RepS.new{ds:List PyData}{vs:List V}(r:RepS h o H S)(hp:H p=none)(l:HasL (vx h o H) ds vs):RepS h (o++[p]) (upd H p (.lst vs)) (S++[ds]):=by
 obtain⟨h1,h2⟩:=r.fresh hp;have ex:Ex o H (o++[p]) (upd H p (.lst vs)):=Ex.new r hp;refine⟨by simp [r.len],zcw r.nd h2,fun a ha=>?_,fun b hb=>?_,fun k a es e1 e2=>?_⟩
 ·rcases mem_append.mp ha with ha | ha
  ·exact r.dis a ha
  ·rw [mem_singleton.mp ha]; exact h1
 ·obtain⟨u,e⟩:=r.hal b hb;exact⟨u,by rw [zI (zE e hp)]; exact e⟩
 ·by_cases hk:k<o.length
  ·rw [getElem?_append_left hk] at e1;rw [getElem?_append_left (by rw [r.len]; exact hk)] at e2;obtain⟨ws,e3,l3⟩:=r.cont k a es e1 e2;refine⟨ws,?_,l3.mono ex.vx⟩;rw [zI (zE e3 hp)];exact e3
  ·have hk':k=o.length:=by
    obtain⟨q,_⟩:=List.getElem?_eq_some_iff.mp e1;rw [length_append,length_singleton] at q;omega
   subst hk';rw [getElem?_concat_length] at e1;rw [<- r.len,getElem?_concat_length] at e2;cases e1;cases e2;exact⟨vs,zZ,l.mono ex.vx⟩
theorem Ex.upd{k:Nat}{u:HO}(e:o[k]? = some a):Ex o H o (L2.upd H a u) :=
 ⟨⟨[],by simp⟩,fun b w hb eb=>⟨hb,by rw [zI (fun z=>hb (by rw [z]; exact mem_of_getElem? e))]; exact eb⟩⟩
theorem zd6{l:List Addr}(h:l.Nodup){i j:Nat}{a:Addr}(e1:l[i]? = some a)(e2:l[j]? = some a):i=j:=by
 obtain⟨hi,e1⟩:=List.getElem?_eq_some_iff.mp e1;obtain⟨hj,e2⟩:=List.getElem?_eq_some_iff.mp e2;exact(List.getElem_inj h).mp (e1.trans e2.symm)
theorem RepS.upd{k:Nat}{ds:List PyData}{vs:List V}(r:RepS h o H S)(e:o[k]? = some a)(l:HasL (vx h o H) ds vs):RepS h o (L2.upd H a (.lst vs)) (S.set k ds):=by
 have ex:Ex o H o (L2.upd H a (.lst vs)):=Ex.upd e;refine⟨by simp [r.len],r.nd,r.dis,fun b hb=>?_,fun j b es e1 e2=>?_⟩
 ·obtain⟨u,eb⟩:=r.hal b hb;have ne:b≠a:=fun z=>r.dis a (mem_of_getElem? e) (z▸hb);exact⟨u,by rw [zI ne]; exact eb⟩
 ·by_cases hj:j=k
  ·subst hj;rw [e1] at e;cases e;obtain⟨hk,_⟩:=List.getElem?_eq_some_iff.mp e1;rw [getElem?_set_self (by rw [r.len]; exact hk)] at e2;cases e2;exact⟨vs,zZ,l.mono ex.vx⟩
  ·rw [getElem?_set_ne (Ne.symm hj)] at e2;obtain⟨ws,e3,l3⟩:=r.cont j b es e1 e2;have ne:b≠a:=fun z=>hj (zd6 r.nd e1 (z▸e));exact⟨ws,by rw [zI ne]; exact e3,l3.mono ex.vx⟩
abbrev XE:=List (Option XV)
structure RepE(h o:List Addr)(H:Hp)(δ:XE)(σ:St):Prop where
 len:δ.length=σ.length
 get:∀ (i:Nat) x,δ[i]? = some (some x)->∃ v,σ[i]? = some (some v)/\HasX h o H x v
variable {δ:XE} {σ:St}
theorem RepE.mono(r:RepE h o H δ σ)(e:Ex o H o' H'):RepE h o' H' δ σ:=⟨r.len,fun i x q=>by
 obtain⟨v,e1,e2⟩:=r.get i x q;exact⟨v,e1,e2.mono e⟩⟩
theorem RepE.set{i:Nat}{x:XV}{v:V}(r:RepE h o H δ σ)(q:HasX h o H x v):RepE h o H (δ.set i (some x)) (σ.set i (some v)):=by
 refine⟨by simp [r.len],fun j y e=>?_⟩;rw [getElem?_set] at e ⊢;by_cases hij:i=j
 ·rw [if_pos hij] at e ⊢;by_cases hl:i<δ.length
  ·rw [if_pos hl] at e;rw [if_pos (by rw [<- r.len]; exact hl)];cases e;exact⟨v,rfl,q⟩
  ·rw [if_neg hl] at e;cases e
 ·rw [if_neg hij] at e ⊢;exact r.get j y e
def zoX(caps:List (Option Nat))(δ:XE):XE:=caps.map fun o=>o.bind fun i=>(δ[i]?).join
theorem RepE.tau{caps:List (Option Nat)}(r:RepE h o H δ σ):RepE h o H (zoX caps δ) (L2.tau caps σ):=by
 refine⟨by simp [zoX,L2.tau],fun i x e=>?_⟩;unfold zoX at e;unfold L2.tau;rw [getElem?_map] at e ⊢;cases hc:caps[i]? with
 | none=>rw [hc] at e; cases e
 | some c =>
  rw [hc] at e;cases c with
  | none=>cases e
  | some j =>
   have e':(δ[j]?).join=some x:=by simpa using e
   have e2:δ[j]? = some (some x):=by
    cases hd:δ[j]? with
    | none=>rw [hd] at e'; cases e'
    | some y=>rw [hd] at e'; exact congrArg some (by simpa using e')
   obtain⟨v,e3,e4⟩:=r.get j x e2;exact⟨v,by simp [e3],e4⟩
end
abbrev RX:=XV->Sto->Prop
abbrev DE:=XE->Sto->RX->Prop
abbrev DT:=XE->Sto->(Bool->Sto->Prop)->Prop
abbrev DA:=XE->Sto->(List XV->Sto->Prop)->Prop
abbrev D2:=XV->XV->Sto->RX->Prop
def Cn(h o:List Addr)(H:Hp)(R:RX)(Q:VK):Prop:=∀ o' H' S' x v,Ex o H o' H'->RepS h o' H' S'->HasX h o' H' x v->R x S'->Q v H'
theorem Cn.pre{h o o':List Addr}{H H':Hp}{R:RX}{Q:VK}(c:Cn h o H R Q)(e:Ex o H o' H'):Cn h o' H' R Q:=fun o2 H2 S2 x v e2=>c o2 H2 S2 x v (e.trans e2)
def RE(t:TE)(dt:DE):Prop:=∀ (h o:List Addr) (H:Hp) (δ:XE) (σ:St) (S:Sto) (R:RX) (Q:VK),RepE h o H δ σ->RepS h o H S->dt δ S R->Cn h o H R Q->t σ H Q
def RT(t:TT)(dt:DT):Prop:=∀ (h o:List Addr) (H:Hp) (δ:XE) (σ:St) (S:Sto) (R:Bool->Sto->Prop) (Q:Bool->Hp->Prop),RepE h o H δ σ->RepS h o H S->dt δ S R ->
 (∀ o' H' S' b,Ex o H o' H'->RepS h o' H' S'->R b S'->Q b H')->t σ H Q
def RA(t:TA)(dt:DA):Prop:=∀ (h o:List Addr) (H:Hp) (δ:XE) (σ:St) (S:Sto) (R:List XV->Sto->Prop) (Q:List V->Hp->Prop),RepE h o H δ σ->RepS h o H S->dt δ S R ->
 (∀ o' H' S' xs vs,Ex o H o' H'->RepS h o' H' S'->HasXs h o' H' xs vs->R xs S'->Q vs H')->t σ H Q
def RO(r:R2)(rd:D2):Prop:=∀ (h o:List Addr) (H:Hp) (S:Sto) (x y:XV) (v u:V) (R:RX) (Q:VK),RepS h o H S->HasX h o H x v->HasX h o H y u->rd x y S R->Cn h o H R Q->r v u H Q
def RU(r:V->Hp->VK->Prop)(rd:XV->Sto->RX->Prop):Prop:=∀ (h o:List Addr) (H:Hp) (S:Sto) (x:XV) (v:V) (R:RX) (Q:VK),RepS h o H S->HasX h o H x v->rd x S R->Cn h o H R Q->r v H Q
def RC(r:List V->Hp->VK->Prop)(rd:List XV->Sto->RX->Prop):Prop:=∀ (h o:List Addr) (H:Hp) (S:Sto) (xs:List XV) (vs:List V) (R:RX) (Q:VK),RepS h o H S->HasXs h o H xs vs->rd xs S R->Cn h o H R Q->r vs H Q
def asI:XV->(Int->Prop)->Prop
 | .d (.int i),k=>k i
 | _,_=>False
def asB:XV->(Bool->Prop)->Prop
 | .d (.bool i),k=>k i
 | _,_=>False
def asS:XV->(Str->Prop)->Prop
 | .d (.str i),k=>k i
 | _,_=>False
def asT:XV->(List PyData->Prop)->Prop
 | .d (.tuple i),k=>k i
 | _,_=>False
def ziG(S:Sto):XV->Option (List PyData)
 | .d (.list ds)=>some ds
 | .l k=>S[k]?
 | _=>none
def asL(S:Sto)(x:XV)(k:List PyData->Prop):Prop:=∃ ds,ziG S x=some ds/\k ds
def zgs(S:Sto):XV->Option PyData
 | .d d=>some d
 | .l k=>(S[k]?).map .list
 | .o _=>none
 | .x _ _=>none
def asD(x:XV)(k:PyData->Prop):Prop:=match x with
 | .d d=>k d
 | _=>False
theorem zbj{x:XV}{k:Int->Prop}(h:asI x k):∃ i,x=.d (.int i)/\k i:=by
 unfold asI at h;split at h
 ·exact⟨_,rfl,h⟩
 ·exact h.elim
theorem ziy{x:XV}{k:Bool->Prop}(h:asB x k):∃ i,x=.d (.bool i)/\k i:=by
 unfold asB at h;split at h
 ·exact⟨_,rfl,h⟩
 ·exact h.elim
theorem zpq{x:XV}{k:Str->Prop}(h:asS x k):∃ i,x=.d (.str i)/\k i:=by
 unfold asS at h;split at h
 ·exact⟨_,rfl,h⟩
 ·exact h.elim
theorem zfL{x:XV}{k:List PyData->Prop}(h:asT x k):∃ i,x=.d (.tuple i)/\k i:=by
 unfold asT at h;split at h
 ·exact⟨_,rfl,h⟩
 ·exact h.elim
theorem zgR{x:XV}{k:PyData->Prop}(h:asD x k):∃ i,x=.d i/\k i:=by
 unfold asD at h;split at h
 ·exact⟨_,rfl,h⟩
 ·exact h.elim
section
variable {h o:List Addr} {H:Hp} {S:Sto} {x:XV} {v:V} {i:Int} {b:Bool} {z:Str} {ds:List PyData} {d:PyData}
theorem zaT(q:HasX h o H (.d (.int i)) v):v=.int i:=(zb8 (H:=vx h o H)).mp q
theorem zdh(q:HasX h o H (.d (.bool b)) v):v=.bl b:=(zds (H:=vx h o H)).mp q
theorem zee(q:HasX h o H (.d (.str z)) v):v=.str z:=(zdR (H:=vx h o H)).mp q
theorem zdj(q:HasX h o H (.d (.tuple ds)) v):∃ a vs,v=.ref a/\H a=some (.tup vs)/\HasL (vx h o H) ds vs:=by
 obtain⟨a,vs,e,q,l⟩:=zaw.mp (show Has _ _ _ from q);exact⟨a,vs,e,zal _ _ q,l⟩
theorem zbb(r:RepS h o H S)(e:ziG S x=some ds)(q:HasX h o H x v):∃ a vs,v=.ref a/\H a=some (.lst vs)/\HasL (vx h o H) ds vs:=by
 unfold ziG at e;split at e
 ·cases e;obtain⟨a,vs,e,q,l⟩:=za8.mp (show Has _ _ _ from q);exact⟨a,vs,e,zal _ _ q,l⟩
 ·obtain⟨a,e1,rfl⟩:=q;obtain⟨vs,e2,l⟩:=r.cont _ a ds e1 e;exact⟨a,vs,rfl,e2,l⟩
 ·cases e
theorem zde(r:RepS h o H S)(e:zgs S x=some d)(q:HasX h o H x v):Has H d v:=by
 unfold zgs at e;split at e
 ·cases e;exact Has.mono zal _ _ q
 ·rename_i k;obtain⟨a,e1,rfl⟩:=q;cases hs:S[k]? with
  | none=>rw [hs] at e; cases e
  | some es =>
   rw [hs] at e;cases e;obtain⟨vs,e2,l⟩:=r.cont k a es e1 hs;exact za8.mpr ⟨a,vs,rfl,e2,HasL.mono zal _ _ l⟩
 ·cases e
 ·cases e
theorem xI(i:Int):HasX h o H (.d (.int i)) (.int i):=(zb8 (H:=vx h o H)).mpr rfl
theorem xB(i:Bool):HasX h o H (.d (.bool i)) (.bl i):=(zds (H:=vx h o H)).mpr rfl
theorem xS(i:Str):HasX h o H (.d (.str i)) (.str i):=(zdR (H:=vx h o H)).mpr rfl
theorem xN:HasX h o H (.d .none) .non:=(zdZ (H:=vx h o H)).mpr rfl
theorem zjq{vs:List V}{R:RX}{Q:VK}(r:RepS h o H S)(l:HasL (vx h o H) ds vs)(c:Cn h o H R Q)(q:R (.d (.tuple ds)) S):∀ p,H p=none->Q (.ref p) (upd H p (.tup vs)):=fun p hp =>
 c o _ S (.d (.tuple ds)) _ (Ex.of_same (Same.laid hp)) (r.same (Same.laid hp)) (zaw.mpr ⟨p,vs,rfl,r.laid hp,l.mono (zc8 (Same.laid hp))⟩) q
theorem zlv{vs:List V}{R:RX}{Q:VK}(r:RepS h o H S)(l:HasL (vx h o H) ds vs)(c:Cn h o H R Q)(q:R (.d (.list ds)) S):∀ p,H p=none->Q (.ref p) (upd H p (.lst vs)):=fun p hp =>
 c o _ S (.d (.list ds)) _ (Ex.of_same (Same.laid hp)) (r.same (Same.laid hp)) (za8.mpr ⟨p,vs,rfl,r.laid hp,l.mono (zc8 (Same.laid hp))⟩) q
theorem zq8{vs:List V}{R:RX}{Q:VK}(r:RepS h o H S)(l:HasL (vx h o H) ds vs)(c:Cn h o H R Q)(q:R (.l S.length) (S++[ds])):∀ p,H p=none->Q (.ref p) (upd H p (.lst vs)):=fun p hp =>
 c (o++[p]) _ (S++[ds]) (.l S.length) _ (Ex.new r hp) (r.new hp l) ⟨p,by rw [r.len,getElem?_concat_length],rfl⟩ q
theorem zd0:∀ {xs:List XV} {vs:List V} {ds:List PyData},HasXs h o H xs vs->xs=ds.map XV.d->HasL (vx h o H) ds vs
 | [],vs,[],q,_=>zC.mpr q
 | x :: xs,vs,d :: ds,⟨v,r,e,q,l⟩,e2=>by
  rw [map_cons] at e2;cases e2;exact zr.mpr ⟨v,r,e,q,zd0 l rfl⟩
 | x :: xs,vs,[],_,e2=>by cases e2
 | [],vs,d :: ds,_,e2=>by cases e2
end
def datas:List XV->Option (List PyData)
 | []=>some []
 | .d d :: r=>(datas r).map (d :: ·)
 | _ :: _=>none
theorem zbL:∀ {xs:List XV} {ds:List PyData},datas xs=some ds->xs=ds.map XV.d
 | [],ds,e=>by cases e; rfl
 | .d d :: r,ds,e=>by
  unfold datas at e;cases hr:datas r with
  | none=>rw [hr] at e; cases e
  | some es =>
   rw [hr] at e;cases e;rw [zbL hr];rfl
 | .l _ :: _,_,e=>by cases e
 | .o _ :: _,_,e=>by cases e
 | .x _ _ :: _,_,e=>by cases e
def zj(i:Nat):DE:=fun δ S R=>∃ x,δ[i]? = some (some x)/\R x S
def dC(d:PyData):DE:=fun _ S R=>R (.d d) S
def dO(v:V):DE:=fun _ S R=>R (.o v) S
def dOp(rd:D2)(a b:DE):DE:=fun δ S R=>a δ S fun x S1=>b δ S1 fun y S2=>rd x y S2 R
def dUn(rd:XV->Sto->RX->Prop)(a:DE):DE:=fun δ S R=>a δ S fun x S1=>rd x S1 R
def zn:DA:=fun _ S R=>R [] S
def zb(a:DE)(b:DA):DA:=fun δ S R=>a δ S fun x S1=>b δ S1 fun xs S2=>R (x :: xs) S2
def dCB(rd:List XV->Sto->RX->Prop)(a:DA):DE:=fun δ S R=>a δ S fun xs S1=>rd xs S1 R
def zaN(a:DA):DE:=fun δ S R=>a δ S fun xs S1=>∃ ds,datas xs=some ds/\ds.length<=1000/\R (.d (.tuple ds)) S1
def zcy(a:DA):DE:=fun δ S R=>a δ S fun xs S1=>∃ ds,datas xs=some ds/\ds.length<=1000/\R (.d (.list ds)) S1
def zcE(a:DA):DE:=fun δ S R=>a δ S fun xs S1=>∃ ds,datas xs=some ds/\ds.length<=1000/\R (.l S1.length) (S1++[ds])
section
variable {t ta tb tc:TE} {da db dc:DE} {tl:TA} {dl:DA} {tt tu:TT} {dt du:DT}
theorem zk{i:Nat}:RE (zj1 i) (zj i):=fun h o H δ σ S R Q he hs ⟨x,e,q⟩ c=>by
 obtain⟨v,e1,e2⟩:=he.get i x e;exact⟨v,e1,c o H S x v Ex.refl hs e2 q⟩
theorem zy{i:Int}:RE (tC (.int i)) (dC (.int i)):=fun h o H δ σ S R Q he hs q c=>c o H S _ _ Ex.refl hs (xI i) q
theorem zld{i:Bool}:RE (tC (.bl i)) (dC (.bool i)):=fun h o H δ σ S R Q he hs q c=>c o H S _ _ Ex.refl hs (xB i) q
theorem zc2{i:Str}:RE (tC (.str i)) (dC (.str i)):=fun h o H δ σ S R Q he hs q c=>c o H S _ _ Ex.refl hs (xS i) q
theorem zmF:RE (tC .non) (dC .none):=fun h o H δ σ S R Q he hs q c=>c o H S _ _ Ex.refl hs xN q
theorem zuX{v:V}:RE (tC v) (dO v):=fun h o H δ σ S R Q he hs q c=>c o H S (.o v) v Ex.refl hs rfl q
theorem zaf{r:R2}{rd:D2}(hr:RO r rd)(ha:RE ta da)(hb:RE tb db):RE (tOp r ta tb) (dOp rd da db):=fun h o H δ σ S R Q he hs q c =>
 ha h o H δ σ S _ _ he hs q fun o1 H1 S1 x v e1 s1 x1 d1=>hb h o1 H1 δ σ S1 _ _ (he.mono e1) s1 d1 fun o2 H2 S2 y u e2 s2 y2 d2 =>
  hr h o2 H2 S2 x y v u R Q s2 (x1.mono e2) y2 d2 (c.pre (e1.trans e2))
theorem ztG{r:V->Hp->VK->Prop}{rd:XV->Sto->RX->Prop}(hr:RU r rd)(ha:RE ta da):RE (tUn r ta) (dUn rd da):=fun h o H δ σ S R Q he hs q c =>
 ha h o H δ σ S _ _ he hs q fun o1 H1 S1 x v e1 s1 x1 d1=>hr h o1 H1 S1 x v R Q s1 x1 d1 (c.pre e1)
theorem zo:RA zqf zn:=fun h o H δ σ S R Q he hs q c=>c o H S [] [] Ex.refl hs rfl q
theorem zd(ha:RE ta da)(hb:RA tl dl):RA (ze7 ta tl) (zb da dl):=fun h o H δ σ S R Q he hs q c =>
 ha h o H δ σ S _ _ he hs q fun o1 H1 S1 x v e1 s1 x1 d1=>hb h o1 H1 δ σ S1 _ _ (he.mono e1) s1 d1 fun o2 H2 S2 xs vs e2 s2 x2 d2 =>
  c o2 H2 S2 (x :: xs) (v :: vs) (e1.trans e2) s2 ⟨v,vs,rfl,x1.mono e2,x2⟩ d2
theorem zbH{r:List V->Hp->VK->Prop}{rd:List XV->Sto->RX->Prop}(hr:RC r rd)(ha:RA tl dl):RE (tCB r tl) (dCB rd dl):=fun h o H δ σ S R Q he hs q c =>
 ha h o H δ σ S _ _ he hs q fun o1 H1 S1 xs vs e1 s1 x1 d1=>hr h o1 H1 S1 xs vs R Q s1 x1 d1 (c.pre e1)
theorem zM(ha:RA tl dl):RE (ztO tl) (zaN dl):=fun h o H δ σ S R Q he hs q c =>
 ha h o H δ σ S _ _ he hs q fun o1 H1 S1 xs vs e1 s1 x1 ⟨ds,e,hl,d1⟩=>by
  have l:=zd0 x1 (zbL e);exact⟨by rw [l.length]; exact le_of_lt (small1000 hl),zjq s1 l (c.pre e1) d1⟩
theorem zik(ha:RA tl dl):RE (zrv tl) (zcy dl):=fun h o H δ σ S R Q he hs q c =>
 ha h o H δ σ S _ _ he hs q fun o1 H1 S1 xs vs e1 s1 x1 ⟨ds,e,hl,d1⟩=>by
  have l:=zd0 x1 (zbL e);exact⟨by rw [l.length]; exact le_of_lt (small1000 hl),zlv s1 l (c.pre e1) d1⟩
theorem zqQ(ha:RA tl dl):RE (zrv tl) (zcE dl):=fun h o H δ σ S R Q he hs q c =>
 ha h o H δ σ S _ _ he hs q fun o1 H1 S1 xs vs e1 s1 x1 ⟨ds,e,hl,d1⟩=>by
  have l:=zd0 x1 (zbL e);exact⟨by rw [l.length]; exact le_of_lt (small1000 hl),zq8 s1 l (c.pre e1) d1⟩
def dB(a:DE):DT:=fun δ S R=>a δ S fun x S1=>asB x fun b=>R b S1
def zjr(a:DT):DT:=fun δ S R=>a δ S fun b S1=>R (!b) S1
def zrm(a b:DT):DT:=fun δ S R=>a δ S fun x S1=>if x=true then b δ S1 R else R false S1
def dOr(a b:DT):DT:=fun δ S R=>a δ S fun x S1=>if x=true then R true S1 else b δ S1 R
def zoi(a b:DE):DE:=fun δ S R=>a δ S fun x S1=>asB x fun c=>if c=true then b δ S1 R else R (.d (.bool false)) S1
def ztA(a b:DE):DE:=fun δ S R=>a δ S fun x S1=>asB x fun c=>if c=true then R (.d (.bool true)) S1 else b δ S1 R
def znL(a:DE):DE:=fun δ S R=>a δ S fun x S1=>asB x fun c=>R (.d (.bool (!c))) S1
def dIf(c:DT)(a b:DE):DE:=fun δ S R=>c δ S fun x S1=>if x=true then a δ S1 R else b δ S1 R
theorem zqA(ha:RE ta da):RT (zqp ta) (dB da):=fun h o H δ σ S R Q he hs q c =>
 ha h o H δ σ S _ _ he hs q fun o1 H1 S1 x v e1 s1 x1 d1=>by
  replace d1:=ziy d1;obtain⟨b,rfl,d1⟩:=d1;exact⟨b,zdh x1,c o1 H1 S1 b e1 s1 d1⟩
theorem zdc(ha:RT tt dt):RT (zuf tt) (zjr dt):=fun h o H δ σ S R Q he hs q c =>
 ha h o H δ σ S _ _ he hs q fun o1 H1 S1 b e1 s1 d1=>c o1 H1 S1 _ e1 s1 d1
theorem zsN(ha:RT tt dt)(hb:RT tu du):RT (zuE tt tu) (zrm dt du):=fun h o H δ σ S R Q he hs q c =>
 ha h o H δ σ S _ _ he hs q fun o1 H1 S1 b e1 s1 d1=>by
  cases b with
  | true=>exact zl8 (hb h o1 H1 δ σ S1 R Q (he.mono e1) s1 (by simpa using d1) fun o2 H2 S2 b e2=>c o2 H2 S2 b (e1.trans e2))
  | false=>exact zlz (c o1 H1 S1 false e1 s1 (by simpa using d1))
theorem zhU(ha:RT tt dt)(hb:RT tu du):RT (tOr tt tu) (dOr dt du):=fun h o H δ σ S R Q he hs q c =>
 ha h o H δ σ S _ _ he hs q fun o1 H1 S1 b e1 s1 d1=>by
  cases b with
  | false=>exact zlz (hb h o1 H1 δ σ S1 R Q (he.mono e1) s1 (by simpa using d1) fun o2 H2 S2 b e2=>c o2 H2 S2 b (e1.trans e2))
  | true=>exact zl8 (c o1 H1 S1 true e1 s1 (by simpa using d1))
theorem ztg(ha:RE ta da)(hb:RE tb db):RE (zsH ta tb) (zoi da db):=fun h o H δ σ S R Q he hs q c =>
 ha h o H δ σ S _ _ he hs q fun o1 H1 S1 x v e1 s1 x1 d1=>by
  replace d1:=ziy d1;obtain⟨b,rfl,d1⟩:=d1;refine⟨b,zdh x1,?_⟩;cases b with
  | true=>exact zl8 (hb h o1 H1 δ σ S1 R Q (he.mono e1) s1 (by simpa using d1) (c.pre e1))
  | false=>exact zlz (c o1 H1 S1 _ _ e1 s1 (xB false) (by simpa using d1))
theorem zsx(ha:RE ta da)(hb:RE tb db):RE (zuc ta tb) (ztA da db):=fun h o H δ σ S R Q he hs q c =>
 ha h o H δ σ S _ _ he hs q fun o1 H1 S1 x v e1 s1 x1 d1=>by
  replace d1:=ziy d1;obtain⟨b,rfl,d1⟩:=d1;refine⟨b,zdh x1,?_⟩;cases b with
  | false=>exact zlz (hb h o1 H1 δ σ S1 R Q (he.mono e1) s1 (by simpa using d1) (c.pre e1))
  | true=>exact zl8 (c o1 H1 S1 _ _ e1 s1 (xB true) (by simpa using d1))
theorem zsf(ha:RE ta da):RE (zrA ta) (znL da):=fun h o H δ σ S R Q he hs q c =>
 ha h o H δ σ S _ _ he hs q fun o1 H1 S1 x v e1 s1 x1 d1=>by
  replace d1:=ziy d1;obtain⟨b,rfl,d1⟩:=d1;exact⟨b,zdh x1,c o1 H1 S1 _ _ e1 s1 (xB _) d1⟩
theorem ztN(hc:RT tt dt)(ha:RE ta da)(hb:RE tb db):RE (tIf tt ta tb) (dIf dt da db):=fun h o H δ σ S R Q he hs q c =>
 hc h o H δ σ S _ _ he hs q fun o1 H1 S1 b e1 s1 d1=>by
  cases b with
  | true=>exact zl8 (ha h o1 H1 δ σ S1 R Q (he.mono e1) s1 (by simpa using d1) (c.pre e1))
  | false=>exact zlz (hb h o1 H1 δ σ S1 R Q (he.mono e1) s1 (by simpa using d1) (c.pre e1))
def zhM(rd rd':D2)(a b e:DE):DE:=fun δ S R=>a δ S fun x S1=>b δ S1 fun y S2=>rd x y S2 fun z S3=>asB z fun k=>if k=true then e δ S3 fun u S4=>rd' y u S4 R else R (.d (.bool false)) S3
theorem zjP{r r':R2}{rd rd':D2}(hr:RO r rd)(hr':RO r' rd')(ha:RE ta da)(hb:RE tb db)(hc:RE tc dc):RE (zpT r r' ta tb tc) (zhM rd rd' da db dc):=fun h o H δ σ S R Q he hs q c =>
 ha h o H δ σ S _ _ he hs q fun o1 H1 S1 x v e1 s1 x1 d1=>hb h o1 H1 δ σ S1 _ _ (he.mono e1) s1 d1 fun o2 H2 S2 y u e2 s2 y2 d2 =>
  hr h o2 H2 S2 x y v u _ _ s2 (x1.mono e2) y2 d2 fun o3 H3 S3 z w e3 s3 z3 d3=>by
   replace d3:=ziy d3;obtain⟨b,rfl,d3⟩:=d3;refine⟨b,zdh z3,?_⟩;cases b with
   | false=>exact zlz (c o3 H3 S3 _ _ ((e1.trans e2).trans e3) s3 (xB false) (by simpa using d3))
   | true=>exact zl8 (hc h o3 H3 δ σ S3 _ _ (((he.mono e1).mono e2).mono e3) s3 (by simpa using d3) fun o4 H4 S4 k w' e4 s4 k4 d4=>hr' h o4 H4 S4 y k u w' R Q s4 ((y2.mono e3).mono e4) k4 d4 (c.pre (((e1.trans e2).trans e3).trans e4)))
end
def dI(C:Int->Int->Prop)(g:Int->Int->Int):D2:=fun x y S R=>asI x fun i=>asI y fun j=>C i j/\R (.d (.int (g i j))) S
def dI0(g:Int->Int->Int):D2:=fun x y S R=>asI x fun i=>asI y fun j=>R (.d (.int (g i j))) S
def dIb(g:Int->Int->Bool):D2:=fun x y S R=>asI x fun i=>asI y fun j=>R (.d (.bool (g i j))) S
def dUI(g:Int->Int):XV->Sto->RX->Prop:=fun x S R=>asI x fun i=>R (.d (.int (g i))) S
def zkl:D2:=fun x y S R=>∃ d,zgs S x=some d/\∃ e,zgs S y=some e/\SeqAt.shaped d=true/\SeqAt.shaped e=true/\R (.d (.bool (PyData.eqv d e))) S
def znF:D2:=fun x y S R=>∃ d,zgs S x=some d/\∃ e,zgs S y=some e/\SeqAt.shaped d=true/\SeqAt.shaped e=true/\R (.d (.bool (!PyData.eqv d e))) S
def zrs:D2:=fun x _ S R=>asD x fun d=>R (.d (.bool (zm2 d))) S
def zli:D2:=fun x _ S R=>asD x fun d=>R (.d (.bool (!zm2 d))) S
def zuV:D2:=fun x y S R=>asT x fun ds=>asI y fun i=>∃ d,atI ds i=some d/\R (.d d) S
def zuO:D2:=fun x y S R=>asL S x fun ds=>asI y fun i=>∃ d,atI ds i=some d/\R (.d d) S
def zuW:D2:=fun x y S R=>asL S x fun ds=>asL S y fun es=>ds.length+es.length<=1000/\R (.d (.list (ds++es))) S
def ztP:D2:=fun x y S R=>asT x fun ds=>asT y fun es=>ds≠[]/\ds.length+es.length<=1000/\R (.d (.tuple (ds++es))) S
section
theorem zqN{C:Int->Int->Prop}{g:Int->Int->Int}:RO (rI C fun i j=>.int (g i j)) (dI C g):=fun h o H S x y v u R Q hs hx hy q c=>by
 replace q:=zbj q;obtain⟨i,rfl,q⟩:=q;replace q:=zbj q;obtain⟨j,rfl,hc,q⟩:=q;exact⟨i,j,zaT hx,zaT hy,hc,c o H S _ _ Ex.refl hs (xI _) q⟩
theorem zrg{g:Int->Int->Int}:RO (rI0 fun i j=>.int (g i j)) (dI0 g):=fun h o H S x y v u R Q hs hx hy q c=>by
 replace q:=zbj q;obtain⟨i,rfl,q⟩:=q;replace q:=zbj q;obtain⟨j,rfl,q⟩:=q;exact⟨i,j,zaT hx,zaT hy,c o H S _ _ Ex.refl hs (xI _) q⟩
theorem znY{g:Int->Int->Bool}:RO (rI0 fun i j=>.bl (g i j)) (dIb g):=fun h o H S x y v u R Q hs hx hy q c=>by
 replace q:=zbj q;obtain⟨i,rfl,q⟩:=q;replace q:=zbj q;obtain⟨j,rfl,q⟩:=q;exact⟨i,j,zaT hx,zaT hy,c o H S _ _ Ex.refl hs (xB _) q⟩
theorem zuY{g:Int->Int}:RU (rU fun i=>.int (g i)) (dUI g):=fun h o H S x v R Q hs hx q c=>by
 replace q:=zbj q;obtain⟨i,rfl,q⟩:=q;exact⟨i,zaT hx,c o H S _ _ Ex.refl hs (xI _) q⟩
theorem zpe:RO zuG zkl:=fun h o H S x y v u R Q hs hx hy q c=>by
 obtain⟨d,q1,e,q2,q3,q4,q⟩:=q;exact⟨d,e,zde hs q1 hx,zde hs q2 hy,q3,q4,c o H S _ _ Ex.refl hs (xB _) q⟩
theorem zjV:RO zuD znF:=fun h o H S x y v u R Q hs hx hy q c=>by
 obtain⟨d,q1,e,q2,q3,q4,q⟩:=q;exact⟨d,e,zde hs q1 hx,zde hs q2 hy,q3,q4,c o H S _ _ Ex.refl hs (xB _) q⟩
theorem zoY{ta:TE}{da:DE}(ha:RE ta da):RE (tOp zuk ta (tC .non)) (dOp zrs da (dC .none)):=fun h o H δ σ S R Q he hs q c =>
 ha h o H δ σ S _ _ he hs q fun o1 H1 S1 x v e1 s1 x1 d1=>by
  replace d1:=zgR d1;obtain⟨d,rfl,d1⟩:=d1;have e:=zhS (show Has _ d v from x1);exact⟨rfl,by rw [e]; exact c o1 H1 S1 _ _ e1 s1 (xB _) d1⟩
theorem zq0{ta:TE}{da:DE}(ha:RE ta da):RE (tOp zr0 ta (tC .non)) (dOp zli da (dC .none)):=fun h o H δ σ S R Q he hs q c =>
 ha h o H δ σ S _ _ he hs q fun o1 H1 S1 x v e1 s1 x1 d1=>by
  replace d1:=zgR d1;obtain⟨d,rfl,d1⟩:=d1;have e:=zhS (show Has _ d v from x1);exact⟨rfl,by rw [e]; exact c o1 H1 S1 _ _ e1 s1 (xB _) d1⟩
theorem HasL.atI{H:Hp}{ds:List PyData}{vs:List V}{i:Int}{d:PyData}(l:HasL H ds vs)(e:L2.atI ds i=some d):∃ v,L2.atI vs i=some v/\Has H d v:=by
 unfold L2.atI at e ⊢;rw [l.length];cases hn:ixN ds.length i with
 | none=>rw [hn] at e; cases e
 | some j =>
  rw [hn] at e;exact l.get (show ds[j]? = some d from e)
theorem zsD{K:W.Frag}:RO (ztR K) zuV:=fun h o H S x y v u R Q hs hx hy q c=>by
 replace q:=zfL q;obtain⟨ds,rfl,q⟩:=q;replace q:=zbj q;obtain⟨i,rfl,d,e,q⟩:=q;obtain⟨a,vs,rfl,ea,l⟩:=zdj hx;obtain⟨w,ew,hw⟩:=l.atI e;exact⟨a,vs,i,w,rfl,zaT hy,.of ea,ew,c o H S (.d d) w Ex.refl hs hw q⟩
theorem zoW{K:W.Frag}:RO (ztL K) zuO:=fun h o H S x y v u R Q hs hx hy q c=>by
 obtain⟨ds,e0,q⟩:=q;replace q:=zbj q;obtain⟨i,rfl,d,e,q⟩:=q;obtain⟨a,vs,rfl,ea,l⟩:=zbb hs e0 hx;obtain⟨w,ew,hw⟩:=l.atI e;exact⟨a,vs,i,w,rfl,zaT hy,.of ea,ew,c o H S (.d d) w Ex.refl hs hw q⟩
theorem zsV:RO zrq zuW:=fun h o H S x y v u R Q hs hx hy q c=>by
 obtain⟨ds,e0,es,e1,hl,q⟩:=q;obtain⟨a,vs,rfl,ea,la⟩:=zbb hs e0 hx;obtain⟨b,us,rfl,eb,lb⟩:=zbb hs e1 hy;exact⟨a,b,vs,us,rfl,rfl,ea,eb,by rw [la.length,lb.length]; exact le_of_lt (small1000 hl),zlv hs (la.append lb) c q⟩
theorem zqu{K:W.Frag}:RO (zqd K) ztP:=fun h o H S x y v u R Q hs hx hy q c=>by
 replace q:=zfL q;obtain⟨ds,rfl,q⟩:=q;replace q:=zfL q;obtain⟨es,rfl,hn,hl,q⟩:=q;obtain⟨a,vs,rfl,ea,la⟩:=zdj hx;obtain⟨b,us,rfl,eb,lb⟩:=zdj hy;refine⟨a,b,vs,us,rfl,rfl,.of ea,.of eb,fun z=>?_,by rw [la.length,lb.length]; exact le_of_lt (small1000 hl),fun z=>?_,fun _=>zjq hs (la.append lb) c q⟩
 ·subst z;have:=la.length;exact hn (eq_nil_of_length_eq_zero this.symm)
 ·subst z;have e:es=[]:=eq_nil_of_length_eq_zero lb.length.symm;subst e;rw [append_nil] at q;exact c o H S (.d (.tuple ds)) _ Ex.refl hs hx q
end
abbrev DO:=XE->Sto->(Option Int->Sto->Prop)->Prop
def RP(t:TO)(dt:DO):Prop:=∀ (h o:List Addr) (H:Hp) (δ:XE) (σ:St) (S:Sto) (R:Option Int->Sto->Prop) (Q:Option Int->Hp->Prop),RepE h o H δ σ->RepS h o H S->dt δ S R ->
 (∀ o' H' S' b,Ex o H o' H'->RepS h o' H' S'->R b S'->Q b H')->t σ H Q
def zce:DO:=fun _ S R=>R none S
def zfw(a:DE):DO:=fun δ S R=>a δ S fun x S1=>asI x fun i=>R (some i) S1
theorem zfD:RP zlI zce:=fun h o H δ σ S R Q he hs q c=>c o H S none Ex.refl hs q
theorem zfJ{t:TE}{da:DE}(ha:RE t da):RP (zkV t) (zfw da):=fun h o H δ σ S R Q he hs q c =>
 ha h o H δ σ S _ _ he hs q fun o1 H1 S1 x v e1 s1 x1 d1=>by
  replace d1:=zbj d1;obtain⟨i,rfl,d1⟩:=d1;exact⟨i,zaT x1,c o1 H1 S1 _ e1 s1 d1⟩
abbrev D3:=XV->Option Int->Option Int->Sto->RX->Prop
def RL(r:V->Option Int->Option Int->Hp->VK->Prop)(rd:D3):Prop:=∀ (h o:List Addr) (H:Hp) (S:Sto) (x:XV) (v:V) (a b:Option Int) (R:RX) (Q:VK),RepS h o H S->HasX h o H x v->rd x a b S R->Cn h o H R Q->r v a b H Q
def dSl(rd:D3)(e:DE)(a b:DO):DE:=fun δ S R=>e δ S fun x S1=>a δ S1 fun i S2=>b δ S2 fun j S3=>rd x i j S3 R
theorem zmd{r:V->Option Int->Option Int->Hp->VK->Prop}{rd:D3}{te:TE}{de:DE}{ta tb:TO}{da db:DO}(hr:RL r rd)(he':RE te de)(ha:RP ta da)(hb:RP tb db):RE (tSl r te ta tb) (dSl rd de da db):=fun h o H δ σ S R Q he hs q c =>
 he' h o H δ σ S _ _ he hs q fun o1 H1 S1 x v e1 s1 x1 d1=>ha h o1 H1 δ σ S1 _ _ (he.mono e1) s1 d1 fun o2 H2 S2 i e2 s2 d2=>hb h o2 H2 δ σ S2 _ _ ((he.mono e1).mono e2) s2 d2 fun o3 H3 S3 j e3 s3 d3 =>
  hr h o3 H3 S3 x v i j R Q s3 ((x1.mono e2).mono e3) d3 (c.pre ((e1.trans e2).trans e3))
def zuK:D3:=fun x i j S R=>asL S x fun ds=>R (.d (.list (zdE ds i j))) S
def zu0:D3:=fun x i j S R=>asT x fun ds=>¬ (HT.sIx ds.length 0 i=0/\HT.sIx ds.length ds.length j=ds.length)/\R (.d (.tuple (zdE ds i j))) S
theorem zl6{K:W.Frag}:RL (zrZ K) zuK:=fun h o H S x v a b R Q hs hx q c=>by
 obtain⟨ds,e0,q⟩:=q;obtain⟨p,vs,rfl,ea,l⟩:=zbb hs e0 hx;exact⟨p,vs,rfl,.of ea,zlv hs (l.cut a b) c q⟩
theorem zsr{K:W.Frag}:RL (ztS K) zu0:=fun h o H S x v a b R Q hs hx q c=>by
 replace q:=zfL q;obtain⟨ds,rfl,hn,q⟩:=q;obtain⟨p,vs,rfl,ea,l⟩:=zdj hx;exact⟨p,vs,rfl,.of ea,by rw [l.length]; exact hn,zjq hs (l.cut a b) c q⟩
def asQ(S:Sto):XV->Option (List PyData)
 | .d (.tuple ds)=>some ds
 | .d (.list ds)=>some ds
 | .l k=>S[k]?
 | _=>none
theorem zhT{h o:List Addr}{H:Hp}{S:Sto}{x:XV}{v:V}{ds:List PyData}(r:RepS h o H S)(e:asQ S x=some ds)(q:HasX h o H x v):∃ a vs,v=.ref a/\(H a=some (.tup vs)\/H a=some (.lst vs))/\HasL (vx h o H) ds vs:=by
 unfold asQ at e;split at e
 ·cases e;obtain⟨a,vs,e,q,l⟩:=zdj q;exact⟨a,vs,e,.inl q,l⟩
 ·cases e;obtain⟨a,vs,e,q,l⟩:=zbb (x:=.d (.list ds)) (ds:=ds) r rfl q;exact⟨a,vs,e,.inr q,l⟩
 ·rename_i k;obtain⟨a,vs,e,q,l⟩:=zbb (x:=.l k) r e q;exact⟨a,vs,e,.inr q,l⟩
 ·cases e
def arg1:List XV->(XV->Prop)->Prop
 | [x],k=>k x
 | _,_=>False
def arg2:List XV->(XV->XV->Prop)->Prop
 | [x,y],k=>k x y
 | _,_=>False
theorem zaG{xs:List XV}{k:XV->Prop}(h:arg1 xs k):∃ x,xs=[x]/\k x:=by
 unfold arg1 at h;split at h
 ·exact⟨_,rfl,h⟩
 ·exact h.elim
theorem zfz{xs:List XV}{k:XV->XV->Prop}(h:arg2 xs k):∃ x y,xs=[x,y]/\k x y:=by
 unfold arg2 at h;split at h
 ·exact⟨_,_,rfl,h⟩
 ·exact h.elim
theorem hxs1{h o:List Addr}{H:Hp}{x:XV}{vs:List V}(q:HasXs h o H [x] vs):∃ v,vs=[v]/\HasX h o H x v:=by
 obtain⟨v,r,e,hx,hr⟩:=q;cases hr;exact⟨v,e,hx⟩
theorem hxs2{h o:List Addr}{H:Hp}{x y:XV}{vs:List V}(q:HasXs h o H [x,y] vs):∃ v u,vs=[v,u]/\HasX h o H x v/\HasX h o H y u:=by
 obtain⟨v,r,e,hx,q⟩:=q;obtain⟨u,e',hy⟩:=hxs1 q;subst e';exact⟨v,u,e,hx,hy⟩
def ztH:XV->(String->Prop)->Prop
 | .o v,k=>∃ c,v=.ty c/\k c
 | _,_=>False
def ztJ:XV->(Int->Prop)->Prop
 | .d d,k=>match d with
  | .int i=>k i
  | .bool b=>k (if b then 1 else 0)
  | _=>False
 | _,_=>False
theorem zqO{x:XV}{k:String->Prop}(h:ztH x k):∃ c,x=.o (.ty c)/\k c:=by
 cases x with
 | o v =>
  obtain⟨c,rfl,h⟩:=h;exact⟨c,rfl,h⟩
 | d d=>exact h.elim
 | l j=>exact h.elim
 | x _ _=>exact h.elim
theorem zqL{x:XV}{k:Int->Prop}(h:ztJ x k):(∃ i,x=.d (.int i)/\k i)\/∃ b,x=.d (.bool b)/\k (if b then 1 else 0):=by
 cases x with
 | d d =>
  cases d with
  | int i=>exact .inl ⟨i,rfl,h⟩
  | bool b=>exact .inr ⟨b,rfl,h⟩
  | _=>exact h.elim
 | _=>exact h.elim
def zuH:List XV->Sto->RX->Prop:=fun xs S R=>arg1 xs fun x=>∃ ds,asQ S x=some ds/\R (.d (.int ds.length)) S
theorem zmQ{K:W.Frag}:RC (zt5 K) zuH:=fun h o H S xs vs R Q hs hx q c=>by
 obtain⟨x,rfl,ds,hd,q1⟩:=zaG q;obtain⟨v,rfl,hx1⟩:=hxs1 hx;obtain⟨a,ws,rfl,ea,l⟩:=zhT hs hd hx1;refine⟨a,ws,rfl,ea.elim (fun z=>.inr (.of z)) (fun z=>.inl (.of z)),?_⟩;rw [l.length];exact c o H S _ _ Ex.refl hs (xI _) q1
def zrt:List XV->Sto->RX->Prop:=fun xs S R=>arg2 xs fun x y=>ztH y fun cl=>∃ d,zgs S x=some d/\cl∈zoF/\R (.d (.bool (zqR d cl))) S
theorem zsU:RC ztU zrt:=fun h o H S xs vs R Q hs hx q c=>by
 obtain⟨x,y,rfl,q1⟩:=zfz q;obtain⟨cl,rfl,d,hd,hc,q2⟩:=zqO q1;obtain⟨v,u,rfl,hx1,hu⟩:=hxs2 hx;cases hu;exact zqh (zde hs hd hx1) hc (c o H S _ _ Ex.refl hs (xB _) q2)
def zob:List XV->Sto->RX->Prop:=fun xs S R=>arg1 xs fun x=>ztJ x fun i=>R (.d (.int i)) S
theorem zqr:RC (fun xs H Q=>(∃ i,xs=[.int i]/\Q (.int i) H)\/∃ k,xs=[.bl k]/\Q (.int (if k then 1 else 0)) H) zob:=fun h o H S xs vs R Q hs hx q c=>by
 obtain⟨x,rfl,q1⟩:=zaG q;obtain⟨v,rfl,hx1⟩:=hxs1 hx;rcases zqL q1 with ⟨i,rfl,q2⟩ | ⟨b,rfl,q2⟩
 ·exact .inl ⟨_,by rw [zaT hx1],c o H S _ _ Ex.refl hs (xI _) q2⟩
 ·exact .inr ⟨_,by rw [zdh hx1],c o H S _ _ Ex.refl hs (xI _) q2⟩
def dI2(g:Int->Int->Int):List XV->Sto->RX->Prop:=fun xs S R=>arg2 xs fun x y=>asI x fun i=>asI y fun j=>R (.d (.int (g i j))) S
theorem ztV{g:Int->Int->Int}:RC (fun xs H Q=>∃ i j,xs=[.int i,.int j]/\Q (.int (g i j)) H) (dI2 g):=fun h o H S xs vs R Q hs hx q c=>by
 obtain⟨x,y,rfl,q1⟩:=zfz q;obtain⟨v,u,rfl,hx1,hu⟩:=hxs2 hx;obtain⟨i,rfl,q2⟩:=zbj q1;obtain⟨j,rfl,q3⟩:=zbj q2;exact⟨i,j,by rw [zaT hx1,zaT hu],c o H S _ _ Ex.refl hs (xI _) q3⟩
def zbQ:List XV->Sto->RX->Prop:=fun xs S R=>arg1 xs fun x=>∃ ds,asQ S x=some ds/\R (.d (.tuple ds)) S
theorem zdu{K:W.Frag}:RC (fun xs H Q=>∃ p ys,xs=[.ref p]/\((SqL K H p ys/\∀ l,H l=none->Q (.ref l) (upd H l (.tup ys)))\/(SqT K H p ys/\Q (.ref p) H))) zbQ:=fun h o H S xs vs R Q hs hx q c=>by
 obtain⟨x,rfl,ds,hd,q1⟩:=zaG q;obtain⟨v,rfl,hx1⟩:=hxs1 hx;obtain⟨a,ws,rfl,ea,l⟩:=zhT hs hd hx1;refine⟨a,ws,rfl,ea.elim (fun z=>.inr ⟨.of z,?_⟩) (fun z=>.inl ⟨.of z,zjq hs l c q1⟩)⟩;have hh:HasX h o H (.d (.tuple ds)) (.ref a):=by
  unfold asQ at hd;split at hd
  ·cases hd;exact hx1
  ·obtain⟨a',us,e1,e2,_⟩:=zbb (x:=.d (.list _)) hs rfl hx1;cases e1;rw [z] at e2;cases e2
  ·rename_i k;obtain⟨a',us,e1,e2,_⟩:=zbb (x:=.l k) hs hd hx1;cases e1;rw [z] at e2;cases e2
  ·cases hd
 exact c o H S _ _ Ex.refl hs hh q1
def zhl:List XV->Sto->RX->Prop:=fun xs S R=>arg1 xs fun x=>∃ ds,asQ S x=some ds/\R (.l S.length) (S++[ds])
theorem znn{K:W.Frag}:RC (fun xs H Q=>∃ p ys,xs=[.ref p]/\(SqL K H p ys\/SqT K H p ys)/\∀ l,H l=none->Q (.ref l) (upd H l (.lst ys))) zhl:=fun h o H S xs vs R Q hs hx q c=>by
 obtain⟨x,rfl,ds,hd,q1⟩:=zaG q;obtain⟨v,rfl,hx1⟩:=hxs1 hx;obtain⟨a,ws,rfl,ea,l⟩:=zhT hs hd hx1;exact⟨a,ws,rfl,ea.elim (fun z=>.inr (.of z)) (fun z=>.inl (.of z)),zq8 hs l c q1⟩
theorem zb1{H:Hp}:∀ {ns:List Int} {vs:List V},HasL H (ns.map PyData.int) vs->vs=ns.map V.int
 | [],vs,h=>zC.mp h
 | n :: ns,vs,h=>by
  obtain⟨v,r,rfl,h1,h2⟩:=zr.mp h;rw [zb8.mp h1,zb1 h2];rfl
def zur:List XV->Sto->RX->Prop:=fun xs S R=>arg1 xs fun x=>∃ ds,asQ S x=some ds/\∃ ns,ds=ns.map PyData.int/\ns≠[]/\∀ m,m∈ns->(∀ a,a∈ns->m<=a)->R (.d (.int m)) S
def ztZ:List XV->Sto->RX->Prop:=fun xs S R=>arg1 xs fun x=>∃ ds,asQ S x=some ds/\∃ ns,ds=ns.map PyData.int/\ns≠[]/\∀ m,m∈ns->(∀ a,a∈ns->a<=m)->R (.d (.int m)) S
theorem zst{K:W.Frag}:RC (zub K) zur:=fun h o H S xs vs R Q hs hx q c=>by
 obtain⟨x,rfl,ds,hd,ns,rfl,hn,q1⟩:=zaG q;obtain⟨v,rfl,hx1⟩:=hxs1 hx;obtain⟨a,ws,rfl,ea,l⟩:=zhT hs hd hx1;rw [zb1 l] at ea;exact⟨a,ns,rfl,ea.elim (fun z=>.inr (.of z)) (fun z=>.inl (.of z)),hn,fun m m1 m2=>c o H S _ _ Ex.refl hs (xI _) (q1 m m1 m2)⟩
theorem zto{K:W.Frag}:RC (zug K) ztZ:=fun h o H S xs vs R Q hs hx q c=>by
 obtain⟨x,rfl,ds,hd,ns,rfl,hn,q1⟩:=zaG q;obtain⟨v,rfl,hx1⟩:=hxs1 hx;obtain⟨a,ws,rfl,ea,l⟩:=zhT hs hd hx1;rw [zb1 l] at ea;exact⟨a,ns,rfl,ea.elim (fun z=>.inr (.of z)) (fun z=>.inl (.of z)),hn,fun m m1 m2=>c o H S _ _ Ex.refl hs (xI _) (q1 m m1 m2)⟩
def dBM(rd:XV->List XV->Sto->RX->Prop)(e:DE)(a:DA):DE:=fun δ S R=>e δ S fun x S1=>∃ k,x=.l k/\k<S1.length/\a δ S1 fun xs S2=>rd x xs S2 R
def zry(rd:XV->List XV->Sto->RX->Prop)(e:DE):DE:=fun δ S R=>e δ S fun x S1=>∃ k,x=.l k/\k<S1.length/\rd x [] S1 R
def RM(r:V->List V->Hp->VK->Prop)(rd:XV->List XV->Sto->RX->Prop):Prop:=∀ (h o:List Addr) (H:Hp) (S:Sto) (x:XV) (v:V) (xs:List XV) (vs:List V) (R:RX) (Q:VK),RepS h o H S->HasX h o H x v->HasXs h o H xs vs->rd x xs S R->Cn h o H R Q->r v vs H Q
theorem zhc{K:W.Frag}{H:Hp}{a:Addr}{vs:List V}(e:H a=some (.lst vs)):tyV K "list" (.ref a) H:=.inl ⟨rfl,vs,.of e⟩
theorem zoV{h o:List Addr}{H:Hp}{S:Sto}{k:Nat}{v:V}(hs:RepS h o H S)(hk:k<S.length)(hx:HasX h o H (.l k) v):∃ a vs,v=.ref a/\H a=some (.lst vs):=by
 obtain⟨a,e,rfl⟩:=hx;obtain⟨vs,e2,_⟩:=hs.cont k a _ e (getElem?_eq_getElem hk);exact⟨a,vs,rfl,e2⟩
theorem zn2{K:W.Frag}{r:V->List V->Hp->VK->Prop}{rd:XV->List XV->Sto->RX->Prop}{te:TE}{de:DE}{tl:TA}{dl:DA}(hr:RM r rd)(he':RE te de)(ha:RA tl dl):RE (tBM K "list" r te tl) (dBM rd de dl):=fun h o H δ σ S R Q he hs q c =>
 he' h o H δ σ S _ _ he hs q fun o1 H1 S1 x v e1 s1 x1 ⟨k,ek,hk,d1⟩=>by
  subst ek;obtain⟨a,ws,rfl,ea⟩:=zoV s1 hk x1;exact⟨zhc ea,ha h o1 H1 δ σ S1 _ _ (he.mono e1) s1 d1 fun o2 H2 S2 xs vs e2 s2 x2 d2=>hr h o2 H2 S2 (.l k) _ xs vs R Q s2 (x1.mono e2) x2 d2 (c.pre (e1.trans e2))⟩
theorem zta{K:W.Frag}{r:V->List V->Hp->VK->Prop}{rd:XV->List XV->Sto->RX->Prop}{te:TE}{de:DE}(hr:RM r rd)(he':RE te de):RE (zut K "list" r te) (zry rd de):=fun h o H δ σ S R Q he hs q c =>
 he' h o H δ σ S _ _ he hs q fun o1 H1 S1 x v e1 s1 x1 ⟨k,ek,hk,d1⟩=>by
  subst ek;obtain⟨a,ws,rfl,ea⟩:=zoV s1 hk x1;exact⟨zhc ea,hr h o1 H1 S1 (.l k) _ [] [] R Q s1 x1 rfl d1 (c.pre e1)⟩
def zbF:XV->List XV->Sto->RX->Prop:=fun x xs S R=>∃ k,x=.l k/\∃ ds,S[k]? = some ds/\arg1 xs fun y=>asD y fun d=>ds.length<1000/\R (.d .none) (S.set k (ds++[d]))
theorem zmA:RM zlA zbF:=fun h o H S x v xs vs R Q hs hx hxs q c=>by
 obtain⟨k,rfl,ds,e,q1⟩:=q;obtain⟨y,rfl,q2⟩:=zaG q1;obtain⟨d,rfl,hl,q3⟩:=zgR q2;obtain⟨a,ea,rfl⟩:=hx;obtain⟨u,rfl,hu⟩:=hxs1 hxs;obtain⟨ws,ew,l⟩:=hs.cont k a ds ea e;exact⟨a,ws,u,rfl,rfl,ew,by rw [l.length]; exact small1000 (le_of_lt hl),c o _ _ (.d .none) _ (Ex.upd ea) (hs.upd ea (l.append (zr.mpr ⟨u,[],rfl,hu,zC.mpr rfl⟩))) xN q3⟩
def zff:XV->List XV->Sto->RX->Prop:=fun x xs S R=>∃ k,x=.l k/\∃ ds,S[k]? = some ds/\xs=[]/\R (.d .none) (S.set k ds.reverse)
theorem zkH:RM zjK zff:=fun h o H S x v xs vs R Q hs hx hxs q c=>by
 obtain⟨k,rfl,ds,e,rfl,q1⟩:=q;obtain⟨a,ea,rfl⟩:=hx;obtain⟨ws,ew,l⟩:=hs.cont k a ds ea e;cases hxs;exact⟨a,ws,rfl,rfl,ew,c o _ _ (.d .none) _ (Ex.upd ea) (hs.upd ea l.rev) xN q1⟩
def zeF:XV->List XV->Sto->RX->Prop:=fun x xs S R=>∃ k,x=.l k/\∃ ds,S[k]? = some ds/\arg1 xs fun y=>∃ es,ziG S y=some es/\ds.length+es.length<=1000/\R (.d .none) (S.set k (ds++es))
theorem zfH:RM zmv zeF:=fun h o H S x v xs vs R Q hs hx hxs q c=>by
 obtain⟨k,rfl,ds,e,q1⟩:=q;obtain⟨y,rfl,es,ey,hl,q3⟩:=zaG q1;obtain⟨a,ea,rfl⟩:=hx;obtain⟨u,rfl,hu⟩:=hxs1 hxs;obtain⟨ws,ew,l⟩:=hs.cont k a ds ea e;obtain⟨b,zs,rfl,eb,lb⟩:=zbb hs ey hu;exact⟨a,b,ws,zs,rfl,rfl,ew,eb,by rw [l.length,lb.length]; exact le_of_lt (small1000 hl),c o _ _ (.d .none) _ (Ex.upd ea) (hs.upd ea (l.append lb)) xN q3⟩
def ret0(S:Sto)(R:RX):RX:=fun y S'=>match y,S' with
 | .d d,[]=>R (.d d) S
 | .l 0,[ds]=>R (.l S.length) (S++[ds])
 | _,_=>False
def ztz(k:Nat)(S:Sto)(R:RX):RX:=fun y S'=>match y,S' with
 | .d d,[p]=>R (.d d) (S.set k p)
 | .l 1,[p,ds]=>R (.l S.length) (S.set k p++[ds])
 | _,_=>False
section
variable {h o:List Addr} {H:Hp} {S:Sto} {R:RX} {Q:VK}
theorem zhR{h o h' o':List Addr}{H:Hp}(e:∀ b,(b∈h'\/b∈o')↔(b∈h\/b∈o)):vx h' o' H=vx h o H:=by
 funext b;have iff:∀ u,vx h' o' H b=some u↔vx h o H b=some u:=fun u=>by
  rw [zat,zat];have:=e b;constructor
  ·rintro⟨a1,a2,a3⟩;exact⟨fun m=>(this.mpr (.inl m)).elim a1 a2,fun m=>(this.mpr (.inr m)).elim a1 a2,a3⟩
  ·rintro⟨a1,a2,a3⟩;exact⟨fun m=>(this.mp (.inl m)).elim a1 a2,fun m=>(this.mp (.inr m)).elim a1 a2,a3⟩
 cases e1:vx h' o' H b with
 | some u=>exact((iff u).mp e1).symm
 | none =>
  cases e2:vx h o H b with
  | none=>rfl
  | some u=>rw [(iff u).mpr e2] at e1; cases e1
theorem rep0(hs:RepS h o H S):RepS (h++o) [] H [] where
 len:=rfl
 nd:=nodup_nil
 dis:=fun a ha=>by cases ha
 hal:=fun b hb=>(mem_append.mp hb).elim (hs.hal b) (hs.oam b)
 cont:=fun k a ds e=>by simp at e
theorem hx0{d:PyData}{v:V}(hx:HasX h o H (.d d) v):HasX (h++o) [] H (.d d) v:=by
 show Has (vx (h++o) [] H) d v;rw [zhR (h:=h) (o:=o) fun b=>by simp];exact hx
theorem hx0'{d:PyData}{v:V}(hx:HasX (h++o) [] H (.d d) v):HasX h o H (.d d) v:=by
 show Has (vx h o H) d v;rw [<- zhR (h':=h++o) (o':=[]) (h:=h) (o:=o) fun b=>by simp];exact hx
theorem cn0(hs:RepS h o H S)(c:Cn h o H R Q):Cn (h++o) [] H (ret0 S R) Q:=fun o' H' S' y v e s' hy q=>by
 have sm:Same H (vx [] o' H'):=fun b u eb=>by
  obtain⟨a1,a2⟩:=e.kp b u (by simp) eb;exact zat.mpr ⟨by simp,a1,a2⟩
 have sH:Same H H':=fun b u eb=>(zat.mp (sm b u eb)).2.2;unfold ret0 at q;split at q
 ·have e0:o'=[]:=eq_nil_of_length_eq_zero s'.len.symm;subst e0;exact c o H' S _ v (Ex.of_same sH) (hs.same sH) (hx0' hy) q
 ·rename_i ds;obtain⟨a,rfl⟩:∃ a,o'=[a]:=List.length_eq_one_iff.mp s'.len.symm;obtain⟨a',ea,rfl⟩:=hy;cases ea;obtain⟨vs,ev,l⟩:=s'.cont 0 a ds rfl rfl;have na:a∉h++o:=s'.dis a (by simp);have hn:H a=none:=by
   cases eh:H a with
   | none=>rfl
   | some u=>exact absurd (e.kp a u (by simp) eh).1 (by simp)
  have e2:Ex o H (o++[a]) H':=⟨⟨[a],rfl⟩,fun b u hb eb=>by
   obtain⟨a1,a2⟩:=e.kp b u (by simp) eb;exact⟨by simp only [mem_append,not_or]; exact⟨hb,a1⟩,a2⟩⟩
  have ev':vx (h++o) [a] H'=vx h (o++[a]) H':=zhR fun b=>by simp [or_assoc]
  rw [ev'] at l;refine c (o++[a]) H' (S++[ds]) (.l S.length) _ e2 ⟨by simp [hs.len],zcw hs.nd fun m=>na (mem_append_right _ m),fun b hb=>?_,fun b hb=>?_,fun k b es q1 q2=>?_⟩ ⟨a,by rw [hs.len,getElem?_concat_length],rfl⟩ q
  ·rcases mem_append.mp hb with hb | hb
   ·exact hs.dis b hb
   ·rw [mem_singleton.mp hb]; exact fun m=>na (mem_append_left _ m)
  ·obtain⟨u,eb⟩:=hs.hal b hb;exact⟨u,sH b _ eb⟩
  ·by_cases hk:k<o.length
   ·rw [getElem?_append_left hk] at q1;rw [getElem?_append_left (by rw [hs.len]; exact hk)] at q2;obtain⟨ws,e3,l3⟩:=hs.cont k b es q1 q2;exact⟨ws,sH _ _ e3,l3.mono e2.vx⟩
   ·have hk':k=o.length:=by
     obtain⟨q,_⟩:=List.getElem?_eq_some_iff.mp q1;rw [length_append,length_singleton] at q;omega
    subst hk';rw [getElem?_concat_length] at q1;rw [<- hs.len,getElem?_concat_length] at q2;cases q1;cases q2;exact⟨vs,ev,l⟩
 ·exact q.elim
theorem ztq{k:Nat}{a:Addr}{p:List PyData}(hs:RepS h o H S)(ea:o[k]? = some a)(ep:S[k]? = some p):RepS (h++o.filter (fun b=>b≠a)) [a] H [p] where
 len:=rfl
 nd:=by simp
 dis:=fun b hb=>by
  rw [mem_singleton.mp hb];intro m;rcases mem_append.mp m with m | m
  ·exact hs.dis a (mem_of_getElem? ea) m
  ·have:=(mem_filter.mp m).2;simp at this
 hal:=fun b hb=>(mem_append.mp hb).elim (hs.hal b) fun m=>hs.oam b (mem_filter.mp m).1
 cont:=fun j b ds e1 e2=>by
  cases j with
  | succ j=>simp at e1
  | zero =>
   cases e1;cases e2;obtain⟨vs,e3,l⟩:=hs.cont k a p ea ep;refine⟨vs,e3,?_⟩;rw [zhR (h:=h) (o:=o) (mem_pen ea)];exact l
where
 mem_pen {h o:List Addr} {k:Nat} {a:Addr} (ea:o[k]? = some a) (b:Addr):(b∈h++o.filter (fun b=>b≠a)\/b∈[a])↔(b∈h\/b∈o):=by
  have ma:=mem_of_getElem? ea;by_cases e:b=a
  ·subst e;simp [ma]
  ·simp [e]
theorem hxP{k:Nat}{a:Addr}{d:PyData}{v:V}(ea:o[k]? = some a)(hx:HasX h o H (.d d) v):HasX (h++o.filter (fun b=>b≠a)) [a] H (.d d) v:=by
 show Has (vx _ _ H) d v;rw [zhR (h:=h) (o:=o) (ztq.mem_pen ea)];exact hx
theorem cnP{k:Nat}{a:Addr}{p:List PyData}(hs:RepS h o H S)(ea:o[k]? = some a)(ep:S[k]? = some p)(c:Cn h o H R Q):Cn (h++o.filter (fun b=>b≠a)) [a] H (ztz k S R) Q:=fun o' H' S' y v e s' hy q=>by
 have ma:=mem_of_getElem? ea;have hk:k<o.length:=(List.getElem?_eq_some_iff.mp ea).1;unfold ztz at q;split at q
 ·rename_i d p';obtain⟨r,rfl⟩:=e.pre;have er:r=[]:=by
   have:=s'.len;simp at this;exact this
  subst er;have ex:Ex o H o H':=⟨⟨[],by simp⟩,fun b u hb eb=>⟨hb,(e.kp b u (fun m=>hb (by rw [mem_singleton.mp m]; exact ma)) eb).2⟩⟩;obtain⟨vs,ev,l⟩:=s'.cont 0 a p' rfl rfl;have ev':vx (h++o.filter (fun b=>b≠a)) ([a]++[]) H'=vx h o H':=zhR (ztq.mem_pen ea);rw [ev'] at l;refine c o H' (S.set k p') (.d d) v ex ⟨by simp [hs.len],hs.nd,hs.dis,fun b hb=>?_,fun j b es q1 q2=>?_⟩ (by
   have hy':Has (vx (h++o.filter (fun b=>b≠a)) ([a]++[]) H') d v:=hy;rw [ev'] at hy';exact hy') q
  ·obtain⟨u,eb⟩:=hs.hal b hb;exact⟨u,(e.kp b _ (fun m=>hs.dis a ma (by rw [<- mem_singleton.mp m]; exact hb)) eb).2⟩
  ·by_cases hj:j=k
   ·subst hj;rw [q1] at ea;cases ea;rw [getElem?_set_self (by rw [hs.len]; exact hk)] at q2;cases q2;exact⟨vs,ev,l⟩
   ·rw [getElem?_set_ne (Ne.symm hj)] at q2;obtain⟨ws,e3,l3⟩:=hs.cont j b es q1 q2;have ne:b≠a:=fun z=>hj (zd6 hs.nd q1 (z▸ea));exact⟨ws,(e.kp b _ (by simp [ne]) e3).2,l3.mono ex.vx⟩
 ·rename_i p' ds;obtain⟨r,rfl⟩:=e.pre;obtain⟨a2,rfl⟩:∃ a2,r=[a2]:=by
   have:=s'.len;simp at this;exact List.length_eq_one_iff.mp this
  obtain⟨b2,eb2,rfl⟩:=hy;cases eb2;obtain⟨vs,ev,l⟩:=s'.cont 0 a p' rfl rfl;obtain⟨vs2,ev2,l2⟩:=s'.cont 1 a2 ds rfl rfl;have n2:a2∉h++o.filter (fun b=>b≠a):=s'.dis a2 (by simp);have n3:a≠a2:=by
   have:=s'.nd;simp at this;exact this
  have n4:a2∉o:=fun m=>n2 (mem_append_right _ (mem_filter.mpr ⟨m,by simp [Ne.symm n3]⟩));have ex:Ex o H (o++[a2]) H':=⟨⟨[a2],rfl⟩,fun b u hb eb=>by
   obtain⟨z1,z2⟩:=e.kp b u (fun m=>hb (by rw [mem_singleton.mp m]; exact ma)) eb;refine⟨?_,z2⟩;simp only [mem_append,not_or];exact⟨hb,fun m=>z1 (by simp at m ⊢; exact .inr m)⟩⟩
  have ev':vx (h++o.filter (fun b=>b≠a)) ([a]++[a2]) H'=vx h (o++[a2]) H':=zhR fun b=>by
   have:=ztq.mem_pen (h:=h) ea b;simp only [mem_append] at this ⊢;rw [<- or_assoc,this,or_assoc]
  rw [ev'] at l l2;refine c (o++[a2]) H' (S.set k p'++[ds]) (.l S.length) _ ex ⟨by simp [hs.len],zcw hs.nd n4,fun b hb=>?_,fun b hb=>?_,fun j b es q1 q2=>?_⟩ ⟨a2,by rw [hs.len,getElem?_concat_length],rfl⟩ q
  ·rcases mem_append.mp hb with hb | hb
   ·exact hs.dis b hb
   ·rw [mem_singleton.mp hb]; exact fun m=>n2 (mem_append_left _ m)
  ·obtain⟨u,eb⟩:=hs.hal b hb;exact⟨u,(e.kp b _ (fun m=>hs.dis a ma (by rw [<- mem_singleton.mp m]; exact hb)) eb).2⟩
  ·by_cases hjo:j<o.length
   ·rw [getElem?_append_left hjo] at q1;rw [getElem?_append_left (by rw [length_set,hs.len]; exact hjo)] at q2;by_cases hj:j=k
    ·subst hj;rw [q1] at ea;cases ea;rw [getElem?_set_self (by rw [hs.len]; exact hk)] at q2;cases q2;exact⟨vs,ev,l⟩
    ·rw [getElem?_set_ne (Ne.symm hj)] at q2;obtain⟨ws,e3,l3⟩:=hs.cont j b es q1 q2;have ne:b≠a:=fun z=>hj (zd6 hs.nd q1 (z▸ea));exact⟨ws,(e.kp b _ (by simp [ne]) e3).2,l3.mono ex.vx⟩
   ·have hk':j=o.length:=by
     obtain⟨q,_⟩:=List.getElem?_eq_some_iff.mp q1;rw [length_append,length_singleton] at q;omega
    subst hk';rw [getElem?_concat_length] at q1;rw [<- hs.len,<- length_set (i:=k) (a:=p'),getElem?_concat_length] at q2;cases q1;cases q2;exact⟨vs2,ev2,l2⟩
 ·exact q.elim
end
structure DEnds where
 nx:XE->Sto->Prop
 rt:RX
 bk:XE->Sto->Prop:=fun _ _=>False
 ct:XE->Sto->Prop:=fun _ _=>False
abbrev DS:=DEnds->XE->Sto->Prop
abbrev DG:=XV->XE->Sto->(XE->Sto->Prop)->Prop
abbrev DGs:=List PyData->XE->Sto->(XE->Sto->Prop)->Prop
def Nx(h o:List Addr)(H:Hp)(N:XE->Sto->Prop)(M:St->Hp->Prop):Prop:=∀ o' H' δ' S' σ',Ex o H o' H'->RepE h o' H' δ' σ'->RepS h o' H' S'->N δ' S'->M σ' H'
theorem Nx.pre{h o o':List Addr}{H H':Hp}{N:XE->Sto->Prop}{M:St->Hp->Prop}(c:Nx h o H N M)(e:Ex o H o' H'):Nx h o' H' N M:=fun o2 H2 δ2 S2 σ2 e2=>c o2 H2 δ2 S2 σ2 (e.trans e2)
structure EOk(h o:List Addr)(H:Hp)(E:DEnds)(D:Ends):Prop where
 nx:Nx h o H E.nx D.nx
 rt:Cn h o H E.rt D.rt
 bk:Nx h o H E.bk D.bk
 ct:Nx h o H E.ct D.ct
theorem EOk.pre{h o o':List Addr}{H H':Hp}{E:DEnds}{D:Ends}(c:EOk h o H E D)(e:Ex o H o' H'):EOk h o' H' E D:=⟨c.nx.pre e,c.rt.pre e,c.bk.pre e,c.ct.pre e⟩
def RS(t:TS)(dt:DS):Prop:=∀ (h o:List Addr) (H:Hp) (δ:XE) (σ:St) (S:Sto) (E:DEnds) (D:Ends),RepE h o H δ σ->RepS h o H S->dt E δ S->EOk h o H E D->t D σ H
def RG(t:TG)(dt:DG):Prop:=∀ (h o:List Addr) (H:Hp) (δ:XE) (σ:St) (S:Sto) (x:XV) (v:V) (N:XE->Sto->Prop) (M:St->Hp->Prop),RepE h o H δ σ->RepS h o H S->HasX h o H x v->dt x δ S N->Nx h o H N M->t v σ H M
def RGs(t:TGs)(dt:DGs):Prop:=∀ (h o:List Addr) (H:Hp) (δ:XE) (σ:St) (S:Sto) (ds:List PyData) (vs:List V) (N:XE->Sto->Prop) (M:St->Hp->Prop),RepE h o H δ σ->RepS h o H S->HasL (vx h o H) ds vs->dt ds δ S N->Nx h o H N M->t vs σ H M
def zi(i:Nat):DG:=fun x δ S N=>N (δ.set i (some x)) S
def zeo:DGs:=fun ds δ S N=>ds=[]/\N δ S
def hdD:List PyData->(PyData->List PyData->Prop)->Prop
 | d :: es,k=>k d es
 | [],_=>False
theorem zsA{ds:List PyData}{k:PyData->List PyData->Prop}(h:hdD ds k):∃ d es,ds=d :: es/\k d es:=by
 cases ds with
 | nil=>exact h.elim
 | cons d es=>exact⟨d,es,rfl,h⟩
theorem zsh{d:PyData}{es:List PyData}{k:PyData->List PyData->Prop}:hdD (d :: es) k=k d es:=rfl
def zaE(g:DG)(r:DGs):DGs:=fun ds δ S N=>hdD ds fun d es=>g (.d d) δ S fun δ' S'=>r es δ' S' N
def zc9(n:Nat)(r:DGs):DG:=fun x δ S N=>asT x fun ds=>ds.length=n/\r ds δ S N
def zkS(a b:DE):DG:=fun x δ S N=>a δ S fun y S1=>b δ S1 fun z S2=>asD x fun d=>∃ k,y=.l k/\∃ ds,S2[k]? = some ds/\asI z fun i=>∃ j,ixN ds.length i=some j/\N δ (S2.set k (ds.set j d))
theorem zw{i:Nat}:RG (zjf i) (zi i):=fun h o H δ σ S x v N M he hs hx q c=>c o H _ S _ Ex.refl (he.set hx) hs q
theorem zey:RGs zuh zeo:=fun h o H δ σ S ds vs N M he hs l ⟨e,q⟩ c=>by
 subst e;exact⟨zC.mp l,c o H δ S σ Ex.refl he hs q⟩
theorem zbt{t:TG}{u:TGs}{g:DG}{r:DGs}(h1:RG t g)(h2:RGs u r):RGs (zsk t u) (zaE g r):=fun h o H δ σ S ds vs N M he hs l q0 c=>by
 obtain⟨d,es,rfl,q⟩:=zsA q0;obtain⟨v,ws,rfl,hv,l⟩:=zr.mp l;exact⟨v,ws,rfl,h1 h o H δ σ S (.d d) v _ _ he hs hv q fun o1 H1 δ1 S1 σ1 e1 he1 hs1 q1=>h2 h o1 H1 δ1 σ1 S1 es ws N M he1 hs1 (l.mono e1.vx) q1 (c.pre e1)⟩
theorem zgW{K:W.Frag}{n:Nat}{t:TGs}{r:DGs}(h1:RGs t r):RG (zup K n t) (zc9 n r):=fun h o H δ σ S x v N M he hs hx q c=>by
 replace q:=zfL q;obtain⟨ds,rfl,hn,q⟩:=q;obtain⟨a,vs,rfl,ea,l⟩:=zdj hx;exact⟨a,vs,rfl,.of ea,by rw [l.length]; exact hn,h1 h o H δ σ S ds vs N M he hs l q c⟩
theorem HasL.setAt{H:Hp}:∀ {ds:List PyData} {vs:List V} {j:Nat} {d:PyData} {v:V},HasL H ds vs->Has H d v->HasL H (ds.set j d) (vs.set j v)
 | [],vs,j,d,v,l,_=>by rw [zC.mp l]; exact zC.mpr rfl
 | c :: ds,vs,0,d,v,l,q=>by
  obtain⟨u,r,rfl,_,l⟩:=zr.mp l;exact zr.mpr ⟨v,r,rfl,q,l⟩
 | c :: ds,vs,j+1,d,v,l,q=>by
  obtain⟨u,r,rfl,hu,l⟩:=zr.mp l;exact zr.mpr ⟨u,r.set j v,rfl,hu,HasL.setAt l q⟩
theorem zs8{ta tb:TE}{da db:DE}(ha:RE ta da)(hb:RE tb db):RG (zum ta tb zr3) (zkS da db):=fun h o H δ σ S x v N M he hs hx q c =>
 ha h o H δ σ S _ _ he hs q fun o1 H1 S1 y u e1 s1 y1 d1=>hb h o1 H1 δ σ S1 _ _ (he.mono e1) s1 d1 fun o2 H2 S2 z w e2 s2 z2 d0=>by
  obtain⟨d,rfl,k,rfl,ds,es,d2⟩:=zgR d0;replace d2:=zbj d2;obtain⟨i,rfl,j,ej,d2⟩:=d2;obtain⟨a,ea,rfl⟩:=y1.mono e2;obtain⟨ws,ew,l⟩:=s2.cont k a ds ea es;refine⟨a,ws,i,j,rfl,zaT z2,ew,by rw [l.length]; exact ej,?_⟩;exact c o2 _ δ _ σ ((e1.trans e2).trans (Ex.upd ea)) (((he.mono e1).mono e2).mono (Ex.upd ea)) (s2.upd ea (l.setAt (hx.mono (e1.trans e2)))) d2
def za9:DS:=fun E δ S=>E.nx δ S
def zO(t u:DS):DS:=fun E δ S=>t { E with nx:=u E } δ S
def zan(e:DE)(g:DG):DS:=fun E δ S=>e δ S fun x S1=>g x δ S1 E.nx
def zcg(e:DE):DS:=fun E δ S=>e δ S fun _ S1=>E.nx δ S1
def za1(e:DE):DS:=fun E δ S=>e δ S E.rt
def zcI(c:DT)(t u:DS):DS:=fun E δ S=>c δ S fun b S1=>if b=true then t E δ S1 else u E δ S1
section
variable {t u:TS} {dt du:DS} {te:TE} {de:DE}
theorem zcs:RS zrk za9:=fun h o H δ σ S E D he hs q c=>c.nx o H δ S σ Ex.refl he hs q
theorem zK(ht:RS t dt)(hu:RS u du):RS (zi3 t u) (zO dt du):=fun h o H δ σ S E D he hs q c =>
 ht h o H δ σ S _ _ he hs q ⟨fun o1 H1 δ1 S1 σ1 e1 he1 hs1 q1=>hu h o1 H1 δ1 σ1 S1 E D he1 hs1 q1 (c.pre e1),c.rt,c.bk,c.ct⟩
theorem zax{g:TG}{dg:DG}(he':RE te de)(hg:RG g dg):RS (zr8 te g) (zan de dg):=fun h o H δ σ S E D he hs q c =>
 he' h o H δ σ S _ _ he hs q fun o1 H1 S1 x v e1 s1 x1 d1=>hg h o1 H1 δ σ S1 x v _ _ (he.mono e1) s1 x1 d1 (c.nx.pre e1)
theorem zg7(he':RE te de):RS (zrn te) (zcg de):=fun h o H δ σ S E D he hs q c =>
 he' h o H δ σ S _ _ he hs q fun o1 H1 S1 x v e1 s1 x1 d1=>c.nx o1 H1 δ S1 σ e1 (he.mono e1) s1 d1
theorem zaD(he':RE te de):RS (zty te) (za1 de):=fun h o H δ σ S E D he hs q c=>he' h o H δ σ S _ _ he hs q c.rt
theorem zfM{tc:TT}{dc:DT}(hc:RT tc dc)(ht:RS t dt)(hu:RS u du):RS (zqg tc t u) (zcI dc dt du):=fun h o H δ σ S E D he hs q c =>
 hc h o H δ σ S _ _ he hs q fun o1 H1 S1 b e1 s1 d1=>by
  cases b with
  | true=>exact zl8 (ht h o1 H1 δ σ S1 E D (he.mono e1) s1 (by simpa using d1) (c.pre e1))
  | false=>exact zlz (hu h o1 H1 δ σ S1 E D (he.mono e1) s1 (by simpa using d1) (c.pre e1))
def frz(n:Nat)(ds:List PyData):Option XV->Option XV
 | some (.l k)=>if k=n then some (.d (.list ds)) else some (.l k)
 | y=>y
end
abbrev DI:=XE->Sto->(List PyData->Sto->Prop)->Prop
structure WalkX(h o:List Addr)(H:Hp)(J:It)(ds:List PyData):Prop where
 stop:∀ (i:Nat) o2 H2,ExH h o H o2 H2->ds.length<=i->J.stop i H2
 go:∀ (i:Nat) d o2 H2,ExH h o H o2 H2->ds[i]? = some d->J.go i H2
 yld:∀ (i:Nat) d o2 H2 x H3 S2,ExH h o H o2 H2->RepS h o2 H2 S2->ds[i]? = some d->J.yld i H2 x H3->Same H2 H3/\Has (vx h o2 H3) d x
def RI(w:TI)(di:DI):Prop:=∀ (h o:List Addr) (H:Hp) (δ:XE) (σ:St) (S:Sto) (R:List PyData->Sto->Prop) (Q:It->Hp->Prop),RepE h o H δ σ->RepS h o H S->di δ S R ->
 (∀ o' H' S' ds J,Ex o H o' H'->RepS h o' H' S'->WalkX h o' H' J ds->R ds S'->Q J H')->w σ H Q
theorem zmB{h o:List Addr}{H:Hp}{lo:Int}{n:Nat}:WalkX h o H (Itr lo n) (ze6 lo n) where
 stop:=fun i _ _ _ hi=>by rw [zah] at hi; exact hi
 go:=fun i d _ _ _ hi=>(zbi hi).1
 yld:=fun i d o2 H2 x H3 S2 _ _ hi y=>by
  obtain⟨e,ex⟩:=y;subst e ex;rw [(zbi hi).2];exact⟨Same.refl _,zb8.mpr rfl⟩
def zlh(g:DG)(b:DS):List PyData->DS
 | [],E,δ,S=>E.nx δ S
 | d :: ds,E,δ,S=>g (.d d) δ S fun δ1 S1=>b { nx:=fun δ2 S2=>zlh g b ds E δ2 S2,ct:=fun δ2 S2=>zlh g b ds E δ2 S2,bk:=E.nx,rt:=E.rt } δ1 S1
def zex(i:DI)(g:DG)(b:DS):DS:=fun E δ S=>i δ S fun ds S1=>zlh g b ds E δ S1
theorem zgX{wi:TI}{g:TG}{tb:TS}{di:DI}{dg:DG}{db:DS}(hi:RI wi di)(hg:RG g dg)(hb:RS tb db):RS (ztw wi g tb) (zex di dg db):=fun h o H δ σ S E D he hs q c =>
 hi h o H δ σ S _ _ he hs q fun o1 H1 S1 ds J e1 s1 wk d1=>by
  refine⟨fun i m σ2 H2=>m=ds.length - i/\i<=ds.length/\∃ o2 δ2 S2,Ex o1 H1 o2 H2/\RepE h o2 H2 δ2 σ2/\RepS h o2 H2 S2/\zlh dg db (ds.drop i) E δ2 S2,⟨ds.length,by simp,zero_le _,o1,δ,S1,Ex.refl,he.mono e1,s1,d1⟩,?_⟩;rintro i m σ2 H2 ⟨rfl,hi,o2,δ2,S2,e2,he2,hs2,d2⟩;by_cases hlt:i<ds.length
  ·have ed:ds[i]? = some ds[i]:=getElem?_eq_getElem hlt;rw [List.drop_eq_getElem_cons hlt] at d2;refine .inr ⟨wk.go i _ o2 H2 e2.hid ed,fun σ3 H3=>∃ o3 δ3 S3,Ex o1 H1 o3 H3/\RepE h o3 H3 δ3 σ3/\RepS h o3 H3 S3/\zlh dg db (ds.drop (i+1)) E δ3 S3,fun σ3 H3 n=>⟨ds.length - (i+1),by omega,rfl,hlt,n⟩,fun x H3 y=>?_⟩;obtain⟨s3,hx⟩:=wk.yld i _ o2 H2 x H3 S2 e2.hid hs2 ed y;have e23:Ex o2 H2 o2 H3:=Ex.of_same s3;refine hg h o2 H3 δ2 σ2 S2 (.d ds[i]) x _ _ (he2.mono e23) (hs2.same s3) hx d2 fun o4 H4 δ4 S4 σ4 e4 he4 hs4 d4=>?_;have e14:Ex o1 H1 o4 H4:=(e2.trans e23).trans e4;have ce:=(c.pre e1).pre e14;exact hb h o4 H4 δ4 σ4 S4 _ _ he4 hs4 d4 ⟨fun o5 H5 δ5 S5 σ5 e5 he5 hs5 d5=>⟨o5,δ5,S5,e14.trans e5,he5,hs5,d5⟩,ce.rt,ce.nx,fun o5 H5 δ5 S5 σ5 e5 he5 hs5 d5=>⟨o5,δ5,S5,e14.trans e5,he5,hs5,d5⟩⟩
  ·have ei:i=ds.length:=by omega
   subst ei;rw [drop_length] at d2;exact .inl ⟨wk.stop _ o2 H2 e2.hid (le_refl _),c.nx o2 H2 δ2 S2 σ2 (e1.trans e2) he2 hs2 d2⟩
def zoU(cd:DT)(b:DS):DS:=fun E δ S=>∃ W:Nat->XE->Sto->Prop,(∃ m,W m δ S)/\∀ m δ S,W m δ S ->
 cd δ S fun x S1=>if x=true then ∃ N:XE->Sto->Prop,(∀ δ' S',N δ' S'->∃ m',m'<m/\W m' δ' S')/\b { nx:=N,ct:=N,bk:=E.nx,rt:=E.rt } δ S1 else E.nx δ S1
theorem zoq{tc:TT}{tb:TS}{dc:DT}{db:DS}(hc:RT tc dc)(hb:RS tb db):RS (zpn tc tb) (zoU dc db):=fun h o H δ σ S E D he hs ⟨W,⟨m0,w0⟩,q⟩ c=>by
 refine⟨fun m σ2 H2=>∃ o2 δ2 S2,Ex o H o2 H2/\RepE h o2 H2 δ2 σ2/\RepS h o2 H2 S2/\W m δ2 S2,⟨m0,o,δ,S,Ex.refl,he,hs,w0⟩,?_⟩;rintro m σ2 H2 ⟨o2,δ2,S2,e2,he2,hs2,w2⟩;refine hc h o2 H2 δ2 σ2 S2 _ _ he2 hs2 (q m δ2 S2 w2) fun o3 H3 S3 b e3 s3 d3=>?_;cases b with
 | false=>exact zlz (c.nx o3 H3 δ2 S3 σ2 (e2.trans e3) (he2.mono e3) s3 (by simpa using d3))
 | true =>
  refine zl8 ?_;obtain⟨N,n1,d3⟩:∃ N:XE->Sto->Prop,(∀ δ' S',N δ' S'->∃ m',m'<m/\W m' δ' S')/\db { nx:=N,ct:=N,bk:=E.nx,rt:=E.rt } δ2 S3:=by simpa using d3
  have e13:=e2.trans e3;have ce:=c.pre e13;refine⟨fun σ4 H4=>∃ o4 δ4 S4,Ex o H o4 H4/\RepE h o4 H4 δ4 σ4/\RepS h o4 H4 S4/\N δ4 S4,fun σ4 H4 ⟨o4,δ4,S4,e4,he4,hs4,n4⟩=>?_,?_⟩
  ·obtain⟨m',hm,w'⟩:=n1 δ4 S4 n4;exact⟨m',hm,o4,δ4,S4,e4,he4,hs4,w'⟩
  ·exact hb h o3 H3 δ2 σ2 S3 _ _ (he2.mono e3) s3 d3 ⟨fun o5 H5 δ5 S5 σ5 e5 he5 hs5 d5=>⟨o5,δ5,S5,e13.trans e5,he5,hs5,d5⟩,ce.rt,ce.nx,fun o5 H5 δ5 S5 σ5 e5 he5 hs5 d5=>⟨o5,δ5,S5,e13.trans e5,he5,hs5,d5⟩⟩
def zaJ:DT:=fun _ S R=>R true S
theorem zaC:RT ztl zaJ:=fun h o H δ σ S R Q he hs q c=>c o H S true Ex.refl hs q
def ze4(n:Nat)(g:DG)(tt:DT)(te:DE)(fin:Sto->Prop):List PyData->XE->Sto->Prop
 | [],_,S=>fin S
 | d :: ds,τ,S=>g (.d d) τ S fun τ1 S1=>tt τ1 S1 fun b S2=>if b=true then te τ1 S2 fun x S3=>asD x fun e=>∃ acc,S3[n]? = some acc/\acc.length<1000/\ze4 n g tt te fin ds τ1 (S3.set n (acc++[e])) else ze4 n g tt te fin ds τ1 S2
def zeb(caps:List (Option Nat))(i:DI)(g:DG)(tt:DT)(te:DE):DE:=fun δ S R=>i δ S fun ds S1=>ze4 S1.length g tt te (fun S2=>R (.l S1.length) S2) ds (zoX caps δ) (S1++[[]])
def zcA(caps:List (Option Nat))(i:DI)(g:DG)(tt:DT)(te:DE):DE:=fun δ S R=>i δ S fun ds S1=>ze4 S1.length g tt te (fun S2=>∃ S0 acc,S2=S0++[acc]/\S0.length=S1.length/\R (.d (.list acc)) S0) ds (zoX caps δ) (S1++[[]])
theorem RepS.pop{h o r:List Addr}{H:Hp}{S0 T:Sto}(hs:RepS h (o++r) H (S0++T))(hl:S0.length=o.length):RepS h o H S0 where
 len:=hl
 nd:=(nodup_append.mp hs.nd).1
 dis:=fun a ha=>hs.dis a (mem_append_left _ ha)
 hal:=hs.hal
 cont:=fun k a ds e1 e2=>by
  obtain⟨vs,e3,l⟩:=hs.cont k a ds (zdM e1) (zdM e2);exact⟨vs,e3,l.mono fun b u e=>by
   obtain⟨z1,z2,z3⟩:=zat.mp e;exact zat.mpr ⟨z1,fun m=>z2 (mem_append_left _ m),z3⟩⟩
theorem zfG{h o r:List Addr}{H:Hp}:Same (vx h (o++r) H) (vx h o H):=fun b u e=>by
 obtain⟨z1,z2,z3⟩:=zat.mp e;exact zat.mpr ⟨z1,fun m=>z2 (mem_append_left _ m),z3⟩
theorem Ex.pop{o o' r:List Addr}{H H':Hp}(e:Ex o H (o++r) H'):Ex o H o H':=⟨⟨[],by simp⟩,fun b u hb eb=>⟨hb,(e.kp b u hb eb).2⟩⟩
theorem zic{caps:List (Option Nat)}{wi:TI}{g:TG}{tt:TT}{te:TE}{di:DI}{dg:DG}{dtt:DT}{dte:DE}(hi:RI wi di)(hg:RG g dg)(ht:RT tt dtt)(he':RE te dte)
  {h o:List Addr} {H:Hp} {δ:XE} {σ:St} {S:Sto} {Q:VK} {fin:Nat->Sto->Prop} (he:RepE h o H δ σ) (hs:RepS h o H S) (q:di δ S fun ds S1=>ze4 S1.length dg dtt dte (fin S1.length) ds (zoX caps δ) (S1++[[]]))
  (c:∀ o1 H1 D o2 H2 S2,Ex o H o1 H1->H1 D=none->Ex (o1++[D]) (upd H1 D (.lst [])) o2 H2->RepS h o2 H2 S2->fin o1.length S2->Q (.ref D) H2):zml caps wi g tt te σ H Q:=by
 refine hi h o H δ σ S _ _ he hs q fun o1 H1 S1 ds J e1 s1 wk d1 D hD=>?_;have eN:Ex o1 H1 (o1++[D]) (upd H1 D (.lst [])):=Ex.new s1 hD;have sN:RepS h (o1++[D]) (upd H1 D (.lst [])) (S1++[[]]):=s1.new hD (zC.mpr rfl);have hn:S1.length=o1.length:=s1.len;refine⟨fun i m τ H2=>m=ds.length - i/\i<=ds.length/\∃ o2 δ2 S2,Ex (o1++[D]) (upd H1 D (.lst [])) o2 H2/\RepE h o2 H2 δ2 τ/\RepS h o2 H2 S2/\ze4 S1.length dg dtt dte (fin S1.length) (ds.drop i) δ2 S2,⟨ds.length,by simp,zero_le _,_,_,_,Ex.refl,((he.mono e1).mono eN).tau,sN,d1⟩,?_⟩;rintro i m τ H2 ⟨rfl,hi,o2,δ2,S2,e2,he2,hs2,d2⟩;by_cases hlt:i<ds.length
 ·have ed:ds[i]? = some ds[i]:=getElem?_eq_getElem hlt;rw [List.drop_eq_getElem_cons hlt] at d2;refine .inr ⟨wk.go i _ o2 H2 (eN.trans e2).hid ed,fun x H3 y=>?_⟩;obtain⟨s3,hx⟩:=wk.yld i _ o2 H2 x H3 S2 (eN.trans e2).hid hs2 ed y;have e23:Ex o2 H2 o2 H3:=Ex.of_same s3;refine hg h o2 H3 δ2 τ S2 (.d ds[i]) x _ _ (he2.mono e23) (hs2.same s3) hx d2 fun o4 H4 δ4 S4 τ4 e4 he4 hs4 d4=>?_;refine ht h o4 H4 δ4 τ4 S4 _ _ he4 hs4 d4 fun o5 H5 S5 b e5 s5 d5=>?_;have e15:=((e2.trans e23).trans e4).trans e5;cases b with
  | false=>exact zlz ⟨ds.length - (i+1),by omega,rfl,hlt,o5,δ4,S5,e15,he4.mono e5,s5,by simpa using d5⟩
  | true =>
   refine zl8 (he' h o5 H5 δ4 τ4 S5 _ _ (he4.mono e5) s5 (by simpa using d5) fun o6 H6 S6 z v e6 s6 z6 d6=>?_);replace d6:=zgR d6;obtain⟨e,rfl,acc,ea,hl,d6⟩:=d6;have e16:=e15.trans e6;have eD:o6[S1.length]? = some D:=by
    obtain⟨r,rfl⟩:=e16.pre;rw [hn];exact zdM (by rw [getElem?_concat_length])
   obtain⟨vs,ev,l⟩:=s6.cont _ D acc eD ea;refine⟨vs,ev,by rw [l.length]; exact small1000 (le_of_lt hl),ds.length - (i+1),by omega,rfl,hlt,o6,δ4,_,e16.trans (Ex.upd eD),((he4.mono e5).mono e6).mono (Ex.upd eD),s6.upd eD (l.append (zr.mpr ⟨v,[],rfl,z6,zC.mpr rfl⟩)),d6⟩
 ·have ei:i=ds.length:=by omega
  subst ei;rw [drop_length] at d2;exact .inl ⟨wk.stop _ o2 H2 (eN.trans e2).hid (le_refl _),c o1 H1 D o2 H2 S2 e1 hD e2 hs2 (hn▸d2)⟩
theorem zdy{caps:List (Option Nat)}{wi:TI}{g:TG}{tt:TT}{te:TE}{di:DI}{dg:DG}{dtt:DT}{dte:DE}(hi:RI wi di)(hg:RG g dg)(ht:RT tt dtt)(he':RE te dte):RE (zml caps wi g tt te) (zeb caps di dg dtt dte):=fun h o H δ σ S R Q he hs q c=>by
 refine zic (fin:=fun n S2=>R (.l n) S2) hi hg ht he' he hs q fun o1 H1 D o2 H2 S2 e1 hD e2 s2 f=>?_;have eN:Ex o1 H1 (o1++[D]) (upd H1 D (.lst [])):=⟨⟨[D],rfl⟩,fun b w hb e=>by
  have ne:b≠D:=zE e hD;exact⟨by simp [hb,ne],by rw [zI ne]; exact e⟩⟩
 refine c o2 H2 S2 (.l o1.length) _ ((e1.trans eN).trans e2) s2 ⟨D,?_,rfl⟩ f;obtain⟨r,rfl⟩:=e2.pre;exact zdM (by rw [getElem?_concat_length])
theorem zbf{caps:List (Option Nat)}{wi:TI}{g:TG}{tt:TT}{te:TE}{di:DI}{dg:DG}{dtt:DT}{dte:DE}(hi:RI wi di)(hg:RG g dg)(ht:RT tt dtt)(he':RE te dte):RE (zml caps wi g tt te) (zcA caps di dg dtt dte):=fun h o H δ σ S R Q he hs q c=>by
 refine zic (fin:=fun n S2=>∃ (S0:Sto) (acc:List PyData),S2=S0++[acc]/\S0.length=n/\R (.d (.list acc)) S0) hi hg ht he' he hs q fun o1 H1 D o2 H2 S2 e1 hD e2 s2 ⟨S0,acc,eS,hl,f⟩=>?_;subst eS;have eN:Ex o1 H1 (o1++[D]) (upd H1 D (.lst [])):=⟨⟨[D],rfl⟩,fun b w hb e=>by
  have ne:b≠D:=zE e hD;exact⟨by simp [hb,ne],by rw [zI ne]; exact e⟩⟩
 have e12:=eN.trans e2;obtain⟨r,rfl⟩:=e2.pre;have er:r=[]:=by
  have:=s2.len;simp only [length_append,length_singleton,hl] at this;exact eq_nil_of_length_eq_zero (by omega)
 subst er;rw [append_nil] at s2 e12;have s0:RepS h o1 H2 S0:=s2.pop hl;refine c o1 H2 S0 (.d (.list acc)) _ (e1.trans (Ex.pop (o':=o1) e12)) s0 ?_ f;obtain⟨vs,ev,l⟩:=s2.cont o1.length D acc (by rw [getElem?_concat_length]) (by rw [<- hl,getElem?_concat_length]);have nD:D∉o1:=by
  have:=(nodup_append.mp s2.nd).2.2;intro m;exact this D m D (by simp) rfl
 exact za8.mpr ⟨D,vs,rfl,zat.mpr ⟨s2.dis D (by simp),nD,ev⟩,l.mono zfG⟩
def fin(n:Nat)(R:RX):RX:=fun y S'=>match y with
 | .l k=>if k<n then R (.l k) (S'.take n) else ∃ ds,S'[k]? = some ds/\(R (.d (.list ds)) (S'.take n)\/R (.l n) (S'.take n++[ds]))
 | y=>R y (S'.take n)
theorem zpO{h o:List Addr}{H:Hp}{S:Sto}{R:RX}{Q:VK}(hs:RepS h o H S)(c:Cn h o H R Q):Cn h o H (fin S.length R) Q:=fun o' H' S' y v e s' hy q=>by
 obtain⟨r,rfl⟩:=e.pre;have eS:S'=S'.take S.length++S'.drop S.length:=(List.take_append_drop _ _).symm;have hl:(S'.take S.length).length=o.length:=by
  have:=s'.len;rw [length_append] at this;rw [length_take,this,hs.len];omega
 have s0:RepS h o H' (S'.take S.length):=by
  rw [eS] at s';exact s'.pop hl
 have e0:Ex o H o H':=Ex.pop (o':=o) e;cases y with
 | d d=>exact c o H' _ (.d d) v e0 s0 (Has.mono zfG d v hy) q
 | o w=>exact c o H' _ (.o w) v e0 s0 hy q
 | x C fs=>exact c o H' _ (.x C fs) v e0 s0 (HasE.mono zfG hy) q
 | l k =>
  unfold fin at q;by_cases hk:k<S.length
  ·simp only [hk,↓reduceIte] at q;obtain⟨a,ea,rfl⟩:=hy;exact c o H' _ (.l k) _ e0 s0 ⟨a,by rw [getElem?_append_left (by rw [<- hs.len]; exact hk)] at ea; exact ea,rfl⟩ q
  ·simp only [hk,↓reduceIte] at q;obtain⟨ds,eds,q⟩:=q;obtain⟨a,ea,rfl⟩:=hy;obtain⟨vs,ev,l⟩:=s'.cont k a ds ea eds;have na:a∉o:=fun m=>by
    obtain⟨j,ej⟩:=mem_iff_getElem?.mp m;have hj:j<o.length:=(List.getElem?_eq_some_iff.mp ej).1;have:=zd6 s'.nd (zdM (t:=r) ej) ea;rw [hs.len] at hk;omega
   have nh:a∉h:=s'.dis a (mem_of_getElem? ea);rcases q with q | q
   ·exact c o H' _ (.d (.list ds)) _ e0 s0 (za8.mpr ⟨a,vs,rfl,zat.mpr ⟨nh,na,ev⟩,l.mono zfG⟩) q
   ·have hn:H a=none:=by
     cases eh:H a with
     | none=>rfl
     | some u=>exact absurd (mem_of_getElem? ea) (e.kp a u na eh).1
    have e1:Ex o H (o++[a]) H':=⟨⟨[a],rfl⟩,fun b u hb eb=>⟨by simp only [mem_append,mem_singleton,not_or]; exact⟨hb,zE eb hn⟩,(e0.kp b u hb eb).2⟩⟩;have sub:Same (vx h (o++r) H') (vx h (o++[a]) H'):=fun b u eb=>by
     obtain⟨z1,z2,z3⟩:=zat.mp eb;refine zat.mpr ⟨z1,?_,z3⟩;simp only [mem_append,mem_singleton,not_or];exact⟨fun m=>z2 (mem_append_left _ m),fun z=>z2 (by rw [z]; exact mem_of_getElem? ea)⟩
    refine c (o++[a]) H' _ (.l S.length) _ e1 ⟨by rw [length_append,length_append,hl]; rfl,zcw hs.nd na,fun b hb=>?_,s0.hal,fun j b es q1 q2=>?_⟩ ⟨a,by rw [hs.len,getElem?_concat_length],rfl⟩ q
    ·rcases mem_append.mp hb with hb | hb
     ·exact hs.dis b hb
     ·rw [mem_singleton.mp hb]; exact nh
    ·by_cases hj:j<o.length
     ·rw [getElem?_append_left hj] at q1;rw [getElem?_append_left (by rw [hl]; exact hj),List.getElem?_take_of_lt (by rw [hs.len]; exact hj)] at q2;obtain⟨ws,e3,l3⟩:=s'.cont j b es (zdM q1) q2;exact⟨ws,e3,l3.mono sub⟩
     ·have hj':j=o.length:=by
       obtain⟨q,_⟩:=List.getElem?_eq_some_iff.mp q1;rw [length_append,length_singleton] at q;omega
      subst hj';rw [getElem?_concat_length] at q1;rw [<- hl,getElem?_concat_length] at q2;cases q1;cases q2;exact⟨vs,ev,l.mono sub⟩
def zbB(n:Nat)(R:RX):DEnds:={ nx:=fun _ S'=>fin n R (.d .none) S',rt:=fin n R }
theorem eok{h o:List Addr}{H:Hp}{S:Sto}{R:RX}{Q:VK}(hs:RepS h o H S)(c:Cn h o H R Q):EOk h o H (zbB S.length R) { nx:=fun _ H'=>Q .non H',rt:=Q } :=
 ⟨fun o' H' δ' S' σ' e he hs' q=>zpO hs c o' H' S' _ _ e hs' xN q,zpO hs c,fun _ _ _ _ _ _ _ _ q=>q.elim,fun _ _ _ _ _ _ _ _ q=>q.elim⟩
def zaO(p:List PyData):Prop:=∃ l g s:Int,p=[.int l,.int g,.int s]/\0<=l
end
section
def zuz(K:W.Frag):List V->Hp->VK->Prop:=fun xs H Q=>∃ (p:Addr) (ns:List Int),xs=[.ref p]/\SqL K H p (ns.map V.int)/\Q (.int ns.sum) H
def zuw(K:W.Frag):List V->Hp->VK->Prop:=fun xs H Q=>∃ (p:Addr) (bs:List Bool),xs=[.ref p]/\SqL K H p (bs.map V.bl)/\Q (.bl (bs.all id)) H
theorem zpW:bootBuiltins "sum" = some (.builtin "sum"):=by decide +kernel
theorem zkc:bootBuiltins "all" = some (.builtin "all"):=by decide +kernel
section
variable {X:Cx}
theorem ziK(hc:X.calm=true):CallR X (.builtin "sum") (zuz X.K):=by
 intro zh s σ H xs us Q I r h;obtain⟨p,ns,rfl,hq,q⟩:=h;obtain⟨u,rfl,rx⟩:=vals1 r;cases (show u=Value.ref p from rx);obtain⟨its,rv,pl,_⟩:=I.list hq;obtain⟨ys,e,hns⟩:=zfZ (za5 rv);refine sum_intListG (I.ok.hd hc) (by rw [<- e]; exact pl.isList) fun h' tk t' hk=>⟨.int ns.sum,H,I.kept (t':=tk) hk,⟨t',?_⟩,q⟩;have es:preSum (numAt ys) ys.size=ns.sum:=by
  rw [preSum_eq,hns,take_of_length_le (by simp)]
 rw [es]
theorem zjX:∀ {bs:List Bool} {us:List Value} {i:Nat} {v:Value},Vals (bs.map V.bl) us->us[i]? = some v->∃ b,bs[i]? = some b/\v=.bool b
 | [],_,i,v,.nil,e=>by simp at e
 | b :: bs,_,0,v,.cons r _,e=>by
  rw [getElem?_cons_zero] at e;cases e;exact⟨b,rfl,r⟩
 | b :: bs,_,i+1,v,.cons _ t,e=>by
  obtain⟨c,e1,e2⟩:=zjX (i:=i) (v:=v) t (by simpa using e);exact⟨c,by simpa using e1,e2⟩
theorem zqc(bs:List Bool):((List.range bs.length).all fun i=>(bs[i]?).getD true)=bs.all id:=by
 rw [Bool.eq_iff_iff,all_eq_true,all_eq_true];constructor
 ·intro h b hb;obtain⟨i,hi⟩:=mem_iff_getElem?.mp hb;have hl:=(List.getElem?_eq_some_iff.mp hi).1;have:=h i (mem_range.mpr hl);rw [hi] at this;exact this
 ·intro h i hi;have hl:=mem_range.mp hi;rw [getElem?_eq_getElem hl];exact h _ (getElem_mem hl)
theorem zea(hc:X.calm=true):CallR X (.builtin "all") (zuw X.K):=by
 intro zh s σ H xs us Q I r h;obtain⟨p,bs,rfl,hq,q⟩:=h;obtain⟨u,rfl,rx⟩:=vals1 r;cases (show u=Value.ref p from rx);obtain⟨its,rv,pl,_⟩:=I.list hq;have hl:=pl.isList;have hlt:p<s.heap.objs.size:=by
  obtain⟨_,e,_⟩:=hl;exact lt_size e
 refine call_all_walk (x:=Value.ref p) (wpAny_pyIter_list hl ?_);refine⟨s.heap.objs.size,[s.heap.objs.size,p],[s.heap.objs.size],its.toArray.size,_,_,fun i=>(bs[i]?).getD true,rfl,
  Walks.list (A:=X.A.in1) (I.ok.hd hc) _ p (ne_of_lt hlt) its.toArray,⟨⟨_,get?_push_size _ rfl,rfl,rfl⟩,hl.push _⟩,fun i v s' Q' E' hP hQ=>?_,fun h' tk hk=>?_⟩
 ·obtain⟨b,e,rfl⟩:=zjX (i:=i) (v:=v) rv (by simpa using hP);have hQ':Q' b s':=by simpa [e] using hQ
  exact wpAny_truthy_bool hQ'
 ·have hz:its.toArray.size=bs.length:=by
   have:=rv.length;rw [length_map] at this;simp [this]
  rw [hz,zqc];refine⟨.bl _,H,I.kept (t':=tk) fun b o e=>hk b o (fun hm=>?_) (get?_push_of_some _ e),rfl,q⟩;rw [mem_singleton.mp hm] at e;exact lt_irrefl _ (lt_size e)
end
def zrY:List XV->Sto->RX->Prop:=fun xs S R=>arg1 xs fun x=>∃ ds,ziG S x=some ds/\∃ ns:List Int,ds=ns.map PyData.int/\R (.d (.int ns.sum)) S
theorem zmG{K:W.Frag}:RC (zuz K) zrY:=fun h o H S xs vs R Q hs hx q c=>by
 obtain⟨x,rfl,ds,hd,ns,rfl,q1⟩:=zaG q;obtain⟨v,rfl,hx1⟩:=hxs1 hx;obtain⟨a,ws,rfl,ea,l⟩:=zbb hs hd hx1;rw [zb1 l] at ea;exact⟨a,ns,rfl,.of ea,c o H S _ _ Ex.refl hs (xI _) q1⟩
theorem ziM{H:Hp}:∀ {ns:List Bool} {vs:List V},HasL H (ns.map PyData.bool) vs->vs=ns.map V.bl
 | [],vs,h=>zC.mp h
 | n :: ns,vs,h=>by
  obtain⟨v,r,rfl,h1,h2⟩:=zr.mp h;rw [zds.mp h1,ziM h2];rfl
def zp3:List XV->Sto->RX->Prop:=fun xs S R=>arg1 xs fun x=>∃ ds,ziG S x=some ds/\∃ ns:List Bool,ds=ns.map PyData.bool/\R (.d (.bool (ns.all id))) S
theorem ziT{K:W.Frag}:RC (zuw K) zp3:=fun h o H S xs vs R Q hs hx q c=>by
 obtain⟨x,rfl,ds,hd,ns,rfl,q1⟩:=zaG q;obtain⟨v,rfl,hx1⟩:=hxs1 hx;obtain⟨a,ws,rfl,ea,l⟩:=zbb hs hd hx1;rw [ziM l] at ea;exact⟨a,ns,rfl,.of ea,c o H S _ _ Ex.refl hs (xB _) q1⟩
section
variable {S:Sto} {i:Int} {b:Bool} {z:Str} {ds:List PyData} {d:PyData} {k:Nat} {x y:XV} {R:RX} {c:String} {p:List PyData} {n:Nat} {v:V}
theorem zrO{K:Int->Prop}:asI (.d (.int i)) K=K i:=rfl
theorem zsI{K:Bool->Prop}:asB (.d (.bool b)) K=K b:=rfl
theorem zr9{K:Str->Prop}:asS (.d (.str z)) K=K z:=rfl
theorem zsq{K:List PyData->Prop}:asT (.d (.tuple ds)) K=K ds:=rfl
theorem zs1{K:PyData->Prop}:asD (.d d) K=K d:=rfl
theorem zpM:ziG S (.d (.list ds))=some ds:=rfl
theorem zpY:ziG S (.l k)=S[k]?:=rfl
theorem zsM:asQ S (.d (.list ds))=some ds:=rfl
theorem zs9:asQ S (.d (.tuple ds))=some ds:=rfl
theorem zsg:asQ S (.l k)=S[k]?:=rfl
theorem zm8:zgs S (.d d)=some d:=rfl
theorem zm4:zgs S (.l k)=(S[k]?).map .list:=rfl
theorem zpr:ret0 S R (.d d) []=R (.d d) S:=rfl
theorem zpN:ret0 S R (.l 0) [ds]=R (.l S.length) (S++[ds]):=rfl
theorem zp0:ztz k S R (.d d) [p]=R (.d d) (S.set k p):=rfl
theorem zsL:fin n R (.d d) S=R (.d d) (S.take n):=rfl
theorem zrN:fin n R (.l k) S=if k<n then R (.l k) (S.take n) else ∃ ds,S[k]? = some ds/\(R (.d (.list ds)) (S.take n)\/R (.l n) (S.take n++[ds])):=rfl
theorem zpQ{K:XV->Prop}:arg1 [x] K=K x:=rfl
theorem zpt{K:XV->XV->Prop}:arg2 [x,y] K=K x y:=rfl
theorem zoZ{K:String->Prop}:ztH (.o (.ty c)) K↔K c:=⟨fun⟨_,e,q⟩=>by cases e; exact q,fun q=>⟨c,rfl,q⟩⟩
theorem zpz{K:Int->Prop}:ztJ (.d (.bool b)) K=K (if b then 1 else 0):=rfl
theorem zlJ{δ:XE}:(zbB n R).nx δ S=fin n R (.d .none) S:=rfl
theorem zmq:(zbB n R).rt x S=fin n R x S:=rfl
theorem ziW:datas []=some []:=rfl
theorem zgO{r:List XV}:datas (.d d :: r)=(datas r).map (d :: ·):=rfl
end
theorem zr7{α:Type}{a:α}{l:List α}:atI (a :: l) 0=some a:=zcd (j:=0) rfl
theorem zsC{α:Type}{a b:α}{l:List α}:atI (a :: b :: l) 1=some b:=zcd (j:=1) rfl
theorem zsu{α:Type}{a b c:α}{l:List α}:atI (a :: b :: c :: l) 2=some c:=zcd (j:=2) rfl
theorem zs4{α:Type}{a b c d:α}{l:List α}:atI (a :: b :: c :: d :: l) 3=some d:=zcd (j:=3) rfl
theorem zsK{α:Type}{a b c d e:α}{l:List α}:atI (a :: b :: c :: d :: e :: l) 4=some e:=zcd (j:=4) rfl
def Shp(n:Nat)(d:PyData):Prop:=d.canLay0=true/\d.depth<=n
theorem zhs{n:Nat}{i:Int}:Shp n (.int i):=⟨rfl,zero_le _⟩
theorem zjQ{n:Nat}{i:Bool}:Shp n (.bool i):=⟨rfl,zero_le _⟩
theorem zjp{n:Nat}:∀ {ds:List PyData},(∀ d∈ds,Shp n d)->PyData.canLayAll0 ds=true/\PyData.depthAll ds<=n
 | [],_=>⟨by simp only [PyData.canLayAll0],by simp only [PyData.depthAll]; exact zero_le _⟩
 | d :: ds,h=>by
  obtain⟨h1,h2⟩:=h d mem_cons_self;obtain⟨h3,h4⟩:=zjp (ds:=ds) fun e m=>h e (mem_cons_of_mem _ m);simp only [PyData.canLayAll0,PyData.depthAll,h1,h3,Bool.and_true,true_and];omega
theorem zfe{n:Nat}{ds:List PyData}(h:∀ d∈ds,Shp n d):Shp (n+1) (.list ds):=by
 obtain⟨h1,h2⟩:=zjp h;exact⟨by simp only [PyData.canLay0]; exact h1,by simp only [PyData.depth]; omega⟩
theorem zhr{n:Nat}{ds:List PyData}(h:∀ d∈ds,Shp n d):Shp (n+1) (.tuple ds):=by
 obtain⟨h1,h2⟩:=zjp h;exact⟨by simp only [PyData.canLay0]; exact h1,by simp only [PyData.depth]; omega⟩
theorem zf4{α:Type}{n:Nat}{f:α->PyData}{l:List α}(h:∀ x∈l,Shp n (f x)):∀ d∈l.map f,Shp n d:=fun d m=>by
 obtain⟨x,hx,rfl⟩:=mem_map.mp m;exact h x hx
theorem zqM{n:Nat}{a b:PyData}(h1:Shp n a)(h2:Shp n b):∀ d∈[a,b],Shp n d:=by
 intro d m;simp only [mem_cons,not_mem_nil,or_false] at m;rcases m with rfl | rfl
 ·exact h1
 ·exact h2
theorem Shp.ok{n:Nat}{d:PyData}(h:Shp n d)(hn:n<=64:=by decide):SeqAt.shaped d=true:=by
 unfold SeqAt.shaped;rw [h.1,decide_eq_true (le_trans h.2 hn)];rfl
theorem zR{g:DG}{b:DS}{E:DEnds}:∀ {ds:List PyData} {δ:XE} {S:Sto} (I:Nat->XE->Sto->Prop),I 0 δ S ->
  (∀ i d δ S (N:XE->Sto->Prop),ds[i]? = some d->I i δ S->(∀ δ' S',I (i+1) δ' S'->N δ' S')->g (.d d) δ S fun δ1 S1=>b { nx:=N,ct:=N,bk:=E.nx,rt:=E.rt } δ1 S1) ->
  (∀ δ S,I ds.length δ S->E.nx δ S)->zlh g b ds E δ S
 | [],δ,S,I,h0,_,fin=>fin δ S h0
 | d :: ds,δ,S,I,h0,step,fin=>by
  show g (.d d) δ S fun δ1 S1=>b _ δ1 S1;refine step 0 d δ S _ rfl h0 fun δ' S' h1=>?_;exact zR (ds:=ds) (fun i=>I (i+1)) h1 (fun i e δ S N hi=>step (i+1) e δ S N (by simpa using hi)) fin
theorem zg6{α:Type}{l:List α}{a b:α}{n:Nat}(h:l.length=n):(l++[a]).set n b=l++[b]:=by
 subst h;rw [List.set_append_right _ _ (le_refl _),Nat.sub_self];rfl
theorem zmN{H:Hp}:RepS [] [] H []:=⟨rfl,nodup_nil,fun _ h=>(nomatch h),fun _ h=>(nomatch h),fun _ _ _ e=>(by simp at e)⟩
theorem Ex.same_nil{o':List Addr}{H H':Hp}(e:Ex [] H o' H'):Same H H':=fun b u q=>(e.kp b u (by simp) q).2
theorem zri{K:W.Frag}{a:Addr}{ns:List Int}{N:Int}{j m:Nat}{tb:TS}{db:DS}{D:Ends}{σ:St}{H:Hp}(hb:RS tb db)(h0:σ[0]? = some (some (.ref a)))(hl:σ.length=m+1)(hS:SqL K H a (ns.map V.int))(hlen:ns.length<=63)
  (turn:∀ n:Int,db { nx:=fun δ _=>δ[0]? = some (some (.o (.ref a)))/\δ.length=m+1,ct:=fun δ _=>δ[0]? = some (some (.o (.ref a)))/\δ.length=m+1,rt:=fun _ _=>False } ((some (.o (.ref a)) :: List.replicate m none).set j (some (.d (.int n)))) [])
  (hj:j≠0) (done:∀ (σ:St) (H1:Hp),Same H H1->D.nx σ H1) :
  ztw (zqH K (tOp zrq (zrv (ze7 (tC2 (zqi K) (zj1 0) (tC (.int 0))) zqf)) (tSl (zrZ K) (zj1 0) (zkV (tC (.int 1))) (zkV (tC (.int N)))))) (zjf j) tb D σ H:=by
 refine zmz (a:=a) (ns:=ns) (fun σ=>σ[0]? = some (some (.ref a))/\σ.length=m+1) h0 hS hlen ⟨h0,hl⟩ ?_ fun σ H1 _ s=>done σ H1 s;rintro n σ1 H1 H2 ⟨z0,z1⟩ s1 s2;refine hb [] [] H2 _ _ [] _ _ ⟨by simp [z1],fun i x e=>?_⟩ zmN (turn n) ⟨?_,fun _ _ _ _ _ _ _ _ q=>q.elim,fun _ _ _ _ _ _ _ _ q=>q.elim,?_⟩
 ·rw [getElem?_set] at e ⊢;by_cases hij:j=i
  ·rw [if_pos hij] at e ⊢;by_cases hjl:j<m+1
   ·rw [if_pos (by simpa using hjl)] at e;rw [if_pos (by rw [z1]; exact hjl)];cases e;exact⟨.int n,rfl,xI n⟩
   ·rw [if_neg (by simpa using hjl)] at e;cases e
  ·rw [if_neg hij] at e ⊢;cases i with
   | zero =>
    cases e;exact⟨.ref a,z0,rfl⟩
   | succ i =>
    rw [getElem?_cons_succ,getElem?_replicate] at e;split at e <;> cases e
 ·rintro o' H' δ' S' σ' e he hs ⟨q1,q2⟩;obtain⟨v,ev,hv⟩:=he.get 0 _ q1;cases hv;exact⟨s2.trans e.same_nil,ev,by rw [<- he.len]; exact q2⟩
 ·rintro o' H' δ' S' σ' e he hs ⟨q1,q2⟩;obtain⟨v,ev,hv⟩:=he.get 0 _ q1;cases hv;exact⟨s2.trans e.same_nil,ev,by rw [<- he.len]; exact q2⟩
theorem zt0{a:Addr}{m:Nat}{t u:TS}{dt:DS}{D:Ends}{σ:St}{H:Hp}(ht:RS t dt)(h0:σ[0]? = some (some (.ref a)))(hl:σ.length=m+1)
  (go:dt { nx:=fun δ _=>δ[0]? = some (some (.o (.ref a)))/\δ.length=m+1,rt:=fun _ _=>False } (some (.o (.ref a)) :: List.replicate m none) [])
  (next:∀ (σ:St) (H1:Hp),σ[0]? = some (some (.ref a))->σ.length=m+1->Same H H1->u D σ H1):zi3 t u D σ H:=by
 refine ht [] [] H _ _ [] _ _ ⟨by simp [hl],fun i x e=>?_⟩ zmN go ⟨?_,fun _ _ _ _ _ _ _ _ q=>q.elim,fun _ _ _ _ _ _ _ _ q=>q.elim,fun _ _ _ _ _ _ _ _ q=>q.elim⟩
 ·cases i with
  | zero =>
   cases e;exact⟨.ref a,h0,rfl⟩
  | succ i =>
   rw [getElem?_cons_succ,getElem?_replicate] at e;split at e <;> cases e
 ·rintro o' H' δ' S' σ' e he hs ⟨q1,q2⟩;obtain⟨v,ev,hv⟩:=he.get 0 _ q1;cases hv;exact next σ' H' ev (by rw [<- he.len]; exact q2) e.same_nil
end
section
theorem zny{P:Program}{w:World}{K:W.Frag}{tg:Expr}(it:Addr)(lo:Int)(n:Nat):Turn P w K tg (Itr lo n) [it] it (fun i h=>IsLongIter h it (lo+(i:Nat)*1) ((n:Int) - (i:Nat)) 1) where
 mem:=by simp
 obj:=fun i h st b hb=>by
  have e:b=it:=by simpa using hb
  subst e;exact⟨_,st,fun v z=>by
   have z':Data.fields _=Data.cell v:=z;cases z'⟩
 keep:=fun i h h' st k=>k it (by simp) _ st
 item:=by
  intro X hP hw hK hc i zh s σ H E I hf st hg;subst hP hw hK;obtain⟨f0,f1,f2,f3,f4,f5⟩:=hf it (by simp);have W:=Walks.longrange (prog:=X.prog) (w:=X.w) (I.ok.hd hc) it lo 1 n;refine W.item i s _ _ hg st fun v h' tk hv st' kk=>?_;obtain⟨t,rfl⟩:=hv;have I1:Inv X zh σ H { s with heap:=h',toks:=tk }:=I.turned (fun b o hb e=>kk b o (by simpa using hb) e) f0 f1 f3 f4 f5;refine⟨_,rfl,zoo (s:={ s with heap:=h',toks:=tk }) (n:="longrange_iterator") st' rfl rfl dz ⟨.int (lo+i),H,I1,⟨t,?_⟩,⟨rfl,rfl⟩,st',fun b hb=>(hf b hb).1⟩⟩;rw [Int.mul_one]
 done:=by
  intro X hP hw hK hc i zh s σ H E I hf st hg;subst hP hw hK;obtain⟨f0,f1,f2,f3,f4,f5⟩:=hf it (by simp);exact wpAny_pyNext_long_end (I.ok.hd hc) st (by have:n<=i:=hg; omega) fun h' eb=>⟨rfl,I.turned (t':=s.toks) (fun b o hb e=>eb b o hb e) f0 f1 f3 f4 f5⟩
 self:=fun _ _ _ _ _ st h=>wpAny_pyIter_longiter st h
section
variable {X:Cx} {tg:Expr}
theorem zmY{zh:List (Addr×Obj)}{σ:St}{H:Hp}{s:Shared}{R:It->Hp->Prop}{E:Value->Shared->Prop}{lo hi:Int}{t u v:Tok}{tk:Nat}(I:Inv X zh σ H s)
  (q:R (Itr lo (hi - lo).toNat) H):wpAny (model X.prog X.w) X.A (pyIter (.ref s.heap.objs.size)) (PIE X zh σ tg R) E { s with heap:=s.heap.push { cls:=.type "range",data:=.fields #[.int lo t,.int hi u,.int 1 v] },toks:=tk }:=by
 have I1:Inv X zh σ H { s with heap:=s.heap.push { cls:=.type "range",data:=.fields #[.int lo t,.int hi u,.int 1 v] },toks:=tk }:=I.kept fun b o e=>get?_push_of_some _ e;have e1:lo+((0:Nat):Int)*1=lo:=by simp
 have e2:(((hi - lo).toNat:Nat):Int) - ((0:Nat):Int)=Builtin.Range.rangeSize lo hi 1:=by rw [rangeSize_one]; split <;> omega
 cases hsm:Builtin.Range.small lo hi 1 with
 | true =>
  refine wpAny_pyIter_range (IsRange.new ..) hsm ?_;refine⟨(s.heap.push { cls:=.type "range",data:=.fields #[.int lo t,.int hi u,.int 1 v] }).objs.size,[(s.heap.push { cls:=.type "range",data:=.fields #[.int lo t,.int hi u,.int 1 v] }).objs.size],_,_,H,rfl,
   I1.kept (t':=tk) fun b o e=>get?_push_of_some _ e,zk0 _ lo (hi - lo).toNat,?_,fun b hb=>?_,q⟩
  ·show IsRangeIter _ _ (lo+((0:Nat):Int)*1) ((((hi - lo).toNat:Nat):Int) - ((0:Nat):Int)) 1;rw [e1,e2];exact get?_push_size _ rfl
  ·have e:b=(s.heap.push { cls:=.type "range",data:=.fields #[.int lo t,.int hi u,.int 1 v] }).objs.size:=by simpa using hb
   subst e;exact I1.fpOk (le_refl _) (I1.hok.fresh (le_refl _))
 | false =>
  refine wpAny_pyIter_longrange (IsRange.new ..) hsm ?_;refine⟨(s.heap.push { cls:=.type "range",data:=.fields #[.int lo t,.int hi u,.int 1 v] }).objs.size,[(s.heap.push { cls:=.type "range",data:=.fields #[.int lo t,.int hi u,.int 1 v] }).objs.size],_,_,H,rfl,
   I1.kept (t':=tk) fun b o e=>get?_push_of_some _ e,zny _ lo (hi - lo).toNat,?_,fun b hb=>?_,q⟩
  ·show IsLongIter _ _ (lo+((0:Nat):Int)*1) ((((hi - lo).toNat:Nat):Int) - ((0:Nat):Int)) 1;rw [e1,e2];exact get?_push_size _ rfl
  ·have e:b=(s.heap.push { cls:=.type "range",data:=.fields #[.int lo t,.int hi u,.int 1 v] }).objs.size:=by simpa using hb
   subst e;exact I1.fpOk (le_refl _) (I1.hok.fresh (le_refl _))
def zo2(ta:TA):TI:=fun σ H R=>ta σ H fun vs H1=>∃ j:Int,vs=[.int j]/\R (Itr 0 j.toNat) H1
theorem zaj{a:Expr}{ta:TA}{p pos:Pos}(hg:Gl X "range")(hm:X.mg "range" = none)(ha:PA X [a] ta)(hs:starEach [a] X.env=[(false,eval a X.env)]:=by rfl):PI X tg (.Call (.Name "range" p) [a] [] pos) (zo2 ta):=by
 intro zh s σ H R I h;refine Call_ (zcF I hg hm boot_range (PyProof.Rows.callWith_type1 (thn (ha pos zh s σ H _ I h) fun us s1 ⟨vs,H1,I1,r1,q1⟩=>?_) hs rfl));obtain⟨j,e,q⟩:=q1;subst e;cases r1 with
 | cons r rr =>
  cases rr;obtain⟨t,rfl⟩:=r;exact call_range_1 (zmY I1 (by simpa using q))
end
def zay(a:DA):DI:=fun δ S R=>a δ S fun xs S1=>arg1 xs fun x=>asI x fun j=>R (ze6 0 j.toNat) S1
def zlG(a:DA):DI:=fun δ S R=>a δ S fun xs S1=>arg2 xs fun x y=>asI x fun i=>asI y fun j=>R (ze6 i (j - i).toNat) S1
theorem zcO{ta:TA}{da:DA}(ha:RA ta da):RI (zo2 ta) (zay da):=fun h o H δ σ S R Q he hs q c =>
 ha h o H δ σ S _ _ he hs q fun o1 H1 S1 xs vs e1 s1 x1 d0=>by
  obtain⟨x,rfl,d2⟩:=zaG d0;obtain⟨j,rfl,d1⟩:=zbj d2;obtain⟨v,rfl,hv⟩:=hxs1 x1;rw [zaT hv];exact⟨j,rfl,c o1 H1 S1 _ _ e1 s1 zmB d1⟩
end
section
open Sem (wp)
open AutoSeq1 (wpAny_loadPart')
section
variable {X:Cx} {zh:List (Addr×Obj)} {σ:St} {H:Hp} {s:Shared} {h':Heap}
theorem Inv.turnLaid{t':Nat}{ch:List Addr}{T:Addr}{o:HO}(I:Inv X zh σ H s)(k:∀ b u,b∉ch->s.heap.get? b=some u->h'.get? b=some u)(hf:∀ b∈ch,FpOk X zh H b)(hT:s.heap.objs.size<=T)
  (new:ObjOk X.prog X.w (upd H T o) h' T o):Inv X zh σ (upd H T o) { s with heap:=h',toks:=t' }:=by
 have hn:H T=none:=I.hok.fresh hT;have nch:∀ b u,H b=some u->b∉ch:=fun b u e m=>by rw [(hf b m).1] at e; cases e
 have neT:∀ b u,s.heap.get? b=some u->b≠T:=fun b u e z=>absurd (lt_of_lt_of_le (lt_size e) hT) (by rw [z]; exact lt_irrefl _);have up:∀ b u,H b=some u->upd H T o b=some u:=fun b u e=>(zI (zE e hn)).trans e;refine I.step (g':=s.gens) (d':=s.drawn) (ch:=ch) (fun b hb=>?_) (fun b u _ _ hc e _=>k b u hc e) (fun b u _ _ hc e _=>⟨u.slots,k b u hc e⟩) (fun b u _ e n=>(zI (neT b u e)).trans n)
  (fun b u hc e=>⟨u,k b u hc e⟩) (fun b xs e=>up b _ e) (fun b u v e=>up b _ e) (fun b ps e=>up b _ e) (fun m hm=>?_) (fun b u e=>?_) I.bare
 ·obtain⟨_,f1,_,f3,f4,f5⟩:=hf b hb;exact⟨f3,f1,f4,f5⟩
 ·obtain⟨ob,es,ep,ho,r⟩:=hm;exact⟨ob,es,ep,k _ ob (fun z=>(hf _ z).2.1 rfl) ho,r⟩
 ·by_cases hb:b=T
  ·subst hb;rw [zZ] at e;cases e;exact new
  ·rw [zI hb] at e;refine(I.hok b u e).stay (fun c v hc q=>k c v ?_ q) (fun c q=>up c _ q) (fun c xs q=>up c _ q) fun c o u q=>up c _ q;rcases hc with z | z
   ·rw [z]; exact nch b u e
   ·exact nch c _ z
theorem Inv.turnedN{t':Nat}{ch:List Addr}(I:Inv X zh σ H s)(k:∀ b u,b∉ch->s.heap.get? b=some u->h'.get? b=some u)(hf:∀ b∈ch,FpOk X zh H b):Inv X zh σ H { s with heap:=h',toks:=t' }:=by
 have nch:∀ b u,H b=some u->b∉ch:=fun b u e m=>by rw [(hf b m).1] at e; cases e
 refine I.step (g':=s.gens) (d':=s.drawn) (ch:=ch) (fun b hb=>?_) (fun b u _ _ hc e _=>k b u hc e) (fun b u _ _ hc e _=>⟨u.slots,k b u hc e⟩) (fun b u _ e n=>n)
  (fun b u hc e=>⟨u,k b u hc e⟩) (fun b xs e=>e) (fun b u v e=>e) (fun b ps e=>e) (fun m hm=>?_) (fun b u e=>?_) I.bare
 ·obtain⟨_,f1,_,f3,f4,f5⟩:=hf b hb;exact⟨f3,f1,f4,f5⟩
 ·obtain⟨ob,es,ep,ho,r⟩:=hm;exact⟨ob,es,ep,k _ ob (fun z=>(hf _ z).2.1 rfl) ho,r⟩
 ·refine(I.hok b u e).stay (fun c v hc q=>k c v ?_ q) (fun _ q=>q) fun _ _ q=>q;rcases hc with z | z
  ·rw [z]; exact nch b u e
  ·exact nch c _ z
end
section
variable {prog:Program} {w:World} {A:Around} {E:Value->Shared->Prop} {s:Shared}
theorem zgH{j t:Addr}{i:Nat}{vs:Array Value}{x:Value}{Q:Value->Shared->Prop}(hj:s.heap.IsTupleIter j t i)(ht:s.heap.IsTuple t vs)(hx:vs[i]? = some x)
  (hQ:∀ g,g.IsTupleIter j t (i+1)->Heap.SameBut j s.heap g->Q x { s with heap:=g }):wpAny (model prog w) A (Builtin.SmallTypes.nextOf (.ref j)) Q E s:=by
 obtain⟨oj,ej,cj,dj⟩:=id hj;obtain⟨ot,et,_,nt,dt⟩:=ht;unfold Builtin.SmallTypes.nextOf;refine wpAny_bind (wpAny_callSpecial?_slot (name:=Str.ofString "__next__") hj.typeIs F.slot_tuple_iterator_next (wpAny_call_entry F.slot_tuple_iterator_next hj.typeIs F.entry_tuple_iterator_next ?_ (F.args_tuple_iterator_next_1 _)));show wpAny _ _ (field (.ref j) 0 >>= _) _ _ s;refine wpAny_bind (wpAny_field ej dj (x:=.ref t) rfl ?_);show wpAny _ _ (ite ((Value.ref t == Value.none)=true) _ _) _ _ s;refine(if_neg (show ¬ ((Value.ref t == Value.none)=true) from Bool.false_ne_true))▸?_;show wpAny _ _ (field (.ref j) 1 >>= _) _ _ s;refine wpAny_bind (wpAny_field ej dj (x:=.int i 0) rfl ?_);refine wpAny_bind (m:=seqItems? (.ref t)) (wpAny_seqItems et dt ?_);simp only [hx,Int.toNat_natCast];refine wpAny_bind (wpAny_setField ej dj (by simp) (wpAny_pure ⟨x,rfl,wpAny_pure (hQ _ ⟨_,get?_update_self _ ej (Obj.isFreed_of_fields (Obj.data_mapFields dj _)),(Obj.cls_mapFields ..).trans cj,?_⟩ (Heap.SameBut.update ..))⟩));rw [Obj.data_mapFields dj];simp [rawInt]
theorem zdC{j t:Addr}{i:Nat}{vs:Array Value}{Q:Value->Shared->Prop}(hh:A.handled=none)(hj:s.heap.IsTupleIter j t i)(ht:s.heap.IsTuple t vs)(hx:vs[i]? = none)
  (hE:∀ g e,Heap.ExtBut j s.heap g->(∃ o,g.get? e=some o/\o.cls=.type "StopIteration")->E (.ref e) { s with heap:=g }):wpAny (model prog w) A (Builtin.SmallTypes.nextOf (.ref j)) Q E s:=by
 obtain⟨oj,ej,cj,dj⟩:=id hj;obtain⟨ot,et,_,nt,dt⟩:=ht;unfold Builtin.SmallTypes.nextOf;refine wpAny_bind (wpAny_callSpecial?_slot (name:=Str.ofString "__next__") hj.typeIs F.slot_tuple_iterator_next (wpAny_call_entry F.slot_tuple_iterator_next hj.typeIs F.entry_tuple_iterator_next ?_ (F.args_tuple_iterator_next_1 _)));show wpAny _ _ (field (.ref j) 0 >>= _) _ _ s;refine wpAny_bind (wpAny_field ej dj (x:=.ref t) rfl ?_);show wpAny _ _ (ite ((Value.ref t == Value.none)=true) _ _) _ _ s;refine(if_neg (show ¬ ((Value.ref t == Value.none)=true) from Bool.false_ne_true))▸?_;show wpAny _ _ (field (.ref j) 1 >>= _) _ _ s;refine wpAny_bind (wpAny_field ej dj (x:=.int i 0) rfl ?_);refine wpAny_bind (m:=seqItems? (.ref t)) (wpAny_seqItems et dt ?_);simp only [hx,Int.toNat_natCast];refine wpAny_bind (wpAny_rule (wpAny_bind (wpAny_setField ej dj (by simp) ?_)));show wpAny _ _ (newExc (.type "StopIteration") [] >>= _) _ _ _;refine wpAny_bind ?_;simp only [newExc,newTuple];refine wpAny_bind (wpAny_newObj_type ?_ (by size_fits)); refine wpAny_bind (m:=firstArgMember _ _) (wpAny_of_eq (a:=Value.none) (by first | rfl | (simp only [firstArgMember]; rfl)) ?_);refine wpAny_newObj_type ?_ (by size_fits); simp only [raiseNew];refine wpAny_bind (wpAny_handled ?_)
 first | rw [show A.in1.handled=none from hh] | rw [hh]
 exact wpAny_bind (wpAny_pure (wpAny_throw (hE _ _ (((Heap.SameBut.update ..).extBut.push _).push _) ⟨_,get?_push_size _ rfl,rfl⟩)))
theorem zlB{e j:Addr}{i:Nat}{x old:Value}{J:Heap->Prop}{Q:Value->Shared->Prop}(he:IsEnum s.heap e j i old)(hne:e≠j)
  (hn:∀ (Q':Value->Shared->Prop) (E':Value->Shared->Prop),(∀ g,J g->Heap.SameBut j s.heap g->Q' x { s with heap:=g })->wpAny (model prog w) A (Builtin.SmallTypes.nextOf (.ref j)) Q' E' s)
  (hJ:∀ g g',J g->(∀ o,g.get? j=some o->g'.get? j=some o)->J g')
  (hQ:∀ g,IsEnumOut g e j ((i:Int)+1) x s.heap.objs.size->J g->g.get? s.heap.objs.size=some { cls:=.type "tuple",data:=.seq #[.int i s.toks,x] } ->
   (∀ b o,b≠e->b≠j->s.heap.get? b=some o->g.get? b=some o)->Q (.ref s.heap.objs.size) { s with heap:=g,toks:=s.toks+1 }) :
  wpAny (model prog w) A (Builtin.«enumerate.__next__» ⟨[.ref e],[]⟩) (fun fin s'=>∃ v,fin=.done (.ret v)/\Q v s') E s:=by
 obtain⟨h0,gs,dr,tk,os⟩:=s;show wpAny _ _ (field (.ref e) 2 >>= _) _ _ _;refine wpAny_bind (wpAny_field he rfl (x:=.ref j) rfl (wpAny_bind (hn _ _ fun g1 J1 b1=>?_)));replace b1:Heap.SameBut j h0 g1:=b1;have e1:IsEnum g1 e j i old:=(b1.2 e hne).trans he;show wpAny _ _ (field (.ref e) 3 >>= _) _ _ ⟨g1,gs,dr,tk,os⟩;refine wpAny_bind (wpAny_field e1 rfl (x:=rawInt i) rfl ?_);show wpAny _ _ (field (.ref e) 4 >>= _) _ _ ⟨g1,gs,dr,tk,os⟩;refine wpAny_bind (wpAny_field e1 rfl (x:=.none) rfl ?_);show wpAny _ _ (mkInt i >>= _) _ _ ⟨g1,gs,dr,tk,os⟩;refine wpAny_bind (wpAny_mkInt ?_);show wpAny _ _ (setField (.ref e) 3 (rawInt ((i:Int)+1)) >>= _) _ _ ⟨g1,gs,dr,tk+1,os⟩;refine wpAny_bind (wpAny_setField_rec e1 (by simp) fun g2 e2 b2=>?_);replace b2:Heap.SameBut e g1 g2:=b2;replace e2:IsEnum g2 e j ((i:Int)+1) old:=e2;show wpAny _ _ (setField (.ref e) 4 .none >>= _) _ _ ⟨g2,gs,dr,tk+1,os⟩;refine wpAny_bind (wpAny_setField_rec e2 (by simp) fun g3 e3 b3=>?_);replace b3:Heap.SameBut e g2 g3:=b3;replace e3:IsEnum g3 e j ((i:Int)+1) old:=e3;show wpAny _ _ (newTuple [.int i tk,x] >>= _) _ _ ⟨g3,gs,dr,tk+1,os⟩;refine wpAny_bind (wpAny_newTuple ?_);have sz:g3.objs.size=h0.objs.size:=by rw [b3.1,b2.1,b1.1]
 have lt:e<h0.objs.size:=lt_size he;have e4:IsEnum (g3.push { cls:=.type "tuple",data:=.seq #[.int i tk,x] }) e j ((i:Int)+1) old:=get?_push_of_some _ e3;have J3:J g3:=hJ _ _ (hJ _ _ J1 fun o q=>b2.extBut j o (Ne.symm hne) q) fun o q=>b3.extBut j o (Ne.symm hne) q;have J4:J (g3.push { cls:=.type "tuple",data:=.seq #[.int i tk,x] }):=hJ _ _ J3 fun o q=>get?_push_of_some _ q;have t4:(g3.push { cls:=.type "tuple",data:=.seq #[.int i tk,x] }).get? h0.objs.size=some { cls:=.type "tuple",data:=.seq #[.int i tk,x] }:=by rw [<- sz]; exact get?_push_size _ rfl
 have k4:∀ b o,b≠e->b≠j->h0.get? b=some o->(g3.push { cls:=.type "tuple",data:=.seq #[.int i tk,x] }).get? b=some o:=fun b o n1 n2 q=>get?_push_of_some _ (b3.extBut b o n1 (b2.extBut b o n1 (b1.extBut b o n2 q)));generalize g3.push { cls:=.type "tuple",data:=.seq #[.int i tk,x] } = g4 at e4 J4 t4 k4 ⊢;show wpAny _ _ (Builtin.SmallTypes.ownedTupleIsFree (.ref e) >>= _) _ _ ⟨g4,gs,dr,tk+1,os⟩;rw [sz];refine wpAny_bind ?_;unfold Builtin.SmallTypes.ownedTupleIsFree;refine wpAny_bind (wpAny_field e4 rfl (x:=.none) rfl (wpAny_pure ?_));simp only [if_true];refine wpAny_bind (wpAny_rule (wpAny_bind (wpAny_field e4 rfl (x:=old) rfl (wpAny_bind (wpAny_setField_rec e4 (by simp) fun g5 e5 b5=>?_)))));replace b5:Heap.SameBut e g4 g5:=b5;replace e5:IsEnum g5 e j ((i:Int)+1) x:=e5;show wpAny _ _ (Builtin.SmallTypes.ownedTupleHandOut (.ref e) (.ref h0.objs.size) >>= _) _ _ ⟨g5,gs,dr,tk+1,os⟩;refine wpAny_bind ?_;unfold Builtin.SmallTypes.ownedTupleHandOut;refine wpAny_bind (wpAny_setField_rec e5 (by simp) fun g6 e6 b6=>?_);replace b6:Heap.SameBut e g5 g6:=b6;replace e6:IsEnumOut g6 e j ((i:Int)+1) x h0.objs.size:=e6;refine wpAny_setField_rec e6 (by simp) fun g7 e7 b7=>?_;replace b7:Heap.SameBut e g6 g7:=b7;replace e7:IsEnumOut g7 e j ((i:Int)+1) x h0.objs.size:=e7;have k7:∀ b o,b≠e->g4.get? b=some o->g7.get? b=some o:=fun b o n q=>b7.extBut b o n (b6.extBut b o n (b5.extBut b o n q));exact wpAny_bind (wpAny_letGo (wpAny_pure ⟨_,rfl,hQ g7 e7 (hJ _ _ J4 fun o q=>k7 j o (Ne.symm hne) q) (k7 _ _ (ne_of_gt lt) t4) fun b o n1 n2 q=>k7 b o n1 (k4 b o n1 n2 q)⟩))
theorem ziz{e j:Addr}{i:Nat}{x old:Value}{J:Heap->Prop}{Q:Option Value->Shared->Prop}(he:IsEnum s.heap e j i old)(hne:e≠j)
  (hn:∀ (A:Around) (Q':Value->Shared->Prop) (E':Value->Shared->Prop),(∀ g,J g->Heap.SameBut j s.heap g->Q' x { s with heap:=g })->wpAny (model prog w) A (Builtin.SmallTypes.nextOf (.ref j)) Q' E' s)
  (hJ:∀ g g',J g->(∀ o,g.get? j=some o->g'.get? j=some o)->J g')
  (hQ:∀ g,IsEnumOut g e j ((i:Int)+1) x s.heap.objs.size->J g->g.get? s.heap.objs.size=some { cls:=.type "tuple",data:=.seq #[.int i s.toks,x] } ->
   (∀ b o,b≠e->b≠j->s.heap.get? b=some o->g.get? b=some o)->Q (some (.ref s.heap.objs.size)) { s with heap:=g,toks:=s.toks+1 }):wpAny (model prog w) A (pyNext (.ref e)) Q E s:=by
 have ty:s.TypeIs (.ref e) "enumerate":=⟨_,he,rfl⟩;unfold pyNext;exact wpAny_bind (wpAny_attempt (wpAny_callSpecial?_slot (name:=Str.ofString "__next__") ty F.slot_enumerate_next (wpAny_call_entry F.slot_enumerate_next ty F.entry_enumerate_next (zlB he hne (hn _) hJ fun g a b c k=>wpAny_pure (hQ g a b c k)) (F.args_enumerate_next_1 _))))
theorem zit{e j:Addr}{i:Nat}{old:Value}{Q:Option Value->Shared->Prop}(hh:A.handled=none)(he:IsEnum s.heap e j i old)
  (hn:∀ (A:Around) (Q':Value->Shared->Prop) (E':Value->Shared->Prop),A.handled=none->(∀ g x,Heap.ExtBut j s.heap g->(∃ o,g.get? x=some o/\o.cls=.type "StopIteration")->E' (.ref x) { s with heap:=g })->wpAny (model prog w) A (Builtin.SmallTypes.nextOf (.ref j)) Q' E' s)
  (hQ:∀ g,Heap.ExtBut j s.heap g->Q none { s with heap:=g }):wpAny (model prog w) A (pyNext (.ref e)) Q E s:=by
 have ty:s.TypeIs (.ref e) "enumerate":=⟨_,he,rfl⟩;unfold pyNext;refine wpAny_bind (wpAny_attempt (wpAny_callSpecial?_slot (name:=Str.ofString "__next__") ty F.slot_enumerate_next (wpAny_call_entry F.slot_enumerate_next ty F.entry_enumerate_next ?_ (F.args_enumerate_next_1 _))));show wpAny _ _ (field (.ref e) 2 >>= _) _ _ _;refine wpAny_bind (wpAny_field he rfl (x:=.ref j) rfl (wpAny_bind (hn _ _ _ hh fun g x b hx=>?_)));obtain⟨o,ho,hc⟩:=hx;exact wpAny_bind (wpAny_isInstance (T:="StopIteration") (b:=true) ⟨o,ho,hc⟩ isSubtype_stop (wpAny_pure (hQ _ b)))
theorem zp7(t:Addr)(vs:Array Value)(n:Nat)(dct:Option Addr)(sl:Array (Option Value)):Meets (Builtin.«enumerate.__new__» ⟨[.type "enumerate",.ref t],[]⟩) (fun _ R s=>s.heap.get? t=some { cls:=.type "tuple",dict:=dct,data:=.seq vs n,slots:=sl } /\
   R (.ok (.ret (.ref (s.heap.push { cls:=.type "tuple_iterator",data:=.fields #[.ref t,.int 0 0] }).objs.size)))
    { s with heap:=(s.heap.push { cls:=.type "tuple_iterator",data:=.fields #[.ref t,.int 0 0] }).push { cls:=.type "enumerate",data:=.fields #[.none,.bool false,.ref s.heap.objs.size,rawInt 0,.none,.none] } }) :=
 .of_wp fun prog w A R s hyp=>by
  obtain⟨g0,gs,dr,tk,os⟩:=s;obtain⟨ht,hyp⟩:=hyp;have sub:=sub_enumerate;have hT:Heap.IsTuple (Shared.heap ⟨g0,gs,dr,tk,os⟩) t vs:=⟨_,ht,rfl,n,rfl⟩
  wp_walk using wpAny_loadPart' ht
  refine wpAny_stack_any fun _=>wpAny_pure ?_;split
  ·rename_i c _ _ _ _ _;cases (c == Value.type "enumerate") <;> (wp_walk using wpAny_loadPart' ht,wpAny_pyIter_tuple hT; exact⟨_,rfl,hyp⟩)
  ·wp_walk using wpAny_loadPart' ht,wpAny_pyIter_tuple hT
   exact⟨_,rfl,hyp⟩
theorem zhi{t:Addr}{vs:Array Value}{Q:Value->Shared->Prop}(hT:s.heap.IsTuple t vs)
  (hyp:∀ g,IsEnum g (s.heap.objs.size+1) s.heap.objs.size 0 .none->g.IsTupleIter s.heap.objs.size t 0->(∀ b o,s.heap.get? b=some o->g.get? b=some o)->Q (.ref (s.heap.objs.size+1)) { s with heap:=g }):wpAny (model prog w) A (call (.type "enumerate") [.ref t]) Q E s:=by
 obtain⟨⟨c,dct,dt,sl⟩,ht,hc,n,hd⟩:=hT;replace hc:c=.type "tuple":=hc;replace hd:dt=.seq vs n:=hd;subst hc hd;refine callType_new F.called_enumerate dz (F.typeCall_enumerate_1 _) (F.newCall_enumerate_1 _) (fun ob=>F.args_object_init_2 ob _) F.entry_enumerate_new (zp7 t vs n dct sl) ⟨ht,?_⟩;have sz:(s.heap.push { cls:=.type "tuple_iterator",data:=.fields #[.ref t,.int 0 0] }).objs.size=s.heap.objs.size+1:=size_push ..;show _/\_;rw [sz];have he:=get?_push_size (s.heap.push { cls:=.type "tuple_iterator",data:=.fields #[.ref t,.int 0 0] }) (o:={ cls:=.type "enumerate",data:=.fields #[.none,.bool false,.ref s.heap.objs.size,rawInt 0,.none,.none] }) rfl;rw [sz] at he;exact⟨⟨_,he,rfl⟩,hyp _ he ⟨_,get?_push_of_some _ (get?_push_size _ rfl),rfl,rfl⟩ fun b o q=>get?_push_of_some _ (get?_push_of_some _ q)⟩
end
def Ite(Sq:Hp->Addr->List V->Prop)(a:Addr):It :=
 ⟨fun i H=>∃ xs x,Sq H a xs/\xs[i]? = some x,fun i H x H'=>∃ p v,H p=none/\x=.ref p/\H'=upd H p (.tup [.int i,v])/\∀ xs,Sq H a xs->xs[i]? = some v,fun i H=>∃ xs,Sq H a xs/\xs.length<=i⟩
theorem zkG{P:Program}{w:World}{K:W.Frag}{elts:List Expr}{n:Nat}{pos:Pos}(a e j:Addr)(hej:e≠j):Turn P w K (.Tuple elts n pos) (Ite (SqT K) a) [e,j] e (fun i h=>(∃ old,IsEnum h e j i old)/\h.IsTupleIter j a i) where
 mem:=by simp
 obj:=fun i h ⟨⟨old,he⟩,hj⟩ b hb=>by
  rcases mem_cons.mp hb with rfl | hb
  ·exact⟨_,he,fun v z=>by
    have z':Data.fields _=Data.cell v:=z;cases z'⟩
  ·rw [mem_singleton.mp hb];obtain⟨o,q,c,d⟩:=hj;exact⟨o,q,fun v z=>by rw [d] at z; cases z⟩
 keep:=fun i h h' ⟨⟨old,he⟩,hj⟩ k=>⟨⟨old,k e (by simp) _ he⟩,hj.at fun o q=>k j (by simp) o q⟩
 item:=by
  intro X hP hw hK hc i zh s σ H E I hf ⟨⟨old,he⟩,hj⟩ hg;subst hP hw hK;obtain⟨xs,x,hq,hx⟩:=hg;obtain⟨its,rv,p,hz⟩:=I.tuple hq;obtain⟨u,hu,ru⟩:=rv.get hx;have hT:s.heap.IsTuple a its.toArray:=p;refine ziz (J:=fun g=>g.IsTupleIter j a (i+1)) he hej (fun A' Q' E' k=>zgH hj hT (x:=u) (by simpa using hu) k) (fun g g' z k=>z.at k) fun g e1 j1 t1 k1=>?_;refine⟨_,rfl,wpAny_letOwnedTupleGo_enum (s:={ s with heap:=g,toks:=s.toks+1 }) e1 fun g' e2 b2=>?_⟩;have lt:e<s.heap.objs.size:=lt_size he;have ltj:j<s.heap.objs.size:=by
   obtain⟨_,q,_⟩:=hj;exact lt_size q
  have t2:g'.get? s.heap.objs.size=some { cls:=.type "tuple",data:=.seq #[.int i s.toks,u] }:=(b2.2 _ (ne_of_gt lt)).trans t1;have neT:H s.heap.objs.size=none:=I.hok.fresh (le_refl _);refine⟨.ref s.heap.objs.size,upd H s.heap.objs.size (.tup [.int i,x]),I.turnLaid (ch:=[e,j]) (t':=s.toks+1) (fun b o nb q=>(b2.2 b fun z=>nb (by simp [z])).trans (k1 b o (fun z=>nb (by simp [z])) (fun z=>nb (by simp [z])) q)) hf (le_refl _) ?_,rfl,
   ⟨_,x,neT,rfl,rfl,fun ys hy=>by rw [I.tuple_inj hy hq]; exact hx⟩,⟨⟨u,by simpa using e2⟩,j1.at fun o q=>(b2.2 j (Ne.symm hej)).trans q⟩,fun b hb=>?_⟩
  ·refine⟨⟨by show 2<=sizeLine; decide,_,t2,rfl⟩,[.int i s.toks,u],.cons ⟨s.toks,rfl⟩ (.cons ru .nil),⟨_,t2,rfl,_,rfl⟩⟩
  ·rcases mem_cons.mp hb with rfl | hb
   ·rw [zI (ne_of_lt lt)];exact(hf _ (by simp)).1
   ·rw [mem_singleton.mp hb,zI (ne_of_lt ltj)];exact(hf _ (by simp)).1
 done:=by
  intro X hP hw hK hc i zh s σ H E I hf ⟨⟨old,he⟩,hj⟩ hg;subst hP hw hK;obtain⟨xs,hq,hx⟩:=hg;obtain⟨its,rv,p,hz⟩:=I.tuple hq;have hT:s.heap.IsTuple a its.toArray:=p;have hl:=rv.length;exact zit (I.ok.hd hc) he (fun A' Q' E' h0 k=>zdC h0 hj hT (by simp; omega) k) fun g b=>⟨rfl,I.turnedN (ch:=[e,j]) (t':=s.toks) (fun b' o nb q=>b b' o (fun z=>nb (by simp [z])) q) hf⟩
 self:=fun _ _ _ _ _ st h=>by
  obtain⟨⟨old,he⟩,_⟩:=st;exact wpAny_pyIter_enum he h
theorem zkX{P:Program}{w:World}{K:W.Frag}{elts:List Expr}{n:Nat}{pos:Pos}(a e j:Addr)(hej:e≠j):Turn P w K (.Tuple elts n pos) (Ite (SqL K) a) [e,j] e (fun i h=>(∃ old,IsEnum h e j i old)/\h.IsListIter j a i) where
 mem:=by simp
 obj:=fun i h ⟨⟨old,he⟩,hj⟩ b hb=>by
  rcases mem_cons.mp hb with rfl | hb
  ·exact⟨_,he,fun v z=>by
    have z':Data.fields _=Data.cell v:=z;cases z'⟩
  ·rw [mem_singleton.mp hb];obtain⟨o,q,c,d⟩:=hj;exact⟨o,q,fun v z=>by rw [d] at z; cases z⟩
 keep:=fun i h h' ⟨⟨old,he⟩,hj⟩ k=>⟨⟨old,k e (by simp) _ he⟩,hj.at fun o q=>k j (by simp) o q⟩
 item:=by
  intro X hP hw hK hc i zh s σ H E I hf ⟨⟨old,he⟩,hj⟩ hg;subst hP hw hK;obtain⟨xs,x,hq,hx⟩:=hg;obtain⟨its,rv,p,hz⟩:=I.list hq;obtain⟨u,hu,ru⟩:=rv.get hx;have hT:s.heap.IsList a its.toArray:=p.isList;refine ziz (J:=fun g=>g.IsListIter j a (i+1)) he hej (fun A' Q' E' k=>wpAny_nextOf_list_item hj hT (x:=u) (by simpa using hu) k) (fun g g' z k=>z.at k) fun g e1 j1 t1 k1=>?_;refine⟨_,rfl,wpAny_letOwnedTupleGo_enum (s:={ s with heap:=g,toks:=s.toks+1 }) e1 fun g' e2 b2=>?_⟩;have lt:e<s.heap.objs.size:=lt_size he;have ltj:j<s.heap.objs.size:=by
   obtain⟨_,q,_⟩:=hj;exact lt_size q
  have t2:g'.get? s.heap.objs.size=some { cls:=.type "tuple",data:=.seq #[.int i s.toks,u] }:=(b2.2 _ (ne_of_gt lt)).trans t1;have neT:H s.heap.objs.size=none:=I.hok.fresh (le_refl _);refine⟨.ref s.heap.objs.size,upd H s.heap.objs.size (.tup [.int i,x]),I.turnLaid (ch:=[e,j]) (t':=s.toks+1) (fun b o nb q=>(b2.2 b fun z=>nb (by simp [z])).trans (k1 b o (fun z=>nb (by simp [z])) (fun z=>nb (by simp [z])) q)) hf (le_refl _) ?_,rfl,
   ⟨_,x,neT,rfl,rfl,fun ys hy=>by rw [I.list_inj hy hq]; exact hx⟩,⟨⟨u,by simpa using e2⟩,j1.at fun o q=>(b2.2 j (Ne.symm hej)).trans q⟩,fun b hb=>?_⟩
  ·refine⟨⟨by show 2<=sizeLine; decide,_,t2,rfl⟩,[.int i s.toks,u],.cons ⟨s.toks,rfl⟩ (.cons ru .nil),⟨_,t2,rfl,_,rfl⟩⟩
  ·rcases mem_cons.mp hb with rfl | hb
   ·rw [zI (ne_of_lt lt)];exact(hf _ (by simp)).1
   ·rw [mem_singleton.mp hb,zI (ne_of_lt ltj)];exact(hf _ (by simp)).1
 done:=by
  intro X hP hw hK hc i zh s σ H E I hf ⟨⟨old,he⟩,hj⟩ hg;subst hP hw hK;obtain⟨xs,hq,hx⟩:=hg;obtain⟨its,rv,p,hz⟩:=I.list hq;have hT:s.heap.IsList a its.toArray:=p.isList;have hl:=rv.length;exact zit (I.ok.hd hc) he (fun A' Q' E' h0 k=>wpAny_nextOf_list_end h0 hj hT (by simp; omega) k) fun g b=>⟨rfl,I.turnedN (ch:=[e,j]) (t':=s.toks) (fun b' o nb q=>b b' o (fun z=>nb (by simp [z])) q) hf⟩
 self:=fun _ _ _ _ _ st h=>by
  obtain⟨⟨old,he⟩,_⟩:=st;exact wpAny_pyIter_enum he h
section
variable {X:Cx} {elts:List Expr} {n:Nat} {tpos:Pos}
theorem zgh:bootBuiltins "enumerate" = some (.type "enumerate"):=by decide +kernel
end
def zg9(i:Nat):List PyData->List PyData
 | []=>[]
 | d :: ds=>.tuple [.int i,d] :: zg9 (i+1) ds
theorem zdd:∀ (ds:List PyData) (i:Nat),(zg9 i ds).length=ds.length
 | [],_=>rfl
 | d :: ds,i=>by simp [zg9,zdd ds (i+1)]
theorem zd9:∀ (ds:List PyData) (i k:Nat) (d:PyData),(zg9 i ds)[k]? = some d->∃ e,ds[k]? = some e/\d=.tuple [.int ((i+k:Nat):Int),e]
 | [],_,_,_,h=>by simp [zg9] at h
 | c :: ds,i,0,d,h=>by
  have e:PyData.tuple [.int i,c]=d:=by simpa [zg9] using h
  exact⟨c,rfl,by rw [<- e]; rfl⟩
 | c :: ds,i,k+1,d,h=>by
  obtain⟨e,h1,h2⟩:=zd9 ds (i+1) k d (by simpa [zg9] using h);exact⟨e,by simpa using h1,by rw [h2]; congr 3; omega⟩
theorem zhJ{X:Cx}{x:Str}{i:Int}{pos:Pos}(hg:Gl X x)(hm:∃ t,X.mg x=some (.int i t))(hd:(x == ("__debug__":Str))=false:=by decide):PE X (.Name x pos) (tC (.int i)):=by
 obtain⟨t,e⟩:=hm;exact zb9 hg e ⟨t,rfl⟩ hd
end
section
def dIx:D2:=fun x y S R=>asI y fun i=>match x with
 | .d (.tuple ds)=>∃ d,atI ds i=some d/\R (.d d) S
 | .d (.list ds)=>∃ d,atI ds i=some d/\R (.d d) S
 | .l k=>∃ ds,S[k]? = some ds/\∃ d,atI ds i=some d/\R (.d d) S
 | .d (.str z)=>z.length<=sizeLine/\∃ c,atI z.cps.toList i=some c/\R (.d (.str ⟨#[c]⟩)) S
 | _=>False
theorem zs3:RO zt4 (fun x y S R=>asS x fun z=>asI y fun i=>z.length<=sizeLine/\∃ c,atI z.cps.toList i=some c/\R (.d (.str ⟨#[c]⟩)) S):=fun h o H S x y v u R Q hs hx hy q c=>by
 replace q:=zpq q;obtain⟨z,rfl,q⟩:=q;replace q:=zbj q;obtain⟨i,rfl,hz,k,ek,q⟩:=q;exact⟨z,i,k,zee hx,zaT hy,hz,ek,c o H S _ _ Ex.refl hs (xS _) q⟩
theorem zc5{K:W.Frag}:RO (rIx K) dIx:=fun h o H S x y v u R Q hs hx hy q c=>by
 replace q:=zbj q;obtain⟨i,rfl,q⟩:=q;split at q
 ·exact .inr (.inl (zsD h o H S _ _ v u R Q hs hx hy q c))
 ·exact .inl (zoW h o H S _ _ v u R Q hs hx hy ⟨_,rfl,q⟩ c)
 ·exact .inl (zoW h o H S _ _ v u R Q hs hx hy q c)
 ·exact .inr (.inr (zs3 h o H S _ _ v u R Q hs hx hy q c))
 ·exact q.elim
section
variable {S:Sto} {R:RX} {ds:List PyData} {i:Int} {k:Nat} {z:Str}
theorem ztd:dIx (.d (.tuple ds)) (.d (.int i)) S R=∃ d,atI ds i=some d/\R (.d d) S:=rfl
theorem zsm:dIx (.d (.list ds)) (.d (.int i)) S R=∃ d,atI ds i=some d/\R (.d d) S:=rfl
theorem zs0:dIx (.l k) (.d (.int i)) S R=∃ ds,S[k]? = some ds/\∃ d,atI ds i=some d/\R (.d d) S:=rfl
theorem zrQ:dIx (.d (.str z)) (.d (.int i)) S R=(z.length<=sizeLine/\∃ c,atI z.cps.toList i=some c/\R (.d (.str ⟨#[c]⟩)) S):=rfl
end
def zuv(K:W.Frag):V->Option Int->Option Int->Hp->VK->Prop:=fun x a b H Q=>zrZ K x a b H Q\/(ztS K x a b H Q\/zuF x a b H Q)
theorem ziX{X:Cx}:SlR X (zuv X.K):=zmr.or (zpS.or zsF)
def zmw:D3:=fun x i j S R=>match x with
 | .d (.tuple ds)=>¬ (HT.sIx ds.length 0 i=0/\HT.sIx ds.length ds.length j=ds.length)/\R (.d (.tuple (zdE ds i j))) S
 | .d (.list ds)=>R (.d (.list (zdE ds i j))) S
 | .l k=>∃ ds,S[k]? = some ds/\R (.d (.list (zdE ds i j))) S
 | .d (.str z)=>z.length<=sizeLine/\R (.d (.str (PySem.Txt.slice z i j))) S
 | _=>False
theorem zpw{K:W.Frag}:RL (zuv K) zmw:=fun h o H S x v a b R Q hs hx q c=>by
 unfold zmw at q;split at q
 ·exact .inr (.inl (zsr h o H S _ v a b R Q hs hx q c))
 ·exact .inl (zl6 h o H S _ v a b R Q hs hx ⟨_,rfl,q⟩ c)
 ·exact .inl (zl6 h o H S _ v a b R Q hs hx q c)
 ·exact .inr (.inr ⟨_,zee hx,q.1,c o H S _ _ Ex.refl hs (xS _) q.2⟩)
 ·exact q.elim
section
variable {S:Sto} {R:RX} {ds:List PyData} {i j:Option Int} {k:Nat} {z:Str}
theorem zpc:zmw (.d (.tuple ds)) i j S R=(¬ (HT.sIx ds.length 0 i=0/\HT.sIx ds.length ds.length j=ds.length)/\R (.d (.tuple (zdE ds i j))) S):=rfl
theorem zpx:zmw (.d (.list ds)) i j S R=R (.d (.list (zdE ds i j))) S:=rfl
theorem zph:zmw (.l k) i j S R=∃ ds,S[k]? = some ds/\R (.d (.list (zdE ds i j))) S:=rfl
theorem zpG:zmw (.d (.str z)) i j S R=(z.length<=sizeLine/\R (.d (.str (PySem.Txt.slice z i j))) S):=rfl
end
def zpm(K:W.Frag):R2:=fun x y H Q=>∃ a b ys,x=.ref a/\y=.ref b/\SqT K H a []/\SqT K H b ys/\Q (.ref b) H
theorem zoh{X:Cx}:OpR X (binaryOp .Add) (zpm X.K):=by
 intro zh s σ H x y v u Q I rx ry h;obtain⟨a,b,ys,rfl,rfl,ha,hb,q⟩:=h;cases rx;cases ry;obtain⟨its,r1,p1,_⟩:=I.tuple ha;obtain⟨its2,r2,p2,_⟩:=I.tuple hb;cases r1;obtain⟨⟨c1,d1,e1,l1⟩,o1,w1,n1,k1⟩:=id p1;obtain⟨⟨c2,d2,e2,l2⟩,o2,w2,n2,k2⟩:=id p2;simp only at w1 k1 w2 k2;subst w1 k1 w2 k2;exact concat_meets ⟨_,o1,rfl⟩ ⟨_,o2,rfl⟩ noFill_tuple_add seq_tuple_add PySem.F.slot_tuple_add PySem.F.entry_tuple_add (PySem.F.args_tuple_add_2 _ _) (tuple_addW0 a b _ _ n1 n2 d1 d2 l1 l2 (by simp)) ⟨o1,o2,⟨.ref b,H,I,rfl,q⟩⟩
def zrp(K:W.Frag):R2:=fun x y H Q=>rI0 (fun i j=>.int (i+j)) x y H Q\/(zrq x y H Q\/(zqd K x y H Q\/(zpm K x y H Q\/∃ i j,x=.str i/\y=.str j/\i.length+j.length<=sizeLine/\Q (.str (i++j)) H)))
theorem zH{X:Cx}:OpR X (binaryOp .Add) (zrp X.K):=zrC.or (zl3.or (zqb.or (zoh.or zk6)))
def zb4:D2:=fun x y S R=>match x,y with
 | .d (.int i),.d (.int j)=>R (.d (.int (i+j))) S
 | .d (.tuple ds),.d (.tuple es)=>ds.length+es.length<=1000/\R (.d (.tuple (ds++es))) S
 | .d (.str a),.d (.str b)=>a.length+b.length<=sizeLine/\R (.d (.str (a++b))) S
 | x,y=>asL S x fun ds=>asL S y fun es=>ds.length+es.length<=1000/\R (.d (.list (ds++es))) S
theorem zbz{K:W.Frag}:RO (zrp K) zb4:=fun h o H S x y v u R Q hs hx hy q c=>by
 unfold zb4 at q;split at q
 ·exact .inl (zrg h o H S _ _ v u R Q hs hx hy q c)
 ·rename_i ds es;cases ds with
  | cons d ds=>exact .inr (.inr (.inl (zqu h o H S _ _ v u R Q hs hx hy ⟨by simp,q⟩ c)))
  | nil =>
   obtain⟨a,vs,rfl,ea,l⟩:=zdj hx;obtain⟨b,us,rfl,eb,l'⟩:=zdj hy;rw [zC.mp l] at ea;exact .inr (.inr (.inr (.inl ⟨a,b,us,rfl,rfl,.of ea,.of eb,c o H S (.d (.tuple es)) _ Ex.refl hs hy q.2⟩)))
 ·exact .inr (.inr (.inr (.inr ⟨_,_,zee hx,zee hy,q.1,c o H S _ _ Ex.refl hs (xS _) q.2⟩)))
 ·exact .inr (.inl (zsV h o H S _ _ v u R Q hs hx hy q c))
section
variable {S:Sto} {R:RX} {ds es:List PyData} {i j:Int} {k l:Nat} {a b:Str}
theorem zo4:zb4 (.d (.int i)) (.d (.int j)) S R=R (.d (.int (i+j))) S:=rfl
theorem zpj:zb4 (.d (.tuple ds)) (.d (.tuple es)) S R=(ds.length+es.length<=1000/\R (.d (.tuple (ds++es))) S):=rfl
theorem zlN:zb4 (.d (.list ds)) (.d (.list es)) S R↔(ds.length+es.length<=1000/\R (.d (.list (ds++es))) S):=⟨fun⟨_,e,_,e',q⟩=>by cases e; cases e'; exact q,fun q=>⟨_,rfl,_,rfl,q⟩⟩
end
def ztb:R2:=fun x y H Q=>rI IntMulOk (fun i j=>.int (i*j)) x y H Q\/(zs2 x y H Q\/zus x y H Q)
theorem zaY{X:Cx}:OpR X (binaryOp .Mult) ztb:=zqw.or (zre.or zsi)
def zfh:D2:=fun x y S R=>asI y fun j=>match x with
 | .d (.int i)=>IntMulOk i j/\R (.d (.int (i*j))) S
 | .d (.str z)=>z.length<=1000/\j<=1000/\-1000<=j/\R (.d (.str (PySem.Txt.mul z j))) S
 | .d (.list ds)=>j<=1000/\-1000<=j/\ds.length*j.toNat<=1000/\R (.d (.list (List.replicate j.toNat ds).flatten)) S
 | _=>False
theorem HasL.rep{H:Hp}{ds:List PyData}{vs:List V}(l:HasL H ds vs):∀ n:Nat,HasL H (List.replicate n ds).flatten (List.replicate n vs).flatten
 | 0=>zC.mpr rfl
 | n+1=>by
  rw [replicate_succ,replicate_succ,flatten_cons,flatten_cons];exact l.append (HasL.rep l n)
theorem zf5:RO ztb zfh:=fun h o H S x y v u R Q hs hx hy q c=>by
 replace q:=zbj q;obtain⟨j,rfl,q⟩:=q;split at q
 ·exact .inl (zqN h o H S _ _ v u R Q hs hx hy q c)
 ·exact .inr (.inl ⟨_,_,zee hx,zaT hy,q.1,q.2.1,q.2.2.1,c o H S _ _ Ex.refl hs (xS _) q.2.2.2⟩)
 ·obtain⟨a,vs,rfl,ea,l⟩:=zbb (x:=.d (.list _)) hs rfl hx;obtain⟨h1,h2,h3,q⟩:=q;exact .inr (.inr ⟨a,j,vs,rfl,zaT hy,ea,by omega,by omega,by rw [l.length]; exact le_of_lt (small1000 h3),zlv hs (l.rep j.toNat) c q⟩)
 ·exact q.elim
section
variable {S:Sto} {R:RX} {i j:Int} {z:Str} {ds:List PyData}
theorem zpb:zfh (.d (.list ds)) (.d (.int j)) S R=(j<=1000/\-1000<=j/\ds.length*j.toNat<=1000/\R (.d (.list (List.replicate j.toNat ds).flatten)) S):=rfl
theorem zpo:zfh (.d (.int i)) (.d (.int j)) S R=(IntMulOk i j/\R (.d (.int (i*j))) S):=rfl
theorem zpl:zfh (.d (.str z)) (.d (.int j)) S R=(z.length<=1000/\j<=1000/\-1000<=j/\R (.d (.str (PySem.Txt.mul z j))) S):=rfl
end
def zui:R2:=fun x y H Q=>rI CDivX (fun i j=>.int (i / j)) x y H Q\/rI CDivN (fun i j=>.int (i.fdiv j)) x y H Q
theorem zlV{X:Cx}:OpR X (binaryOp .FloorDiv) zui:=znR.or znM
def dFd:D2:=fun x y S R=>asI x fun i=>asI y fun j=>(CDivX i j/\R (.d (.int (i / j))) S)\/(CDivN i j/\R (.d (.int (i.fdiv j))) S)
theorem ztT:RO zui dFd:=fun h o H S x y v u R Q hs hx hy q c=>by
 replace q:=zbj q;obtain⟨i,rfl,q⟩:=q;replace q:=zbj q;obtain⟨j,rfl,q⟩:=q;rcases q with q | q
 ·exact .inl (zqN (C:=CDivX) (g:=fun i j=>i / j) h o H S _ _ v u R Q hs hx hy q c)
 ·exact .inr (zqN (C:=CDivN) (g:=fun i j=>i.fdiv j) h o H S _ _ v u R Q hs hx hy q c)
def ztC(S:Sto):XV->Option Bool
 | .d .none=>some false
 | .d (.bool b)=>some b
 | .d (.int i)=>some (i != 0)
 | .d (.str z)=>if z.length<=sizeLine then some ((z.length:Int) != 0) else none
 | .d (.list ds)=>some (!ds.isEmpty)
 | .d (.tuple ds)=>some (!ds.isEmpty)
 | .l k=>(S[k]?).map fun ds=>!ds.isEmpty
 | _=>none
def zgZ(a:DE):DT:=fun δ S R=>a δ S fun x S1=>∃ k,ztC S1 x=some k/\R k S1
theorem zdO{H:Hp}{ds:List PyData}{vs:List V}(l:HasL H ds vs):(!ds.isEmpty) = !vs.isEmpty:=by
 have:=l.length;cases ds <;> cases vs <;> simp_all
theorem zcB{K:W.Frag}{ta:TE}{da:DE}(ha:RE ta da):RT (fun σ H Q=>ta σ H fun x H'=>∃ k,TruV K x H' k/\Q k H') (zgZ da):=fun h o H δ σ S R Q he hs q c =>
 ha h o H δ σ S _ _ he hs q fun o1 H1 S1 x v e1 s1 x1 ⟨k,ek,d1⟩=>by
  refine⟨k,?_,c o1 H1 S1 k e1 s1 d1⟩;unfold ztC at ek;split at ek
  ·cases ek; rw [(zdZ (H:=vx h o1 H1)).mp x1]; rfl
  ·cases ek; rw [zdh x1]; rfl
  ·cases ek; rw [zaT x1]; rfl
  ·split at ek
   ·rename_i hz;cases ek; rw [zee x1]; exact⟨hz,rfl⟩
   ·cases ek
  ·obtain⟨a,vs,rfl,ea,l⟩:=zbb (x:=.d (.list _)) s1 rfl x1;cases ek;exact .inl ⟨vs,.of ea,zdO l⟩
  ·obtain⟨a,vs,rfl,ea,l⟩:=zdj x1;cases ek;exact .inr (.inl ⟨vs,.of ea,zdO l⟩)
  ·rename_i j _;cases hj:S1[j]? with
   | none=>rw [hj] at ek; cases ek
   | some ds =>
    rw [hj] at ek;cases ek;obtain⟨a,vs,rfl,ea,l⟩:=zbb (x:=.l j) s1 hj x1;exact .inl ⟨vs,.of ea,zdO l⟩
  ·cases ek
section
variable {S:Sto} {b:Bool} {i:Int} {ds:List PyData} {k:Nat}
theorem zpv:ztC S (.d (.bool b))=some b:=rfl
theorem zpP:ztC S (.l k)=(S[k]?).map fun ds=>!ds.isEmpty:=rfl
end
def zkr:DS:=fun _ _ _=>False
theorem znN:RS zo6 zkr:=fun h o H δ σ S E D he hs q c=>q.elim
def zuo(K:W.Frag)(tl:TE):TI:=fun σ H R=>tl σ H fun x H1=>∃ a,x=.ref a/\(((∃ xs,SqL K H1 a xs)/\R (Itl K a) H1)\/((∃ xs,SqT K H1 a xs)/\R (Itt K a) H1))
theorem zaQ{X:Cx}{tg:Expr}{l:Expr}{tl:TE}(hl:PE X l tl):PI X tg l (zuo X.K tl):=by
 intro zh s σ H R I h;refine thn (hl zh s σ H _ I h) fun v s1 ⟨x,H1,I1,r1,q1⟩=>?_;obtain⟨a,e,⟨⟨xs,hq⟩,q⟩ | ⟨⟨xs,hq⟩,q⟩⟩:=q1
 ·subst e;cases r1;obtain⟨its,rv,p,hz⟩:=I1.list hq;refine wpAny_pyIter_list p.isList ?_;refine⟨s1.heap.objs.size,[s1.heap.objs.size],_,_,H1,rfl,I1.kept (t':=s1.toks) fun b o e=>get?_push_of_some _ e,ziv a _,⟨_,get?_push_size _ rfl,rfl,rfl⟩,fun b hb=>?_,q⟩;have e:b=s1.heap.objs.size:=by simpa using hb
  subst e;exact I1.fpOk (le_refl _) (I1.hok.fresh (le_refl _))
 ·subst e;cases r1;obtain⟨its,rv,p,hz⟩:=I1.tuple hq;refine wpAny_pyIter_tuple (show s1.heap.IsTuple a its.toArray from p) ?_;refine⟨s1.heap.objs.size,[s1.heap.objs.size],_,_,H1,rfl,I1.kept (t':=s1.toks) fun b o e=>get?_push_of_some _ e,zlm a _,⟨_,get?_push_size _ rfl,rfl,rfl⟩,fun b hb=>?_,q⟩;have e:b=s1.heap.objs.size:=by simpa using hb
  subst e;exact I1.fpOk (le_refl _) (I1.hok.fresh (le_refl _))
def zkJ:XV->Option (List PyData)
 | .d (.list ds)=>some ds
 | .d (.tuple ds)=>some ds
 | _=>none
theorem zoR{ds:List PyData}:zkJ (.d (.list ds))=some ds:=rfl
theorem zoS{ds:List PyData}:zkJ (.d (.tuple ds))=some ds:=rfl
def zbE(e:DE):DI:=fun δ S R=>e δ S fun x S1=>∃ ds,zkJ x=some ds/\R ds S1
theorem zbS{K:W.Frag}{te:TE}{de:DE}(he':RE te de):RI (zuo K te) (zbE de):=fun h o H δ σ S R Q he hs q c =>
 he' h o H δ σ S _ _ he hs q fun o1 H1 S1 x v e1 s1 x1 ⟨ds,ex,d1⟩=>by
  unfold zkJ at ex;split at ex
  ·cases ex;obtain⟨a,vs,rfl,ea,l⟩:=za8.mp (show Has _ _ _ from x1);have hl:=l.length;refine⟨a,rfl,.inl ⟨⟨vs,.of (zal _ _ ea)⟩,c o1 H1 S1 ds _ e1 s1 ⟨fun i o2 H2 e2 hi=>⟨vs,.of (zal _ _ (e2.vx _ _ ea)),by omega⟩,fun i d o2 H2 e2 hi=>?_,fun i d o2 H2 x H3 S2 e2 s2 hi y=>?_⟩ d1⟩⟩
   ·obtain⟨v,ev,_⟩:=l.get hi;exact⟨vs,v,.of (zal _ _ (e2.vx _ _ ea)),ev⟩
   ·obtain⟨v,ev,hv⟩:=l.get hi;have e3:H3=H2:=y.1;subst e3;have ex:=y.2 vs (.of (zal _ _ (e2.vx _ _ ea)));rw [ev] at ex;cases ex;exact⟨Same.refl _,hv.mono e2.vx⟩
  ·cases ex;obtain⟨a,vs,rfl,ea,l⟩:=zaw.mp (show Has _ _ _ from x1);have hl:=l.length;refine⟨a,rfl,.inr ⟨⟨vs,.of (zal _ _ ea)⟩,c o1 H1 S1 ds _ e1 s1 ⟨fun i o2 H2 e2 hi=>⟨vs,.of (zal _ _ (e2.vx _ _ ea)),by omega⟩,fun i d o2 H2 e2 hi=>?_,fun i d o2 H2 x H3 S2 e2 s2 hi y=>?_⟩ d1⟩⟩
   ·obtain⟨v,ev,_⟩:=l.get hi;exact⟨vs,v,.of (zal _ _ (e2.vx _ _ ea)),ev⟩
   ·obtain⟨v,ev,hv⟩:=l.get hi;have e3:H3=H2:=y.1;subst e3;have ex:=y.2 vs (.of (zal _ _ (e2.vx _ _ ea)));rw [ev] at ex;cases ex;exact⟨Same.refl _,hv.mono e2.vx⟩
  ·cases ex
def zrL(dt:DS):DS:=fun E δ S=>dt { E with nx:=fun δ' S'=>∃ S0 ds,S'=S0++[ds]/\S.length<=S0.length/\E.nx (δ'.map (frz S0.length ds)) S0 } δ S
theorem zpX{t:TS}{dt:DS}(ht:RS t dt):RS t (zrL dt):=fun h o H δ σ S E D he hs q c=>by
 refine ht h o H δ σ S _ D he hs q ⟨fun o' H' δ' S' σ' e he' hs' ⟨S0,ds,eS,hl,n⟩=>?_,c.rt,c.bk,c.ct⟩;subst eS;obtain⟨r,rfl⟩:=e.pre;have hL:=hs'.len;simp only [length_append,length_singleton] at hL;have hS:=hs.len;have rne:r≠[]:=fun z=>by subst z; simp at hL; omega
 obtain⟨r0,a,rfl⟩:∃ r0 a,r=r0++[a]:=⟨r.dropLast,r.getLast rne,(List.dropLast_concat_getLast rne).symm⟩;have hS0:S0.length=(o++r0).length:=by simp at hL ⊢; omega
 rw [<- append_assoc] at hs' he' e;have nd:=nodup_append.mp hs'.nd;have na:a∉o++r0:=fun m=>nd.2.2 a m a (by simp) rfl;have nh:a∉h:=hs'.dis a (by simp);refine c.nx (o++r0) H' _ S0 σ' ⟨⟨r0,rfl⟩,fun b u hb eb=>?_⟩ ⟨by rw [length_map]; exact he'.len,fun i x ex=>?_⟩ (hs'.pop hS0) n
 ·obtain⟨z1,z2⟩:=e.kp b u hb eb;exact⟨fun m=>z1 (mem_append_left _ m),z2⟩
 ·rw [getElem?_map] at ex;obtain⟨y,ey,ex⟩:=map_eq_some_iff.mp ex
  match y,ey,ex with
  | none,ey,ex=>cases ex
  | some (.d d),ey,ex =>
   cases ex;obtain⟨v,e1,e2⟩:=he'.get i _ ey;exact⟨v,e1,Has.mono zfG d v e2⟩
  | some (.o w),ey,ex =>
   cases ex;exact he'.get i _ ey
  | some (.x C fs),ey,ex =>
   cases ex;obtain⟨v,e1,e2⟩:=he'.get i _ ey;exact⟨v,e1,HasE.mono zfG e2⟩
  | some (.l k),ey,ex =>
   obtain⟨v,e1,b,eb,rfl⟩:=he'.get i _ ey;unfold frz at ex;by_cases hk:k=S0.length
   ·simp only [hk,↓reduceIte] at ex;cases ex;rw [hk,hS0,getElem?_concat_length] at eb;cases eb;obtain⟨vs,ev,l⟩:=hs'.cont k a ds (by rw [hk,hS0,getElem?_concat_length]) (by rw [hk,getElem?_concat_length]);exact⟨_,e1,za8.mpr ⟨a,vs,rfl,zat.mpr ⟨nh,na,ev⟩,l.mono zfG⟩⟩
   ·simp only [hk,↓reduceIte] at ex;cases ex;have hlt:=(List.getElem?_eq_some_iff.mp eb).1;simp only [length_append,length_singleton] at hlt;simp only [length_append] at hS0;rw [getElem?_append_left (by simp only [length_append]; omega)] at eb;exact⟨_,e1,b,eb,rfl⟩
section
variable {t1 t2 t3 t4 t5 t6 t7 t8:TS} {d:DS}
theorem zpR(h:RS (zi3 (zi3 t1 t2) t3) d):RS (zi3 t1 (zi3 t2 t3)) d:=h
end
end
section
abbrev PN:=List XV->Sto->RX->Prop
def lfN(q:PN):List V->Hp->VK->Prop:=fun vs H Q=>∃ h o S xs R,RepS h o H S/\HasXs h o H xs vs/\q xs S R/\Cn h o H R Q
def spN(ps:List Str)(q:PN):Sp:=fun vs H Q _=>vs.length=ps.length/\lfN q vs H Q
theorem HasXs.len{h o:List Addr}{H:Hp}:∀ {xs:List XV} {vs:List V},HasXs h o H xs vs->vs.length=xs.length
 | [],vs,q=>by rw [show vs=[] from q]; rfl
 | x :: xs,vs,⟨v,r,e,_,l⟩=>by rw [e,length_cons,length_cons,HasXs.len l]
theorem HasXs.get{h o:List Addr}{H:Hp}:∀ {xs:List XV} {vs:List V} {i:Nat} {x:XV},HasXs h o H xs vs->xs[i]? = some x->∃ v,vs[i]? = some v/\HasX h o H x v
 | [],_,i,_,_,e=>by simp at e
 | y :: xs,vs,0,x,⟨v,r,e1,q,l⟩,e=>by
  rw [getElem?_cons_zero] at e;cases e;subst e1;exact⟨v,rfl,q⟩
 | y :: xs,vs,i+1,x,⟨v,r,e1,q,l⟩,e=>by
  subst e1;rw [getElem?_cons_succ] at e ⊢;exact HasXs.get l e
theorem zbr{h o:List Addr}{H:Hp}{xs:List XV}{vs:List V}{n:Nat}(q:HasXs h o H xs vs):RepE h o H (xs.map some++List.replicate n none) (vs.map some++List.replicate n none):=by
 have hl:=q.len;refine⟨by simp [hl],fun i x e=>?_⟩;by_cases hi:i<xs.length
 ·rw [getElem?_append_left (by rw [length_map]; exact hi),getElem?_map] at e;obtain⟨y,ey,e⟩:=map_eq_some_iff.mp e;cases e;obtain⟨v,ev,hv⟩:=q.get ey;exact⟨v,by rw [getElem?_append_left (by rw [length_map,hl]; exact hi),getElem?_map,ev]; rfl,hv⟩
 ·rw [getElem?_append_right (by rw [length_map]; omega),getElem?_replicate] at e;split at e <;> cases e
section
variable {P:Program} {w:World} {K:W.Frag} {mg:Str->Option Value} {base:Heap} {x:Str} {st:Stmt} {N ps:List Str} {k:Nat}
theorem Df.dN{q:PN}(D:Dd K mg x st ps)(S:FnScope N ps (zg st))(n:Nat)(hn:N.length=ps.length+n)
  (hbody:∀ (f:Addr) (cdv:Value) (A:Around) (outer:List Env) (s:Shared) (H:Hp) (E:XK),Room k (A.deeper (envOfC x (zg st) s.heap.objs.size f cdv)) ->
   ∃ t dt,PSs (zf0 CX0 P w K mg base N x (zg st) f cdv A outer s H E).nox (zaK st) t/\RS t dt/\∀ xs S R,q xs S R->dt (zbB S.length R) (xs.map some++List.replicate n none) S):Df P w K mg base x ps (k+1) (spN ps q):=by
 refine Df.of D S (fun vs H Q E h=>h.1) fun f cdv A outer s H vs Q E hr ⟨hl,h,o,S',xs,R,hs',hx,hq,c⟩=>?_;obtain⟨t,dt,h1,h2,h3⟩:=hbody f cdv A outer s H E hr;refine⟨t,h1,h2 h o H _ _ S' _ _ ?_ hs' (h3 xs S' R hq) (eok hs' c)⟩;have e:N.length - vs.length=n:=by omega
 unfold start;rw [e];exact zbr hx
end
section
variable {X:Cx} {x:Str} {ps:List Str} {k j:Nat} {pos pos':Pos} {e:Expr} {es:List Expr} {t:TA}
theorem zq{q:PN}(D:Df X.prog X.w X.K X.mg X.base x ps k (spN ps q))(hr:Room j X.A)(hk:k<=j)(ha:PA X (e :: es) t)(hg:Gl X x:=by rfl)(hdb:(x == ("__debug__":Str))=false:=by decide)
  (q1:starEach (e :: es) X.env=(false,eval e X.env) :: starEach es X.env:=by rfl) (q2:((backTo pos (starEach es X.env)).any fun x=>x.fst)=false:=by rfl):PE X (.Call (.Name x pos') (e :: es) [] pos) (zfW (spN ps q) [] E0 t):=by
 obtain⟨f,fd,F,hm,kp,hb⟩:=D.ex;exact zjH (dvs:=[]) (ds:=[]) (E:=E0) F (hr.mono hk) hg hm kp hb .nil pass0 ha hdb q1 q2
end
def zP(m:Nat)(q:PN)(da:DA):DE:=fun δ S R=>da δ S fun xs S1=>∃ ds,datas xs=some ds/\ds.length=m/\q (ds.map XV.d) [] (ret0 S1 R)
theorem hxs0{h o:List Addr}{H:Hp}:∀ {ds:List PyData} {vs:List V},HasXs h o H (ds.map XV.d) vs->HasXs (h++o) [] H (ds.map XV.d) vs
 | [],_,q=>q
 | d :: ds,vs,⟨v,r,e,q,l⟩=>⟨v,r,e,hx0 q,hxs0 l⟩
theorem zaa{ps:List Str}{q:PN}{m:Nat}{t:TA}{da:DA}(ha:RA t da)(hm:ps.length=m:=by rfl):RE (zfW (spN ps q) [] E0 t) (zP m q da):=fun h o H δ σ S R Q he hs w c =>
 ha h o H δ σ S _ _ he hs w fun o1 H1 S1 xs vs e1 s1 x1 ⟨ds,e,hl,d1⟩=>by
  have ex:=zbL e;subst ex;have hv:=x1.len;rw [append_nil];exact⟨by rw [hv,length_map,hl,hm],h++o1,[],[],_,_,rep0 s1,hxs0 x1,d1,cn0 s1 (c.pre e1)⟩
def zJ(i m:Nat)(q:PN)(da:DA):DE:=fun δ S R=>da δ S fun xs S1=>∃ k,xs[i]? = some (.l k)/\∃ p,S1[k]? = some p/\∃ ds,datas (xs.set i (.d .none))=some ds/\ds.length=m/\q ((ds.map XV.d).set i (.l 0)) [p] (ztz k S1 R)
theorem zun{h o:List Addr}{H:Hp}{k:Nat}{a:Addr}(ea:o[k]? = some a):∀ {xs:List XV} {vs:List V} {ds:List PyData} {i:Nat},HasXs h o H xs vs->xs[i]? = some (.l k)->datas (xs.set i (.d .none))=some ds->HasXs (h++o.filter (fun b=>b≠a)) [a] H ((ds.map XV.d).set i (.l 0)) vs
 | [],_,_,i,_,e,_=>by simp at e
 | x :: xs,vs,ds,0,⟨v,r,e1,q,l⟩,e,ed=>by
  rw [getElem?_cons_zero] at e;cases e;rw [set_cons_zero] at ed;obtain⟨ds',rfl⟩:∃ ds',ds=.none :: ds':=by
   unfold datas at ed;cases hd:datas xs with
   | none=>rw [hd] at ed; cases ed
   | some y=>rw [hd] at ed; cases ed; exact⟨y,rfl⟩
  have ed':datas xs=some ds':=by
   unfold datas at ed;cases hd:datas xs with
   | none=>rw [hd] at ed; cases ed
   | some y=>rw [hd] at ed; cases ed; rfl
  have ex:=zbL ed';subst ex;obtain⟨b,eb,rfl⟩:=q;rw [ea] at eb;cases eb;exact⟨_,r,e1,⟨a,rfl,rfl⟩,go (ea:=ea) l⟩
 | x :: xs,vs,ds,i+1,⟨v,r,e1,q,l⟩,e,ed=>by
  rw [getElem?_cons_succ] at e;rw [set_cons_succ] at ed
  match x,q,ed with
  | .d d,q,ed =>
   unfold datas at ed;cases hd:datas (xs.set i (.d .none)) with
   | none=>rw [hd] at ed; cases ed
   | some ds' =>
    rw [hd] at ed;cases ed;exact⟨v,r,e1,hxP ea q,zun ea l e hd⟩
  | .l j,q,ed=>cases ed
  | .o w,q,ed=>cases ed
  | .x _ _,q,ed=>cases ed
where
 go {h o:List Addr} {H:Hp} {k:Nat} {a:Addr} {ea:o[k]? = some a}:∀ {ds:List PyData} {vs:List V},HasXs h o H (ds.map XV.d) vs->HasXs (h++o.filter (fun b=>b≠a)) [a] H (ds.map XV.d) vs
 | [],_,q=>q
 | d :: ds,vs,⟨v,r,e,q,l⟩=>⟨v,r,e,hxP ea q,go (ea:=ea) l⟩
theorem zlZ:∀ {xs:List XV} {ds:List PyData},datas xs=some ds->xs.length=ds.length:=fun e=>by
 rw [zbL e,length_map]
theorem zci{ps:List Str}{q:PN}{i m:Nat}{t:TA}{da:DA}(ha:RA t da)(hm:ps.length=m:=by rfl):RE (zfW (spN ps q) [] E0 t) (zJ i m q da):=fun h o H δ σ S R Q he hs w c =>
 ha h o H δ σ S _ _ he hs w fun o1 H1 S1 xs vs e1 s1 x1 ⟨k,ek,p,ep,ds,e,hl,d1⟩=>by
  have hv:=x1.len;have hd:=zlZ e;rw [length_set] at hd;obtain⟨v,_,a,ea,_⟩:=x1.get ek;rw [append_nil];exact⟨by rw [hv,hd,hl,hm],_,[a],[p],_,_,ztq s1 ea ep,zun ea x1 ek e,d1,cnP s1 ea ep (c.pre e1)⟩
end
section
def zs7(K:W.Frag):List V->Hp->VK->Prop:=fun xs H Q=>zt5 K xs H Q\/∃ z,xs=[.str z]/\z.length<=sizeLine/\Q (.int z.length) H
theorem zai{X:Cx}:CallR X (.builtin "len") (zs7 X.K):=zeY.or zhV
def zrE(S:Sto):XV->Option Nat
 | .d (.tuple ds)=>some ds.length
 | .d (.list ds)=>some ds.length
 | .l k=>(S[k]?).map List.length
 | .d (.str z)=>if z.length<=sizeLine then some z.length else none
 | _=>none
def zbU:List XV->Sto->RX->Prop:=fun xs S R=>arg1 xs fun x=>∃ n,zrE S x=some n/\R (.d (.int n)) S
theorem zhE{K:W.Frag}:RC (zs7 K) zbU:=fun h o H S xs vs R Q hs hx q c=>by
 obtain⟨x,rfl,n,hd,q1⟩:=zaG q;unfold zrE at hd;split at hd
 ·cases hd;exact .inl (zmQ h o H S _ vs R Q hs hx ⟨_,rfl,q1⟩ c)
 ·cases hd;exact .inl (zmQ h o H S _ vs R Q hs hx ⟨_,rfl,q1⟩ c)
 ·rename_i k;cases hk:S[k]? with
  | none=>rw [hk] at hd; cases hd
  | some ds =>
   rw [hk] at hd;cases hd;exact .inl (zmQ h o H S _ vs R Q hs hx ⟨ds,hk,q1⟩ c)
 ·split at hd
  ·rename_i hz;cases hd;obtain⟨v,rfl,hx1⟩:=hxs1 hx;exact .inr ⟨_,by rw [zee hx1],hz,c o H S _ _ Ex.refl hs (xI _) q1⟩
  ·cases hd
 ·cases hd
section
variable {S:Sto} {ds:List PyData} {k:Nat} {z:Str}
theorem zmR:zrE S (.d (.tuple ds))=some ds.length:=rfl
theorem zpI:zrE S (.d (.list ds))=some ds.length:=rfl
end
theorem zkZ{ds:List PyData}(h:SeqAt.shaped (.list ds)=true):PyData.canLayAll0 ds=true/\PyData.depthAll ds<=63:=by
 have h1:=SeqAt.canLay_of_shaped h;have h2:=SeqAt.depth_of_shaped h;simp only [PyData.canLay0,PyData.depth] at h1 h2;exact⟨h1,by omega⟩
section
variable {X:Cx} {elts:List Expr} {n:Nat} {tpos:Pos}
def zpJ(K:W.Frag)(ta:TA):TI:=fun σ H R=>ta σ H fun vs H1=>∃ a,vs=[.ref a]/\(((∃ xs,SqT K H1 a xs)/\R (Ite (SqT K) a) H1)\/((∃ xs,SqL K H1 a xs)/\R (Ite (SqL K) a) H1))
theorem zoc{a:Expr}{ta:TA}{p pos:Pos}(hg:Gl X "enumerate")(hm:X.mg "enumerate" = none)(ha:PA X [a] ta)(hs:starEach [a] X.env=[(false,eval a X.env)]:=by rfl):PI X (.Tuple elts n tpos) (.Call (.Name "enumerate" p) [a] [] pos) (zpJ X.K ta):=by
 intro zh s σ H R I h;refine Call_ (zcF I hg hm zgh (PyProof.Rows.callWith_type1 (thn (ha pos zh s σ H _ I h) fun us s1 ⟨vs,H1,I1,r1,q1⟩=>?_) hs rfl));obtain⟨b,e,⟨⟨xs,hq⟩,q⟩ | ⟨⟨xs,hq⟩,q⟩⟩:=q1
 ·subst e;cases r1 with
  | cons r rr =>
   cases rr;cases r;obtain⟨its,rv,pl,hz⟩:=I1.tuple hq;refine zhi (show s1.heap.IsTuple b its.toArray from pl) fun g he hj k=>?_;refine wpAny_pyIter_enum (s:={ s1 with heap:=g }) he ?_
   have I2:Inv X zh σ H1 { s1 with heap:=g }:=I1.kept (t':=s1.toks) k;refine⟨s1.heap.objs.size+1,[s1.heap.objs.size+1,s1.heap.objs.size],_,_,H1,rfl,I2,zkG b _ _ (succ_ne_self _),⟨⟨_,he⟩,hj⟩,fun c hc=>?_,q⟩;rcases mem_cons.mp hc with rfl | hc
   ·exact I1.fpOk (le_succ _) (I1.hok.fresh (le_succ _))
   ·rw [mem_singleton.mp hc];exact I1.fpOk (le_refl _) (I1.hok.fresh (le_refl _))
 ·subst e;cases r1 with
  | cons r rr =>
   cases rr;cases r;obtain⟨its,rv,pl,hz⟩:=I1.list hq;refine call_enumerate_list pl.isList fun g he hj _ k=>?_;refine wpAny_pyIter_enum (s:={ s1 with heap:=g }) he ?_
   have I2:Inv X zh σ H1 { s1 with heap:=g }:=I1.kept (t':=s1.toks) k;refine⟨s1.heap.objs.size+1,[s1.heap.objs.size+1,s1.heap.objs.size],_,_,H1,rfl,I2,zkX b _ _ (succ_ne_self _),⟨⟨_,he⟩,hj⟩,fun c hc=>?_,q⟩;rcases mem_cons.mp hc with rfl | hc
   ·exact I1.fpOk (le_succ _) (I1.hok.fresh (le_succ _))
   ·rw [mem_singleton.mp hc];exact I1.fpOk (le_refl _) (I1.hok.fresh (le_refl _))
end
def zhh(a:DA):DI:=fun δ S R=>a δ S fun xs S1=>arg1 xs fun x=>∃ ds,zkJ x=some ds/\R (zg9 0 ds) S1
theorem zoE{K:W.Frag}{ta:TA}{da:DA}(ha:RA ta da):RI (zpJ K ta) (zhh da):=fun h o H δ σ S R Q he hs q c =>
 ha h o H δ σ S _ _ he hs q fun o1 H1 S1 xs vs e1 s1 x1 d0=>by
  obtain⟨x,rfl,ds,hd,d1⟩:=zaG d0;obtain⟨v,rfl,hv⟩:=hxs1 x1;have core:∀ {Sq:Hp->Addr->List V->Prop} {a:Addr} {ws:List V},(∀ {o2 H2},ExH h o1 H1 o2 H2->Sq H2 a ws)->HasL (vx h o1 H1) ds ws->WalkX h o1 H1 (Ite Sq a) (zg9 0 ds):=by
   intro Sq a ws ea' l;have hl:=l.length;refine⟨fun i o2 H2 e2 hi=>⟨ws,ea' e2,by rw [zdd] at hi; omega⟩,fun i d o2 H2 e2 hi=>?_,fun i d o2 H2 x H3 S2 e2 s2 hi y=>?_⟩
   ·obtain⟨e,h1,rfl⟩:=zd9 ds 0 i d hi;obtain⟨u,eu,_⟩:=l.get h1;exact⟨ws,u,ea' e2,eu⟩
   ·obtain⟨e,h1,rfl⟩:=zd9 ds 0 i d hi;obtain⟨u,eu,hu⟩:=l.get h1;obtain⟨p,v,hp,rfl,rfl,hy⟩:=y;have ev:=hy ws (ea' e2);rw [eu] at ev;cases ev;refine⟨Same.laid hp,zaw.mpr ⟨p,_,rfl,s2.laid hp,zr.mpr ⟨_,_,rfl,?_,zr.mpr ⟨_,_,rfl,(hu.mono e2.vx).mono (zc8 (Same.laid hp)),zC.mpr rfl⟩⟩⟩⟩;rw [zero_add];exact zb8.mpr rfl
  unfold zkJ at hd;split at hd
  ·cases hd;obtain⟨a,ws,rfl,ea,l⟩:=za8.mp (show Has (vx h o1 H1) (.list ds) v from hv);exact⟨a,rfl,.inr ⟨⟨ws,.of (zal _ _ ea)⟩,c o1 H1 S1 _ _ e1 s1 (core (fun e2=>.of (zal _ _ (e2.vx _ _ ea))) l) d1⟩⟩
  ·cases hd;obtain⟨a,ws,rfl,ea,l⟩:=zaw.mp (show Has (vx h o1 H1) (.tuple ds) v from hv);exact⟨a,rfl,.inl ⟨⟨ws,.of (zal _ _ ea)⟩,c o1 H1 S1 _ _ e1 s1 (core (fun e2=>.of (zal _ _ (e2.vx _ _ ea))) l) d1⟩⟩
  ·cases hd
def ztv:XV->List XV->Sto->RX->Prop:=fun x xs S R=>∃ k,x=.l k/\∃ ds,S[k]? = some ds/\xs=[]/\∃ d,ds[ds.length - 1]? = some d/\R (.d d) (S.set k ds.dropLast)
theorem HasL.dropLast{H:Hp}:∀ {ds:List PyData} {vs:List V},HasL H ds vs->HasL H ds.dropLast vs.dropLast
 | [],vs,l=>by rw [zC.mp l]; exact zC.mpr rfl
 | [d],vs,l=>by
  obtain⟨v,r,rfl,_,l⟩:=zr.mp l;rw [zC.mp l];exact zC.mpr rfl
 | d :: e :: ds,vs,l=>by
  obtain⟨v,r,rfl,hv,l⟩:=zr.mp l;obtain⟨w,r,rfl,hw,l'⟩:=zr.mp l;rw [List.dropLast_cons₂,List.dropLast_cons₂];exact zr.mpr ⟨v,_,rfl,hv,HasL.dropLast l⟩
theorem zrR:RM zul ztv:=fun h o H S x v xs vs R Q hs hx hxs q c=>by
 obtain⟨k,rfl,ds,e,rfl,d,ed,q1⟩:=q;obtain⟨a,ea,rfl⟩:=hx;obtain⟨ws,ew,l⟩:=hs.cont k a ds ea e;cases hxs;obtain⟨y,ey,hy⟩:=l.get ed;exact⟨a,ws,y,rfl,rfl,ew,by rw [l.length]; exact ey,c o _ _ (.d d) _ (Ex.upd ea) (hs.upd ea l.dropLast) (HasX.mono (x:=.d d) (Ex.upd ea) hy) q1⟩
def ztB(rd:XV->List XV->Sto->RX->Prop)(e:DE)(a:DA):DE:=fun δ S R=>e δ S fun x S1=>∃ z,x=.d (.str z)/\a δ S1 fun xs S2=>rd x xs S2 R
theorem zpp{K:W.Frag}{r:V->List V->Hp->VK->Prop}{rd:XV->List XV->Sto->RX->Prop}{te:TE}{de:DE}{tl:TA}{dl:DA}(hr:RM r rd)(he':RE te de)(ha:RA tl dl):RE (tBM K "str" r te tl) (ztB rd de dl):=fun h o H δ σ S R Q he hs q c =>
 he' h o H δ σ S _ _ he hs q fun o1 H1 S1 x v e1 s1 x1 ⟨z,ez,d1⟩=>by
  subst ez;cases zee x1;exact⟨rfl,ha h o1 H1 δ σ S1 _ _ (he.mono e1) s1 d1 fun o2 H2 S2 xs vs e2 s2 x2 d2=>hr h o2 H2 S2 (.d (.str z)) _ xs vs R Q s2 (HasX.mono (x:=.d (.str z)) e2 x1) x2 d2 (c.pre (e1.trans e2))⟩
theorem zgQ{H:Hp}:∀ {ns:List Str} {vs:List V},HasL H (ns.map PyData.str) vs->vs=ns.map V.str
 | [],vs,h=>zC.mp h
 | n :: ns,vs,h=>by
  obtain⟨v,r,rfl,h1,h2⟩:=zr.mp h;rw [zdR.mp h1,zgQ h2];rfl
def zoG:XV->List XV->Sto->RX->Prop:=fun x xs S R=>asS x fun z=>arg1 xs fun y=>∃ ds,ziG S y=some ds/\∃ zs:List Str,ds=zs.map PyData.str/\z.length<=16/\zs.length<=1000/\(∀ y∈zs,y.length<=1000)/\R (.d (.str (PySem.Txt.join z zs))) S
theorem zof{K:W.Frag}:RM (zsp K) zoG:=fun h o H S x v xs vs R Q hs hx hxs q c=>by
 replace q:=zpq q;obtain⟨z,rfl,q⟩:=q;obtain⟨y,rfl,ds,e,zs,rfl,h1,h2,h3,q1⟩:=zaG q;obtain⟨u,rfl,hu⟩:=hxs1 hxs;obtain⟨a,ws,rfl,ea,l⟩:=zbb hs e hu;rw [zgQ l] at ea;exact⟨z,a,zs,zee hx,rfl,.of ea,h1,h2,h3,c o H S _ _ Ex.refl hs (xS _) q1⟩
def zoC:D2:=fun x y S R=>asL S x fun ds=>asL S y fun es=>ds.length+es.length<=1000/\R (.l S.length) (S++[ds++es])
theorem zqj:RO zrq zoC:=fun h o H S x y v u R Q hs hx hy q c=>by
 obtain⟨ds,e0,es,e1,hl,q⟩:=q;obtain⟨a,vs,rfl,ea,la⟩:=zbb hs e0 hx;obtain⟨b,us,rfl,eb,lb⟩:=zbb hs e1 hy;exact⟨a,b,vs,us,rfl,rfl,ea,eb,by rw [la.length,lb.length]; exact le_of_lt (small1000 hl),zq8 hs (la.append lb) c q⟩
def zlO:V->List V->Hp->VK->Prop:=fun x vs H Q=>∃ (d:PyData) (ds:List PyData) (j:Nat),Has H (.list ds) x/\(∃ v,vs=[v]/\Has H d v)/\SeqAt.shaped d=true/\SeqAt.shaped (.list ds)=true/\ds.length<=1000/\(∃ e,ds[j]? = some e/\PyData.eqv e d=true)/\(∀ m e,m<j->ds[m]? = some e->PyData.eqv e d=false)/\Q (.int j) H
theorem zlX{X:Cx}(hu:X.A.units+64<cLine):MtR X "list.index" zlO:=by
 intro zh s σ H x vs v us Q I rx rv h;obtain⟨d,ds,j,hl,⟨y,rfl,hy⟩,sd,se,h1000,⟨e,ej,he⟩,hno,q⟩:=h;obtain⟨s1,s2⟩:=zkZ se;obtain⟨u,rfl,r1⟩:=rv.one;obtain⟨as,q1⟩:=Has.reads I d y u hy (SeqAt.canLay_of_shaped sd) r1;obtain⟨bs,q2⟩:=Has.reads I (.list ds) x v hl (by simpa only [PyData.canLay0] using s1) rx;have hm:X.A.units+1+min (PyData.depthAll ds) d.depth<cLine:=by
  have:=Nat.min_le_left (PyData.depthAll ds) d.depth;omega
 cases q2 with
 | @list l o vs n xs as₁ h1 h2 h3 h4 =>
  have hn:vs.size=ds.length:=by simpa using SeqAt.ReadsAll.length _ _ _ h4
  have hmap:=SeqAt.readsAll_map _ _ _ s1 h4;have hget:∀ (m:Nat) (hm:m<vs.size) e,ds[m]? = some e->SeqAt.readOf s.heap vs[m]=e:=fun m hm e h=>by
   rw [<- hmap,getElem?_map] at h;have:vs.toList[m]? = some vs[m]:=by simp [hm]
   rw [this] at h;exact Option.some.inj h
  have hj:j<vs.size:=by rw [hn]; exact(List.getElem?_eq_some_iff.mp ej).1
  obtain⟨cls,dd,data,sl⟩:=o;simp only at h2 h3;subst h2 h3;refine call_meets PySem.F.slot_list_index ⟨_,h1,rfl⟩ PySem.F.entry_list_index (PySem.F.args_list_index_2 _ _)
   (SeqAt.list_indexAt l vs n dd sl u (fun y=>PyData.eqv (SeqAt.readOf s.heap y) d) j hj (by omega) ?_ ?_) ⟨h1,SeqAt.items_eqAt h4 q1 s1 (SeqAt.canLay_of_shaped sd) hm,⟨.int j,H,I.tok _,⟨_,rfl⟩,q⟩⟩
  ·show PyData.eqv (SeqAt.readOf s.heap vs[j]) d=true;rw [hget j hj e ej]; exact he
  ·intro m hm hlt;show PyData.eqv (SeqAt.readOf s.heap vs[m]) d=false;have em:ds[m]? = some ds[m]:=getElem?_eq_getElem (by omega);rw [hget m hm _ em]; exact hno m _ hlt em
def zku:XV->List XV->Sto->RX->Prop:=fun x xs S R=>arg1 xs fun y=>∃ d,zgs S y=some d/\∃ ds,ziG S x=some ds/\SeqAt.shaped d=true/\SeqAt.shaped (.list ds)=true/\ds.length<=1000/\∃ j,(∃ e,ds[j]? = some e/\PyData.eqv e d=true)/\(∀ m e,m<j->ds[m]? = some e->PyData.eqv e d=false)/\R (.d (.int (j:Nat))) S
theorem zlQ:RM zlO zku:=fun h o H S x v xs vs R Q hs hx hxs q c=>by
 obtain⟨y,rfl,d,e1,ds,e2,s1,s2,h1,j,h2,h3,q1⟩:=zaG q;obtain⟨u,rfl,hu⟩:=hxs1 hxs;have hl:Has H (.list ds) v:=zde (x:=x) hs (by
  unfold ziG at e2;split at e2
  ·cases e2; rfl
  ·rename_i k; show (S[k]?).map PyData.list=_; rw [e2]; rfl
  ·cases e2) hx
 exact⟨d,ds,j,hl,⟨u,rfl,zde hs e1 hu⟩,s1,s2,h1,h2,h3,c o H S _ _ Ex.refl hs (xI _) q1⟩
def zsE(rd:XV->List XV->Sto->RX->Prop)(e:DE)(a:DA):DE:=fun δ S R=>e δ S fun x S1=>∃ ds,ziG S1 x=some ds/\a δ S1 fun xs S2=>rd x xs S2 R
theorem zmK{K:W.Frag}{r:V->List V->Hp->VK->Prop}{rd:XV->List XV->Sto->RX->Prop}{te:TE}{de:DE}{tl:TA}{dl:DA}(hr:RM r rd)(he':RE te de)(ha:RA tl dl):RE (tBM K "list" r te tl) (zsE rd de dl):=fun h o H δ σ S R Q he hs q c =>
 he' h o H δ σ S _ _ he hs q fun o1 H1 S1 x v e1 s1 x1 ⟨ds,ez,d1⟩=>by
  obtain⟨a,ws,rfl,ea,_⟩:=zbb s1 ez x1;exact⟨zhc ea,ha h o1 H1 δ σ S1 _ _ (he.mono e1) s1 d1 fun o2 H2 S2 xs vs e2 s2 x2 d2=>hr h o2 H2 S2 x _ xs vs R Q s2 (x1.mono e2) x2 d2 (c.pre (e1.trans e2))⟩
abbrev zuT (a:Addr) (m:Nat):DEnds:={ nx:=fun δ _=>δ[0]? = some (some (.o (.ref a)))/\δ.length=m+1,ct:=fun δ _=>δ[0]? = some (some (.o (.ref a)))/\δ.length=m+1,rt:=fun _ _=>False }
abbrev zud (a:Addr) (m:Nat):DEnds:={ nx:=fun δ _=>δ[0]? = some (some (.o (.ref a)))/\δ.length=m+1,rt:=fun _ _=>False }
section
variable {a:Addr} {m:Nat} {t1 t2 t3 t4 u:TS} {dt:DS} {D:Ends} {σ:St} {H:Hp}
theorem zp2(ht:RS (zi3 t1 t2) dt)(h0:σ[0]? = some (some (.ref a)))(hl:σ.length=m+1)(go:dt (zud a m) (some (.o (.ref a)) :: List.replicate m none) [])
  (next:∀ (σ:St) (H1:Hp),σ[0]? = some (some (.ref a))->σ.length=m+1->Same H H1->u D σ H1):zi3 t1 (zi3 t2 u) D σ H:=zt0 (t:=zi3 t1 t2) ht h0 hl go next
end
end
section
open Sem (wp)
def ItK(t:Bool)(h:Heap)(j a:Addr)(k:Nat):Prop:=match t with
 | true=>h.IsTupleIter j a k
 | false=>h.IsListIter j a k
def SqK(t:Bool)(h:Heap)(a:Addr)(xs:Array Value):Prop:=match t with
 | true=>h.IsTuple a xs
 | false=>h.IsList a xs
theorem ItK.at{t:Bool}{h g:Heap}{j a:Addr}{k:Nat}(q:ItK t h j a k)(f:∀ o,h.get? j=some o->g.get? j=some o):ItK t g j a k:=by
 cases t
 ·exact Heap.IsListIter.at (show h.IsListIter j a k from q) f
 ·exact Heap.IsTupleIter.at (show h.IsTupleIter j a k from q) f
theorem ItK.here{t:Bool}{h:Heap}{j a:Addr}{k:Nat}(q:ItK t h j a k):∃ o,h.get? j=some o/\∀ v,o.data≠.cell v:=by
 cases t <;> (obtain⟨o,e,c,d⟩:=q; exact⟨o,e,fun v z=>by rw [d] at z; cases z⟩)
theorem SqK.at{t:Bool}{h g:Heap}{a:Addr}{xs:Array Value}(q:SqK t h a xs)(f:∀ o,h.get? a=some o->g.get? a=some o):SqK t g a xs:=by
 cases t <;> (obtain⟨o,e,r⟩:=q; exact⟨o,f o e,r⟩)
theorem SqK.here{t:Bool}{h:Heap}{a:Addr}{xs:Array Value}(q:SqK t h a xs):∃ o,h.get? a=some o:=by
 cases t <;> (obtain⟨o,e,r⟩:=q; exact⟨o,e⟩)
section
variable {prog:Program} {w:World} {A:Around} {E:Value->Shared->Prop} {s:Shared}
theorem zkR{t:Bool}{j a:Addr}{k:Nat}{xs:Array Value}{x:Value}{Q:Value->Shared->Prop}(hj:ItK t s.heap j a k)(ha:SqK t s.heap a xs)(hx:xs[k]? = some x)
  (hQ:∀ g,ItK t g j a (k+1)->Heap.SameBut j s.heap g->Q x { s with heap:=g }):wpAny (model prog w) A (Builtin.SmallTypes.nextOf (.ref j)) Q E s:=by
 cases t
 ·exact wpAny_nextOf_list_item hj ha hx hQ
 ·exact zgH hj ha hx hQ
theorem zdY{t:Bool}{j a:Addr}{k:Nat}{xs:Array Value}{Q:Value->Shared->Prop}(hh:A.handled=none)(hj:ItK t s.heap j a k)(ha:SqK t s.heap a xs)(hx:xs[k]? = none)
  (hE:∀ g e,Heap.ExtBut j s.heap g->(∃ o,g.get? e=some o/\o.cls=.type "StopIteration")->E (.ref e) { s with heap:=g }):wpAny (model prog w) A (Builtin.SmallTypes.nextOf (.ref j)) Q E s:=by
 cases t
 ·exact wpAny_nextOf_list_end hh hj ha hx hE
 ·exact zdC hh hj ha hx hE
theorem zrS{t:Bool}{a:Addr}{xs:Array Value}{Q:Value->Shared->Prop}(ha:SqK t s.heap a xs)(hQ:Q (.ref s.heap.objs.size) { s with heap:=s.heap.push { cls:=.type (if t then "tuple_iterator" else "list_iterator"),data:=.fields #[.ref a,.int 0 0] } }):wpAny (model prog w) A (pyIter (.ref a)) Q E s:=by
 cases t
 ·exact wpAny_pyIter_list ha hQ
 ·exact wpAny_pyIter_tuple ha hQ
theorem zno{T:Addr}{c d x:Value}{k:Nat}{Q:Unit->Shared->Prop}(hT:IsPair s.heap T c d)(hQ:∀ g,g.get? T=some { cls:=.type "tuple",data:=.seq ((#[c,d]:Array Value).setIfInBounds k x) }->Heap.SameBut T s.heap g->Q () { s with heap:=g }):
  wpAny (model prog w) A (updateSeq T (·.setIfInBounds k x)) Q E s:=wpAny_updateSeq_pair hT hQ
structure ZAp(z p r i j a b:Addr):Prop where
 pz:p≠z
 rz:r≠z
 iz:i≠z
 jz:j≠z
 pr:p≠r
 pi:p≠i
 pj:p≠j
 ri:r≠i
 rj:r≠j
 ij:i≠j
 az:a≠z
 ar:a≠r
 ai:a≠i
 aj:a≠j
 bz:b≠z
 br:b≠r
 bi:b≠i
 bj:b≠j
theorem zir{t u:Bool}{z p r i j a b:Addr}{k m:Nat}{xs ys:Array Value}{x y c d:Value}{Q:Value->Shared->Prop}(D:ZAp z p r i j a b)(hz:IsZip s.heap z p r .none)(hp:IsPair s.heap p (.ref i) (.ref j))(hr:IsPair s.heap r c d)
  (hi:ItK t s.heap i a k) (hj:ItK u s.heap j b m) (ha:SqK t s.heap a xs) (hb:SqK u s.heap b ys) (hx:xs[k]? = some x) (hy:ys[m]? = some y)
  (hQ:∀ g,IsZip g z p r (rawInt s.heap.objs.size)->IsPair g r x y->ItK t g i a (k+1)->ItK u g j b (m+1)->IsPair g s.heap.objs.size x y ->
   (∀ q o,q≠z->q≠r->q≠i->q≠j->s.heap.get? q=some o->g.get? q=some o)->Q (.ref s.heap.objs.size) { s with heap:=g }) :
  wpAny (model prog w) A (Builtin.«zip.__next__» ⟨[.ref z],[]⟩) (fun fn s'=>∃ v,fn=.done (.ret v)/\Q v s') E s:=by
 obtain⟨h0,gs,dr,tk,os⟩:=s;show wpAny _ _ (field (.ref z) 2 >>= _) _ _ ⟨h0,gs,dr,tk,os⟩;refine wpAny_bind (wpAny_field hz rfl (x:=.bool false) rfl ?_);show wpAny _ _ (field (.ref z) 3 >>= _) _ _ ⟨h0,gs,dr,tk,os⟩;refine wpAny_bind (wpAny_field hz rfl (x:=.ref p) rfl (wpAny_bind (wpAny_seqItems hp rfl ?_)));show wpAny _ _ (Builtin.SmallTypes.ownedTupleIsFree (.ref z) >>= _) _ _ ⟨h0,gs,dr,tk,os⟩;refine wpAny_bind ?_;unfold Builtin.SmallTypes.ownedTupleIsFree;refine wpAny_bind (wpAny_field hz rfl (x:=.none) rfl (wpAny_pure ?_));simp only [if_true];refine wpAny_bind (wpAny_rule (wpAny_bind (wpAny_field hz rfl (x:=.ref r) rfl (wpAny_bind (wpAny_setField_rec hz (by simp) fun g1 z1 b1=>?_)))));replace z1:IsZip g1 z p r .ellipsis:=z1;replace b1:Heap.SameBut z h0 g1:=b1;refine wpAny_bind ?_;simp only [List.zipIdx_cons,List.zipIdx_nil,forIn_cons,forIn_nil];refine wpAny_bind (wpAny_bind (wpAny_onRaise ?_));show wpAny _ _ (Builtin.SmallTypes.nextOf (.ref i) >>= _) _ _ ⟨g1,gs,dr,tk,os⟩;refine wpAny_bind (zkR (s:=⟨g1,gs,dr,tk,os⟩) (hi.at fun o e=>b1.extBut i o D.iz e) (ha.at fun o e=>b1.extBut a o D.az e) hx fun g2 i2 b2=>wpAny_pure ?_);replace b2:Heap.SameBut i g1 g2:=b2;have r2:IsPair g2 r c d:=b2.extBut r _ D.ri (b1.extBut r _ D.rz hr);refine wpAny_bind (wpAny_seqItems (s:=⟨g2,gs,dr,tk,os⟩) r2 rfl (wpAny_bind (zno (s:=⟨g2,gs,dr,tk,os⟩) r2 fun g3 r3 b3=>?_)));replace r3:IsPair g3 r x d:=r3;replace b3:Heap.SameBut r g2 g3:=b3;refine wpAny_bind (wpAny_letGo (wpAny_pure (wpAny_bind (wpAny_bind (wpAny_onRaise ?_)))));show wpAny _ _ (Builtin.SmallTypes.nextOf (.ref j) >>= _) _ _ ⟨g3,gs,dr,tk,os⟩;have k13:∀ q o,q≠z->q≠r->q≠i->h0.get? q=some o->g3.get? q=some o:=fun q o n1 n2 n3 e=>b3.extBut q o n2 (b2.extBut q o n3 (b1.extBut q o n1 e));refine wpAny_bind (zkR (s:=⟨g3,gs,dr,tk,os⟩) (hj.at fun o e=>k13 j o D.jz (Ne.symm D.rj) (Ne.symm D.ij) e) (hb.at fun o e=>k13 b o D.bz D.br D.bi e) hy fun g4 j4 b4=>wpAny_pure ?_);replace b4:Heap.SameBut j g3 g4:=b4;have r4:IsPair g4 r x d:=b4.extBut r _ D.rj r3;refine wpAny_bind (wpAny_seqItems (s:=⟨g4,gs,dr,tk,os⟩) r4 rfl (wpAny_bind (zno (s:=⟨g4,gs,dr,tk,os⟩) r4 fun g5 r5 b5=>?_)));replace r5:IsPair g5 r x y:=r5;replace b5:Heap.SameBut r g4 g5:=b5;refine wpAny_bind (wpAny_letGo (wpAny_pure (wpAny_pure (wpAny_bind (wpAny_seqItems (s:=⟨g5,gs,dr,tk,os⟩) r5 rfl (wpAny_bind (wpAny_newTuple ?_)))))));have sz:g5.objs.size=h0.objs.size:=by rw [b5.1,b4.1,b3.1,b2.1,b1.1]
 have z5:IsZip g5 z p r .ellipsis:=b5.extBut z _ (Ne.symm D.rz) (b4.extBut z _ (Ne.symm D.jz) (b3.extBut z _ (Ne.symm D.rz) (b2.extBut z _ (Ne.symm D.iz) z1)));have k5:∀ q o,q≠z->q≠r->q≠i->q≠j->h0.get? q=some o->g5.get? q=some o:=fun q o n1 n2 n3 n4 e=>b5.extBut q o n2 (b4.extBut q o n4 (k13 q o n1 n2 n3 e));have i5:ItK t g5 i a (k+1):=ItK.at i2 fun o e=>b5.extBut i o (Ne.symm D.ri) (b4.extBut i o D.ij (b3.extBut i o (Ne.symm D.ri) e));have j5:ItK u g5 j b (m+1):=ItK.at j4 fun o e=>b5.extBut j o (Ne.symm D.rj) e;have zl:z<g5.objs.size:=lt_size z5;show wpAny _ _ (Builtin.SmallTypes.ownedTupleHandOut (.ref z) (.ref g5.objs.size) >>= _) _ _ _;refine wpAny_bind ?_;unfold Builtin.SmallTypes.ownedTupleHandOut;have z6:IsZip (g5.push { cls:=.type "tuple",data:=.seq #[x,y] }) z p r .ellipsis:=get?_push_of_some _ z5;refine wpAny_bind (wpAny_setField_rec z6 (by simp) fun g7 z7 b7=>?_);replace z7:IsZip g7 z p r (rawInt g5.objs.size):=z7;replace b7:Heap.SameBut z (g5.push { cls:=.type "tuple",data:=.seq #[x,y] }) g7:=b7;refine wpAny_setField_rec z7 (by simp) fun g8 z8 b8=>?_;replace z8:IsZip g8 z p r (rawInt g5.objs.size):=z8;replace b8:Heap.SameBut z g7 g8:=b8;have up:∀ q o,q≠z->g5.get? q=some o->g8.get? q=some o:=fun q o n e=>b8.extBut q o n (b7.extBut q o n (get?_push_of_some _ e));have t8:IsPair g8 g5.objs.size x y:=b8.extBut _ _ (ne_of_gt zl) (b7.extBut _ _ (ne_of_gt zl) (get?_push_size _ rfl));rw [sz] at z8 t8;refine wpAny_pure ⟨_,rfl,?_⟩;show Q (.ref g5.objs.size) _;rw [sz];exact hQ g8 z8 (up r _ D.rz r5) (i5.at fun o e=>up i o D.iz e) (j5.at fun o e=>up j o D.jz e) t8 fun q o n1 n2 n3 n4 e=>up q o n1 (k5 q o n1 n2 n3 n4 e)
theorem zi0{t u:Bool}{z p r i j a b:Addr}{k m:Nat}{xs ys:Array Value}{c d:Value}{Q:Fin->Shared->Prop}(hh:A.handled=none)(D:ZAp z p r i j a b)(hz:IsZip s.heap z p r .none)(hp:IsPair s.heap p (.ref i) (.ref j))(hr:IsPair s.heap r c d)
  (hi:ItK t s.heap i a k) (hj:ItK u s.heap j b m) (ha:SqK t s.heap a xs) (hb:SqK u s.heap b ys) (hend:xs[k]? = none\/ys[m]? = none)
  (hE:∀ g e,(∀ q o,q≠z->q≠r->q≠i->q≠j->s.heap.get? q=some o->g.get? q=some o)->(∃ o,g.get? e=some o/\o.cls=.type "StopIteration")->E (.ref e) { s with heap:=g }) :
  wpAny (model prog w) A (Builtin.«zip.__next__» ⟨[.ref z],[]⟩) Q E s:=by
 obtain⟨h0,gs,dr,tk,os⟩:=s;show wpAny _ _ (field (.ref z) 2 >>= _) _ _ ⟨h0,gs,dr,tk,os⟩;refine wpAny_bind (wpAny_field hz rfl (x:=.bool false) rfl ?_);show wpAny _ _ (field (.ref z) 3 >>= _) _ _ ⟨h0,gs,dr,tk,os⟩;refine wpAny_bind (wpAny_field hz rfl (x:=.ref p) rfl (wpAny_bind (wpAny_seqItems hp rfl ?_)));show wpAny _ _ (Builtin.SmallTypes.ownedTupleIsFree (.ref z) >>= _) _ _ ⟨h0,gs,dr,tk,os⟩;refine wpAny_bind ?_;unfold Builtin.SmallTypes.ownedTupleIsFree;refine wpAny_bind (wpAny_field hz rfl (x:=.none) rfl (wpAny_pure ?_));simp only [if_true];refine wpAny_bind (wpAny_rule (wpAny_bind (wpAny_field hz rfl (x:=.ref r) rfl (wpAny_bind (wpAny_setField_rec hz (by simp) fun g1 z1 b1=>?_)))));replace z1:IsZip g1 z p r .ellipsis:=z1;replace b1:Heap.SameBut z h0 g1:=b1;refine wpAny_bind ?_;simp only [List.zipIdx_cons,List.zipIdx_nil,forIn_cons,forIn_nil];refine wpAny_bind (wpAny_bind (wpAny_onRaise ?_));show wpAny _ _ (Builtin.SmallTypes.nextOf (.ref i) >>= _) _ _ ⟨g1,gs,dr,tk,os⟩;have notz:∀ {g:Heap} {e:Addr} {o:Obj},IsZip g z p r .ellipsis->g.get? e=some o->o.cls=.type "StopIteration"->e≠z:=fun h1 h2 h3 w=>by
  subst w;rw [h1] at h2;cases h2;simp at h3
 cases hx:xs[k]? with
 | none =>
  refine wpAny_bind (zdY (s:=⟨g1,gs,dr,tk,os⟩) hh (hi.at fun o e=>b1.extBut i o D.iz e) (ha.at fun o e=>b1.extBut a o D.az e) hx fun g2 e b2 he=>?_);obtain⟨oe,e1,e2⟩:=he;have z2:IsZip g2 z p r .ellipsis:=b2 z _ (Ne.symm D.iz) z1;exact wpAny_setField_rec z2 (by simp) fun g3 _ b3=>hE g3 e (fun q o n1 _ n3 _ w=>b3.extBut q o n1 (b2 q o n3 (b1.extBut q o n1 w))) ⟨oe,b3.extBut e oe (notz z2 e1 e2) e1,e2⟩
 | some x =>
  have hy:ys[m]? = none:=hend.elim (fun w=>by rw [hx] at w; cases w) id;refine wpAny_bind (zkR (s:=⟨g1,gs,dr,tk,os⟩) (hi.at fun o e=>b1.extBut i o D.iz e) (ha.at fun o e=>b1.extBut a o D.az e) hx fun g2 i2 b2=>wpAny_pure ?_);replace b2:Heap.SameBut i g1 g2:=b2;have r2:IsPair g2 r c d:=b2.extBut r _ D.ri (b1.extBut r _ D.rz hr);refine wpAny_bind (wpAny_seqItems (s:=⟨g2,gs,dr,tk,os⟩) r2 rfl (wpAny_bind (zno (s:=⟨g2,gs,dr,tk,os⟩) r2 fun g3 r3 b3=>?_)));replace b3:Heap.SameBut r g2 g3:=b3;refine wpAny_bind (wpAny_letGo (wpAny_pure (wpAny_bind (wpAny_bind (wpAny_onRaise ?_)))));show wpAny _ _ (Builtin.SmallTypes.nextOf (.ref j) >>= _) _ _ ⟨g3,gs,dr,tk,os⟩;have k13:∀ q o,q≠z->q≠r->q≠i->h0.get? q=some o->g3.get? q=some o:=fun q o n1 n2 n3 e=>b3.extBut q o n2 (b2.extBut q o n3 (b1.extBut q o n1 e));refine wpAny_bind (zdY (s:=⟨g3,gs,dr,tk,os⟩) hh (hj.at fun o e=>k13 j o D.jz (Ne.symm D.rj) (Ne.symm D.ij) e) (hb.at fun o e=>k13 b o D.bz D.br D.bi e) hy fun g4 e b4 he=>?_);obtain⟨oe,e1,e2⟩:=he;have z4:IsZip g4 z p r .ellipsis:=b4 z _ (Ne.symm D.jz) (b3.extBut z _ (Ne.symm D.rz) (b2.extBut z _ (Ne.symm D.iz) z1));exact wpAny_setField_rec z4 (by simp) fun g5 _ b5=>hE g5 e (fun q o n1 n2 n3 n4 w=>b5.extBut q o n1 (b4 q o n4 (k13 q o n1 n2 n3 w))) ⟨oe,b5.extBut e oe (notz z4 e1 e2) e1,e2⟩
abbrev zpA (t:Bool) (h:Heap) (a:Addr):Heap:=h.push { cls:=.type (if t then "tuple_iterator" else "list_iterator"),data:=.fields #[.ref a,.int 0 0] }
abbrev zpB (t u:Bool) (h:Heap) (a b:Addr):Heap:=(zpA t h a).push { cls:=.type (if u then "tuple_iterator" else "list_iterator"),data:=.fields #[.ref b,.int 0 0] }
abbrev zpC (t u:Bool) (h:Heap) (a b:Addr):Heap:=(zpB t u h a b).push { cls:=.type "tuple",data:=.seq #[.ref h.objs.size,.ref (zpA t h a).objs.size] }
abbrev zpD (t u:Bool) (h:Heap) (a b:Addr):Heap:=(zpC t u h a b).push { cls:=.type "tuple",data:=.seq #[.none,.none] }
abbrev zpE (t u:Bool) (h:Heap) (a b:Addr):Heap:=(zpD t u h a b).push { cls:=.type "zip",data:=.fields #[.none,.bool false,.bool false,.ref (zpB t u h a b).objs.size,.ref (zpC t u h a b).objs.size] }
theorem zqm(t u:Bool)(a b:Addr)(xs ys:Array Value):Meets (Builtin.«zip.__new__» ⟨[.type "zip",.ref a,.ref b],[]⟩) (fun _ R s=>SqK t s.heap a xs/\SqK u s.heap b ys /\
   ∀ g,IsZip g (s.heap.objs.size+4) (s.heap.objs.size+2) (s.heap.objs.size+3) .none->IsPair g (s.heap.objs.size+2) (.ref s.heap.objs.size) (.ref (s.heap.objs.size+1))->IsPair g (s.heap.objs.size+3) .none .none ->
    ItK t g s.heap.objs.size a 0->ItK u g (s.heap.objs.size+1) b 0->(∀ q o,s.heap.get? q=some o->g.get? q=some o)->R (.ok (.ret (.ref (s.heap.objs.size+4)))) { s with heap:=g }) :=
 .of_wp fun prog w A R s hyp=>by
  obtain⟨g0,gs,dr,tk,os⟩:=s;obtain⟨ha,hb,hyp⟩:=hyp;have sub:=sub_zip;have hA:SqK t (Shared.heap ⟨g0,gs,dr,tk,os⟩) a xs:=ha;have hB:SqK u (Shared.heap ⟨g0.push { cls:=.type (if t then "tuple_iterator" else "list_iterator"),data:=.fields #[.ref a,.int 0 0] },gs,dr,tk,os⟩) b ys:=SqK.at hb fun o e=>get?_push_of_some _ e
  wp_walk using zrS hA,zrS hB
  refine⟨_,rfl,?_⟩;have z1:(zpA t g0 a).objs.size=g0.objs.size+1:=size_push ..;have z2:(zpB t u g0 a b).objs.size=g0.objs.size+2:=by rw [size_push,z1]
  have z3:(zpC t u g0 a b).objs.size=g0.objs.size+3:=by rw [size_push,z2]
  have z4:(zpD t u g0 a b).objs.size=g0.objs.size+4:=by rw [size_push,z3]
  have f1:=get?_push_size g0 (o:={ cls:=.type (if t then "tuple_iterator" else "list_iterator"),data:=.fields #[.ref a,.int 0 0] }) (by cases t <;> rfl);have f2:=get?_push_size (zpA t g0 a) (o:={ cls:=.type (if u then "tuple_iterator" else "list_iterator"),data:=.fields #[.ref b,.int 0 0] }) (by cases u <;> rfl);have f3:=get?_push_size (zpB t u g0 a b) (o:={ cls:=.type "tuple",data:=.seq #[.ref g0.objs.size,.ref (zpA t g0 a).objs.size] }) rfl;have f4:=get?_push_size (zpC t u g0 a b) (o:={ cls:=.type "tuple",data:=.seq #[.none,.none] }) rfl;have f5:=get?_push_size (zpD t u g0 a b) (o:={ cls:=.type "zip",data:=.fields #[.none,.bool false,.bool false,.ref (zpB t u g0 a b).objs.size,.ref (zpC t u g0 a b).objs.size] }) rfl;have c1:∀ q o,g0.get? q=some o->(zpA t g0 a).get? q=some o:=fun q o e=>get?_push_of_some _ e;have c2:∀ q o,(zpA t g0 a).get? q=some o->(zpB t u g0 a b).get? q=some o:=fun q o e=>get?_push_of_some _ e;have c3:∀ q o,(zpB t u g0 a b).get? q=some o->(zpC t u g0 a b).get? q=some o:=fun q o e=>get?_push_of_some _ e;have c4:∀ q o,(zpC t u g0 a b).get? q=some o->(zpD t u g0 a b).get? q=some o:=fun q o e=>get?_push_of_some _ e;have c5:∀ q o,(zpD t u g0 a b).get? q=some o->(zpE t u g0 a b).get? q=some o:=fun q o e=>get?_push_of_some _ e;have y1:=c5 _ _ (c4 _ _ (c3 _ _ (c2 _ _ f1)));have y2:=c5 _ _ (c4 _ _ (c3 _ _ f2));have y3:=c5 _ _ (c4 _ _ f3);have y4:=c5 _ _ f4;have y5:(zpE t u g0 a b).get? (zpD t u g0 a b).objs.size=some { cls:=.type "zip",data:=.fields #[.none,.bool false,.bool false,.ref (zpB t u g0 a b).objs.size,.ref (zpC t u g0 a b).objs.size] }:=f5;have fin:R (.ok (.ret (.ref (zpD t u g0 a b).objs.size))) ⟨zpE t u g0 a b,gs,dr,tk,os⟩:=by
   rw [z4,z2,z3] at y5;rw [z2,z1] at y3;rw [z3] at y4;rw [z1] at y2;rw [z4];refine hyp _ y5 y3 y4 ?_ ?_ fun q o e=>c5 q o (c4 q o (c3 q o (c2 q o (c1 q o e))))
   ·cases t <;> exact⟨_,y1,rfl,rfl⟩
   ·cases u <;> exact⟨_,y2,rfl,rfl⟩
  exact fin
theorem zh7{t u:Bool}{a b:Addr}{xs ys:Array Value}{Q:Value->Shared->Prop}(ha:SqK t s.heap a xs)(hb:SqK u s.heap b ys)
  (hyp:∀ g,IsZip g (s.heap.objs.size+4) (s.heap.objs.size+2) (s.heap.objs.size+3) .none->IsPair g (s.heap.objs.size+2) (.ref s.heap.objs.size) (.ref (s.heap.objs.size+1))->IsPair g (s.heap.objs.size+3) .none .none ->
    ItK t g s.heap.objs.size a 0->ItK u g (s.heap.objs.size+1) b 0->(∀ q o,s.heap.get? q=some o->g.get? q=some o)->Q (.ref (s.heap.objs.size+4)) { s with heap:=g }):wpAny (model prog w) A (call (.type "zip") [.ref a,.ref b]) Q E s:=by
 refine callType_new F.called_zip dz (F.typeCall_zip_2 _ _) (F.newCall_zip_2 _ _) (fun ob=>F.args_object_init_3 ob _ _) F.entry_zip_new (zqm t u a b xs ys) ⟨ha,hb,fun g h1 h2 h3 h4 h5 h6=>?_⟩;exact⟨⟨_,h1,rfl⟩,hyp g h1 h2 h3 h4 h5 h6⟩
end
def Itz(S1 S2:Hp->Addr->List V->Prop)(a b:Addr):It :=
 ⟨fun i H=>∃ xs ys x y,S1 H a xs/\S2 H b ys/\xs[i]? = some x/\ys[i]? = some y,fun i H x H'=>∃ p v u,H p=none/\x=.ref p/\H'=upd H p (.tup [v,u])/\(∀ xs,S1 H a xs->xs[i]? = some v)/\(∀ ys,S2 H b ys->ys[i]? = some u),fun i H=>∃ xs ys,S1 H a xs/\S2 H b ys/\(xs.length<=i\/ys.length<=i)⟩
def SqV(K:W.Frag)(t:Bool)(H:Hp)(a:Addr)(xs:List V):Prop:=match t with
 | true=>SqT K H a xs
 | false=>SqL K H a xs
theorem Inv.seqK{X:Cx}{zh:List (Addr×Obj)}{σ:St}{H:Hp}{s:Shared}{t:Bool}{a:Addr}{xs:List V}(I:Inv X zh σ H s)(h:SqV X.K t H a xs):∃ its:List Value,Vals xs its/\SqK t s.heap a its.toArray/\∀ ys,SqV X.K t H a ys->ys=xs:=by
 cases t
 ·obtain⟨its,rv,p,_⟩:=I.list h;exact⟨its,rv,p.isList,fun ys hy=>I.list_inj hy h⟩
 ·obtain⟨its,rv,p,_⟩:=I.tuple h;exact⟨its,rv,p,fun ys hy=>I.tuple_inj hy h⟩
theorem znI{P:Program}{w:World}{K:W.Frag}{elts:List Expr}{n:Nat}{pos:Pos}(t u:Bool)(z p r i j a b:Addr)(D:ZAp z p r i j a b):Turn P w K (.Tuple elts n pos) (Itz (SqV K t) (SqV K u) a b) [z,p,r,i,j] z
  (fun k h=>IsZip h z p r .none/\IsPair h p (.ref i) (.ref j)/\(∃ c d,IsPair h r c d)/\ItK t h i a k/\ItK u h j b k) where
 mem:=by simp
 obj:=fun k h ⟨h1,h2,⟨c,d,h3⟩,h4,h5⟩ q hq=>by
  simp only [mem_cons,not_mem_nil,or_false] at hq;rcases hq with rfl | rfl | rfl | rfl | rfl
  ·exact⟨_,h1,fun v e=>by cases (show Data.fields _=Data.cell v from e)⟩
  ·exact⟨_,h2,fun v e=>by cases (show Data.seq _ _=Data.cell v from e)⟩
  ·exact⟨_,h3,fun v e=>by cases (show Data.seq _ _=Data.cell v from e)⟩
  ·exact h4.here
  ·exact h5.here
 keep:=fun k h h' ⟨h1,h2,⟨c,d,h3⟩,h4,h5⟩ f=>⟨f z (by simp) _ h1,f p (by simp) _ h2,⟨c,d,f r (by simp) _ h3⟩,h4.at fun o e=>f i (by simp) o e,h5.at fun o e=>f j (by simp) o e⟩
 item:=by
  intro X hP hw hK hc k zh s σ H E I hf st hg;subst hP hw hK;obtain⟨xs,ys,x,y,q1,q2,ex,ey⟩:=hg;obtain⟨its,rv,sq,inj⟩:=I.seqK q1;obtain⟨its2,rv2,sq2,inj2⟩:=I.seqK q2;obtain⟨v1,e1,r1⟩:=rv.get ex;obtain⟨v2,e2,r2⟩:=rv2.get ey;obtain⟨h1,h2,⟨c,d,h3⟩,h4,h5⟩:=st;have ty:s.TypeIs (.ref z) "zip":=⟨_,h1,rfl⟩;unfold pyNext;refine wpAny_bind (wpAny_attempt (wpAny_callSpecial?_slot (name:=Str.ofString "__next__") ty F.slot_zip_next (wpAny_call_entry F.slot_zip_next ty F.entry_zip_next
   (zir D h1 h2 h3 h4 h5 sq sq2 (by simpa using e1) (by simpa using e2) fun g a1 a2 a3 a4 a5 kk=>wpAny_pure ⟨_,rfl,?_⟩) (F.args_zip_next_1 _))))
  refine wpAny_letOwnedTupleGo_zip (s:={ s with heap:=g }) a1 fun g' z' b'=>?_;have lt:∀ {q o},s.heap.get? q=some o->s.heap.objs.size≠q:=fun e=>ne_of_gt (lt_size e);have b'':Heap.SameBut z g g':=b';have pT:IsPair g' s.heap.objs.size v1 v2:=b''.extBut _ _ (lt h1) a5;have hn:=I.hok.fresh (le_refl s.heap.objs.size);have kk':∀ q o,q∉[z,r,i,j]->s.heap.get? q=some o->g'.get? q=some o:=fun q o hq e=>by
   simp only [mem_cons,not_mem_nil,or_false,not_or] at hq;exact b''.extBut q o hq.1 (kk q o hq.1 hq.2.1 hq.2.2.1 hq.2.2.2 e)
  have I1:Inv X zh σ (upd H s.heap.objs.size (.tup [x,y])) { s with heap:=g' }:=I.turnLaid (t':=s.toks) (ch:=[z,r,i,j]) kk' (fun q hq=>hf q (by
   simp only [mem_cons,not_mem_nil,or_false] at hq ⊢;rcases hq with h | h | h | h
   ·exact .inl h
   ·exact .inr (.inr (.inl h))
   ·exact .inr (.inr (.inr (.inl h)))
   ·exact .inr (.inr (.inr (.inr h))))) (le_refl _) ⟨⟨by show 2<=sizeLine; decide,_,pT,rfl⟩,[v1,v2],.cons r1 (.cons r2 .nil),⟨_,pT,rfl,_,rfl⟩⟩
  have fresh:∀ q,q∈[z,p,r,i,j]->q≠s.heap.objs.size:=fun q hq w=>by
   simp only [mem_cons,not_mem_nil,or_false] at hq;obtain⟨o1,w1,_⟩:=h4.here;obtain⟨o2,w2,_⟩:=h5.here;rcases hq with h | h | h | h | h
   ·exact lt h1 (w.symm.trans h)
   ·exact lt h2 (w.symm.trans h)
   ·exact lt h3 (w.symm.trans h)
   ·exact lt w1 (w.symm.trans h)
   ·exact lt w2 (w.symm.trans h)
  refine⟨.ref s.heap.objs.size,_,I1,rfl,⟨_,x,y,hn,rfl,rfl,fun zs hz=>by rw [inj zs hz]; exact ex,fun zs hz=>by rw [inj2 zs hz]; exact ey⟩,⟨z',kk' p _ (by simp [D.pz,D.pr,D.pi,D.pj]) h2,⟨_,_,b''.extBut r _ D.rz a2⟩,a3.at fun o e=>b''.extBut i o D.iz e,a4.at fun o e=>b''.extBut j o D.jz e⟩,fun q hq=>?_⟩;rw [zI (fresh q hq)];exact(hf q hq).1
 done:=by
  intro X hP hw hK hc k zh s σ H E I hf st hg;subst hP hw hK;obtain⟨xs,ys,q1,q2,hl⟩:=hg;obtain⟨its,rv,sq,inj⟩:=I.seqK q1;obtain⟨its2,rv2,sq2,inj2⟩:=I.seqK q2;obtain⟨h1,h2,⟨c,d,h3⟩,h4,h5⟩:=st;have l1:=rv.length;have l2:=rv2.length;have ty:s.TypeIs (.ref z) "zip":=⟨_,h1,rfl⟩;unfold pyNext;refine wpAny_bind (wpAny_attempt (wpAny_callSpecial?_slot (name:=Str.ofString "__next__") ty F.slot_zip_next (wpAny_call_entry F.slot_zip_next ty F.entry_zip_next
   (zi0 (I.ok.hd hc) D h1 h2 h3 h4 h5 sq sq2 (hl.elim (fun h=>.inl (by simp; omega)) fun h=>.inr (by simp; omega)) fun g e kk he=>?_) (F.args_zip_next_1 _))))
  obtain⟨o,ho,hc'⟩:=he;refine wpAny_bind (wpAny_isInstance (T:="StopIteration") (b:=true) ⟨o,ho,hc'⟩ isSubtype_stop (wpAny_pure ⟨rfl,?_⟩));refine I.turnedN (t':=s.toks) (ch:=[z,r,i,j]) (fun q o hq e=>?_) fun q hq=>hf q (by
   simp only [mem_cons,not_mem_nil,or_false] at hq ⊢;rcases hq with h | h | h | h
   ·exact .inl h
   ·exact .inr (.inr (.inl h))
   ·exact .inr (.inr (.inr (.inl h)))
   ·exact .inr (.inr (.inr (.inr h))))
  simp only [mem_cons,not_mem_nil,or_false,not_or] at hq;exact kk q o hq.1 hq.2.1 hq.2.2.1 hq.2.2.2 e
 self:=fun _ _ _ _ _ st h=>wpAny_pyIter_zip st.1 h
theorem nne{a b:Nat}(h:a<b\/b<a):(show Addr from a)≠(show Addr from b):=fun e=>by
 have e':a=b:=e;omega
theorem zpL(N a b:Nat)(ha:a<N)(hb:b<N):ZAp (N+4) (N+2) (N+3) N (N+1) a b:=by
 constructor <;> exact nne (by omega)
theorem zrj(N q:Nat)(hq:q=N+4\/q=N+2\/q=N+3\/q=N\/q=N+1):N<=q:=by omega
section
variable {X:Cx} {elts:List Expr} {n:Nat} {tpos:Pos}
theorem zkb:bootBuiltins "zip" = some (.type "zip"):=by decide +kernel
def ztn(K:W.Frag)(ta:TA):TI:=fun σ H R=>ta σ H fun vs H1=>∃ a b t u,vs=[.ref a,.ref b]/\(∃ xs,SqV K t H1 a xs)/\(∃ ys,SqV K u H1 b ys)/\R (Itz (SqV K t) (SqV K u) a b) H1
theorem zi4{e1 e2:Expr}{ta:TA}{p pos:Pos}(hg:Gl X "zip")(hm:X.mg "zip" = none)(ha:PA X [e1,e2] ta)(hs:starEach [e1,e2] X.env=[(false,eval e1 X.env),(false,eval e2 X.env)]:=by rfl)(hs2:starEach [e2] X.env=[(false,eval e2 X.env)]:=by rfl):
  PI X (.Tuple elts n tpos) (.Call (.Name "zip" p) [e1,e2] [] pos) (ztn X.K ta):=by
 intro zh s σ H R I h;refine Call_ (zcF I hg hm zkb (PyProof.Rows.callWith_type1 (thn (ha pos zh s σ H _ I h) fun us s1 ⟨vs,H1,I1,r1,q1⟩=>?_) (by rw [hs,hs2]) (by rw [hs2]; rfl)));obtain⟨a,b,t,u,e,⟨xs,q1⟩,⟨ys,q2⟩,q⟩:=q1;subst e;cases r1 with
 | cons r rr =>
  cases rr with
  | cons r' rr =>
   cases rr;cases r;cases r';obtain⟨its,rv,sq,_⟩:=I1.seqK q1;obtain⟨its2,rv2,sq2,_⟩:=I1.seqK q2;refine zh7 sq sq2 fun g h1 h2 h3 h4 h5 k=>?_;refine wpAny_pyIter_zip (s:={ s1 with heap:=g }) h1 ?_
   have I2:Inv X zh σ H1 { s1 with heap:=g }:=I1.kept (t':=s1.toks) k;obtain⟨oa,fa⟩:=sq.here;obtain⟨ob,fb⟩:=sq2.here;have la:=lt_size fa;have lb:=lt_size fb;have D:ZAp (s1.heap.objs.size+4) (s1.heap.objs.size+2) (s1.heap.objs.size+3) s1.heap.objs.size (s1.heap.objs.size+1) a b:=zpL _ _ _ la lb;refine⟨_,[s1.heap.objs.size+4,s1.heap.objs.size+2,s1.heap.objs.size+3,s1.heap.objs.size,s1.heap.objs.size+1],_,_,H1,rfl,I2,znI t u _ _ _ _ _ a b D,⟨h1,h2,⟨_,_,h3⟩,h4,h5⟩,fun q hq=>?_,q⟩;have hl:s1.heap.objs.size<=q:=by
    simp only [mem_cons,not_mem_nil,or_false] at hq;exact zrj _ _ hq
   exact I1.fpOk hl (I1.hok.fresh hl)
end
def zhF:List PyData->List PyData->List PyData
 | d :: ds,e :: es=>.tuple [d,e] :: zhF ds es
 | _,_=>[]
theorem zhx:∀ (ds es:List PyData) (k:Nat) (x:PyData),(zhF ds es)[k]? = some x->∃ d e,ds[k]? = some d/\es[k]? = some e/\x=.tuple [d,e]
 | [],_,_,_,h=>by simp [zhF] at h
 | _ :: _,[],_,_,h=>by simp [zhF] at h
 | d :: ds,e :: es,0,x,h=>by
  have e':PyData.tuple [d,e]=x:=by simpa [zhF] using h
  exact⟨d,e,rfl,rfl,e'.symm⟩
 | d :: ds,e :: es,k+1,x,h=>by
  obtain⟨d',e',h1,h2,h3⟩:=zhx ds es k x (by simpa [zhF] using h);exact⟨d',e',by simpa using h1,by simpa using h2,h3⟩
theorem zjR:∀ (ds es:List PyData),(zhF ds es).length=min ds.length es.length
 | [],_=>by simp [zhF]
 | _ :: _,[]=>by simp [zhF]
 | d :: ds,e :: es=>by simp [zhF,zjR ds es]; try omega
theorem zep{α β:Type}(f:α->PyData)(g:β->PyData):∀ (xs:List α) (ys:List β),zhF (xs.map f) (ys.map g)=(xs.zip ys).map fun q=>.tuple [f q.1,g q.2]
 | [],_=>by simp [zhF]
 | _ :: _,[]=>by simp [zhF]
 | x :: xs,y :: ys=>by simp [zhF,zep f g xs ys]
def zgL(a:DA):DI:=fun δ S R=>a δ S fun xs S1=>arg2 xs fun x y=>∃ ds,zkJ x=some ds/\∃ es,zkJ y=some es/\R (zhF ds es) S1
theorem zfb{K:W.Frag}{h o:List Addr}{H:Hp}{x:XV}{v:V}{ds:List PyData}(e:zkJ x=some ds)(q:HasX h o H x v):∃ t a ws,v=.ref a/\HasL (vx h o H) ds ws/\∀ {o2 H2},ExH h o H o2 H2->SqV K t H2 a ws:=by
 unfold zkJ at e;split at e
 ·cases e;obtain⟨a,ws,rfl,ea,l⟩:=za8.mp (show Has (vx h o H) (.list ds) v from q);exact⟨false,a,ws,rfl,l,fun e2=>(SqL.of (zal _ _ (e2.vx _ _ ea)):SqL K _ a ws)⟩
 ·cases e;obtain⟨a,ws,rfl,ea,l⟩:=zaw.mp (show Has (vx h o H) (.tuple ds) v from q);exact⟨true,a,ws,rfl,l,fun e2=>(SqT.of (zal _ _ (e2.vx _ _ ea)):SqT K _ a ws)⟩
 ·cases e
theorem zi6{K:W.Frag}{ta:TA}{da:DA}(ha:RA ta da):RI (ztn K ta) (zgL da):=fun h o H δ σ S R Q he hs q c =>
 ha h o H δ σ S _ _ he hs q fun o1 H1 S1 xs vs e1 s1 x1 d0=>by
  obtain⟨x,y,rfl,ds,hd,es,hes,d1⟩:=zfz d0;obtain⟨v,u,rfl,hv,hu⟩:=hxs2 x1;obtain⟨t,a,ws,rfl,l,k1⟩:=zfb (K:=K) hd hv;obtain⟨t',b,zs,rfl,l',k2⟩:=zfb (K:=K) hes hu;have hl:=l.length;have hl':=l'.length;refine⟨a,b,t,t',rfl,⟨ws,k1 ExH.refl⟩,⟨zs,k2 ExH.refl⟩,c o1 H1 S1 _ _ e1 s1 ⟨fun i o2 H2 e2 hi=>⟨ws,zs,k1 e2,k2 e2,by rw [zjR] at hi; omega⟩,fun i d o2 H2 e2 hi=>?_,fun i d o2 H2 x H3 S2 e2 s2 hi y=>?_⟩ d1⟩
  ·obtain⟨d',e',h1,h2,rfl⟩:=zhx ds es i d hi;obtain⟨u1,eu1,_⟩:=l.get h1;obtain⟨u2,eu2,_⟩:=l'.get h2;exact⟨ws,zs,u1,u2,k1 e2,k2 e2,eu1,eu2⟩
  ·obtain⟨d',e',h1,h2,rfl⟩:=zhx ds es i d hi;obtain⟨u1,eu1,hu1⟩:=l.get h1;obtain⟨u2,eu2,hu2⟩:=l'.get h2;obtain⟨p,v,u,hp,rfl,rfl,y1,y2⟩:=y;have f1:=y1 ws (k1 e2);have f2:=y2 zs (k2 e2);rw [eu1] at f1;rw [eu2] at f2;cases f1;cases f2;exact⟨Same.laid hp,zaw.mpr ⟨p,_,rfl,s2.laid hp,zr.mpr ⟨_,_,rfl,(hu1.mono e2.vx).mono (zc8 (Same.laid hp)),zr.mpr ⟨_,_,rfl,(hu2.mono e2.vx).mono (zc8 (Same.laid hp)),zC.mpr rfl⟩⟩⟩⟩
end
section
open Sem (wp)
section
variable {prog:Program} {w:World} {A:Around} {R:Result->Shared->Prop} {I:Addr} {fp wr:List Addr} {n:Nat} {P:Nat->Value->Prop} {St:Nat->Heap->Prop}
def CmpH(prog:Program)(w:World)(A:Around)(g:Heap)(own:List Addr)(P:Nat->Value->Prop)(bt:Nat->Nat->Bool):Prop :=
 ∀ i j x y (s:Shared) (Q:Value->Shared->Prop) (E:Value->Shared->Prop),(∀ b o,b∉own->g.get? b=some o->s.heap.get? b=some o)->P i x->P j y->Q (.bool (bt i j)) s->wpAny (model prog w) A (richCompare .Lt x y) Q E s
theorem zmD(W:Walks prog w A.in1 I fp wr n P St)(bt:Nat->Nat->Bool){g:Heap}(S:Addr)(cm:CmpH prog w A.in1 g (S :: wr) P bt)(nS:S∉fp):∀ (d j:Nat) (s:Shared) (best:Value) (c:Nat),n=j+1+d->(∀ b o,b∉S :: wr->g.get? b=some o->s.heap.get? b=some o)->St (j+1) s.heap->P (argBest bt j) best ->
   s.heap.get? S=some { cls:=.type "list",dict:=none,data:=.seq #[best,best] c,slots:=#[] } ->
   (∀ v h' tk,P (argBest bt (n - 1)) v->(∀ b o,b∉S :: wr->s.heap.get? b=some o->h'.get? b=some o)->R (.ok (.ret v)) { s with heap:=h',toks:=tk })->codeAny (model prog w) A (.builtin "min.loop" ⟨[.ref I,.none,.ref S],[]⟩) R s:=by
 have nw:S∉wr:=fun m=>nS (W.sub _ m);have nm:(toString "min" ++ toString ".loop":String) = "min.loop":=by decide
 intro d;induction d with
 | zero =>
  intro j s best c hd kg st hb hS fin;have hj:j+1=n:=by omega
  refine codeAny_builtin F.entry_min_loop ?_;rw [Around.under_plainId F.plain_min_loop _];show wpAny _ A.in1 (seqItems? (.ref S) >>= _) _ _ s;refine wpAny_bind (wpAny_seqItems hS rfl ?_);show wpAny _ A.in1 (tryCatch (pyNext (.ref I)) _ >>= _) _ _ s;refine wpAny_bind (wpAny_tryCatch (W.done s _ _ (by rw [<- hj]; exact st) fun h1 t1 k1=>?_));have hS1:=k1 S _ nw hS;show wpAny _ A.in1 (updateSeq S (fun _=>#[]) >>= _) _ _ _;refine wpAny_bind (wpAny_updateSeq hS1 rfl (wpAny_bind (wpAny_letGo (wpAny_pure (fin best _ t1 (by rw [<- hj]; exact hb) fun b o hn e=>?_)))));rw [mem_cons,not_or] at hn;exact(get?_update_other _ _ (Ne.symm hn.1)).trans (k1 b o hn.2 e)
 | succ d ih =>
  intro j s best c hd kg st hb hS fin;refine codeAny_builtin F.entry_min_loop ?_;rw [Around.under_plainId F.plain_min_loop _];show wpAny _ A.in1 (seqItems? (.ref S) >>= _) _ _ s;refine wpAny_bind (wpAny_seqItems hS rfl ?_);show wpAny _ A.in1 (tryCatch (pyNext (.ref I)) _ >>= _) _ _ s;refine wpAny_bind (wpAny_tryCatch (W.item (j+1) s _ _ (by omega) st fun x h1 t1 hx st1 k1=>?_));have hS1:=k1 S _ nw hS;have kg1:∀ b o,b∉S :: wr->g.get? b=some o->h1.get? b=some o:=fun b o hn e=>k1 b o (fun m=>hn (mem_cons_of_mem _ m)) (kg b o hn e);show wpAny _ A.in1 (tryCatch (holding [x,x] (richCompare .Lt x best >>= _)) _ >>= _) _ _ _;refine wpAny_bind (wpAny_tryCatch (wpAny_holding (wpAny_bind (cm (j+1) (argBest bt j) x best _ _ _ kg1 hx hb (wpAny_bind (wpAny_holding (wpAny_truthy_bool (wpAny_bind (wpAny_letGo (wpAny_pure ?_)))))))))) ;cases ht:bt (j+1) (argBest bt j) with
  | true =>
   simp only [if_true];refine wpAny_bind (wpAny_updateSeq hS1 rfl (wpAny_bind (wpAny_letGo ?_)));rw [nm];have keep:∀ b o,b∉S :: wr->s.heap.get? b=some o->(h1.update S (Obj.mapSeq fun _=>#[x,x])).get? b=some o:=fun b o hn e=>by
    rw [mem_cons,not_or] at hn;exact(get?_update_other _ _ (Ne.symm hn.1)).trans (k1 b o hn.2 e)
   refine wpAny_pure ⟨plainId_quiet F.plain_min_loop _,ih (j+1) _ x _ (by omega) (fun b o hn e=>keep b o hn (kg b o hn e)) (W.frame _ _ _ st1 fun b m o e=>?_) (by simp only [argBest,ht,if_true]; exact hx) (get?_update_self _ hS1 rfl) fun v h2 t2 hv k2=>fin v h2 t2 hv fun b o hn e=>k2 b o hn (keep b o hn e)⟩;exact(get?_update_other _ _ (fun z:S=b=>nS (by rw [z]; exact m))).trans e
  | false =>
   simp only [Bool.false_eq_true,if_false];refine wpAny_bind (wpAny_letGo ?_);rw [nm];exact wpAny_pure ⟨plainId_quiet F.plain_min_loop _,ih (j+1) _ best c (by omega) kg1 st1 (by simp only [argBest,ht,Bool.false_eq_true,if_false]; exact hb) hS1 fun v h2 t2 hv k2=>fin v h2 t2 hv fun b o hn e=>k2 b o hn (k1 b o (fun m=>hn (mem_cons_of_mem _ m)) e)⟩
theorem zlu(W:Walks prog w A.in1 I fp wr n P St)(bt:Nat->Nat->Bool)(S:Addr)(nS:S∉fp)(hn:0<n){s:Shared}{c:Nat}(cm:CmpH prog w A.in1 s.heap (S :: wr) P bt)(st:St 0 s.heap)(hS:s.heap.get? S=some { cls:=.type "list",dict:=none,data:=.seq #[] c,slots:=#[] })
  (fin:∀ v h' tk,P (argBest bt (n - 1)) v->(∀ b o,b∉S :: wr->s.heap.get? b=some o->h'.get? b=some o)->R (.ok (.ret v)) { s with heap:=h',toks:=tk }):codeAny (model prog w) A (.builtin "min.loop" ⟨[.ref I,.none,.ref S],[]⟩) R s:=by
 have nw:S∉wr:=fun m=>nS (W.sub _ m);have nm:(toString "min" ++ toString ".loop":String) = "min.loop":=by decide
 refine codeAny_builtin F.entry_min_loop ?_;rw [Around.under_plainId F.plain_min_loop _];show wpAny _ A.in1 (seqItems? (.ref S) >>= _) _ _ s;refine wpAny_bind (wpAny_seqItems hS rfl ?_);show wpAny _ A.in1 (tryCatch (pyNext (.ref I)) _ >>= _) _ _ s;refine wpAny_bind (wpAny_tryCatch (W.item 0 s _ _ hn st fun x h1 t1 hx st1 k1=>?_));have hS1:=k1 S _ nw hS;show wpAny _ A.in1 (updateSeq S (fun _=>#[x,x]) >>= _) _ _ _;refine wpAny_bind (wpAny_updateSeq hS1 rfl ?_);rw [nm];have keep:∀ b o,b∉S :: wr->s.heap.get? b=some o->(h1.update S (Obj.mapSeq fun _=>#[x,x])).get? b=some o:=fun b o hn e=>by
  rw [mem_cons,not_or] at hn;exact(get?_update_other _ _ (Ne.symm hn.1)).trans (k1 b o hn.2 e)
 refine wpAny_pure ⟨plainId_quiet F.plain_min_loop _,zmD W bt S cm nS (n - 1) 0 _ x _ (by omega) keep (W.frame _ _ _ st1 fun b m o e=>?_) hx (get?_update_self _ hS1 rfl) fun v h2 t2 hv k2=>fin v h2 t2 hv fun b o hn e=>k2 b o hn (keep b o hn e)⟩;exact(get?_update_other _ _ (fun z:S=b=>nS (by rw [z]; exact m))).trans e
end
section
variable {prog:Program} {w:World} {A:Around} {E:Value->Shared->Prop} {s:Shared}
theorem ziU{l:Addr}{its:Array Value}{Q:Value->Shared->Prop}(hh:A.handled=none)(hl:s.heap.IsList l its)(hne:0<its.size)(bt:Nat->Nat->Bool)
  (cm:∀ i j x y (s':Shared) (Q:Value->Shared->Prop) (E:Value->Shared->Prop),(∀ b o,s.heap.get? b=some o->s'.heap.get? b=some o)->its[i]? = some x->its[j]? = some y->Q (.bool (bt i j)) s'->wpAny (model prog w) A.in1 (richCompare .Lt x y) Q E s')
  (fin:∀ v h' tk,its[argBest bt (its.size - 1)]? = some v->(∀ b o,s.heap.get? b=some o->h'.get? b=some o)->Q v { s with heap:=h',toks:=tk }):wpAny (model prog w) A (call (.builtin "min") [.ref l]) Q E s:=by
 have nm:(toString "min" ++ toString ".loop":String) = "min.loop":=by decide
 have lt:l<s.heap.objs.size:=by obtain⟨o,e,_⟩:=hl; exact lt_size e
 refine call_function_tree F.kind_min F.plain_min F.entry_min (F.args_min1 _) ?_;show wpAny _ A.in1 (Builtin.Builtins.bindParams "min" ["key","default"] 0 ⟨[],[]⟩ >>= _) _ _ s;refine wpAny_bind (wpAny_of_eq (show Builtin.Builtins.bindParams "min" ["key","default"] 0 ⟨[],[]⟩=pure [none,none] from rfl) (wpAny_bind (wpAny_pure (wpAny_bind (wpAny_pyIter_list hl ?_)))));refine wpAny_bind (wpAny_newObj_type ?_);rw [nm];have z1:(s.heap.push { cls:=.type "list_iterator",data:=.fields #[.ref l,.int 0 0] }).objs.size=s.heap.objs.size+1:=size_push ..;have nS:(s.heap.push { cls:=.type "list_iterator",data:=.fields #[.ref l,.int 0 0] }).objs.size∉[s.heap.objs.size,l]:=by
  rw [z1];simp only [mem_cons,not_mem_nil,or_false,not_or];exact⟨succ_ne_self _,ne_of_gt (lt_succ_of_lt lt)⟩
 have up:∀ b o,s.heap.get? b=some o->((s.heap.push { cls:=.type "list_iterator",data:=.fields #[.ref l,.int 0 0] }).push { cls:=.type "list",data:=.seq #[] }).get? b=some o:=fun b o e=>get?_push_of_some _ (get?_push_of_some _ e);have old:∀ b o,s.heap.get? b=some o->b∉(s.heap.push { cls:=.type "list_iterator",data:=.fields #[.ref l,.int 0 0] }).objs.size :: [s.heap.objs.size]:=fun b o e=>by
  rw [z1];simp only [mem_cons,not_mem_nil,or_false,not_or];have:=lt_size e;exact⟨ne_of_lt (lt_succ_of_lt this),ne_of_lt this⟩
 refine wpAny_pure ⟨plainId_quiet F.plain_min_loop _,zlu (Walks.list (A:=A.in1) hh _ l (ne_of_lt lt) its) bt _ nS hne (fun i j x y s' Q' E' k hi hj q=>cm i j x y s' Q' E' (fun b o e=>k b o (old b o e) (up b o e)) hi hj q) ?_ (get?_push_size _ rfl) fun v h' tk hv k=>fin v h' tk hv fun b o e=>k b o (old b o e) (up b o e)⟩;exact⟨⟨_,get?_push_of_some _ (get?_push_size _ rfl),rfl,rfl⟩,(hl.push _).push _⟩
end
def zrF(K:W.Frag):List V->Hp->VK->Prop:=fun xs H Q=>∃ (p:Addr) (vs:List V) (nss:List (List Int)),xs=[.ref p]/\SqL K H p vs/\vs≠[]/\Paired (fun(v:V) (ns:List Int)=>∃ a,v=.ref a/\H a=some (.tup (ns.map V.int))) vs nss /\
 ∀ (i:Nat) v ns,vs[i]? = some v->nss[i]? = some ns->(∀ ms∈nss,HT.lexLt ms ns=false)->Q v H
theorem zdV{ns:Nat->List Int}(tr:∀ a b c:List Int,HT.lexLt a b=false->HT.lexLt b c=false->HT.lexLt a c=false)(as:∀ a b:List Int,HT.lexLt a b=true->HT.lexLt b a=false):∀ k,argBest (fun i j=>HT.lexLt (ns i) (ns j)) k<=k/\∀ j,j<=k->HT.lexLt (ns j) (ns (argBest (fun i j=>HT.lexLt (ns i) (ns j)) k))=false
 | 0=>⟨le_refl _,fun j hj=>by
   have:j=0:=by omega
   subst this;show HT.lexLt (ns 0) (ns 0)=false;cases h:HT.lexLt (ns 0) (ns 0) with
   | false=>rfl
   | true=>have:=as _ _ h; rw [h] at this; cases this⟩
 | k+1=>by
  obtain⟨h1,h2⟩:=zdV tr as (ns:=ns) k;simp only [argBest];by_cases hb:HT.lexLt (ns (k+1)) (ns (argBest (fun i j=>HT.lexLt (ns i) (ns j)) k))=true
  ·rw [if_pos hb];refine⟨le_refl _,fun j hj=>?_⟩;by_cases e:j=k+1
   ·subst e;cases h:HT.lexLt (ns (k+1)) (ns (k+1)) with
    | false=>rfl
    | true=>have:=as _ _ h; rw [h] at this; cases this
   ·exact tr _ _ _ (h2 j (by omega)) (as _ _ hb)
  ·rw [if_neg hb];refine⟨by omega,fun j hj=>?_⟩;by_cases e:j=k+1
   ·subst e; exact Bool.eq_false_iff.mpr hb
   ·exact h2 j (by omega)
theorem zhq:∀ a b:List Int,HT.lexLt a b=true->HT.lexLt b a=false
 | [],[],h=>by cases h
 | [],y :: ys,_=>rfl
 | x :: xs,[],h=>by cases h
 | x :: xs,y :: ys,h=>by
  rw [HT.lexLt_cons] at h ⊢;by_cases e:x=y
  ·subst e;rw [if_pos rfl] at h ⊢;exact zhq xs ys h
  ·rw [if_neg e] at h;rw [if_neg (Ne.symm e)];simp only [decide_eq_true_eq] at h;simp only [decide_eq_false_iff_not];omega
theorem zeO:∀ a b c:List Int,HT.lexLt a b=false->HT.lexLt b c=false->HT.lexLt a c=false
 | _,_,[],_,_=>by rename_i a b _ _; cases a <;> rfl
 | [],[],z :: zs,_,h=>by cases h
 | [],y :: ys,z :: zs,h,_=>by cases h
 | x :: xs,[],z :: zs,_,h=>by cases h
 | x :: xs,y :: ys,z :: zs,h,k=>by
  rw [HT.lexLt_cons] at h k ⊢;by_cases e:x=y
  ·subst e;rw [if_pos rfl] at h;by_cases e2:x=z
   ·subst e2;rw [if_pos rfl] at k ⊢;exact zeO xs ys zs h k
   ·rw [if_neg e2] at k ⊢;exact k
  ·rw [if_neg e] at h;by_cases e2:y=z
   ·subst e2;rw [if_neg e];exact h
   ·rw [if_neg e2] at k;simp only [decide_eq_false_iff_not] at h k;rw [if_neg (by omega)];simp only [decide_eq_false_iff_not];omega
theorem zmt{X:Cx}(hc:X.calm=true)(hu:X.A.units+64<cLine):CallR X (.builtin "min") (zrF X.K):=by
 intro zh s σ H xs us Q I r h;obtain⟨p,vs,nss,rfl,hq,hne,pr,q⟩:=h;obtain⟨u,rfl,rx⟩:=vals1 r;cases (show u=Value.ref p from rx);obtain⟨its,rv,pl,_⟩:=I.list hq;have hl:=rv.length;have hl2:=Paired.length pr;have hsz:0<its.toArray.size:=by
  rw [size_toArray,<- hl];exact List.length_pos_iff.mpr hne
 have at_:∀ (i:Nat) x,its.toArray[i]? = some x->∃ (v:V) (ns:List Int),vs[i]? = some v/\nss[i]? = some ns/\RelV v x/\∃ a,v=.ref a/\H a=some (.tup (ns.map V.int)):=fun i x hx=>by
  have hi:i<its.length:=by
   have:=(Array.getElem?_eq_some_iff.mp hx).1;simpa using this
  have e1:vs[i]? = some vs[i]:=getElem?_eq_getElem (by omega);have e2:nss[i]? = some nss[i]:=getElem?_eq_getElem (by omega);obtain⟨x',hx',rr⟩:=rv.get e1;have:x=x':=by
   have h2:its[i]? = some x:=by simpa using hx
   rw [hx'] at h2;exact(Option.some.inj h2).symm
  subst this;have pg:∀ {a:List V} {b:List (List Int)} {i:Nat} {v:V} {ns:List Int},Paired (fun(v:V) (ns:List Int)=>∃ a,v=.ref a/\H a=some (.tup (ns.map V.int))) a b->a[i]? = some v->b[i]? = some ns->∃ a,v=.ref a/\H a=some (.tup (ns.map V.int)):=by
   intro a b i v ns pq;induction pq generalizing i with
   | nil=>intro h; simp at h
   | cons r0 _ ih =>
    cases i with
    | zero =>
     intro h1 h2;rw [getElem?_cons_zero] at h1 h2;cases h1;cases h2;exact r0
    | succ i =>
     intro h1 h2;rw [getElem?_cons_succ] at h1 h2;exact ih h1 h2
  exact⟨_,_,e1,e2,rr,pg pr e1 e2⟩
 refine ziU (I.ok.hd hc) pl.isList hsz (fun i j=>HT.lexLt (nss.getD i []) (nss.getD j [])) (fun i j x y s' Q' E' k hx hy q'=>?_) fun v h' tk hv k=>?_
 ·obtain⟨v1,n1,_,f1,r1,a1,rfl,e1⟩:=at_ i x hx;obtain⟨v2,n2,_,f2,r2,a2,rfl,e2⟩:=at_ j y hy;cases r1;cases r2;obtain⟨_,is1,w1,t1⟩:=(show ObjOk X.prog X.w H s.heap a1 (.tup (n1.map V.int)) from I.hok a1 _ e1);obtain⟨_,is2,w2,t2⟩:=(show ObjOk X.prog X.w H s.heap a2 (.tup (n2.map V.int)) from I.hok a2 _ e2);have g1:nss.getD i []=n1:=by rw [getD_eq_getElem?_getD,f1]; rfl
  have g2:nss.getD j []=n2:=by rw [getD_eq_getElem?_getD,f2]; rfl
  rw [g1,g2] at q';obtain⟨o1,b1,c1⟩:=t1;obtain⟨o2,b2,c2⟩:=t2;exact HT.lt_tupInts ⟨o1,k _ _ b1,c1⟩ ⟨o2,k _ _ b2,c2⟩ (za5 w1) (za5 w2) (by show X.A.units+1<cLine; omega) q'
 ·obtain⟨v1,n1,e1,f1,r1,_⟩:=at_ _ v hv;obtain⟨_,h2⟩:=zdV (ns:=fun i=>nss.getD i []) zeO zhq (its.toArray.size - 1);refine⟨v1,H,I.kept (t':=tk) k,r1,q _ v1 n1 e1 f1 fun ms hm=>?_⟩;obtain⟨j,hj⟩:=mem_iff_getElem?.mp hm;have hjl:=(List.getElem?_eq_some_iff.mp hj).1;have:=h2 j (by rw [size_toArray]; omega);rw [show nss.getD j []=ms by rw [getD_eq_getElem?_getD,hj]; rfl] at this;rw [show nss.getD (argBest (fun i j=>HT.lexLt (nss.getD i []) (nss.getD j [])) (its.toArray.size - 1)) []=n1 by rw [getD_eq_getElem?_getD,f1]; rfl] at this;exact this
def ztj(K:W.Frag):List V->Hp->VK->Prop:=fun xs H Q=>zub K xs H Q\/zrF K xs H Q
theorem zlK{X:Cx}(hc:X.calm=true)(hu:X.A.units+64<cLine):CallR X (.builtin "min") (ztj X.K):=(zmj hc).or (zmt hc hu)
def zqv(ns:List Int):PyData:=.tuple (ns.map PyData.int)
def zqC:List XV->Sto->RX->Prop:=fun xs S R=>zur xs S R\/arg1 xs fun x=>∃ ds,ziG S x=some ds/\∃ nss:List (List Int),ds=nss.map zqv/\nss≠[]/\∀ m,m∈nss->(∀ a,a∈nss->HT.lexLt a m=false)->R (.d (zqv m)) S
theorem zqI{K:W.Frag}:RC (ztj K) zqC:=fun h o H S xs vs R Q hs hx q c=>by
 rcases q with q | q
 ·exact .inl (zst h o H S xs vs R Q hs hx q c)
 ·obtain⟨x,rfl,ds,hd,nss,rfl,hn,q1⟩:=zaG q;obtain⟨v,rfl,hx1⟩:=hxs1 hx;obtain⟨a,ws,rfl,ea,l⟩:=zbb hs hd hx1;have hl:=l.length;refine .inr ⟨a,ws,nss,rfl,.of ea,fun z=>hn ?_,?_,fun i v ns e1 e2 hm=>?_⟩
  ·subst z;rw [length_map] at hl;exact eq_nil_of_length_eq_zero hl.symm
  ·have go:∀ {nss:List (List Int)} {ws:List V},HasL (vx h o H) (nss.map zqv) ws->Paired (fun(v:V) (ns:List Int)=>∃ a,v=.ref a/\H a=some (.tup (ns.map V.int))) ws nss:=by
    intro nss;induction nss with
    | nil=>intro ws l; rw [zC.mp l]; exact .nil
    | cons n nss ih =>
     intro ws l;obtain⟨v,r,rfl,h1,l2⟩:=zr.mp l;obtain⟨b,us,rfl,eb,lb⟩:=zaw.mp h1;rw [zb1 lb] at eb;exact .cons ⟨b,rfl,zal _ _ eb⟩ (ih l2)
   exact go l
  ·obtain⟨v',ev,hv⟩:=l.get (show (nss.map zqv)[i]? = some (zqv ns) by rw [getElem?_map,e2]; rfl);rw [e1] at ev;cases ev;exact c o H S (.d (zqv ns)) v Ex.refl hs hv (q1 ns (mem_of_getElem? e2) hm)
section
variable {S:Sto} {P:Sto->List PyData->Prop} {a b c d:List PyData} {x:List PyData}
theorem zfr{S0:Sto}:(∃ T ds,S0++[x]=T++[ds]/\P T ds)↔P S0 x:=by
 constructor
 ·rintro⟨T,ds,e,q⟩;obtain⟨rfl,e2⟩:=List.append_inj' e rfl;cases e2;exact q
 ·exact fun q=>⟨S0,x,rfl,q⟩
theorem zjZ:(∃ T ds,[a]=T++[ds]/\P T ds)↔P [] a:=zfr (S0:=[])
theorem zjI:(∃ T ds,[a,b]=T++[ds]/\P T ds)↔P [a] b:=zfr (S0:=[a])
theorem zki:(∃ T ds,[a,b,c]=T++[ds]/\P T ds)↔P [a,b] c:=zfr (S0:=[a,b])
end
section
variable {α:Type} {n:Nat} {g:DG} {tt:DT} {te:DE} {fin:Sto->Prop} {S0:Sto} {caps:XE}
theorem zpy{h:α->PyData}{f:α->PyData}(P:XE->Prop)(hn:S0.length=n)(l:List α)(τ:XE)(hP:P τ)(hl:l.length<=1000)
  (el:∀ x∈l,∀ τ acc (R:XE->RX),P τ->(∀ τ',P τ'->R τ' (.d (f x)) (S0++[acc]))->g (.d (h x)) τ (S0++[acc]) fun τ1 S1=>te τ1 S1 (R τ1)) (hf:fin (S0++[l.map f])):ze4 n g zaJ te fin (l.map h) τ (S0++[[]]):=by
 have go:∀ (l:List α) (acc:List PyData) (τ:XE),P τ->acc.length+l.length<=1000->(∀ x∈l,∀ τ acc (R:XE->RX),P τ->(∀ τ',P τ'->R τ' (.d (f x)) (S0++[acc]))->g (.d (h x)) τ (S0++[acc]) fun τ1 S1=>te τ1 S1 (R τ1)) ->
   fin (S0++[acc++l.map f])->ze4 n g zaJ te fin (l.map h) τ (S0++[acc]):=by
  intro l;induction l with
  | nil=>intro acc τ _ _ _ h; rw [map_nil,append_nil] at h; exact h
  | cons x l ih =>
   intro acc τ hP hl el hh;show g (.d (h x)) τ (S0++[acc]) fun τ1 S1=>zaJ τ1 S1 fun b S2=>if b=true then te τ1 S2 fun x S3=>asD x fun e=>∃ acc,S3[n]? = some acc/\acc.length<1000/\ze4 n g zaJ te fin (l.map h) τ1 (S3.set n (acc++[e])) else ze4 n g zaJ te fin (l.map h) τ1 S2
   simp only [zaJ,↓reduceIte];rw [length_cons] at hl;refine el x mem_cons_self τ acc (fun τ1 x S3=>asD x fun e=>∃ acc,S3[n]? = some acc/\acc.length<1000/\ze4 n g zaJ te fin (l.map h) τ1 (S3.set n (acc++[e]))) hP fun τ' hP'=>?_;refine⟨acc,by rw [<- hn,getElem?_concat_length],by omega,?_⟩;rw [zg6 hn];refine ih (acc++[f x]) τ' hP' (by rw [length_append,length_singleton]; omega) (fun e m=>el e (mem_cons_of_mem _ m)) ?_;rw [append_assoc];exact hh
 exact go l [] τ hP (by simpa using hl) el (by simpa using hf)
theorem cmp1{h:α->PyData}(f:α->PyData)(hn:S0.length=n)(l:List α){u:Option XV}(hl:l.length<=1000)
  (el:∀ x∈l,∀ (u:Option XV) acc (R:XE->RX),(∀ u',R (u' :: caps) (.d (f x)) (S0++[acc]))->g (.d (h x)) (u :: caps) (S0++[acc]) fun τ1 S1=>te τ1 S1 (R τ1)) (hf:fin (S0++[l.map f])):ze4 n g zaJ te fin (l.map h) (u :: caps) (S0++[[]]) :=
 zpy (fun τ=>∃ u,τ=u :: caps) hn l _ ⟨u,rfl⟩ hl (fun x m τ acc R ⟨u,e⟩ k=>by subst e; exact el x m u acc R fun u'=>k _ ⟨u',rfl⟩) hf
theorem cmp2{h:α->PyData}(f:α->PyData)(hn:S0.length=n)(l:List α){u v:Option XV}(hl:l.length<=1000)
  (el:∀ x∈l,∀ (u v:Option XV) acc (R:XE->RX),(∀ u' v',R (u' :: v' :: caps) (.d (f x)) (S0++[acc]))->g (.d (h x)) (u :: v :: caps) (S0++[acc]) fun τ1 S1=>te τ1 S1 (R τ1)) (hf:fin (S0++[l.map f])):ze4 n g zaJ te fin (l.map h) (u :: v :: caps) (S0++[[]]) :=
 zpy (fun τ=>∃ u v,τ=u :: v :: caps) hn l _ ⟨u,v,rfl⟩ hl (fun x m τ acc R ⟨u,v,e⟩ k=>by subst e; exact el x m u v acc R fun u' v'=>k _ ⟨u',v',rfl⟩) hf
theorem zte{h:α->PyData}{f:α->PyData}{p:α->Bool}(P:XE->Prop)(hn:S0.length=n)(l:List α)(τ:XE)(hP:P τ)(hl:l.length<=1000)
  (el:∀ x∈l,∀ τ acc (R:XE->Bool->Sto->Prop),P τ->(∀ τ',P τ'->(p x=true->∀ T:RX,T (.d (f x)) (S0++[acc])->te τ' (S0++[acc]) T)->R τ' (p x) (S0++[acc]))->g (.d (h x)) τ (S0++[acc]) fun τ1 S1=>tt τ1 S1 (R τ1))
  (hf:fin (S0++[(l.filter p).map f])):ze4 n g tt te fin (l.map h) τ (S0++[[]]):=by
 have go:∀ (l:List α) (acc:List PyData) (τ:XE),P τ->acc.length+l.length<=1000->(∀ x∈l,∀ τ acc (R:XE->Bool->Sto->Prop),P τ->(∀ τ',P τ'->(p x=true->∀ T:RX,T (.d (f x)) (S0++[acc])->te τ' (S0++[acc]) T)->R τ' (p x) (S0++[acc]))->g (.d (h x)) τ (S0++[acc]) fun τ1 S1=>tt τ1 S1 (R τ1)) ->
   fin (S0++[acc++(l.filter p).map f])->ze4 n g tt te fin (l.map h) τ (S0++[acc]):=by
  intro l;induction l with
  | nil=>intro acc τ _ _ _ h; rw [List.filter_nil,map_nil,append_nil] at h; exact h
  | cons x l ih =>
   intro acc τ hP hl el hh;show g (.d (h x)) τ (S0++[acc]) fun τ1 S1=>tt τ1 S1 fun b S2=>if b=true then te τ1 S2 fun x S3=>asD x fun e=>∃ acc,S3[n]? = some acc/\acc.length<1000/\ze4 n g tt te fin (l.map h) τ1 (S3.set n (acc++[e])) else ze4 n g tt te fin (l.map h) τ1 S2
   rw [length_cons] at hl;refine el x mem_cons_self τ acc (fun τ1 b S2=>if b=true then te τ1 S2 fun x S3=>asD x fun e=>∃ acc,S3[n]? = some acc/\acc.length<1000/\ze4 n g tt te fin (l.map h) τ1 (S3.set n (acc++[e])) else ze4 n g tt te fin (l.map h) τ1 S2) hP fun τ' hP' ev=>?_;cases hp:p x with
   | false =>
    rw [List.filter_cons_of_neg (by rw [hp]; exact Bool.false_ne_true)] at hh;exact zlz (ih acc τ' hP' (by omega) (fun e m=>el e (mem_cons_of_mem _ m)) hh)
   | true =>
    rw [List.filter_cons_of_pos hp,map_cons] at hh;refine zl8 (ev hp _ ⟨acc,by rw [<- hn,getElem?_concat_length],by omega,?_⟩);rw [zg6 hn];exact ih (acc++[f x]) τ' hP' (by rw [length_append,length_singleton]; omega) (fun e m=>el e (mem_cons_of_mem _ m)) (by rw [append_assoc]; exact hh)
 exact go l [] τ hP (by simpa using hl) el (by simpa using hf)
theorem cmf1{h:α->PyData}(f:α->PyData)(p:α->Bool)(hn:S0.length=n)(l:List α){u:Option XV}(hl:l.length<=1000)
  (el:∀ x∈l,∀ (u:Option XV) acc (R:XE->Bool->Sto->Prop),(∀ u',(p x=true->∀ T:RX,T (.d (f x)) (S0++[acc])->te (u' :: caps) (S0++[acc]) T)->R (u' :: caps) (p x) (S0++[acc]))->g (.d (h x)) (u :: caps) (S0++[acc]) fun τ1 S1=>tt τ1 S1 (R τ1)) (hf:fin (S0++[(l.filter p).map f])):ze4 n g tt te fin (l.map h) (u :: caps) (S0++[[]]) :=
 zte (fun τ=>∃ u,τ=u :: caps) hn l _ ⟨u,rfl⟩ hl (fun x m τ acc R ⟨u,e⟩ k=>by subst e; exact el x m u acc R fun u' hh=>k _ ⟨u',rfl⟩ hh) hf
end
end
section
@[irreducible] def QSs (X:Cx) (st:List Stmt) (t:TS):Prop:=PSs X st t
theorem QSs.out{X:Cx}{st:List Stmt}{t:TS}(h:QSs X st t):PSs X st t:=by unfold QSs at h; exact h
theorem QSs.mk{X:Cx}{st:List Stmt}{t:TS}(h:PSs X st t):QSs X st t:=by unfold QSs; exact h
theorem zqS{X:Cx}{b:List Stmt}{R:TS->Prop}(h:∃ t,QSs X b t/\R t):∃ t,PSs X b t/\R t:=let ⟨t,h1,h2⟩:=h; ⟨t,h1.out,h2⟩
@[irreducible] def QA (X:Cx) (es:List Expr) (t:TA):Prop:=PA X es t
theorem QA.out{X:Cx}{es:List Expr}{t:TA}(h:QA X es t):PA X es t:=by unfold QA at h; exact h
theorem QA.mk{X:Cx}{es:List Expr}{t:TA}(h:PA X es t):QA X es t:=by unfold QA; exact h
theorem zam{X:Cx}:QA X [] zqf:=QA.mk zc
theorem zX{X:Cx}{e:Expr}{es:List Expr}{te:TE}{t:TA}(ha:PE X e te)(hr:QA X es t)(hs:starEach (e :: es) X.env=(false,eval e X.env) :: starEach es X.env:=by rfl):QA X (e :: es) (ze7 te t):=QA.mk (za ha hr.out hs)
theorem zfK{X:Cx}{es:List Expr}{t:TA}{pos:Pos}(h:QA X es t):PE X (.List es pos) (zrv t):=zae h.out
@[irreducible] def QS (X:Cx) (st:Stmt) (t:TS):Prop:=PS X st t
theorem QS.out{X:Cx}{st:Stmt}{t:TS}(h:QS X st t):PS X st t:=by unfold QS at h; exact h
theorem QS.mk{X:Cx}{st:Stmt}{t:TS}(h:PS X st t):QS X st t:=by unfold QS; exact h
theorem zhY{X:Cx}{st:Stmt}{rest:List Stmt}{t u:TS}(h1:QS X st t)(h2:QSs X rest u):QSs X (st :: rest) (zi3 t u):=QSs.mk (zf h1.out h2.out)
end
section
section
variable {prog:Program} {w:World} {A:Around} {E:Value->Shared->Prop} {s:Shared}
abbrev zqP (acc:Array Value) (c:Nat):Obj:={ cls:=.type "list",dict:=none,data:=.seq acc c,slots:=#[] }
abbrev zts (lo hi:Int):Obj:={ cls:=.type "longrange_iterator",data:=.fields #[rawInt lo,rawInt (Builtin.Range.rangeSize lo hi 1),rawInt 1] }
abbrev IntsFrom (lo:Int) (acc:Array Value) (n:Nat):Prop:=ItemsOf (fun i v=>∃ t,v=.int (lo+(i:Nat)*1) t) acc n
theorem zlx{R:Result->Shared->Prop}{lo:Int}{n L I:Nat}{res:Value}{c0 tk0:Nat}{h0:Heap}(hh:A.handled=none)(hn:n<=1000)(ne:L≠I)
  (hI:IsLongIter h0 I (lo+((0:Nat):Int)*1) ((n:Int) - ((0:Nat):Int)) 1) (hL:h0.get? L=some (zqP #[] c0))
  (hR:∀ h' tk acc c,(∀ b o,b≠L->b≠I->h0.get? b=some o->h'.get? b=some o)->h'.get? L=some (zqP acc c)->IntsFrom lo acc n->R (.ok (.ret res)) { s with heap:=h',toks:=tk }) :
  codeAny (model prog w) A (.builtin "list.extend.loop" ⟨[.ref L,.ref I,res],[]⟩) R { s with heap:=h0,toks:=tk0 }:=by
 have walk:=(Walks.longrange (prog:=prog) (w:=w) (A:=A.in1) hh I lo 1 n).toS;have small:n<=sizeLine:=by rw [sizeLine_eq]; omega
 have out:L∉[I]:=by simpa using ne
 refine codeAny_extend_loopS walk small L out res n 0 _ #[] c0 rfl (zero_le _) hI hL (ItemsOf.nil _) ?_;intro s' acc c moved hl' items;rw [Moved.eq_with moved];refine hR s'.heap s'.toks acc c (fun b o b1 b2 e=>moved.heap b o ?_ e) hl' items;simp only [mem_cons,not_mem_nil,or_false,not_or];exact⟨b1,b2⟩
theorem zn5{R:Result->Shared->Prop}{r L:Addr}{lo hi:Int}{t u v:Tok}{n:Nat}(hh:A.handled=none)(hr:IsRange s.heap r lo hi 1 t u v)(big:Builtin.Range.small lo hi 1=false)(hn:Builtin.Range.rangeSize lo hi 1=(n:Int))(hl:n<=1000)
  {c0:Nat} (hL:s.heap.get? L=some (zqP #[] c0))
  (hR:∀ h' tk acc c,(∀ b o,b≠L->s.heap.get? b=some o->h'.get? b=some o)->h'.get? L=some (zqP acc c)->IntsFrom lo acc n->R (.ok (.ret .none)) { s with heap:=h',toks:=tk }) :
  wpAny (model prog w) A.in1 (Builtin.List.listExtendWith (.ref L) (.ref r) .none)
   (fun f z=>match f with
    | .done g=>R (.ok g) z
    | .again c=>c.quiet=true/\codeAny (model prog w) A c R z) (fun e z=>R (.error e) z) s:=by
 have apart:L≠r:=fun e=>by
  rw [e,hr] at hL;simp at hL
 have low:L<s.heap.objs.size:=lt_size hL;have ne:L≠s.heap.objs.size:=ne_of_lt low;have same:Builtin.List.listSameRef (.ref L) (.ref r)=false:=by simp [Builtin.List.listSameRef,apart]
 have k1:(Value.type "range" == Value.type "list")=false:=by decide
 have k2:(Value.type "range" == Value.type "tuple")=false:=by decide
 unfold Builtin.List.listExtendWith;refine wpAny_bind (wpAny_typeOf (T:="range") ⟨_,hr,rfl⟩ ?_);simp only [same,k1,k2,Bool.or_false,Bool.false_eq_true,if_false];refine wpAny_bind (wpAny_pyIter_longrange hr big ?_);have hit:IsLongIter (s.heap.push (zts lo hi)) s.heap.objs.size (lo+((0:Nat):Int)*1) ((n:Int) - ((0:Nat):Int)) 1:=by
  show IsLongIter _ _ _ _ _;rw [<- hn];simpa using get?_push_size _ rfl
 have hL1:=get?_push_of_some (zts lo hi) hL;refine wpAny_bind (wpAny_holding (wpAny_hint_range (n:=n) (get?_push_of_some _ hr) hn (by omega) ?_));have go:∀ {h0:Heap} {c0 tk0:Nat},IsLongIter h0 s.heap.objs.size (lo+((0:Nat):Int)*1) ((n:Int) - ((0:Nat):Int)) 1->h0.get? L=some (zqP #[] c0)->(∀ b o,b≠L->s.heap.get? b=some o->h0.get? b=some o) ->
   codeAny (model prog w) A (.builtin "list.extend.loop" ⟨[.ref L,.ref s.heap.objs.size,.none],[]⟩) R { s with heap:=h0,toks:=tk0 }:=fun {h0 c0 tk0} a1 a2 a3 =>
  zlx hh hl ne a1 a2 fun h' tk acc c q1 q2 q3=>hR h' tk acc c (fun b o nb e=>q1 b o nb (ne_of_lt (lt_size e)) (a3 b o nb e)) q2 q3
 have still:=plainId_quiet F.plain_extend_loop;refine wpAny_ite_split (fun _=>?_) fun _=>wpAny_pure ⟨still _,go hit hL1 fun b o _ e=>get?_push_of_some _ e⟩;refine wpAny_bind (wpAny_rule (wpAny_bind ?_));show wpAny _ _ (updateSeq L (·.push .none) >>= fun _=>updateSeq L (·.pop)) _ _ _;refine wpAny_bind (wpAny_updateSeq hL1 rfl ?_);have hL2:=get?_update_self (Obj.mapSeq (·.push Value.none)) hL1 rfl;refine wpAny_updateSeq (hz:=by seq_fits) hL2 rfl ?_;have hL3:=get?_update_self (Obj.mapSeq (·.pop)) hL2 rfl;have other:∀ b o,b≠L->(s.heap.push (zts lo hi)).get? b=some o->(((s.heap.push (zts lo hi)).update L (Obj.mapSeq (·.push Value.none))).update L (Obj.mapSeq (·.pop))).get? b=some o:=fun b o nb e =>
  (get?_update_other _ _ (Ne.symm nb)).trans ((get?_update_other _ _ (Ne.symm nb)).trans e)
 exact wpAny_pure ⟨still _,go (other _ _ (Ne.symm ne) hit) hL3 fun b o nb e=>other b o nb (get?_push_of_some _ e)⟩
theorem zlD{R:Result->Shared->Prop}{r L:Addr}{lo hi:Int}{t u v:Tok}{n:Nat}(hh:A.handled=none)(hr:IsRange s.heap r lo hi 1 t u v)(big:Builtin.Range.small lo hi 1=false)(hn:Builtin.Range.rangeSize lo hi 1=(n:Int))(hl:n<=1000)
  (hL:s.heap.get? L=some { cls:=.type "list",data:=.seq #[] })
  (hR:∀ h' tk acc c,(∀ b o,b≠L->s.heap.get? b=some o->h'.get? b=some o)->h'.get? L=some (zqP acc c)->IntsFrom lo acc n->R (.ok (.ret .none)) { s with heap:=h',toks:=tk }) :
  wpAny (model prog w) A.in1 (Builtin.«list.__init__» ⟨[.ref L,.ref r],[]⟩)
   (fun f z=>match f with
    | .done g=>R (.ok g) z
    | .again c=>c.quiet=true/\codeAny (model prog w) A c R z) (fun e z=>R (.error e) z) s:=by
 have apart:L≠r:=fun e=>by
  rw [e,hr] at hL;simp at hL
 show wpAny _ _ (do
  let was <- Builtin.List.listItems (.ref L)
  Builtin.List.listUpdate (.ref L) (fun _=>#[])
  letGo was.toList.reverse
  Builtin.List.listExtendWith (.ref L) (.ref r) .none) _ _ s
 unfold Builtin.List.listItems;refine wpAny_bind (wpAny_bind (wpAny_seqItems hL rfl (wpAny_pure ?_)));show wpAny _ _ (updateSeq L (fun _=>#[]) >>= fun _=>letGo _ >>= fun _=>Builtin.List.listExtendWith (.ref L) (.ref r) .none) _ _ s;refine wpAny_bind (wpAny_updateSeq hL rfl ?_);have hL1:=get?_update_self (Obj.mapSeq (fun _=>(#[]:Array Value))) hL rfl;have other:∀ b o,b≠L->s.heap.get? b=some o->(s.heap.update L (Obj.mapSeq (fun _=>(#[]:Array Value)))).get? b=some o:=fun b o nb e=>(get?_update_other _ _ (Ne.symm nb)).trans e;refine wpAny_bind (wpAny_letGo ?_);refine zn5 hh (other r _ (Ne.symm apart) hr) big hn hl hL1 fun h' tk acc c q1 q2 q3=>?_;exact hR h' tk acc c (fun b o nb e=>q1 b o nb (other b o nb e)) q2 q3
theorem zht{Q:Value->Shared->Prop}{r:Addr}{lo hi:Int}{t u v:Tok}{n:Nat}(hh:A.handled=none)(hr:IsRange s.heap r lo hi 1 t u v)(hn:Builtin.Range.rangeSize lo hi 1=(n:Int))(hl:n<=1000)
  (hQ:∀ h' tk acc c,(∀ b o,s.heap.get? b=some o->h'.get? b=some o)->h'.get? s.heap.objs.size=some (zqP acc c)->IntsFrom lo acc n->Q (.ref s.heap.objs.size) { s with heap:=h',toks:=tk }) :
  wpAny (model prog w) A (call (.type "list") [.ref r]) Q E s:=by
 cases sm:Builtin.Range.small lo hi 1 with
 | true=>exact call_list_range hh hr sm hn (by omega) hQ
 | false =>
  refine callType_codes (Q₁:=fun ob z=>ob=.ref s.heap.objs.size/\z = { s with heap:=s.heap.push { cls:=.type "list",data:=.seq #[] } }) F.called_list (F.typeCall_list_1 _) F.entry_list_init (code_list_new _ ⟨rfl,rfl⟩) ?_;rintro ob z ⟨rfl,rfl⟩;have hL:(s.heap.push { cls:=.type "list",data:=.seq #[] }).get? s.heap.objs.size=some { cls:=.type "list",data:=.seq #[] }:=get?_push_size _ rfl;refine⟨⟨_,hL,rfl⟩,F.args_list_init_2 _ _,?_⟩;refine zlD (A:=A.in1) hh (get?_push_of_some _ hr) sm hn hl hL fun h' tk acc c q1 q2 q3=>⟨rfl,hQ h' tk acc c (fun b o e=>?_) q2 q3⟩;exact q1 b o (ne_of_lt (lt_size e)) (get?_push_of_some _ e)
end
theorem zhD:∀ (xs:List V) (us:List Value),xs.length=us.length->(∀ (k:Nat) (x:V) (u:Value),xs[k]? = some x->us[k]? = some u->RelV x u)->Vals xs us
 | [],[],_,_=>.nil
 | x :: xs,u :: us,hl,h=>.cons (h 0 x u rfl rfl) (zhD xs us (by simpa using hl) fun k y v e1 e2=>h (k+1) y v e1 e2)
 | [],_ :: _,hl,_=>by simp at hl
 | _ :: _,[],hl,_=>by simp at hl
theorem zrl{lo:Int}:∀ {n:Nat} {acc:Array Value},IntsFrom lo acc n->Vals ((List.range n).map fun k:Nat=>V.int (lo+k)) acc.toList:=by
 intro n acc h;obtain⟨hz,hv⟩:=h;refine zhD _ _ (by simp [hz]) fun k x u ex eu=>?_;rw [getElem?_map] at ex;have hk:k<n:=by
  have:=(List.getElem?_eq_some_iff.mp eu).1;simpa [hz] using this
 rw [List.getElem?_range hk] at ex;cases ex;obtain⟨tk,rfl⟩:=hv k u (by simpa using eu);exact⟨tk,by rw [Int.mul_one]⟩
end
end L2
namespace HT
open PySem PyProof.Rows
section
variable {prog:Program} {w:World} {A:Around} {E:Value->Shared->Prop} {s:Shared}
theorem tup_whole{t sl:Addr}{items:Array Value}{vl vu:Value}{lo hi:Option Int}{Q:Value->Shared->Prop}(ht:IsTup s.heap t items)(hs:s.heap.IsSliceOf sl vl vu .none)(pl:IsPart vl lo)(pu:IsPart vu hi)
  (hw:sIx items.size 0 lo=0/\sIx items.size items.size hi=items.size) (h:Q (.ref t) s):wpAny (model prog w) A (getItem (.ref t) (.ref sl)) Q E s:=by
 obtain⟨os,hos,hcs,hds⟩:=id hs;have hTs:s.TypeIs (.ref sl) "slice":=⟨os,hos,hcs⟩;unfold getItem
 try with_reducible refine wpAny_holding ?_
 first | refine wpAny_bind (wpAny_pure ?_) | skip
 refine wpAny_bind (wpAny_sequenceKey ht.typeIs dz ?_);refine wpAny_bind (wpAny_callSpecial?_slot (name:=Str.ofString "__getitem__") ht.typeIs PyProof.Rows.slot_tuple_getitem
  (wpAny_call_entry PyProof.Rows.slot_tuple_getitem ht.typeIs entry_tuple_getitem ?_ (args_tuple_getitem _ _)))
 show wpAny _ _ (Builtin.Tuple.tupleItemsOf (.ref t) >>= _) _ _ s;refine wpAny_bind (tupleItemsOf_ ht (wpAny_bind (wpAny_typeOf hTs ?_)));rw [if_pos dz];refine wpAny_bind (zc4 hs pl pu ?_);rw [hw.1,hw.2];show wpAny _ _ (if (((0:Nat):Int) == 0 && (1:Int) == 1 && (items.size - 0) == items.size)=true then _ else _) _ _ s;rw [if_pos (by simp)];unfold Builtin.Tuple.tupleIsExact;refine wpAny_bind (wpAny_bind (wpAny_typeOf ht.typeIs (wpAny_pure ?_)));rw [if_pos dz];exact wpAny_bind (wpAny_rule (wpAny_pure ⟨_,rfl,wpAny_pure h⟩))
end
end HT
namespace L2
open PySem PySem.Spec PyProof.Rows
section
section
variable {X:Cx} {e ek:Expr} {te tk:TE} {pos p2:Pos}
def ztK(K:W.Frag):V->Option Int->Option Int->Hp->VK->Prop:=fun x lo hi H Q=>∃ a xs,x=.ref a/\SqT K H a xs /\
 ((HT.sIx xs.length 0 lo=0/\HT.sIx xs.length xs.length hi=xs.length)->Q (.ref a) H)/\∀ p,H p=none->Q (.ref p) (upd H p (.tup (zj5 xs lo hi)))
theorem zi9:SlR X (ztK X.K):=by
 intro zh s σ H x v vl vu lo hi sl Q I rx hs pl pu h;obtain⟨a,xs,rfl,hx,hw,q⟩:=h;by_cases z:HT.sIx xs.length 0 lo=0/\HT.sIx xs.length xs.length hi=xs.length
 ·cases rx;obtain⟨its,r,ht,hz⟩:=I.tuple hx;have hlen:its.toArray.size=xs.length:=by rw [size_toArray]; exact r.length.symm
  refine⟨"tuple",_,PyProof.Rows.slot_tuple_getitem.lookup,ht.typeIs,?_⟩;exact HT.tup_whole ht hs pl pu (by rw [hlen]; exact z) ⟨.ref a,H,I,rfl,hw z⟩
 ·exact zpS zh s σ H _ v vl vu lo hi sl Q I rx hs pl pu ⟨a,xs,rfl,hx,z,q⟩
end
def zrr:D3:=fun x i j S R=>asT x fun ds=>R (.d (.tuple (zdE ds i j))) S
theorem zk7{α:Type}(xs:List α)(lo hi:Option Int)(h:HT.sIx xs.length 0 lo=0/\HT.sIx xs.length xs.length hi=xs.length):zdE xs lo hi=xs:=by
 unfold zdE;rw [h.1,h.2];simp
theorem zg2{K:W.Frag}:RL (ztK K) zrr:=fun h o H S x v a b R Q hs hx q c=>by
 replace q:=zfL q;obtain⟨ds,rfl,q⟩:=q;obtain⟨p,vs,rfl,ea,l⟩:=zdj hx;refine⟨p,vs,rfl,.of ea,fun z=>?_,zjq hs (l.cut a b) c q⟩;rw [l.length] at z;rw [zk7 ds a b z] at q;exact c o H S _ _ Ex.refl hs hx q
end
section
@[irreducible] def QE (X:Cx) (e:Expr) (t:TE):Prop:=PE X e t
theorem QE.out{X:Cx}{e:Expr}{t:TE}(h:QE X e t):PE X e t:=by unfold QE at h; exact h
theorem QE.mk{X:Cx}{e:Expr}{t:TE}(h:PE X e t):QE X e t:=by unfold QE; exact h
theorem zha{X:Cx}{e:Expr}{es:List Expr}{te:TE}{t:TA}(ha:QE X e te)(hr:QA X es t)(hs:starEach (e :: es) X.env=(false,eval e X.env) :: starEach es X.env:=by rfl):QA X (e :: es) (ze7 te t):=QA.mk (za ha.out hr.out hs)
theorem zaF{X:Cx}{es:List Expr}{t:TA}{k:Nat}{pos:Pos}(h:QA X es t):QE X (.Tuple es k pos) (ztO t):=QE.mk (zW h.out)
section
variable {X:Cx} {es l l':List Expr} {te:TE} {t:TA} {k:Nat} {p:Pos} {c:Const} {x:Str} {ks:List (Option Expr)}
theorem zcb(ha:QE X (.Tuple l k p) te)(hr:QA X es t):QA X (.Tuple l k p :: es) (ze7 te t):=QA.mk (za ha.out hr.out rfl)
theorem zbZ(ha:QE X (.Constant c k p) te)(hr:QA X es t):QA X (.Constant c k p :: es) (ze7 te t):=QA.mk (za ha.out hr.out rfl)
theorem zt3(ha:QE X (.Name x p) te)(hr:QA X es t):QA X (.Name x p :: es) (ze7 te t):=QA.mk (za ha.out hr.out rfl)
end
theorem zl7{X:Cx}{st:Stmt}{rest:List Stmt}{t u:TS}(h1:PS X st t)(h2:QSs X rest u):PSs X (st :: rest) (zi3 t u):=zf h1 h2.out
end
end L2
namespace L2
open PySem PySem.Spec PySem.Calls PyProof.Rows PySem.W
end L2
namespace L2
open PySem PySem.Spec PyProof.Rows
section
def zue:D2:=fun x y S R=>asT x fun ds=>asT y fun es=>∃ ns,ds=ns.map PyData.int/\∃ ms,es=ms.map PyData.int/\R (.d (.bool (HT.lexLt ns ms))) S
end
section
open Sem (wp)
namespace F4
end F4
end
section
namespace F4
end F4
end
section
namespace F4
end F4
end
section
namespace F4
end F4
end
section
theorem ze8:fillsNumberSlot (.type "tuple") "mul" = pure false :=
 PySem.fillsNumberSlot_seq (id:="tuple.__mul__") (r:=some (.builtin "tuple.__rmul__")) F.slot_tuple_mul.lookup (by decide +kernel) F.slot_tuple_rmul.lookup (by decide +kernel)
theorem zil:seqRepeat? (.type "tuple")=pure (some (.builtin "tuple.__mul__")):=by
 unfold seqRepeat?;rw [PySem.seqSlot_of (T:="tuple") (name:="__mul__") (id:="tuple.__mul__") F.slot_tuple_mul.lookup (by decide +kernel),PySem.seqSlot_of (T:="tuple") (name:="__rmul__") (id:="tuple.__rmul__") F.slot_tuple_rmul.lookup (by decide +kernel)];rfl
theorem zgr(a:Int)(t:Tok)(l:Addr)(items:Array Value)(n:Nat)(d:Option Addr)(sl:Array (Option Value)):
  Meets (Builtin.«int.__rmul__» ⟨[.int a t,.ref l],[]⟩) (fun _ R s=>s.heap.get? l=some { cls:=.type "tuple",dict:=d,data:=.seq items n,slots:=sl }/\R (.ok (.ret Value.notImplemented)) s) :=
 .of_wp fun prog w A R s h=>by obtain⟨hp,g,d,tk,os⟩:=s; obtain⟨hl,h⟩:=h; wp_walk; exact⟨_,rfl,h⟩
theorem zkF(l:Addr)(items:Array Value)(n:Nat)(d:Option Addr)(sl:Array (Option Value))(u:Tok):
  Meets (Builtin.«tuple.__mul__» ⟨[.ref l,.int 1 u],[]⟩) (fun _ R s=>s.heap.get? l=some { cls:=.type "tuple",dict:=d,data:=.seq items n,slots:=sl }/\R (.ok (.ret (.ref l))) s) :=
 .of_wp fun prog w A R s h=>by
  obtain⟨hp,g,d,tk,os⟩:=s; obtain⟨hl,h⟩:=h
  wp_walk
  exact⟨_,rfl,h⟩
theorem zlc(l:Addr)(items:Array Value)(n:Nat)(d:Option Addr)(sl:Array (Option Value))(u:Tok)(x:Int)(hx:x<=0)(hlo:-(2 ^ 63)<=x)(hi:items.isEmpty=false):
  Meets (Builtin.«tuple.__mul__» ⟨[.ref l,.int x u],[]⟩) (fun _ R s=>s.heap.get? l=some { cls:=.type "tuple",dict:=d,data:=.seq items n,slots:=sl }/\R (.ok (.ret (.ref s.heap.objs.size))) { s with heap:=s.heap.push { cls:=.type "tuple",data:=.seq #[] } }) :=
 .of_wp fun prog w A R s h=>by
  obtain⟨hp,g,d,tk,os⟩:=s; obtain⟨hl,h⟩:=h;have c0:(decide (x < -2 ^ 63) || decide (x≥2 ^ 63))=false:=by simp; omega
  have c1:(items.isEmpty || x == 1)=false:=by rw [hi]; simp; omega
  have c2:(decide (x<=0) || items.isEmpty)=true:=by rw [decide_eq_true hx]; rfl
  wp_walk
  refine wpAny_ite_false (by rw [c0]; rfl) ?_
  wp_walk
  refine wpAny_ite_false (by rw [c1]; rfl) ?_;refine wpAny_ite_true (by rw [c2]; rfl) ?_
  wp_walk
  exact⟨_,rfl,h⟩
theorem zkW(l:Addr)(items:Array Value)(n:Nat)(d:Option Addr)(sl:Array (Option Value))(u:Tok)(x:Int)(hx:2<=x)(hhi:x<2 ^ 63)(hi:items.isEmpty=false)(hz:items.size*x.toNat<=sizeLine):
  Meets (Builtin.«tuple.__mul__» ⟨[.ref l,.int x u],[]⟩) (fun _ R s=>s.heap.get? l=some { cls:=.type "tuple",dict:=d,data:=.seq items n,slots:=sl }/\R (.ok (.ret (.ref s.heap.objs.size))) { s with heap:=s.heap.push { cls:=.type "tuple",data:=.seq ((List.replicate x.toNat items).foldl (· ++ ·) #[]) } }) :=
 .of_wp fun prog w A R s h=>by
  obtain⟨hp,g,d,tk,os⟩:=s; obtain⟨hl,h⟩:=h;have c0:(decide (x < -2 ^ 63) || decide (x≥2 ^ 63))=false:=by simp; omega
  have c1:(items.isEmpty || x == 1)=false:=by rw [hi]; simp; omega
  have c2:(decide (x<=0) || items.isEmpty)=false:=by rw [hi,decide_eq_false (by omega)]; rfl
  have ez:(items.size:Int)*x=(items.size*x.toNat:Nat):=by rw [Int.natCast_mul,Int.toNat_of_nonneg (by omega)]
  have c3:¬ ((items.size:Int)*x>(2 ^ 63 - 1) / 8):=by
   rw [ez];have h1:(sizeLine:Int)<=(2 ^ 63 - 1) / 8:=by decide
   have h2:((items.size*x.toNat:Nat):Int)<=(sizeLine:Int):=Int.ofNat_le.mpr hz;exact fun h3=>absurd (Int.le_trans h2 h1) (Int.not_le.mpr h3)
  have c4:Builtin.Tuple.tupleTooMany ((items.size:Int)*x)=false:=by
   unfold Builtin.Tuple.tupleTooMany;rw [ez];exact decide_eq_false (Int.not_lt.mpr (Int.ofNat_le.mpr hz))
  have c5:((List.replicate x.toNat items).foldl (· ++ ·) #[]).size<=sizeLine:=by
   have:=zem items.toList x.toNat [];simp only [Array.toArray_toList] at this;rw [nil_append] at this;rw [this,size_toArray,zji,length_toList,mul_comm];exact hz
  wp_walk
  refine wpAny_ite_false (by rw [c0]; rfl) ?_
  wp_walk
  refine wpAny_ite_false (by rw [c1]; rfl) ?_;refine wpAny_ite_false (by rw [c2]; rfl) ?_;refine wpAny_ite_false (decide_eq_false c3) ?_;refine wpAny_ite_false (by rw [c4]; rfl) ?_
  wp_walk
  exact⟨_,rfl,h⟩
def znh(K:W.Frag):R2:=fun x y H Q=>∃ a k xs,x=.ref a/\y=.int k/\SqT K H a xs/\xs≠[]/\-1000<=k/\k<=1000/\xs.length*k.toNat<=1000 /\
 (k=1->Q (.ref a) H)/\(k≠1->∀ p,H p=none->Q (.ref p) (upd H p (.tup (List.replicate k.toNat xs).flatten)))
theorem zhX{X:Cx}:OpR X (binaryOp .Mult) (znh X.K):=by
 intro zh s σ H x y v u Q I rx ry h;obtain⟨a,k,xs,rfl,rfl,ha,hx,h1,h2,hz,q1,q2⟩:=h;cases rx;obtain⟨t,rfl⟩:=ry;obtain⟨its,r1,p1,_⟩:=I.tuple ha;have hne:its≠[]:=fun z=>hx (r1.nil_iff.mp z);have hie:its.toArray.isEmpty=false:=by
  cases its with
  | nil=>exact absurd rfl hne
  | cons _ _=>rfl
 have hl:its.length=xs.length:=r1.length.symm;obtain⟨⟨cls,dd,data,sl⟩,ho,hc,n,hd⟩:=id p1;simp only at hc hd;subst hc hd;have hz':its.toArray.size*k.toNat<=sizeLine:=by
  rw [size_toArray,hl];exact le_of_lt (small1000 hz)
 refine wpAny_binaryOp_repeat_ref (T:="tuple") (U:="int") dz ⟨_,ho,rfl⟩ (fun s'=>typeIs_int s' k t) ze8 F.fills_int_mul F.slot_int_rmul zil F.slot_int_index.lookup
  (call_meets F.slot_int_rmul (typeIs_int s k t) F.entry_int_rmul (F.args_int_rmul_2 _ _) (zgr k t a its.toArray n dd sl) ⟨ho,rfl,⟨_,ho,rfl⟩,?_⟩)
 by_cases hk:k=1
 ·subst hk;exact call_meets F.slot_tuple_mul ⟨_,ho,rfl⟩ F.entry_tuple_mul (F.args_tuple_mul_2 _ _) (zkF a its.toArray n dd sl t) ⟨ho,.ref a,H,I,rfl,q1 rfl⟩
 ·have fin:∀ us,us=(List.replicate k.toNat its).flatten->EP X zh σ Q (.ref s.heap.objs.size) { s with heap:=s.heap.push { cls:=.type "tuple",data:=.seq us.toArray } }:=fun us e=>by
   refine⟨.ref s.heap.objs.size,_,I.laid (t':=s.toks) (o:=.tup (List.replicate k.toNat xs).flatten) (fun b ob q=>get?_push_of_some _ q) (le_refl _) ?_,rfl,q2 hk _ (I.hok.fresh (le_refl _))⟩;refine⟨⟨by rw [zji,mul_comm]; exact le_of_lt (small1000 hz),_,get?_push_size _ rfl,rfl⟩,us,?_,IsTup.new _ _⟩;rw [e];exact r1.rep k.toNat
  by_cases h0:k<=0
  ·refine call_meets F.slot_tuple_mul ⟨_,ho,rfl⟩ F.entry_tuple_mul (F.args_tuple_mul_2 _ _) (zlc a its.toArray n dd sl t k h0 (by omega) hie) ⟨ho,?_⟩;have e0:k.toNat=0:=by omega
   exact fin [] (by rw [e0]; rfl)
  ·refine call_meets F.slot_tuple_mul ⟨_,ho,rfl⟩ F.entry_tuple_mul (F.args_tuple_mul_2 _ _) (zkW a its.toArray n dd sl t k (by omega) (by omega) hie hz') ⟨ho,?_⟩;have e1:=zem its k.toNat [];rw [nil_append] at e1;have:=fin _ rfl;rw [<- e1] at this;exact this
def zfF:D2:=fun x y S R=>asT x fun ds=>asI y fun j=>ds≠[]/\-1000<=j/\j<=1000/\ds.length*j.toNat<=1000/\R (.d (.tuple (List.replicate j.toNat ds).flatten)) S
theorem zfA{K:W.Frag}:RO (znh K) zfF:=fun h o H S x y v u R Q hs hx hy q c=>by
 obtain⟨ds,rfl,q⟩:=zfL q;replace q:=zbj q;obtain⟨j,rfl,hn,h1,h2,hz,q⟩:=q;obtain⟨a,vs,rfl,ea,l⟩:=zdj hx;refine⟨a,j,vs,rfl,zaT hy,.of ea,?_,h1,h2,by rw [l.length]; exact hz,fun e=>?_,fun _=>zjq hs (l.rep j.toNat) c q⟩
 ·intro z;have:=l.length;rw [z] at this;exact hn (List.length_eq_zero_iff.mp this.symm)
 ·subst e;have e1:(List.replicate (1:Int).toNat ds).flatten=ds:=by simp
  rw [e1] at q;exact c o H S _ _ Ex.refl hs hx q
end
section
theorem zq1{X:Cx}{K:W.Frag}(hK:X.K=K):OpR X (binaryOp .Add) (zrp K):=by
 subst hK;exact zH
end
section
theorem zgx(f:Array Value->Array Value)(o:Obj):(Obj.mapFields f o).dict=o.dict:=by
 unfold Obj.mapFields;split <;> rfl
def RecAt(h base:Heap)(e:Addr)(cls:Value)(dx:Option Addr)(a0 fl:Value):Prop :=
 ∃ oe vs T oT ts,h.get? e=some oe/\oe.cls=cls/\oe.dict=dx/\oe.data=.fields vs/\vs[0]? = some a0/\vs[1]? = some (.ref T)/\base.get? T=none/\T≠e/\h.get? T=some oT/\oT.data=.fields ts/\ts[3]? = some fl
structure NotedD(base:Heap)(l:List Env)(e:Addr)(cls:Value)(dx:Option Addr)(a0 fl:Value)(h h':Heap):Prop where
 stays:base.StaysIn h'
 frames:h'.FunFrames base l
 rcd:RecAt h' base e cls dx a0 fl
 upto:h.UpToSlots h'
def FlyD(base:Heap)(l:List Env)(e:Addr)(cls:Value)(dx:Option Addr)(a0:Value)(h:Heap):Prop:=base.StaysIn h/\base.get? e=none/\h.FunFrames base l/\RecAt h base e cls dx a0 .none
def HeldD(base:Heap)(l:List Env)(e:Addr)(cls:Value)(dx:Option Addr)(a0:Value)(L:Addr)(h:Heap):Prop:=base.StaysIn h/\base.get? e=none/\h.FunFrames base l/\RecAt h base e cls dx a0 (rawInt L)
theorem FlyD.there{base h:Heap}{l:List Env}{e:Addr}{cls a0:Value}{dx:Option Addr}(x:FlyD base l e cls dx a0 h):∃ ob,h.get? e=some ob/\ob.cls=cls/\ob.dict=dx :=
 let ⟨_,_,_,oe,_,_,_,_,he,hc,hd,_⟩:=x; ⟨oe,he,hc,hd⟩
theorem FlyD.first{base h:Heap}{l:List Env}{e:Addr}{cls a0:Value}{dx:Option Addr}(x:FlyD base l e cls dx a0 h):∃ oe vs,h.get? e=some oe/\oe.cls=cls/\oe.data=.fields vs/\vs[0]? = some a0 :=
 let ⟨_,_,_,oe,vs,_,_,_,he,hc,_,hd,h0,_⟩:=x; ⟨oe,vs,he,hc,hd,h0⟩
section
variable {M:Model} {A:Around} {E:Value->Shared->Prop} {s:Shared}
theorem ziw{base:Heap}{env:Env}{outer:List Env}{L e:Addr}{oe:Obj}{vs:Array Value}{head a0:Value}{hadNext:Bool}{Q:Unit->Shared->Prop}
  (hfr:A.frames=some (env :: outer)) (hl:s.heap.FunFrames base (env :: outer)) (hf:env.frame=some L)
  (he:s.heap.get? e=some oe) (hkb:base.StaysIn s.heap) (hen:base.get? e=none) (hd:oe.data=.fields vs) (hsz:1<vs.size) (h0:vs[0]? = some a0)
  (h:∀ h',NotedD base (env :: outer) e oe.cls oe.dict a0 (rawInt L) s.heap h'->Q () { s with heap:=h' }) :
  wpAny M A (do let a <- frameOf env; let pl <- entryPlaceOf L hadNext; let b <- EntryCells.newEntry head a .none (rawInt L) .none pl; setField (.ref e) 1 b) Q E s:=by
 have ne:e∉(env :: outer).filterMap (·.frame):=fun hm=>by
  obtain⟨_,o,ho,nf⟩:=hl.mem hm;rw [he] at ho;cases ho;exact nf vs hd
 refine wpAny_bind (wpAny_frameOf_fun hfr hl hf fun h1 k1=>?_);refine wpAny_bind (wpAny_entryPlaceOf fun pl hpl=>?_);unfold EntryCells.newEntry newFields;refine wpAny_bind (wpAny_newObj_type ?_ (hpl.sizeOk5 _ _ _ _ _));have e1:h1.get? e=some oe:=(k1.2.1 e ne).trans he;have b1:base.StaysIn h1:=fun b o q=>(k1.2.1 b fun hm=>by rw [(hl.mem hm).1] at q; cases q).trans (hkb b o q);generalize hT:({ cls:=.type "traceback",dict:=none,data:=.fields ([head,.ref L,.none,rawInt L,.none]++(if pl.isEmpty then List.replicate 6 Value.none else pl)).toArray }:Obj)=tb;have dT:∃ ts,tb.data=.fields ts/\ts[3]? = some (rawInt L):=by
  subst hT;exact⟨_,rfl,by simp⟩
 obtain⟨ts,dT,zT⟩:=dT;have fT:tb.isFreed=false:=Obj.isFreed_of_fields dT;have e2:=get?_push_of_some (h:=h1) tb e1;refine wpAny_setField e2 hd hsz (h _ ?_);have nT:h1.objs.size≠e:=ne_of_gt (lt_size e1);have d3:=Obj.data_mapFields hd (·.setIfInBounds 1 (Value.ref h1.objs.size));have e3:=get?_update_self (Obj.mapFields (·.setIfInBounds 1 (Value.ref h1.objs.size))) e2 (Obj.isFreed_of_fields d3);have t3:=(get?_update_other (h1.push tb) (Obj.mapFields (·.setIfInBounds 1 (Value.ref h1.objs.size))) (Ne.symm nT)).trans (get?_push_size h1 fT);have keep:∀ b o,b≠e->h1.get? b=some o->((h1.push tb).update e (Obj.mapFields (·.setIfInBounds 1 (Value.ref h1.objs.size)))).get? b=some o:=fun b o nb q=>by
  rw [get?_update_other _ _ (Ne.symm nb)];exact get?_push_of_some _ q
 have nr:∀ b o,s.heap.get? b=some o->(∀ vs,o.data≠.fields vs)->b≠e:=fun b o q nf z=>by
  rw [z,he] at q;cases q;exact nf vs hd
 refine⟨fun b o q=>keep b o (fun z=>by rw [z,hen] at q; cases q) (b1 b o q),hl.of_keeps fun b o q nf=>?_,?_,fun b o q nf=>?_⟩
 ·obtain⟨sl,z⟩:=k1.2.2 b o q;exact⟨_,keep b _ (nr b o q nf) z,rfl⟩
 ·exact⟨_,_,h1.objs.size,_,_,e3,Obj.cls_mapFields _ _,zgx _ _,d3,by rw [Array.getElem?_setIfInBounds_ne dz]; exact h0,by simp [hsz],b1.fresh,nT,t3,dT,zT⟩
 ·obtain⟨sl,z⟩:=k1.2.2 b o q;exact⟨sl,keep b _ (nr b o q nf) z⟩
theorem zcU{base:Heap}{l:List Env}{e:Addr}{cls a0 fl:Value}{dx:Option Addr}{Q:Unit->Shared->Prop}(hkb:base.StaysIn s.heap)(hen:base.get? e=none)(hl:s.heap.FunFrames base l)(ht:RecAt s.heap base e cls dx a0 fl)
  (h:∀ h',FlyD base l e cls dx a0 h'->s.heap.UpToSlots h'->Q () { s with heap:=h' }):wpAny M A (setFlight (.ref e) none) Q E s:=by
 obtain⟨oe,vs,T,oT,ts,he,hc,hx,hd,h0,h1,hnT,hTe,hT,hdT,h3⟩:=ht;have z3:3<ts.size:=(Array.getElem?_eq_some_iff.mp h3).1;have oth:∀ b,b≠T->(s.heap.update T (Obj.mapFields (·.setIfInBounds 3 ((none:Option Addr).elim Value.none fun f=>rawInt f)))).get? b=s.heap.get? b:=fun b hb=>get?_update_other _ _ (Ne.symm hb);have nr:∀ b o,s.heap.get? b=some o->(∀ vs,o.data≠.fields vs)->b≠T:=fun b o q nf z=>by
  rw [z,hT] at q;cases q;exact nf ts hdT
 unfold setFlight;refine wpAny_bind (wpAny_field he hd h1 ?_);rw [if_pos (show (Value.ref T != Value.none)=true from by simp)];refine wpAny_setField hT hdT z3 (h _ ⟨fun b o q=>(oth b fun z=>by rw [z,hnT] at q; cases q).trans (hkb b o q),hen,hl.of_keeps fun b o q nf=>⟨o,(oth b (nr b o q nf)).trans q,rfl⟩,?_⟩ fun b o q nf=>⟨o.slots,(oth b (nr b o q nf)).trans q⟩);exact⟨oe,vs,T,_,_,(oth e (Ne.symm hTe)).trans he,hc,hx,hd,h0,h1,hnT,hTe,get?_update_self _ hT (Obj.isFreed_of_fields (Obj.data_mapFields hdT _)),Obj.data_mapFields hdT _,by simp [z3]⟩
theorem zkT{base:Heap}{env:Env}{outer:List Env}{L e:Addr}{oe:Obj}{vs:Array Value}{a0:Value}{Q:Unit->Shared->Prop}
  (hfr:A.frames=some (env :: outer)) (hl:s.heap.FunFrames base (env :: outer)) (hf:env.frame=some L)
  (he:s.heap.get? e=some oe) (hkb:base.StaysIn s.heap) (hen:base.get? e=none) (hd:oe.data=.fields vs) (h1:vs[1]? = some .none) (h0:vs[0]? = some a0)
  (h:∀ h',NotedD base (env :: outer) e oe.cls oe.dict a0 (rawInt L) s.heap h'->Q () { s with heap:=h' }):wpAny M A (noteFrame (.ref e) env) Q E s:=by
 unfold noteFrame;simp only [hf];refine wpAny_bind (wpAny_field he hd h1 ?_);rw [if_neg dz];exact ziw hfr hl hf he hkb hen hd (Array.getElem?_eq_some_iff.mp h1).1 h0 h
theorem zia{base:Heap}{env:Env}{outer:List Env}{L e:Addr}{cls a0:Value}{dx:Option Addr}{Q:Unit->Shared->Prop}
  (hfr:A.frames=some (env :: outer)) (hl:s.heap.FunFrames base (env :: outer)) (hf:env.frame=some L) (ht:RecAt s.heap base e cls dx a0 .none) (hkb:base.StaysIn s.heap) (hen:base.get? e=none)
  (h:∀ h',NotedD base (env :: outer) e cls dx a0 (rawInt L) s.heap h'->Q () { s with heap:=h' }):wpAny M A (noteFrame (.ref e) env) Q E s:=by
 obtain⟨oe,vs,T,oT,ts,he,rfl,rfl,hd,h0,h1,hnT,hTe,hT,hdT,h3⟩:=ht;unfold noteFrame;simp only [hf];refine wpAny_bind (wpAny_field he hd h1 ?_);rw [if_pos (show (Value.ref T != Value.none)=true from by simp)];refine wpAny_bind (wpAny_field hT hdT h3 ?_);rw [if_neg (show ¬ ((Value.none == rawInt L)=true) from by simp [rawInt])];refine wpAny_bind (wpAny_setField hT hdT (Array.getElem?_eq_some_iff.mp h3).1 ?_);have oth:∀ b,b≠T->(s.heap.update T (Obj.mapFields (·.setIfInBounds 3 Value.none))).get? b=s.heap.get? b:=fun b hb=>get?_update_other _ _ (Ne.symm hb);have nr:∀ b o,s.heap.get? b=some o->(∀ vs,o.data≠.fields vs)->b≠T:=fun b o q nf z=>by
  rw [z,hT] at q;cases q;exact nf ts hdT
 refine ziw hfr (hl.of_keeps fun b o q nf=>⟨o,(oth b (nr b o q nf)).trans q,rfl⟩) hf ((oth e (Ne.symm hTe)).trans he)
  (fun b o q=>(oth b fun z=>by rw [z,hnT] at q; cases q).trans (hkb b o q)) hen hd (Array.getElem?_eq_some_iff.mp h1).1 h0
  fun h' x=>h h' ⟨x.stays,x.frames,x.rcd,fun b o q nf=>x.upto b o ((oth b (nr b o q nf)).trans q) nf⟩
theorem znu{base:Heap}{env:Env}{outer:List Env}{L e:Addr}{cls a0:Value}{dx:Option Addr}{Q:Unit->Shared->Prop}(hfr:A.frames=some (env :: outer))(hf:env.frame=some L)(hfl:FlyD base (env :: outer) e cls dx a0 s.heap)
  (hQ:∀ h',FlyD base outer e cls dx a0 h'->s.heap.UpToSlots h'->Q () { s with heap:=h' }):wpAny M A (leaving env (.ref e)) Q E s:=by
 obtain⟨f1,f2,f3,f4⟩:=hfl;unfold leaving;refine wpAny_bind (zia hfr f3 hf f4 f1 f2 fun h' x=>?_);refine zcU (s:={ s with heap:=h' }) x.stays f2 x.frames x.rcd fun h2 y u=>hQ h2 ⟨y.1,y.2.1,?_,y.2.2.2⟩ (x.upto.trans u);obtain⟨_,_,k⟩:=y.2.2.1;exact k
theorem zio{base:Heap}{env:Env}{outer:List Env}{L e:Addr}{oe:Obj}{vs:Array Value}{a0:Value}{Q:Unit->Shared->Prop}
  (hfr:A.frames=some (env :: outer)) (hl:s.heap.FunFrames base (env :: outer)) (hf:env.frame=some L)
  (he:s.heap.get? e=some oe) (hkb:base.StaysIn s.heap) (hen:base.get? e=none) (hd:oe.data=.fields vs) (h1:vs[1]? = some .none) (h0:vs[0]? = some a0)
  (hQ:∀ h',FlyD base outer e oe.cls oe.dict a0 h'->s.heap.UpToSlots h'->Q () { s with heap:=h' }):wpAny M A (leaving env (.ref e)) Q E s:=by
 unfold leaving;refine wpAny_bind (zkT hfr hl hf he hkb hen hd h1 h0 fun h' x=>?_);refine zcU (s:={ s with heap:=h' }) x.stays hen x.frames x.rcd fun h2 y u=>hQ h2 ⟨y.1,y.2.1,?_,y.2.2.2⟩ (x.upto.trans u);obtain⟨_,_,k⟩:=y.2.2.1;exact k
theorem zlW{base:Heap}{env:Env}{outer:List Env}{L e:Addr}{cls a0:Value}{dx:Option Addr}{Q:Unit->Shared->Prop}(hfr:A.frames=some (env :: outer))(hf:env.frame=some L)(hfl:FlyD base (env :: outer) e cls dx a0 s.heap)
  (hQ:∀ h',HeldD base (env :: outer) e cls dx a0 L h'->s.heap.UpToSlots h'->Q () { s with heap:=h' }):wpAny M A (noteFrame (.ref e) env) Q E s:=by
 obtain⟨f1,f2,f3,f4⟩:=hfl;exact zia hfr f3 hf f4 f1 f2 fun h' x=>hQ h' ⟨x.stays,f2,x.frames,x.rcd⟩ x.upto
theorem zsB{base:Heap}{l:List Env}{e L:Addr}{cls a0:Value}{dx:Option Addr}{Q:Unit->Shared->Prop}(hh:HeldD base l e cls dx a0 L s.heap)(hQ:∀ h',FlyD base l e cls dx a0 h'->s.heap.UpToSlots h'->Q () { s with heap:=h' }):wpAny M A (setFlight (.ref e) none) Q E s:=by
 obtain⟨f1,f2,f3,f4⟩:=hh;exact zcU f1 f2 f3 f4 hQ
theorem zh9{base:Heap}{l:List Env}{e:Addr}{cls a0:Value}{dx:Option Addr}{Q:Unit->Shared->Prop}(hh:FlyD base l e cls dx a0 s.heap)(hQ:∀ h',FlyD base l e cls dx a0 h'->s.heap.UpToSlots h'->Q () { s with heap:=h' }):wpAny M A (setFlight (.ref e) none) Q E s:=by
 obtain⟨f1,f2,f3,f4⟩:=hh;exact zcU f1 f2 f3 f4 hQ
end
theorem HOk.stays{P:Program}{w:World}{H:Hp}{h h':Heap}(x:HOk P w H h)(k:∀ b u,H b=some u->∀ o,h.get? b=some o->h'.get? b=some o):HOk P w H h':=fun a o e =>
 (x a o e).stay (fun b u hb q=>by
  rcases hb with rfl | hb
  ·exact k _ _ e _ q
  ·exact k _ _ hb _ q) (fun _ q=>q) fun _ _ q=>q
theorem ObjOk.obj{P:Program}{w:World}{H:Hp}{h:Heap}{a:Addr}{o:HO}(x:ObjOk P w H h a o):∃ u,h.get? a=some u:=by
 cases o with
 | lst xs=>obtain⟨_,_,_,_,e⟩:=x; exact⟨_,e⟩
 | tup xs=>obtain⟨_,_,_,o,e,_⟩:=x; exact⟨_,e⟩
 | dK kvs=>obtain⟨_,_,_,_,o,_,_,e,_⟩:=x; exact⟨_,e⟩
 | dT kvs=>obtain⟨_,_,_,_,o,_,_,e,_⟩:=x; exact⟨_,e⟩
 | set S n=>obtain⟨o,_,_,_,e,_⟩:=x; exact⟨_,e⟩
 | ins C dx fs=>obtain⟨_,_,_,e,_⟩:=x; exact⟨_,e⟩
 | own y=>exact x
 | xd fs=>obtain⟨_,⟨_,_,_,e,_⟩,_⟩:=x; exact⟨_,e⟩
 | rng lo hi=>obtain⟨_,_,_,e⟩:=x; exact⟨_,e⟩
 | frz ob u=>obtain⟨e,_⟩:=x; exact⟨_,e⟩
 | tbl ps=>obtain⟨_,e,_⟩:=x; exact⟨_,e⟩
 | met f y=>exact⟨_,(show h.get? a=some _ from x)⟩
 | ext φ=>obtain⟨_,e,_⟩:=x; exact e
structure Fly(P:Program)(w:World)(outer:List Env)(H:Hp)(s:Shared)(H':Hp)(a C:Addr)(dx:Option Addr)(s':Shared):Prop where
 os:s'.os=s.os
 bare:AllBare s'.gens
 un:Un (frs outer) [] H H' s.heap s'.heap
 hok:HOk P w H' s'.heap
 fl:∃ B t,FlyD B outer a (.ref C) dx (.ref t) s'.heap/\(∀ b o,s.heap.get? b=some o->H b=none->b∉frs outer->B.get? b=some o)/\(∀ b o,s.heap.get? b=some o->b∈frs outer\/∃ o',B.get? b=some o')/\∀ b u,H' b=some u->∃ o,B.get? b=some o
def CX1(P:Program)(w:World):CXT:=fun outer H s E e s'=>∃ H' a C dx,e=.ref a/\Fly P w outer H s H' a C dx s'/\E (.ref C) (some a) (upd H' a (exO a C dx))
section
variable {P:Program} {w:World} {K:W.Frag} {mg:Str->Option Value} {base:Heap} {N:List Str} {qual:Str} {scope:Scope} {f:Addr} {cd:Value} {A:Around} {outer:List Env} {s:Shared} {H:Hp} {E:XK}
theorem pass1:Passes (CX1 P w) (zf0 (CX1 P w) P w K mg base N qual scope f cd A outer s H E) E:=fun zh σ Hc sc e s' I hx=>by
 obtain⟨H',a,C,dx,rfl,F,hE⟩:=hx;obtain⟨B,t,fl,kB,eB,tB⟩:=F.fl;have hfr:(A.deeper (envOfC qual scope s.heap.objs.size f cd)).frames=some (envOfC qual scope s.heap.objs.size f cd :: outer):=I.ok.frames;have nl:∀ b o,s.heap.get? b=some o->b∉frs outer->b∉frs (envOfC qual scope s.heap.objs.size f cd :: outer):=fun b o q hb z=>by
  rcases mem_cons.mp (show b∈s.heap.objs.size :: frs outer from z) with e | e
  ·exact absurd (lt_size q) (by rw [e]; exact lt_irrefl _)
  ·exact hb e
 have nx:∀ b:Addr,b∉([]:List Addr):=fun b=>by simp
 have kp:∀ b o,s.heap.get? b=some o->H b=none->b∉frs outer->B.get? b=some o:=fun b o q n hb=>kB b o (I.base.keep b o q n hb (nx b)) (I.base.free b o q n (nx b)) (nl b o q hb);have ep:∀ b o,s.heap.get? b=some o->b∈frs outer\/∃ o',B.get? b=some o':=fun b o q=>by
  by_cases hb:b∈frs outer
  ·exact .inl hb
  ·obtain⟨o1,q1⟩:=I.base.there b o q (nx b);rcases eB b o1 q1 with z | z
   ·exact absurd z (nl b o q hb)
   ·exact .inr z
 show wpAny _ _ (leaving (envOfC qual scope s.heap.objs.size f cd) (.ref a)) _ _ s';refine znu hfr rfl fl fun h' fl' sm=>⟨H',a,C,dx,rfl,⟨F.os.trans I.os,F.bare,⟨fun b o q n hb _=>fl'.1 b o (kp b o q n hb),fun b o q n hb _=>?_,fun b o q n _=>?_,fun b o q _=>?_,fun b xs q=>F.un.tups b xs (I.base.tups b xs q),fun b o u q=>F.un.frzs b o u (I.base.frzs b o u q),fun b ps q=>?_⟩,
  F.hok.stays fun b u e o q=>?_,B,t,fl',kp,ep,tB⟩,hE⟩
 ·obtain⟨sl,q1⟩:=I.base.slot b o q n hb (nx b);obtain⟨sl2,q2⟩:=F.un.any q1 (I.base.free b o q n (nx b)) (nx b);obtain⟨_,o3,q3,nf⟩:=fl.2.2.1.mem (show b∈frs (envOfC qual scope s.heap.objs.size f cd :: outer) from mem_cons_of_mem _ hb);rw [q2] at q3;cases q3;obtain⟨sl3,q4⟩:=sm b _ q2 nf;exact⟨sl3,q4⟩
 ·obtain⟨o1,q1⟩:=I.base.there b o q (nx b);exact F.un.free b o1 q1 (I.base.free b o q n (nx b)) (nx b)
 ·rcases ep b o q with z | ⟨o',z⟩
  ·obtain⟨_,o3,q3,_⟩:=fl'.2.2.1.mem (show b∈frs outer from z);exact⟨o3,q3⟩
  ·exact⟨o',fl'.1 b o' z⟩
 ·exact F.un.tbls b _ (I.base.tbls b ps q)
 ·obtain⟨o',z⟩:=tB b u e;have:=fl.1 b o' z;rw [q] at this;cases this;exact fl'.1 b o z
end
end
section
def veB:List Value:=[.type "ValueError",.type "Exception",.type "BaseException",.type "object"]
theorem zt1{K:W.Frag}{h:Heap}{N:Addr}{mg:Str->Option Value}{n:Str}{v:Value}(X:K.In h)(G:h.Ns N mg)(e:W.nsIn K N n=some (some v)):mg n=some v:=by
 obtain⟨o,es,ep,ho,hd,_,hf⟩:=G;unfold W.nsIn at e;split at e
 ·rename_i c d es' n' sl q;have:=X _ _ q;rw [ho] at this;cases this;cases hd;split at e
  ·rename_i en he;cases e;rw [<- hf];unfold nsFind findBy;rw [<- Array.find?_toList,he];rfl
  ·split at e <;> cases e
 ·cases e
structure ExCls(K:W.Frag)(C:Addr)(ini:Option Value):Prop where
 ob:∀ h,K.In h->∃ bm N nm qn bs hd sn sub ab col dd k0 k1 k2 k3 k5 mN,h.get? C=some (excClassObj nm qn C N bs bm hd sn sub ab col dd k0 k1 k2 k3 k5 "ValueError.__new__")/\h.Ns N mN/\mN "__init__" = ini/\OwnTail h veB bm/\∀ D,W.mroIn K C D=some ((Value.ref C :: bm).contains D)
 ty:(W.clsIn K C).isSome=true/\W.typeIn K (.ref C)=some (.type "type")
theorem exc_of_in{K:W.Frag}{C:Addr}(q:W.excIn K C veB "ValueError.__new__" = true):ExCls K C none:=by
 unfold W.excIn at q;split at q
 ·rename_i dd cd sl ho;split at q
  ·rename_i C' bm k0 k1 k2 k3 n k5 hm hs;simp only [Bool.and_eq_true,beq_iff_eq,Bool.not_eq_true'] at q;obtain⟨⟨⟨⟨⟨rfl,rfl⟩,hdel⟩,ht⟩,hok⟩,hni⟩:=q;obtain⟨nm,bs,mro,ns,qn,hd,sn,sub,ab,col,del⟩:=cd;dsimp only at hm hdel hok hni;subst hm hdel;have hsl:sl = #[k0,k1,k2,k3,some (.builtin "ValueError.__new__"),k5]:=by
    obtain⟨l⟩:=sl;simp only at hs;rw [hs]
   subst hsl;refine⟨fun h X=>⟨bm,ns,nm,qn,bs,hd,sn,sub,ab,col,dd,k0,k1,k2,k3,k5,h.nsMap ns,X _ _ ho,.of_isNs (W.isNs_of_in X hok),W.ns_none_of X (.of_isNs (W.isNs_of_in X hok)) hni,W.tail_of_in X ht,fun D=>?_⟩,?_,?_⟩
   ·unfold W.mroIn W.clsIn;rw [ho];rfl
   ·unfold W.clsIn;rw [ho];rfl
   ·show Option.map (fun x:Obj=>x.cls) (K.lookup C')=_;rw [ho];rfl
  ·cases q
 ·cases q
section
variable {K:W.Frag} {h:Heap} {C G:Addr} {ini iniG:Option Value}
variable {M:Model} {A:Around} {E:Value->Shared->Prop} {g:Array GenState} {d:Drawn} {t:Nat} {os:OsState} {e:Addr} {oe:Obj} {Q:Bool->Shared->Prop}
theorem zgp(X:K.In h)(qC:ExCls K C ini)(qG:ExCls K G iniG)(he:h.get? e=some oe)(hcls:oe.cls=.ref C)(hin:W.mroIn K C (.ref G)=some true)(hq:Q true ⟨h,g,d,t,os⟩):wpAny M A (excMatches (.ref e) (.ref G)) Q E ⟨h,g,d,t,os⟩:=by
 obtain⟨tl,N,nm,qn,bs,hd,sn,sub,ab,col,dd,k0,k1,k2,k3,k5,mN,hC,_,_,T,mr⟩:=qC.ob h X;obtain⟨tlG,N',nm',qn',bs',hd',sn',sub',ab',col',dd',j0,j1,j2,j3,j5,mN',hG,_,_,T',_⟩:=qG.ob h X;replace hin:(Value.ref C :: tl).contains (.ref G)=true:=by rw [mr] at hin; exact Option.some.inj hin
 have hcB:(Value.ref G :: tlG).contains (.type "BaseException")=true:=by rw [List.contains_cons,T'.hasType (b:=true) (by decide +kernel),Bool.or_true]
 have f:=tc_notTuple;unfold excMatches
 repeat (first | (with_reducible refine wpAny_loadPart_at he ?_; rw [hcls]) | with_reducible refine wpAny_loadPart_at hG ?_ | (with_reducible refine wpAny_isSubtype_exc hG ?_; rw [hcB]) | (with_reducible refine wpAny_isSubtype_exc hC ?_; rw [hin]) | wp_step)
 exact hq
end
end
section
def PEX(X:Cx)(e:Expr)(t:XK->TE):Prop:=∀ (zh:List (Addr×Obj)) (s:Shared) (σ:St) (H:Hp) (Q:VK) (Ex:XK) (E':Value->Shared->Prop),Inv X zh σ H s->t Ex σ H Q ->
 (∀ H1 s1 v s',Inv X zh σ H1 s1->CX1 X.prog X.w X.stack H1 s1 Ex v s'->E' v s')->wpAny (model X.prog X.w) X.A (eval e X.env) (EP X zh σ Q) E' s
def PSX(X:Cx)(st:Stmt)(t:XK->TS):Prop:=∀ (zh:List (Addr×Obj)) (s:Shared) (σ:St) (H:Hp) (D:Ends) (Ex:XK) (E':Value->Shared->Prop),Inv X zh σ H s->t Ex D σ H ->
 (∀ H1 s1 v s',Inv X zh σ H1 s1->CX1 X.prog X.w X.stack H1 s1 Ex v s'->E' v s')->wpAny (model X.prog X.w) X.A (exec st X.env) (SP X zh D) E' s
section
variable {X:Cx} {k:Nat} {f:Addr} {fd:FuncData} {ps:List Str} {sp:Sp} {x:Str} {p pos:Pos} {e e1:Expr} {es:List Expr} {t:TA} {te:TE} {tx:XK->TE}
theorem zqn(hx:∀ e s,X.xe e s->False)(F:FnOk X.prog X.w X.K X.mg X.base (CX1 X.prog X.w) k f fd ps sp)(hr:Room k X.A)(hg:Gl X x)(hm:X.mg x=some (.ref f))(hk:W.keepIn X.K (.ref f)=true)(hb:Binds X.K fd ps [])
  (ha:PA X (e :: es) t) (hdb:(x == ("__debug__":Str))=false:=by decide) (he:starEach (e :: es) X.env=(false,eval e X.env) :: starEach es X.env:=by rfl) (hpl:(backTo pos (starEach es X.env)).any (·.1)=false:=by rfl) :
  PEX X (.Call (.Name x p) (e :: es) [] pos) (fun Ex σ H Q=>t σ H fun vs H1=>sp vs H1 Q Ex):=by
 intro zh s σ H Q Ex E' I h hX;refine wpAny_Call_Name_kw (zeE I hg hm ?_ hdb);refine W.callWith_K (h₀:=X.base) I.ok.mod.kin hk (wpAny_mono (ha pos zh s σ H _ I h) (fun us s1 ⟨vs,H1,I1,r,q⟩=>⟨I1.kIn,?_⟩) fun _ _ z=>(hx _ _ z).elim) he hpl;have hl:us.length=ps.length:=by rw [<- r.length]; exact F.len _ _ _ _ q
 have hb1:=hb s1 us I1.kIn (by rw [append_nil]; exact hl);rw [append_nil] at hb1;refine wpAny_call (codeAny_mono (F.run X.A X.stack s1 H1 ⟨us,[]⟩ us vs Q Ex hr I1.env0 hb1 r q) fun r s' hq=>?_);cases r with
 | error e=>exact hX H1 s1 e s' I1 hq
 | ok fl =>
  cases fl with
  | ret u=>exact I1.after hq
  | next=>exact False.elim hq
  | brk=>exact False.elim hq
  | cont=>exact False.elim hq
theorem zpV(he:PEX X e tx):PSX X (.Return (some e) pos) (fun Ex=>zty (tx Ex)):=by
 intro zh s σ H D Ex E' I h hX;exact wpAny_Return_some (thn (he zh s σ H _ Ex E' I h hX) fun v s1 ⟨x,H1,I1,r1,q1⟩=>⟨x,σ,H1,I1,r1,q1⟩)
end
theorem zsd{P:Program}{w:World}{H:Hp}{h:Heap}{a C:Addr}{o:Obj}(e:h.get? a=some o)(c:o.cls=.ref C)(hf:∃ vs,o.data=.fields vs):ObjOk P w H h a (exO a C o.dict) :=
 ⟨⟨o,e,c,rfl,hf⟩,⟨o,e⟩,fun h1 h2 ⟨o,e,c,d⟩ k=>⟨o,k o e,c,d⟩⟩
abbrev Cx.suite (X:Cx) (a:Addr):Cx:={ X with A:=X.A.mark (some (.ref a)),calm:=false,xe:=fun _ _=>False }
theorem Cx.Ok.suite{X:Cx}(ok:X.Ok)(a:Addr):(X.suite a).Ok :=
 ⟨ok.mod,ok.kind,ok.glob,ok.blt,ok.above,ok.inj,ok.has,ok.cab,(fun z=>Bool.noConfusion z),ok.frames,ok.stk,ok.exf,ok.bs,ok.bsz,ok.noex,ok.exfs,ok.funs,ok.frf⟩
section
variable {X:Cx} {zh:List (Addr×Obj)} {σ:St} {H:Hp} {s:Shared} {a:Addr}
theorem Inv.suite(I:Inv X zh σ H s)(a:Addr):Inv (X.suite a) zh σ H s:=⟨I.ok.suite a,I.os,I.bare,I.base,I.loc,I.cell,I.free,I.freeC,I.pin,I.hok,I.len⟩
theorem Inv.unsuite(I:Inv (X.suite a) zh σ H s)(ok:X.Ok):Inv X zh σ H s:=⟨ok,I.os,I.bare,I.base,I.loc,I.cell,I.free,I.freeC,I.pin,I.hok,I.len⟩
theorem Inv.gone{h':Heap}{m':Str->Option Value}{t':Nat}(I:Inv X zh σ H s)(hn:h'.Ns X.env.locals m')(sb:Heap.SameBut X.env.locals s.heap h'):Inv X zh (List.replicate X.N.length none) H { s with heap:=h',toks:=t' }:=by
 have ne:∀ b o,X.s₀.heap.get? b=some o->b≠X.env.locals:=fun b o e=>ne_of_lt (lt_of_lt_of_le (lt_size e) I.ok.above);refine⟨I.ok,I.os,I.bare,⟨fun b o e n hb hx=>?_,fun b o e n hb hx=>?_,I.base.free,fun b o e hx=>?_,I.base.tups,I.base.frzs,I.base.tbls⟩,⟨m',hn,fun i x v _ e2 _=>?_⟩,fun x c e=>?_,I.free,I.freeC,fun p hp=>?_,I.hok.stays fun b u e o q=>?_,by simp⟩
 ·exact(sb.2 b (ne b o e)).trans (I.base.keep b o e n hb hx)
 ·obtain⟨sl,q⟩:=I.base.slot b o e n hb hx;exact⟨sl,(sb.2 b (ne b o e)).trans q⟩
 ·obtain⟨o',q⟩:=I.base.there b o e hx;exact⟨o',(sb.2 b (ne b o e)).trans q⟩
 ·rw [getElem?_replicate] at e2;split at e2 <;> cases e2
 ·obtain⟨v,o,ho,hd⟩:=I.cell x c e;exact⟨v,o,(sb.2 c (I.cne x c e)).trans ho,hd⟩
 ·obtain⟨e,n,ne',nf,d⟩:=I.pin p hp;exact⟨(sb.2 _ ne').trans e,n,ne',nf,d⟩
 ·refine(sb.2 b ?_).trans q;rintro rfl;rw [I.free] at e;cases e
end
end
section
structure RoomN(k:Nat)(A:Around):Prop where
 dp:A.depth+3*k+5<recursionLimit
 un:A.units+16*k+200<cLine
theorem Room.suite{k:Nat}{A:Around}(r:Room k A)(a:Addr):RoomN k (A.mark (some (.ref a))):=⟨r.dp,r.un⟩
theorem RoomN.mono{j k:Nat}{A:Around}(r:RoomN k A)(h:j<=k):RoomN j A:=⟨by have:=r.dp; omega,by have:=r.un; omega⟩
theorem RoomN.deeper{k:Nat}{A:Around}(r:RoomN (k+1) A)(env:Env):RoomN k (A.deeper env) :=
 ⟨by have:=r.dp; show A.depth+1+3*k+5<_; omega,by have:=r.un; show A.units+3+16*k+200<_; omega⟩
theorem RoomN.depth{k:Nat}{A:Around}(r:RoomN k A):A.depth<recursionLimit:=by have:=r.dp; omega
theorem RoomN.units{k:Nat}{A:Around}(r:RoomN k A):A.units+64<cLine:=by have:=r.un; omega
structure FnOkN(P:Program)(w:World)(K:W.Frag)(mg:Str->Option Value)(base:Heap)(CX:CXT)(k:Nat)(f:Addr)(fd:FuncData)(ps:List Str)(sp:Sp):Prop where
 len:∀ vs H Q E,sp vs H Q E->vs.length=ps.length
 run:∀ (A:Around) (outer:List Env) (s:Shared) (H:Hp) (args:Args) (us:List Value) (vs:List V) (Q:VK) (E:XK),RoomN k A->Env0 P w K mg base A outer s H->BindsTo s fd args (ps.zip us)->Vals vs us->sp vs H Q E ->
  codeAny (model P w) A (.call (.ref f) args) (CR CX outer P w H s Q E) s
abbrev cxN (P:Program) (w:World) (K:W.Frag) (mg:Str->Option Value) (base:Heap) (N:List Str) (qual:Str) (scope:Scope) (f:Addr) (cd:Value) (A:Around) (outer:List Env) (s:Shared) (H:Hp):Cx :=
 { zf0 CX0 P w K mg base N qual scope f cd A outer s H E0 with calm:=false,xe:=fun _ _=>False }
section
variable {P:Program} {w:World} {K:W.Frag} {mg:Str->Option Value} {base:Heap} {k:Nat}
theorem zrW{f:Addr}{name qual:Str}{params:Arguments}{body:List Stmt}{scope:Scope}{dV kV doc pm cdv ct oc:Value}{an od:Option Addr}
  {osl:Array (Option Value)} {N ps:List Str} {sp:Sp} (lk:K.lookup f=some ⟨oc,od,.func (W.fnOf name qual params body scope dV kV doc pm an cdv ct),osl⟩) (hcd:W.codeIn K cdv qual=true) (S:FnScope N ps scope)
  (len:∀ vs H Q E,sp vs H Q E->vs.length=ps.length)
  (hbody:∀ (A:Around) (outer:List Env) (s:Shared) (H:Hp) (vs:List V) (Q:VK) (E:XK),RoomN k (A.deeper (envOfC qual scope s.heap.objs.size f cdv))->sp vs H Q E ->
   ∃ t,PSs (cxN P w K mg base N qual scope f cdv A outer s H) body t/\t { nx:=fun _ H'=>Q .non H',rt:=Q } (start N vs) H) :
  FnOkN P w K mg base CX0 (k+1) f (W.fnOf name qual params body scope dV kV doc pm an cdv ct) ps sp:=by
 refine⟨len,fun A outer s H args us vs Q E hr e0 hb r hsp=>?_⟩;have hl:=len _ _ _ _ hsp;have KX:K.In s.heap:=e0.mod.kin.keeps fun b o e=>(e0.bs b o e).1;have lim:s.heap.NoLimit:=e0.mod.nolimit.keeps fun b o e=>(e0.bs b o e).1;have hkind:∀ y∈ps.zip us,scope.names.lookup y.1=some .local\/(scope.names.lookup y.1=some .cell/\((cellsFrom (s.heap.objs.size+1) scope.names []).lookup y.1).isSome=true):=fun⟨n,v⟩ hy=>by
  rcases S.par n (of_mem_zip hy).1 with q | q
  ·exact .inl q
  ·exact .inr ⟨q,W.cellsFrom_some _ _ _ (.inl q)⟩
 refine codeAny_call_function hr.depth (KX _ _ lk) rfl S.co S.gen rfl (W.codeRec_of KX hcd) (hb _ _ _ _ ?_);refine wpAny_newFunctionEnv_cells S.kind hkind fun env he s1 x=>?_;subst he;refine⟨lim.keeps x.toInCall.keep,codeAny_func ?_⟩;obtain⟨t,ht,hq⟩:=hbody A outer s H vs Q E (hr.deeper _) hsp;have e1:Env0 P w K mg base { A with handled:=none } outer s H:=⟨e0.frames,e0.mod,e0.bs,e0.bsz,e0.funs,e0.frf,e0.hok,e0.bare⟩;have I0:Inv (zf0 CX0 P w K mg base N qual scope f cdv { A with handled:=none } outer s H E0) [] (start N vs) H s1:=zfn S rfl e1 hl r x;have I:Inv (cxN P w K mg base N qual scope f cdv A outer s H) [] (start N vs) H s1 :=
  ⟨⟨I0.ok.mod,I0.ok.kind,I0.ok.glob,I0.ok.blt,I0.ok.above,I0.ok.inj,I0.ok.has,I0.ok.cab,(fun z=>Bool.noConfusion z),Around.frames_deeper e0.frames,I0.ok.stk,I0.ok.exf,I0.ok.bs,I0.ok.bsz,I0.ok.noex,I0.ok.exfs,I0.ok.funs,I0.ok.frf⟩,
   I0.os,I0.bare,I0.base,I0.loc,I0.cell,I0.free,I0.freeC,I0.pin,I0.hok,I0.len⟩
 refine wpAny_mono (ht [] s1 (start N vs) H _ I hq) (fun fl s' hs=>?_) fun e s' hs=>hs.elim;have fin:∀ {σ':St} {H':Hp} {v:V} {u:Value},Inv (cxN P w K mg base N qual scope f cdv A outer s H) [] σ' H' s'->RelV v u->Q v H'->CE outer P w H s Q u s' :=
  fun {σ' H' v u} J rv q=>⟨v,H',J.os,J.bare,J.base,J.hok,rv,q⟩
 cases fl with
 | ret u =>
  obtain⟨v,σ',H',J,rv,q⟩:=hs;exact fin J rv q
 | next =>
  obtain⟨σ',H',J,q⟩:=hs;exact fin (v:=V.non) (u:=Value.none) J rfl q
 | brk =>
  obtain⟨_,_,_,q⟩:=hs;exact False.elim q
 | cont =>
  obtain⟨_,_,_,q⟩:=hs;exact False.elim q
end
structure DfN(P:Program)(w:World)(K:W.Frag)(mg:Str->Option Value)(base:Heap)(x:Str)(ps:List Str)(k:Nat)(sp:Sp):Prop where
 ex:∃ f fd,FnOkN P w K mg base CX0 k f fd ps sp/\mg x=some (.ref f)/\W.keepIn K (.ref f)=true/\Binds K fd ps []
section
variable {P:Program} {w:World} {K:W.Frag} {mg:Str->Option Value} {base:Heap} {x:Str} {st:Stmt} {N ps:List Str} {k:Nat}
theorem DfN.dN{q:PN}(D:Dd K mg x st ps)(S:FnScope N ps (zg st))(n:Nat)(hn:N.length=ps.length+n)
  (hbody:∀ (f:Addr) (cdv:Value) (A:Around) (outer:List Env) (s:Shared) (H:Hp),RoomN k (A.deeper (envOfC x (zg st) s.heap.objs.size f cdv)) ->
   ∃ t dt,PSs (cxN P w K mg base N x (zg st) f cdv A outer s H) (zaK st) t/\RS t dt/\∀ xs S R,q xs S R->dt (zbB S.length R) (xs.map some++List.replicate n none) S):DfN P w K mg base x ps (k+1) (spN ps q):=by
 obtain⟨f,fd,F,hm,hb⟩:=D.ex;have kp:=F.kp;obtain⟨oc,od,kV,doc,pm,an,cdv,ct,osl,rfl,lk,hcd⟩:=F.ex;refine⟨f,_,zrW lk hcd S (fun vs H Q E h=>h.1) fun A outer s H vs Q E hr ⟨hl,h,o,S',xs,R,hs',hx,hq,c⟩=>?_,hm,kp,hb⟩;obtain⟨t,dt,h1,h2,h3⟩:=hbody f cdv A outer s H hr;refine⟨t,h1,h2 h o H _ _ S' _ _ ?_ hs' (h3 xs S' R hq) (eok hs' c)⟩;have e:N.length - vs.length=n:=by omega
 unfold start;rw [e];exact zbr hx
end
section
variable {X:Cx} {x:Str} {ps:List Str} {k j:Nat} {pos pos':Pos} {e:Expr} {es:List Expr} {t:TA}
theorem zi7{q:PN}(D:DfN X.prog X.w X.K X.mg X.base x ps k (spN ps q))(hr:RoomN j X.A)(hk:k<=j)(ha:PA X (e :: es) t)(hg:Gl X x:=by rfl)(hdb:(x == ("__debug__":Str))=false:=by decide)
  (q1:starEach (e :: es) X.env=(false,eval e X.env) :: starEach es X.env:=by rfl) (q2:((backTo pos (starEach es X.env)).any fun x=>x.fst)=false:=by rfl):PE X (.Call (.Name x pos') (e :: es) [] pos) (zfW (spN ps q) [] E0 t):=by
 obtain⟨f,fd,F,hm,kp,hb⟩:=D.ex;intro zh s σ H Q I h;refine wpAny_Call_Name_kw (zeE I hg hm ?_ hdb);refine W.callWith_K (h₀:=X.base) I.ok.mod.kin kp (thn (ha pos zh s σ H _ I h) fun us s1 ⟨vs,H1,I1,r,q5⟩=>⟨I1.kIn,?_⟩) q1 q2;have q':spN ps q vs H1 Q E0:=by simpa using q5
 have hl:us.length=ps.length:=by rw [<- r.length]; exact F.len _ _ _ _ q'
 have hb1:=hb s1 us I1.kIn (by rw [append_nil]; exact hl);rw [append_nil] at hb1;refine wpAny_call (codeAny_mono (F.run X.A X.stack s1 H1 ⟨us,[]⟩ us vs Q E0 (hr.mono hk) I1.env0 hb1 r q') fun r s' hq=>?_);cases r with
 | error e=>exact hq.elim
 | ok fl =>
  cases fl with
  | ret u=>exact I1.after hq
  | next=>exact False.elim hq
  | brk=>exact False.elim hq
  | cont=>exact False.elim hq
end
end
end L2
namespace L2
open PySem PySem.Spec PySem.Calls PyProof.Rows PySem.W PySem.Builtin PySem.Builtin.ObjectAttr PySem.Builtin.Getset_descriptor
section
variable {prog:Program} {w:World} {A:Around} {E:Value->Shared->Prop} {h:Heap} {g:Array GenState} {d:Drawn} {t:Nat} {os:OsState} {K:W.Frag} {x C:Addr} {ox:Obj} {od:Option Obj} {name:Str} {tk:Tok}
theorem zp6{tp:Value}{R:Result->Shared->Prop}(X:K.In h)(T0:∀ M,Looks M h (typeOf (.ref x)) (.ref C))(hm:mroIn K C (.type "object")=some true)
  (hr:R (.ok (.ret (.ref C))) ⟨h,g,d,t,os⟩):codeAny (model prog w) A (.call (.builtin "getset_descriptor.__get__") ⟨[.builtin "object.__class__",.ref x,tp],[]⟩) R ⟨h,g,d,t,os⟩:=by
 have L0:=T0 (model prog w);have L1:=looks_mroIn (M:=model prog w) X hm;refine codeAny_call_builtin KF.slot_gs.plain KF.entry_gs (KF.slot_gs.check _ _ _ _ _ _ _ _ KF.type_class (KF.args_gs _ _ _) ?_);unfold Builtin.«getset_descriptor.__get__» descrGet;rw [dga_obj];refine wpAny_bind (wpAny_pure ?_);unfold descrGetter descrCheckInstance descrNameAndClass isInstance;simp only [KF.owner_class]
 repeat lk
 refine⟨Code.quiet_builtin _ (by decide +kernel),codeAny_builtin KF.entry_class ?_⟩;unfold Builtin.«object.__class__» shownTypeOf
 repeat lk
 exact hr
theorem znf{M:Model}{a gt:Value}(X:K.In h)(ha:findIn K (.ref C) name=some (some a))(hg:specialIn K a "__get__" = some (some gt))(hd:takesIn K a=some true):Looks M h (find (.ref x) (.ref C) name) (.bind gt a):=by
 have L1:=looks_findIn (M:=M) X ha;have L2:Looks M h (getOf (some a)) (some gt):=looks_specialIn X hg;refine L1.andThen (L2.andThen ?_);have L3:=looks_takesIn (M:=M) X hd;exact(show Looks M h (dataDescriptor? (some a) (some gt)) (some (gt,a)) from L3.andThen .now).andThen (Looks.tag .now)
theorem zod{M:Model}{nameV:Value}{Q:Unit->Shared->Prop}(X:K.In h)(T0:∀ M,Looks M h (typeOf (.ref x)) (.ref C))(hB:mroIn K C (.type "BaseException")=some true)(hq:Q () ⟨h,g,d,t,os⟩):
  wpAny M A (checkBuiltinCall "BaseException.__getattribute__" ⟨[.ref x,nameV],[]⟩) Q E ⟨h,g,d,t,os⟩:=by
 have hk:builtinKind "BaseException.__getattribute__" = some .slot:=by decide +kernel
 have hsplit:splitId "BaseException.__getattribute__" = some ("BaseException","__getattribute__"):=by decide +kernel
 have ha:=F.args_bexc_ga (.ref x) nameV;simp only [checkBuiltinCall,hk,hsplit];refine wpAny_bind ?_;have L0:=T0 M;have L1:=looks_mroIn (M:=M) X hB;have L2:Looks M h (isInstance (.ref x) (.type "BaseException")) true:=L0.andThen L1;refine L2.at ?_
 repeat (any_goals (first | assumption | wp_step))
theorem zgj{v:Value}{Q:Fin->Shared->Prop}(X:K.In h)(T0:∀ M,Looks M h (typeOf (.ref x)) (.ref C))(hf:Looks (model prog w) h (find (.ref x) (.ref C) name) (.value v))(hq:Q (.done (.ret v)) ⟨h,g,d,t,os⟩):
  wpAny (model prog w) A (Builtin.«object.__getattribute__» ⟨[.ref x,.str name tk],[]⟩) Q E ⟨h,g,d,t,os⟩:=by
 have L0:=T0 (model prog w);have L1:=hf;unfold Builtin.«object.__getattribute__»
 repeat (any_goals (first | assumption | with_reducible refine L0.at ?_ | with_reducible refine L1.at ?_ | wp_step))
theorem zgo{Q:Fin->Shared->Prop}(X:K.In h)(T0:∀ M,Looks M h (typeOf (.ref x)) (.ref C))(hm:mroIn K C (.type "object")=some true)(hf:Looks (model prog w) h (find (.ref x) (.ref C) "__class__") (.bind (.builtin "getset_descriptor.__get__") (.builtin "object.__class__")))
  (hq:Q (.done (.ret (.ref C))) ⟨h,g,d,t,os⟩):wpAny (model prog w) A (Builtin.«object.__getattribute__» ⟨[.ref x,.str "__class__" tk],[]⟩) Q E ⟨h,g,d,t,os⟩:=by
 have L0:=T0 (model prog w);have L1:=hf;unfold Builtin.«object.__getattribute__»
 repeat (any_goals (first | assumption | with_reducible refine L0.at ?_ | with_reducible refine L1.at ?_ | (refine wpAny_call (zp6 X T0 hm ?_)) | wp_step))
structure ExAt(K:W.Frag)(C:Addr):Prop where
 ga:findIn K (.ref C) "__getattribute__" = some (some (.builtin "BaseException.__getattribute__"))
 gn:findIn K (.ref C) "__getattr__" = some none
 base:mroIn K C (.type "BaseException")=some true
theorem zrH{v:Value}{fill expr:Bool}{Q:Value->Shared->Prop}(X:K.In h)(T0:∀ M,Looks M h (typeOf (.ref x)) (.ref C))(F0:ExAt K C)
  (en:∀ (A:Around) (Q:Fin->Shared->Prop) (E:Value->Shared->Prop),Q (.done (.ret v)) ⟨h,g,d,t,os⟩->wpAny (model prog w) A (Builtin.«object.__getattribute__» ⟨[.ref x,.str name tk],[]⟩) Q E ⟨h,g,d,t,os⟩)
  (hv:handedIn v=true) (hq:Q v ⟨h,g,d,t,os⟩):wpAny (model prog w) A (getAttrBy (.ref x) (.str name tk) fill expr) Q E ⟨h,g,d,t,os⟩:=by
 have f3:=F.attrBase_ValueError.ga.bind (.ref x);have hx0:(expr && onTheHeap (Value.builtin "BaseException.__getattribute__"))=false:=by cases expr <;> rfl
 have hx2:(Value.builtin "BaseException.__getattribute__" == Value.builtin "object.__getattribute__")=false:=by decide +kernel
 have hx1:(onTheHeap (Value.ref C) && Value.builtin "BaseException.__getattribute__" == Value.builtin "object.__getattribute__")=false:=by rw [hx2]; rfl
 have L0:=T0 (model prog w);have L1:=looks_findIn (M:=model prog w) X F0.ga;have L2:=looks_findIn (M:=model prog w) X F0.gn
 repeat (any_goals (first | assumption | with_reducible refine L0.at ?_ | with_reducible refine L1.at ?_ | with_reducible refine L2.at ?_ | wp_step))
 exact codeAny_call_builtin F.attrBase_ValueError.ga.plain F.entry_bexc_ga (zod X T0 F0.base (en _ _ _ (handed_on hv hq)))
theorem znQ{Q:Option Value->Shared->Prop}(X:K.In h)(T0:∀ M,Looks M h (typeOf (.ref x)) (.ref C))(F0:ExAt K C)(hm:mroIn K C (.type "object")=some true)(hf:Looks (model prog w) h (find (.ref x) (.ref C) "__class__") (.bind (.builtin "getset_descriptor.__get__") (.builtin "object.__class__")))
  (hq:Q (some (.ref C)) ⟨h,g,d,t+1,os⟩):wpAny (model prog w) A (getAttr? (.ref x) "__class__") Q E ⟨h,g,d,t,os⟩:=by
 unfold getAttr? getAttrBy?;refine wpAny_bind (wpAny_mkText (wpAny_bind (wpAny_attempt (zrH (t:=t+1) X T0 F0 (fun A Q E q=>zgo X T0 hm hf q) rfl ?_))));exact wpAny_pure hq
theorem zqz{v:Value}{expr:Bool}{Q:Value->Shared->Prop}(X:K.In h)(T0:∀ M,Looks M h (typeOf (.ref x)) (.ref C))(F0:ExAt K C)(hf:Looks (model prog w) h (find (.ref x) (.ref C) name) (.value v))(hv:handedIn v=true)
  (hq:Q v ⟨h,g,d,t+1,os⟩):wpAny (model prog w) A (getAttr (.ref x) name expr) Q E ⟨h,g,d,t,os⟩:=by
 unfold getAttr;exact wpAny_bind (wpAny_mkText (zrH (t:=t+1) X T0 F0 (fun A Q E q=>zgj X T0 hf q) hv hq))
end
end L2
namespace L2
open PySem PySem.Spec PySem.Calls PyProof.Rows
structure SpK(K:W.Frag):Prop where
 hn:W.specialIn K (.builtin "object.__class__") "__get__" = some (some (.builtin "getset_descriptor.__get__"))
 ht:W.takesIn K (.builtin "object.__class__")=some true
def exM(C:Addr):List Value:=[.ref C,.ref 24,.type "ValueError",.type "Exception",.type "BaseException",.type "object"]
structure ExK(K:W.Frag)(C:Addr):Prop where
 ty:W.typeIn K (.ref C)=some (.type "type")
 ga:W.findIn K (.ref C) "__getattribute__" = some (some (.builtin "BaseException.__getattribute__"))
 gn:W.findIn K (.ref C) "__getattr__" = some none
 cls:W.findIn K (.ref C) "__class__" = some (some (.builtin "object.__class__"))
 mro:∃ cd,W.clsIn K C=some cd/\cd.mro=exM C
theorem ExK.mk'{K:W.Frag}{C:Addr}{cd:ClassData}(a:W.typeIn K (.ref C)=some (.type "type"))(b:W.findIn K (.ref C) "__getattribute__" = some (some (.builtin "BaseException.__getattribute__")))(c:W.findIn K (.ref C) "__getattr__" = some none)
  (d:W.findIn K (.ref C) "__class__" = some (some (.builtin "object.__class__"))) (e:W.clsIn K C=some cd) (f:cd.mro=exM C):ExK K C:=⟨a,b,c,d,cd,e,f⟩
section
variable {K:W.Frag} {x C D:Addr}
theorem ExK.mroIn(E:ExK K C)(v:Value):W.mroIn K C v=some ((exM C).contains v):=by
 obtain⟨cd,h1,h2⟩:=E.mro;unfold W.mroIn;rw [h1];show (if cd.mro.isEmpty=true then none else some (cd.mro.contains v))=_;rw [h2];rfl
theorem ExK.at_(E:ExK K C):ExAt K C:=⟨E.ga,E.gn,(E.mroIn _).trans rfl⟩
def IsEx(x C:Addr)(h:Heap):Prop:=∃ o,h.get? x=some o/\o.cls=.ref C
theorem IsEx.ty{h:Heap}(p:IsEx x C h)(M:Model):W.Looks M h (typeOf (.ref x)) (.ref C):=by
 obtain⟨o,e,c⟩:=p;exact c▸(W.Looks.ld e).andThen .now
theorem zn6(E0:ExK K C)(S0:SpK K):W.KitX K (.ref x) (.ref C) (IsEx x C) where
 ty:=fun M h _ p=>p.ty M
 it:=fun M h X _=>by
  obtain⟨cd,hc,_⟩:=E0.mro;unfold W.clsIn at hc;split at hc
  ·rename_i c' d' cd' sl' ho;intro A' Q' E' s' k q;unfold isType loadHead;exact wpAny_bind (wpAny_loadPart (k _ _ (X _ _ ho)) (wpAny_pure q))
  ·cases hc
 ne:=fun h tp dd its n sl X htp=>by
  obtain⟨cd,hc,_⟩:=E0.mro;refine Bool.eq_false_iff.mpr fun q=>?_;have e:C=tp:=Value.ref.inj (beq_iff_eq.mp q);subst e;unfold W.clsIn at hc;split at hc
  ·rename_i c' d' cd' sl' ho;have z:=(X _ _ ho).symm.trans htp;cases z
  ·cases hc
 ca:=fun {prog w A E Q s} X p k=>by
  obtain⟨h,g,d,t,os⟩:=s;exact znQ X p.ty E0.at_ ((E0.mroIn _).trans rfl) (znf X E0.cls S0.hn S0.ht) k
def excs:List Addr:=[37,49,61,73,85,104,123,142,161,180]
def exc0:List Addr:=[37,49,61,73,85]
structure Exs(K:W.Frag):Prop where
 sp:SpK K
 all:∀ C∈excs,ExK K C
 cl:∀ C∈exc0,ExCls K C none
 ci:∀ C∈excs,∃ ini,ExCls K C ini
theorem Exs.kit(E:Exs K)(hC:C∈excs)(hD:D∈excs):W.kitOne K (.ref C) (.ref D)=some (decide (C=D)):=by
 have EC:=E.all C hC;have ED:=E.all D hD;obtain⟨cdD,hD1,_⟩:=ED.mro;unfold W.kitOne;by_cases h:C=D
 ·subst h;rw [if_pos (by simp),decide_eq_true rfl]
 ·rw [if_neg (by simpa using h),decide_eq_false h];show (if ((W.clsIn K D).isSome && W.typeIn K (.ref D) == some (.type "type"))=true then W.mroIn K C (.ref D) else none)=_;rw [hD1,ED.ty,if_pos (by simp),EC.mroIn];have n24:D≠24:=by
   rintro rfl
   revert hD
   decide
  have:(exM C).contains (.ref D)=false:=by
   unfold exM;simp only [List.contains_cons,List.contains_nil,Bool.or_false,Bool.or_eq_false_iff];refine⟨beq_eq_false_iff_ne.mpr fun z=>h (Value.ref.inj z).symm,beq_eq_false_iff_ne.mpr fun z=>n24 (Value.ref.inj z),?_⟩;simp
  rw [this]
theorem Exs.kitV(E:Exs K)(hC:C∈excs):W.kitOne K (.ref C) (.type "ValueError")=some true:=by
 have EC:=E.all C hC;unfold W.kitOne;rw [if_neg (by simp)];show (if W.kitMeta "ValueError" = true then W.mroIn K C (.type "ValueError") else none)=_;rw [if_pos (by decide +kernel),EC.mroIn];rfl
end
def zuB(K:W.Frag):List V->Hp->VK->Prop:=fun xs H Q=>∃ a C d c b,xs=[.ref a,c]/\H a=some (exO a C d)/\ExK K C/\SpK K/\(∀ u,RelV c u->W.kitOne K (.ref C) u=some b)/\Q (.bl b) H
theorem zbv{X:Cx}:CallR X (.builtin "isinstance") (zuB X.K):=by
 intro zh s σ H xs us Q I r h;obtain⟨a,C,d,c,b,rfl,ha,E0,S0,hk,q⟩:=h;obtain⟨u,w',rfl,ru,rw'⟩:=vals2 r;cases (show u=Value.ref a from ru);obtain⟨⟨o,e,hc,_⟩,_⟩:=(show ObjOk X.prog X.w H s.heap a (exO a C d) from I.hok a _ ha);exact W.kia_one (zn6 E0 S0) I.kIn ⟨o,e,hc⟩ (hk _ rw') (fun z=>nomatch z) fun tk=>⟨.bl b,H,I.tok tk,rfl,q⟩
def zjS:List XV->Sto->RX->Prop:=fun xs S R=>arg2 xs fun x y=>∃ C fs c,x=.x C fs/\y=.o c/\C∈excs/\((∃ D,c=.ref D/\D∈excs/\R (.d (.bool (decide (C=D)))) S)\/(c=.ty "ValueError"/\R (.d (.bool true)) S))
theorem zc0{K:W.Frag}(E:Exs K):RC (zuB K) zjS:=fun h o H S xs vs R Q hs hx q c=>by
 obtain⟨x,y,rfl,C,fs,k,rfl,rfl,hC,q1⟩:=zfz q;obtain⟨v,u,rfl,hx1,hx2⟩:=hxs2 hx;obtain⟨a,d,rfl,ha,_⟩:=hx1;cases (show u=k from hx2);rcases q1 with ⟨D,rfl,hD,q2⟩ | ⟨rfl,q2⟩
 ·exact⟨a,C,d,_,_,rfl,zal _ _ ha,E.all C hC,E.sp,fun u ru=>by cases (show u=Value.ref D from ru); exact E.kit hC hD,c o H S _ _ Ex.refl hs (xB _) q2⟩
 ·exact⟨a,C,d,_,_,rfl,zal _ _ ha,E.all C hC,E.sp,fun u ru=>by cases (show u=Value.type "ValueError" from ru); exact E.kitV hC,c o H S _ _ Ex.refl hs (xB _) q2⟩
def zlS:V->List V->Hp->VK->Prop:=fun x vs H Q=>∃ bs:List Bool,Has H (.list (bs.map PyData.bool)) x/\vs=[.bl true]/\Q (.int (bs.countP id)) H
theorem znk{X:Cx}:MtR X "list.count" zlS:=by
 intro zh s σ H x vs v us Q I rx rv h;obtain⟨bs,hl,rfl,q⟩:=h;obtain⟨u,rfl,r1⟩:=rv.one;cases (show u=Value.bool true from r1);have cl:PyData.canLay0 (.list (bs.map PyData.bool))=true:=SeqAt.canLay_of_shaped (zfe (zf4 fun _ _=>(zjQ:Shp 0 _))).ok;obtain⟨as,q2⟩:=Has.reads I (.list (bs.map PyData.bool)) x v hl cl rx;cases q2 with
 | @list l o vs n xs as₁ h1 h2 h3 h4 =>
  refine count_list_bools (vs:=vs.toList) ⟨o,h1,h2,n,by simpa using h3⟩ h4 (by simp [Shape.has]) ?_;refine⟨.int (bs.countP id),H,I.tok _,⟨s.toks,?_⟩,q⟩;have:∀ bs:List Bool,countIn (.bool true) (bs.map PyData.bool)=(bs.countP id:Int):=fun bs=>by
   induction bs with
   | nil=>rfl
   | cons b bs ih =>
    rw [map_cons,List.countP_cons];show (if same (.bool b) (.bool true) then (1:Int) else 0)+countIn (.bool true) (bs.map PyData.bool)=_;rw [ih];cases b
    ·show (0:Int)+_=_;simp
    ·show (1:Int)+_=_;simp;omega
  rw [this]
def zg4:XV->List XV->Sto->RX->Prop:=fun x xs S R=>arg1 xs fun y=>y=.d (.bool true)/\∃ ds,ziG S x=some ds/\∃ bs:List Bool,ds=bs.map PyData.bool/\R (.d (.int (bs.countP id))) S
theorem zls:RM zlS zg4:=fun h o H S x v xs vs R Q hs hx hxs q c=>by
 obtain⟨y,rfl,rfl,ds,e2,bs,rfl,q1⟩:=zaG q;obtain⟨u,rfl,hu⟩:=hxs1 hxs;have hl:Has H (.list (bs.map PyData.bool)) v:=zde (x:=x) hs (by
  unfold ziG at e2;split at e2
  ·cases e2; rfl
  ·rename_i k; show (S[k]?).map PyData.list=_; rw [e2]; rfl
  ·cases e2) hx
 cases zdh hu;exact⟨bs,hl,rfl,c o H S _ _ Ex.refl hs (xI _) q1⟩
def zgI(q:PN)(da:DA):DE:=fun δ S R=>da δ S fun xs S1=>∃ C fs,xs=[.x C fs]/\q [.x C fs] [] (ret0 S1 R)
theorem hxE{h o:List Addr}{H:Hp}{C:Addr}{fs:List (Str×PyData)}{v:V}(hx:HasX h o H (.x C fs) v):HasX (h++o) [] H (.x C fs) v:=by
 have e:vx (h++o) [] H=vx h o H:=zhR fun b=>by simp
 show HasE (vx (h++o) [] H) C fs v;rw [e];exact hx
theorem zj8{ps:List Str}{q:PN}{tl:TA}{dl:DA}(hp:ps.length=1)(ha:RA tl dl):RE (zfW (spN ps q) [] E0 tl) (zgI q dl):=fun h o H δ σ S R Q he hs d c =>
 ha h o H δ σ S _ _ he hs d fun o1 H1 S1 xs vs e1 s1 x1 ⟨C,fs,exs,d1⟩=>by
  subst exs;obtain⟨v,rfl,hv⟩:=hxs1 x1;refine⟨by simp [hp],h++o1,[],[],[.x C fs],_,rep0 s1,⟨v,[],rfl,hxE hv,rfl⟩,d1,cn0 s1 (c.pre e1)⟩
end L2
namespace L2
open PySem PySem.Spec PyProof.Rows
section
abbrev EXD:=Addr->List (Str×PyData)->Prop
abbrev PX:=List XV->Sto->RX->EXD->Prop
def CnX(h o:List Addr)(H:Hp)(EX:EXD)(E:XK):Prop:=∀ o' H' S' C a fs,Ex o H o' H'->RepS h o' H' S'->HasE (vx h o' H') C fs (.ref a)->EX C fs->E (.ref C) (some a) H'
theorem CnX.pre{h o o':List Addr}{H H':Hp}{EX:EXD}{E:XK}(c:CnX h o H EX E)(e:Ex o H o' H'):CnX h o' H' EX E:=fun o2 H2 S2 C a fs e2=>c o2 H2 S2 C a fs (e.trans e2)
def RSx(E:XK)(EX:EXD)(t:TS)(dt:DS):Prop:=∀ (h o:List Addr) (H:Hp) (δ:XE) (σ:St) (S:Sto) (En:DEnds) (D:Ends),RepE h o H δ σ->RepS h o H S->dt En δ S->EOk h o H En D->CnX h o H EX E->t D σ H
section
variable {E:XK} {EX:EXD} {t u:TS} {dt du:DS}
theorem zet(ht:RS t dt):RSx E EX t dt:=fun h o H δ σ S En D he hs q c _=>ht h o H δ σ S En D he hs q c
theorem zh4(ht:RSx E EX t dt)(hu:RSx E EX u du):RSx E EX (zi3 t u) (zO dt du):=fun h o H δ σ S En D he hs q c x =>
 ht h o H δ σ S _ _ he hs q ⟨fun o1 H1 δ1 S1 σ1 e1 he1 hs1 q1=>hu h o1 H1 δ1 σ1 S1 En D he1 hs1 q1 (c.pre e1) (x.pre e1),c.rt,c.bk,c.ct⟩ x
end
theorem zmW{X:Cx}{st:Stmt}{t:TS}(h:PS X.nox st t):PS X st t:=fun zh s σ H D I hw =>
 wpAny_mono (h zh s σ H D (I.wish _) hw) (fun _ _ q=>q.unwish) fun _ _ z=>False.elim z
def spX(ps:List Str)(q:PX):Sp:=fun vs H Q E=>vs.length=ps.length/\∃ h o S xs R EX,RepS h o H S/\HasXs h o H xs vs/\q xs S R EX/\Cn h o H R Q/\CnX h o H EX E
structure DfX(P:Program)(w:World)(K:W.Frag)(mg:Str->Option Value)(base:Heap)(x:Str)(ps:List Str)(k:Nat)(sp:Sp):Prop where
 ex:∃ f fd,FnOk P w K mg base (CX1 P w) k f fd ps sp/\mg x=some (.ref f)/\W.keepIn K (.ref f)=true/\Binds K fd ps []
section
variable {P:Program} {w:World} {K:W.Frag} {mg:Str->Option Value} {base:Heap} {x:Str} {st:Stmt} {N ps:List Str} {k:Nat}
theorem DfX.dN{q:PX}(D:Dd K mg x st ps)(S:FnScope N ps (zg st))(n:Nat)(hn:N.length=ps.length+n)
  (hbody:∀ (f:Addr) (cdv:Value) (A:Around) (outer:List Env) (s:Shared) (H:Hp) (E:XK) (EX:EXD),Room k (A.deeper (envOfC x (zg st) s.heap.objs.size f cdv)) ->
   ∃ t dt,PSs (zf0 (CX1 P w) P w K mg base N x (zg st) f cdv A outer s H E) (zaK st) t/\RSx E EX t dt/\∀ xs S R,q xs S R EX->dt (zbB S.length R) (xs.map some++List.replicate n none) S):DfX P w K mg base x ps (k+1) (spX ps q):=by
 obtain⟨f,fd,F,hm,hb⟩:=D.ex;have kp:=F.kp;obtain⟨oc,od,kV,doc,pm,an,cdv,ct,osl,rfl,lk,hcd⟩:=F.ex;refine⟨f,_,zoP lk hcd S (fun vs H Q E h=>h.1) fun A outer s H vs Q E hr ⟨hl,h,o,S',xs,R,EX,hs',hx,hq,c,cx⟩=>?_,hm,kp,hb⟩;obtain⟨t,dt,h1,h2,h3⟩:=hbody f cdv A outer s H E EX hr;refine⟨t,h1,h2 h o H _ _ S' _ _ ?_ hs' (h3 xs S' R hq) (eok hs' c) cx⟩;have e:N.length - vs.length=n:=by omega
 unfold start;rw [e];exact zbr hx
end
def zsy(sp:Sp)(t:TA):XK->TE:=fun Ex σ H Q=>t σ H fun vs H1=>sp vs H1 Q Ex
theorem zsj{X:Cx}{q:PX}{x:Str}{ps:List Str}{k j:Nat}{pos pos':Pos}{e:Expr}{es:List Expr}{t:TA}(D:DfX X.prog X.w X.K X.mg X.base x ps k (spX ps q))(hr:Room j X.A)(hk:k<=j)(hx:∀ e s,X.xe e s->False)(ha:PA X (e :: es) t)(hg:Gl X x:=by rfl)(hdb:(x == ("__debug__":Str))=false:=by decide)
  (q1:starEach (e :: es) X.env=(false,eval e X.env) :: starEach es X.env:=by rfl) (q2:((backTo pos (starEach es X.env)).any fun x=>x.fst)=false:=by rfl):PEX X (.Call (.Name x pos') (e :: es) [] pos) (zsy (spX ps q) t):=by
 obtain⟨f,fd,F,hm,kp,hb⟩:=D.ex;exact zqn hx F (hr.mono hk) hg hm kp hb ha hdb q1 q2
theorem znB{X:Cx}{z:Str}{k1 k2:Nat}{p1 pos:Pos}{e:Expr}{tx:XK->TE}(hx:∀ e s,X.xe e s->False)(he:PEX X e tx)
  (hs1:starEach [.Constant (.str z) k1 p1,e] X.env=(false,eval (.Constant (.str z) k1 p1) X.env) :: starEach [e] X.env:=by rfl) (hs2:starEach [e] X.env=[(false,eval e X.env)]:=by rfl) :
  PEX X (.Tuple [.Constant (.str z) k1 p1,e] k2 pos) (fun Ex σ H Q=>tx Ex σ H fun v H1=>∀ p,H1 p=none->Q (.ref p) (upd H1 p (.tup [.str z,v]))):=by
 intro zh s σ H Q Ex E' I h hX;refine wpAny_Tuple_spliced ?_;rw [hs1];show wpAny _ _ (spliced ((false,eval (.Constant (.str z) k1 p1) X.env) :: backTo pos (starEach [e] X.env))) _ _ s;refine Calls.spliced_cons (wpAny_mono (zas (X:=X) (x:=z) zh s σ H (fun v H1=>v=.str z/\H1=H) I ⟨rfl,rfl⟩) (fun u s1 ⟨x,H1,I1,r1,e1,e2⟩=>?_) fun _ _ z=>(hx _ _ z).elim);subst e1 e2;rw [hs2];show wpAny _ _ (spliced [(false,eval e X.env)]) _ _ s1;refine Calls.spliced_cons (thn (he zh s1 σ _ _ Ex E' I1 h hX) fun u2 s2 ⟨y,H2,I2,r2,q2⟩=>Calls.spliced_nil ?_);refine⟨by show 2<=sizeLine; decide,?_⟩;have hf:H2 s2.heap.objs.size=none:=I2.hok.fresh (le_refl _);refine⟨.ref s2.heap.objs.size,upd H2 s2.heap.objs.size (.tup [.str z,y]),I2.laid (t':=s2.toks) (fun b u e=>get?_push_of_some _ e) (le_refl _) ?_,rfl,q2 _ hf⟩;exact⟨⟨by show 2<=sizeLine; decide,_,get?_push_size _ rfl,rfl⟩,[u,u2],.cons r1 (.cons r2 .nil),⟨_,get?_push_size _ rfl,rfl,_,rfl⟩⟩
end
section
def KnOk(kn:DEnds->XE->RX)(kt:Ends->St->VK):Prop:=∀ (h o:List Addr) (H:Hp) (δ:XE) (σ:St) (En:DEnds) (D:Ends),RepE h o H δ σ->EOk h o H En D->Cn h o H (kn En δ) (kt D σ)
theorem hxs00{h o:List Addr}{H:Hp}:∀ {es:List PyData} {vs:List V},HasXs h o H (es.map XV.d) vs->HasXs (h++o) [] H (es.map XV.d) vs
 | [],_,q=>q
 | d :: ds,vs,⟨v,r,e,hv,l⟩=>⟨v,r,e,hx0 hv,hxs00 l⟩
def knT(z:Str):DEnds->XE->RX:=fun En _ y S2=>asD y fun d=>En.rt (.d (.tuple [.str z,d])) S2
theorem zpg{z:Str}:KnOk (knT z) (fun D _ v H1=>∀ p,H1 p=none->D.rt (.ref p) (upd H1 p (.tup [.str z,v]))):=fun h o H δ σ En D he c o' H' S' x v e hs hx q=>by
 obtain⟨d,rfl,q⟩:=zgR q;exact zjq hs (zr.mpr ⟨_,_,rfl,(zdR (H:=vx h o' H')).mpr rfl,zr.mpr ⟨_,_,rfl,hx,zC.mpr rfl⟩⟩) (c.pre e).rt q
theorem zhv:bootBuiltins "ValueError" = some (.type "ValueError"):=by decide +kernel
end
end L2
namespace L2
open PySem PySem.Spec PySem.Calls PyProof.Rows PySem.W PySem.Builtin PySem.Builtin.ObjectAttr
theorem znz(self:Value)(C:Addr):refuseLoop self "__setattr__" (exM C)=pure ():=by
 unfold exM;rw [refuseLoop_ref,refuseLoop_ref];exact F.store_ValueError.passes self
theorem ztk{K:W.Frag}{h:Heap}{C:Addr}{cd:ClassData}(X:K.In h)(e:clsIn K C=some cd):∃ c0 dd sl,h.get? C=some ⟨c0,dd,.cls cd,sl⟩:=by
 unfold clsIn at e;split at e
 ·rename_i q;cases e;exact⟨_,_,_,X _ _ q⟩
 ·cases e
section
variable {prog:Program} {w:World} {A:Around} {E:Value->Shared->Prop} {h:Heap} {g:Array GenState} {d:Drawn} {t:Nat} {os:OsState} {K:W.Frag} {x C:Addr} {o:Obj} {cd:ClassData} {name:Str} {v:Value} {mA:Str->Option Value}
def XAt(h:Heap)(x:Addr)(o:Obj)(mA:Str->Option Value):Prop:=h.get? x=some o/\(∀ c,o.data≠.cls c)/\((o.dict=none/\∀ n,mA n=none)\/∃ dx,o.dict=some dx/\dx≠x/\h.Ns1 dx mA)
theorem zoQ{tk:Tok}{Q:Fin->Shared->Prop}{ns:List Str}(X:K.In h)(hcd:clsIn K C=some cd)(hm:cd.mro=exM C)(hdct:cd.hasDict=true)(hna:findIn K (.ref C) name=some none)(hc:o.cls=.ref C)(I:XAt h x o mA)
  (hq:∀ h' tk' dx,XAt h' x { o with dict:=some dx } (fun y=>if y=name then some v else mA y)->(o.dict=some dx\/o.dict=none/\h.objs.size<=dx)->(∀ b ob,b≠x->b≠dx->h.get? b=some ob->h'.get? b=some ob)->Q (.done (.ret .none)) ⟨h',g,d,tk',os⟩)
  (hw:Within mA ns) (hsz:ns.length+1<=sizeLine) :
  wpAny (model prog w) A (Builtin.«object.__setattr__» ⟨[.ref x,.str name tk,v],[]⟩) Q E ⟨h,g,d,t,os⟩:=by
 obtain⟨hx,hnc,hd⟩:=I;have hpass:=znz (.ref x) C;have Lm:Looks (model prog w) h (mroOf (.ref C)) (exM C):=by rw [<- hm]; exact(looks_clsIn X hcd).andThen .now
 have La:=looks_findIn (M:=model prog w) X hna;obtain⟨c0,dd,sl,hC⟩:=ztk X hcd;unfold Builtin.«object.__setattr__»
 repeat (first | with_reducible refine wpAny_loadPart_at hC ?_ | rw [refuse_eq] | rw [hpass] | (with_reducible refine wpAny_loadPart_at hx ?_; rw [hc]) | with_reducible refine Lm.at ?_ | with_reducible refine La.at ?_ | wp_step)
 rcases hd with ⟨hdn,hmA⟩ | ⟨dx,hdx,hne,hns⟩
 ·rw [hdn,if_neg (by simp [typeHasDict])];split
  ·rename_i z;cases z
  split
  ·rename_i c z;exact absurd z (hnc c)
  have hx1:(h.push { cls:=.type "dict",data:=.dict #[] }).get? x=some o:=get?_push_of_some _ hx;have hxs:x≠h.objs.size:=ne_of_lt (lt_size hx);refine wpAny_bind (wpAny_alloc' (wpAny_bind (wpAny_update' hx1 (wpAny_pure ?_))));have gd:((h.push { cls:=.type "dict",data:=.dict #[] }).update x fun o=>{ cls:=o.cls,dict:=some h.objs.size,data:=o.data,slots:=o.slots }).get? h.objs.size=some { cls:=.type "dict",data:=.dict #[] } :=
   (get?_update_ne _ _ _ _ hxs.symm).trans (Heap.get?_push_at rfl rfl)
  have nd:((h.push { cls:=.type "dict",data:=.dict #[] }).update x fun o=>{ cls:=o.cls,dict:=some h.objs.size,data:=o.data,slots:=o.slots }).Ns h.objs.size (fun _=>none) :=
   ⟨_,#[],_,gd,rfl,fun e he=>absurd he (by simp),fun _=>rfl⟩
  show wpAny _ _ (storeInDict h.objs.size (.str name tk) name v) _ _ _;unfold storeInDict newKeyGuard;refine wpAny_bind (wpAny_pure (wpAny_bind (wpAny_nsSet1 (Heap.Ns1.of_empty nd) fun h' hn' hs=>?_)));obtain⟨oD,esD,epD,hoD,hdD,hcD⟩:=hn'.count (Within.cons name v Within.nil);refine wpAny_bind (wpAny_lookBehind hoD (by rw [hdD]; exact pastItsLine_dict (le_trans hcD (by rw [length_cons,length_nil,sizeLine_eq]; omega))) ?_)
  wp_walk
  have hx':h'.get? x=some { cls:=o.cls,dict:=some h.objs.size,data:=o.data,slots:=o.slots }:=by
   refine(hs.2 x hxs).trans (get?_update_self _ hx1 ?_);have hfr:=(Heap.get?_some_iff.mp hx).2;obtain⟨oc,od,odt,osl⟩:=o;cases odt <;> first | rfl | exact hfr
  refine hq h' _ h.objs.size ⟨hx',hnc,.inr ⟨h.objs.size,rfl,hxs.symm,?_⟩⟩ (.inr ⟨hdn,le_refl _⟩) (fun b ob nb n2 q=>(hs.2 b n2).trans ((get?_update_ne _ _ _ _ nb).trans (get?_push_of_some _ q)));obtain⟨o',es,ep,e1,e2,e3,eu,e4⟩:=hn';exact⟨o',es,ep,e1,e2,e3,eu,fun y=>by rw [e4 y]; by_cases hy:y=name <;> simp [hy,hmA]⟩
 ·rw [hdx];refine wpAny_pure ?_;show wpAny _ _ (storeInDict dx (.str name tk) name v) _ _ _;unfold storeInDict newKeyGuard;refine wpAny_bind (wpAny_pure (wpAny_bind (wpAny_nsSet1 hns fun h' hn' hs=>?_)));obtain⟨oD,esD,epD,hoD,hdD,hcD⟩:=hn'.count (Within.cons name v hw);refine wpAny_bind (wpAny_lookBehind hoD (by rw [hdD]; exact pastItsLine_dict (le_trans hcD (by rw [length_cons]; omega))) ?_)
  wp_walk
  have eo:({ o with dict:=some dx }:Obj)=o:=by rw [<- hdx]
  refine hq h' _ dx ?_ (.inl hdx) fun b ob _ nd q=>(hs.2 b nd).trans q;rw [eo];exact⟨(hs.2 x hne.symm).trans hx,hnc,.inr ⟨dx,hdx,hne,hn'⟩⟩
theorem zg0{Q:Unit->Shared->Prop}{ns:List Str}(X:K.In h)(hcd:clsIn K C=some cd)(hm:cd.mro=exM C)(hdct:cd.hasDict=true)(hsa:findIn K (.ref C) "__setattr__" = some (some (.builtin "object.__setattr__")))(hna:findIn K (.ref C) name=some none)(hob:mroIn K C (.type "object")=some true)(hc:o.cls=.ref C)(I:XAt h x o mA)
  (hq:∀ h' tk' dx,XAt h' x { o with dict:=some dx } (fun y=>if y=name then some v else mA y)->(o.dict=some dx\/o.dict=none/\h.objs.size<=dx)->(∀ b ob,b≠x->b≠dx->h.get? b=some ob->h'.get? b=some ob)->Q () ⟨h',g,d,tk',os⟩)
  (hw:Within mA ns) (hsz:ns.length+1<=sizeLine) :
  wpAny (model prog w) A (setAttr (.ref x) name v) Q E ⟨h,g,d,t,os⟩:=by
 have hx:=I.1;have SF:=F.store_ValueError;have f3:=SF.slot.bind (.ref x);have L1:=looks_findIn (M:=model prog w) X hsa;have T0:∀ M,Looks M h (typeOf (.ref x)) (.ref C):=fun M=>hc▸(Looks.ld hx).andThen .now;unfold setAttr callSpecial? specialOf
 repeat (any_goals (first | assumption | (with_reducible refine wpAny_loadPart_at hx ?_; rw [hc]) | with_reducible refine L1.at ?_ | wp_step))
 refine codeAny_call_builtin SF.slot.plain SF.entry (@check_slot (model prog w) _ _ _ "object.__setattr__" "object" "__setattr__" (.ref x) [.str name t,v] [] _ SF.kind SF.split ((T0 _).andThen (looks_mroIn X hob)) (SF.args (.ref x) (.str name t) v) (zoQ X hcd hm hdct hna hc I (fun h' tk' dx a b c=>?_) hw hsz));exact wpAny_pure (wpAny_pure (hq h' tk' dx a b c))
end
end L2
namespace L2
open PySem PySem.Spec PySem.Calls PyProof.Rows PySem.W
def exF(t:Addr):Data:=.fields #[.ref t,.none,.none,.none,.bool false,.none]
def exN(a C:Addr)(d:Option Addr)(t:Addr):HO:=.ext fun h=>h.get? a=some { cls:=.ref C,dict:=d,data:=exF t }
theorem zoT{P:Program}{w:World}{H:Hp}{h:Heap}{a C t:Addr}{d:Option Addr}(e:h.get? a=some { cls:=.ref C,dict:=d,data:=exF t }):ObjOk P w H h a (exN a C d t):=⟨e,⟨_,e⟩,fun _ _ q k=>k _ q⟩
theorem zss{P:Program}{w:World}{H:Hp}{h:Heap}{dx:Addr}{fs:List (Str×V)}{mA:Str->Option Value}(n:h.Ns1 dx mA)(r:∀ f,RelO (fs.lookup f) (mA f))(wi:PySem.Within mA (fs.map (·.1))):ObjOk P w H h dx (xw dx fs) :=
 ⟨⟨mA,n,r,wi⟩,let ⟨o,_,_,e,_⟩:=n; ⟨o,e⟩,fun _ _ ⟨mA,n,r,wi⟩ k=>⟨mA,n.at k,r,wi⟩⟩
structure ExI(K:W.Frag)(C:Addr):Prop where
 k:ExK K C
 hd:W.hasDictIn K C=true
 sa:W.findIn K (.ref C) "__setattr__" = some (some (.builtin "object.__setattr__"))
def zqU(K:W.Frag)(ta tv:TE)(f:Str):TS:=fun D σ H=>tv σ H fun y H1=>ta σ H1 fun x H2=>∃ a C t,x=.ref a/\ExI K C/\NoAttr K C f /\
  ((H2 a=some (exN a C none t)/\∀ dx,H2 dx=none->D.nx σ (upd (upd H2 a (exN a C (some dx) t)) dx (xw dx [(f,y)]))) \/
   ∃ dx fs,H2 a=some (exN a C (some dx) t)/\H2 dx=some (xw dx fs)/\dx≠a/\fs.length<100/\D.nx σ (upd H2 dx (xw dx (zjh f y fs))))
section
variable {X:Cx} {o value:Expr} {f:Str} {pos pos':Pos} {ta tv:TE}
theorem zni(ha:PE X o ta)(hv:PE X value tv)(hs:swapsWith value (some (.Attribute o f pos')) pos.line X.env=pure false):PS X (.Assign [.Attribute o f pos'] value pos) (zqU X.K ta tv f):=by
 intro zh s σ H D I h;refine plainObj_wpAny_Assign_Attribute (thn (hv zh s σ H _ I h) fun u s1 ⟨y,H1,I1,ry,q⟩=>thn (ha zh s1 σ H1 _ I1 q) fun ov s2 ⟨x,H2,I2,rx,a,C,t,ex,xi,na,q2⟩=>?_) hs;subst ex;obtain rfl:ov=Value.ref a:=rx;obtain⟨cd,hcd,hm⟩:=xi.k.mro;have hdct:cd.hasDict=true:=by
  have:=xi.hd;unfold W.hasDictIn at this;rw [hcd] at this;simpa using this
 have hob:mroIn X.K C (.type "object")=some true:=(xi.k.mroIn _).trans (by simp [exM]);obtain⟨hp,g,d,tk,os⟩:=s2;rcases q2 with ⟨ea,q2⟩ | ⟨dx,fs,ea,ed,ne,hl,q2⟩
 ·obtain⟨e1,_,_⟩:=(show ObjOk X.prog X.w H2 hp a (exN a C none t) from I2.hok a _ ea);refine zg0 (o:={ cls:=.ref C,dict:=none,data:=exF t }) (mA:=fun _=>none) (ns:=[]) I2.kIn hcd hm hdct xi.sa na hob rfl ⟨e1,(fun c z=>by cases z),.inl ⟨rfl,fun _=>rfl⟩⟩ (fun h' tk' dx xa od kp=>?_) (fun y z=>absurd rfl z) (by show 1<=sizeLine; rw [sizeLine_eq]; omega);obtain⟨x1,_,x2⟩:=xa;have hsz:hp.objs.size<=dx:=by
   rcases od with z | z
   ·cases z
   ·exact z.2
  obtain⟨dx',z,nx,n1⟩:∃ d,some dx=some d/\d≠a/\h'.Ns1 d (fun y=>if y=f then some u else none):=by
   rcases x2 with ⟨z,_⟩ | z
   ·cases z
   ·exact z
  cases z;have g1:(hp.update a fun o=>{ o with dict:=some dx }).get? a=some { cls:=.ref C,dict:=some dx,data:=exF t }:=get?_update_self _ e1 rfl
  have J:=I2.write (x:=a) (e:=a) (o:=exN a C (some dx) t) (h':=hp.update a fun o=>{ o with dict:=some dx }) (t':=tk) (by rw [ea]; exact True.intro) (.inl rfl) (fun b v nb z=>(get?_update_ne _ _ _ _ nb).trans z) ⟨_,g1⟩ (zoT g1);have J2:=J.laid (a:=dx) (o:=xw dx [(f,y)]) (h':=h') (t':=tk') (fun b v z=>?_) (by show (hp.update a _).objs.size<=dx; rw [size_update]; exact hsz) (zss n1 (fun g=>?_) fun g hg=>?_)
  ·exact⟨σ,_,J2,q2 dx (I2.hok.fresh hsz)⟩
  ·by_cases nb:b=a
   ·subst nb;rw [g1] at z;cases z;exact x1
   ·have z':hp.get? b=some v:=(get?_update_ne _ _ _ _ nb).symm.trans z;exact kp b v nb (fun e=>absurd (lt_size z') (by rw [e]; exact Nat.not_lt.mpr hsz)) z'
  ·show RelO ((zjh f y []).lookup g) (if g=f then some u else none);rw [zdN];by_cases q:g=f
   ·rw [if_pos q,if_pos q]; exact ry
   ·rw [if_neg q,if_neg q]; exact True.intro
  ·by_cases e:g=f
   ·subst e; simp
   ·rw [if_neg e] at hg;exact absurd rfl hg
 ·obtain⟨e1,_,_⟩:=(show ObjOk X.prog X.w H2 hp a (exN a C (some dx) t) from I2.hok a _ ea);obtain⟨⟨mA,n1,r1,w1⟩,_,_⟩:=(show ObjOk X.prog X.w H2 hp dx (xw dx fs) from I2.hok dx _ ed);refine zg0 (o:={ cls:=.ref C,dict:=some dx,data:=exF t }) (mA:=mA) (ns:=fs.map (·.1)) I2.kIn hcd hm hdct xi.sa na hob rfl ⟨e1,(fun c z=>by cases z),.inr ⟨dx,rfl,ne,n1⟩⟩ (fun h' tk' dx2 xa od kp=>?_) w1 (by rw [length_map,sizeLine_eq]; omega);obtain rfl:dx=dx2:=by
   rcases od with z | z
   ·exact Option.some.inj z
   ·cases z.1
  obtain⟨x1,_,x2⟩:=xa;obtain⟨dx',z,nx,n2⟩:∃ d,some dx=some d/\d≠a/\h'.Ns1 d (fun y=>if y=f then some u else mA y):=by
   rcases x2 with ⟨z,_⟩ | z
   ·cases z
   ·exact z
  cases z;have J:=I2.write (x:=dx) (e:=dx) (o:=xw dx (zjh f y fs)) (h':=h') (t':=tk') (by rw [ed]; exact True.intro) (.inl rfl) (fun b v nb z=>?_) (let ⟨o,_,_,e,_⟩:=n2; ⟨o,e⟩) (zss n2 (fun g=>?_) fun g hg=>?_)
  ·exact⟨σ,_,J,q2⟩
  ·by_cases e:b=a
   ·subst e;rw [e1] at z;cases z;exact x1
   ·exact kp b v e nb z
  ·show RelO ((zjh f y fs).lookup g) (if g=f then some u else mA g);rw [zdN];by_cases q:g=f
   ·rw [if_pos q,if_pos q]; exact ry
   ·rw [if_neg q,if_neg q]; exact r1 g
  ·by_cases q:g=f
   ·rw [q]; exact(zf9 f y fs).1
   ·refine(zf9 f y fs).2 g (w1 g fun z=>hg ?_);show (if g=f then some u else mA g)=none;rw [if_neg q]; exact z
end
end L2
namespace L2
open PySem PySem.Spec PySem.Calls PyProof.Rows
section
variable {prog:Program} {w:World} {A:Around} {E:Value->Shared->Prop} {h:Heap} {g:Array GenState} {d:Drawn} {t:Nat} {os:OsState}
variable {nm q:Str} {C N:Addr} {bs bm:List Value} {hdct:Bool} {sn:List Str} {sub:List Value} {ab:Bool} {col:Option Bool} {dd:Option Addr} {k0 k1 k2 k3 k5:Option Value} {mN:Str->Option Value} {rest:List Value} {fI:Addr} {oI:Obj}
theorem zgw(T:OwnTail h veB bm){Q:Fin->Shared->Prop}
  (hC:h.get? C=some (excClassObj nm q C N bs bm hdct sn sub ab col dd k0 k1 k2 k3 k5 "ValueError.__new__")) (hn:h.Ns N mN) (hi:mN "__init__" = some (.ref fI)) (hfI:h.get? fI=some oI) (hfc:oI.cls=.type "function")
  (hq:∀ h' e,h.objs.size<=e->Heap.MadeExcOf h h' e (.ref C) rest->wpAny (model prog w) A (call (.ref fI) (.ref e :: rest)) (fun r s'=>r=.none/\Q (.done (.ret (.ref e))) s') E ⟨h',g,d,t,os⟩) (hrest:rest.length<=sizeLine) :
  wpAny (model prog w) A (Builtin.«type.__call__» ⟨.ref C :: rest,[]⟩) Q E ⟨h,g,d,t,os⟩:=by
 have Fn:=F.excBase_ValueError;have hBn:veB.contains (.type "ValueError")=true:=by decide +kernel
 repeat (first | with_reducible refine wpAny_loadPart_at hC ?_ | with_reducible refine wpAny_madeBy_exc hC ?_ | wp_step)
 refine codeAny_call_builtin_code (Code.quiet_builtin _ Fn.quiet) (wpAny_check_new_subU Fn hBn T hC ?_);refine codeAny_exc_new_subU Fn hBn Fn T hC ?_ hrest;show wpAny _ _ _ _ _ _;generalize hh:((h.push { cls:=.type "tuple",data:=.seq rest.toArray }).push { cls:=.ref C,data:=.fields #[.ref h.objs.size,.none,.none,.none,.bool false,.none] })=h1;have keep:∀ b o,h.get? b=some o->h1.get? b=some o:=fun b o e=>by rw [<- hh]; exact get?_push_of_some _ (get?_push_of_some _ e)
 have hC1:=keep _ _ hC;have hn1:h1.Ns N mN:=let ⟨o,es,ep,e,r⟩:=hn; ⟨o,es,ep,keep _ _ e,r⟩;have hfI1:=keep _ _ hfI;have hget:h1.get? (h.objs.size+1)=some { cls:=.ref C,data:=.fields #[.ref h.objs.size,.none,.none,.none,.bool false,.none] }:=by rw [<- hh]; heap_get
 have hcC:(Value.ref C :: bm).contains (.ref C)=true:=by simp
 have T1:=T.keeps keep;unfold isInstance
 repeat (first | with_reducible refine wpAny_loadPart_at hget ?_ | (with_reducible refine wpAny_isSubtype_exc hC1 ?_; rw [hcC]) | wp_step)
 show wpAny _ _ (typeLookup (.ref C) _) _ _ _;refine wpAny_typeLookup_tail hC1 hn1 T1 Fn.mroIs Fn.init.lookup ?_;rw [hi];refine wpAny_holding (wpAny_bind ?_);unfold bindSpecial;refine wpAny_bind (wpAny_typeOf (T:="function") ⟨_,hfI1,hfc⟩ ?_);rw [if_pos dz];refine wpAny_pure (wpAny_bind (wpAny_mono (hq h1 (h.objs.size+1) (le_succ _) ⟨keep,Heap.get?_none_of_le (le_succ _),h.objs.size,hget,Heap.get?_none_of_le (le_refl _),?_⟩) (fun r s' hr=>?_) fun _ _ x=>x))
 ·rw [<- hh];exact get?_push_of_some _ (Heap.get?_push_at rfl rfl)
 ·obtain⟨rfl,hQ⟩:=hr
  wp_walk
  exact hQ
theorem znb(T:OwnTail h veB bm){Q:Value->Shared->Prop}
  (hC:h.get? C=some (excClassObj nm q C N bs bm hdct sn sub ab col dd k0 k1 k2 k3 k5 "ValueError.__new__")) (hn:h.Ns N mN) (hi:mN "__init__" = some (.ref fI)) (hfI:h.get? fI=some oI) (hfc:oI.cls=.type "function")
  (hq:∀ h' e,h.objs.size<=e->Heap.MadeExcOf h h' e (.ref C) rest->wpAny (model prog w) (A.under (.builtin "type.__call__" ⟨.ref C :: rest,[]⟩)) (call (.ref fI) (.ref e :: rest)) (fun r s'=>r=.none/\Q (.ref e) s') E ⟨h',g,d,t,os⟩) (hrest:rest.length<=sizeLine) :
  wpAny (model prog w) A (call (.ref C) rest) Q E ⟨h,g,d,t,os⟩:=by
 have f1:=tc_lookup;have f2:=tc_bind (.ref C);have hT:(⟨h,g,d,t,os⟩:Shared).TypeIs (.ref C) "type":=⟨_,hC,rfl⟩;refine wpAny_call (codeAny_of_tree ?_);show wpAny _ _ (callAny (.ref C) _) _ _ _
 repeat (any_goals (first | assumption | with_reducible refine wpAny_loadPart_at hC ?_ | wp_step))
 refine⟨rfl,?_⟩;exact codeAny_call_builtin_at (Code.quiet_builtin _ (by decide +kernel)) entry_typeCall (wpAny_check_type_call_sub hC (zgw T hC hn hi hfI hfc (fun h' e hz hm=>hq h' e hz hm) hrest))
end
section
variable {prog:Program} {w:World} {A:Around} {E:Value->Shared->Prop} {s:Shared} {env:Env}
variable {nm q:Str} {C N:Addr} {bs bm:List Value} {hdct:Bool} {sn:List Str} {sub:List Value} {ab:Bool} {col:Option Bool} {dd:Option Addr} {k0 k1 k2 k3 k5:Option Value} {newId:String}
theorem zkO{M:Model}{x:Sem Value}{Q:Flow->Shared->Prop}(hbase:bm.contains (.type "BaseException")=true)(hh:A.handled=none)
  (h:wpAny M A x (fun v s1=>∃ e t dx,v=.ref e/\s1.heap.get? C=some (excClassObj nm q C N bs bm hdct sn sub ab col dd k0 k1 k2 k3 k5 newId)/\s1.heap.get? e=some { cls:=.ref C,dict:=dx,data:=.fields #[.ref t,.none,.none,.none,.bool false,.none] }/\E (.ref e) s1) E s) :
  wpAny M A (raiseStmt env (some x) none) Q E s:=by
 have hcB:(Value.ref C :: bm).contains (.type "BaseException")=true:=by rw [List.contains_cons,hbase,Bool.or_true]
 unfold raiseStmt;refine wpAny_bind (wpAny_mono h (fun v s1 h1=>?_) fun _ _ x=>x);obtain⟨e,t,dx,rfl,hC,he,hE⟩:=h1;obtain⟨hp,g,d,tk,os⟩:=s1
 repeat (first | with_reducible refine wpAny_loadPart_at he ?_ | with_reducible refine wpAny_loadPart_at hC ?_ | (with_reducible refine wpAny_isSubtype_exc hC ?_; rw [hcB]) | wp_step)
 exact wpAny_raiseNew_none hh hE
end
end L2
namespace L2
open PySem PySem.Spec PySem.Calls PyProof.Rows
def del(H:Hp)(a:Addr):Hp:=fun b=>if b=a then none else H b
theorem zfm{H:Hp}{a b:Addr}(h:b≠a):del H a b=H b:=if_neg h
theorem zqk{H:Hp}{a:Addr}{o:HO}:upd (del H a) a o=upd H a o:=by
 funext b;unfold upd del;split
 ·rfl
 ·rfl
theorem zkk{H:Hp}{a b:Addr}{u:HO}(h:del H a b=some u):b≠a/\H b=some u:=by
 unfold del at h;split at h
 ·cases h
 ·rename_i n;exact⟨n,h⟩
section
variable {P:Program} {w:World} {K:W.Frag} {mg:Str->Option Value} {base:Heap} {N:List Str} {qual:Str} {scope:Scope} {f:Addr} {cd:Value} {A:Around} {outer:List Env} {s:Shared} {H:Hp} {E:XK}
theorem zn1{zh:List (Addr×Obj)}{σ:St}{Hc:Hp}{s2:Shared}{e C t:Addr}{dx:Option Addr}(I:Inv (zf0 (CX1 P w) P w K mg base N qual scope f cd A outer s H E) zh σ Hc s2)(hn:Hc e=some (exN e C dx t))(ne0:s.heap.get? e=none)(hE:E (.ref C) (some e) (upd Hc e (exO e C dx))):
  (zf0 (CX1 P w) P w K mg base N qual scope f cd A outer s H E).xe (.ref e) s2:=by
 have hfr:(A.deeper (envOfC qual scope s.heap.objs.size f cd)).frames=some (envOfC qual scope s.heap.objs.size f cd :: outer):=I.ok.frames;have nl:∀ b o,s.heap.get? b=some o->b∉frs outer->b∉frs (envOfC qual scope s.heap.objs.size f cd :: outer):=fun b o q hb z=>by
  rcases mem_cons.mp (show b∈s.heap.objs.size :: frs outer from z) with e | e
  ·exact absurd (lt_size q) (by rw [e]; exact lt_irrefl _)
  ·exact hb e
 have nx:∀ b:Addr,b∉([]:List Addr):=fun b=>by simp
 have ne1:∀ b o,s.heap.get? b=some o->b≠e:=fun b o q z=>by
  rw [z,ne0] at q;cases q
 have nt:∀ b xs,Hc b=some (.tup xs)->b≠e:=fun b xs q z=>by
  rw [z,hn] at q;cases q
 have no:∀ b y,Hc b=some (.own y)->b≠e:=fun b y q z=>by
  rw [z,hn] at q;cases q
 have stk:s2.heap.FunFrames base (envOfC qual scope s.heap.objs.size f cd :: outer):=I.stack;obtain⟨he,_,_⟩:=(show ObjOk P w Hc s2.heap e (exN e C dx t) from I.hok e _ hn);have hin:∀ env∈(envOfC qual scope s.heap.objs.size f cd :: outer),∀ b,env.frame=some b->b∈e :: frs (envOfC qual scope s.heap.objs.size f cd :: outer):=fun env he b hb=>mem_cons_of_mem _ (List.mem_filterMap.mpr ⟨env,he,hb⟩);generalize hB:W.hideAll s2.heap (e :: frs (envOfC qual scope s.heap.objs.size f cd :: outer))=B;have hd:∀ b o,s2.heap.get? b=some o->b≠e->b∉frs (envOfC qual scope s.heap.objs.size f cd :: outer)->B.get? b=some o:=fun b o q n1 n=>by
  rw [<- hB];exact W.hideAll_get _ q fun z=>(mem_cons.mp z).elim n1 n
 have kp:∀ b o,s.heap.get? b=some o->H b=none->b∉frs outer->B.get? b=some o:=fun b o q n hb=>hd b o (I.base.keep b o q n hb (nx b)) (ne1 b o q) (nl b o q hb);have ep:∀ b o,s.heap.get? b=some o->b∈frs outer\/∃ o',B.get? b=some o':=fun b o q=>by
  by_cases hb:b∈frs outer
  ·exact .inl hb
  ·obtain⟨o1,q1⟩:=I.base.there b o q (nx b);exact .inr ⟨o1,hd b o1 q1 (ne1 b o q) (nl b o q hb)⟩
 have tr:∀ b u,Hc b=some u->b≠e->∀ o,s2.heap.get? b=some o->B.get? b=some o:=fun b u q n1 o q1=>hd b o q1 n1 fun z=>by
  rw [I.stkFree.free b z] at q;cases q
 have ne:B.get? e=none:=by rw [<- hB]; exact W.hideAll_none _ mem_cons_self
 have ff:s2.heap.FunFrames B (envOfC qual scope s.heap.objs.size f cd :: outer):=by rw [<- hB]; exact W.funFrames_hide stk hin
 have bs:B.StaysIn s2.heap:=fun b o q=>by
  rw [<- hB] at q;exact W.of_hideAll _ q
 show wpAny _ _ (leaving (envOfC qual scope s.heap.objs.size f cd) (.ref e)) _ _ _;refine zio hfr ff rfl he bs ne rfl rfl rfl fun h'' fl sm=>⟨del Hc e,e,C,dx,rfl,⟨I.os,I.bare,⟨fun b o q n hb _=>fl.1 b o (kp b o q n hb),fun b o q n hb _=>?_,fun b o q n _=>?_,fun b o q _=>?_,fun b xs q=>?_,fun b o u q=>?_,fun b ps q=>?_⟩,
  fun b u q=>?_,_,t,fl,kp,ep,fun b u q=>?_⟩,by rw [zqk]; exact hE⟩
 ·obtain⟨sl,q1⟩:=I.base.slot b o q n hb (nx b);obtain⟨_,o3,q3,nf⟩:=stk.mem (show b∈frs (envOfC qual scope s.heap.objs.size f cd :: outer) from mem_cons_of_mem _ hb);rw [q1] at q3;cases q3;obtain⟨sl3,q4⟩:=sm b _ q1 nf;exact⟨sl3,q4⟩
 ·rw [zfm (ne1 b o q)];exact I.base.free b o q n (nx b)
 ·rcases ep b o q with z | ⟨o',z⟩
  ·obtain⟨_,o3,q3,_⟩:=fl.2.2.1.mem (show b∈frs outer from z);exact⟨o3,q3⟩
  ·exact⟨o',fl.1 b o' z⟩
 ·have q2:=I.base.tups b xs q;rw [zfm (nt _ _ q2)];exact q2
 ·have q2:=I.base.frzs b o u q;rw [zfm fun z=>by rw [z,hn] at q2; cases q2];exact q2
 ·have q2:=I.base.tbls b ps q;rw [zfm fun z=>by rw [z,hn] at q2; cases q2];exact q2
 ·obtain⟨nb,qb⟩:=zkk q;refine(I.hok b u qb).stay (fun c v hc q1=>?_) (fun c q1=>by rw [zfm (no _ _ q1)]; exact q1) (fun c xs q1=>by rw [zfm (nt _ _ q1)]; exact q1) fun c o u q1=>by rw [zfm fun z=>by rw [z,hn] at q1; cases q1]; exact q1
  rcases hc with rfl | hc
  ·exact fl.1 _ _ (tr _ _ qb nb _ q1)
  ·exact fl.1 _ _ (tr _ _ hc (no _ _ hc) _ q1)
 ·obtain⟨nb,qb⟩:=zkk q;obtain⟨o,q1⟩:=(I.hok b u qb).obj;exact⟨o,tr b u qb nb o q1⟩
end
section
variable {X:Cx} {E:XK} {x:Str} {C fI:Addr} {fd:FuncData} {ps:List Str} {sp:Sp} {k:Nat} {np cpos pos:Pos} {e:Expr} {es:List Expr} {t:TA} {CX:CXT}
theorem zn3{K:W.Frag}{h h1:Heap}{C:Addr}{ini:Option Value}{o:Obj}(q:ExCls K C ini)(X:K.In h)(X1:K.In h1)(e:h.get? C=some o):h1.get? C=some o:=by
 have z:=q.ty.1;unfold W.clsIn at z;cases hl:K.lookup C with
 | none=>rw [hl] at z; cases z
 | some o' =>
  have:=X _ _ hl;rw [e] at this;cases this;exact X1 _ _ hl
def zjE(E:XK)(C:Addr)(sp:Sp)(t:TA):TS:=fun _ σ H=>t σ H fun vs H1=>∀ a tt,H1 a=none->sp (.ref a :: vs) (upd H1 a (exN a C none tt)) (fun r H2=>r=.non/\∃ dx,H2 a=some (exN a C dx tt)/\E (.ref C) (some a) (upd H2 a (exO a C dx))) fun _ _ _=>False
def RaisesI(X:Cx)(E:XK):Prop:=∀ (C:Addr) (zh:List (Addr×Obj)) (σ:St) (H1 H2:Hp) (s1 s2:Shared) (e t:Addr) (dx:Option Addr),Inv X zh σ H1 s1->s1.heap.get? e=none->Inv X zh σ H2 s2->H2 e=some (exN e C dx t)->E (.ref C) (some e) (upd H2 e (exO e C dx))->X.xe (.ref e) s2
theorem zl4(hc:X.calm=true)(hR:RaisesI X E)(hg:Gl X x)(hm:X.mg x=some (.ref C))(q:ExCls X.K C (some (.ref fI)))(hk:W.keepIn X.K (.ref C)=true)(hfn:W.typeIn X.K (.ref fI)=some (.type "function"))(F:FnOk X.prog X.w X.K X.mg X.base CX k fI fd ps sp)(hcx:∀ o H s v s',CX o H s (fun _ _ _=>False) v s'->False)(hr:∀ us:List Value,Room k (X.A.under (.builtin "type.__call__" ⟨.ref C :: us,[]⟩)))(hb:Binds X.K fd ps [])(hpsz:ps.length<=1000)
  (ha:PA X (e :: es) t) (hdb:(x == ("__debug__":Str))=false:=by decide) (he:starEach (e :: es) X.env=(false,eval e X.env) :: starEach es X.env:=by rfl) (hpl:(backTo cpos (starEach es X.env)).any (·.1)=false:=by rfl) :
  PS X (.Raise (some (.Call (.Name x np) (e :: es) [] cpos)) none pos) (zjE E C sp t):=by
 intro zh s σ H D I h;obtain⟨tl,N,nm,qn,bs,hd,sn,sub,ab,col,dd,k0,k1,k2,k3,k5,mN,hC,hN,hni,T,_⟩:=q.ob _ I.kIn;have hbase:tl.contains (.type "BaseException")=true:=T.hasType (b:=true) (by decide +kernel);rw [arm_exec_Raise];refine wpAny_bind (wpAny_standAt (zkO (C:=C) (nm:=nm) (q:=qn) (N:=N) (bs:=bs) (bm:=tl) (hdct:=hd) (sn:=sn) (sub:=sub) (ab:=ab) (col:=col) (dd:=dd) (k0:=k0) (k1:=k1) (k2:=k2) (k3:=k3) (k5:=k5) (newId:="ValueError.__new__") hbase (I.ok.hd hc) (wpAny_bind (wpAny_mono (wpAny_Call_ofName (zeE I hg hm ?_ hdb)) (fun v s3 h3=>wpAny_bind (wpAny_standAt (wpAny_pure h3))) fun _ _ x=>x))));refine W.callWith_K (h₀:=X.base) I.ok.mod.kin hk (thn (ha cpos zh s σ H _ I h) fun us s1 ⟨vs,H1,I1,r,q1⟩=>⟨I1.kIn,?_⟩) he hpl;obtain⟨tl1,N1,nm1,qn1,bs1,hd1,sn1,sub1,ab1,col1,dd1,l0,l1,l2,l3,l5,mN1,hC1,hN1,hi1,T1,_⟩:=q.ob _ I1.kIn;obtain⟨oI,hoI,hcI⟩:∃ oI,s1.heap.get? fI=some oI/\oI.cls=.type "function":=by
  have z:Option.map (fun x:Obj=>x.cls) (X.K.lookup fI)=some (.type "function"):=hfn;cases hl:X.K.lookup fI with
  | none=>rw [hl] at z; cases z
  | some o=>rw [hl] at z; exact⟨o,I1.kIn _ _ hl,Option.some.inj z⟩
 obtain⟨h1,g1,d1,tk1,os1⟩:=s1;have hlen:us.length<=sizeLine:=by
  have hz:=r.length;have:=F.len _ _ _ _ (q1 h1.objs.size 0 (I1.hok.fresh (le_refl _)));have hps:ps.length<=1000:=hpsz;rw [length_cons] at this;rw [sizeLine_eq];omega
 refine znb T1 hC1 hN1 hi1 hoI hcI (fun h' e2 hz mk=>?_) hlen;obtain⟨t2,he2,_,_⟩:=mk.there;have J:=I1.laid (a:=e2) (o:=exN e2 C none t2) (h':=h') (t':=tk1) mk.keeps hz (zoT he2);have qq:=q1 e2 t2 (I1.hok.fresh hz);have hl:(Value.ref e2 :: us).length=ps.length:=by
  have:=F.len _ _ _ _ qq;rw [length_cons] at this ⊢;rw [<- r.length];exact this
 have hb1:=hb _ (Value.ref e2 :: us) J.kIn (by rw [append_nil]; exact hl);rw [append_nil] at hb1;refine wpAny_call (codeAny_mono (F.run _ X.stack _ _ ⟨Value.ref e2 :: us,[]⟩ (Value.ref e2 :: us) (.ref e2 :: vs) _ _ (hr us) (J.env0.make C us []) hb1 (.cons rfl r) qq) fun rr s' hq=>?_);cases rr with
 | error v=>exact(hcx _ _ _ _ _ hq).elim
 | ok fl =>
  cases fl with
  | ret u =>
   obtain⟨y,H2,I2,ry,rfl,dx,hn2,hE⟩:=J.after hq;cases (show u=Value.none from ry);obtain⟨e3,_,_⟩:=(show ObjOk X.prog X.w H2 s'.heap e2 (exN e2 C dx t2) from I2.hok e2 _ hn2);exact⟨rfl,e2,t2,dx,rfl,zn3 q I.kIn I2.kIn hC,e3,hR C zh σ H1 H2 _ s' e2 t2 dx I1 mk.new I2 hn2 hE⟩
  | next=>exact False.elim hq
  | brk=>exact False.elim hq
  | cont=>exact False.elim hq
end
theorem zoI{P:Program}{w:World}{K:W.Frag}{mg:Str->Option Value}{base:Heap}{N:List Str}{qual:Str}{scope:Scope}{f:Addr}{cd:Value}{A:Around}{outer:List Env}{s:Shared}{H:Hp}{E:XK}:
  RaisesI (zf0 (CX1 P w) P w K mg base N qual scope f cd A outer s H E) E:=fun C zh σ H1 H2 s1 s2 e t dx I1 ne I2 hn hE=>zn1 I2 hn (by
 cases z:s.heap.get? e with
 | none=>rfl
 | some o =>
  obtain⟨o1,q1⟩:=I1.base.there e o z (fun z=>by cases z);rw [ne] at q1;cases q1) hE
end L2
namespace L2
open PySem PySem.Spec PyProof.Rows
section
def spI(K:W.Frag)(ns:List Str):Sp:=fun vs H Q _=>∃ a C t ws,vs=.ref a :: ws/\ws.length=ns.length/\ExI K C/\(∀ n∈ns,NoAttr K C n)/\H a=some (exN a C none t)/\∀ dx,H dx=none->Q .non (upd (upd H a (exN a C (some dx) t)) dx (xw dx (ns.zip ws)))
theorem init2{K:W.Frag}{n m:Str}{N:List Str}{vs:List V}{H:Hp}{Q:VK}{E:XK}(ne:n≠m)(h:spI K [n,m] vs H Q E):zi3 (zqU K (zj1 0) (zj1 1) n) (zqU K (zj1 0) (zj1 2) m) { nx:=fun _ H'=>Q .non H',rt:=Q } (start N vs) H:=by
 obtain⟨a,C,t,ws,rfl,hl,xi,na,ha,q⟩:=h;obtain⟨w,v,rfl⟩:∃ w v,ws=[w,v]:=by
  match ws,hl with
  | [w,v],_=>exact⟨w,v,rfl⟩
 refine⟨w,rfl,_,rfl,a,C,t,rfl,xi,na n (by simp),.inl ⟨ha,fun dx hd=>?_⟩⟩;have nx:dx≠a:=fun z=>by
  rw [z,ha] at hd;cases hd
 refine⟨v,rfl,_,rfl,a,C,t,rfl,xi,na m (by simp),.inr ⟨dx,[(n,w)],?_,zZ,nx,by simp,?_⟩⟩
 ·rw [zI (Ne.symm nx),zZ]
 ·have e:zjh m v [(n,w)]=[n,m].zip [w,v]:=by simp [zjh,ne]
  show Q .non _;rw [e,zqa];exact q dx hd
theorem zmX{H:Hp}:∀ {ns:List Str} {ds:List PyData} {vs:List V},HasL H ds vs->∀ f dt,(ns.zip ds).lookup f=some dt->∃ u,(ns.zip vs).lookup f=some u/\Has H dt u
 | [],_,_,_,f,dt,e=>by simp at e
 | n :: ns,[],_,_,f,dt,e=>by simp at e
 | n :: ns,d :: ds,vs,l,f,dt,e=>by
  obtain⟨v,r,rfl,hv,l'⟩:=zr.mp l;rw [zip_cons_cons,lookup_cons] at e;by_cases z:f=n
  ·subst z;simp at e;subst e;exact⟨v,by simp,hv⟩
  ·have zz:(f == n)=false:=by simp [z]
   rw [zz] at e;obtain⟨u,e1,e2⟩:=zmX l' f dt e;exact⟨u,by rw [zip_cons_cons,lookup_cons,zz]; exact e1,e2⟩
def zhp(EX:EXD)(C:Addr)(ns:List Str)(da:DA):DS:=fun _ δ S=>da δ S fun xs _=>∃ ds,datas xs=some ds/\ds.length=ns.length/\EX C (ns.zip ds)
theorem zmH{E:XK}{EX:EXD}{K:W.Frag}{C:Addr}{ns:List Str}{ta:TA}{da:DA}(hI:ExI K C)(hn:∀ n∈ns,NoAttr K C n)(ha:RA ta da):RSx E EX (zjE E C (spI K ns) ta) (zhp EX C ns da):=fun h o H δ σ S En D he hs q c x =>
 ha h o H δ σ S _ _ he hs q fun o1 H1 S1 xs vs e1 s1 x1 ⟨ds,ed,hl,hE⟩ a tt na=>by
  have exs:=zbL ed;have hL:=zd0 x1 exs;refine⟨a,C,tt,vs,rfl,by rw [hL.length]; exact hl,hI,hn,zZ,fun dx nd=>⟨rfl,some dx,?_,?_⟩⟩
  ·have ne:dx≠a:=fun z=>by rw [z,zZ] at nd; cases nd
   rw [zI (Ne.symm ne),zZ]
  ·have ne:dx≠a:=fun z=>by rw [z,zZ] at nd; cases nd
   have nd1:H1 dx=none:=by rwa [zI ne] at nd
   have na1:upd H1 dx (xw dx (ns.zip vs)) a=none:=by rw [zI (Ne.symm ne)]; exact na
   have eH:upd (upd (upd (upd H1 a (exN a C none tt)) a (exN a C (some dx) tt)) dx (xw dx (ns.zip vs))) a (exO a C (some dx))=upd (upd H1 dx (xw dx (ns.zip vs))) a (exO a C (some dx)):=by
    funext b;unfold upd;split
    ·rfl
    ·rfl
   rw [eH];have sU:=(Same.laid (o:=xw dx (ns.zip vs)) nd1).trans (Same.laid (o:=exO a C (some dx)) na1);have fa:=s1.fresh na;have fd:=s1.fresh nd1;refine(x.pre e1) o1 _ S1 C a (ns.zip ds) (Ex.of_same sU) (s1.same sU) ⟨a,some dx,rfl,zat.mpr ⟨fa.1,fa.2,zZ⟩,fun f dt l=>?_⟩ hE;obtain⟨u,e2,e3⟩:=zmX hL f dt l;exact⟨dx,ns.zip vs,u,rfl,zat.mpr ⟨fd.1,fd.2,by rw [zI ne,zZ]⟩,e2,Has.mono (zc8 sU) _ _ e3⟩
end
end L2
namespace L2
open PySem PySem.Spec PySem.Calls PyProof.Rows
def tXA(K:W.Frag)(te:TE)(f:Str):TE:=fun σ H Q=>te σ H fun x H1=>∃ a C dx vs u,x=.ref a/\H1 a=some (exO a C (some dx))/\H1 dx=some (xw dx vs)/\ExI K C/\NoAttr K C f/\vs.lookup f=some u/\Q u H1
theorem znW{X:Cx}{e:Expr}{te:TE}{f:Str}{pos:Pos}(he:PE X e te)(hb:attributeBase e f X.env (eval e X.env)=eval e X.env):PE X (.Attribute e f pos) (tXA X.K te f):=by
 intro zh s σ H Q I h;refine zqD hb (thn (he zh s σ H _ I h) fun u s1 ⟨x,H1,I1,rx,a,C,dx,vs,v,ex,ea,ed,xi,na,l,q⟩=>?_);subst ex;obtain rfl:u=Value.ref a:=rx;obtain⟨hp,g,d,t,os⟩:=s1;obtain⟨⟨o,e1,hc,hd,fv,hfv⟩,_,_⟩:=(show ObjOk X.prog X.w H1 hp a (exO a C (some dx)) from I1.hok a _ ea);obtain⟨⟨mA,n1,r1,w1⟩,_,_⟩:=(show ObjOk X.prog X.w H1 hp dx (xw dx vs) from I1.hok dx _ ed);obtain⟨od,ho,hl⟩:=ziS n1;have rr:RelO (some v) (mA f):=by rw [<- l]; exact r1 f
 obtain⟨w,hw,rv⟩:∃ w,mA f=some w/\RelV v w:=by
  cases z:mA f with
  | none=>rw [z] at rr; cases rr
  | some w=>rw [z] at rr; exact⟨w,rfl,rr⟩
 have T0:∀ M,W.Looks M hp (typeOf (.ref a)) (.ref C):=fun M=>hc▸(W.Looks.ld e1).andThen .now;exact zqz (v:=w) I1.kIn T0 ⟨xi.k.ga,xi.k.gn,(xi.k.mroIn _).trans (by simp [exM])⟩ (W.looks_find I1.kIn ⟨e1,hc,by unfold W.notCls; rw [hfv],by rw [hd]; exact ho⟩ (W.findObj_own xi.hd na rfl (by rw [hl,hw]))) (zl2 rv) ⟨v,H1,I1.tok _,rv,q⟩
structure ExsI(K:W.Frag)(Cs:List Addr)(f:Str):Prop where
 i:∀ C∈Cs,ExI K C
 n:∀ C∈Cs,NoAttr K C f
def dXA(Cs:List Addr)(de:DE)(f:Str):DE:=fun δ S R=>de δ S fun x S1=>∃ C fs d,x=.x C fs/\C∈Cs/\fs.lookup f=some d/\R (.d d) S1
theorem zi1{K:W.Frag}{Cs:List Addr}{te:TE}{de:DE}{f:Str}(X0:ExsI K Cs f)(he:RE te de):RE (tXA K te f) (dXA Cs de f):=fun h o H δ σ S R Q hE hs q c =>
 he h o H δ σ S _ _ hE hs q fun o1 H1 S1 x v e1 s1 x1 d1=>by
  obtain⟨C,fs,d,rfl,hC,hl,q1⟩:=d1;obtain⟨a,dx0,rfl,ha,hf⟩:=(show HasE (vx h o1 H1) C fs v from x1);obtain⟨dx,vs,u,rfl,e2,e3,e4⟩:=hf f d hl;exact⟨a,C,dx,vs,u,rfl,zal _ _ ha,zal _ _ e2,X0.i C hC,X0.n C hC,e3,c o1 H1 S1 (.d d) u e1 s1 e4 q1⟩
end L2
namespace L2
open PySem PySem.Spec PyProof.Rows
section
def ztY(o:Obj):Bool:=match o.data with
 | .dict es _=>es.toList.all fun e=>match e.key with | .str _ _=>true | _=>false
 | _=>false
theorem zqs{K:W.Frag}{N:Addr}{o:Obj}(l:K.lookup N=some o)(h:ztY o=true):W.nsOkIn K N=true:=by
 unfold W.nsOkIn;rw [l];obtain⟨a,b,c,d⟩:=o;cases c with
 | dict es n =>
  show (es.all fun e=>match e.key with | .str _ _=>true | _=>false)=true;rw [<- Array.all_toList];exact h
 | _=>cases h
theorem exc_ofI{K:W.Frag}{C N fI:Addr}{nm qn:Str}{bs:List Value}{hd:Bool}{sn:List Str}{sub:List Value}{ab:Bool}{col:Option Bool}{dd:Option Addr}{k0 k1 k2 k3 k5:Option Value}
  (l:K.lookup C=some (excClassObj nm qn C N bs (.ref 24 :: veB) hd sn sub ab col dd k0 k1 k2 k3 k5 "ValueError.__new__")) {oN:Obj} (lN:K.lookup N=some oN) (sN:ztY oN=true) (i:W.nsIn K N "__init__" = some (some (.ref fI))) (G:ExCls K 24 none):ExCls K C (some (.ref fI)):=by
 have ok:=zqs lN sN;refine⟨fun h X=>?_,?_,?_⟩
 ·obtain⟨bmG,NG,nmG,qnG,bsG,hdG,snG,subG,abG,colG,ddG,j0,j1,j2,j3,j5,mNG,hG,hNG,hniG,_,_⟩:=G.ob h X;have nsN:h.Ns N (h.nsMap N):=.of_isNs (W.isNs_of_in X ok);refine⟨.ref 24 :: veB,N,nm,qn,bs,hd,sn,sub,ab,col,dd,k0,k1,k2,k3,k5,h.nsMap N,X _ _ l,nsN,zt1 X nsN i,.own hG hNG hniG .base,fun D=>?_⟩;unfold W.mroIn W.clsIn;rw [l];rfl
 ·unfold W.clsIn;rw [l];rfl
 ·show Option.map (fun x:Obj=>x.cls) (K.lookup C)=_;rw [l];rfl
end
section
abbrev Phi:=List Addr->List Addr->Hp->Prop
class Stb (Φ:Phi):Prop where
 st:∀ {h o o':List Addr} {H H':Hp},Φ h o H->Ex o H o' H'->Φ h o' H'
def PhX(E:XK)(EX:EXD):Phi:=fun h o H=>CnX h o H EX E
instance {E:XK} {EX:EXD}:Stb (PhX E EX):=⟨fun x e=>CnX.pre x e⟩
def REp(Φ:Phi)(t:TE)(dt:DE):Prop:=∀ (h o:List Addr) (H:Hp) (δ:XE) (σ:St) (S:Sto) (R:RX) (Q:VK),RepE h o H δ σ->RepS h o H S->dt δ S R->Cn h o H R Q->Φ h o H->t σ H Q
def RTp(Φ:Phi)(t:TT)(dt:DT):Prop:=∀ (h o:List Addr) (H:Hp) (δ:XE) (σ:St) (S:Sto) (R:Bool->Sto->Prop) (Q:Bool->Hp->Prop),RepE h o H δ σ->RepS h o H S->dt δ S R ->
 (∀ o' H' S' b,Ex o H o' H'->RepS h o' H' S'->R b S'->Q b H')->Φ h o H->t σ H Q
def RAp(Φ:Phi)(t:TA)(dt:DA):Prop:=∀ (h o:List Addr) (H:Hp) (δ:XE) (σ:St) (S:Sto) (R:List XV->Sto->Prop) (Q:List V->Hp->Prop),RepE h o H δ σ->RepS h o H S->dt δ S R ->
 (∀ o' H' S' xs vs,Ex o H o' H'->RepS h o' H' S'->HasXs h o' H' xs vs->R xs S'->Q vs H')->Φ h o H->t σ H Q
section
variable {Φ:Phi} [Stb Φ] {ta tb te:TE} {da db de:DE} {tl:TA} {dl:DA} {tt tu:TT} {dt du:DT}
theorem zqt(a:RT tt dt):RTp Φ tt dt:=fun h o H δ σ S R Q he hs q c _=>a h o H δ σ S R Q he hs q c
theorem znj(a:RA tl dl):RAp Φ tl dl:=fun h o H δ σ S R Q he hs q c _=>a h o H δ σ S R Q he hs q c
end
section
variable {E:XK} {EX:EXD} {ta tb te:TE} {da db de:DE} {tl:TA} {dl:DA} {tt tu:TT} {dt du:DT}
def zif(EX:EXD)(m:Nat)(q:PX)(da:DA):DE:=fun δ S R=>da δ S fun xs S1=>∃ ds,datas xs=some ds/\ds.length=m/\q (ds.map XV.d) [] (ret0 S1 R) EX
theorem CnX.out{h o:List Addr}{H:Hp}{S:Sto}(hs:RepS h o H S)(x:CnX h o H EX E):CnX (h++o) [] H EX E:=fun o' H' S' C a fs e' s' hE q=>by
 have sH:Same H H':=fun b u eb=>(e'.kp b u (by simp) eb).2;have sv:Same (vx (h++o) o' H') (vx h o H'):=fun b u eb=>by
  obtain⟨n1,n2,n3⟩:=zat.mp eb;exact zat.mpr ⟨fun z=>n1 (mem_append_left _ z),fun z=>n1 (mem_append_right _ z),n3⟩
 exact x o H' S C a fs (Ex.of_same sH) (hs.same sH) (HasE.mono sv hE) q
theorem zkp{ps:List Str}{q:PX}{m:Nat}(ha:RAp (PhX E EX) tl dl)(hm:ps.length=m:=by rfl):REp (PhX E EX) (zfW (spX ps q) [] E tl) (zif EX m q dl):=fun h o H δ σ S R Q he hs w c x =>
 ha h o H δ σ S _ _ he hs w (fun o1 H1 S1 xs vs e1 s1 x1 ⟨ds,e,hl,d1⟩=>by
  have ex:=zbL e;subst ex;have hv:=x1.len;rw [append_nil];exact⟨by rw [hv,length_map,hl,hm],h++o1,[],[],_,_,EX,rep0 s1,hxs0 x1,d1,cn0 s1 (c.pre e1),(x.pre e1).out s1⟩) x
theorem zlC(ha:REp (PhX E EX) te de):RSx E EX (zrn te) (zcg de):=fun h o H δ σ S En D he hs q c x =>
 ha h o H δ σ S _ _ he hs q (fun o1 H1 S1 y v e1 s1 x1 d1=>c.nx o1 H1 δ S1 σ e1 (he.mono e1) s1 d1) x
theorem zsG{t u:TS}{ds dv:DS}(hc:RTp (PhX E EX) tt dt)(ht:RSx E EX t ds)(hu:RSx E EX u dv):RSx E EX (zqg tt t u) (zcI dt ds dv):=fun h o H δ σ S En D he hs q c x =>
 hc h o H δ σ S _ _ he hs q (fun o1 H1 S1 b e1 s1 d1=>by
  cases b with
  | true=>exact zl8 (ht h o1 H1 δ σ S1 En D (he.mono e1) s1 (by simpa using d1) (c.pre e1) (x.pre e1))
  | false=>exact zlz (hu h o1 H1 δ σ S1 En D (he.mono e1) s1 (by simpa using d1) (c.pre e1) (x.pre e1))) x
end
section
variable {X:Cx} {E:XK}
theorem zpF{x:Str}{ps:List Str}{k j:Nat}{pos pos':Pos}{e:Expr}{es:List Expr}{t:TA}{q:PX}(D:DfX X.prog X.w X.K X.mg X.base x ps k (spX ps q))(hp:Passes (CX1 X.prog X.w) X E)(hr:Room j X.A)(hk:k<=j)(ha:PA X (e :: es) t)(hg:Gl X x:=by rfl)(hdb:(x == ("__debug__":Str))=false:=by decide)
  (q1:starEach (e :: es) X.env=(false,eval e X.env) :: starEach es X.env:=by rfl) (q2:((backTo pos (starEach es X.env)).any fun x=>x.fst)=false:=by rfl):PE X (.Call (.Name x pos') (e :: es) [] pos) (zfW (spX ps q) [] E t):=by
 obtain⟨f,fd,F,hm,kp,hb⟩:=D.ex;exact zjH (dvs:=[]) (ds:=[]) (E:=E) F (hr.mono hk) hg hm kp hb .nil hp ha hdb q1 q2
end
structure XI(K:W.Frag)(C:Addr)(ns:List Str)(qual:Str)(st:Stmt):Prop where
 ex:∃ fI fd,ExCls K C (some (.ref fI))/\W.typeIn K (.ref fI)=some (.type "function")/\Fun K "__init__" qual st fI fd/\Binds K fd (("self":Str) :: ns) []
 kc:W.keepIn K (.ref C)=true
 i:ExI K C
 na:∀ n∈ns,NoAttr K C n
theorem XI.mk'{K:W.Frag}{C N fI:Addr}{ns:List Str}{qual:Str}{st:Stmt}{nm qn:Str}{bs:List Value}{hd:Bool}{sn:List Str}{sub:List Value}{ab:Bool}{col:Option Bool}{dd:Option Addr}{k0 k1 k2 k3 k5:Option Value}{oc:Value}{od an:Option Addr}{osl:Array (Option Value)}{kV doc pm cdv ct:Value}
  (l:K.lookup C=some (excClassObj nm qn C N bs (.ref 24 :: veB) hd sn sub ab col dd k0 k1 k2 k3 k5 "ValueError.__new__")) {oN:Obj} (lN:K.lookup N=some oN) (sN:ztY oN=true) (i:W.nsIn K N "__init__" = some (some (.ref fI))) (G:ExCls K 24 none)
  (tf:W.typeIn K (.ref fI)=some (.type "function")) (lf:K.lookup fI=some ⟨oc,od,.func (W.fnOf "__init__" qual (zcJ st) (zaK st) (zg st) .none kV doc pm an cdv ct),osl⟩) (c:W.codeIn K cdv qual=true) (kf:W.keepIn K (.ref fI)=true)
  (hb:∀ (kV doc pm:Value) (an:Option Addr) (cdv ct:Value) (us:List Value),us.length=(("self":Str) :: ns).length->bindArgs (W.fnOf "__init__" qual (zcJ st) (zaK st) (zg st) .none kV doc pm an cdv ct) ⟨us,[]⟩=pure ((("self":Str) :: ns).zip us))
  (kc:W.keepIn K (.ref C)=true) (ek:ExK K C) (hdd:W.hasDictIn K C=true) (sa:W.findIn K (.ref C) "__setattr__" = some (some (.builtin "object.__setattr__"))) (na:∀ n∈ns,NoAttr K C n):XI K C ns qual st :=
 ⟨⟨fI,_,exc_ofI l lN sN i G,tf,zkj (st:=st) lf c kf,(zkj (st:=st) lf c kf).binds hb⟩,kc,⟨ek,hdd,sa⟩,na⟩
theorem zqx{K:W.Frag}{ns:List Str}(vs:List V)(H:Hp)(Q:VK)(E:XK)(h:spI K ns vs H Q E):vs.length=(("self":Str) :: ns).length:=by
 obtain⟨a,C,t,ws,rfl,hl,_⟩:=h;rw [length_cons,length_cons,hl]
section
variable {X:Cx} {E:XK} {x:Str} {C:Addr} {ns:List Str} {qual:Str} {st:Stmt} {j:Nat} {np cpos pos:Pos} {e:Expr} {es:List Expr} {t:TA}
theorem zmu(B:XI X.K C ns qual st)(hF:∀ f fd,Fun X.K "__init__" qual st f fd->FnOk X.prog X.w X.K X.mg X.base CX0 1 f fd (("self":Str) :: ns) (spI X.K ns))(hR:RaisesI X E)(hr:Room j X.A)(hj:2<=j)(hm:X.mg x=some (.ref C))(hn:ns.length<=9)
  (ha:PA X (e :: es) t) (hc:X.calm=true:=by rfl) (hg:Gl X x:=by rfl) (hdb:(x == ("__debug__":Str))=false:=by decide) (he:starEach (e :: es) X.env=(false,eval e X.env) :: starEach es X.env:=by rfl) (hpl:(backTo cpos (starEach es X.env)).any (·.1)=false:=by rfl) :
  PS X (.Raise (some (.Call (.Name x np) (e :: es) [] cpos)) none pos) (zjE E C (spI X.K ns) t):=by
 obtain⟨fI,fd,q,hfn,F,hb⟩:=B.ex;exact zl4 hc hR hg hm q B.kc hfn (hF fI fd F) (fun _ _ _ _ _ z=>z) (fun us=>(hr.mono hj).make C us []) hb (by rw [length_cons]; omega) ha hdb he hpl
end
def ztF(N P:List Str)(sc:Scope):Bool:=decide (sc.kind=.function) && !sc.isCoroutine && !sc.isGenerator && decide N.Nodup && decide (N.take P.length=P) && P.all (fun x=>decide (sc.names.lookup x=some .local) || decide (sc.names.lookup x=some .cell)) && sc.names.all fun y=>decide (y.2≠.free)
theorem fsc{N P:List Str}{sc:Scope}(h:ztF N P sc=true):FnScope N P sc:=by
 simp only [ztF,Bool.and_eq_true,decide_eq_true_eq,Bool.not_eq_true',all_eq_true,Bool.or_eq_true] at h;obtain⟨⟨⟨⟨⟨⟨h1,h2⟩,h3⟩,h4⟩,h5⟩,h6⟩,h7⟩:=h;exact⟨h1,h2,h3,h4,h5,h6,h7⟩
end
section
section
variable {κ α:Type} [DecidableEq κ]
def lkA(m:List (κ×α))(k:κ):Option α:=(m.find? fun p=>decide (p.1=k)).map (·.2)
def ptA(m:List (κ×α))(k:κ)(v:α):List (κ×α):=if (m.any fun p=>decide (p.1=k))=true then m.map (fun p=>if p.1=k then (p.1,v) else p) else m++[(k,v)]
end
inductive DD where
 | k (m:List (Key×PyData))
 | t (m:List (List Key×PyData))
def DD.pairs:DD->List (PyData×PyData)
 | .k m=>m.map fun p=>(kD p.1,p.2)
 | .t m=>m.map fun p=>(.tuple (p.1.map kD),p.2)
def zuP:PyData->Option Key
 | .int i=>some (.inl i)
 | .str x=>some (.inr x)
 | _=>none
abbrev DM:=List (Addr×DD)
def ad(M:DM):List Addr:=M.map (·.1)
section
variable {h o o':List Addr} {H H':Hp} {M:DM} {S:Sto}
def zuR(M:DM)(a:Addr)(D:DD):DM:=M.map fun p=>if p.1=a then (a,D) else p
end
end
section
structure DEndsM where
 nx:XE->Sto->DM->Prop
 rt:XV->Sto->DM->Prop
 bk:XE->Sto->DM->Prop:=fun _ _ _=>False
 ct:XE->Sto->DM->Prop:=fun _ _ _=>False
abbrev DSm:=DEndsM->XE->Sto->DM->Prop
def zpU(dt:DS):DSm:=fun En δ S M=>dt { nx:=fun δ' S'=>En.nx δ' S' M,rt:=fun x S'=>En.rt x S' M,bk:=fun δ' S'=>En.bk δ' S' M,ct:=fun δ' S'=>En.ct δ' S' M } δ S
def zuj(c:DM->DT)(t u:DSm):DSm:=fun En δ S M=>c M δ S fun b S1=>if b=true then t En δ S1 M else u En δ S1 M
def znv(g:DG)(b:DSm):List PyData->DSm
 | [],E,δ,S,M=>E.nx δ S M
 | d :: ds,E,δ,S,M=>g (.d d) δ S fun δ1 S1=>b { nx:=fun δ2 S2 M2=>znv g b ds E δ2 S2 M2,ct:=fun δ2 S2 M2=>znv g b ds E δ2 S2 M2,bk:=E.nx,rt:=E.rt } δ1 S1 M
def ztm(i:DM->DI)(g:DG)(b:DSm):DSm:=fun En δ S M=>i M δ S fun ds S1=>znv g b ds En δ S1 M
end
section
def zuI(a:Addr)(m:List (Key×PyData)):XV->XV
 | .o (.ref b)=>if b=a then .d (.dict (DD.pairs (.k m))) else .o (.ref b)
 | x=>x
def zrM(f:Bool)(i:Nat)(D0:DD)(b:DSm):DSm:=fun En δ S M=>∀ a,a∉ad M->b { nx:=(fun δ' S' M'=>if f=true then (∃ M1 m,M'=M1++[(a,.k m)]/\δ'[i]? = some (some (.o (.ref a)))/\En.nx (δ'.map (Option.map (zuI a m))) S' M1) else (∃ M1 D,M'=M1++[(a,D)]/\En.nx δ' S' M1)),rt:=(fun x S' M'=>∃ M1 D,M'=M1++[(a,D)]/\En.rt x S' M1),bk:=(fun δ' S' M'=>∃ M1 D,M'=M1++[(a,D)]/\En.bk δ' S' M1),ct:=(fun δ' S' M'=>∃ M1 D,M'=M1++[(a,D)]/\En.ct δ' S' M1) } (δ.set i (some (.o (.ref a)))) S (M++[(a,D0)])
section
variable {E:XK} {EX:EXD} {tb:TS} {db:DSm} {i:Nat}
def zux(dt:DSm):DS:=fun En δ S=>dt { nx:=fun δ' S' _=>En.nx δ' S',rt:=fun x S' _=>En.rt x S',bk:=fun δ' S' _=>En.bk δ' S',ct:=fun δ' S' _=>En.ct δ' S' } δ S []
end
end
end L2
namespace L2
open PySem PySem.Spec PySem.Calls PyProof.Rows
def DD.itemsD(m:List (Key×PyData)):List PyData:=m.map fun p=>.tuple [kD p.1,p.2]
def znm(e:DE):DI:=fun δ S R=>e δ S fun x S1=>∃ m,x=.d (.dict (DD.pairs (.k m)))/\R (DD.itemsD m) S1
end L2
namespace L2
open PySem PySem.Spec PyProof.Rows
section
section
variable {X:Cx} {zh:List (Addr×Obj)} {σ:St} {H:Hp} {s:Shared} {a:Addr}
theorem Inv.goneAt{h':Heap}{n:Str}{i:Nat}{m:Str->Option Value}{v:Option Value}{t':Nat}(I:Inv X zh σ H s)(hN:X.N.Nodup)(hi:X.N[i]? = some n)(hl:X.env.kindOf n=some .local)(hm:s.heap.Ns X.env.locals m)
  (hv:∀ (i:Nat) (x:Str) (v:V),X.N[i]? = some x->σ[i]? = some (some v)->Vis X.env.scope x->∃ u,RelV v u/\Look X.env s.heap m x u) (hn:h'.Ns X.env.locals (fun x=>if x=n then v else m x)) (sb:Heap.SameBut X.env.locals s.heap h'):Inv X zh (σ.set i none) H { s with heap:=h',toks:=t' }:=by
 have ne:∀ b o,X.s₀.heap.get? b=some o->b≠X.env.locals:=fun b o e=>ne_of_lt (lt_of_lt_of_le (lt_size e) I.ok.above);refine⟨I.ok,I.os,I.bare,⟨fun b o e n hb hx=>?_,fun b o e n hb hx=>?_,I.base.free,fun b o e hx=>?_,I.base.tups,I.base.frzs,I.base.tbls⟩,⟨_,hn,fun j x w e1 e2 e3=>?_⟩,fun x c e=>?_,I.free,I.freeC,fun p hp=>?_,I.hok.stays fun b u e o q=>?_,by rw [length_set]; exact I.len⟩
 ·exact(sb.2 b (ne b o e)).trans (I.base.keep b o e n hb hx)
 ·obtain⟨sl,q⟩:=I.base.slot b o e n hb hx;exact⟨sl,(sb.2 b (ne b o e)).trans q⟩
 ·obtain⟨o',q⟩:=I.base.there b o e hx;exact⟨o',(sb.2 b (ne b o e)).trans q⟩
 ·rw [getElem?_set] at e2;by_cases hij:i=j
  ·rw [if_pos hij] at e2;split at e2 <;> cases e2
  ·rw [if_neg hij] at e2;have xn:x≠n:=fun z=>hij ((List.getElem?_inj (List.getElem?_eq_some_iff.mp hi).1 hN).mp (by rw [hi,e1,z]));obtain⟨u,r,l⟩:=hv j x w e1 e2 e3;refine⟨u,r,?_⟩;rcases l with ⟨k1,k2⟩ | ⟨k1,c,k2,k3⟩
   ·exact .inl ⟨k1,by show (if x=n then v else m x)=_; rw [if_neg xn]; exact k2⟩
   ·refine .inr ⟨k1,c,k2,?_⟩;obtain⟨o,ho,hd⟩:=k3;exact⟨o,(sb.2 c (I.cne x c k2)).trans ho,hd⟩
 ·obtain⟨v,o,ho,hd⟩:=I.cell x c e;exact⟨v,o,(sb.2 c (I.cne x c e)).trans ho,hd⟩
 ·obtain⟨e,n,ne',nf,d⟩:=I.pin p hp;exact⟨(sb.2 _ ne').trans e,n,ne',nf,d⟩
 ·refine(sb.2 b ?_).trans q;rintro rfl;rw [I.free] at e;cases e
end
section
variable {X:Cx} {G n:Str} {gp hpos pos:Pos} {i:Nat} {b₀ st:Stmt} {suite:List Stmt} {GA:Addr} {iniG:Option Value} {tb:XK->TS} {ts:TS}
def zmk(K:W.Frag)(GA:Addr)(i:Nat)(ts:TS)(D:Ends)(σ:St):XK:=fun cls a H'=>∃ C b ini,cls=.ref C/\a=some b/\ExCls K C ini/\W.mroIn K C (.ref GA)=some true /\
 ts { nx:=fun σ' H2=>D.nx (σ'.set i none) H2,rt:=D.rt } (σ.set i (some (.ref b))) H'
def zi5(K:W.Frag)(GA:Addr)(i:Nat)(tb:XK->TS)(ts:TS):TS:=fun D σ H=>tb (zmk K GA i ts D σ) D σ H
end
def zmx(kn:DEnds->XE->RX)(m:Nat)(q:PX)(da:DA)(i:Nat)(hd:DS):DS:=fun En δ S=>da δ S fun xs S1=>∃ ds,datas xs=some ds/\ds.length=m /\
 q (ds.map XV.d) [] (ret0 S1 (kn En δ)) fun C fs=>C∈excs/\hd { nx:=fun δ' S'=>En.nx (δ'.set i none) S',rt:=En.rt } (δ.set i (some (.x C fs))) S1
theorem RepE.unset{h o:List Addr}{H:Hp}{δ:XE}{σ:St}{i:Nat}(r:RepE h o H δ σ):RepE h o H (δ.set i none) (σ.set i none):=by
 refine⟨by simp [r.len],fun j y e=>?_⟩;rw [getElem?_set] at e ⊢;by_cases hij:i=j
 ·rw [if_pos hij] at e;split at e <;> cases e
 ·rw [if_neg hij] at e ⊢;exact r.get j y e
theorem zmC{K:W.Frag}{i m:Nat}{ps:List Str}{q:PX}{tl:TA}{dl:DA}{ts:TS}{ds:DS}{kn:DEnds->XE->RX}{kt:Ends->St->VK}{tb:XK->TS}(X0:Exs K)(hm:ps.length=m)(hkn:KnOk kn kt)(htb:∀ Ex D σ H,tb Ex D σ H=(tl σ H fun vs H1=>spX ps q vs H1 (kt D σ) Ex))(ha:RA tl dl)(hsu:RS ts ds):
  RS (zi5 K 24 i tb ts) (zmx kn m q dl i ds):=fun h o H δ σ S En D he hs d c=>by
 show tb (zmk K 24 i ts D σ) D σ H;rw [htb];refine ha h o H δ σ S _ _ he hs d fun o1 H1 S1 xs vs e1 s1 x1 ⟨es,ees,hl,d1⟩=>?_;have exs:=zbL ees;subst exs;refine⟨by rw [x1.len,length_map,hl,hm],h++o1,[],[],es.map XV.d,_,_,rep0 s1,hxs00 x1,d1,cn0 s1 (hkn h o1 H1 δ σ En D (he.mono e1) (c.pre e1)),?_⟩;intro o' H' S' C a fs e' s' hE ⟨hC,hh⟩;have EC:=X0.all C hC;obtain⟨ini,qC⟩:=X0.ci C hC;refine⟨C,a,ini,rfl,rfl,qC,(EC.mroIn _).trans (by simp [exM]),?_⟩;have sH:Same H1 H':=fun b u eb=>(e'.kp b u (by simp) eb).2;have e2:Ex o1 H1 o1 H':=Ex.of_same sH;have sv:Same (vx (h++o1) o' H') (vx h o1 H'):=fun b u eb=>by
  obtain⟨n1,n2,n3⟩:=zat.mp eb;exact zat.mpr ⟨fun z=>n1 (mem_append_left _ z),fun z=>n1 (mem_append_right _ z),n3⟩
 have cc:=c.pre (e1.trans e2);exact hsu h o1 _ (δ.set i (some (.x C fs))) (σ.set i (some (.ref a))) S1 _ _ (((he.mono e1).mono e2).set (HasE.mono sv hE)) (s1.same sH) hh ⟨fun o3 H3 δ3 S3 σ3 e3 he3 hs3 n3=>cc.nx o3 H3 _ S3 _ e3 he3.unset hs3 n3,cc.rt,fun _ _ _ _ _ _ _ _ z=>z.elim,fun _ _ _ _ _ _ _ _ z=>z.elim⟩
end
section
structure FnAt(P:Program)(w:World)(K:W.Frag)(mg:Str->Option Value)(base:Heap)(F:Addr)(ps:List Str)(k:Nat)(sp:Sp):Prop where
 ex:∃ fd,FnOk P w K mg base CX0 k F fd ps sp/\W.keepIn K (.ref F)=true/\Binds K fd ps []
def zpd(i:Nat)(F:Addr)(sp:Sp)(ta:TA):TE:=fun σ H Q=>σ[i]? = some (some (.ref F))/\zfW sp [] E0 ta σ H Q
def zjO(i:Nat)(F:Addr)(m:Nat)(q:PN)(da:DA):DE:=fun δ S R=>δ[i]? = some (some (.o (.ref F)))/\zP m q da δ S R
theorem zov{F:Addr}{i:Nat}{ps:List Str}{q:PN}{m:Nat}{t:TA}{da:DA}(ha:RA t da)(hm:ps.length=m:=by rfl):RE (zpd i F (spN ps q) t) (zjO i F m q da):=fun h o H δ σ S R Q he hs ⟨e,w⟩ c=>by
 obtain⟨v,e1,e2⟩:=he.get i _ e;have ev:v=.ref F:=e2;subst ev;exact⟨e1,zaa ha hm h o H δ σ S R Q he hs w c⟩
end
end L2
namespace HT
open PySem PyProof.Rows
section
open PySem.SeqAt
open PySem.AutoSeq1 (wpAny_loadPart')
open PySem.MeetsSeq PySem.MeetsSeq2 PySem.MeetsSeq3
theorem zfp:∀ {vs:List Value} {ns:List Int},IntsAre vs ns->∀ i,i<vs.length->∃ a t,vs[i]? = some (.int a t)/\ns.drop i=a :: ns.drop (i+1)
 | _,_,.nil,i,h=>by simp at h
 | _,_,.cons a t h,0,_=>⟨a,t,rfl,rfl⟩
 | _,_,.cons a t h,i+1,hi=>by
  obtain⟨b,u,e1,e2⟩:=zfp h i (by simpa using hi);exact⟨b,u,by simpa using e1,by simpa using e2⟩
def RcLtAt(A:Around)(s:Shared)(y x:Value)(b:Bool):Prop :=
 ∀ (prog:Program) (w:World) (E:Value->Shared->Prop) (Q:Value->Shared->Prop),Q (.bool b) s->wpAny (model prog w) A (richCompare .Lt y x) Q E s
theorem zgM:∀ ns:List Int,lexLt ns ns=false
 | []=>rfl
 | x :: xs=>by rw [lexLt_cons,if_pos rfl,zgM xs]
theorem zh5(l b:Addr)(n n2:Nat)(dd dd2:Option Addr)(sl sl2:Array (Option Value))(a c:Int)(t u:Tok)(x y:Value)(ns ms:List Int):
  Meets (Builtin.«tuple.__lt__» ⟨[.ref l,.ref b],[]⟩)
   (fun A R s=>s.heap.get? l=some { cls:=.type "tuple",dict:=dd,data:=.seq #[.int a t,x] n,slots:=sl }/\s.heap.get? b=some { cls:=.type "tuple",dict:=dd2,data:=.seq #[.int c u,y] n2,slots:=sl2 } /\
    EqAt A.in1 s x y (decide (ns=ms))/\RcLtAt A.in1 s x y (lexLt ns ms)/\R (.ok (.ret (.bool (if a=c then lexLt ns ms else decide (a<c))))) s) :=
 .of_wp fun prog w A R s h=>by
  obtain⟨hp,g,d,tk,os⟩:=s; obtain⟨hl,hb,hq,hr,h⟩:=h;have f2:=AutoSeq1.sub_tuple_tuple
  wp_walk using wpAny_loadPart' hl,wpAny_loadPart' hb,wpAny_forIn_list _ (fun rest b s'=>b.1=none/\s'=⟨hp,g,d,tk,os⟩ /\
   (rest=[(.int a t,.int c u),(x,y)]\/(rest=[(x,y)]/\R (.ok (.ret (.bool (lexLt ns ms)))) ⟨hp,g,d,tk,os⟩)\/(rest=[]/\R (.ok (.ret (.bool false))) ⟨hp,g,d,tk,os⟩))) _
  case turn =>
   rintro⟨y',x'⟩ rest b s' ⟨hb',rfl,hz | ⟨hz,hR⟩ | ⟨hz,hR⟩⟩
   ·injection hz with hyx hrest
    injection hyx with hy hx
    subst hy hx;obtain⟨e,he,hiff⟩:=zkq A.in1 ⟨hp,g,d,tk,os⟩ a t c u;refine wpAny_bind (he prog w _ _ ?_);cases e with
    | true =>
     rw [if_pos (hiff.mp rfl)] at h
     wp_walk
     exact⟨rfl,rfl,.inr (.inl ⟨hrest,h⟩)⟩
    | false =>
     rw [if_neg (fun q=>absurd (hiff.mpr q) Bool.false_ne_true)] at h;have hri:=zke A.in1 ⟨hp,g,d,tk,os⟩ a t c u prog w
     wp_walk using hri
     exact⟨_,rfl,by simpa using h⟩
   ·injection hz with hyx hrest
    injection hyx with hy hx
    subst hy hx;refine wpAny_bind (hq prog w _ _ ?_);by_cases hn:ns=ms
    ·rw [decide_eq_true hn]
     wp_walk
     exact⟨rfl,rfl,.inr (.inr ⟨hrest,by rw [hn,zgM] at hR; exact hR⟩)⟩
    ·rw [decide_eq_false hn];have hri:=hr prog w
     wp_walk using hri
     exact⟨_,rfl,by simpa using hR⟩
   ·cases hz
  case fin =>
   rintro⟨b1,b2⟩ s' ⟨hb',rfl,hz | ⟨hz,hR⟩ | ⟨hz,hR⟩⟩
   ·cases hz
   ·cases hz
   ·simp only at hb';subst hb'
    wp_walk
    exact⟨_,rfl,by simpa [Builtin.Tuple.tupleCompareSizes] using hR⟩
  case h =>
   exact⟨rfl,rfl,.inl rfl⟩
theorem zgB{vs:Array Value}{ns:List Int}(h:IntsAre vs.toList ns){i:Nat}(hi:i<vs.size):∃ a t,vs[i]=.int a t/\ns[i]? = some a:=by
 obtain⟨a,t,e,d⟩:=zfp h i (by simpa using hi);have e2:ns[i]? = some a:=by
  have:=congrArg (fun l=>l[0]?) d;simpa using this
 rw [Array.getElem?_toList,Array.getElem?_eq_getElem hi] at e;exact⟨a,t,Option.some.inj e,e2⟩
theorem zgK:∀ {vs:List Value} {ns ms:List Int},IntsAre vs ns->IntsAre vs ms->ns=ms
 | _,_,_,.nil,.nil=>rfl
 | _,_,_,.cons a t h,.cons _ _ h'=>by rw [zgK h h']
end
end HT
namespace L2
open PySem PySem.Spec PyProof.Rows
end L2
namespace L2
open PySem PySem.Spec PySem.Calls PyProof.Rows
end L2
namespace HT
open PySem PyProof.Rows
end HT
namespace L2
open PySem PySem.Spec PySem.Calls PyProof.Rows
end L2
namespace HT
open PySem PyProof.Rows
end HT
namespace L2
open PySem PySem.Spec PySem.Calls PyProof.Rows
end L2
namespace L2
open PySem PySem.Spec PyProof.Rows
section
def zmc(lo:Int)(n:Nat):List PyData:=(List.range n).map fun k:Nat=>.int (lo - k)
end
end L2
namespace L2
open PySem PyProof.Rows
section
variable {prog:Program} {w:World} {A:Around} {E:Value->Shared->Prop} {s:Shared} {kd:SortKind} {D:Keyed->Prop} {lt:Keyed->Keyed->Bool}
def flt(lt:Keyed->Keyed->Bool):Keyed->Keyed->Bool:=fun x y=>lt y x
def G(xs:Array Keyed)(i:Nat):Keyed:=(xs[i]?).getD (.none,.none)
structure Ts(kd:SortKind)(D:Keyed->Prop)(a₀:Array Keyed)(st:SortSt):Prop where
 kd:kindOf st=kd
 fl:failedOf st=none
 pm:(arrOf st).Perm a₀
 d:∀ x∈a₀.toList,D x
end
end L2
namespace L2
open PySem PySem.Spec PySem.Calls PyProof.Rows PySem.W
section
variable {X:Cx} {zh:List (Addr×Obj)} {σ:St} {H H':Hp} {s:Shared} {h':Heap}
theorem Inv.laidAll{t':Nat}(I:Inv X zh σ H s)(k:∀ b u,s.heap.get? b=some u->h'.get? b=some u)(gr:Same H H')(new:∀ b u,H' b=some u->H b=some u\/(s.heap.objs.size<=b/\ObjOk X.prog X.w H' h' b u)):Inv X zh σ H' { s with heap:=h',toks:=t' }:=by
 refine I.un ⟨fun b u q _ _ _=>k b u q,fun b u q _ _ _=>⟨u.slots,k b u q⟩,fun b u q n _=>?_,fun b u q _=>⟨u,k b u q⟩,fun b xs q=>gr b _ q,fun b u xs q=>gr b _ q,fun b ps q=>gr b _ q⟩ fun b u e=>?_
 ·cases e:H' b with
  | none=>rfl
  | some v =>
   rcases new b v e with z | ⟨z,_⟩
   ·rw [n] at z; cases z
   ·exact absurd (lt_of_lt_of_le (lt_size q) z) (lt_irrefl _)
 ·rcases new b u e with z | ⟨_,z⟩
  ·exact(I.hok b u z).stay (fun c v _ q=>k c v q) (fun c q=>gr c _ q) (fun c xs q=>gr c _ q) fun c o u q=>gr c _ q
  ·exact z
end
def zpH:List XV->Sto->RX->Prop:=fun xs S R=>arg1 xs fun x=>∃ m:List (Key×PyData),x=.d (.dict (DD.pairs (.k m)))/\∃ ns:List Int,m.map (·.1)=ns.map Sum.inl/\ns.length<=10000000/\∀ ms:List Int,ms.Perm ns->ms.Pairwise (· <= ·)->R (.d (.list (ms.map PyData.int))) S
end L2
namespace L2
open PySem PySem.Spec PyProof.Rows
end L2
namespace L2
open PySem PySem.Spec PySem.Calls PyProof.Rows
end L2
namespace L2
open PySem PySem.Spec PySem.Calls PyProof.Rows
def zsn(j:Nat)(dk dv:DM->DE):DSm:=fun En δ S M=>zj j δ S fun y S1=>∃ a m,y=.o (.ref a)/\(a,DD.k m)∈M/\dk M δ S1 fun z S2=>dv M δ S2 fun x S3=>asD z fun k=>asD x fun d=>∃ kk,zuP k=some kk/\m.length<1000/\if (lkA m kk).isSome=true then En.nx δ S3 M else En.nx δ S3 (zuR M a (.k (ptA m kk d)))
def zo7(k:Int)(e:DE):DE:=fun δ S R=>e δ S fun x S1=>asD x fun d=>R (.d (.dict [(.int k,d)])) S1
end L2
namespace L2
open PySem PySem.Spec PySem.Calls PyProof.Rows
end L2
namespace L2
open PySem PySem.Spec PyProof.Rows
section
section
variable {X:Cx} {es l:List Expr} {te tk tv:TE} {t:TA} {p pos':Pos} {ks:List (Option Expr)} {e k v:Expr} {x:Str} {ps:List Str} {j:Nat}
theorem zmL{q:PN}{n:Nat}(D:Df X.prog X.w X.K X.mg X.base x ps n (spN ps q))(hr:Room j X.A)(hk:n<=j)(ha:QA X (e :: es) t)(hg:Gl X x:=by rfl)(hdb:(x == ("__debug__":Str))=false:=by decide)
  (q1:starEach (e :: es) X.env=(false,eval e X.env) :: starEach es X.env:=by rfl) (q2:((backTo p (starEach es X.env)).any fun x=>x.fst)=false:=by rfl):PE X (.Call (.Name x pos') (e :: es) [] p) (zfW (spN ps q) [] E0 t):=zq D hr hk ha.out hg hdb q1 q2
end
end
end L2
namespace L2
theorem len0{α:Type}{l:List α}(h:l.length=0):l=[]:=eq_nil_of_length_eq_zero h
theorem len1{α:Type}{l:List α}(h:l.length=1):∃ a0,l=[a0]:=by
 cases l with
 | nil=>cases h
 | cons x r =>
  obtain rfl:=len0 (Nat.succ.inj h);exact⟨x,rfl⟩
theorem len2{α:Type}{l:List α}(h:l.length=2):∃ a0 a1,l=[a0,a1]:=by
 cases l with
 | nil=>cases h
 | cons x r =>
  obtain⟨a1,rfl⟩:=len1 (Nat.succ.inj h);exact⟨x,a1,rfl⟩
theorem len3{α:Type}{l:List α}(h:l.length=3):∃ a0 a1 a2,l=[a0,a1,a2]:=by
 cases l with
 | nil=>cases h
 | cons x r =>
  obtain⟨a1,a2,rfl⟩:=len2 (Nat.succ.inj h);exact⟨x,a1,a2,rfl⟩
theorem len4{α:Type}{l:List α}(h:l.length=4):∃ a0 a1 a2 a3,l=[a0,a1,a2,a3]:=by
 cases l with
 | nil=>cases h
 | cons x r =>
  obtain⟨a1,a2,a3,rfl⟩:=len3 (Nat.succ.inj h);exact⟨x,a1,a2,a3,rfl⟩
theorem len5{α:Type}{l:List α}(h:l.length=5):∃ a0 a1 a2 a3 a4,l=[a0,a1,a2,a3,a4]:=by
 cases l with
 | nil=>cases h
 | cons x r =>
  obtain⟨a1,a2,a3,a4,rfl⟩:=len4 (Nat.succ.inj h);exact⟨x,a1,a2,a3,a4,rfl⟩
end L2
namespace L2
open PySem PySem.Spec PyProof.Rows
section
theorem zn7{K:W.Frag}{i:Nat}{tc:TT}{t u:XK->TS}{ts:TS}{dc:DT}{d1 d2:DS}(hc:RT tc dc)(h1:RS (zi5 K 24 i t ts) d1)(h2:RS (zi5 K 24 i u ts) d2):RS (zi5 K 24 i (fun Ex=>zqg tc (t Ex) (u Ex)) ts) (zcI dc d1 d2):=fun h o H δ σ S E D he hs q c =>
 (show RS (zqg tc (zi5 K 24 i t ts) (zi5 K 24 i u ts)) (zcI dc d1 d2) from zfM hc h1 h2) h o H δ σ S E D he hs q c
end
end L2
namespace L2
open PySem PySem.Spec PySem.Calls PyProof.Rows
open Sem (wp)
abbrev IsZipO (h:Heap) (z p r a:Addr) (f:Bool):Prop :=
 h.get? z=some { cls:=.type "zip",dict:=none,data:=.fields #[rawInt a,.bool f,.bool false,.ref p,.ref r],slots:=#[] }
section
variable {prog:Program} {w:World} {A:Around} {E:Value->Shared->Prop} {s:Shared}
theorem zme{t u:Bool}{z p r i j a b a0:Addr}{f:Bool}{oa:Obj}{k m:Nat}{xs ys:Array Value}{x y:Value}{Q:Value->Shared->Prop}(D:ZAp z p r i j a b)(hz:IsZipO s.heap z p r a0 f)(h0:s.heap.get? a0=some oa)(n0:a0≠z)(hp:IsPair s.heap p (.ref i) (.ref j))
  (hi:ItK t s.heap i a k) (hj:ItK u s.heap j b m) (ha:SqK t s.heap a xs) (hb:SqK u s.heap b ys) (hx:xs[k]? = some x) (hy:ys[m]? = some y)
  (hQ:∀ g,IsZipO g z p r a0 true->ItK t g i a (k+1)->ItK u g j b (m+1)->IsPair g s.heap.objs.size x y ->
   (∀ q o,q≠z->q≠i->q≠j->s.heap.get? q=some o->g.get? q=some o)->Q (.ref s.heap.objs.size) { s with heap:=g }) :
  wpAny (model prog w) A (Builtin.«zip.__next__» ⟨[.ref z],[]⟩) (fun fn s'=>∃ v,fn=.done (.ret v)/\Q v s') E s:=by
 obtain⟨h0',gs,dr,tk,os⟩:=s;show wpAny _ _ (field (.ref z) 2 >>= _) _ _ ⟨h0',gs,dr,tk,os⟩;refine wpAny_bind (wpAny_field hz rfl (x:=.bool false) rfl ?_);show wpAny _ _ (field (.ref z) 3 >>= _) _ _ ⟨h0',gs,dr,tk,os⟩;refine wpAny_bind (wpAny_field hz rfl (x:=.ref p) rfl (wpAny_bind (wpAny_seqItems hp rfl ?_)));show wpAny _ _ (Builtin.SmallTypes.ownedTupleIsFree (.ref z) >>= _) _ _ ⟨h0',gs,dr,tk,os⟩;refine wpAny_bind ?_;unfold Builtin.SmallTypes.ownedTupleIsFree;refine wpAny_bind (wpAny_field hz rfl (x:=rawInt a0) rfl ?_);show wpAny _ _ (loadIfAlive ((a0:Int).toNat) >>= _) _ _ _;rw [Int.toNat_natCast];refine wpAny_bind (W.kdx_alive h0 ?_);simp only [Option.isNone_some,Bool.false_eq_true,if_false];refine wpAny_bind (wpAny_field hz rfl (x:=.bool f) rfl ?_);have fin:∀ g1:Heap,IsZipO g1 z p r a0 true->Heap.SameBut z h0' g1->∀ {F:Value->Option PySem.Fin×Array Value->Sem (ForInStep (Option PySem.Fin×Array Value))} {G:Option PySem.Fin×Array Value->Sem PySem.Fin},
   (∀ (it:Value) (acc:Array Value) (R:ForInStep (Option PySem.Fin×Array Value)->Shared->Prop) (s1:Shared),wpAny (model prog w) A (Builtin.SmallTypes.nextOf it) (fun v s2=>R (.yield (none,acc.push v)) s2) E s1->wpAny (model prog w) A (F it (none,acc)) R E s1) ->
   (∀ acc,G (none,acc)=(newTuple acc.toList >>= fun v=>ret v)) ->
   wpAny (model prog w) A (forIn (#[.ref i,.ref j]:Array Value) (none,#[]) F >>= G) (fun fn s'=>∃ v,fn=.done (.ret v)/\Q v s') E ⟨g1,gs,dr,tk,os⟩:=fun g1 z1 b1 F G hF hG=>by
  refine wpAny_bind ?_;rw [show (#[.ref i,.ref j]:Array Value)=[.ref i,.ref j].toArray from rfl,List.forIn_toArray];simp only [forIn_cons,forIn_nil];refine wpAny_bind (hF _ _ _ _ ?_);refine zkR (s:=⟨g1,gs,dr,tk,os⟩) (hi.at fun o e=>b1.extBut i o D.iz e) (ha.at fun o e=>b1.extBut a o D.az e) hx fun g2 i2 b2=>?_;replace b2:Heap.SameBut i g1 g2:=b2;refine wpAny_bind (hF _ _ _ _ ?_);have k2:∀ q o,q≠z->q≠i->h0'.get? q=some o->g2.get? q=some o:=fun q o n1 n2 e=>b2.extBut q o n2 (b1.extBut q o n1 e);refine zkR (s:=⟨g2,gs,dr,tk,os⟩) (hj.at fun o e=>k2 j o D.jz (Ne.symm D.ij) e) (hb.at fun o e=>k2 b o D.bz D.bi e) hy fun g3 j3 b3=>?_;replace b3:Heap.SameBut j g2 g3:=b3;refine wpAny_pure ?_;rw [hG];refine wpAny_bind (wpAny_newTuple (wpAny_pure ⟨_,rfl,?_⟩) (by show 2<=sizeLine; decide));have sz:g3.objs.size=h0'.objs.size:=by rw [b3.1,b2.1,b1.1]
  have k3:∀ q o,q≠z->q≠i->q≠j->h0'.get? q=some o->g3.get? q=some o:=fun q o n1 n2 n3 e=>b3.extBut q o n3 (k2 q o n1 n2 e);have z3:IsZipO g3 z p r a0 true:=b3.extBut z _ (Ne.symm D.jz) (b2.extBut z _ (Ne.symm D.iz) z1);have i3:ItK t g3 i a (k+1):=ItK.at i2 fun o e=>b3.extBut i o D.ij e;show Q (.ref g3.objs.size) _;have nw:=get?_push_size g3 (o:={ cls:=.type "tuple",data:=.seq #[x,y] }) rfl;rw [sz] at nw ⊢;exact hQ (g3.push { cls:=.type "tuple",data:=.seq #[x,y] }) (get?_push_of_some _ z3) (i3.at fun o e=>get?_push_of_some _ e) (ItK.at j3 fun o e=>get?_push_of_some _ e) nw fun q o n1 n2 n3 e=>get?_push_of_some _ (k3 q o n1 n2 n3 e)
 have tail:∀ g1:Heap,IsZipO g1 z p r a0 true->Heap.SameBut z h0' g1->∀ {M:Sem PySem.Fin},(∃ F G,M=(forIn (#[.ref i,.ref j]:Array Value) (none,#[]) F >>= G) /\
   (∀ (it:Value) (acc:Array Value) (R:ForInStep (Option PySem.Fin×Array Value)->Shared->Prop) (s1:Shared),wpAny (model prog w) A (Builtin.SmallTypes.nextOf it) (fun v s2=>R (.yield (none,acc.push v)) s2) E s1->wpAny (model prog w) A (F it (none,acc)) R E s1) /\
   (∀ acc,G (none,acc)=(newTuple acc.toList >>= fun v=>ret v)))->wpAny (model prog w) A M (fun fn s'=>∃ v,fn=.done (.ret v)/\Q v s') E ⟨g1,gs,dr,tk,os⟩:=fun g1 z1 b1 M ⟨F,G,e,hF,hG⟩=>by
  rw [e]; exact fin g1 z1 b1 hF hG
 cases f with
 | true =>
  rw [if_neg (show ¬ ((Value.bool true != Value.bool true)=true) from Bool.false_ne_true)];refine wpAny_pure ?_;simp only [Bool.false_eq_true,if_false];refine tail h0' hz (Heap.SameBut.refl _ _) ⟨_,_,rfl,fun it acc R s1 h=>?_,fun acc=>rfl⟩;refine wpAny_bind (wpAny_holding ?_);show wpAny _ _ (Builtin.SmallTypes.nextOf it >>= _) _ _ _;exact wpAny_bind (wpAny_mono h (fun v s2 q=>wpAny_pure (wpAny_pure q)) fun _ _ z=>z)
 | false =>
  rw [if_pos (show (Value.bool false != Value.bool true)=true from rfl)];refine wpAny_bind (wpAny_setField_rec hz (by simp) fun g1 z1 b1=>?_);refine wpAny_pure ?_;simp only [Bool.false_eq_true,if_false];refine tail g1 z1 b1 ⟨_,_,rfl,fun it acc R s1 h=>?_,fun acc=>rfl⟩;refine wpAny_bind (wpAny_holding ?_);show wpAny _ _ (Builtin.SmallTypes.nextOf it >>= _) _ _ _;exact wpAny_bind (wpAny_mono h (fun v s2 q=>wpAny_pure (wpAny_pure q)) fun _ _ z=>z)
theorem zmf{t u:Bool}{z p r i j a b a0:Addr}{f:Bool}{oa:Obj}{k m:Nat}{xs ys:Array Value}{Q:PySem.Fin->Shared->Prop}(hh:A.handled=none)(D:ZAp z p r i j a b)(hz:IsZipO s.heap z p r a0 f)(h0:s.heap.get? a0=some oa)(hp:IsPair s.heap p (.ref i) (.ref j))
  (hi:ItK t s.heap i a k) (hj:ItK u s.heap j b m) (ha:SqK t s.heap a xs) (hb:SqK u s.heap b ys) (hend:xs[k]? = none\/ys[m]? = none)
  (hE:∀ g e,(∀ q o,q≠z->q≠i->q≠j->s.heap.get? q=some o->g.get? q=some o)->(∃ o,g.get? e=some o/\o.cls=.type "StopIteration")->E (.ref e) { s with heap:=g }) :
  wpAny (model prog w) A (Builtin.«zip.__next__» ⟨[.ref z],[]⟩) Q E s:=by
 obtain⟨h0',gs,dr,tk,os⟩:=s;show wpAny _ _ (field (.ref z) 2 >>= _) _ _ ⟨h0',gs,dr,tk,os⟩;refine wpAny_bind (wpAny_field hz rfl (x:=.bool false) rfl ?_);show wpAny _ _ (field (.ref z) 3 >>= _) _ _ ⟨h0',gs,dr,tk,os⟩;refine wpAny_bind (wpAny_field hz rfl (x:=.ref p) rfl (wpAny_bind (wpAny_seqItems hp rfl ?_)));show wpAny _ _ (Builtin.SmallTypes.ownedTupleIsFree (.ref z) >>= _) _ _ ⟨h0',gs,dr,tk,os⟩;refine wpAny_bind ?_;unfold Builtin.SmallTypes.ownedTupleIsFree;refine wpAny_bind (wpAny_field hz rfl (x:=rawInt a0) rfl ?_);show wpAny _ _ (loadIfAlive ((a0:Int).toNat) >>= _) _ _ _;rw [Int.toNat_natCast];refine wpAny_bind (W.kdx_alive h0 ?_);simp only [Option.isNone_some,Bool.false_eq_true,if_false];refine wpAny_bind (wpAny_field hz rfl (x:=.bool f) rfl ?_);have tail:∀ g1:Heap,IsZipO g1 z p r a0 true->Heap.SameBut z h0' g1->∀ {M:Sem PySem.Fin},(∃ (F:Value->Option PySem.Fin×Array Value->Sem (ForInStep (Option PySem.Fin×Array Value))) (G:Option PySem.Fin×Array Value->Sem PySem.Fin),M=(forIn (#[.ref i,.ref j]:Array Value) (none,#[]) F >>= G) /\
   (∀ (it:Value) (acc:Array Value) (R:ForInStep (Option PySem.Fin×Array Value)->Shared->Prop) (s1:Shared),wpAny (model prog w) A (Builtin.SmallTypes.nextOf it) (fun v s2=>R (.yield (none,acc.push v)) s2) E s1->wpAny (model prog w) A (F it (none,acc)) R E s1))->wpAny (model prog w) A M Q E ⟨g1,gs,dr,tk,os⟩:=fun g1 z1 b1 M ⟨F,G,e,hF⟩=>by
  rw [e];refine wpAny_bind ?_;rw [show (#[.ref i,.ref j]:Array Value)=[.ref i,.ref j].toArray from rfl,List.forIn_toArray];simp only [forIn_cons,forIn_nil];refine wpAny_bind (hF _ _ _ _ ?_);cases hx:xs[k]? with
  | none =>
   refine zdY (s:=⟨g1,gs,dr,tk,os⟩) hh (hi.at fun o e=>b1.extBut i o D.iz e) (ha.at fun o e=>b1.extBut a o D.az e) hx fun g2 e b2 he=>?_;exact hE g2 e (fun q o n1 n2 _ e=>b2 q o n2 (b1.extBut q o n1 e)) he
  | some x =>
   have hy:ys[m]? = none:=hend.elim (fun w=>by rw [hx] at w; cases w) id;refine zkR (s:=⟨g1,gs,dr,tk,os⟩) (hi.at fun o e=>b1.extBut i o D.iz e) (ha.at fun o e=>b1.extBut a o D.az e) hx fun g2 i2 b2=>?_;replace b2:Heap.SameBut i g1 g2:=b2;refine wpAny_bind (hF _ _ _ _ ?_);have k2:∀ q o,q≠z->q≠i->h0'.get? q=some o->g2.get? q=some o:=fun q o n1 n2 e=>b2.extBut q o n2 (b1.extBut q o n1 e);refine zdY (s:=⟨g2,gs,dr,tk,os⟩) hh (hj.at fun o e=>k2 j o D.jz (Ne.symm D.ij) e) (hb.at fun o e=>k2 b o D.bz D.bi e) hy fun g3 e b3 he=>?_;exact hE g3 e (fun q o n1 n2 n3 e=>b3 q o n3 (k2 q o n1 n2 e)) he
 cases f with
 | true =>
  rw [if_neg (show ¬ ((Value.bool true != Value.bool true)=true) from Bool.false_ne_true)];refine wpAny_pure ?_;simp only [Bool.false_eq_true,if_false];refine tail h0' hz (Heap.SameBut.refl _ _) ⟨_,_,rfl,fun it acc R s1 h=>?_⟩;refine wpAny_bind (wpAny_holding ?_);show wpAny _ _ (Builtin.SmallTypes.nextOf it >>= _) _ _ _;exact wpAny_bind (wpAny_mono h (fun v s2 q=>wpAny_pure (wpAny_pure q)) fun _ _ z=>z)
 | false =>
  rw [if_pos (show (Value.bool false != Value.bool true)=true from rfl)];refine wpAny_bind (wpAny_setField_rec hz (by simp) fun g1 z1 b1=>?_);refine wpAny_pure ?_;simp only [Bool.false_eq_true,if_false];refine tail g1 z1 b1 ⟨_,_,rfl,fun it acc R s1 h=>?_⟩;refine wpAny_bind (wpAny_holding ?_);show wpAny _ _ (Builtin.SmallTypes.nextOf it >>= _) _ _ _;exact wpAny_bind (wpAny_mono h (fun v s2 q=>wpAny_pure (wpAny_pure q)) fun _ _ z=>z)
structure ZS(h:Heap)(t u:Bool)(z p r i j a b:Addr)(xs ys:Array Value)(k:Nat):Prop where
 z:IsZip h z p r .none\/∃ a0 f oa,IsZipO h z p r a0 f/\h.get? a0=some oa/\a0≠z/\a0≠r/\a0≠i/\a0≠j
 p:IsPair h p (.ref i) (.ref j)
 r:∃ c d,IsPair h r c d
 i:ItK t h i a k
 j:ItK u h j b k
 a:SqK t h a xs
 b:SqK u h b ys
theorem ZS.ty{t u:Bool}{z p r i j a b:Addr}{xs ys:Array Value}{k:Nat}(Z:ZS s.heap t u z p r i j a b xs ys k):s.TypeIs (.ref z) "zip":=by
 rcases Z.z with q | ⟨_,_,_,q,_⟩
 ·exact⟨_,q,rfl⟩
 ·exact⟨_,q,rfl⟩
theorem ZS.keep{h h':Heap}{t u:Bool}{z p r i j a b:Addr}{xs ys:Array Value}{k:Nat}(Z:ZS h t u z p r i j a b xs ys k)(S:Addr)(hS:S≠z/\S≠p/\S≠r/\S≠i/\S≠j/\S≠a/\S≠b)(f:∀ q o,q≠S->h.get? q=some o->h'.get? q=some o)(f0:∀ o,h.get? S=some o->∃ o',h'.get? S=some o'):ZS h' t u z p r i j a b xs ys k:=by
 obtain⟨s1,s2,s3,s4,s5,s6,s7⟩:=hS;refine⟨?_,f _ _ s2.symm Z.p,let ⟨c,d,q⟩:=Z.r; ⟨c,d,f _ _ s3.symm q⟩,Z.i.at fun o e=>f _ _ s4.symm e,Z.j.at fun o e=>f _ _ s5.symm e,Z.a.at fun o e=>f _ _ s6.symm e,Z.b.at fun o e=>f _ _ s7.symm e⟩;rcases Z.z with q | ⟨a0,g,oa,q,e,n⟩
 ·exact .inl (f _ _ s1.symm q)
 ·by_cases w:a0=S
  ·obtain⟨o',e'⟩:=f0 oa (by rw [<- w]; exact e);exact .inr ⟨a0,g,o',f _ _ s1.symm q,by rw [w]; exact e',n⟩
  ·exact .inr ⟨a0,g,oa,f _ _ s1.symm q,f _ _ w e,n⟩
theorem zqZ{t u:Bool}{z p r i j a b:Addr}{k:Nat}{xs ys:Array Value}{x y:Value}{Q:Option Value->Shared->Prop}(D:ZAp z p r i j a b)(Z:ZS s.heap t u z p r i j a b xs ys k)(hx:xs[k]? = some x)(hy:ys[k]? = some y)
  (hQ:∀ g,ZS g t u z p r i j a b xs ys (k+1)->IsPair g s.heap.objs.size x y->(∀ q o,q≠z->q≠r->q≠i->q≠j->s.heap.get? q=some o->g.get? q=some o)->Q (some (.ref s.heap.objs.size)) { s with heap:=g }) :
  wpAny (model prog w) A (pyNext (.ref z)) Q E s:=by
 obtain⟨c,d,hr⟩:=Z.r;obtain⟨oi,ei,_⟩:=Z.i.here;obtain⟨oj,ej,_⟩:=Z.j.here;obtain⟨oz,ez,_⟩:=Z.ty;have lt:∀ {q o},s.heap.get? q=some o->s.heap.objs.size≠q:=fun e=>ne_of_gt (lt_size e);have go:∀ g,(∃ a0 f oa,IsZipO g z p r a0 f/\g.get? a0=some oa/\a0≠z/\a0≠r/\a0≠i/\a0≠j)->(∃ c d,IsPair g r c d)->ItK t g i a (k+1)->ItK u g j b (k+1)->IsPair g s.heap.objs.size x y->(∀ q o,q≠z->q≠r->q≠i->q≠j->s.heap.get? q=some o->g.get? q=some o)->Q (some (.ref s.heap.objs.size)) { s with heap:=g }:=fun g q1 q2 q3 q4 q5 kk =>
  hQ g ⟨.inr q1,kk p _ D.pz D.pr D.pi D.pj Z.p,q2,q3,q4,Z.a.at fun o e=>kk a o D.az D.ar D.ai D.aj e,Z.b.at fun o e=>kk b o D.bz D.br D.bi D.bj e⟩ q5 kk
 unfold pyNext;refine wpAny_bind (wpAny_attempt (wpAny_callSpecial?_slot (name:=Str.ofString "__next__") Z.ty F.slot_zip_next (wpAny_call_entry F.slot_zip_next Z.ty F.entry_zip_next ?_ (F.args_zip_next_1 _))));rcases Z.z with q | ⟨a0,f,oa,q,e,n1,n2,n3,n4⟩
 ·refine zir D q Z.p hr Z.i Z.j Z.a Z.b hx hy fun g a1 a2 a3 a4 a5 kk=>wpAny_pure ?_;exact go g ⟨_,false,_,a1,a5,lt q,lt hr,lt ei,lt ej⟩ ⟨_,_,a2⟩ a3 a4 a5 kk
 ·refine zme D q e n1 Z.p Z.i Z.j Z.a Z.b hx hy fun g a1 a3 a4 a5 kk=>wpAny_pure ?_;exact go g ⟨a0,true,oa,a1,kk a0 oa n1 n3 n4 e,n1,n2,n3,n4⟩ ⟨c,d,kk r _ D.rz D.ri D.rj hr⟩ a3 a4 a5 fun q o w1 _ w3 w4 e=>kk q o w1 w3 w4 e
theorem zq3{t u:Bool}{z p r i j a b:Addr}{k:Nat}{xs ys:Array Value}{Q:Option Value->Shared->Prop}(hh:A.handled=none)(D:ZAp z p r i j a b)(Z:ZS s.heap t u z p r i j a b xs ys k)(hend:xs[k]? = none\/ys[k]? = none)
  (hQ:∀ g,(∀ q o,q≠z->q≠r->q≠i->q≠j->s.heap.get? q=some o->g.get? q=some o)->Q none { s with heap:=g }) :
  wpAny (model prog w) A (pyNext (.ref z)) Q E s:=by
 obtain⟨c,d,hr⟩:=Z.r;unfold pyNext;refine wpAny_bind (wpAny_attempt (wpAny_callSpecial?_slot (name:=Str.ofString "__next__") Z.ty F.slot_zip_next (wpAny_call_entry F.slot_zip_next Z.ty F.entry_zip_next ?_ (F.args_zip_next_1 _))));rcases Z.z with q | ⟨a0,f,oa,q,e,n1,n2,n3,n4⟩
 ·refine zi0 hh D q Z.p hr Z.i Z.j Z.a Z.b hend fun g e kk he=>?_;obtain⟨o,ho,hc'⟩:=he;exact wpAny_bind (wpAny_isInstance (T:="StopIteration") (b:=true) ⟨o,ho,hc'⟩ isSubtype_stop (wpAny_pure (hQ g kk)))
 ·refine zmf hh D q e Z.p Z.i Z.j Z.a Z.b hend fun g e kk he=>?_;obtain⟨o,ho,hc'⟩:=he;exact wpAny_bind (wpAny_isInstance (T:="StopIteration") (b:=true) ⟨o,ho,hc'⟩ isSubtype_stop (wpAny_pure (hQ g fun q o w1 _ w3 w4 e=>kk q o w1 w3 w4 e)))
def ZPs(h:Heap)(xs ys:Array Value)(Ts:List Addr)(N0:Nat):Prop:=∀ (l:Nat) (T:Addr),Ts[l]? = some T->N0<=T/\∃ x y,xs[l]? = some x/\ys[l]? = some y/\IsPair h T x y
theorem zq4{R:Result->Shared->Prop}{t u:Bool}{z p r i j a b S:Addr}{xs ys:Array Value}{N0 n:Nat}(hh:A.handled=none)(D:ZAp z p r i j a b)(hS:S≠z/\S≠p/\S≠r/\S≠i/\S≠j/\S≠a/\S≠b)(hn:n=min xs.size ys.size)(hz:n<=sizeLine)
  (l1:z<N0) (l2:r<N0) (l3:i<N0) (l4:j<N0) (l5:S<N0) (res:Value) :
  ∀ (k m:Nat) (s:Shared) (Ts:List Addr) (c:Nat),n - m=k->m<=n->N0<=s.heap.objs.size->ZS s.heap t u z p r i j a b xs ys m->s.heap.get? S=some { cls:=.type "list",dict:=none,data:=.seq (Ts.map Value.ref).toArray c,slots:=#[] }->Ts.length=m->ZPs s.heap xs ys Ts N0->Ts.Nodup ->
  (∀ h' Ts' c',(∀ q o,q≠z->q≠r->q≠i->q≠j->q≠S->s.heap.get? q=some o->h'.get? q=some o)->h'.get? S=some { cls:=.type "list",dict:=none,data:=.seq (Ts'.map Value.ref).toArray c',slots:=#[] }->Ts'.length=n->ZPs h' xs ys Ts' N0->Ts'.Nodup->R (.ok (.ret res)) { s with heap:=h' }) ->
  codeAny (model prog w) A (.builtin "list.extend.loop" ⟨[.ref S,.ref z,res],[]⟩) R s:=by
 obtain⟨s1,s2,s3,s4,s5,s6,s7⟩:=id hS;have ap:∀ {T:Addr},N0<=T->T≠z/\T≠r/\T≠i/\T≠j/\T≠S:=fun {T} h=>⟨ne_of_gt (lt_of_lt_of_le l1 h),ne_of_gt (lt_of_lt_of_le l2 h),ne_of_gt (lt_of_lt_of_le l3 h),ne_of_gt (lt_of_lt_of_le l4 h),ne_of_gt (lt_of_lt_of_le l5 h)⟩;have zps:∀ {h h':Heap} {Ts:List Addr},ZPs h xs ys Ts N0->(∀ q o,q≠z->q≠r->q≠i->q≠j->q≠S->h.get? q=some o->h'.get? q=some o)->ZPs h' xs ys Ts N0:=fun {h h' Ts} Z f l T e=>by
  obtain⟨g,x,y,e1,e2,e3⟩:=Z l T e;obtain⟨w1,w2,w3,w4,w5⟩:=ap g;exact⟨g,x,y,e1,e2,f _ _ w1 w2 w3 w4 w5 e3⟩
 intro k;induction k with
 | zero =>
  intro m s Ts c hk hm hN Z hL hl hP hD hR;have e:m=n:=by omega
  refine codeAny_builtin F.entry_extend_loop ?_;rw [Around.under_plainId F.plain_extend_loop _];show wpAny _ A.in1 (pyNext (.ref z) >>= _) _ _ s;refine wpAny_bind (zq3 (A:=A.in1) hh D Z ?_ fun g kk=>?_)
  ·rcases Nat.le_total xs.size ys.size with w | w
   ·exact .inl (by simp; omega)
   ·exact .inr (by simp; omega)
  ·exact wpAny_pure (hR g Ts c (fun q o w1 w2 w3 w4 _ e=>kk q o w1 w2 w3 w4 e) (kk S _ s1 s3 s4 s5 hL) (by omega) (zps hP fun q o w1 w2 w3 w4 _ e=>kk q o w1 w2 w3 w4 e) hD)
 | succ k ih =>
  intro m s Ts c hk hm hN Z hL hl hP hD hR;have hx:xs[m]? = some xs[m]:=Array.getElem?_eq_getElem (by omega);have hy:ys[m]? = some ys[m]:=Array.getElem?_eq_getElem (by omega);refine codeAny_builtin F.entry_extend_loop ?_;rw [Around.under_plainId F.plain_extend_loop _];show wpAny _ A.in1 (pyNext (.ref z) >>= _) _ _ s;refine wpAny_bind (zqZ (A:=A.in1) D Z hx hy fun g Z' pT kk=>?_);have hL':=kk S _ s1 s3 s4 s5 hL;show wpAny _ A.in1 (updateSeq S (·.push (.ref s.heap.objs.size)) >>= _) _ _ _;refine wpAny_bind ?_;have oth:∀ q o,q≠S->g.get? q=some o->(g.update S (Obj.mapSeq (·.push (.ref s.heap.objs.size)))).get? q=some o:=fun q o w e=>(get?_update_other _ _ (Ne.symm w)).trans e;have up:=get?_update_self (Obj.mapSeq (·.push (Value.ref s.heap.objs.size))) hL' rfl;have ea:(Ts.map Value.ref).toArray.push (Value.ref s.heap.objs.size)=((Ts++[s.heap.objs.size]).map Value.ref).toArray:=by simp
  obtain⟨c2,hL2⟩:∃ c2,(g.update S (Obj.mapSeq (·.push (.ref s.heap.objs.size)))).get? S=some { cls:=.type "list",dict:=none,data:=.seq ((Ts++[s.heap.objs.size]).map Value.ref).toArray c2,slots:=#[] }:=by
   rw [<- ea];exact⟨_,up⟩
  have gsz:s.heap.objs.size<=g.objs.size:=le_of_lt (lt_size pT);refine wpAny_updateSeq hL' rfl (wpAny_pure ⟨plainId_quiet F.plain_extend_loop _,ih (m+1) { s with heap:=g.update S (Obj.mapSeq (·.push (.ref s.heap.objs.size))) } (Ts++[s.heap.objs.size]) c2 (by omega) (by omega) ?_ (Z'.keep S hS (fun q o w e=>oth q o w e) fun o e=>⟨_,up⟩) hL2 (by simp [hl]) (fun l T e=>?_) (zcw hD fun hm=>?_) fun h' Ts' c' f1 f2 f3 f4 f5=>?_⟩)
   (by simp [hl]; omega) (by simp [hl]; omega)
  ·show N0<=(g.update S _).objs.size;rw [size_update];omega
  ·rcases lt_or_ge l Ts.length with w | w
   ·rw [getElem?_append_left w] at e;obtain⟨g1,x,y,e1,e2,e3⟩:=hP l T e;obtain⟨w1,w2,w3,w4,w5⟩:=ap g1;exact⟨g1,x,y,e1,e2,oth _ _ w5 (kk _ _ w1 w2 w3 w4 e3)⟩
   ·rw [getElem?_append_right w] at e;have w2:l - Ts.length=0:=by
     rcases Nat.eq_zero_or_pos (l - Ts.length) with w | w
     ·exact w
     ·rw [List.getElem?_eq_none (by simp; omega)] at e; cases e
    have el:l=m:=by omega
    rw [w2] at e;have eT:s.heap.objs.size=T:=by simpa using e
    subst eT;subst el;exact⟨hN,_,_,hx,hy,oth _ _ (ap hN).2.2.2.2 pT⟩
  ·obtain⟨l,e⟩:=List.getElem?_of_mem hm;obtain⟨_,_,_,_,_,e3⟩:=hP l _ e;exact absurd (lt_size e3) (lt_irrefl _)
  ·exact hR h' Ts' c' (fun q o w1 w2 w3 w4 w5 e=>f1 q o w1 w2 w3 w4 w5 (oth q o w5 (kk q o w1 w2 w3 w4 e))) f2 f3 f4 f5
theorem zoe{z:Addr}{Q:Bool->Shared->Prop}(hT:s.TypeIs (.ref z) "zip")(h:Q true s):wpAny (model prog w) A (Builtin.List.listLengthHint (.ref z)) Q E s:=by
 unfold Builtin.List.listLengthHint;refine wpAny_bind (wpAny_specialOf hT (r:=none) (by rw [typeLookup_type,builtinLookup_eq_fast]; kernel_rfl) ?_);refine wpAny_ite_split (fun hab=>absurd hab dz) (fun _=>?_);refine wpAny_ite_split (fun hab=>absurd hab dz) (fun _=>?_);refine wpAny_bind (wpAny_specialOf hT (r:=none) (by rw [typeLookup_type,builtinLookup_eq_fast]; kernel_rfl) ?_);exact wpAny_pure h
theorem zg5{t u:Bool}{z p r i j a b:Addr}{xs ys:Array Value}{n:Nat}{Q:Value->Shared->Prop}(hh:A.handled=none)(D:ZAp z p r i j a b)(hn:n=min xs.size ys.size)(hz:n<=sizeLine)(Z:ZS s.heap t u z p r i j a b xs ys 0)
  (hQ:∀ h' Ts c',(∀ q o,q≠z->q≠r->q≠i->q≠j->s.heap.get? q=some o->h'.get? q=some o)->h'.get? s.heap.objs.size=some { cls:=.type "list",dict:=none,data:=.seq (Ts.map Value.ref).toArray c',slots:=#[] }->Ts.length=n->ZPs h' xs ys Ts (s.heap.objs.size+1)->Ts.Nodup->Q (.ref s.heap.objs.size) { s with heap:=h' }) :
  wpAny (model prog w) A (call (.type "list") [.ref z]) Q E s:=by
 refine callType_codes (Q₁:=fun obj s₁=>obj=.ref s.heap.objs.size/\s₁ = { s with heap:=s.heap.push { cls:=.type "list",data:=.seq #[] } }) PySem.F.called_list (PySem.F.typeCall_list_1 _) PySem.F.entry_list_init
  (code_list_new _ ⟨rfl,rfl⟩) fun obj s₁ h₁=>?_
 obtain⟨rfl,rfl⟩:=h₁;have hS:(s.heap.push { cls:=.type "list",data:=.seq #[] }).get? s.heap.objs.size=some { cls:=.type "list",data:=.seq #[] }:=get?_push_size _ rfl;obtain⟨oi,ei,_⟩:=Z.i.here;obtain⟨oj,ej,_⟩:=Z.j.here;obtain⟨oz,ez,_⟩:=Z.ty;obtain⟨oa,ea⟩:=Z.a.here;obtain⟨ob,eb⟩:=Z.b.here;obtain⟨cr,dr,er⟩:=Z.r;have lt:∀ {q o},s.heap.get? q=some o->s.heap.objs.size≠q:=fun e=>ne_of_gt (lt_size e);have hSs:s.heap.objs.size≠z/\s.heap.objs.size≠p/\s.heap.objs.size≠r/\s.heap.objs.size≠i/\s.heap.objs.size≠j/\s.heap.objs.size≠a/\s.heap.objs.size≠b:=⟨lt ez,lt Z.p,lt er,lt ei,lt ej,lt ea,lt eb⟩;refine⟨⟨_,hS,rfl⟩,PySem.F.args_list_init_2 _ _,?_⟩;have Z1:ZS (s.heap.push { cls:=.type "list",data:=.seq #[] }) t u z p r i j a b xs ys 0:=Z.keep s.heap.objs.size hSs (fun q o _ e=>get?_push_of_some _ e) fun o e=>⟨o,get?_push_of_some _ e⟩;show wpAny _ _ (do let old <- Builtin.List.listItems (.ref s.heap.objs.size); Builtin.List.listUpdate (.ref s.heap.objs.size) (fun _=>#[]); letGo old.toList.reverse; Builtin.List.listExtendWith (.ref s.heap.objs.size) (.ref z) .none) _ _ _;refine wpAny_bind ?_;unfold Builtin.List.listItems;refine wpAny_bind (wpAny_seqItems hS rfl (wpAny_pure ?_));show wpAny _ _ (updateSeq s.heap.objs.size (fun _=>#[]) >>= fun _=>letGo (#[]:Array Value).toList.reverse >>= fun _=>Builtin.List.listExtendWith (.ref s.heap.objs.size) (.ref z) .none) _ _ _;refine wpAny_bind (wpAny_updateSeq hS rfl ?_);have hS₂:=get?_update_self (Obj.mapSeq (fun _=>(#[]:Array Value))) hS rfl;generalize hg:(s.heap.push { cls:=.type "list",data:=.seq #[] }).update s.heap.objs.size (Obj.mapSeq (fun _=>(#[]:Array Value)))=g2 at hS₂ ⊢;have oth:∀ b o,b≠s.heap.objs.size->(s.heap.push { cls:=.type "list",data:=.seq #[] }).get? b=some o->g2.get? b=some o :=
  fun b o hb e=>by rw [<- hg]; exact(get?_update_other _ _ (Ne.symm hb)).trans e
 have sz2:g2.objs.size=s.heap.objs.size+1:=by rw [<- hg,size_update,size_push]
 have Z2:ZS g2 t u z p r i j a b xs ys 0:=Z1.keep s.heap.objs.size hSs (fun q o w e=>oth q o w e) fun o e=>⟨_,hS₂⟩;refine wpAny_bind (wpAny_letGo ?_);unfold Builtin.List.listExtendWith;refine wpAny_bind (wpAny_typeOf (T:="zip") Z2.ty ?_);have h1:Builtin.List.listSameRef (.ref s.heap.objs.size) (.ref z)=false:=by simp [Builtin.List.listSameRef,hSs.1]
 simp only [h1,show (Value.type "zip" == Value.type "list")=false from by decide,show (Value.type "zip" == Value.type "tuple")=false from by decide,Bool.or_false,Bool.false_eq_true,if_false];have fin:∀ (g3:Heap) (c:Nat),ZS g3 t u z p r i j a b xs ys 0->(∀ q o,q≠s.heap.objs.size->g2.get? q=some o->g3.get? q=some o)->g3.objs.size=s.heap.objs.size+1->g3.get? s.heap.objs.size=some { cls:=.type "list",dict:=none,data:=.seq #[] c,slots:=#[] } ->
   codeAny (model prog w) A.in1 (.builtin "list.extend.loop" ⟨[.ref s.heap.objs.size,.ref z,.none],[]⟩) (wants (fun r s₂=>r=Value.none/\Q (Value.ref s.heap.objs.size) s₂) E) { s with heap:=g3 }:=fun g3 c Z3 k3 s3 e3=>by
  refine zq4 (A:=A.in1) (N0:=s.heap.objs.size+1) hh D hSs hn hz (lt_succ_of_lt (lt_size ez)) (lt_succ_of_lt (lt_size er)) (lt_succ_of_lt (lt_size ei)) (lt_succ_of_lt (lt_size ej)) (Nat.lt_succ_self _) .none (n - 0) 0 { s with heap:=g3 } [] c rfl (zero_le _) (le_of_eq s3.symm) Z3 (by simpa using e3) rfl (fun l T e=>by simp at e) nodup_nil fun h' Ts c' f1 f2 f3 f4 f5=>⟨rfl,hQ h' Ts c' (fun q o w1 w2 w3 w4 e=>?_) f2 f3 f4 f5⟩;have w5:q≠s.heap.objs.size:=ne_of_lt (lt_size e);exact f1 q o w1 w2 w3 w4 w5 (k3 q o w5 (oth q o w5 (get?_push_of_some _ e)))
 have it:∀ {Q':Value->Shared->Prop} {E':Value->Shared->Prop} {A':Around},Q' (.ref z) { s with heap:=g2 }->wpAny (model prog w) A' (pyIter (.ref z)) Q' E' { s with heap:=g2 }:=fun {Q' E' A'} h=>by
  have hT:Shared.TypeIs { s with heap:=g2 } (.ref z) "zip":=Z2.ty;refine wpAny_pyIter_slot hT F.slot_zip_iter (wpAny_call_entry F.slot_zip_iter hT F.entry_zip_iter ?_ (F.args_zip_iter_1 _));show wpAny _ _ (ret (.ref z)) _ _ _;exact wpAny_pure ⟨_,rfl,"zip",_,hT,F.slot_zip_next.lookup,h⟩
 refine wpAny_bind (it (wpAny_bind (wpAny_holding (zoe Z2.ty ?_))));simp only [Bool.true_or,if_true];refine wpAny_bind (wpAny_rule (wpAny_bind ?_));show wpAny _ _ (updateSeq s.heap.objs.size (·.push .none) >>= fun _=>updateSeq s.heap.objs.size (·.pop)) _ _ _;refine wpAny_bind (wpAny_updateSeq hS₂ rfl ?_);have hS₃:=get?_update_self (Obj.mapSeq (·.push Value.none)) hS₂ rfl;refine wpAny_updateSeq (hz:=by seq_fits) hS₃ rfl ?_;have hS₄:=get?_update_self (Obj.mapSeq (·.pop)) hS₃ rfl;have o4:∀ q o,q≠s.heap.objs.size->g2.get? q=some o->((g2.update s.heap.objs.size (Obj.mapSeq (·.push Value.none))).update s.heap.objs.size (Obj.mapSeq (·.pop))).get? q=some o:=fun q o w e=>(get?_update_other _ _ (Ne.symm w)).trans ((get?_update_other _ _ (Ne.symm w)).trans e);refine wpAny_pure ⟨plainId_quiet PySem.F.plain_extend_loop _,fin _ _ (Z2.keep s.heap.objs.size hSs o4 fun o e=>⟨_,hS₄⟩) o4 (by rw [size_update,size_update,sz2]) hS₄⟩
end
def zsZ(K:W.Frag)(ta:TA):TE:=fun σ H Q=>ta σ H fun vs H1=>∃ a b t u xs ys,vs=[.ref a,.ref b]/\SqV K t H1 a xs/\SqV K u H1 b ys/\min xs.length ys.length<=1000 /\
 ∀ (l:Addr) (H2:Hp) (Ts:List Addr),Same H1 H2->H1 l=none->(∀ T∈Ts,H1 T=none)->H2 l=some (.lst (Ts.map V.ref))->Ts.length=min xs.length ys.length->(∀ (m:Nat) (T:Addr),Ts[m]? = some T->∃ x y,xs[m]? = some x/\ys[m]? = some y/\H2 T=some (.tup [x,y]))->Q (.ref l) H2
theorem zgD:∀ (Ts:List Addr),Vals (Ts.map V.ref) (Ts.map Value.ref)
 | []=>.nil
 | T :: r=>.cons rfl (zgD r)
theorem zo0{α:Type}:∀ {zs:List (Addr×α)} {b:Addr} {w:α},zs.lookup b=some w->(b,w)∈zs
 | [],_,_,e=>by cases e
 | (c,v) :: r,b,w,e=>by
  rw [lookup_cons] at e;by_cases hb:b=c
  ·subst hb;simp at e;subst e;exact mem_cons_self
  ·rw [show (b == c)=false from by simpa using hb] at e;exact mem_cons_of_mem _ (zo0 e)
theorem zrJ{α:Type}:∀ {Ts:List Addr} {ws:List α} {m:Nat} {T:Addr} {w:α},Ts.Nodup->Ts[m]? = some T->ws[m]? = some w->(Ts.zip ws).lookup T=some w
 | [],_,_,_,_,_,e,_=>by simp at e
 | _ :: _,[],_,_,_,_,_,e=>by simp at e
 | T0 :: Ts,w0 :: ws,0,T,w,_,e1,e2=>by
  simp at e1 e2;subst e1 e2;simp [lookup_cons]
 | T0 :: Ts,w0 :: ws,m+1,T,w,nd,e1,e2=>by
  rw [nodup_cons] at nd;have e1':Ts[m]? = some T:=by simpa using e1
  have ne:T≠T0:=fun z=>nd.1 (by rw [<- z]; exact mem_of_getElem? e1');rw [zip_cons_cons,lookup_cons,show (T == T0)=false from by simpa using ne];exact zrJ nd.2 e1' (by simpa using e2)
theorem zqy{X:Cx}{a b:Expr}{ta:TA}{p p' pos pos':Pos}(hc:X.calm=true)(hgl:Gl X "list")(hml:X.mg "list" = none)(hg:Gl X "zip")(hm:X.mg "zip" = none)(ha:PA X [a,b] ta)
  (hs:starEach [a,b] X.env=[(false,eval a X.env),(false,eval b X.env)]:=by rfl) (hs2:starEach [b] X.env=[(false,eval b X.env)]:=by rfl)
  (hs3:starEach [.Call (.Name "zip" p) [a,b] [] pos] X.env=[(false,eval (.Call (.Name "zip" p) [a,b] [] pos) X.env)]:=by rfl) :
  PE X (.Call (.Name "list" p') [.Call (.Name "zip" p) [a,b] [] pos] [] pos') (zsZ X.K ta):=by
 intro zh s σ H Q I h;refine wpAny_Call_Name_kw (zcF I hgl hml zhb ?_ dz dz);refine PyProof.Rows.callWith_type1 ?_ (by rw [hs3]; rfl) rfl;rw [hs3];show wpAny _ _ (spliced ((false,eval (.Call (.Name "zip" p) [a,b] [] pos) X.env) :: [])) _ _ s;refine Calls.spliced_cons (Call_ (zcF I hg hm zkb (PyProof.Rows.callWith_type1 (thn (ha pos zh s σ H _ I h) fun us s1 ⟨vs,H1,I1,r1,q1⟩=>?_) (by rw [hs,hs2]) (by rw [hs2]; rfl))));obtain⟨a1,b1,t,u,xs,ys,e,q1,q2,hl,q⟩:=q1;subst e;cases r1 with
 | cons r rr =>
  cases rr with
  | cons r' rr =>
   cases rr;cases r;cases r';obtain⟨its,rv,sq,_⟩:=I1.seqK q1;obtain⟨its2,rv2,sq2,_⟩:=I1.seqK q2;have l1:=rv.length;have l2:=rv2.length;obtain⟨oa,ea⟩:=sq.here;obtain⟨ob,eb⟩:=sq2.here;refine zh7 sq sq2 fun g z1 z2 z3 z4 z5 kk=>Calls.spliced_nil ?_;have D:=zpL s1.heap.objs.size a1 b1 (lt_size ea) (lt_size eb);have I2:=I1.kept (h':=g) (t':=s1.toks) kk;have Z:ZS g t u (s1.heap.objs.size+4) (s1.heap.objs.size+2) (s1.heap.objs.size+3) s1.heap.objs.size (s1.heap.objs.size+1) a1 b1 its.toArray its2.toArray 0:=⟨.inl z1,z2,⟨_,_,z3⟩,z4,z5,sq.at fun o e=>kk _ _ e,sq2.at fun o e=>kk _ _ e⟩;have gsz:s1.heap.objs.size+4<g.objs.size:=lt_size z1;refine zg5 (s:={ s1 with heap:=g }) (n:=min its.length its2.length) (I2.ok.hd hc) D (by simp) (by rw [<- l1,<- l2,sizeLine_eq]; omega) Z fun h' Ts c' f1 f2 f3 f4 f5=>?_
   have k2:∀ q o,s1.heap.get? q=some o->h'.get? q=some o:=fun q o e=>by
    have w:=lt_size e;exact f1 q o (ne_of_lt (lt_of_lt_of_le w (le_add_right _ _))) (ne_of_lt (lt_of_lt_of_le w (le_add_right _ _))) (ne_of_lt w) (ne_of_lt (lt_of_lt_of_le w (le_add_right _ _))) (kk q o e)
   let zs:List (Addr×HO):=Ts.zip ((xs.zip ys).map fun q=>HO.tup [q.1,q.2])
   let H2:Hp:=fun b=>if b=g.objs.size then some (.lst (Ts.map V.ref)) else (zs.lookup b).or (H1 b)
   have fr:∀ b,s1.heap.objs.size<=b->H1 b=none:=fun b w=>I1.hok.fresh w;have lk:∀ b w,zs.lookup b=some w->∃ m,Ts[m]? = some b/\∃ x y,xs[m]? = some x/\ys[m]? = some y/\w=.tup [x,y]:=fun b w e=>by
    have mm:=zo0 e;obtain⟨m,em⟩:=List.getElem?_of_mem mm;rw [getElem?_zip_eq_some] at em;obtain⟨e1,e2⟩:=em;rw [getElem?_map] at e2;cases e3:(xs.zip ys)[m]? with
    | none=>rw [e3] at e2; cases e2
    | some pr =>
     rw [e3] at e2;obtain⟨e4,e5⟩:=getElem?_zip_eq_some.mp e3;exact⟨m,e1,_,_,e4,e5,(Option.some.inj e2).symm⟩
   have bT:∀ m T,Ts[m]? = some T->g.objs.size+1<=T:=fun m T e=>(f4 m T e).1;have f4':=f4;have lg:s1.heap.objs.size<=g.objs.size:=le_trans (le_add_right _ 4) (le_of_lt gsz);have bN:∀ m T,Ts[m]? = some T->s1.heap.objs.size<=T/\T≠g.objs.size:=fun m T e=>⟨le_trans lg (le_trans (le_succ _) (bT m T e)),ne_of_gt (bT m T e)⟩;have h2l:H2 g.objs.size=some (.lst (Ts.map V.ref)):=if_pos rfl;have h2T:∀ m T,Ts[m]? = some T->∃ x y,xs[m]? = some x/\ys[m]? = some y/\H2 T=some (.tup [x,y]):=fun m T e=>by
    obtain⟨_,v1,v2,e1,e2,_⟩:=f4 m T e;have m1:m<xs.length:=by
     have:=(Array.getElem?_eq_some_iff.mp e1).1;rw [l1]; simpa using this
    have m2:m<ys.length:=by
     have:=(Array.getElem?_eq_some_iff.mp e2).1;rw [l2]; simpa using this
    have ex:=getElem?_eq_getElem m1;have ey:=getElem?_eq_getElem m2;refine⟨_,_,ex,ey,?_⟩;show (if T=g.objs.size then _ else (zs.lookup T).or (H1 T))=_;rw [if_neg (bN m T e).2,zrJ (ws:=(xs.zip ys).map fun q=>HO.tup [q.1,q.2]) (w:=HO.tup [xs[m],ys[m]]) f5 e (by rw [getElem?_map,(getElem?_zip_eq_some (z:=(xs[m],ys[m]))).mpr ⟨ex,ey⟩]; rfl)];rfl
   have I3:Inv X zh σ H2 { s1 with heap:=h' }:=by
    refine I1.laidAll (t':=s1.toks) k2 (fun b o e=>?_) fun b o e=>?_
    ·have w:=I1.hok.lt e;show (if b=g.objs.size then _ else (zs.lookup b).or (H1 b))=_;rw [if_neg (ne_of_lt (lt_of_lt_of_le w lg))];cases z:zs.lookup b with
     | none=>exact e
     | some v =>
      obtain⟨m,em,_⟩:=lk b v z;exact absurd (lt_of_lt_of_le w (bN m b em).1) (lt_irrefl _)
    ·by_cases hb:b=g.objs.size
     ·subst hb;rw [h2l] at e;cases e;refine .inr ⟨lg,by rw [length_map,f3,<- l1,<- l2,sizeLine_eq]; omega,Ts.map Value.ref,c',zgD Ts,f2⟩
     ·have e':(zs.lookup b).or (H1 b)=some o:=by rw [<- e]; exact(if_neg hb).symm
      cases z:zs.lookup b with
      | none=>rw [z] at e'; exact .inl e'
      | some v =>
       rw [z] at e';cases (show some v=some o from e');obtain⟨m,em,x,y,ex,ey,rfl⟩:=lk b o z;obtain⟨_,v1,v2,e1,e2,pT⟩:=f4 m b em;obtain⟨w1,e3,r1⟩:=rv.get ex;obtain⟨w2,e4,r2⟩:=rv2.get ey;have e1':its[m]? = some v1:=by simpa using e1
       have e2':its2[m]? = some v2:=by simpa using e2
       rw [e3] at e1';rw [e4] at e2';cases e1';cases e2';exact .inr ⟨(bN m b em).1,⟨by show 2<=sizeLine; decide,_,pT,rfl⟩,[v1,v2],.cons r1 (.cons r2 .nil),⟨_,pT,rfl,_,rfl⟩⟩
   refine⟨.ref g.objs.size,H2,I3,rfl,q g.objs.size H2 Ts (fun b o e=>?_) (fr _ lg) (fun T mT=>?_) h2l (by rw [f3,<- l1,<- l2]) h2T⟩
   ·have w:=I1.hok.lt e;show (if b=g.objs.size then _ else (zs.lookup b).or (H1 b))=_;rw [if_neg (ne_of_lt (lt_of_lt_of_le w lg))];cases z:zs.lookup b with
    | none=>exact e
    | some v =>
     obtain⟨m,em,_⟩:=lk b v z;exact absurd (lt_of_lt_of_le w (bN m b em).1) (lt_irrefl _)
   ·obtain⟨m,em⟩:=List.getElem?_of_mem mT;exact fr _ (bN m T em).1
def zoz(a:DA):DE:=fun δ S R=>a δ S fun xs S1=>arg2 xs fun x y=>∃ ds,zkJ x=some ds/\∃ es,zkJ y=some es/\min ds.length es.length<=1000/\R (.d (.list (zhF ds es))) S1
theorem zj7{H H':Hp}(gr:Same H H'):∀ {ds es:List PyData} {xs ys:List V} {Ts:List Addr},HasL H ds xs->HasL H es ys->Ts.length=min xs.length ys.length->(∀ (m:Nat) (T:Addr),Ts[m]? = some T->∃ x y,xs[m]? = some x/\ys[m]? = some y/\H' T=some (.tup [x,y]))->HasL H' (zhF ds es) (Ts.map V.ref)
 | [],es,xs,ys,Ts,h1,h2,hl,_=>by
  have e:=zC.mp h1;subst e;have:Ts=[]:=eq_nil_of_length_eq_zero (by simpa using hl);subst this;exact zC.mpr rfl
 | d :: ds,[],xs,ys,Ts,h1,h2,hl,_=>by
  have e:=zC.mp h2;subst e;have:Ts=[]:=eq_nil_of_length_eq_zero (by simpa using hl);subst this;exact zC.mpr rfl
 | d :: ds,e :: es,xs,ys,Ts,h1,h2,hl,hT=>by
  obtain⟨v,r,rfl,q1,l1⟩:=zr.mp h1;obtain⟨u,r2,rfl,q2,l2⟩:=zr.mp h2;cases Ts with
  | nil=>simp at hl
  | cons T Ts =>
   obtain⟨x,y,e1,e2,e3⟩:=hT 0 T rfl;cases e1;cases e2;refine zr.mpr ⟨_,_,rfl,zaw.mpr ⟨T,_,rfl,e3,zr.mpr ⟨_,_,rfl,Has.mono gr _ _ q1,zr.mpr ⟨_,_,rfl,Has.mono gr _ _ q2,zC.mpr rfl⟩⟩⟩,?_⟩;exact zj7 gr l1 l2 (by simp only [length_cons] at hl; omega) fun m T' eT=>by
    obtain⟨x,y,e1,e2,e3⟩:=hT (m+1) T' (by simpa using eT);exact⟨x,y,by simpa using e1,by simpa using e2,e3⟩
theorem zq5{K:W.Frag}{ta:TA}{da:DA}(ha:RA ta da):RE (zsZ K ta) (zoz da):=fun h o H δ σ S R Q he hs q c =>
 ha h o H δ σ S _ _ he hs q fun o1 H1 S1 xs vs e1 s1 x1 d0=>by
  obtain⟨x,y,rfl,ds,e2,es,e3,hl,d2⟩:=zfz d0;obtain⟨v,u,rfl,hv,hu⟩:=hxs2 x1;obtain⟨t,a,ws,rfl,l,k1⟩:=zfb (K:=K) e2 hv;obtain⟨t',b,zs,rfl,l',k2⟩:=zfb (K:=K) e3 hu;have g1:=l.length;have g2:=l'.length;refine⟨a,b,t,t',ws,zs,rfl,k1 ExH.refl,k2 ExH.refl,by omega,fun l0 H2 Ts gr f1 f2 f3 f4 f5=>?_⟩;have v1:∀ b u,H1 b=none->H2 b=some u->vx h o1 H2 b=some u:=fun b u n e=>by
   obtain⟨z1,z2⟩:=s1.fresh n;exact zat.mpr ⟨z1,z2,e⟩
  exact c o1 H2 S1 (.d (.list (zhF ds es))) _ (e1.trans (Ex.of_same gr)) (s1.same gr) (za8.mpr ⟨l0,_,rfl,v1 l0 _ f1 f3,zj7 (zc8 gr) l l' f4 fun m T e=>by
   obtain⟨x,y,q1,q2,q3⟩:=f5 m T e;exact⟨x,y,q1,q2,v1 T _ (f2 T (mem_of_getElem? e)) q3⟩⟩) d2
end L2
namespace L2
open PySem PySem.Spec PyProof.Rows
section
theorem zop{X:Cx}{K:W.Frag}(hK:X.K=K):SlR X (ztK K):=by
 subst hK;exact zi9
end
end L2
namespace L2
open PySem PySem.Spec PySem.Calls PyProof.Rows
open Sem (wp)
structure LamScope(ps caps:List Str)(sc:Scope):Prop where
 kind:sc.kind=.function
 co:sc.isCoroutine=false
 gen:sc.isGenerator=false
 nd:(ps++caps).Nodup
 par:∀ x∈ps,sc.names.lookup x=some .local
 cap:∀ x∈caps,sc.names.lookup x=some .free
 nocell:∀ y∈sc.names,y.2≠.cell
 free:∀ x,sc.names.lookup x=some .free->x∈caps
def cxL(P:Program)(w:World)(K:W.Frag)(mg:Str->Option Value)(base:Heap)(N:List Str)(qual:Str)(scope:Scope)(cl:List (Str×Addr))(f:Addr)(cd:Value)(A:Around)(outer:List Env)(s:Shared)(H:Hp):Cx where
 prog:=P
 w:=w
 K:=K
 mg:=mg
 base:=base
 A:=A.deeper (W.envX qual scope s.heap.objs.size f cd cl)
 N:=N
 s₀:=s
 H₀:=H
 env:=W.envX qual scope s.heap.objs.size f cd cl
 outer:=outer
 stack:=W.envX qual scope s.heap.objs.size f cd cl :: outer
 ex:=[]
 calm:=true
 fn:=fun _=>false
 pn:=[]
 xe:=fun _ _=>False
theorem zgY:∀ {ps:List Str} {us:List Value} {i:Nat} {y:Str} {u:Value},ps.Nodup->ps[i]? = some y->us[i]? = some u->((ps.zip us).reverse).lookup y=some u
 | [],_,_,_,_,_,e,_=>by simp at e
 | _ :: _,[],_,_,_,_,_,e=>by simp at e
 | p :: ps,v :: us,0,y,u,nd,e1,e2=>by
  simp at e1 e2;subst e1 e2;rw [nodup_cons] at nd;rw [zip_cons_cons,reverse_cons,List.lookup_append];have:((ps.zip us).reverse).lookup p=none:=by
   rw [List.lookup_eq_none_iff];intro q mq;have:=(of_mem_zip (mem_reverse.mp mq)).1;have ne:p≠q.1:=fun e=>nd.1 (by rw [e]; exact this);simpa using ne
  rw [this];simp [List.lookup]
 | p :: ps,v :: us,i+1,y,u,nd,e1,e2=>by
  rw [nodup_cons] at nd;rw [zip_cons_cons,reverse_cons,List.lookup_append,zgY nd.2 (by simpa using e1) (by simpa using e2)];rfl
section
variable {P:Program} {w:World} {K:W.Frag} {mg:Str->Option Value} {base:Heap} {A:Around} {outer:List Env} {s:Shared} {H:Hp}
structure Caps(H:Hp)(h:Heap)(cl:List (Str×Addr))(caps:List Str)(cs:List V):Prop where
 len:cs.length=caps.length
 inj:∀ x y c,cl.lookup x=some c->cl.lookup y=some c->x=y
 has:∀ x,x∈caps↔∃ c,cl.lookup x=some c
 at_:∀ (i:Nat) x v,caps[i]? = some x->cs[i]? = some v->∃ c u,cl.lookup x=some c/\RelV v u/\h.IsCell c (some u)
 free:∀ x c,cl.lookup x=some c->H c=none/\∃ v,h.IsCell c v
theorem zlM{k:Nat}{ps caps:List Str}{name qual:Str}{params:Arguments}{body:Expr}{scope:Scope}{cl:List (Str×Addr)}{pm ctv:Value}{c' f:Addr}{us:List Value}{vs cs:List V}{Q:VK}{t:TE}
  (S:LamScope ps caps scope) (hr:Room (k+1) A) (e0:Env0 P w K mg base A outer s H) (ho:s.heap.get? f=some (W.kla_obj name qual params body scope cl pm c' ctv)) (hcd:s.heap.CodeRec (.ref c') qual)
  (hbind:bindArgs (W.kla_fn name qual params body scope cl pm (.ref c') ctv) ⟨us,[]⟩=pure (ps.zip us)) (hl:vs.length=ps.length) (r:Vals vs us) (C:Caps H s.heap cl caps cs)
  (hb:PE (cxL P w K mg base (ps++caps) qual scope cl f (.ref c') A outer s H) body t) (q:t (vs.map some++cs.map some) H Q) :
  codeAny (model P w) A (.call (.ref f) ⟨us,[]⟩) (fun r' s'=>match r' with | .ok (.ret u)=>CE outer P w H s Q u s' | _=>False) s:=by
 have KX:K.In s.heap:=e0.mod.kin.keeps fun b o e=>(e0.bs b o e).1;have lim:s.heap.NoLimit:=e0.mod.nolimit.keeps fun b o e=>(e0.bs b o e).1;refine W.kla_callFunE hr.depth ho rfl S.co S.gen rfl hcd ?_;rw [hbind];refine wpAny_pure (wpAny_newFunctionEnv S.nocell (fun y hy=>S.par y.1 (of_mem_zip hy).1) (fun h₁ hns hsb=>⟨lim.fresh _ hsb,?_⟩) S.kind);show codeAny _ _ (.expr body (W.envX qual scope s.heap.objs.size f (.ref c') cl)) _ _;have hk:∀ b o,s.heap.get? b=some o->h₁.get? b=some o:=fun b o e=>hsb.extBut b o (ne_of_lt (lt_size e)) (get?_push_of_some _ e);have noA:∀ b:Addr,b∉(cxL P w K mg base (ps++caps) qual scope cl f (.ref c') A outer s H).ex:=fun b z=>absurd (show b∈([]:List Addr) from z) (by simp);have ul:us.length=ps.length:=by rw [<- r.length]; exact hl
 have I:Inv (cxL P w K mg base (ps++caps) qual scope cl f (.ref c') A outer s H) [] (vs.map some++cs.map some) H { s with heap:=h₁,toks:=s.toks+(ps.zip us).length }:=by
  refine⟨⟨e0.mod,S.kind,rfl,rfl,le_refl _,fun x y c h1 h2=>C.inj x y c h1 h2,fun y hy=>?_,fun y c h _=>absurd (show false=true from h) dz,fun _=>hr.hd,Around.frames_deeper e0.frames,.inr ⟨rfl,rfl⟩,fun b z=>absurd z (noA b),e0.bs,e0.bsz,fun b _ _=>noA b,fun b z=>absurd z (noA b),e0.funs,e0.frf⟩,
   rfl,e0.bare,Un.kept hk,⟨_,hns,fun i y v h1 h2 h3=>?_⟩,fun y c h=>?_,e0.hok.fresh (le_refl _),fun y c h=>(C.free y c h).1,fun p hp=>absurd (show p∈([]:List (Addr×Obj)) from hp) (by simp),e0.hok.kept hk,?_⟩
  ·have hy:scope.names.lookup y=some .cell\/scope.names.lookup y=some .free:=hy;rcases hy with hy | hy
   ·exact absurd rfl (S.nocell _ (PySem.mem_of_lookup hy))
   ·exact(C.has y).mp (S.free y hy)
  ·by_cases hi:i<ps.length
   ·have h1':ps[i]? = some y:=by
     have h1:(ps++caps)[i]? = some y:=h1
     rwa [getElem?_append_left hi] at h1
    have h2':vs[i]? = some v:=by
     rw [getElem?_append_left (by rw [length_map]; omega),getElem?_map] at h2;cases e:vs[i]? with
     | none=>rw [e] at h2; cases h2
     | some a=>rw [e] at h2; cases h2; rfl
    obtain⟨u,hu,rv⟩:=r.get h2';exact⟨u,rv,.inl ⟨S.par y (mem_of_getElem? h1'),zgY (nodup_append.mp S.nd).1 h1' hu⟩⟩
   ·have h1':caps[i - ps.length]? = some y:=by
     have h1:(ps++caps)[i]? = some y:=h1
     rwa [getElem?_append_right (by omega)] at h1
    have h2':cs[i - ps.length]? = some v:=by
     rw [getElem?_append_right (by rw [length_map]; omega),length_map,hl,getElem?_map] at h2;cases e:cs[i - ps.length]? with
     | none=>rw [e] at h2; cases h2
     | some a=>rw [e] at h2; cases h2; rfl
    obtain⟨c,u,e1,rv,cl'⟩:=C.at_ _ y v h1' h2';exact⟨u,rv,.inr ⟨.inr (S.cap y (mem_of_getElem? h1')),c,e1,cl'.keeps hk⟩⟩
  ·obtain⟨v,q⟩:=(C.free y c h).2;exact⟨v,q.keeps hk⟩
  ·show (vs.map some++cs.map some).length=(ps++caps).length;simp [hl,C.len]
 refine W.kla_codeExpr (wpAny_mono (hb [] _ _ H _ I q) (fun u s' hs=>?_) fun e s' z=>z.elim);obtain⟨v,H',J,rv,q'⟩:=hs;exact⟨v,H',J.os,J.bare,J.base,J.hok,rv,q'⟩
end
abbrev lamKey (qual:Str) (pos:Pos):Array Value:=#[rawInt pos.line,rawInt pos.col,.str qual 0]
abbrev zeU (qual:Str) (params:Arguments) (body:Expr) (scope:Scope) (cl:List (Str×Addr)) (pm:Value) (c':Addr) (ctv:Value):Obj:=W.kla_obj "<lambda>" qual params body scope cl pm c' ctv
section
variable {X:Cx} {zh:List (Addr×Obj)} {σ:St} {H:Hp} {s:Shared} {M:Model} {A:Around} {E:Value->Shared->Prop} {Q:Value->Shared->Prop} {c P:Addr} {qual:Str} {params:Arguments} {body:Expr} {scope:Scope} {pos:Pos} {cl:List (Str×Addr)}
theorem zj4(I:Inv X zh σ H s)(hcode:X.env.code=.ref c)(hT:((c,P),lamKey qual pos)∈tabsG)(hcl:closureFor scope X.env=pure cl)
  (h:∀ (f c':Addr) (ctv pm:Value) (H':Hp) (s':Shared),Inv X zh σ H' s'->Same H H'->H f=none->H' f=some (.frz (zeU qual params body scope cl pm c' ctv) (.own 0))->(∃ oc vs t',H' c'=some (.frz oc (.own 0))/\oc.data=.fields vs/\vs[1]? = some (.str qual t'))->Q (.ref f) s') :
  wpAny M A (makeFunction "<lambda>" qual params (.expr body) scope X.env [] [] [] pos pos.line) Q E s:=by
 have hH:H P=some (.tbl (lamKey qual pos)):=I.stkFree.tab _ hT;have C:W.CodeHd X.base c P:=I.mod.hd _ hT;have B:BltAt X.base X.mg:=I.mod.bm;obtain⟨qs,hP,hq⟩:=(show ObjOk X.prog X.w H s.heap P (.tbl (lamKey qual pos)) from I.hok P _ hH);have neP:∀ b o,X.base.get? b=some o->b≠P:=fun b o e z=>by
  have:=(I.bs b o e).2;rw [z,hH] at this;cases this
 have hg:s.heap.Ns mainGlobals X.mg:=I.mod.glob.keeps I.bk;have hgP:mainGlobals≠P:=by
  obtain⟨o,es,ep,e,_⟩:=I.mod.glob;exact neP _ o e
 have hB:s.heap.BuiltinsAt X.mg P:=by
  obtain⟨bm,ob,b1,b2,b3,b4,b5,b6⟩:=B;refine⟨bm,ob,b1,b2,fun z=>?_,neP _ _ b3,I.bk _ _ b3,b4,b5,b6⟩;obtain⟨o,es,ep,e,d,_⟩:=I.mod.glob;rw [z,e] at b3;cases b3;rw [d] at b6;cases b6
 have hC:=C.keeps I.bk;rcases hq with rfl | ⟨l,k,q,t,c',oc,vs,t',e1,rfl,e3,e4,e5⟩
 ·refine W.kla_makeFunction (mg:=X.mg) hcl I.ok.glob hg hcode hC hP trivial rfl hgP hB fun c' ctv h' tk hx hge hlt hrec htb=>?_;obtain⟨c₂,oc,vs,t',e2,hoc,hd,hv⟩:=hrec;cases e2;have hsz:s.heap.objs.size<=h'.objs.size:=le_of_lt (Nat.lt_of_le_of_lt hge hlt);have nc:H c'=none:=I.hok.fresh hge;have nf:H h'.objs.size=none:=I.hok.fresh hsz;have cf:c'≠h'.objs.size:=ne_of_lt hlt
  let fo:Obj:=zeU qual params body scope cl ((X.mg "__name__").getD .none) c' ctv
  let H':Hp:=upd (upd H c' (.frz oc (.own 0))) h'.objs.size (.frz fo (.own 0))
  have gr:Same H H':=(Same.laid nc).trans (Same.laid (by rw [zI (Ne.symm cf)]; exact nf));have hpc:P≠c':=zE hH nc;have hpf:P≠h'.objs.size:=zE hH nf;have kp:∀ b o,b≠P->s.heap.get? b=some o->(h'.push fo).get? b=some o:=fun b o nb e=>get?_push_of_some _ (hx b o nb e);have eH:∀ b,b≠c'->b≠h'.objs.size->H' b=H b:=fun b n1 n2=>by show upd _ _ _ b=_; rw [zI n2,zI n1]
  have hc':H' c'=some (.frz oc (.own 0)):=by show upd _ _ _ c'=_; rw [zI cf,zZ]
  have hf':H' h'.objs.size=some (.frz fo (.own 0)):=zZ;refine h h'.objs.size c' ctv _ H' _ (I.un ⟨fun b o e n _ _=>kp b o (fun z=>by rw [z,hH] at n; cases n) e,fun b o e n _ _=>⟨o.slots,kp b o (fun z=>by rw [z,hH] at n; cases n) e⟩,fun b o e n _=>?_,fun b o e _=>?_,fun b xs e=>gr b _ e,fun b o u e=>gr b _ e,fun b ps e=>gr b _ e⟩ fun b u e=>?_) gr nf hf' ⟨oc,vs,t',hc',hd,hv⟩
  ·have lb:=lt_size e;rw [eH b (ne_of_lt (lt_of_lt_of_le lb hge)) (ne_of_lt (lt_of_lt_of_le lb hsz))];exact n
  ·by_cases hb:b=P
   ·subst hb;exact⟨_,get?_push_of_some _ htb⟩
   ·exact⟨o,kp b o hb e⟩
  ·by_cases h1:b=h'.objs.size
   ·subst h1;rw [hf'] at e;cases e;have g:=get?_push_size h' (o:=fo) rfl;exact⟨g,_,g⟩
   ·by_cases h2:b=c'
    ·subst h2;rw [hc'] at e;cases e;have g:=get?_push_of_some fo hoc;exact⟨g,_,g⟩
    ·rw [eH b h2 h1] at e;by_cases h3:b=P
     ·subst h3;rw [hH] at e;cases e;exact⟨_,get?_push_of_some _ htb,.inr ⟨_,_,qual,0,c',oc,vs,t',rfl,rfl,hc',hd,hv⟩⟩
     ·refine(I.hok b u e).stay (fun d v hd' q1=>kp d v (fun z=>?_) q1) (fun d q1=>gr d _ q1) (fun d xs q1=>gr d _ q1) fun d o u q1=>gr d _ q1;subst z;rcases hd' with z | z
      ·exact h3 z.symm
      ·rw [hH] at z; cases z
 ·have el:rawInt pos.line=l:=congrArg (fun a:Array Value=>a.getD 0 .none) e1;have ek:rawInt pos.col=k:=congrArg (fun a:Array Value=>a.getD 1 .none) e1;have eq:qual=q:=by
   have:=congrArg (fun a:Array Value=>a.getD 2 .none) e1;have z:Value.str qual 0=Value.str q t:=this;cases z;rfl
  subst eq;rw [<- el,<- ek] at hP;have hca:codeAmong pos (#[rawInt pos.line,rawInt pos.col,Value.ref c']:Array Value).toList=some (.ref c'):=by
   simp [codeAmong,rawInt]
  refine W.kla_makeFunctionHit (mg:=X.mg) hcl I.ok.glob hg hcode hC hP trivial hca hB fun ctv h' tk kp hsz=>?_;have nf:H h'.objs.size=none:=I.hok.fresh hsz
  let fo:Obj:=zeU qual params body scope cl ((X.mg "__name__").getD .none) c' ctv
  have gr:Same H (upd H h'.objs.size (.frz fo (.own 0))):=Same.laid nf;have g:=get?_push_size h' (o:=fo) rfl;exact h h'.objs.size c' ctv _ _ _ (I.laid (t':=tk) (o:=.frz fo (.own 0)) (fun b o e=>get?_push_of_some _ (kp b o e)) hsz ⟨g,_,g⟩) gr nf zZ ⟨oc,vs,t',gr _ _ e3,e4,e5⟩
end
end L2
namespace L2
open PySem PySem.Spec PySem.Calls PyProof.Rows
open Sem (wp)
section
variable {P:Program} {w:World} {K:W.Frag} {mg:Str->Option Value} {base:Heap} {A:Around} {outer:List Env} {s s':Shared} {H H' H0:Hp} {fs:List Addr} {h0 h h':Heap}
theorem zfV{a:Addr}(U:Un fs [] H0 H h0 h)(ha:h0.objs.size<=a)(k:∀ b o,b≠a->h.get? b=some o->h'.get? b=some o):Un fs [] H0 H h0 h':=by
 have ne:∀ b o,h0.get? b=some o->b≠a:=fun b o e=>ne_of_lt (lt_of_lt_of_le (lt_size e) ha);refine⟨fun b o e n hb hx=>k b o (ne b o e) (U.keep b o e n hb hx),fun b o e n hb hx=>?_,U.free,fun b o e hx=>?_,U.tups,U.frzs,U.tbls⟩
 ·obtain⟨sl,q⟩:=U.slot b o e n hb hx;exact⟨sl,k b _ (ne b o e) q⟩
 ·obtain⟨o',q⟩:=U.there b o e hx;exact⟨o',k b o' (ne b o e) q⟩
theorem Env0.after(e0:Env0 P w K mg base A outer s H)(U:Un (frs outer) [] H H' s.heap s'.heap)(hok:HOk P w H' s'.heap)(hb:AllBare s'.gens)(hz:base.objs.size<=s'.heap.objs.size):Env0 P w K mg base A outer s' H':=by
 have nofr:∀ b o,base.get? b=some o->b∉frs outer:=fun b o e hm=>by
  have:=(e0.funs.mem hm).1;rw [e] at this;cases this
 refine⟨e0.frames,e0.mod,fun b o e=>⟨U.keep b o (e0.bs b o e).1 (e0.bs b o e).2 (nofr b o e) (by simp),U.free b o (e0.bs b o e).1 (e0.bs b o e).2 (by simp)⟩,hz,?_,⟨fun b hb=>?_,fun q hq=>U.tbls _ _ (e0.frf.tab q hq)⟩,hok,hb⟩
 ·have go:∀ l:List Env,(∀ b∈frs l,b∈frs outer)->s.heap.FunFrames base l->s'.heap.FunFrames base l:=by
   intro l;induction l with
   | nil=>intro _ _; trivial
   | cons env r ih =>
    intro hs hl;obtain⟨hk,⟨L,o,hf,hn,ho,hd⟩,hr⟩:=hl;have hL:L∈frs outer:=hs L (by unfold frs; rw [filterMap_cons,hf]; exact mem_cons_self);obtain⟨sl,e⟩:=U.slot L o ho (e0.frf.free L hL) hL (by simp);exact⟨hk,⟨L,_,hf,hn,e,hd⟩,ih (fun b hb=>hs b (by unfold frs; rw [filterMap_cons,hf]; exact mem_cons_of_mem _ hb)) hr⟩
  exact go outer (fun _ h=>h) e0.funs
 ·obtain⟨_,o,ho,_⟩:=e0.funs.mem hb;exact U.free b o ho (e0.frf.free b hb) (by simp)
theorem Caps.after{cl:List (Str×Addr)}{caps:List Str}{cs:List V}(C:Caps H h cl caps cs)(U:Un fs [] H H' h h'):Caps H' h' cl caps cs:=by
 have kp:∀ c v,H c=none->h.IsCell c v->h'.IsCell c v:=fun c v n ⟨o,e,d⟩=>by
  obtain⟨sl,q⟩:=U.any e n (by simp);exact⟨_,q,d⟩
 refine⟨C.len,C.inj,C.has,fun i x v e1 e2=>?_,fun x c e=>?_⟩
 ·obtain⟨c,u,q1,q2,q3⟩:=C.at_ i x v e1 e2;exact⟨c,u,q1,q2,kp c _ (C.free x c q1).1 q3⟩
 ·obtain⟨n,v,q⟩:=C.free x c e;obtain⟨o,eo,_⟩:=id q;exact⟨U.free c o eo n (by simp),v,kp c v n q⟩
theorem Env0.own{a:Addr}(e0:Env0 P w K mg base A outer s H)(na:H a=none)(nb:base.objs.size<=a)(nf:a∉frs outer)(k:∀ b o,b≠a->s.heap.get? b=some o->h'.get? b=some o)(hz:s.heap.objs.size<=h'.objs.size)(tk:Nat):Env0 P w K mg base A outer { s with heap:=h',toks:=tk } H:=by
 refine⟨e0.frames,e0.mod,fun b o e=>⟨k b o (ne_of_lt (lt_of_lt_of_le (lt_size e) nb)) (e0.bs b o e).1,(e0.bs b o e).2⟩,le_trans e0.bsz hz,?_,e0.frf,e0.hok.stays fun b u e o q=>k b o (zE e na) q,e0.bare⟩;have go:∀ l:List Env,(∀ b∈frs l,b∈frs outer)->s.heap.FunFrames base l->h'.FunFrames base l:=by
  intro l;induction l with
  | nil=>intro _ _; trivial
  | cons env r ih =>
   intro hs hl;obtain⟨hk,⟨L,o,hf,hn,ho,hd⟩,hr⟩:=hl;have hL:L∈frs outer:=hs L (by unfold frs; rw [filterMap_cons,hf]; exact mem_cons_self);exact⟨hk,⟨L,o,hf,hn,k L o (fun z=>nf (z▸hL)) ho,hd⟩,ih (fun b hb=>hs b (by unfold frs; rw [filterMap_cons,hf]; exact mem_cons_of_mem _ hb)) hr⟩
 exact go outer (fun _ h=>h) e0.funs
theorem Caps.own{a:Addr}{cl:List (Str×Addr)}{caps:List Str}{cs:List V}(C:Caps H h cl caps cs)(na:∀ x c,cl.lookup x=some c->c≠a)(k:∀ b o,b≠a->h.get? b=some o->h'.get? b=some o):Caps H h' cl caps cs:=by
 refine⟨C.len,C.inj,C.has,fun i x v e1 e2=>?_,fun x c e=>?_⟩
 ·obtain⟨c,u,q1,q2,o,q3,q4⟩:=C.at_ i x v e1 e2;exact⟨c,u,q1,q2,o,k c o (na x c q1) q3,q4⟩
 ·obtain⟨n,v,o,q,d⟩:=C.free x c e;exact⟨n,v,o,k c o (na x c e) q,d⟩
def CodeFz(H:Hp)(c':Addr)(qual:Str):Prop:=∃ oc vs t',H c'=some (.frz oc (.own 0))/\oc.data=.fields vs/\vs[1]? = some (.str qual t')
theorem CodeFz.rec{c':Addr}{qual:Str}(c:CodeFz H c' qual)(hok:HOk P w H h):h.CodeRec (.ref c') qual:=by
 obtain⟨oc,vs,t',e,d,q⟩:=c;obtain⟨g,_⟩:=(show ObjOk P w H h c' (.frz oc (.own 0)) from hok _ _ e);exact⟨c',oc,vs,t',rfl,g,d,q⟩
theorem CodeFz.un{c':Addr}{qual:Str}(c:CodeFz H c' qual)(U:Un fs [] H H' h h'):CodeFz H' c' qual:=by
 obtain⟨oc,vs,t',e,r⟩:=c;exact⟨oc,vs,t',U.frzs _ _ _ e,r⟩
theorem zj2{k:Nat}{x:Str}{caps:List Str}{qual:Str}{params:Arguments}{body:Expr}{scope:Scope}{cl:List (Str×Addr)}{pm ctv:Value}{c' f:Addr}{u:Value}{v:V}{cs:List V}{Q1:VK}{t:TE}{E:Value->Shared->Prop}{Q:Value->Shared->Prop}
  (S:LamScope [x] caps scope) (hr:Room (k+1) A) (e0:Env0 P w K mg base A outer s H) (hf:H f=some (.frz (zeU qual params body scope cl pm c' ctv) (.own 0))) (hc:CodeFz H c' qual)
  (hbind:∀ u,bindArgs (W.kla_fn "<lambda>" qual params body scope cl pm (.ref c') ctv) ⟨[u],[]⟩=pure [(x,u)]) (r:RelV v u) (C:Caps H s.heap cl caps cs)
  (hb:PE (cxL P w K mg base ([x]++caps) qual scope cl f (.ref c') A outer s H) body t) (q:t (some v :: cs.map some) H Q1) (fin:∀ u' s',CE outer P w H s Q1 u' s'->Q u' s') :
  wpAny (model P w) A (call (.ref f) [u]) Q E s:=by
 obtain⟨g,_⟩:=(show ObjOk P w H s.heap f (.frz _ (.own 0)) from e0.hok _ _ hf);refine wpAny_call (codeAny_mono (zlM (ps:=[x]) (us:=[u]) (vs:=[v]) S hr e0 g (hc.rec e0.hok) (hbind u) rfl (.cons r .nil) C hb q) fun r' s' z=>?_);cases r' with
 | error e=>exact z.elim
 | ok fl =>
  cases fl with
  | ret u'=>exact fin u' s' z
  | next=>exact z.elim
  | brk=>exact z.elim
  | cont=>exact z.elim
end
section
variable {P:Program} {w:World} {K:W.Frag} {mg:Str->Option Value} {base:Heap} {A:Around} {outer:List Env} {s0:Shared} {H0:Hp} {k:Nat} {x:Str} {caps:List Str} {qual:Str} {params:Arguments} {body:Expr} {scope:Scope} {cl:List (Str×Addr)} {pm ctv:Value} {c' f l it S:Addr} {cs:List V} {Q:VK} {t:TE} {dv:Value}
def MinW(l:Addr)(L:Nat)(cs:List V)(t:TE)(Q:VK)(W:Nat->V->Int->Hp->Prop):Prop:=∀ n best kb H,W n best kb H->∃ xs,xs.length=L/\H l=some (.lst xs)/\(∀ v,xs[n]? = some v->t (some v :: cs.map some) H fun kv H'=>∃ j,kv=.int j/\if j<kb then W (n+1) v j H' else W (n+1) best kb H')/\(L=n->Q best H)
theorem zjD{L:Nat}{W:Nat->V->Int->Hp->Prop}(SC:LamScope [x] caps scope)(hr:Room (k+2) A)(hbind:∀ u,bindArgs (PySem.W.kla_fn "<lambda>" qual params body scope cl pm (.ref c') ctv) ⟨[u],[]⟩=pure [(x,u)])
  (hb:∀ s H,PE (cxL P w K mg base ([x]++caps) qual scope cl f (.ref c') A.in1 outer s H) body t) (hW:MinW l L cs t Q W)
  (b1:base.objs.size<=s0.heap.objs.size) (i1:s0.heap.objs.size<=it) (i2:s0.heap.objs.size<=S) (hIS:S≠it) (cb:∀ x c,cl.lookup x=some c->c<s0.heap.objs.size) (ffr:∀ b∈frs outer,b<s0.heap.objs.size) :
  ∀ (d n:Nat) (s:Shared) (H:Hp) (best:V) (bu:Value) (kb:Int) (tb:Tok) (c:Nat),n+d=L->Env0 P w K mg base A.in1 outer s H->Un (frs outer) [] H0 H s0.heap s.heap->s.os=s0.os->W n best kb H->s.heap.IsListIter it l n->H it=none ->
   s.heap.get? S=some (seqObj "list" #[bu,.int kb tb] c)->H S=none->RelV best bu->H f=some (.frz (zeU qual params body scope cl pm c' ctv) (.own 0))->CodeFz H c' qual->Caps H s.heap cl caps cs ->
   codeAny (model P w) A (.builtin "min.loop" ⟨[.ref it,.ref f,.ref S],[(Str.ofString "default",dv)]⟩) (fun r s'=>match r with | .ok (.ret u)=>CE outer P w H0 s0 Q u s' | _=>False) s:=by
 have hname:(toString "min" ++ toString ".loop":String) = "min.loop":=by decide
 have hh:A.in1.handled=none:=hr.hd;have nIf:it∉frs outer:=fun m=>absurd (lt_of_lt_of_le (ffr _ m) i1) (lt_irrefl _);have nSf:S∉frs outer:=fun m=>absurd (lt_of_lt_of_le (ffr _ m) i2) (lt_irrefl _);intro d;induction d with
 | zero =>
  intro n s H best bu kb tb c hn e0 U os hw hit nI hS nS rb hf hc C;obtain⟨xs,hL,hl,_,hq⟩:=hW n best kb H hw;obtain⟨hz,its,cap,rv,el⟩:=(show ObjOk P w H s.heap l (.lst xs) from e0.hok l _ hl);have isl:s.heap.IsList l its.toArray:=⟨_,el,rfl,_,rfl⟩;refine codeAny_builtin F.entry_min_loop ?_;rw [Around.under_plainId F.plain_min_loop _];show wpAny _ A.in1 (seqItems? (.ref S) >>= _) _ _ s;refine wpAny_bind (wpAny_seqItems hS rfl ?_);show wpAny _ A.in1 (tryCatch (pyNext (.ref it)) _ >>= _) _ _ s;refine wpAny_bind (wpAny_tryCatch (wpAny_pyNext_list_end hh hit isl (by have:=rv.length; simp; omega) fun h1 k1=>?_));have hS1:=k1 S _ hIS hS;have s1:=Heap.SameBut.update h1 S (Obj.mapSeq fun _=>(#[]:Array Value));show wpAny _ A.in1 (updateSeq S (fun _=>#[]) >>= _) _ _ _;refine wpAny_bind (wpAny_updateSeq hS1 rfl (wpAny_bind (wpAny_letGo (wpAny_pure ?_))));have k2:∀ b o,b≠S->h1.get? b=some o->(h1.update S (Obj.mapSeq fun _=>(#[]:Array Value))).get? b=some o:=fun b o nb e=>(s1.2 b nb).trans e;refine⟨best,H,os,e0.bare,zfV (zfV U i1 fun b o nb e=>k1 b o nb e) i2 k2,e0.hok.stays fun b u e o q=>k2 b o (zE e nS) (k1 b o (zE e nI) q),rb,hq (by omega)⟩
 | succ d ih =>
  intro n s H best bu kb tb c hn e0 U os hw hit nI hS nS rb hf hc C;obtain⟨xs,hL,hl,hstep,_⟩:=hW n best kb H hw;obtain⟨hz,its,cap,rv,el⟩:=(show ObjOk P w H s.heap l (.lst xs) from e0.hok l _ hl);have isl:s.heap.IsList l its.toArray:=⟨_,el,rfl,_,rfl⟩;have hx:=getElem?_eq_getElem (show n<xs.length by omega);generalize xs[n]'(by omega)=v at hx;obtain⟨u,eu,ru⟩:=rv.get hx;refine codeAny_builtin F.entry_min_loop ?_;rw [Around.under_plainId F.plain_min_loop _];show wpAny _ A.in1 (seqItems? (.ref S) >>= _) _ _ s;refine wpAny_bind (wpAny_seqItems hS rfl ?_);show wpAny _ A.in1 (tryCatch (pyNext (.ref it)) _ >>= _) _ _ s;refine wpAny_bind (wpAny_tryCatch (wpAny_pyNext_list_item hit isl (x:=u) (by simpa using eu) fun h1 hit1 hs1=>?_));have k1:∀ b o,b≠it->s.heap.get? b=some o->h1.get? b=some o:=fun b o nb e=>hs1.extBut b o nb e;have hz1:s.heap.objs.size<=h1.objs.size:=le_of_eq hs1.1.symm;have e1:Env0 P w K mg base A.in1 outer { s with heap:=h1 } H:=e0.own nI (le_trans b1 i1) nIf k1 hz1 s.toks;have C1:Caps H h1 cl caps cs:=C.own (fun x c e=>ne_of_lt (lt_of_lt_of_le (cb x c e) i1)) k1;show wpAny _ A.in1 (tryCatch (holding [u] (call (.ref f) [u])) _ >>= _) _ _ _;refine wpAny_bind (wpAny_tryCatch (wpAny_holding (zj2 (k:=k) (s:={ s with heap:=h1 }) SC hr.in1 e1 hf hc hbind ru C1 (hb _ _) (hstep v hx) fun u2 s2 z=>?_)));obtain⟨kv,H2,os2,bare2,U2,hok2,r2,j,rfl,hj⟩:=z;obtain⟨t2,rfl⟩:=r2;have hS1:=k1 S _ hIS hS;have hS2:=U2.keep S _ hS1 nS nSf (by simp);obtain⟨oI,eI,cI,dI⟩:=id hit1;have eI2:=U2.keep it _ eI nI nIf (by simp);have hit2:s2.heap.IsListIter it l (n+1):=⟨oI,eI2,cI,dI⟩;have nI2:H2 it=none:=U2.free it _ eI nI (by simp);have nS2:H2 S=none:=U2.free S _ hS1 nS (by simp);have bz:base.objs.size<=s2.heap.objs.size:=le_trans b1 (le_trans i1 (le_of_lt (lt_size eI2)));have e2:=e1.after U2 hok2 bare2 bz;have U02:Un (frs outer) [] H0 H2 s0.heap s2.heap:=(zfV U i1 k1).trans U2;have C2:=C1.after U2;have f2:=U2.frzs _ _ _ hf;have c2:=hc.un U2;have osz:s2.os=s0.os:=os2.trans os;show wpAny _ A.in1 (tryCatch (holding [u,.int j t2] (richCompare .Lt (.int j t2) (.int kb tb) >>= _)) _ >>= _) _ _ _;refine wpAny_bind (wpAny_tryCatch (wpAny_holding (wpAny_bind (CmpOf.ints_lt (prog:=P) (w:=w) (A:=A.in1) (P:=fun i v=>∃ t,v=.int (if i=0 then kb else j) t) (fun i=>if i=0 then kb else j) (fun i v h=>h) 1 0 _ _ _ _ _ ⟨t2,rfl⟩ ⟨tb,rfl⟩ ?_))));refine wpAny_bind (wpAny_holding (wpAny_truthy_bool ?_));refine wpAny_bind (wpAny_letGo (wpAny_pure ?_));by_cases hb':j<kb
  ·rw [if_pos hb'] at hj;have s3:=Heap.SameBut.update s2.heap S (Obj.mapSeq fun _=>#[u,.int j t2]);obtain⟨cc,hcc⟩:∃ cc,(s2.heap.update S (Obj.mapSeq fun _=>#[u,.int j t2])).get? S=some (seqObj "list" #[u,.int j t2] cc):=⟨_,get?_update_seq hS2 fun _=>#[u,.int j t2]⟩;have k3:∀ b o,b≠S->s2.heap.get? b=some o->(s2.heap.update S (Obj.mapSeq fun _=>#[u,.int j t2])).get? b=some o:=fun b o nb e=>(s3.2 b nb).trans e;simp only [if_true,Nat.one_ne_zero,if_false,hb',decide_true];refine wpAny_bind ?_;refine wpAny_updateSeq hS2 rfl (wpAny_bind (wpAny_letGo ?_));rw [hname];refine wpAny_pure ⟨plainId_quiet F.plain_min_loop _,ih (n+1) { s2 with heap:=s2.heap.update S (Obj.mapSeq fun _=>#[u,.int j t2]) } H2 v u j t2 cc (by omega) (e2.own nS2 (le_trans b1 i2) nSf k3 (le_of_eq s3.1.symm) s2.toks) (zfV U02 i2 k3) osz hj ⟨oI,k3 it oI (Ne.symm hIS) eI2,cI,dI⟩ nI2 hcc nS2 ru f2 c2 (C2.own (fun x c e=>ne_of_lt (lt_of_lt_of_le (cb x c e) i2)) k3)⟩
  ·rw [if_neg hb'] at hj;simp only [if_true,Nat.one_ne_zero,if_false,hb',decide_false,Bool.false_eq_true];refine wpAny_bind (wpAny_letGo ?_);rw [hname];exact wpAny_pure ⟨plainId_quiet F.plain_min_loop _,ih (n+1) s2 H2 best bu kb tb c (by omega) e2 U02 osz hj hit2 nI2 hS2 nS2 rb f2 c2 C2⟩
end
end L2
namespace L2
open PySem PySem.Spec PySem.Calls PyProof.Rows
open Sem (wp)
theorem zln(a f v:Value):argsOk "min" ⟨[a],[(Str.ofString "key",f),(Str.ofString "default",v)]⟩:=by unfold argsOk; kernel_rfl
section
variable {X:Cx} {zh:List (Addr×Obj)} {σ:St} {H:Hp} {s:Shared} {k:Nat} {x:Str} {caps:List Str} {qual:Str} {params:Arguments} {body:Expr} {scope:Scope} {cl:List (Str×Addr)} {pm ctv:Value} {c' f l:Addr} {cs xs:List V} {Q:VK} {t:TE} {E:Value->Shared->Prop}
theorem zjz{W:Nat->V->Int->Hp->Prop}(SC:LamScope [x] caps scope)(hr:Room (k+2) X.A)(hbind:∀ u,bindArgs (PySem.W.kla_fn "<lambda>" qual params body scope cl pm (.ref c') ctv) ⟨[u],[]⟩=pure [(x,u)])
  (hb:∀ s H,PE (cxL X.prog X.w X.K X.mg X.base ([x]++caps) qual scope cl f (.ref c') X.A.in1 X.stack s H) body t) (hW:MinW l xs.length cs t Q W)
  (I:Inv X zh σ H s) (hl:H l=some (.lst xs)) (h0:xs=[]->Q .non H) (h1:∀ v,xs[0]? = some v->t (some v :: cs.map some) H fun kv H'=>∃ j,kv=.int j/\W 1 v j H')
  (hf:H f=some (.frz (zeU qual params body scope cl pm c' ctv) (.own 0))) (hc:CodeFz H c' qual) (C:Caps H s.heap cl caps cs) :
  wpAny (model X.prog X.w) X.A (call (.builtin "min") [.ref l] [(Str.ofString "key",.ref f),(Str.ofString "default",.none)]) (EP X zh σ Q) E s:=by
 have nm:(toString "min" ++ toString ".loop":String) = "min.loop":=by decide
 have e0:Env0 X.prog X.w X.K X.mg X.base X.A.in1 X.stack s H:=I.env0.in1;have hh:X.A.in1.handled=none:=hr.hd;obtain⟨hz,its,cap,rv,el⟩:=(show ObjOk X.prog X.w H s.heap l (.lst xs) from I.hok l _ hl);have isl:s.heap.IsList l its.toArray:=⟨_,el,rfl,_,rfl⟩;have lt:l<s.heap.objs.size:=lt_size el;have ffr:∀ b∈frs X.stack,b<s.heap.objs.size:=fun b hb=>by
  obtain⟨_,o,ho,_⟩:=I.stack.mem hb;exact lt_size ho
 have cb:∀ x c,cl.lookup x=some c->c<s.heap.objs.size:=fun x c e=>by
  obtain⟨_,v,o,ho,_⟩:=C.free x c e;exact lt_size ho
 have b1:X.base.objs.size<=s.heap.objs.size:=e0.bsz;refine kmk_tree F.kind_min F.plain_min F.entry_min (zln _ _ _) ?_;show wpAny _ X.A.in1 (Builtin.Builtins.bindParams "min" ["key","default"] 0 ⟨[],[(Str.ofString "key",.ref f),(Str.ofString "default",.none)]⟩ >>= _) _ _ s;refine wpAny_bind (wpAny_of_eq (show Builtin.Builtins.bindParams "min" ["key","default"] 0 ⟨[],[(Str.ofString "key",.ref f),(Str.ofString "default",.none)]⟩=pure [some (.ref f),some .none] from rfl) (wpAny_bind (wpAny_pure (wpAny_bind (wpAny_pyIter_list isl ?_)))));refine wpAny_bind (wpAny_newObj_type ?_);rw [nm];have z1:(s.heap.push { cls:=.type "list_iterator",data:=.fields #[.ref l,.int 0 0] }).objs.size=s.heap.objs.size+1:=size_push ..;generalize hg1:s.heap.push { cls:=.type "list_iterator",data:=.fields #[.ref l,.int 0 0] } = g1 at z1 ⊢;have gI:g1.get? s.heap.objs.size=some { cls:=.type "list_iterator",data:=.fields #[.ref l,.int 0 0] }:=by rw [<- hg1]; exact get?_push_size _ rfl
 have kp1:∀ b o,s.heap.get? b=some o->g1.get? b=some o:=fun b o e=>by rw [<- hg1]; exact get?_push_of_some _ e
 generalize hg2:g1.push { cls:=.type "list",data:=.seq #[] } = g2;have gS:g2.get? g1.objs.size=some (seqObj "list" #[] 0):=by rw [<- hg2]; exact get?_push_size _ rfl
 have kp2:∀ b o,g1.get? b=some o->g2.get? b=some o:=fun b o e=>by rw [<- hg2]; exact get?_push_of_some _ e
 have kp:∀ b o,s.heap.get? b=some o->g2.get? b=some o:=fun b o e=>kp2 b o (kp1 b o e);have zz:s.heap.objs.size<=g2.objs.size:=le_trans (show s.heap.objs.size<=g1.objs.size by rw [z1]; exact le_succ _) (le_of_lt (lt_size gS));have I2:Inv X zh σ H { s with heap:=g2 }:=I.kept (t':=s.toks) kp;have e2:Env0 X.prog X.w X.K X.mg X.base X.A.in1 X.stack { s with heap:=g2 } H:=I2.env0.in1;have hIS:g1.objs.size≠s.heap.objs.size:=by rw [z1]; exact succ_ne_self _
 have i2:s.heap.objs.size<=g1.objs.size:=by rw [z1]; exact le_succ _
 have nI:H s.heap.objs.size=none:=I.hok.fresh (le_refl _);have nS:H g1.objs.size=none:=I.hok.fresh i2;have nIf:s.heap.objs.size∉frs X.stack:=fun m=>absurd (ffr _ m) (lt_irrefl _);have nSf:g1.objs.size∉frs X.stack:=fun m=>absurd (lt_of_lt_of_le (ffr _ m) i2) (lt_irrefl _);have U2:Un (frs X.stack) [] H H s.heap g2:=Un.kept kp;have C2:Caps H g2 cl caps cs:=C.after U2;have isl2:g2.IsList l its.toArray:=⟨_,kp _ _ el,rfl,_,rfl⟩;have hit:g2.IsListIter s.heap.objs.size l 0:=⟨_,kp2 _ _ gI,rfl,rfl⟩;refine wpAny_pure ⟨plainId_quiet F.plain_min_loop _,?_⟩;show codeAny _ X.A (.builtin "min.loop" ⟨[.ref s.heap.objs.size,.ref f,.ref g1.objs.size],[(Str.ofString "default",.none)]⟩) _ { s with heap:=g2 };refine codeAny_mono (R:=fun r s'=>match r with | .ok (.ret u)=>CE X.stack X.prog X.w H s Q u s' | _=>False) ?_ fun r s' z=>?_
 rotate_left
 ·cases r with
  | error e=>exact z.elim
  | ok fl =>
   cases fl with
   | ret u=>exact I.after z
   | next=>exact z.elim
   | brk=>exact z.elim
   | cont=>exact z.elim
 refine codeAny_builtin F.entry_min_loop ?_;rw [Around.under_plainId F.plain_min_loop _];show wpAny _ X.A.in1 (seqItems? (.ref g1.objs.size) >>= _) _ _ _;refine wpAny_bind (wpAny_seqItems gS rfl ?_);show wpAny _ X.A.in1 (tryCatch (pyNext (.ref s.heap.objs.size)) _ >>= _) _ _ _;cases hxs:xs with
 | nil =>
  subst hxs;have hi:its=[]:=by cases rv; rfl
  refine wpAny_bind (wpAny_tryCatch (wpAny_pyNext_list_end (s:={ s with heap:=g2 }) hh hit isl2 (by rw [hi]; rfl) fun h3 k3=>?_));refine wpAny_bind (wpAny_rule (wpAny_pure ?_));exact⟨.non,H,rfl,I.bare,zfV U2 (le_refl _) k3,e2.hok.stays fun b u e o q=>k3 b o (zE e nI) q,rfl,h0 rfl⟩
 | cons v r =>
  have hx:xs[0]? = some v:=by rw [hxs]; rfl
  obtain⟨u,eu,ru⟩:=rv.get hx;refine wpAny_bind (wpAny_tryCatch (wpAny_pyNext_list_item (s:={ s with heap:=g2 }) hit isl2 (x:=u) (by simpa using eu) fun h3 hit3 hs3=>?_));have k3:∀ b o,b≠s.heap.objs.size->g2.get? b=some o->h3.get? b=some o:=fun b o nb e=>hs3.extBut b o nb e;have e3:Env0 X.prog X.w X.K X.mg X.base X.A.in1 X.stack { s with heap:=h3 } H:=e2.own nI b1 nIf k3 (le_of_eq hs3.1.symm) s.toks;have C3:Caps H h3 cl caps cs:=C2.own (fun x c e=>ne_of_lt (cb x c e)) k3;show wpAny _ X.A.in1 (tryCatch (holding [u] (call (.ref f) [u])) _ >>= _) _ _ _;refine wpAny_bind (wpAny_tryCatch (wpAny_holding (zj2 (k:=k) (s:={ s with heap:=h3 }) SC hr.in1 e3 hf hc hbind ru C3 (hb _ _) (h1 v hx) fun u2 s2 z=>?_)));obtain⟨kv,H2,os2,bare2,U3,hok2,r2,j,rfl,hj⟩:=z;obtain⟨t2,rfl⟩:=r2;have hS3:=k3 _ _ hIS gS;have hS2:=U3.keep _ _ hS3 nS nSf (by simp);obtain⟨oI,eI,cI,dI⟩:=id hit3;have eI2:=U3.keep _ _ eI nI nIf (by simp);have nI2:H2 s.heap.objs.size=none:=U3.free _ _ eI nI (by simp);have nS2:H2 g1.objs.size=none:=U3.free _ _ hS3 nS (by simp);have bz:X.base.objs.size<=s2.heap.objs.size:=le_trans b1 (le_of_lt (lt_size eI2));have e4:=e3.after U3 hok2 bare2 bz;have U4:Un (frs X.stack) [] H H2 s.heap s2.heap:=(zfV U2 (le_refl _) k3).trans U3;have s3:=Heap.SameBut.update s2.heap g1.objs.size (Obj.mapSeq fun _=>#[u,.int j t2]);obtain⟨cc,hcc⟩:∃ cc,(s2.heap.update g1.objs.size (Obj.mapSeq fun _=>#[u,.int j t2])).get? g1.objs.size=some (seqObj "list" #[u,.int j t2] cc):=⟨_,get?_update_seq hS2 fun _=>#[u,.int j t2]⟩;have k4:∀ b o,b≠g1.objs.size->s2.heap.get? b=some o->(s2.heap.update g1.objs.size (Obj.mapSeq fun _=>#[u,.int j t2])).get? b=some o:=fun b o nb e=>(s3.2 b nb).trans e;show wpAny _ X.A.in1 (updateSeq g1.objs.size (fun _=>#[u,.int j t2]) >>= _) _ _ _;refine wpAny_bind (wpAny_updateSeq hS2 rfl ?_);rw [nm];refine wpAny_pure ⟨plainId_quiet F.plain_min_loop _,zjD (k:=k) SC hr hbind hb hW b1 (le_refl _) i2 hIS cb ffr r.length 1 { s2 with heap:=s2.heap.update g1.objs.size (Obj.mapSeq fun _=>#[u,.int j t2]) } H2 v u j t2 cc (by rw [hxs,length_cons]; omega) (e4.own nS2 (le_trans b1 i2) nSf k4 (le_of_eq s3.1.symm) s2.toks) (zfV U4 i2 k4) os2 hj ⟨oI,k4 _ oI (Ne.symm hIS) eI2,cI,dI⟩ nI2 hcc nS2 ru (U3.frzs _ _ _ hf) (hc.un U3) ((C3.after U3).own (fun x c e=>ne_of_lt (lt_of_lt_of_le (cb x c e) i2)) k4)⟩
end
end L2
namespace L2
open PySem PySem.Spec PySem.Calls PyProof.Rows
open Sem (wp)
def zeu(DN:List Str)(dsc:List (Str×NameKind))(sc:Scope)(ps caps:List Str)(ks:List Nat):Bool :=
 (ks.length == caps.length) && decide ((ps++caps).Nodup) && ps.all (fun x=>sc.names.lookup x == some .local) && caps.all (fun x=>sc.names.lookup x == some .free && dsc.lookup x == some .cell) &&
 sc.names.all (fun y=>y.2 != .cell && (y.2 != .free || caps.contains y.1)) && (ks.zip caps).all (fun p=>DN[p.1]? == some p.2)
section
variable {X:Cx} {zh:List (Addr×Obj)} {σ:St} {H:Hp} {s:Shared} {dsc scope:Scope} {L:Nat} {ps caps:List Str} {ks:List Nat}
theorem zf8(hk:scope.kind=.function)(hco:scope.isCoroutine=false)(hg:scope.isGenerator=false)(h:zeu X.N dsc.names scope ps caps ks=true):LamScope ps caps scope:=by
 simp only [zeu,Bool.and_eq_true,all_eq_true,beq_iff_eq,decide_eq_true_eq] at h;obtain⟨⟨⟨⟨⟨_,nd⟩,hp⟩,hc⟩,hn⟩,_⟩:=h;refine⟨hk,hco,hg,nd,hp,fun x hx=>(hc x hx).1,fun y hy e=>?_,fun x e=>?_⟩
 ·have:=(hn y hy).1;rw [e] at this;simp at this
 ·have:=(hn _ (PySem.mem_of_lookup e)).2;simpa using this
theorem zhj(hd:X.env.scope=dsc)(hc:X.env.cells=cellsFrom L dsc.names [])(h:zeu X.N dsc.names scope ps caps ks=true):closureFor scope X.env=pure (zi2 X.env scope.names []):=by
 subst hd;simp only [zeu,Bool.and_eq_true,all_eq_true,beq_iff_eq,decide_eq_true_eq] at h;obtain⟨⟨⟨⟨⟨_,nd⟩,hp⟩,hcp⟩,hn⟩,_⟩:=h;refine zef fun y hy e=>?_;have:=(hn y hy).2;rw [e] at this;rw [hc];exact W.cellsFrom_some _ _ _ (.inl (hcp _ (by simpa using this)).2)
theorem zkt{cs:List V}(I:Inv X zh σ H s)(hd:X.env.scope=dsc)(hc:X.env.cells=cellsFrom L dsc.names [])(h:zeu X.N dsc.names scope ps caps ks=true)(hσ:ks.map (fun i=>(σ[i]?).join)=cs.map some):Caps H s.heap (zi2 X.env scope.names []) caps cs:=by
 have hcl:=zhj hd hc h;subst hd;simp only [zeu,Bool.and_eq_true,all_eq_true,beq_iff_eq,decide_eq_true_eq] at h;obtain⟨⟨⟨⟨⟨hl,nd⟩,hp⟩,hcp⟩,hn⟩,hz⟩:=h;have hsome:∀ x,X.env.scope.names.lookup x=some .cell->(X.env.cells.lookup x).isSome=true:=fun x e=>by
  rw [hc];exact W.cellsFrom_some _ _ _ (.inl e)
 have sub:∀ x c,(zi2 X.env scope.names []).lookup x=some c->X.env.cells.lookup x=some c/\x∈caps:=fun x c e=>by
  rcases zg3 (PySem.mem_of_lookup e) with q | ⟨q,ec⟩
  ·cases q
  ·have hx:x∈caps:=by have:=(hn _ q).2; simpa using this
   obtain⟨c',hc'⟩:=isSome_iff_exists.mp (hsome x (hcp x hx).2);refine⟨?_,hx⟩;rw [ec,hc'];rfl
 have has:∀ x∈caps,∃ c,(zi2 X.env scope.names []).lookup x=some c:=fun x hx=>by
  obtain⟨c,hm⟩:=zfg (env:=X.env) (acc:=[]) (PySem.mem_of_lookup (hcp x hx).1);exact zb0 hm
 have lc:cs.length=caps.length:=by
  have:=congrArg List.length hσ;simp only [length_map] at this;omega
 refine⟨lc,fun x y c h1 h2=>I.ok.inj x y c (sub x c h1).1 (sub y c h2).1,fun x=>⟨has x,fun⟨c,e⟩=>(sub x c e).2⟩,fun i x v e1 e2=>?_,fun x c e=>⟨I.freeC x c (sub x c e).1,I.cell x c (sub x c e).1⟩⟩;obtain⟨c,ec⟩:=has x (mem_of_getElem? e1);have hi:i<ks.length:=by
  have:=(List.getElem?_eq_some_iff.mp e1).1;omega
 have ek:=getElem?_eq_getElem hi;have hsl:(σ[ks[i]]?).join=some v:=by
  have:=congrArg (fun l=>l[i]?) hσ;simp only [getElem?_map,e2,ek,map_some] at this;exact Option.some.inj this
 have hsv:σ[ks[i]]? = some (some v):=by
  cases q:σ[ks[i]]? with
  | none=>rw [q] at hsl; cases hsl
  | some a=>rw [q] at hsl; rw [show a=some v from hsl]
 have hN:X.N[ks[i]]? = some x:=hz (ks[i],x) (mem_of_getElem? (i:=i) (by rw [getElem?_zip_eq_some]; exact⟨ek,e1⟩));have hcell:=(hcp x (mem_of_getElem? e1)).2;obtain⟨m,_,hl'⟩:=I.loc;obtain⟨u,rv,lk⟩:=hl' _ x v hN hsv (.inr (.inl hcell));rcases lk with ⟨k1,_⟩ | ⟨_,c',q1,q2⟩
 ·exact absurd ((show X.env.kindOf x=some .cell from hcell).symm.trans k1) dz
 ·rw [(sub x c ec).1] at q1;cases q1;exact⟨c,u,ec,rv,q2⟩
end
def mlP(ks:List Nat)(tb:TE)(σ:St)(Q:VK)(x:V)(H1:Hp):Prop:=∃ l xs cs,x=.ref l/\H1 l=some (.lst xs)/\ks.map (fun i=>(σ[i]?).join)=cs.map some/\∀ H2,Same H1 H2 ->
 ∃ W,MinW l xs.length cs tb Q W/\(xs=[]->Q .non H2)/\∀ v,xs[0]? = some v->tb (some v :: cs.map some) H2 fun kv H'=>∃ j,kv=.int j/\W 1 v j H'
def mlQ(ks:List Nat)(tb:TE)(σ:St)(Q:VK):List V->Hp->Prop
 | [x],H1=>mlP ks tb σ Q x H1
 | _,_=>False
def znE(ks:List Nat)(te tb:TE):TE:=fun σ H Q=>te σ H fun x H1=>mlP ks tb σ Q x H1
theorem ziB{X:Cx}{e body:Expr}{te tb:TE}{dsc scope:Scope}{L k:Nat}{x:Str}{caps:List Str}{ks:List Nat}{params:Arguments}{c P:Addr}{p pos kp kp2 cp lp:Pos}{cj:Nat}
  (hT:((c,P),lamKey (X.env.qual ++ "<lambda>") lp)∈tabsG) (hcode:X.env.code=.ref c) (hd:X.env.scope=dsc) (hc:X.env.cells=cellsFrom L dsc.names []) (hk:scope.kind=.function) (hco:scope.isCoroutine=false) (hgn:scope.isGenerator=false) (hl:zeu X.N dsc.names scope [x] caps ks=true)
  (hdf:defaultsOf params X.env=([],[])) (hbind:∀ cl pm c' ctv u,bindArgs (PySem.W.kla_fn "<lambda>" (X.env.qual ++ "<lambda>") params body scope cl pm (.ref c') ctv) ⟨[u],[]⟩=pure [(x,u)])
  (hr:Room (k+2) X.A) (hg:Gl X "min") (hm:X.mg "min" = none) (he':PE X e te)
  (hb:∀ cl f c' s H,Room k (X.A.in1.deeper (PySem.W.envX (X.env.qual ++ "<lambda>") scope s.heap.objs.size f (.ref c') cl))->PE (cxL X.prog X.w X.K X.mg X.base ([x]++caps) (X.env.qual ++ "<lambda>") scope cl f (.ref c') X.A.in1 X.stack s H) body tb)
  (he0:starEach [e] X.env=(false,eval e X.env) :: starEach [] X.env:=by rfl) (he:backTo pos (starEach [e] X.env)=(false,eval e X.env) :: backTo pos (starEach [] X.env):=by rfl) (hpl:(backTo pos (starEach [e] X.env)).any (·.1)=false:=by rfl) :
  PE X (.Call (.Name "min" p) [e] [⟨some "key",.Lambda params body scope lp,kp⟩,⟨some "default",.Constant .none cj cp,kp2⟩] pos) (znE ks te tb):=by
 intro zh s σ H Q I h;refine wpAny_Call_Name_kw (zcF I hg hm zie ?_ dz dz);refine PyProof.Rows.callWith_kw (thn (za he' zc he0 pos zh s σ H (mlQ ks tb σ Q) I h) fun us s1 ⟨vs,H1,I1,r1,q1⟩=>?_) he hpl rfl rfl
 match vs,r1,q1 with
 | [v],.cons rv .nil,⟨l,xs,cs,ev,el,hcs,hW⟩ =>
  subst ev;cases rv;refine PyProof.Rows.kws_cons (PySem.W.kla_eval hdf (zj4 I1 hcode hT (zhj hd hc hl) fun f c' ctv pm H2 s2 I2 sm nf hf hcf=>PyProof.Rows.kws_cons (Constant_none (PyProof.Rows.kws_nil ?_))));obtain⟨W,w1,w2,w3⟩:=hW H2 sm;exact zjz (k:=k) (zf8 (X:=X) hk hco hgn hl) hr (fun u=>hbind _ _ _ _ u) (fun s H=>hb _ _ _ s H (hr.in1.deeper _)) w1 I2 (sm _ _ el) w2 w3 hf hcf (zkt I2 hd hc hl hcs)
def zgb(ks:List Nat)(de db:DE):DE:=fun δ S R=>de δ S fun x S1=>∃ (ds:List PyData) (cs:List XV) (kf:PyData->Int),ziG S1 x=some ds/\ks.map (fun i=>(δ[i]?).join)=cs.map some /\
 (∀ d∈ds,∀ R':RX,R' (.d (.int (kf d))) S1->db (some (.d d) :: cs.map some) S1 R')/\(ds=[]->R (.d .none) S1) /\
 ∀ pre d post,ds=pre++d :: post->(∀ a∈pre,kf d<kf a)->(∀ a∈post,kf d<=kf a)->R (.d d) S1
theorem zfO{h o:List Addr}{H:Hp}{δ:XE}{σ:St}(r:RepE h o H δ σ):∀ {ks:List Nat} {cs:List XV},ks.map (fun i=>(δ[i]?).join)=cs.map some->∃ vs:List V,ks.map (fun i=>(σ[i]?).join)=vs.map some/\HasXs h o H cs vs
 | [],[],_=>⟨[],rfl,rfl⟩
 | [],_ :: _,e=>by simp at e
 | _ :: _,[],e=>by simp at e
 | k :: ks,x :: cs,e=>by
  simp only [map_cons,List.cons.injEq] at e;obtain⟨e1,e2⟩:=e;have e3:δ[k]? = some (some x):=by
   cases q:δ[k]? with
   | none=>rw [q] at e1; cases e1
   | some a=>rw [q] at e1; rw [show a=some x from e1]
  obtain⟨v,e4,hv⟩:=r.get k x e3;obtain⟨vs,e5,hl⟩:=zfO r e2;refine⟨v :: vs,?_,v,vs,rfl,hv,hl⟩;simp only [map_cons,e4,e5];rfl
theorem zhN{ks:List Nat}{te tb:TE}{de db:DE}(h1:RE te de)(h2:RE tb db):RE (znE ks te tb) (zgb ks de db):=fun h o H δ σ S R Q he hs q c =>
 h1 h o H δ σ S _ _ he hs q fun o1 H1 S1 x v e1 s1 x1 ⟨ds,cs,kf,ek,hcs,hk,h0,hf⟩=>by
  obtain⟨a,vs,rfl,ea,l⟩:=zbb s1 ek x1;obtain⟨cvs,hcv,hx⟩:=zfO (he.mono e1) hcs;refine⟨a,vs,cvs,rfl,ea,hcv,fun H2 sm=>?_⟩;have lv:vs.length=ds.length:=l.length;have at_:∀ o' H',Ex o1 H1 o' H'->RepS h o' H' S1->∃ xs,xs.length=vs.length/\H' a=some (.lst xs)/\HasL (vx h o' H') ds xs:=fun o' H' e' s'=>by
   obtain⟨a',xs,ea',q1,q2⟩:=zbb s' ek (x1.mono e');cases ea';exact⟨xs,q2.length.trans lv.symm,q1,q2⟩
  have step:∀ o' H',Ex o1 H1 o' H'->RepS h o' H' S1->∀ d',d'∈ds->∀ v',HasX h o' H' (.d d') v'->∀ Q':VK,(∀ o2 H3,Ex o1 H1 o2 H3->RepS h o2 H3 S1->Ex o' H' o2 H3->Q' (.int (kf d')) H3)->tb (some v' :: cvs.map some) H' Q':=by
   intro o' H' e' s' d' hd v' hv Q' hQ;have rp:RepE h o' H' (some (.d d') :: cs.map some) (some v' :: cvs.map some):=by
    have:=zbr (n:=0) (show HasXs h o' H' (.d d' :: cs) (v' :: cvs) from⟨v',cvs,rfl,hv,hx.mono e'⟩);simpa using this
   refine h2 h o' H' _ _ S1 (fun kv S'=>kv=.d (.int (kf d'))/\S'=S1) _ rp s' (hk d' hd _ ⟨rfl,rfl⟩) fun o2 H3 S2 x v e2 s2 x2 ⟨ex,eS⟩=>?_;subst ex eS;obtain rfl:=zb8.mp (show Has (vx h o2 H3) (.int (kf d')) v from x2);exact hQ o2 H3 (e'.trans e2) s2 e2
  refine⟨fun n best kb H'=>∃ o' pre d post post2,Ex o1 H1 o' H'/\RepS h o' H' S1/\ds=pre++d :: (post++post2)/\n=pre.length+1+post.length/\HasX h o' H' (.d d) best/\kb=kf d/\(∀ a∈pre,kf d<kf a)/\∀ a∈post,kf d<=kf a,fun n best kb H' ⟨o',pre,d,post,post2,ex,rs,ed,en,hb,ekb,hp,hq⟩=>?_,fun z=>?_,fun v hv=>?_⟩
  ·obtain⟨xs,lx,ex',lx2⟩:=at_ o' H' ex rs;have dl:ds.length=n+post2.length:=by rw [ed]; simp only [length_append,length_cons]; omega
   refine⟨xs,lx,ex',fun v' hv=>?_,fun hn=>?_⟩
   ·have hlt:n<ds.length:=by have:=(List.getElem?_eq_some_iff.mp hv).1; omega
    cases post2 with
    | nil=>simp only [length_nil] at dl; omega
    | cons d' post2 =>
     have edn:ds[n]? = some d':=by
      rw [ed,show pre++d :: (post++d' :: post2)=(pre++d :: post)++d' :: post2 by simp,getElem?_append_right (by simp only [length_append,length_cons]; omega),show n - (pre++d :: post).length=0 by simp only [length_append,length_cons]; omega];rfl
     obtain⟨v2,e2,hv2⟩:=lx2.get edn;rw [hv] at e2;cases e2;refine step o' H' ex rs d' (mem_of_getElem? edn) v' hv2 _ fun o2 H3 e3 s3 e4=>⟨kf d',rfl,?_⟩;by_cases hj:kf d'<kb
     ·rw [if_pos hj];refine⟨o2,pre++d :: post,d',[],post2,e3,s3,by rw [ed]; simp,by simp only [length_append,length_cons,length_nil]; omega,HasX.mono e4 (x:=.d d') hv2,rfl,fun a ha=>?_,fun a z=>nomatch z⟩;rcases mem_append.mp ha with ha | ha
      ·have:=hp a ha; omega
      ·rcases mem_cons.mp ha with rfl | ha
       ·omega
       ·have:=hq a ha; omega
     ·rw [if_neg hj];refine⟨o2,pre,d,post++[d'],post2,e3,s3,by rw [ed]; simp,by simp only [length_append,length_cons,length_nil]; omega,HasX.mono e4 (x:=.d d) hb,ekb,hp,fun a ha=>?_⟩;rcases mem_append.mp ha with ha | ha
      ·exact hq a ha
      ·rw [mem_singleton.mp ha]; omega
   ·have p2:post2=[]:=eq_nil_of_length_eq_zero (by omega);subst p2;exact c o' H' S1 (.d d) best (e1.trans ex) rs hb (hf pre d post (by rw [ed,append_nil]) hp hq)
  ·subst z;exact c o1 H2 S1 (.d .none) _ (e1.trans (Ex.of_same sm)) (s1.same sm) xN (h0 (eq_nil_of_length_eq_zero lv.symm))
  ·have ex:=Ex.of_same (o:=o1) sm;cases ds with
   | nil=>rw [eq_nil_of_length_eq_zero lv] at hv; cases hv
   | cons d rest =>
    obtain⟨v2,e2,hv2⟩:=l.get (i:=0) (d:=d) rfl;rw [hv] at e2;cases e2;refine step o1 H2 ex (s1.same sm) d mem_cons_self v (HasX.mono ex (x:=.d d) hv2) _ fun o2 H3 e3 s3 e4=>⟨kf d,rfl,o2,[],d,[],rest,e3,s3,rfl,rfl,HasX.mono e3 (x:=.d d) hv2,rfl,(fun a z=>nomatch z),fun a z=>nomatch z⟩
end L2
namespace L2
open PySem PySem.Spec PySem.Calls PyProof.Rows
def zpa(ta:TA):TE:=fun σ H Q=>ta σ H fun vs H1=>∃ j:Int,vs=[.int j]/\0<=j/\j<=1000/\∀ l,H1 l=none->Q (.ref l) (upd H1 l (.lst ((List.range j.toNat).map fun k:Nat=>V.int (0+k))))
theorem zot{X:Cx}{a:Expr}{ta:TA}{p p' pos pos':Pos}(hc:X.calm=true)(hgl:Gl X "list")(hml:X.mg "list" = none)(hg:Gl X "range")(hm:X.mg "range" = none)(ha:PA X [a] ta)
  (hs:starEach [a] X.env=[(false,eval a X.env)]:=by rfl)
  (hs3:starEach [.Call (.Name "range" p) [a] [] pos] X.env=[(false,eval (.Call (.Name "range" p) [a] [] pos) X.env)]:=by rfl) :
  PE X (.Call (.Name "list" p') [.Call (.Name "range" p) [a] [] pos] [] pos') (zpa ta):=by
 intro zh s σ H Q I h;refine wpAny_Call_Name_kw (zcF I hgl hml zhb ?_ dz dz);refine PyProof.Rows.callWith_type1 ?_ (by rw [hs3]; rfl) rfl;rw [hs3];show wpAny _ _ (spliced ((false,eval (.Call (.Name "range" p) [a] [] pos) X.env) :: [])) _ _ s;refine Calls.spliced_cons (Call_ (zcF I hg hm boot_range (PyProof.Rows.callWith_type1 (thn (ha pos zh s σ H _ I h) fun us s1 ⟨vs,H1,I1,r1,q1⟩=>?_) hs rfl)));obtain⟨j,e,h0,hl,q⟩:=q1;subst e;cases r1 with
 | cons r rr =>
  cases rr;obtain⟨t,rfl⟩:=r;refine call_range_1 (Calls.spliced_nil ?_);have I2:=I1.kept (h':=s1.heap.push { cls:=.type "range",data:=.fields #[.int 0 s1.toks,.int j t,.int 1 (s1.toks+1)] }) (t':=s1.toks+2) fun b o e=>get?_push_of_some _ e;have en:Builtin.Range.rangeSize 0 j 1=((j.toNat:Nat):Int):=by rw [rangeSize_one]; split <;> omega
  refine zht (I2.ok.hd hc) (IsRange.new ..) en (by omega) fun h' tk acc c kp e it=>?_;have hv:=zrl it;refine⟨.ref _,_,I2.laid (t':=tk) kp (le_refl _) (show ObjOk X.prog X.w _ h' _ (.lst _) from⟨?_,acc.toList,c,hv,?_⟩),rfl,q _ (I2.hok.fresh (le_refl _))⟩
  ·rw [length_map,length_range,sizeLine_eq];omega
  ·simpa using e
def zkf(a:DA):DE:=fun δ S R=>a δ S fun xs S1=>arg1 xs fun y=>asI y fun j=>(0<=j/\j<=1000)/\R (.d (.list (ze6 0 j.toNat))) S1
theorem zoL{ta:TA}{da:DA}(ha:RA ta da):RE (zpa ta) (zkf da):=fun h o H δ σ S R Q he hs q c =>
 ha h o H δ σ S _ _ he hs q fun o1 H1 S1 xs vs e1 s1 x1 d0=>by
  obtain⟨x,rfl,d2⟩:=zaG d0;obtain⟨j,rfl,hl,d4⟩:=zbj d2;obtain⟨v,rfl,hv⟩:=hxs1 x1;rw [zaT hv];have l:=zfX (H:=vx h o1 H1) ((List.range j.toNat).map fun k:Nat=>0+(k:Int));rw [map_map,map_map] at l;exact⟨j,rfl,hl.1,hl.2,zlv s1 l (c.pre e1) d4⟩
structure CodeAt(K:W.Frag)(mg:Str->Option Value)(x:Str)(c:Addr):Prop where
 ex:∀ f oc od fd osl,mg x=some (.ref f)->K.lookup f=some ⟨oc,od,.func fd,osl⟩->fd.code=.ref c
theorem CodeAt.of{K:W.Frag}{h:Heap}{mg:Str->Option Value}{x:Str}{c P:Addr}(X:K.In h)(G:h.Ns mainGlobals mg)(ht:W.tabIn K x=some (c,P)):CodeAt K mg x c :=
 ⟨fun f oc od fd osl hm hl=>W.law_code X G ht hm (X _ _ hl) rfl⟩
section
variable {P:Program} {w:World} {K:W.Frag} {mg:Str->Option Value} {base:Heap} {x:Str} {st:Stmt} {N ps:List Str} {k:Nat} {c:Addr}
theorem zrU{q:PN}(D:Dd K mg x st ps)(C:CodeAt K mg x c)(S:FnScope N ps (zg st))(n:Nat)(hn:N.length=ps.length+n)
  (hbody:∀ (f:Addr) (A:Around) (outer:List Env) (s:Shared) (H:Hp) (E:XK),Room k (A.deeper (envOfC x (zg st) s.heap.objs.size f (.ref c))) ->
   ∃ t dt,PSs (zf0 CX0 P w K mg base N x (zg st) f (.ref c) A outer s H E).nox (zaK st) t/\RS t dt/\∀ xs S R,q xs S R->dt (zbB S.length R) (xs.map some++List.replicate n none) S):Df P w K mg base x ps (k+1) (spN ps q):=by
 obtain⟨f,fd,F,hm,hb⟩:=D.ex;have kp:=F.kp;obtain⟨oc,od,kV,doc,pm,an,cdv,ct,osl,rfl,lk,hcd⟩:=F.ex;obtain rfl:cdv=.ref c:=C.ex f _ _ _ _ hm lk;refine⟨f,_,zoP lk hcd S (fun vs H Q E h=>h.1) fun A outer s H vs Q E hr ⟨hl,h,o,S',xs,R,hs',hx,hq,c⟩=>?_,hm,kp,hb⟩;obtain⟨t,dt,h1,h2,h3⟩:=hbody f A outer s H E hr;refine⟨t,h1.nox,h2 h o H _ _ S' _ _ ?_ hs' (h3 xs S' R hq) (eok hs' c)⟩;have e:N.length - vs.length=n:=by omega
 unfold start;rw [e];exact zbr hx
theorem zmI{q:PX}(D:Dd K mg x st ps)(C:CodeAt K mg x c)(S:FnScope N ps (zg st))(n:Nat)(hn:N.length=ps.length+n)
  (hbody:∀ (f:Addr) (A:Around) (outer:List Env) (s:Shared) (H:Hp) (E:XK) (EX:EXD),Room k (A.deeper (envOfC x (zg st) s.heap.objs.size f (.ref c))) ->
   ∃ t dt,PSs (zf0 (CX1 P w) P w K mg base N x (zg st) f (.ref c) A outer s H E) (zaK st) t/\RSx E EX t dt/\∀ xs S R,q xs S R EX->dt (zbB S.length R) (xs.map some++List.replicate n none) S):DfX P w K mg base x ps (k+1) (spX ps q):=by
 obtain⟨f,fd,F,hm,hb⟩:=D.ex;have kp:=F.kp;obtain⟨oc,od,kV,doc,pm,an,cdv,ct,osl,rfl,lk,hcd⟩:=F.ex;obtain rfl:cdv=.ref c:=C.ex f _ _ _ _ hm lk;refine⟨f,_,zoP lk hcd S (fun vs H Q E h=>h.1) fun A outer s H vs Q E hr ⟨hl,h,o,S',xs,R,EX,hs',hx,hq,c,cx⟩=>?_,hm,kp,hb⟩;obtain⟨t,dt,h1,h2,h3⟩:=hbody f A outer s H E EX hr;refine⟨t,h1,h2 h o H _ _ S' _ _ ?_ hs' (h3 xs S' R hq) (eok hs' c) cx⟩;have e:N.length - vs.length=n:=by omega
 unfold start;rw [e];exact zbr hx
end
end L2
namespace L2
open PySem PySem.Spec PySem.Calls PyProof.Rows
def zpk(ta:TA):TE:=fun σ H Q=>ta σ H fun vs H1=>∃ i j:Int,vs=[.int i,.int j,.int (-1)]/\(-1000<=i/\i<=1000)/\(-1000<=j/\j<=1000)/\∀ l,H1 l=none->Q (.ref l) (upd H1 l (.lst ((List.range (i - j).toNat).map fun k:Nat=>V.int (i - k))))
theorem zlq{i j:Int}(h1:-1000<=i/\i<=1000)(h2:-1000<=j/\j<=1000):Builtin.Range.rangeSize i j (-1)=(((i - j).toNat:Nat):Int)/\Builtin.Range.small i j (-1)=true:=by
 have e2:Builtin.Range.rangeSize i j (-1)=(((i - j).toNat:Nat):Int):=by
  unfold Builtin.Range.rangeSize;rw [if_neg dz];split
  ·rw [show (- -1:Int)=1 by decide,Int.ediv_one];omega
  ·omega
 refine⟨e2,?_⟩;unfold Builtin.Range.small;rw [e2,if_neg dz];simp only [Builtin.Range.rangeFitsLong,Bool.and_eq_true,Bool.or_eq_true,decide_eq_true_eq,beq_iff_eq];omega
theorem znd{i:Int}{n:Nat}{acc:Array Value}(h:ItemsOf (fun k v=>∃ t,v=.int (i+(k:Int)*(-1)) t) acc n):Vals ((List.range n).map fun k:Nat=>V.int (i - k)) acc.toList:=by
 obtain⟨hz,hv⟩:=h;refine zhD _ _ (by simp [hz]) fun k x u ex eu=>?_;rw [getElem?_map] at ex;have hk:k<n:=by
  have:=(List.getElem?_eq_some_iff.mp eu).1;simpa [hz] using this
 rw [List.getElem?_range hk] at ex;cases ex;obtain⟨tk,rfl⟩:=hv k u (by simpa using eu);exact⟨tk,by rw [show i+(k:Int)*(-1)=i - k by omega]⟩
theorem znX{X:Cx}{a b c:Expr}{ta:TA}{p p' pos pos':Pos}(hc:X.calm=true)(hgl:Gl X "list")(hml:X.mg "list" = none)(hg:Gl X "range")(hm:X.mg "range" = none)(ha:PA X [a,b,c] ta)
  (hs:starEach [a,b,c] X.env=[(false,eval a X.env),(false,eval b X.env),(false,eval c X.env)]:=by rfl) (hs2:starEach [b,c] X.env=[(false,eval b X.env),(false,eval c X.env)]:=by rfl)
  (hs3:starEach [.Call (.Name "range" p) [a,b,c] [] pos] X.env=[(false,eval (.Call (.Name "range" p) [a,b,c] [] pos) X.env)]:=by rfl) :
  PE X (.Call (.Name "list" p') [.Call (.Name "range" p) [a,b,c] [] pos] [] pos') (zpk ta):=by
 intro zh s σ H Q I h;refine wpAny_Call_Name_kw (zcF I hgl hml zhb ?_ dz dz);refine PyProof.Rows.callWith_type1 ?_ (by rw [hs3]; rfl) rfl;rw [hs3];show wpAny _ _ (spliced ((false,eval (.Call (.Name "range" p) [a,b,c] [] pos) X.env) :: [])) _ _ s;refine Calls.spliced_cons (Call_ (zcF I hg hm boot_range (PyProof.Rows.callWith_type1 (thn (ha pos zh s σ H _ I h) fun us s1 ⟨vs,H1,I1,r1,q1⟩=>?_) (by rw [hs,hs2]) (by rw [hs2]; rfl))));obtain⟨i,j,e,h1,h2,q⟩:=q1;subst e;cases r1 with
 | cons r rr =>
  cases rr with
  | cons r' rr =>
   cases rr with
   | cons r'' rr =>
    cases rr;obtain⟨t,rfl⟩:=r;obtain⟨t',rfl⟩:=r';obtain⟨t'',rfl⟩:=r'';refine call_range_3 dz (Calls.spliced_nil ?_) (.inl (PyProof.noPylong_small (by omega)));have I2:=I1.kept (h':=s1.heap.push { cls:=.type "range",data:=.fields #[.int i t,.int j t',.int (-1) t''] }) (t':=s1.toks) fun b o e=>get?_push_of_some _ e;obtain⟨en,sm⟩:=zlq h1 h2;refine call_list_range (I2.ok.hd hc) (IsRange.new ..) sm en (by omega) fun h' tk acc c kp e it=>?_;have hv:=znd it;refine⟨.ref _,_,I2.laid (t':=tk) kp (le_refl _) (show ObjOk X.prog X.w _ h' _ (.lst _) from⟨?_,acc.toList,c,hv,?_⟩),rfl,q _ (I2.hok.fresh (le_refl _))⟩
    ·rw [length_map,length_range,sizeLine_eq];omega
    ·simpa using e
def zka(a:DA):DE:=fun δ S R=>a δ S fun xs S1=>∃ i j:Int,xs=[.d (.int i),.d (.int j),.d (.int (-1))]/\(-1000<=i/\i<=1000)/\(-1000<=j/\j<=1000)/\R (.d (.list (zmc i (i - j).toNat))) S1
theorem zn0{ta:TA}{da:DA}(ha:RA ta da):RE (zpk ta) (zka da):=fun h o H δ σ S R Q he hs q c =>
 ha h o H δ σ S _ _ he hs q fun o1 H1 S1 xs vs e1 s1 x1 d0=>by
  obtain⟨i,j,rfl,h1,h2,d1⟩:=d0;obtain⟨v1,r1,rfl,hv1,l1⟩:=x1;obtain⟨v2,r2,rfl,hv2,l2⟩:=l1;obtain⟨v3,r3,rfl,hv3,l3⟩:=l2;have l4:r3=[]:=l3;subst l4;rw [zaT hv1,zaT hv2,zaT hv3];have l:=zfX (H:=vx h o1 H1) ((List.range (i - j).toNat).map fun k:Nat=>i - (k:Int));rw [map_map,map_map] at l;exact⟨i,j,rfl,h1,h2,zlv s1 l (c.pre e1) d1⟩
end L2
namespace L2
open PySem PySem.Spec PySem.Calls PyProof.Rows
open Sem (wp)
def vi(H:Hp):Hp:=fun a=>match H a with
 | some (.tup xs)=>some (.tup xs)
 | some (.frz o u)=>some (.frz o u)
 | _=>none
theorem zr2{H:Hp}{b:Addr}{u:HO}:vi H b=some u->H b=some u/\((∃ xs,u=.tup xs)\/∃ o w,u=.frz o w):=by
 intro e;unfold vi at e;cases q:H b with
 | none=>rw [q] at e; cases e
 | some z =>
  rw [q] at e;cases z <;> first | (cases e; exact⟨rfl,.inl ⟨_,rfl⟩⟩) | (cases e; exact⟨rfl,.inr ⟨_,_,rfl⟩⟩) | cases e
theorem zt7{fs ex h o:List Addr}{H0 H:Hp}{g g':Heap}{S:Sto}(U:Un fs ex H0 H g g')(r:RepS h o H S):Same (vi H0) (vx h o H):=fun b u e=>by
 obtain⟨e1,e2⟩:=zr2 e;have eH:H b=some u:=by
  rcases e2 with ⟨xs,rfl⟩ | ⟨ob,w,rfl⟩
  ·exact U.tups _ _ e1
  ·exact U.frzs _ _ _ e1
 refine zat.mpr ⟨fun m=>?_,fun m=>?_,eH⟩
 ·obtain⟨z,ez⟩:=r.hal b m;rw [eH] at ez;rcases e2 with ⟨xs,rfl⟩ | ⟨ob,w,rfl⟩ <;> cases z <;> cases ez
 ·obtain⟨z,ez⟩:=r.oal b m;rw [eH] at ez;rcases e2 with ⟨xs,rfl⟩ | ⟨ob,w,rfl⟩ <;> cases ez
mutual
def ImD:PyData->Bool
 | .list _=>false
 | .dict _=>false
 | .tuple ds=>ImL ds
 | .none=>true
 | .bool _=>true
 | .int _=>true
 | .str _=>true
def ImL:List PyData->Bool
 | []=>true
 | d :: ds=>ImD d && ImL ds
end
theorem zix{ds:List PyData}:ImD (.tuple ds)=ImL ds:=by simp only [ImD]
theorem zrb{i:Int}:ImD (.int i)=true:=by simp only [ImD]
theorem zfx:∀ {ds:List PyData},(∀ d∈ds,ImD d=true)->ImL ds=true
 | [],_=>by simp only [ImL]
 | d :: ds,h=>by simp only [ImL,Bool.and_eq_true]; exact⟨h d mem_cons_self,zfx fun e m=>h e (mem_cons_of_mem _ m)⟩
section
variable {H:Hp}
mutual
theorem Has.im{g o:List Addr}:∀ (d:PyData) (v:V),ImD d=true->Has (vx g o H) d v->Has (vi H) d v
 | .none,_,_,h=>by simp only [Has] at h ⊢; exact h
 | .bool _,_,_,h=>by simp only [Has] at h ⊢; exact h
 | .int _,_,_,h=>by simp only [Has] at h ⊢; exact h
 | .str _,_,_,h=>by simp only [Has] at h ⊢; exact h
 | .list ds,v,i,h=>by simp only [ImD,Bool.false_eq_true] at i
 | .dict ds,v,i,h=>by simp only [ImD,Bool.false_eq_true] at i
 | .tuple ds,v,i,h=>by
  simp only [Has] at h ⊢;simp only [ImD] at i;obtain⟨a,vs,e,q,l⟩:=h;have q':H a=some (.tup vs):=(zat.mp q).2.2;exact⟨a,vs,e,by unfold vi; rw [q'],HasL.im ds vs i l⟩
theorem HasL.im{g o:List Addr}:∀ (ds:List PyData) (vs:List V),ImL ds=true->HasL (vx g o H) ds vs->HasL (vi H) ds vs
 | [],_,_,h=>by simp only [HasL] at h ⊢; exact h
 | d :: ds,vs,i,h=>by
  simp only [HasL] at h ⊢;simp only [ImL,Bool.and_eq_true] at i;obtain⟨v,r,e,q,l⟩:=h;exact⟨v,r,e,Has.im d v i.1 q,HasL.im ds r i.2 l⟩
end
end
theorem zjM{h o:List Addr}{H:Hp}:∀ {ds:List PyData} {vs:List V},HasL (vx h o H) ds vs->HasXs h o H (ds.map XV.d) vs
 | [],vs,q=>by simp only [HasL] at q; exact q
 | d :: ds,vs,q=>by
  simp only [HasL] at q;obtain⟨v,r,e,hv,l⟩:=q;exact⟨v,r,e,hv,zjM l⟩
theorem zmO{h o:List Addr}{H:Hp}:∀ {ds:List PyData} {vs:List V},HasXs h o H (ds.map XV.d) vs->HasL (vx h o H) ds vs
 | [],vs,q=>by simp only [HasL]; exact q
 | d :: ds,vs,q=>by
  obtain⟨v,r,e,hv,l⟩:=q;simp only [HasL];exact⟨v,r,e,hv,zmO l⟩
theorem zh1{h o:List Addr}{H:Hp}:∀ {xs ys:List XV} {vs ws:List V},HasXs h o H xs vs->HasXs h o H ys ws->HasXs h o H (xs++ys) (vs++ws)
 | [],ys,vs,ws,q,r=>by rw [show vs=[] from q]; exact r
 | x :: xs,ys,vs,ws,⟨v,r',e,hv,l⟩,r=>by subst e; exact⟨v,r'++ws,rfl,hv,zh1 l r⟩
structure LamOk(P:Program)(w:World)(K:W.Frag)(mg:Str->Option Value)(base:Heap)(k:Nat)(ps:List Str)(F:Addr)(q:PN)(s0:Shared)(H0:Hp):Prop where
 at_:∃ oc od fd sl,H0 F=some (.frz ⟨oc,od,.func fd,sl⟩ (.own 0))
 run:∀ (A:Around) (outer:List Env) (s:Shared) (H:Hp) (us:List Value) (vs:List V) (Q:VK),Room k A->Env0 P w K mg base A outer s H->(∃ fs,Un fs [] H0 H s0.heap s.heap)->Vals vs us->spN ps q vs H Q E0 ->
  codeAny (model P w) A (.call (.ref F) ⟨us,[]⟩) (fun r' s'=>match r' with | .ok (.ret u)=>CE outer P w H s Q u s' | _=>False) s
def zru(db:DE)(cds:List PyData):PN:=fun xs S R=>db (xs.map some++cds.map (fun d=>some (XV.d d))) S R
section
variable {P:Program} {w:World} {K:W.Frag} {mg:Str->Option Value} {base:Heap} {s0:Shared} {H0:Hp}
theorem znJ{k:Nat}{ps caps:List Str}{qual:Str}{params:Arguments}{body:Expr}{scope:Scope}{cl:List (Str×Addr)}{pm ctv:Value}{c' F:Addr}{cs:List V}{cds:List PyData}{t:TE}{db:DE}
  (S:LamScope ps caps scope) (hf:H0 F=some (.frz (zeU qual params body scope cl pm c' ctv) (.own 0))) (hc:CodeFz H0 c' qual)
  (hbind:∀ us:List Value,us.length=ps.length->bindArgs (W.kla_fn "<lambda>" qual params body scope cl pm (.ref c') ctv) ⟨us,[]⟩=pure (ps.zip us)) (C:Caps H0 s0.heap cl caps cs)
  (hb:∀ A outer s H,Room k (A.deeper (W.envX qual scope s.heap.objs.size F (.ref c') cl))->PE (cxL P w K mg base (ps++caps) qual scope cl F (.ref c') A outer s H) body t) (hd:RE t db) (him:HasL (vi H0) cds cs) :
  LamOk P w K mg base (k+1) ps F (zru db cds) s0 H0:=by
 refine⟨⟨_,_,_,_,hf⟩,fun A outer s H us vs Q hr e0 ⟨fs,U⟩ r ⟨hl,h,o,S',xs,R,hs,hx,hq,c⟩=>?_⟩;have hf':=U.frzs _ _ _ hf;have hc':=hc.un U;have C':=C.after U;obtain⟨g,_⟩:=(show ObjOk P w H s.heap F (.frz _ (.own 0)) from e0.hok _ _ hf');refine zlM S hr e0 g (hc'.rec e0.hok) (hbind us (by rw [<- r.length]; exact hl)) hl r C' (hb A outer s H (hr.deeper _)) ?_;refine hd h o H _ _ S' R Q ?_ hs hq c;have hcs:HasXs h o H (cds.map XV.d) cs:=zjM (HasL.mono (zt7 U hs) _ _ him);have:=zbr (n:=0) (zh1 hx hcs);simpa [Function.comp_def] using this
end
section
variable {X:Cx}
theorem zkI{F:Addr}{i:Nat}{x:Str}{ps:List Str}{k j:Nat}{pos pos':Pos}{e:Expr}{es:List Expr}{t:TA}{q:PN}(L:LamOk X.prog X.w X.K X.mg X.base k ps F q X.s₀ X.H₀)(hr:Room j X.A)(hk:k<=j)(hv:PE X (.Name x pos') (zj1 i))(ha:PA X (e :: es) t)
  (hex:X.ex=[]:=by rfl) (q1:starEach (e :: es) X.env=(false,eval e X.env) :: starEach es X.env:=by rfl) (q2:((backTo pos (starEach es X.env)).any fun x=>x.fst)=false:=by rfl):PE X (.Call (.Name x pos') (e :: es) [] pos) (zpd i F (spN ps q) t):=by
 obtain⟨oc,od,fd,sl,hF⟩:=L.at_;have hat:∀ {zh σ H s},Inv X zh σ H s->W.FnAt F s.heap:=fun {zh σ H s} I=>by
  have e1:=I.base.frzs _ _ _ hF;obtain⟨g,_⟩:=(show ObjOk X.prog X.w H s.heap F (.frz _ (.own 0)) from I.hok _ _ e1);exact⟨oc,od,fd,sl,g⟩
 intro zh s σ H Q I h;obtain⟨hs,h⟩:=h;refine wpAny_Call_Name_kw (thn (hv zh s σ H (fun v H1=>v=.ref F/\zfW (spN ps q) [] E0 t σ H1 Q) I ⟨_,hs,rfl,h⟩) fun u s1 ⟨v,H1,I1,rx,ex,q⟩=>?_);subst ex;obtain rfl:u=Value.ref F:=rx;refine W.callWith_F (hat I1) (thn (ha pos zh s1 σ H1 _ I1 q) fun us s2 ⟨vs,H2,I2,r,q3⟩=>⟨hat I2,?_⟩) q1 q2;replace q3:spN ps _ (vs++[]) H2 Q E0:=q3;rw [append_nil] at q3;have U:=I2.base;rw [hex] at U;refine wpAny_call (codeAny_mono (L.run X.A X.stack s2 H2 us vs Q (hr.mono hk) I2.env0 ⟨_,U⟩ r q3) fun r' s' z=>?_);cases r' with
 | error e=>exact z.elim
 | ok fl =>
  cases fl with
  | ret u'=>exact I2.after z
  | next=>exact z.elim
  | brk=>exact z.elim
  | cont=>exact z.elim
end
structure FnOkG(P:Program)(w:World)(K:W.Frag)(mg:Str->Option Value)(base:Heap)(k:Nat)(f:Addr)(fd:FuncData)(ps:List Str)(G:Shared->Hp->Prop)(sp:Sp):Prop where
 len:∀ vs H Q E,sp vs H Q E->vs.length=ps.length
 run:∀ (A:Around) (outer:List Env) (s:Shared) (H:Hp) (args:Args) (us:List Value) (vs:List V) (Q:VK) (E:XK),Room k A->Env0 P w K mg base A outer s H->BindsTo s fd args (ps.zip us)->Vals vs us->G s H->sp vs H Q E ->
  codeAny (model P w) A (.call (.ref f) args) (CR CX0 outer P w H s Q E) s
structure DfH(P:Program)(w:World)(K:W.Frag)(mg:Str->Option Value)(base:Heap)(x:Str)(ps:List Str)(k kl:Nat)(pl:List Str)(qc:Addr->PN->PN):Prop where
 ex:∃ f fd,(∀ F q,FnOkG P w K mg base k f fd ps (LamOk P w K mg base kl pl F q) (spN ps (qc F q)))/\mg x=some (.ref f)/\W.keepIn K (.ref f)=true/\Binds K fd ps []
theorem zr5{P:Program}{w:World}{K:W.Frag}{mg:Str->Option Value}{base:Heap}{k:Nat}{f:Addr}{name qual:Str}{params:Arguments}{body:List Stmt}{scope:Scope}{dV kV doc pm cdv ct oc:Value}{an od:Option Addr}{G:Shared->Hp->Prop}
  {osl:Array (Option Value)} {N ps:List Str} {sp:Sp} (lk:K.lookup f=some ⟨oc,od,.func (W.fnOf name qual params body scope dV kV doc pm an cdv ct),osl⟩) (hcd:W.codeIn K cdv qual=true) (S:FnScope N ps scope)
  (len:∀ vs H Q E,sp vs H Q E->vs.length=ps.length)
  (hbody:∀ (A:Around) (outer:List Env) (s:Shared) (H:Hp) (vs:List V) (Q:VK) (E:XK),Room k (A.deeper (envOfC qual scope s.heap.objs.size f cdv))->G s H->sp vs H Q E ->
   ∃ t,PSs (zf0 CX0 P w K mg base N qual scope f cdv A outer s H E) body t/\t { nx:=fun _ H'=>Q .non H',rt:=Q } (start N vs) H) :
  FnOkG P w K mg base (k+1) f (W.fnOf name qual params body scope dV kV doc pm an cdv ct) ps G sp:=by
 refine⟨len,fun A outer s H args us vs Q E hr e0 hb r hG hsp=>?_⟩;have hl:=len _ _ _ _ hsp;have KX:K.In s.heap:=e0.mod.kin.keeps fun b o e=>(e0.bs b o e).1;have lim:s.heap.NoLimit:=e0.mod.nolimit.keeps fun b o e=>(e0.bs b o e).1;have hkind:∀ y∈ps.zip us,scope.names.lookup y.1=some .local\/(scope.names.lookup y.1=some .cell/\((cellsFrom (s.heap.objs.size+1) scope.names []).lookup y.1).isSome=true):=fun⟨n,v⟩ hy=>by
  rcases S.par n (of_mem_zip hy).1 with q | q
  ·exact .inl q
  ·exact .inr ⟨q,W.cellsFrom_some _ _ _ (.inl q)⟩
 refine codeAny_call_function hr.depth (KX _ _ lk) rfl S.co S.gen rfl (W.codeRec_of KX hcd) (hb _ _ _ _ ?_);refine wpAny_newFunctionEnv_cells S.kind hkind fun env he s1 x=>?_;subst he;refine⟨lim.keeps x.toInCall.keep,codeAny_func ?_⟩;obtain⟨t,ht,hq⟩:=hbody A outer s H vs Q E (hr.deeper _) hG hsp;have I:Inv (zf0 CX0 P w K mg base N qual scope f cdv A outer s H E) [] (start N vs) H s1:=zfn S hr.hd e0 hl r x;refine wpAny_mono (ht [] s1 (start N vs) H _ I hq) (fun fl s' hs=>?_) fun e s' hs=>hs;have fin:∀ {σ':St} {H':Hp} {v:V} {u:Value},Inv (zf0 CX0 P w K mg base N qual scope f cdv A outer s H E) [] σ' H' s'->RelV v u->Q v H'->CE outer P w H s Q u s' :=
  fun {σ' H' v u} J rv q=>⟨v,H',J.os,J.bare,J.base,J.hok,rv,q⟩
 cases fl with
 | ret u =>
  obtain⟨v,σ',H',J,rv,q⟩:=hs;exact fin J rv q
 | next =>
  obtain⟨σ',H',J,q⟩:=hs;exact fin (v:=V.non) (u:=Value.none) J rfl q
 | brk =>
  obtain⟨_,_,_,q⟩:=hs;exact False.elim q
 | cont =>
  obtain⟨_,_,_,q⟩:=hs;exact False.elim q
section
variable {P:Program} {w:World} {K:W.Frag} {mg:Str->Option Value} {base:Heap} {x:Str} {st:Stmt} {N ps pl:List Str} {k kl:Nat}
theorem zsc{qc:Addr->PN->PN}(D:Dd K mg x st ps)(S:FnScope N ps (zg st))(n:Nat)(hn:N.length=ps.length+n)
  (hbody:∀ (F:Addr) (ql:PN) (f:Addr) (cdv:Value) (A:Around) (outer:List Env) (s:Shared) (H:Hp) (E:XK),Room k (A.deeper (envOfC x (zg st) s.heap.objs.size f cdv))->LamOk P w K mg base kl pl F ql s H ->
   ∃ t dt,PSs (zf0 CX0 P w K mg base N x (zg st) f cdv A outer s H E).nox (zaK st) t/\RS t dt/\∀ xs S R,qc F ql xs S R->dt (zbB S.length R) (xs.map some++List.replicate n none) S):DfH P w K mg base x ps (k+1) kl pl qc:=by
 obtain⟨f,fd,F,hm,hb⟩:=D.ex;have kp:=F.kp;obtain⟨oc,od,kV,doc,pm,an,cdv,ct,osl,rfl,lk,hcd⟩:=F.ex;refine⟨f,_,fun Fl ql=>zr5 lk hcd S (fun vs H Q E h=>h.1) fun A outer s H vs Q E hr hG ⟨hl,h,o,S',xs,R,hs',hx,hq,c⟩=>?_,hm,kp,hb⟩;obtain⟨t,dt,h1,h2,h3⟩:=hbody Fl ql f cdv A outer s H E hr hG;refine⟨t,h1.nox,h2 h o H _ _ S' _ _ ?_ hs' (h3 xs S' R hq) (eok hs' c)⟩;have e:N.length - vs.length=n:=by omega
 unfold start;rw [e];exact zbr hx
end
def LamFz(X:Cx)(params:Arguments)(body:Expr)(scope:Scope)(H:Hp)(F:Addr):Prop:=∃ pm c' ctv,H F=some (.frz (zeU (X.env.qual ++ "<lambda>") params body scope (zi2 X.env scope.names []) pm c' ctv) (.own 0))/\CodeFz H c' (X.env.qual ++ "<lambda>")
def zuu(X:Cx)(params:Arguments)(body:Expr)(scope:Scope):TE:=fun σ H Q=>∀ F H',Same H H'->LamFz X params body scope H' F->Q (.ref F) H'
def zpi(X:Cx)(params:Arguments)(body:Expr)(scope:Scope)(ks:List Nat)(qc:Addr->PN->PN)(db:DE)(ps:List Str)(t:TA):TE:=fun σ H Q=>t σ H fun vs H1 =>
 ∃ F cds cs,LamFz X params body scope H1 F/\ks.map (fun i=>(σ[i]?).join)=cs.map some/\HasL (vi H1) cds cs/\spN ps (qc F (zru db cds)) vs H1 Q E0
section
variable {X:Cx} {dsc scope:Scope} {L kl k j:Nat} {pl caps ps:List Str} {ks:List Nat} {params:Arguments} {body:Expr} {c P:Addr} {lp pos pos':Pos} {x:Str} {qc:Addr->PN->PN} {e:Expr} {es:List Expr} {t:TA} {tb:TE} {db:DE}
theorem zsz(hT:((c,P),lamKey (X.env.qual ++ "<lambda>") lp)∈tabsG)(hcode:X.env.code=.ref c)(hd:X.env.scope=dsc)(hc:X.env.cells=cellsFrom L dsc.names [])(hl:zeu X.N dsc.names scope pl caps ks=true)(hdf:defaultsOf params X.env=([],[])):
  PE X (.Lambda params body scope lp) (zuu X params body scope):=by
 intro zh s σ H Q I h;exact W.kla_eval hdf (zj4 I hcode hT (zhj hd hc hl) fun f c' ctv pm H2 s2 I2 sm nf hf hcf=>⟨.ref f,H2,I2,rfl,h f H2 sm ⟨pm,c',ctv,hf,hcf⟩⟩)
theorem zom(D:DfH X.prog X.w X.K X.mg X.base x ps k (kl+1) pl qc)(hr:Room j X.A)(hk:k<=j)(hd:X.env.scope=dsc)(hc:X.env.cells=cellsFrom L dsc.names [])(hk1:scope.kind=.function)(hco:scope.isCoroutine=false)(hgn:scope.isGenerator=false)(hl:zeu X.N dsc.names scope pl caps ks=true)
  (hbind:∀ cl pm c' ctv (us:List Value),us.length=pl.length->bindArgs (W.kla_fn "<lambda>" (X.env.qual ++ "<lambda>") params body scope cl pm (.ref c') ctv) ⟨us,[]⟩=pure (pl.zip us))
  (hb:∀ cl f c' A outer s H,Room kl (A.deeper (W.envX (X.env.qual ++ "<lambda>") scope s.heap.objs.size f (.ref c') cl))->PE (cxL X.prog X.w X.K X.mg X.base (pl++caps) (X.env.qual ++ "<lambda>") scope cl f (.ref c') A outer s H) body tb) (hdb:RE tb db)
  (ha:PA X (e :: es) t) (hg:Gl X x:=by rfl) (hdg:(x == ("__debug__":Str))=false:=by decide)
  (q1:starEach (e :: es) X.env=(false,eval e X.env) :: starEach es X.env:=by rfl) (q2:((backTo pos (starEach es X.env)).any fun x=>x.fst)=false:=by rfl) :
  PE X (.Call (.Name x pos') (e :: es) [] pos) (zpi X params body scope ks qc db ps t):=by
 obtain⟨f,fd,Fo,hm,kp,hbi⟩:=D.ex;intro zh s σ H Q I h;refine wpAny_Call_Name_kw (zeE I hg hm ?_ hdg);refine W.callWith_K (h₀:=X.base) I.ok.mod.kin kp (thn (ha pos zh s σ H _ I h) fun us s1 ⟨vs,H1,I1,r,F,cds,cs,⟨pm,c',ctv,hf,hcf⟩,hcs,him,hq⟩=>⟨I1.kIn,?_⟩) q1 q2;have hlen:us.length=ps.length:=by rw [<- r.length]; exact hq.1
 have bd:=hbi s1 us I1.kIn (by rw [append_nil]; exact hlen);rw [append_nil] at bd;have LO:LamOk X.prog X.w X.K X.mg X.base (kl+1) pl F (zru db cds) s1 H1:=znJ (zf8 (X:=X) hk1 hco hgn hl) hf hcf (fun us hu=>hbind _ _ _ _ us hu) (zkt I1 hd hc hl hcs) (fun A outer s H hr=>hb _ _ _ A outer s H hr) hdb him;refine wpAny_call (codeAny_mono ((Fo F _).run X.A X.stack s1 H1 ⟨us,[]⟩ us vs Q E0 (hr.mono hk) I1.env0 bd r LO hq) fun r' s' z=>?_);cases r' with
 | error e=>exact False.elim z
 | ok fl =>
  cases fl with
  | ret u=>exact I1.after z
  | next=>exact False.elim z
  | brk=>exact False.elim z
  | cont=>exact False.elim z
end
def zhB(ks:List Nat)(qc:Addr->PN->PN)(db de:DE):DE:=fun δ S R=>de δ S fun x S1=>∃ (d:PyData) (cds:List PyData),x=.d d/\ks.map (fun i=>(δ[i]?).join)=cds.map (fun d=>some (XV.d d))/\ImL cds=true /\
 ∀ F,qc F (zru db cds) [.d d,.o (.ref F)] [] (ret0 S1 R)
theorem znq{X:Cx}{params:Arguments}{body:Expr}{scope:Scope}{ks:List Nat}{qc:Addr->PN->PN}{db de:DE}{te:TE}{a b:Str}(h1:RE te de):RE (zpi X params body scope ks qc db [a,b] (ze7 te (ze7 (zuu X params body scope) zqf))) (zhB ks qc db de):=fun h o H δ σ S R Q he hs q c =>
 h1 h o H δ σ S _ _ he hs q fun o1 H1 S1 x v e1 s1 x1 ⟨d,cds,ex,hcs,him,hq⟩=>by
  subst ex;intro F H2 sm hfz;have ex2:Ex o1 H1 o1 H2:=Ex.of_same sm;have s2:=s1.same sm;have hcs':ks.map (fun i=>(δ[i]?).join)=(cds.map XV.d).map some:=by rw [hcs,map_map]; rfl
  obtain⟨cvs,hcv,hx⟩:=zfO ((he.mono e1).mono ex2) hcs';refine⟨F,cds,cvs,hfz,hcv,HasL.im _ _ him (zmO hx),rfl,h++o1,[],[],[.d d,.o (.ref F)],_,rep0 s2,⟨v,[.ref F],rfl,hx0 (x1.mono ex2),.ref F,[],rfl,rfl,rfl⟩,hq F,cn0 s2 (c.pre (e1.trans ex2))⟩
end L2
namespace L2
open PySem PySem.Spec PySem.Calls PyProof.Rows
def PSXs(X:Cx)(body:List Stmt)(t:XK->TS):Prop:=∀ (zh:List (Addr×Obj)) (s:Shared) (σ:St) (H:Hp) (D:Ends) (Ex:XK) (E':Value->Shared->Prop),Inv X zh σ H s->t Ex D σ H ->
 (∀ H1 s1 v s',Inv X zh σ H1 s1->CX1 X.prog X.w X.stack H1 s1 Ex v s'->E' v s')->wpAny (model X.prog X.w) X.A (execs body X.env) (SP X zh D) E' s
theorem zra{X:Cx}{c:Expr}{a b:Stmt}{tc:TT}{t u:XK->TS}{pos:Pos}(hx:∀ e s,X.xe e s->False)(hc:PT X c tc)(ha:PSX X a t)(hr:∀ Ex D σ H,t Ex D σ H->t Ex { D with nx:=fun _ _=>False } σ H)(hb:PSX X b u):PSXs X [.If c [a] [] pos,b] (fun Ex=>zqg tc (t Ex) (u Ex)):=by
 intro zh s σ H D Ex E' I h hX;refine wpAny_execs_cons (wpAny_If (wpAny_mono (hc zh s σ H _ I h) (fun d s1 ⟨H1,I1,q1⟩=>?_) fun _ _ z=>(hx _ _ z).elim));cases d with
 | true =>
  refine wpAny_execs_cons (wpAny_mono (ha zh s1 σ H1 _ Ex E' I1 (hr Ex D σ H1 q1) hX) (fun fl s2 z=>?_) fun _ _ z=>z);cases fl with
  | next=>obtain⟨_,_,_,z⟩:=z; exact z.elim
  | ret v=>exact z
  | brk=>exact z
  | cont=>exact z
 | false =>
  refine wpAny_execs_nil ?_;refine wpAny_execs_cons (wpAny_mono (hb zh s1 σ H1 D Ex E' I1 q1 hX) (fun fl s2 z=>?_) fun _ _ z=>z);cases fl with
  | next=>exact wpAny_execs_nil z
  | ret v=>exact z
  | brk=>exact z
  | cont=>exact z
section
variable {X:Cx} {G n:Str} {gp hpos pos:Pos} {i:Nat} {b₀:Stmt} {body suite:List Stmt} {GA:Addr} {iniG:Option Value} {tb:XK->TS} {ts:TS}
theorem zol(hx:∀ e s,X.xe e s->False)(hst:X.stack=X.env :: X.outer)(hfr:X.env.frame=some X.env.locals)(hN:X.N.Nodup)(hi:X.N[i]? = some n)(hl:X.env.kindOf n=some .local)(hg:Gl X G)(hm:X.mg G=some (.ref GA))(qG:ExCls X.K GA iniG)
  (hb:PSXs X body tb) (hs:∀ a,PSs (X.suite a) (b₀ :: suite) ts) (hdb:(G == ("__debug__":Str))=false:=by decide) :
  PS X (.Try body [.ExceptHandler (some (.Name G gp)) (some n) (b₀ :: suite) hpos] [] [] pos) (zi5 X.K GA i tb ts):=by
 intro zh s σ H D I h;refine wpAny_Try_except (wpAny_mono (hb zh s σ H D _ (fun e s₁=>wpAny (model X.prog X.w) X.A (noteFrame e X.env) (fun _ s₂=>wpAny (model X.prog X.w) X.A (setFlight e none) (fun _ s₃=>wpAny (model X.prog X.w) X.A (handleBy e X.env [.ExceptHandler (some (.Name G gp)) (some n) (b₀ :: suite) hpos]) (SP X zh D) X.xe s₃) X.xe s₂) X.xe s₁) I h ?_) (fun fl s1 q=>?_) fun _ _ z=>z)
 rotate_left
 ·cases fl with
  | next=>exact wpAny_execs_nil q
  | ret v=>exact q
  | brk=>exact q
  | cont=>exact q
 intro H1 s1 v s' I1 cx;obtain⟨H',a,C,dx,rfl,F,C',b,ini,eC,eb,qC,hin,hts⟩:=cx;cases eC;cases eb;obtain⟨B,t,fl,kB,eB,tB⟩:=F.fl;rw [hst] at fl;have frames:X.A.frames=some (X.env :: X.outer):=by rw [I1.ok.frames,hst]
 refine zlW frames hfr fl fun h₄ held₄ sm₄=>?_;refine zsB held₄ fun h₅ fl₅ sm₅=>?_;have bB:∀ b o,X.base.get? b=some o->B.get? b=some o:=fun b o e=>kB b o (I1.bk b o e) (I1.bs b o e).2 fun z=>by
  have:=(I1.stack.mem z).1;rw [e] at this;cases this
 have kin:X.K.In h₅:=I1.ok.mod.kin.keeps fun b o e=>fl₅.1 b o (bB b o e);obtain⟨oe,hoe,hoc,_⟩:=fl₅.there;refine wpAny_handleBy_cons (codeAny_handlers_test ?_) (by intro q; cases q);refine Calls.Name_function_global I1.ok.kind hg (Calls.loadGlobal_global (by rw [I1.ok.glob]; exact I1.mod.glob.keeps fun b o e=>fl₅.1 b o (bB b o e)) hm ?_) hdb;refine zgp kin qC qG hoe hoc hin (codeAny_handlers_suite_as ?_);refine zh9 fl₅ fun h₆ fl₆ sm₆=>?_;obtain⟨oe6,hoe6,hoc6,hod6⟩:=fl₆.there;subst hod6;have sm:s'.heap.UpToSlots h₆:=(sm₄.trans sm₅).trans sm₆;have na:H' a=none:=by
  cases z:H' a with
  | none=>rfl
  | some u =>
   obtain⟨o,q⟩:=tB a u z;rw [fl.2.1] at q;cases q
 have new:∀ b o,s1.heap.get? b=some o->b≠a:=fun b o q z=>by
  subst z;rcases eB b o q with z | ⟨o',z⟩
  ·rw [hst] at z;obtain⟨_,o2,q2,nf⟩:=fl₆.2.2.1.mem z;obtain⟨oe7,vs7,q7,_,d7,_⟩:=fl₆.first
   rw [q2] at q7;cases q7;exact nf _ d7
  ·rw [fl.2.1] at z;cases z
 have I6:Inv X zh σ (upd H' a (exO a C oe6.dict)) { s' with heap:=h₆ }:=by
  refine I1.call' (ch:=[]) F.os ⟨fun b o q n hb _=>fl₆.1 b o (kB b o q n hb),fun b o q n hb _=>?_,fun b o q n _=>?_,fun b o q _=>?_,fun b xs q=>?_,fun b o u q=>?_,fun b ps q=>?_⟩ ?_ F.bare (fun b z=>absurd z (by simp))
  ·obtain⟨sl,q1⟩:=F.un.any q n (by simp);rw [hst] at hb;obtain⟨_,o3,q3,nf⟩:=fl.2.2.1.mem hb;rw [q1] at q3;cases q3;obtain⟨sl3,q4⟩:=sm b _ q1 nf;exact⟨sl3,q4⟩
  ·rw [zI (new b o q)];exact F.un.free b o q n (by simp)
  ·rcases eB b o q with z | ⟨o',z⟩
   ·rw [hst] at z;obtain⟨_,o3,q3,_⟩:=fl₆.2.2.1.mem z;exact⟨o3,q3⟩
   ·exact⟨o',fl₆.1 b o' z⟩
  ·have q2:=F.un.tups b xs q;rw [zI (zE q2 na)];exact q2
  ·have q2:=F.un.frzs b o u q;rw [zI (zE q2 na)];exact q2
  ·have q2:=F.un.tbls b ps q;rw [zI (zE q2 na)];exact q2
  ·intro b u q;by_cases hb:b=a
   ·subst hb;rw [zZ] at q;cases q;exact zsd hoe6 hoc6 (by
     obtain⟨oe7,vs7,q7,_,d7,_⟩:=fl₆.first
     rw [hoe6] at q7;cases q7;exact⟨_,d7⟩)
   ·rw [zI hb] at q;refine(F.hok b u q).stay (fun c v hc q1=>?_) (fun c q1=>by rw [zI (zE q1 na)]; exact q1) fun c xs q1=>by rw [zI (zE q1 na)]; exact q1
    have tr:∀ c u,H' c=some u->s'.heap.get? c=some v->h₆.get? c=some v:=fun c u e q1=>by
     obtain⟨o',z⟩:=tB c u e;have:=fl.1 c o' z;rw [q1] at this;cases this;exact fl₆.1 c v z
    rcases hc with rfl | hc
    ·exact tr _ _ q q1
    ·exact tr _ _ hc q1
 have hiσ:σ.length=X.N.length:=I6.len;refine zfa (v:=.ref a) I6 hN hi (.inl hl) rfl (fun s7 I7=>?_) (.inr hl);refine wpAny_mono (hs a zh s7 _ _ _ (I7.suite a) hts) (fun f8 s8 q=>?_) fun _ _ z=>z.elim;cases f8 with
 | ret u =>
  obtain⟨w,σ8,H8,I8,r8,q8⟩:=q;have J:=I8.unsuite I6.ok;obtain⟨m8,hn8,_⟩:=J.loc;have hcls:(X.env.scope.kind == .class || (X.env.scope.kind == .module && X.env.locals != X.env.globals))=false:=by rw [J.ok.kind]; rfl
  refine wpAny_nameGoes hl hn8 hcls fun h9 m9 hn9 sb9=>?_;exact⟨w,_,H8,J.gone hn9 sb9,r8,q8⟩
 | next =>
  obtain⟨σ8,H8,I8,q8⟩:=q;have J:=I8.unsuite I6.ok;obtain⟨m8,hn8,hv8⟩:=id J.loc;have hcls:(X.env.scope.kind == .class || (X.env.scope.kind == .module && X.env.locals != X.env.globals))=false:=by rw [J.ok.kind]; rfl
  refine wpAny_nameGoes_keeps hl hn8 hcls fun h9 v9 hn9 sb9=>?_;exact⟨_,H8,J.goneAt hN hi hl hn8 hv8 hn9 sb9,q8⟩
 | brk=>obtain⟨_,_,_,z⟩:=q; exact z.elim
 | cont=>obtain⟨_,_,_,z⟩:=q; exact z.elim
end
end L2
namespace HT
open PySem PyProof.Rows
section
open PySem.SeqAt
open PySem.AutoSeq1 (wpAny_loadPart')
open PySem.MeetsSeq PySem.MeetsSeq2 PySem.MeetsSeq3
theorem zmp{A:Around}{s:Shared}{x y:Addr}{items items2:Array Value}{ns ms:List Int}(hx:IsTup s.heap x items)(hy:IsTup s.heap y items2)(hi:IntsAre items.toList ns)(hj:IntsAre items2.toList ms)(hu:A.units<cLine):
  EqAt A s (.ref x) (.ref y) (decide (ns=ms)):=by
 have z1:items.size=ns.length:=by rw [<- hi.length]; simp
 have z2:items2.size=ms.length:=by rw [<- hj.length]; simp
 by_cases hne:x=y
 ·subst hne;obtain⟨o1,b1,c1,n1,d1⟩:=id hx;obtain⟨o2,b2,c2,n2,d2⟩:=id hy;rw [b1] at b2;cases b2;rw [d1] at d2;cases d2;rw [decide_eq_true (zgK hi hj)];exact EqAt.same _
 ·have:=EqAt.of_refs hne (RcAt.tuples (A:=A) (e:=fun j=>decide (ns[j]? = ms[j]?)) hx hy hu fun j h1 h2=>by
   obtain⟨a,t,e1,e2⟩:=zgB hi h1;obtain⟨c,u,e3,e4⟩:=zgB hj h2;rw [e1,e3,e2,e4];have:=EqAt.int_int (A:=A.in1) (s:=s) a t c u;rw [show decide (some a=some c)=(a == c) from by rw [Bool.eq_iff_iff]; simp];exact this)
  rw [show decide (ns=ms)=((List.range (min items.size items2.size)).all (fun j=>decide (ns[j]? = ms[j]?)) && items.size == items2.size) from ?_]
  ·exact this
  ·rw [Bool.eq_iff_iff,Bool.and_eq_true,all_eq_true];simp only [mem_range,decide_eq_true_eq,beq_iff_eq];constructor
   ·rintro rfl;exact⟨fun j _=>rfl,by omega⟩
   ·rintro⟨h,hs⟩;refine List.ext_getElem? fun j=>?_;by_cases hj':j<items.size
    ·exact h j (by omega)
    ·rw [List.getElem?_eq_none (by omega),List.getElem?_eq_none (by omega)]
theorem zlY{A:Around}{s:Shared}{x y:Addr}{items items2:Array Value}{ns ms:List Int}(hx:IsTup s.heap x items)(hy:IsTup s.heap y items2)(hi:IntsAre items.toList ns)(hj:IntsAre items2.toList ms)(hu:A.units<cLine):
  RcLtAt A s (.ref x) (.ref y) (lexLt ns ms):=fun prog w E Q hq=>lt_tupInts hx hy hi hj hu hq
theorem lt_tupIT{prog:Program}{w:World}{A:Around}{E:Value->Shared->Prop}{s:Shared}{l b x y:Addr}{items items2:Array Value}{a c:Int}{t u:Tok}{ns ms:List Int}{Q:Value->Shared->Prop}(hl:IsTup s.heap l #[.int a t,.ref x])(hb:IsTup s.heap b #[.int c u,.ref y])
  (hx:IsTup s.heap x items) (hy:IsTup s.heap y items2) (hi:IntsAre items.toList ns) (hj:IntsAre items2.toList ms) (hu:A.units+1<cLine) (h:Q (.bool (lexLt (a :: ns) (c :: ms))) s):wpAny (model prog w) A (compareOp .Lt (.ref l) (.ref b)) Q E s:=by
 obtain⟨⟨cls,dd,data,sl⟩,ho,hc,n,hd⟩:=id hl;obtain⟨⟨cls2,dd2,data2,sl2⟩,ho2,hc2,n2,hd2⟩:=id hb;simp only at hc hd hc2 hd2;subst hc hd hc2 hd2;rw [lexLt_cons] at h;exact richCompare_meets_room (op:=.Lt) ⟨_,ho,rfl⟩ ⟨_,ho2,rfl⟩ PySem.F.slot_tuple_lt PySem.F.entry_tuple_lt (PySem.F.args_tuple_lt_2 _ _) (zh5 l b n n2 dd dd2 sl sl2 a c t u (.ref x) (.ref y) ns ms)
  ⟨ho,ho2,zmp hx hy hi hj hu,zlY hx hy hi hj hu,show Value.bool _≠Value.notImplemented/\Q (.bool _) s from⟨(fun x=>nomatch x),h⟩⟩ (by omega)
end
end HT
namespace L2
open PySem PySem.Spec PyProof.Rows
section
section
variable {X:Cx}
def prI(p:Int×List Int):PyData:=.tuple [.int p.1,zqv p.2]
def IsPr(H:Hp)(v:V)(p:Int×List Int):Prop:=∃ a b,v=.ref a/\H a=some (.tup [.int p.1,.ref b])/\H b=some (.tup (p.2.map V.int))
theorem zqV{h o:List Addr}{H:Hp}{p:Int×List Int}{v:V}(hv:Has (vx h o H) (prI p) v):IsPr H v p:=by
 obtain⟨a,vs,rfl,ea,l1⟩:=zaw.mp hv;obtain⟨v1,r1,e1,h1,k1⟩:=zr.mp l1;obtain⟨v2,r2,e2,h2,k2⟩:=zr.mp k1;have e3:=zC.mp k2;subst e3 e2 e1;have e4:=zb8.mp h1;subst e4;obtain⟨b,ps,rfl,hb,lb⟩:=zaw.mp h2;rw [zb1 lb] at hb;exact⟨a,b,rfl,zal _ _ ea,zal _ _ hb⟩
def zrz(K:W.Frag):List V->Hp->VK->Prop:=fun xs H Q=>∃ (p:Addr) (vs:List V) (nss:List (Int×List Int)),xs=[.ref p]/\SqL K H p vs/\vs≠[]/\Paired (IsPr H) vs nss /\
 ∀ (i:Nat) v ns,vs[i]? = some v->nss[i]? = some ns->(∀ ms∈nss,HT.lexLt (ms.1 :: ms.2) (ns.1 :: ns.2)=false)->Q v H
theorem zlo{α β:Type}{r:α->β->Prop}:∀ {a:List α} {b:List β} {i:Nat} {v:α} {w:β},Paired r a b->a[i]? = some v->b[i]? = some w->r v w:=by
 intro a b i v w pq;induction pq generalizing i with
 | nil=>intro h; simp at h
 | cons r0 _ ih =>
  cases i with
  | zero =>
   intro h1 h2;rw [getElem?_cons_zero] at h1 h2;cases h1;cases h2;exact r0
  | succ i =>
   intro h1 h2;rw [getElem?_cons_succ] at h1 h2;exact ih h1 h2
theorem znl(hc:X.calm=true)(hu:X.A.units+64<cLine):CallR X (.builtin "min") (zrz X.K):=by
 intro zh s σ H xs us Q I r h;obtain⟨p,vs,nss,rfl,hq,hne,pr,q⟩:=h;obtain⟨u,rfl,rx⟩:=vals1 r;cases (show u=Value.ref p from rx);obtain⟨its,rv,pl,_⟩:=I.list hq;have hl:=rv.length;have hl2:=Paired.length pr;have hsz:0<its.toArray.size:=by
  rw [size_toArray,<- hl];exact List.length_pos_iff.mpr hne
 have at_:∀ (i:Nat) x,its.toArray[i]? = some x->∃ (v:V) (ns:Int×List Int),vs[i]? = some v/\nss[i]? = some ns/\RelV v x/\IsPr H v ns:=fun i x hx=>by
  have hi:i<its.length:=by
   have:=(Array.getElem?_eq_some_iff.mp hx).1;simpa using this
  have e1:vs[i]? = some vs[i]:=getElem?_eq_getElem (by omega);have e2:nss[i]? = some nss[i]:=getElem?_eq_getElem (by omega);obtain⟨x',hx',rr⟩:=rv.get e1;have:x=x':=by
   have h2:its[i]? = some x:=by simpa using hx
   rw [hx'] at h2;exact(Option.some.inj h2).symm
  subst this;exact⟨_,_,e1,e2,rr,zlo pr e1 e2⟩
 have gd:∀ {i:Nat} {n:Int×List Int},nss[i]? = some n->(fun i=>(nss.getD i (0,[])).1 :: (nss.getD i (0,[])).2) i=n.1 :: n.2:=fun {i n} e=>by
  show (nss.getD i (0,[])).1 :: (nss.getD i (0,[])).2=_;rw [getD_eq_getElem?_getD,e];rfl
 refine ziU (I.ok.hd hc) pl.isList hsz (fun i j=>HT.lexLt ((fun i=>(nss.getD i (0,[])).1 :: (nss.getD i (0,[])).2) i) ((fun i=>(nss.getD i (0,[])).1 :: (nss.getD i (0,[])).2) j)) (fun i j x y s' Q' E' k hx hy q'=>?_) fun v h' tk hv k=>?_
 ·obtain⟨v1,n1,_,f1,r1,a1,b1,rfl,e1,g1⟩:=at_ i x hx;obtain⟨v2,n2,_,f2,r2,a2,b2,rfl,e2,g2⟩:=at_ j y hy;cases r1;cases r2;obtain⟨_,is1,w1,o1,c1,d1⟩:=(show ObjOk X.prog X.w H s.heap a1 (.tup _) from I.hok a1 _ e1);obtain⟨_,is2,w2,o2,c2,d2⟩:=(show ObjOk X.prog X.w H s.heap a2 (.tup _) from I.hok a2 _ e2);obtain⟨_,js1,z1,m1,c3,d3⟩:=(show ObjOk X.prog X.w H s.heap b1 (.tup _) from I.hok b1 _ g1);obtain⟨_,js2,z2,m2,c4,d4⟩:=(show ObjOk X.prog X.w H s.heap b2 (.tup _) from I.hok b2 _ g2);rw [gd f1,gd f2] at q';cases w1 with
  | cons ra w1=>cases w1 with
   | cons rb w1 =>
    cases w1;cases w2 with
    | cons rc w2=>cases w2 with
     | cons rd w2 =>
      cases w2;obtain⟨t,rfl⟩:=ra;obtain⟨t',rfl⟩:=rc;cases rb;cases rd;exact HT.lt_tupIT ⟨o1,k _ _ c1,d1⟩ ⟨o2,k _ _ c2,d2⟩ ⟨m1,k _ _ c3,d3⟩ ⟨m2,k _ _ c4,d4⟩ (za5 z1) (za5 z2) (by show X.A.units+1+1<cLine; omega) q'
 ·obtain⟨v1,n1,e1,f1,r1,_⟩:=at_ _ v hv;obtain⟨_,h2⟩:=zdV (ns:=fun i=>(nss.getD i (0,[])).1 :: (nss.getD i (0,[])).2) zeO zhq (its.toArray.size - 1);refine⟨v1,H,I.kept (t':=tk) k,r1,q _ v1 n1 e1 f1 fun ms hm=>?_⟩;obtain⟨j,hj⟩:=mem_iff_getElem?.mp hm;have hjl:=(List.getElem?_eq_some_iff.mp hj).1;have:=h2 j (by rw [size_toArray]; omega);have a1:=gd hj;have a2:=gd f1;simp only at a1 a2 this;rw [a1,a2] at this;exact this
def zoN:List XV->Sto->RX->Prop:=fun xs S R=>arg1 xs fun x=>∃ ds,ziG S x=some ds/\∃ nss:List (Int×List Int),ds=nss.map prI/\nss≠[]/\∀ m,m∈nss->(∀ a,a∈nss->HT.lexLt (a.1 :: a.2) (m.1 :: m.2)=false)->R (.d (prI m)) S
theorem zqW{K:W.Frag}:RC (zrz K) zoN:=fun h o H S xs vs R Q hs hx q c=>by
 obtain⟨x,rfl,ds,hd,nss,rfl,hn,q1⟩:=zaG q;obtain⟨v,rfl,hx1⟩:=hxs1 hx;obtain⟨a,ws,rfl,ea,l⟩:=zbb hs hd hx1;have hl:=l.length;refine⟨a,ws,nss,rfl,.of ea,fun z=>hn ?_,?_,fun i v ns e1 e2 hm=>?_⟩
 ·subst z;rw [length_map] at hl;exact eq_nil_of_length_eq_zero hl.symm
 ·have go:∀ {nss:List (Int×List Int)} {ws:List V},HasL (vx h o H) (nss.map prI) ws->Paired (IsPr H) ws nss:=by
   intro nss;induction nss with
   | nil=>intro ws l; rw [zC.mp l]; exact .nil
   | cons n nss ih =>
    intro ws l;obtain⟨v,r,rfl,h1,l2⟩:=zr.mp l;exact .cons (zqV h1) (ih l2)
  exact go l
 ·obtain⟨v',ev,hv⟩:=l.get (show (nss.map prI)[i]? = some (prI ns) by rw [getElem?_map,e2]; rfl);rw [e1] at ev;cases ev;exact c o H S (.d (prI ns)) v Ex.refl hs hv (q1 ns (mem_of_getElem? e2) hm)
end
theorem lo{sc:Scope}{x:Str}(h:sc.names.lookup x=some .local:=by rfl):Loc sc x:=Or.inl h
theorem fsd{N P:List Str}{sc:Scope}(h:ztF N P sc=true:=by decide +kernel):FnScope N P sc:=fsc h
theorem zsv{X:Cx}{op:Operator}{r:R2}{a b:Expr}{ta tb:TE}{pos:Pos}(ho:OpR X (binaryOp op) r)(ha:QE X a ta)(hb:QE X b tb):QE X (.BinOp a op b pos) (tOp r ta tb):=QE.mk (zF ho ha.out hb.out)
theorem zlH{X:Cx}{i:Nat}{x:Str}{e:Expr}{t:TE}{pos pos':Pos}(hN:X.N.Nodup)(hi:X.N[i]? = some x)(hx:Loc X.env.scope x)(he:QE X e t)(hs:swapsWith e (some (.Name x pos')) pos.line X.env=pure false:=by rfl)(hf:X.fn x=true\/X.env.scope.names.lookup x=some .local:=by first | exact .inl rfl | exact .inr rfl | assumption):
  QS X (.Assign [.Name x pos'] e pos) (zr8 t (zjf i)):=QS.mk (zu hN hi hx he.out hs hf)
end
end L2
namespace My
open PySem L2
def zcx:PN:=fun xs S R=>(zO (zan (dOp (dI (fun _ j=>0<j) fun i j=>i % j) (dOp zb4 (zj 0) (dC (.int 7919))) (dC (.int 2147483647))) (zi 0)) (za1 (dOp (dI (fun _ j=>0<j) fun i j=>i % j) (dOp zb4 (dOp zb4 (dOp zfh (zj 0) (zj 0)) (dOp zfh (dC (.int 48271)) (zj 0))) (dC (.int 12345))) (dC (.int 2147483629))))) (zbB S.length R) (xs.map some++List.replicate 0 none) S
def zck:PN:=fun xs S R=>(zO (zan (dCB (dI2 fun i j=>if j>i then j else i) (zb (zj 0) (zb (dOp (dI0 fun i j=>i - j) (dC (.int 0)) (zj 0)) zn))) (zi 1)) (za1 (zcE (zb (zj 1) (zb (dCB zob (zb (dOp (dIb fun i j=>decide (j<=i)) (zj 1) (dOp (dI CPow fun i j=>i ^ j.toNat) (dC (.int 10)) (dC (.int 18)))) zn)) (zb (dOp (dI (fun _ j=>0<j) fun i j=>i % j) (zj 1) (dC (.int 1000003))) zn)))))) (zbB S.length R) (xs.map some++List.replicate 1 none) S
def zaq:PN:=fun xs S R=>(za1 (zoi (dCB zrt (zb (zj 0) (zb (dO (.ty "int")) zn))) (znL (dCB zrt (zb (zj 0) (zb (dO (.ty "bool")) zn)))))) (zbB S.length R) (xs.map some++List.replicate 0 none) S
def zp:PN:=fun xs S R=>(zO (zcI (dB (dOp zkl (dOp dIx (zj 0) (dC (.int 1))) (dC (.int 1)))) (zO (zan (dOp (dI (fun _ j=>0<j) fun i j=>i % j) (dOp dIx (zj 0) (dC (.int 0))) (zj 1)) (zi 2)) (zO (zan (dOp dFd (dOp dIx (zj 0) (dC (.int 0))) (zj 1)) (zkS (zj 0) (dC (.int 0)))) (za1 (zj 2)))) za9) (zO (zan (zP 1 zcx (zb (dOp zb4 (zP 1 zcx (zb (dOp dIx (zj 0) (dC (.int 2))) zn)) (dC (.int 7))) zn)) (zkS (zj 0) (dC (.int 2)))) (za1 (dOp (dI (fun _ j=>0<j) fun i j=>i % j) (dOp dFd (dOp dIx (zj 0) (dC (.int 2))) (dC (.int 64))) (zj 1))))) (zbB S.length R) (xs.map some++List.replicate 1 none) S
def zjT:PN:=fun xs S R=>(za1 (zaN (zb (dOp zb4 (dOp dIx (zj 0) (dC (.int 0))) (dOp dIx (zj 1) (dC (.int 0)))) (zb (dOp zb4 (dOp dIx (zj 0) (dC (.int 1))) (dOp dIx (zj 1) (dC (.int 1)))) zn)))) (zbB S.length R) (xs.map some++List.replicate 0 none) S
def zcm:PN:=fun xs S R=>(zO (zan (zaN (zb (dOp zfh (dOp dIx (zj 0) (dC (.int 0))) (zj 1)) (zb (dOp zfh (dOp dIx (zj 0) (dC (.int 1))) (zj 1)) zn))) (zi 2)) (za1 (zaN (zb (dCB zqC (zb (zj 2) zn)) (zb (dCB ztZ (zb (zj 2) zn)) zn))))) (zbB S.length R) (xs.map some++List.replicate 1 none) S
def zaZ:PN:=fun xs S R=>(zO (zan (zJ 0 2 zp (zb (zj 0) (zb (dC (.int 8)) zn))) (zi 1)) (zO (zcI (dB (dOp (dIb fun i j=>decide (i<j)) (zj 1) (dC (.int 5)))) (za1 (dOp (dI0 fun i j=>i - j) (zJ 0 2 zp (zb (zj 0) (zb (dC (.int 13)) zn))) (dC (.int 6)))) za9) (zO (zcI (dB (dOp (dIb fun i j=>decide (i<j)) (zj 1) (dC (.int 7)))) (za1 (dOp (dI0 fun i j=>i - j) (zJ 0 2 zp (zb (zj 0) (zb (dC (.int 2001)) zn))) (dC (.int 1000)))) za9) (za1 (dOp zfh (dOp (dI0 fun i j=>i - j) (zJ 0 2 zp (zb (zj 0) (zb (dOp zfh (dC (.int 2)) (dOp (dI CPow fun i j=>i ^ j.toNat) (dC (.int 10)) (dC (.int 30)))) zn))) (dOp (dI CPow fun i j=>i ^ j.toNat) (dC (.int 10)) (dC (.int 30)))) (dOp (dI CPow fun i j=>i ^ j.toNat) (dC (.int 10)) (dC (.int 28)))))))) (zbB S.length R) (xs.map some++List.replicate 1 none) S
def zjJ:PN:=fun xs S R=>(zO (zan (dCB (dI2 fun i j=>if j>i then j else i) (zb (dOp dIx (zj 0) (dC (.int 0))) (zb (dOp dIx (zj 1) (dC (.int 0))) zn))) (zi 2)) (zO (zan (dCB (dI2 fun i j=>if j<i then j else i) (zb (dOp dIx (zj 0) (dC (.int 1))) (zb (dOp dIx (zj 1) (dC (.int 1))) zn))) (zi 3)) (za1 (dIf (dB (dOp (dIb fun i j=>decide (i<=j)) (zj 2) (zj 3))) (zaN (zb (zj 2) (zb (zj 3) zn))) (dC .none))))) (zbB S.length R) (xs.map some++List.replicate 2 none) S
def zb6:PN:=fun xs S R=>(zO (zan (zcy (zb (dCB zjS (zb (zj 0) (zb (dO (.ref 37)) zn))) (zb (dCB zjS (zb (zj 0) (zb (dO (.ref 49)) zn))) (zb (dCB zjS (zb (zj 0) (zb (dO (.ref 61)) zn))) (zb (dCB zjS (zb (zj 0) (zb (dO (.ref 161)) zn))) zn))))) (zi 1)) (zO (zan (dOp zb4 (zj 1) (zcy (zb (dCB zjS (zb (zj 0) (zb (dO (.ref 73)) zn))) (zb (dCB zjS (zb (zj 0) (zb (dO (.ref 85)) zn))) (zb (dCB zjS (zb (zj 0) (zb (dO (.ref 104)) zn))) (zb (dCB zjS (zb (zj 0) (zb (dO (.ref 123)) zn))) zn)))))) (zi 1)) (zO (zan (dOp zb4 (zj 1) (zcy (zb (dCB zjS (zb (zj 0) (zb (dO (.ref 142)) zn))) (zb (dCB zjS (zb (zj 0) (zb (dO (.ref 180)) zn))) zn)))) (zi 1)) (zO (zcI (dOr (zjr (zgZ (dCB zjS (zb (zj 0) (zb (dO (.ty "ValueError")) zn))))) (dB (dOp znF (zsE zg4 (zj 1) (zb (dC (.bool true)) zn)) (dC (.int 1))))) (za1 (dC (.str "other"))) za9) (zO (zan (zcy (zb (dC (.str "span")) (zb (dC (.str "part")) (zb (dC (.str "set")) (zb (dC (.str "text")) (zb (dC (.str "row")) (zb (dC (.str "unlike")) (zb (dC (.str "drawing")) (zb (dC (.str "gap")) (zb (dC (.str "offer")) (zb (dC (.str "great")) zn))))))))))) (zi 2)) (za1 (dOp dIx (zj 2) (zsE zku (zj 1) (zb (dC (.bool true)) zn))))))))) (zbB S.length R) (xs.map some++List.replicate 2 none) S
def zbg:PN:=fun xs S R=>(zO (zan (dC (.str "abcdefghijklmnopqrstuvwxyz")) (zi 1)) (zO (zan (zJ 0 2 zp (zb (zj 0) (zb (dC (.int 3)) zn))) (zi 2)) (zO (zan (zJ 0 2 zp (zb (zj 0) (zb (dC (.int 26)) zn))) (zi 3)) (zO (zan (zeb [none,some 1,some 3] (zay (zb (dC (.int 8)) zn)) (zi 0) zaJ (dOp zfh (dOp dIx (zj 1) (dOp (dI (fun _ j=>0<j) fun i j=>i % j) (dOp zb4 (zj 2) (dOp zfh (dC (.int 5)) (zj 0))) (dC (.int 26)))) (dOp zb4 (dC (.int 1)) (dOp (dI (fun _ j=>0<j) fun i j=>i % j) (dOp zb4 (zj 2) (dOp zfh (dC (.int 3)) (zj 0))) (dC (.int 8)))))) (zi 4)) (zO (zcI (dB (dOp zkl (zj 2) (dC (.int 0)))) (zO (zan (ztB zoG (dC (.str "")) (zb (zcA [none,some 1,some 3] (zay (zb (dC (.int 8)) zn)) (zi 0) zaJ (dOp dIx (zj 1) (dOp (dI (fun _ j=>0<j) fun i j=>i % j) (dOp zb4 (zj 2) (dOp zfh (dC (.int 7)) (zj 0))) (dC (.int 26))))) zn)) (zi 5)) (zan (zeb [none,some 5] (zay (zb (dC (.int 8)) zn)) (zi 0) zaJ (dSl zmw (zj 1) zce (zfw (dOp zb4 (zj 0) (dC (.int 1)))))) (zi 4))) za9) (zO (zcI (dB (dOp zkl (zj 2) (dC (.int 1)))) (zan (zcE (zb (dC (.str "part")) (zb (dC (.str "gap")) (zb (dC (.str "cut")) (zb (dC (.str "a")) (zb (dC (.str "aa")) (zb (dC (.str "dear")) (zb (dC (.str "b")) (zb (dC (.str "keeps")) zn))))))))) (zi 4)) za9) (zO (zan (zJ 0 2 zp (zb (zj 0) (zb (dC (.int 8)) zn))) (zi 6)) (zO (zan (dOp zoC (dSl zmw (zj 4) (zfw (zj 6)) zce) (dSl zmw (zj 4) zce (zfw (zj 6)))) (zi 4)) (zO (zcI (dB (dOp zkl (zJ 0 2 zp (zb (zj 0) (zb (dC (.int 2)) zn))) (dC (.int 1)))) (zcg (zry zff (zj 4))) za9) (za1 (zj 4))))))))))) (zbB S.length R) (xs.map some++List.replicate 6 none) S
def zen:PN:=fun xs S R=>(za1 (zaN (zb (dOp dIx (zj 0) (dC (.int 1))) (zb (dOp dIx (zj 0) (dC (.int 2))) zn)))) (zbB S.length R) (xs.map some++List.replicate 0 none) S
def zaI:PN:=fun xs S R=>(zO (zan (zcE zn) (zi 2)) (zO (zex (zbE (zj 0)) (zi 3) (zcg (dBM zeF (zj 2) (zb (zcA [none,some 3] (zbE (zj 1)) (zi 0) zaJ (dOp zb4 (zj 1) (zaN (zb (zj 0) zn)))) zn)))) (za1 (zj 2)))) (zbB S.length R) (xs.map some++List.replicate 2 none) S
def zf3:PN:=fun xs S R=>(zO (zan (dOp dIx (zcy (zb (zcy (zb (dC (.int 1)) (zb (dUn (dUI fun i=>-i) (dC (.int 1))) (zb (dC (.int 2)) (zb (dUn (dUI fun i=>-i) (dC (.int 2))) (zb (dC (.int 3)) (zb (dUn (dUI fun i=>-i) (dC (.int 3))) zn))))))) (zb (zcy (zb (dC (.int 1)) (zb (dUn (dUI fun i=>-i) (dC (.int 1))) zn))) (zb (zcy (zb (dC (.int 2)) (zb (dUn (dUI fun i=>-i) (dC (.int 2))) zn))) (zb (zcy (zb (dC (.int 3)) (zb (dUn (dUI fun i=>-i) (dC (.int 3))) zn))) (zb (zcy (zb (dC (.int 2)) (zb (dC (.int 3)) (zb (dUn (dUI fun i=>-i) (dC (.int 2))) (zb (dUn (dUI fun i=>-i) (dC (.int 3))) zn))))) (zb (zcy (zb (dC (.int 1)) (zb (dC (.int 3)) (zb (dUn (dUI fun i=>-i) (dC (.int 1))) (zb (dUn (dUI fun i=>-i) (dC (.int 3))) zn))))) zn))))))) (zJ 0 2 zp (zb (zj 0) (zb (dC (.int 6)) zn)))) (zi 2)) (zO (zan (zcE zn) (zi 3)) (zO (zex (zay (zb (dCB zbU (zb (zj 1) zn)) zn)) (zi 4) (zcI (dB (dOp (dIb fun i j=>decide (j<i)) (zJ 0 2 zp (zb (zj 0) (zb (dC (.int 3)) zn))) (dC (.int 0)))) (zcg (dBM zbF (zj 3) (zb (zaN (zb (zj 4) (zb (dOp dIx (zj 2) (zJ 0 2 zp (zb (zj 0) (zb (dCB zbU (zb (zj 2) zn)) zn)))) zn))) zn))) za9)) (zO (zcI (dB (dOp zkl (zj 3) (zcy zn))) (zan (zcE (zb (zaN (zb (zJ 0 2 zp (zb (zj 0) (zb (dCB zbU (zb (zj 1) zn)) zn))) (zb (dOp dIx (zj 2) (zJ 0 2 zp (zb (zj 0) (zb (dCB zbU (zb (zj 2) zn)) zn)))) zn))) zn)) (zi 3)) za9) (za1 (dCB zbQ (zb (zj 3) zn))))))) (zbB S.length R) (xs.map some++List.replicate 3 none) S
def zdx:PN:=fun xs S R=>(za1 (dCB zrY (zb (zcA [none,none,some 1] (zbE (dOp dIx (zj 0) (dC (.int 0)))) (zc9 2 (zaE (zi 0) (zaE (zi 1) zeo))) zaJ (dOp zfh (zj 1) (dOp dIx (zj 2) (zj 0)))) zn))) (zbB S.length R) (xs.map some++List.replicate 0 none) S
def zhu:PN:=fun xs S R=>(za1 (zhM (dIb fun i j=>decide (i<=j)) (dIb fun i j=>decide (i<=j)) (dOp dIx (zj 0) (dC (.int 1))) (zP 2 zdx (zb (zj 0) (zb (zj 1) zn))) (dOp dIx (zj 0) (dC (.int 2))))) (zbB S.length R) (xs.map some++List.replicate 0 none) S
def zel:PN:=fun xs S R=>(zO (zan (zcE zn) (zi 2)) (zO (zex (zbE (zj 1)) (zc9 3 (zaE (zi 3) (zaE (zi 4) (zaE (zi 5) zeo)))) (zO (zan (zcy (zb (zj 4) (zb (zj 5) (zb (dOp zb4 (zj 4) (dOp dFd (dOp (dI0 fun i j=>i - j) (zj 5) (zj 4)) (dC (.int 2)))) (zb (dCB (dI2 fun i j=>if j<i then j else i) (zb (zj 5) (zb (dOp zb4 (zj 4) (dC (.int 1))) zn))) (zb (dCB (dI2 fun i j=>if j>i then j else i) (zb (zj 4) (zb (dOp (dI0 fun i j=>i - j) (zj 5) (dC (.int 1))) zn))) zn)))))) (zi 6)) (zcg (dBM zbF (zj 2) (zb (dOp dIx (dOp zb4 (zj 6) (zcy (zb (dOp zb4 (zj 4) (dOp (dI (fun _ j=>0<j) fun i j=>i % j) (zJ 0 2 zp (zb (zj 0) (zb (dOp (dI CPow fun i j=>i ^ j.toNat) (dC (.int 10)) (dC (.int 12))) zn))) (dOp zb4 (dOp (dI0 fun i j=>i - j) (zj 5) (zj 4)) (dC (.int 1))))) zn))) (zJ 0 2 zp (zb (zj 0) (zb (dC (.int 6)) zn)))) zn))))) (za1 (dCB zbQ (zb (zj 2) zn))))) (zbB S.length R) (xs.map some++List.replicate 5 none) S
def zbn:PN:=fun xs S R=>(zO (zan (zaN (zb (dC (.int 0)) (zb (dC (.int 0)) zn))) (zi 2)) (zO (zex (zbE (zj 1)) (zc9 2 (zaE (zi 3) (zaE (zi 4) zeo))) (zan (zP 2 zjT (zb (zj 2) (zb (zP 2 zcm (zb (zP 1 zen (zb (dOp dIx (zj 0) (zj 3)) zn)) (zb (zj 4) zn))) zn))) (zi 2))) (za1 (zj 2)))) (zbB S.length R) (xs.map some++List.replicate 3 none) S
def zhg:PN:=fun xs S R=>(za1 (zP 2 zbn (zb (zj 0) (zb (dOp dIx (zj 1) (dC (.int 0))) zn)))) (zbB S.length R) (xs.map some++List.replicate 0 none) S
def zcS:PN:=fun xs S R=>(za1 (zaN (zb (dOp dIx (zj 0) (dC (.int 1))) (zb (dOp dIx (zj 0) (dC (.int 2))) zn)))) (zbB S.length R) (xs.map some++List.replicate 0 none) S
def zcL:PN:=fun xs S R=>(zO (zan (dC (.int 0)) (zi 2)) (zO (zex (zbE (dOp dIx (zj 0) (dC (.int 0)))) (zc9 2 (zaE (zi 3) (zaE (zi 4) zeo))) (zan (dOp zb4 (zj 2) (dOp zfh (zj 4) (dOp dIx (zj 1) (zj 3)))) (zi 2))) (za1 (zj 2)))) (zbB S.length R) (xs.map some++List.replicate 3 none) S
def zdF:PN:=fun xs S R=>(zO (zan (dC (.int 0)) (zi 2)) (zO (zex (zbE (dOp dIx (zj 0) (dC (.int 0)))) (zc9 2 (zaE (zi 3) (zaE (zi 4) zeo))) (zan (dOp zb4 (zj 2) (dOp zfh (zj 4) (dOp dIx (zj 1) (zj 3)))) (zi 2))) (za1 (zj 2)))) (zbB S.length R) (xs.map some++List.replicate 3 none) S
def zb7:PN:=fun xs S R=>(za1 (zeb [none,some 1] (zbE (zj 0)) (zi 0) zaJ (zP 2 zhu (zb (zj 0) (zb (zj 1) zn))))) (zbB S.length R) (xs.map some++List.replicate 0 none) S
def zdk:PN:=fun xs S R=>(zO (zan (zJ 0 1 zbg (zb (zj 0) zn)) (zi 2)) (zO (zan (zcA [none,some 0] (zay (zb (dOp zb4 (dC (.int 1)) (zJ 0 2 zp (zb (zj 0) (zb (zj 1) zn)))) zn)) (zi 0) zaJ (dOp zb4 (dC (.int 1)) (zJ 0 2 zp (zb (zj 1) (zb (dC (.int 3)) zn))))) (zi 3)) (zO (zcI (dB (dOp zkl (zJ 0 2 zp (zb (zj 0) (zb (dC (.int 12)) zn))) (dC (.int 0)))) (zan (dOp dIx (zcy (zb (dOp zfh (zcy (zb (dC (.int 2)) zn)) (dC (.int 8))) (zb (zcy (zb (dC (.int 17)) (zb (dC (.int 17)) zn))) (zb (zcy (zb (dC (.int 300)) zn)) (zb (dOp zfh (zcy (zb (dC (.int 1)) zn)) (dC (.int 8))) zn))))) (zJ 0 2 zp (zb (zj 0) (zb (dC (.int 4)) zn)))) (zi 3)) za9) (zO (zan (zcE zn) (zi 4)) (zO (zex (zay (zb (dCB zbU (zb (zj 3) zn)) zn)) (zi 5) (zO (zan (zJ 0 1 zaZ (zb (zj 0) zn)) (zi 6)) (zcg (dBM zbF (zj 4) (zb (zaN (zb (dOp dIx (zj 2) (zj 5)) (zb (zj 6) (zb (dOp (dI0 fun i j=>i - j) (dOp zb4 (zj 6) (dOp dIx (zj 3) (zj 5))) (dC (.int 1))) zn)))) zn))))) (za1 (dCB zbQ (zb (zj 4) zn)))))))) (zbB S.length R) (xs.map some++List.replicate 5 none) S
def zfc:PN:=fun xs S R=>(za1 (dOp zrs (zP 2 zjJ (zb (zP 2 zhg (zb (zj 0) (zb (zj 1) zn))) (zb (zP 1 zcS (zb (zj 1) zn)) zn))) (dC .none))) (zbB S.length R) (xs.map some++List.replicate 0 none) S
def zb5:PN:=fun xs S R=>(za1 (zeb [none] (zbE (zj 0)) (zi 0) zaJ (dCB zbU (zb (zj 0) zn)))) (zbB S.length R) (xs.map some++List.replicate 0 none) S
def zaP:PN:=fun xs S R=>(zO (zan (dC (.int 1)) (zi 2)) (zO (zex (zbE (dSl zmw (zj 0) (zfw (dCB zbU (zb (zj 1) zn))) zce)) (zi 3) (zan (dOp zfh (zj 2) (zj 3)) (zi 2))) (za1 (zj 2)))) (zbB S.length R) (xs.map some++List.replicate 2 none) S
def zbx:PN:=fun xs S R=>(zO (zan (zcy (zb (zaN zn) zn)) (zi 1)) (zO (zex (zbE (zj 0)) (zi 2) (zan (zP 2 zaI (zb (zj 1) (zb (zkf (zb (zj 2) zn)) zn))) (zi 1))) (za1 (zj 1)))) (zbB S.length R) (xs.map some++List.replicate 2 none) S
def za6:PN:=fun xs S R=>(zO (zan (zP 2 zaP (zb (zj 0) (zb (zaN zn) zn))) (zi 1)) (zcI (dB (dOp (dIb fun i j=>decide (j<i)) (zj 1) (dC (.int 300)))) zkr za9)) (zbB S.length R) (xs.map some++List.replicate 1 none) S
def zac:PX:=fun xs S R EX=>(zO (zan (zP 2 zaP (zb (zj 0) (zb (zaN zn) zn))) (zi 1)) (zcI (dB (dOp (dIb fun i j=>decide (j<i)) (zj 1) (dC (.int 300)))) (zhp EX 180 ["many","most"] (zb (zj 1) (zb (dC (.int 300)) zn))) za9)) (zbB S.length R) (xs.map some++List.replicate 1 none) S
def zbm(F:Addr)(ql:PN):PN:=fun xs S R=>(zO (zan (zcE zn) (zi 2)) (zO (zan (zcE (zb (zaN zn) zn)) (zi 3)) (zO (zoU (zgZ (zj 3)) (zO (zan (zry ztv (zj 3)) (zi 4)) (zO (zan (zjO 1 F 1 ql (zb (zj 4) zn)) (zi 5)) (zcI (dB (dOp zli (zj 5) (dC .none))) (zcg (dBM zbF (zj 2) (zb (zaN (zb (zj 4) (zb (zj 5) zn))) zn))) (zcI (dB (dOp zkl (dCB zbU (zb (zj 4) zn)) (dCB zbU (zb (zj 0) zn)))) (za1 (dC .none)) (zcg (dBM zeF (zj 3) (zb (zP 2 zaI (zb (zcy (zb (zj 4) zn)) (zb (zka (zb (dOp (dI0 fun i j=>i - j) (dOp dIx (zj 0) (dCB zbU (zb (zj 4) zn))) (dC (.int 1))) (zb (dUn (dUI fun i=>-i) (dC (.int 1))) (zb (dUn (dUI fun i=>-i) (dC (.int 1))) zn)))) zn))) zn)))))))) (za1 (zj 2))))) (zbB S.length R) (xs.map some++List.replicate 4 none) S
def zbP:PN:=fun xs S R=>(za1 (dCB zbQ (zb (zcA [none] (zbE (zj 0)) (zi 0) zaJ (dOp zb4 (zaN (zb (zaN (zb (dC (.int 0)) (zb (dC (.int 0)) zn))) zn)) (zj 0))) zn))) (zbB S.length R) (xs.map some++List.replicate 0 none) S
def za2:PN:=fun xs S R=>(zO (zan (dC (.int 0)) (zi 2)) (zO (zex (zay (zb (dCB zbU (zb (zj 1) zn)) zn)) (zi 3) (zan (dOp zb4 (zj 2) (dOp dIx (dOp zb4 (zcy (zb (dC (.int 0)) zn)) (zcA [none,none] (zbE (dOp dIx (zj 0) (zj 3))) (zc9 2 (zaE (zi 0) (zaE (zi 1) zeo))) zaJ (zj 1))) (dOp dIx (zj 1) (zj 3)))) (zi 2))) (za1 (zj 2)))) (zbB S.length R) (xs.map some++List.replicate 2 none) S
def zbw:PN:=fun xs S R=>(za1 (zeb [none,none] (zgL (zb (zP 1 zbP (zb (zj 0) zn)) (zb (zj 1) zn))) (zc9 2 (zaE (zi 0) (zaE (zi 1) zeo))) zaJ (dOp dIx (zj 0) (zj 1)))) (zbB S.length R) (xs.map some++List.replicate 0 none) S
def zeD:PN:=fun xs S R=>(za1 (dCB zbQ (zb (zcA [none,none] (zgL (zb (zj 0) (zb (zP 2 zbw (zb (zj 1) (zb (zj 2) zn))) zn))) (zc9 2 (zaE (zi 0) (zaE (zi 1) zeo))) zaJ (dOp (dI0 fun i j=>i - j) (zj 0) (dOp dIx (zj 1) (dC (.int 0))))) zn))) (zbB S.length R) (xs.map some++List.replicate 0 none) S
def zaR:PN:=fun xs S R=>(za1 (dCB zrY (zb (zcA [none] (zbE (zP 2 zbw (zb (zj 0) (zb (zj 1) zn)))) (zi 0) zaJ (dOp dIx (zj 0) (dC (.int 1)))) zn))) (zbB S.length R) (xs.map some++List.replicate 0 none) S
def zbO:PN:=fun xs S R=>(zO (zan (zcE zn) (zi 2)) (zO (zex (zbE (zj 1)) (zi 3) (zO (zan (zcE zn) (zi 4)) (zO (zan (dC (.int 0)) (zi 5)) (zO (zan (dC (.int 0)) (zi 6)) (zO (zex (zay (zb (zJ 0 2 zp (zb (zj 0) (zb (dC (.int 4)) zn))) zn)) (zi 7) (zO (zan (dOp zb4 (dOp zb4 (zj 5) (dC (.int 1))) (zJ 0 2 zp (zb (zj 0) (zb (dOp dIx (zcy (zb (dC (.int 3)) (zb (dC (.int 3)) (zb (dC (.int 3)) (zb (dOp (dI CPow fun i j=>i ^ j.toNat) (dC (.int 10)) (dC (.int 20))) zn))))) (zJ 0 2 zp (zb (zj 0) (zb (dC (.int 4)) zn)))) zn)))) (zi 5)) (zO (zan (dOp zb4 (dOp zb4 (zj 6) (dC (.int 1))) (zJ 0 2 zp (zb (zj 0) (zb (dC (.int 5)) zn)))) (zi 6)) (zcg (dBM zbF (zj 4) (zb (zaN (zb (zj 5) (zb (zj 6) zn))) zn)))))) (zcg (dBM zbF (zj 2) (zb (dCB zbQ (zb (zj 4) zn)) zn)))))))) (za1 (dCB zbQ (zb (zj 2) zn))))) (zbB S.length R) (xs.map some++List.replicate 6 none) S
def zbp:PN:=fun xs S R=>(zO (zan (dCB zhl (zb (zj 0) zn)) (zi 3)) (zO (zex (zay (zb (dCB zbU (zb (zj 2) zn)) zn)) (zi 4) (zcI (dB (dOp (dIb fun i j=>decide (j<i)) (dOp dIx (zj 2) (zj 4)) (dC (.int 0)))) (zan (dOp (dI0 fun i j=>i - j) (dOp dIx (zj 3) (zj 4)) (dOp dIx (dOp dIx (dOp dIx (zj 1) (zj 4)) (dOp (dI0 fun i j=>i - j) (dOp dIx (zj 2) (zj 4)) (dC (.int 1)))) (dC (.int 0)))) (zkS (zj 3) (zj 4))) za9)) (za1 (dCB zbQ (zb (zj 3) zn))))) (zbB S.length R) (xs.map some++List.replicate 2 none) S
def zby:PN:=fun xs S R=>(zO (zan (zcy (zb (zaN zn) zn)) (zi 1)) (zO (zex (zbE (zj 0)) (zi 2) (zO (zrL (zO (zan (zcE zn) (zi 3)) (zex (zbE (zj 1)) (zi 4) (zcg (dBM zeF (zj 3) (zb (zcA [none,some 4] (zay (zb (dOp zb4 (dCB zbU (zb (zj 2) zn)) (dC (.int 1))) zn)) (zi 0) zaJ (dOp zb4 (zj 1) (zaN (zb (zj 0) zn)))) zn)))))) (zan (zj 3) (zi 1)))) (za1 (zj 1)))) (zbB S.length R) (xs.map some++List.replicate 4 none) S
def zdA:PN:=fun xs S R=>(za1 (dCB zp3 (zb (zcA [none,some 1] (zbE (zj 0)) (zi 0) zaJ (zhM (dIb fun i j=>decide (i<=j)) (dIb fun i j=>decide (i<=j)) (dOp dIx (zj 0) (dC (.int 1))) (zP 2 zcL (zb (zj 0) (zb (zj 1) zn))) (dOp dIx (zj 0) (dC (.int 2))))) zn))) (zbB S.length R) (xs.map some++List.replicate 0 none) S
def zcr:PN:=fun xs S R=>(zO (zan (dOp dIx (zcy (zb (zcy (zb (dC (.int 1)) (zb (dUn (dUI fun i=>-i) (dC (.int 1))) (zb (dC (.int 2)) (zb (dUn (dUI fun i=>-i) (dC (.int 2))) (zb (dC (.int 3)) (zb (dUn (dUI fun i=>-i) (dC (.int 3))) zn))))))) (zb (zcy (zb (dC (.int 1)) (zb (dUn (dUI fun i=>-i) (dC (.int 1))) zn))) (zb (zcy (zb (dC (.int 2)) (zb (dUn (dUI fun i=>-i) (dC (.int 2))) zn))) (zb (zcy (zb (dC (.int 3)) (zb (dUn (dUI fun i=>-i) (dC (.int 3))) zn))) (zb (zcy (zb (dC (.int 2)) (zb (dC (.int 3)) (zb (dUn (dUI fun i=>-i) (dC (.int 2))) (zb (dUn (dUI fun i=>-i) (dC (.int 3))) zn))))) (zb (zcy (zb (dC (.int 1)) (zb (dC (.int 3)) (zb (dUn (dUI fun i=>-i) (dC (.int 1))) (zb (dUn (dUI fun i=>-i) (dC (.int 3))) zn))))) zn))))))) (zJ 0 2 zp (zb (zj 0) (zb (dC (.int 6)) zn)))) (zi 2)) (zO (zan (zcE zn) (zi 3)) (zO (zex (zay (zb (dCB zbU (zb (zj 1) zn)) zn)) (zi 4) (zcI (dB (dOp (dIb fun i j=>decide (j<i)) (zJ 0 2 zp (zb (zj 0) (zb (dC (.int 3)) zn))) (dC (.int 0)))) (zcg (dBM zbF (zj 3) (zb (zaN (zb (zj 4) (zb (dOp dIx (zj 2) (zJ 0 2 zp (zb (zj 0) (zb (dCB zbU (zb (zj 2) zn)) zn)))) zn))) zn))) za9)) (zO (zcI (dB (dOp zkl (zj 3) (zcy zn))) (zan (zcE (zb (zaN (zb (zJ 0 2 zp (zb (zj 0) (zb (dCB zbU (zb (zj 1) zn)) zn))) (zb (dOp dIx (zj 2) (zJ 0 2 zp (zb (zj 0) (zb (dCB zbU (zb (zj 2) zn)) zn)))) zn))) zn)) (zi 3)) za9) (za1 (dCB zbQ (zb (zj 3) zn))))))) (zbB S.length R) (xs.map some++List.replicate 3 none) S
def zbs:PN:=fun xs S R=>(zO (zan (zcE zn) (zi 3)) (zO (zex (zbE (zP 1 zby (zb (zj 2) zn))) (zi 4) (zcI (zgZ (zP 2 zdA (zb (zj 0) (zb (zP 3 zbp (zb (zj 1) (zb (zj 2) (zb (zj 4) zn)))) zn)))) (zcg (dBM zbF (zj 3) (zb (zaN (zb (zP 2 za2 (zb (zj 2) (zb (zj 4) zn))) (zb (zj 4) zn))) zn))) za9)) (zO (zcI (dB (dOp zkl (zj 3) (zcy zn))) (za1 (dC .none)) za9) (za1 (dOp dIx (dCB zoN (zb (zj 3) zn)) (dC (.int 1))))))) (zbB S.length R) (xs.map some++List.replicate 2 none) S
def zaW:PN:=fun xs S R=>(zO (zrL (zO (zan (zeb [none] (zbE (zP 3 zeD (zb (zj 1) (zb (zj 2) (zb (zj 3) zn))))) (zi 0) zaJ (zaN (zb (zj 0) (zb (zj 0) zn)))) (zi 4)) (zex (zbE (dSl zmw (zoz (zb (zj 1) (zb (zP 1 zbP (zb (zj 2) zn)) zn))) (zfw (dCB zbU (zb (zj 3) zn))) zce)) (zc9 2 (zaE (zi 5) (zaE (zi 6) zeo))) (zcg (dBM zbF (zj 4) (zb (zaN (zb (dOp (dI0 fun i j=>i - j) (zj 5) (dOp dIx (dOp dIx (zj 6) (dUn (dUI fun i=>-i) (dC (.int 1)))) (dC (.int 0)))) (zb (zj 5) zn))) zn)))))) (za1 (dCB zbQ (zb (zcA [none,none] (zgL (zb (zj 0) (zb (zj 4) zn))) (zc9 2 (zaE (zi 0) (zaE (zi 1) zeo))) zaJ (zaN (zb (dOp dIx (zj 0) (dC (.int 0))) (zb (dOp dIx (zj 1) (dC (.int 0))) (zb (dOp dIx (zj 1) (dC (.int 1))) zn))))) zn)))) (zbB S.length R) (xs.map some++List.replicate 3 none) S
def zcl:PN:=fun xs S R=>(zO (zan (zcE zn) (zi 4)) (zO (zex (zay (zb (dOp zb4 (dC (.int 1)) (zJ 0 2 zp (zb (zj 0) (zb (dC (.int 3)) zn)))) zn)) (zi 5) (zO (zan (zJ 0 2 zcr (zb (zj 0) (zb (zj 1) zn))) (zi 6)) (zO (zan (zP 1 zby (zb (zj 3) zn)) (zi 7)) (zO (zan (zP 3 zbp (zb (zj 2) (zb (zj 3) (zb (dOp dIx (zj 7) (zJ 0 2 zp (zb (zj 0) (zb (dCB zbU (zb (zj 7) zn)) zn)))) zn)))) (zi 8)) (zO (zan (dOp (dI0 fun i j=>i - j) (dOp zb4 (zP 2 zcL (zb (zaN (zb (zj 6) (zb (dC (.int 0)) (zb (dC (.int 0)) zn)))) (zb (zj 8) zn))) (zJ 0 2 zp (zb (zj 0) (zb (dC (.int 7)) zn)))) (dC (.int 5))) (zi 9)) (zcg (dBM zbF (zj 4) (zb (zaN (zb (zj 6) (zb (zj 9) (zb (dOp zb4 (zj 9) (zJ 0 2 zp (zb (zj 0) (zb (dC (.int 6)) zn)))) zn)))) zn)))))))) (za1 (dCB zbQ (zb (zj 4) zn))))) (zbB S.length R) (xs.map some++List.replicate 6 none) S
def zbA:PN:=fun xs S R=>(zO (zcI (dB (dOp (dIb fun i j=>decide (j<=i)) (zP 2 zaR (zb (zj 2) (zb (zj 4) zn))) (zj 3))) (za1 (zaN (zb (dC (.str "dear")) zn))) za9) (zO (zan (zP 4 zaW (zb (dOp dIx (zj 0) (dC (.int 0))) (zb (zj 1) (zb (zj 2) (zb (zj 4) zn))))) (zi 5)) (zO (zex (zhh (zb (dOp dIx (zj 0) (dC (.int 1))) zn)) (zc9 2 (zaE (zi 6) (zaE (zi 7) zeo))) (zcI (zgZ (zP 2 zfc (zb (zj 5) (zb (zj 7) zn)))) (za1 (zaN (zb (dC (.str "off")) (zb (zj 6) zn)))) za9)) (za1 (dC .none))))) (zbB S.length R) (xs.map some++List.replicate 3 none) S
def za7:PN:=fun xs S R=>(zO (zan (zP 1 zb5 (zb (zP 1 zbP (zb (zj 2) zn)) zn)) (zi 3)) (zO (zcg (zP 1 za6 (zb (zj 3) zn))) (zO (zan (zcA [none,some 0,some 1,some 2] (zbE (zP 1 zbx (zb (zj 3) zn))) (zi 0) (zgZ (dCB zp3 (zb (zP 2 zb7 (zb (dOp dIx (zj 1) (dC (.int 1))) (zb (zP 3 zeD (zb (zj 2) (zb (zj 3) (zb (zj 0) zn)))) zn))) zn))) (zj 0)) (zi 4)) (za1 (zgb [2] (zj 4) (zP 2 zaR (zb (zj 1) (zb (zj 0) zn)))))))) (zbB S.length R) (xs.map some++List.replicate 2 none) S
def zap:PX:=fun xs S R EX=>(zO (zan (zP 1 zb5 (zb (zP 1 zbP (zb (zj 2) zn)) zn)) (zi 3)) (zO (zcg (zif EX 1 zac (zb (zj 3) zn))) (zO (zan (zcA [none,some 0,some 1,some 2] (zbE (zP 1 zbx (zb (zj 3) zn))) (zi 0) (zgZ (dCB zp3 (zb (zP 2 zb7 (zb (dOp dIx (zj 1) (dC (.int 1))) (zb (zP 3 zeD (zb (zj 2) (zb (zj 3) (zb (zj 0) zn)))) zn))) zn))) (zj 0)) (zi 4)) (za1 (zgb [2] (zj 4) (zP 2 zaR (zb (zj 1) (zb (zj 0) zn)))))))) (zbB S.length R) (xs.map some++List.replicate 2 none) S
def zdB:PX:=fun xs S R EX=>(zO (zan (zP 1 zb5 (zb (zP 1 zbP (zb (zj 2) zn)) zn)) (zi 4)) (zO (zcg (zif EX 1 zac (zb (zj 4) zn))) (za1 (zhB [0,1,2,3] zbm (zP 5 zbA (zb (zj 1) (zb (zj 2) (zb (zj 3) (zb (zj 4) (zb (zj 0) zn)))))) (zj 4))))) (zbB S.length R) (xs.map some++List.replicate 1 none) S
def zbN:PN:=fun xs S R=>(zcI (dB (dOp zkl (zj 0) (dC (.int 0)))) (zmx (knT "told") 3 zap (zb (zj 1) (zb (zj 2) (zb (zj 3) zn))) 4 (zO (zcI (dOr (dB (dOp znF (zgI zb6 (zb (zj 4) zn)) (dC (.str "great")))) (dOr (zjr (zgZ (zP 1 zaq (zb (dXA [180] (zj 4) "many") zn)))) (zjr (zgZ (zP 1 zaq (zb (dXA [180] (zj 4) "most") zn)))))) (za1 (zaN (zb (dC (.str "other")) (zb (dC .none) zn)))) za9) (za1 (zaN (zb (dC (.str "great")) (zb (zaN (zb (dXA [180] (zj 4) "many") (zb (dXA [180] (zj 4) "most") zn))) zn)))))) (zmx (knT "told") 4 zdB (zb (zj 1) (zb (zj 2) (zb (zj 3) (zb (dC (.int 1)) zn)))) 4 (zO (zcI (dOr (dB (dOp znF (zgI zb6 (zb (zj 4) zn)) (dC (.str "great")))) (dOr (zjr (zgZ (zP 1 zaq (zb (dXA [180] (zj 4) "many") zn)))) (zjr (zgZ (zP 1 zaq (zb (dXA [180] (zj 4) "most") zn)))))) (za1 (zaN (zb (dC (.str "other")) (zb (dC .none) zn)))) za9) (za1 (zaN (zb (dC (.str "great")) (zb (zaN (zb (dXA [180] (zj 4) "many") (zb (dXA [180] (zj 4) "most") zn))) zn))))))) (zbB S.length R) (xs.map some++List.replicate 1 none) S
def zar:PN:=fun xs S R=>(zO (zan (dC (.int 1)) (zi 3)) (zO (zex (zbE (zj 2)) (zi 4) (zan (dOp zfh (zj 3) (dOp zb4 (dCB zbU (zb (zj 4) zn)) (dC (.int 1)))) (zi 3))) (zO (zex (zay (zb (dC (.int 2)) zn)) (zi 5) (zO (zan (zP 4 zbN (zb (zj 5) (zb (zj 0) (zb (zj 1) (zb (zj 2) zn))))) (zi 6)) (zcI (dOr (zrm (dB (dOp (dIb fun i j=>decide (j<i)) (zj 3) (dC (.int 300)))) (dB (dOp znF (zj 6) (zaN (zb (dC (.str "great")) (zb (zaN (zb (zj 3) (zb (dC (.int 300)) zn))) zn)))))) (zrm (dB (dOp (dIb fun i j=>decide (i<=j)) (zj 3) (dC (.int 300)))) (dB (dOp znF (dOp dIx (zj 6) (dC (.int 0))) (dC (.str "told")))))) (za1 (dC (.bool false))) za9))) (zO (zcI (dB (dOp (dIb fun i j=>decide (j<i)) (zj 3) (dC (.int 300)))) (za1 (dC (.bool true))) za9) (zO (zan (zP 3 zbs (zb (dOp dIx (zj 0) (dC (.int 1))) (zb (zj 1) (zb (zj 2) zn)))) (zi 7)) (zO (zex (zay (zb (dC (.int 2)) zn)) (zi 8) (zO (zan (zP 3 za7 (zb (zj 0) (zb (zj 1) (zb (zj 2) zn)))) (zi 9)) (zO (zcI (zrm (dB (dOp zrs (zj 7) (dC .none))) (dB (dOp zli (zj 9) (dC .none)))) (za1 (dC (.bool false))) za9) (zcI (dOr (zrm (dB (dOp zli (zj 7) (dC .none))) (zjr (zgZ (dCB zrt (zb (zj 9) (zb (dO (.ty "tuple")) zn)))))) (dB (dOp znF (zj 9) (zj 7)))) (za1 (dC (.bool false))) za9)))) (za1 (ztA (dOp zrs (zj 7) (dC .none)) (dCB zp3 (zb (zcA [none] (zbE (zj 9)) (zi 0) zaJ (zP 1 zaq (zb (zj 0) zn))) zn)))))))))) (zbB S.length R) (xs.map some++List.replicate 7 none) S
def zi8:DS:=(zO (zan (zaN (zb (zaN (zb (zaN (zb (dC (.str "a")) (zb (dC (.int 0)) (zb (dC (.int 2)) zn)))) zn)) (zb (zaN (zb (zaN (zb (zaN (zb (zaN (zb (dC (.int 0)) (zb (dC (.int 1)) zn))) zn)) (zb (dC (.int 0)) (zb (dC (.int 0)) zn)))) zn)) zn))) (zi 1)) (zcI (dOr (zjr (zgZ (zP 3 zar (zb (zj 1) (zb (zaN (zb (dC (.int 2)) zn)) (zb (zaN (zb (zaN (zb (zaN (zb (dC (.int 1)) (zb (dC (.int 1)) zn))) (zb (zaN (zb (dC (.int 2)) (zb (dC (.int 9)) zn))) zn))) zn)) zn)))))) (zjr (zgZ (zP 3 zar (zb (zj 1) (zb (zaN (zb (dC (.int 2)) zn)) (zb (zaN (zb (zaN zn) zn)) zn))))))) (za1 (dC (.bool false))) za9))
def zqY:DS:=(zO (zan (zP 1 zck (zb (zj 2) zn)) (zi 3)) (zO (zan (zJ 0 2 zdk (zb (zj 3) (zb (dC (.int 4)) zn))) (zi 4)) (zO (zan (zJ 0 2 zbO (zb (zj 3) (zb (zj 4) zn))) (zi 5)) (zO (zcI (dB (dOp (dIb fun i j=>decide (j<i)) (dCB zbU (zb (zj 4) zn)) (dC (.int 4)))) (zan (dCB zbQ (zb (zcA [none] (zbE (zj 5)) (zi 0) zaJ (dSl zrr (zj 0) zce (zfw (dC (.int 1))))) zn)) (zi 5)) za9) (zO (zan (zJ 0 2 zel (zb (zj 3) (zb (zj 4) zn))) (zi 6)) (zO (zan (zJ 0 4 zcl (zb (zj 3) (zb (zj 4) (zb (zj 6) (zb (zj 5) zn))))) (zi 7)) (zO (zan (dOp zb4 (dOp zfF (zaN (zb (zaN (zb (zaN (zb (dC (.int 1)) (zb (dC (.int 1)) zn))) (zb (zaN (zb (dC (.int 2)) (zb (dC (.int 2)) zn))) (zb (zaN (zb (dC (.int 3)) (zb (dC (.int 3)) zn))) zn)))) zn)) (dC (.int 4))) (zaN (zb (zaN zn) (zb (zaN (zb (zaN (zb (dC (.int 1)) (zb (dC (.int 1)) zn))) zn)) zn)))) (zi 8)) (zO (zan (dCB zbQ (zb (zcA [none] (zay (zb (dC (.int 6)) zn)) (zi 0) zaJ (zaN (zb (dOp zfh (dC (.str "b")) (dOp zb4 (zj 0) (dC (.int 1)))) (zb (dC (.int 0)) (zb (dC (.int 9)) zn))))) zn)) (zi 9)) (zO (zcI (zjr (zgZ (zP 3 zar (zb (zaN (zb (zj 4) (zb (zj 7) zn))) (zb (zj 6) (zb (zj 5) zn)))))) (za1 (dC (.bool false))) za9) (zO (zan (dOp zb4 (dC (.int 5)) (zJ 0 2 zp (zb (zj 3) (zb (dC (.int 2)) zn)))) (zi 10)) (zcI (zjr (zgZ (zP 3 zar (zb (zaN (zb (dSl zrr (zj 9) zce (zfw (zj 10))) (zb (zaN (zb (zaN (zb (zaN (zb (zaN (zb (dC (.int 0)) (zb (dC (.int 1)) zn))) zn)) (zb (dC (.int 0)) (zb (dC (.int 9)) zn)))) zn)) zn))) (zb (dOp zfF (zaN (zb (dC (.int 9)) zn)) (zj 10)) (zb (dSl zrr (zj 8) zce (zfw (zj 10))) zn)))))) (za1 (dC (.bool false))) za9)))))))))))
end My
namespace My
open PySem L2
theorem seq1{t u:DS}{E:DEnds}{δ:XE}{S:Sto}(h:t { E with nx:=u E } δ S):zO t u E δ S:=h
theorem cut{t u:DS}{E:DEnds}{δ:XE}{S:Sto}(I:XE->Sto->Prop)(h1:∀ N:XE->Sto->Prop,(∀ δ' S',I δ' S'->N δ' S')->t { E with nx:=N } δ S)(h2:∀ δ' S',I δ' S'->u E δ' S'):zO t u E δ S:=h1 _ h2
theorem zmU(i j:Int):PyData.eqv (.int i) (.int j)=decide (i=j):=rfl
theorem zs6(i:Int):SeqAt.shaped (.int i)=true:=rfl
theorem zrP(i:Bool):SeqAt.shaped (.bool i)=true:=rfl
theorem znt:("int" ∈ zoF)=True:=eq_true dz
theorem zkx:("bool" ∈ zoF)=True:=eq_true dz
theorem zh2:("tuple" ∈ zoF)=True:=eq_true dz
theorem zko:("list" ∈ zoF)=True:=eq_true dz
theorem zsb:SeqAt.shaped .none=true:=rfl
end My
namespace My
open PySem L2
local macro_rules | `(tactic| walk_at "d")=>`(tactic| (try simp only [zan,zhB,zru,zoN,zoz,zkf,zka,zgb,zjO,all_cons,List.all_nil,Bool.and_self,zfF,knT,zhp,dXA,zif,zmx,zux,zrM,zpU,zuj,ztm,znm,zgI,zg4,zpH,zsn,zo7,zue,zrr,zi,zj,dC,dO,dOp,dUn,zn,zb,dCB,zaN,zcy,zcE,dB,zjr,zrm,dOr,zoi,ztA,znL,dIf,zhM,dI,dI0,dIb,dUI,zkl,znF,zrs,zli,ztd,zsm,zs0,zrQ,zpc,zpx,zph,zpG,zo4,zpj,zlN,zpo,zpl,zpb,dFd,zgZ,zpv,zpP,zce,zfw,dSl,zbU,zmR,zpI,zrt,zob,dI2,zbQ,zhl,dBM,zry,ztB,zsE,zbF,zff,zeF,ztv,zoG,zku,zoC,zrY,zp3,zP,zJ,zrO,zsI,zsq,zr9,asL,zpM,zpY,zsM,zs9,zsg,zs1,zm8,zm4,zpr,zpN,zp0,zsL,zrN,zlJ,zmq,zpQ,zpt,zoZ,zpz,za1,zcI,zcg,za9,zkr,zex,zbE,zoR,zoS,zay,zlG,zhh,zgL,zc9,zaE,zsh,zr7,zsC,zsu,zs4,zsK,zeo,zkS,zcA,zeb,zaJ,zoX,zrL,zfr,zjZ,zjI,zki,ziW,zgO,List.replicate,map_cons,map_nil,map_some,Option.bind_some,Option.bind_none,Option.join_some,getElem?_cons_zero,getElem?_cons_succ,set_cons_zero,set_cons_succ,List.take_succ_cons,take_zero,List.take_nil,length_cons,length_nil,nil_append,cons_append,Option.some.injEq,exists_eq_left',exists_eq_left,List.cons.injEq,XV.d.injEq,XV.l.injEq,XV.o.injEq,PyData.int.injEq,PyData.list.injEq,PyData.tuple.injEq,PyData.bool.injEq,PyData.str.injEq,and_true,true_and,decide_eq_true_eq,Bool.not_true,Bool.not_false,Bool.false_eq_true,Bool.true_eq_false,not_true_eq_false,not_false_eq_true,↓reduceIte,decide_true,decide_false,Bool.not_eq_true',zm2,decide_eq_false_iff_not,Nat.reduceAdd,Nat.reduceMul,zero_add,Nat.reduceLT,Nat.reduceLeDiff,Nat.reduceEqDiff,Int.reduceLT,Int.reduceLE,Int.reduceNeg,Int.reducePow,Int.reduceToNat,Int.reduceEq,Int.reduceAdd,Int.reduceSub,Int.reduceMul,le_refl,zero_le,length_append,length_map,zmU,zs6,zrP,zsb,List.isEmpty_nil,List.isEmpty_cons,Int.cast_ofNat_Int,Int.natCast_zero,Int.natCast_one,znt,zkx,zh2,zko,znx,zjU,zhP,zjW]))
local macro_rules | `(tactic| walk_at "n")=>`(tactic| (refine seq1 ?_; walk_at "d"))
local macro_rules | `(tactic| walk_at "dX")=>`(tactic| (try simp -implicitDefEqProofs only [zan,zhB,zru,zoN,zoz,zkf,zka,zgb,zjO,all_cons,List.all_nil,Bool.and_self,zfF,knT,zhp,dXA,zif,zmx,zux,zrM,zpU,zuj,ztm,znm,zgI,zg4,zpH,zsn,zo7,zue,zrr,zi,zj,dC,dO,dOp,dUn,zn,zb,dCB,zaN,zcy,zcE,dB,zjr,zrm,dOr,zoi,ztA,znL,dIf,zhM,dI,dI0,dIb,dUI,zkl,znF,zrs,zli,ztd,zsm,zs0,zrQ,zpc,zpx,zph,zpG,zo4,zpj,zlN,zpo,zpl,zpb,dFd,zgZ,zpv,zpP,zce,zfw,dSl,zbU,zmR,zpI,zrt,zob,dI2,zbQ,zhl,dBM,zry,ztB,zsE,zbF,zff,zeF,ztv,zoG,zku,zoC,zrY,zp3,zP,zJ,zrO,zsI,zsq,zr9,asL,zpM,zpY,zsM,zs9,zsg,zs1,zm8,zm4,zpr,zpN,zp0,zsL,zrN,zlJ,zmq,zpQ,zpt,zoZ,zpz,za1,zcI,zcg,za9,zkr,zex,zbE,zoR,zoS,zay,zlG,zhh,zgL,zc9,zaE,zsh,zr7,zsC,zsu,zs4,zsK,zeo,zkS,zcA,zeb,zaJ,zoX,zrL,zfr,zjZ,zjI,zki,ziW,zgO,List.replicate,map_cons,map_nil,map_some,Option.bind_some,Option.bind_none,Option.join_some,getElem?_cons_zero,getElem?_cons_succ,set_cons_zero,set_cons_succ,List.take_succ_cons,take_zero,List.take_nil,length_cons,length_nil,nil_append,cons_append,Option.some.injEq,exists_eq_left',exists_eq_left,List.cons.injEq,XV.d.injEq,XV.l.injEq,XV.o.injEq,PyData.int.injEq,PyData.list.injEq,PyData.tuple.injEq,PyData.bool.injEq,PyData.str.injEq,and_true,true_and,decide_eq_true_eq,Bool.not_true,Bool.not_false,Bool.false_eq_true,Bool.true_eq_false,not_true_eq_false,not_false_eq_true,↓reduceIte,decide_true,decide_false,Bool.not_eq_true',zm2,decide_eq_false_iff_not,Nat.reduceAdd,Nat.reduceMul,zero_add,Nat.reduceLT,Nat.reduceLeDiff,Nat.reduceEqDiff,Int.reduceLT,Int.reduceLE,Int.reduceNeg,Int.reducePow,Int.reduceToNat,Int.reduceEq,Int.reduceAdd,Int.reduceSub,Int.reduceMul,le_refl,zero_le,length_append,length_map,zmU,zs6,zrP,zsb,List.isEmpty_nil,List.isEmpty_cons,Int.cast_ofNat_Int,Int.natCast_zero,Int.natCast_one,znt,zkx,zh2,zko,znx,zjU,zhP,zjW]))
local macro_rules | `(tactic| walk_at "e")=>`(tactic| (try simp only [zO,zan,zhB,zru,zoN,zoz,zkf,zka,zgb,zjO,all_cons,List.all_nil,Bool.and_self,zfF,knT,zhp,dXA,zif,zmx,zux,zrM,zpU,zuj,ztm,znm,zgI,zg4,zpH,zsn,zo7,zue,zrr,zi,zj,dC,dO,dOp,dUn,zn,zb,dCB,zaN,zcy,zcE,dB,zjr,zrm,dOr,zoi,ztA,znL,dIf,zhM,dI,dI0,dIb,dUI,zkl,znF,zrs,zli,ztd,zsm,zs0,zrQ,zpc,zpx,zph,zpG,zo4,zpj,zlN,zpo,zpl,zpb,dFd,zgZ,zpv,zpP,zce,zfw,dSl,zbU,zmR,zpI,zrt,zob,dI2,zbQ,zhl,dBM,zry,ztB,zsE,zbF,zff,zeF,ztv,zoG,zku,zoC,zrY,zp3,zP,zJ,zrO,zsI,zsq,zr9,asL,zpM,zpY,zsM,zs9,zsg,zs1,zm8,zm4,zpr,zpN,zp0,zsL,zrN,zlJ,zmq,zpQ,zpt,zoZ,zpz,za1,zcI,zcg,za9,zkr,zex,zbE,zoR,zoS,zay,zlG,zhh,zgL,zc9,zaE,zsh,zr7,zsC,zsu,zs4,zsK,zeo,zkS,zcA,zeb,zaJ,zoX,zrL,zfr,zjZ,zjI,zki,ziW,zgO,List.replicate,map_cons,map_nil,map_some,Option.bind_some,Option.bind_none,Option.join_some,getElem?_cons_zero,getElem?_cons_succ,set_cons_zero,set_cons_succ,List.take_succ_cons,take_zero,List.take_nil,length_cons,length_nil,nil_append,cons_append,Option.some.injEq,exists_eq_left',exists_eq_left,List.cons.injEq,XV.d.injEq,XV.l.injEq,XV.o.injEq,PyData.int.injEq,PyData.list.injEq,PyData.tuple.injEq,PyData.bool.injEq,PyData.str.injEq,and_true,true_and,decide_eq_true_eq,Bool.not_true,Bool.not_false,Bool.false_eq_true,Bool.true_eq_false,not_true_eq_false,not_false_eq_true,↓reduceIte,decide_true,decide_false,Bool.not_eq_true',zm2,decide_eq_false_iff_not,Nat.reduceAdd,Nat.reduceMul,zero_add,Nat.reduceLT,Nat.reduceLeDiff,Nat.reduceEqDiff,Int.reduceLT,Int.reduceLE,Int.reduceNeg,Int.reducePow,Int.reduceToNat,Int.reduceEq,Int.reduceAdd,Int.reduceSub,Int.reduceMul,le_refl,zero_le,length_append,length_map,zmU,zs6,zrP,zsb,List.isEmpty_nil,List.isEmpty_cons,Int.cast_ofNat_Int,Int.natCast_zero,Int.natCast_one,znt,zkx,zh2,zko,znx,zjU,zhP,zjW]))
section
variable {R:RX}
theorem zf6{n:Int}(q:∀ m,0<=m->R (.d (.int m)) []):zcx [.d (.int n)] [] R:=by
 unfold zcx;walk_at "e";have h1:=Int.emod_nonneg (n+7919) (show (2147483647:Int)≠0 by decide);have h2:=Int.emod_lt_of_pos (n+7919) (show (0:Int)<2147483647 by decide);exact⟨zeV (by omega) (by omega),zeV dz dz,q _ (Int.emod_nonneg _ dz)⟩
theorem zv{p:List PyData}{n:Int}(hp:zaO p)(hn:0<n)(hb:n.natAbs.log2<9000)(q:∀ r p',0<=r->r<n->zaO p'->R (.d (.int r)) [p']):zp [.l 0,.d (.int n)] [p] R:=by
 obtain⟨l,g,sd,rfl,hl⟩:=hp;unfold zp;walk_at "e";split
 ·refine⟨hn,.inl ⟨⟨hn,hb⟩,0,rfl,?_⟩⟩;walk_at "e";exact q _ _ (Int.emod_nonneg _ (by omega)) (Int.emod_lt_of_pos _ hn) ⟨_,_,_,rfl,Int.ediv_nonneg hl (by omega)⟩
 ·refine zf6 fun m _=>?_;walk_at "e";refine zf6 fun m' h'=>?_;walk_at "e";refine⟨2,rfl,?_⟩;walk_at "e";exact .inl ⟨⟨by decide,by decide +kernel⟩,hn,q _ _ (Int.emod_nonneg _ (by omega)) (Int.emod_lt_of_pos _ hn) ⟨_,_,_,rfl,hl⟩⟩
theorem zhK{n:Int}(q:∀ p,zaO p->R (.l 0) [p]):zck [.d (.int n)] [] R:=by
 unfold zck;walk_at "e";refine⟨⟨by decide,by decide,by decide⟩,?_⟩;refine .inr (q _ ⟨_,_,_,rfl,?_⟩);split <;> omega
theorem ze9{p:List PyData}(hp:zaO p)(q:∀ r p',-10 ^ 58<=r->r<=10 ^ 58->zaO p'->R (.d (.int r)) [p']):zaZ [.l 0] [p] R:=by
 unfold zaZ;walk_at "e";refine zv hp dz (by decide +kernel) fun r p1 r0 r1 hp1=>?_;walk_at "e";split
 ·refine zv hp1 dz (by decide +kernel) fun r p2 r0 r1 hp2=>?_;walk_at "e";exact q _ _ (by omega) (by omega) hp2
 ·split
  ·refine zv hp1 dz (by decide +kernel) fun r p2 r0 r1 hp2=>?_;walk_at "e";exact q _ _ (by omega) (by omega) hp2
  ·refine⟨⟨by decide,by decide,by decide⟩,zeV dz dz,?_⟩;have k1:(10:Int) ^ 30=1000000000000000000000000000000:=by decide +kernel
   have k2:(10:Int) ^ 28=10000000000000000000000000000:=by decide +kernel
   refine zv hp1 (by decide +kernel) (by decide +kernel) fun r p2 r0 r1 hp2=>?_;walk_at "e"
   try simp only [k1,k2] at r1 ⊢
   refine⟨⟨by decide,by decide,by decide⟩,⟨by decide,by decide,by decide⟩,ztD 128 128 (by omega) (by decide +kernel),q _ _ (by omega) (by omega) hp2⟩
end
section
variable {R:RX}
theorem zsJ{α:Type}[Inhabited α]{l:List α}{i:Int}(h0:0<=i)(h1:i<l.length)(d:α):atI l i=some (l.getD i.toNat d):=by
 obtain⟨k,rfl⟩:=Int.eq_ofNat_of_zero_le h0;have hk:k<l.length:=by omega
 rw [zcd (getElem?_eq_getElem hk)];simp [getD_eq_getElem?_getD,hk]
theorem zjL:("abcdefghijklmnopqrstuvwxyz":Str).length=26:=by decide
theorem znS:("abcdefghijklmnopqrstuvwxyz":Str).cps.toList.length=26:=by rw [<- zjL]; simp [Str.length]
theorem zh8:("abcdefghijklmnopqrstuvwxyz":Str).length<=sizeLine:=le_of_lt (small1000 (by rw [zjL]; decide))
theorem len1(c:Nat):(⟨#[c]⟩:Str).length=1:=rfl
abbrev lsgn (i:Int):Str:=⟨#[("abcdefghijklmnopqrstuvwxyz":Str).cps.toList.getD i.toNat 0]⟩
theorem zne{i:Int}(h0:0<=i)(h1:i<26):atI ("abcdefghijklmnopqrstuvwxyz":Str).cps.toList i=some (("abcdefghijklmnopqrstuvwxyz":Str).cps.toList.getD i.toNat 0):=zsJ h0 (by rw [znS]; exact h1) 0
theorem zmo{ds:List PyData}{a b:Option Int}{d:PyData}(m:d∈zdE ds a b):d∈ds:=by
 unfold zdE at m;exact mem_of_mem_drop (List.mem_of_mem_take m)
def zeR(z:Str):Bool:=decide (z.length<=100) && PyData.strOk z && !decide (z = "zy")
theorem zse:∀ f<26,∀ k<8,zeR (PySem.Txt.mul (lsgn (((f:Nat)+5*(0+((k:Nat):Int))) % 26)) (1+((f:Nat)+3*(0+((k:Nat):Int))) % 8))=true:=by decide +kernel
theorem zsS:∀ f<26,∀ k<8,zeR (PySem.Txt.slice (PySem.Txt.join "" ((List.range 8).map fun k:Nat=>lsgn (((f:Nat)+7*(0+(k:Int))) % 26))) none (some (0+((k:Nat):Int)+1)))=true:=by decide +kernel
theorem zro{ds:List PyData}(h:∀ d∈ds,∃ z:Str,d=.str z/\zeR z=true):∃ zs:List Str,ds=zs.map PyData.str/\zs.length=ds.length/\∀ z∈zs,zeR z=true:=by
 induction ds with
 | nil=>exact⟨[],rfl,rfl,by simp⟩
 | cons d ds ih =>
  obtain⟨z,rfl,hz⟩:=h d mem_cons_self;obtain⟨zs,rfl,hl,hzs⟩:=ih fun d m=>h d (mem_cons_of_mem _ m);refine⟨z :: zs,rfl,by simp,fun y m=>?_⟩;rcases mem_cons.mp m with rfl | m
  ·exact hz
  ·exact hzs y m
theorem zm6(a b:Str):(a++b).length=a.length+b.length:=strLen_append a b
theorem zii:∀ zs:List Str,(∀ z∈zs,z.length<=1)->(Str.join "" zs).length<=zs.length
 | [],_=>le_refl 0
 | [a],h=>h a mem_cons_self
 | a :: b :: r,h=>by
  show (a ++ "" ++ Str.join "" (b :: r)).length<=_;rw [zm6,zm6];have e:("":Str).length=0:=rfl;have h1:=h a mem_cons_self;have h2:=zii (b :: r) fun z m=>h z (mem_cons_of_mem _ m);rw [e];simp only [length_cons] at h2 ⊢;omega
def ziD(ds:List PyData):Prop:=∀ d∈ds,∃ z:Str,d=.str z/\zeR z=true
theorem zjs{ds:List PyData}{a:Int}(h0:0<=a)(h1:a<=ds.length):(zdE ds (some a) none++zdE ds none (some a)).length=ds.length:=by
 obtain⟨k,rfl⟩:=Int.eq_ofNat_of_zero_le h0;have e1:HT.sIx ds.length 0 (some (k:Int))=k:=by rw [HT.sIx_nat]; omega
 have e2:HT.sIx ds.length ds.length (some (k:Int))=k:=by rw [HT.sIx_nat]; omega
 have e3:HT.sIx ds.length ds.length none=ds.length:=rfl;have e4:HT.sIx ds.length 0 none=0:=rfl;unfold zdE;rw [e1,e2,e3,e4,length_append,length_take,length_take,length_drop,length_drop];omega
def zlP:List Str:=["part","gap","cut","a","aa","dear","b","keeps"]
set_option maxHeartbeats 8000000 in
theorem zfI{p:List PyData}(hp:zaO p)(q:∀ (ns:List Str) p',ns.length=8->(∀ z∈ns,zeR z=true)->zaO p'->R (.d (.list (ns.map PyData.str))) [p']):zbg [.l 0] [p] R:=by
 unfold zbg;walk_at "dX"
 (refine seq1 ?_; walk_at "dX")
 (refine seq1 ?_; walk_at "dX")
 refine zv hp dz (by decide +kernel) fun way p1 w0 w1 hp1=>?_;walk_at "dX"
 (refine seq1 ?_; walk_at "dX")
 refine zv hp1 dz (by decide +kernel) fun fst p2 f0 f1 hp2=>?_;walk_at "dX";refine cut (fun δ' S'=>∃ (ds:List PyData),ziD ds/\ds.length=8/\S'=[p2,ds]/\δ'=[some (.l 0),some (.d (.str ("abcdefghijklmnopqrstuvwxyz":Str))),some (.d (.int way)),some (.d (.int fst)),some (.l 1),none,none]) (fun N hN=>?_) ?_
 ·walk_at "dX";refine cmp1 (S0:=[p2]) (fun k:Nat=>.str (PySem.Txt.mul (lsgn ((fst+5*(0+k)) % 26)) (1+(fst+3*(0+k)) % 8))) rfl (List.range 8) (by simp) ?_ ?_
  ·intro k mk u acc R' hk;have b1:=Int.emod_nonneg (fst+5*(0+(k:Int))) (show (26:Int)≠0 by decide);have b2:=Int.emod_lt_of_pos (fst+5*(0+(k:Int))) (show (0:Int)<26 by decide);have b3:=Int.emod_nonneg (fst+3*(0+(k:Int))) (show (8:Int)≠0 by decide);have b4:=Int.emod_lt_of_pos (fst+3*(0+(k:Int))) (show (0:Int)<8 by decide);walk_at "dX";refine⟨zeV dz dz,zh8,_,zne b1 b2,?_⟩;walk_at "dX";refine⟨zeV dz dz,?_⟩;walk_at "dX";exact⟨by rw [len1]; decide,by omega,by omega,hk _⟩
  ·refine hN _ _ ⟨_,?_,by simp,rfl,rfl⟩;intro d m;obtain⟨k,mk,rfl⟩:=mem_map.mp m;obtain⟨f,rfl⟩:=Int.eq_ofNat_of_zero_le f0;exact⟨_,rfl,zse f (by omega) k (mem_range.mp mk)⟩
 rintro _ _ ⟨ds,hds,hl,rfl,rfl⟩;refine cut (fun δ' S'=>∃ (ds:List PyData) (T:Sto) (k:Nat) (u:Option XV),ziD ds/\ds.length=8/\T[k]? = some ds/\S'=p2 :: T/\δ'=[some (.l 0),some (.d (.str ("abcdefghijklmnopqrstuvwxyz":Str))),some (.d (.int way)),some (.d (.int fst)),some (.l (k+1)),u,none]) (fun N hN=>?_) ?_
 ·walk_at "dX";split
  ·refine seq1 ?_;walk_at "dX";refine cmp1 (S0:=[p2,ds]) (fun k:Nat=>.str (lsgn ((fst+7*(0+k)) % 26))) rfl (List.range 8) (by simp) ?_ ?_
   ·intro k mk u acc R' hk;have b1:=Int.emod_nonneg (fst+7*(0+(k:Int))) (show (26:Int)≠0 by decide);have b2:=Int.emod_lt_of_pos (fst+7*(0+(k:Int))) (show (0:Int)<26 by decide);walk_at "dX";refine⟨zeV dz dz,zh8,_,zne b1 b2,?_⟩;exact hk _
   ·walk_at "dX";refine⟨(List.range 8).map fun k:Nat=>lsgn ((fst+7*(0+k)) % 26),by rw [map_map]; rfl,by decide,by simp,fun y m=>?_,?_⟩
    ·obtain⟨k,_,rfl⟩:=mem_map.mp m;show 1<=1000;decide
    ·have wl:(PySem.Txt.join "" ((List.range 8).map fun k:Nat=>lsgn ((fst+7*(0+k)) % 26))).length<=8*1016:=by
      have:=zow (y:=("":Str)) (zs:=(List.range 8).map fun k:Nat=>lsgn ((fst+7*(0+k)) % 26)) dz (fun y m=>by
       obtain⟨k,_,rfl⟩:=mem_map.mp m;show 1<=1000;decide)
      simpa using this
     have wl':(PySem.Txt.join "" ((List.range 8).map fun k:Nat=>lsgn ((fst+7*(0+k)) % 26))).length<=8:=by
      show (Builtin.Str.glued _ _).length<=_;rw [StrLaws.glued_eq_join];have:=zii ((List.range 8).map fun k:Nat=>lsgn ((fst+7*(0+k)) % 26)) (fun y m=>by
       obtain⟨k,_,rfl⟩:=mem_map.mp m;exact le_refl 1)
      simpa using this
     walk_at "dX";refine cmp1 (S0:=[p2,ds]) (fun k:Nat=>.str (PySem.Txt.slice (PySem.Txt.join "" ((List.range 8).map fun k:Nat=>lsgn ((fst+7*(0+k)) % 26))) none (some (0+k+1)))) rfl (List.range 8) (by simp) ?_ ?_
     ·intro k mk u acc R' hk;walk_at "dX";exact⟨le_trans wl (by rw [sizeLine_eq]; decide),hk _⟩
     ·refine hN _ _ ⟨_,[ds,_],1,_,?_,?_,rfl,rfl,rfl⟩
      ·intro d m;obtain⟨k,mk,rfl⟩:=mem_map.mp m;obtain⟨f,rfl⟩:=Int.eq_ofNat_of_zero_le f0;exact⟨_,rfl,zsS f (by omega) k (mem_range.mp mk)⟩
      ·simp
  ·exact hN _ _ ⟨ds,[ds],0,none,hds,hl,rfl,rfl,rfl⟩
 rintro _ _ ⟨ds,T,k,u,hds,hl,hk,rfl,rfl⟩;refine cut (fun δ' S'=>∃ (ds:List PyData) (T:Sto) (k:Nat),ziD ds/\ds.length=8/\T[k]? = some ds/\S'=p2 :: T/\δ'=[some (.l 0),some (.d (.str ("abcdefghijklmnopqrstuvwxyz":Str))),some (.d (.int way)),some (.d (.int fst)),some (.l (k+1)),u,none]) (fun N hN=>?_) ?_
 ·walk_at "dX";split
  ·refine hN _ _ ⟨zlP.map PyData.str,T++[zlP.map PyData.str],T.length,?_,rfl,by rw [getElem?_concat_length],rfl,rfl⟩;intro d m;obtain⟨z,hz,rfl⟩:=mem_map.mp m;refine⟨z,rfl,?_⟩;simp only [zlP,mem_cons,not_mem_nil,or_false] at hz;rcases hz with rfl | rfl | rfl | rfl | rfl | rfl | rfl | rfl <;> decide +kernel
  ·exact hN _ _ ⟨ds,T,k,hds,hl,hk,rfl,rfl⟩
 rintro _ _ ⟨ds,T,k,hds,hl,hk,rfl,rfl⟩
 (refine seq1 ?_; walk_at "dX")
 refine zv hp2 dz (by decide +kernel) fun at' p3 a0 a1 hp3=>?_;walk_at "dX"
 (refine seq1 ?_; walk_at "dX")
 refine⟨ds,hk,ds,hk,?_⟩;have hc:=zjs (ds:=ds) a0 (by omega);rw [length_append] at hc;refine⟨by omega,?_⟩;have hk2:(T++[zdE ds (some at') none++zdE ds none (some at')])[T.length]? = some (zdE ds (some at') none++zdE ds none (some at')):=by rw [getElem?_concat_length]
 have hs2:ziD (zdE ds (some at') none++zdE ds none (some at')):=fun d m=>(mem_append.mp m).elim (fun m=>hds d (zmo m)) fun m=>hds d (zmo m);have hl2:(zdE ds (some at') none++zdE ds none (some at')).length=8:=by rw [length_append]; omega
 generalize zdE ds (some at') none++zdE ds none (some at')=es at hk2 hs2 hl2 ⊢;refine seq1 ?_;walk_at "dX";refine zv hp3 dz (by decide +kernel) fun r p4 r0 r1 hp4=>?_;walk_at "dX";have fin':∀ (fs:List PyData),ziD fs->fs.length=8->R (.d (.list fs)) [p4]:=by
  intro fs h1 h2;obtain⟨zs,rfl,z1,z2⟩:=zro h1;exact q zs p4 (by omega) z2 hp4
 split
 ·refine⟨by simp,es,hk2,?_⟩;walk_at "dX";rw [if_neg (by omega)];refine⟨es.reverse,by simp [zg6],.inl (fin' _ (fun d m=>hs2 d (mem_reverse.mp m)) (by simpa using hl2))⟩
 ·rw [if_neg (by omega)];exact⟨es,hk2,.inl (fin' _ hs2 hl2)⟩
abbrev Part:=Str×Int×Int
def zkU(p:Part):PyData:=.tuple [.str p.1,.int p.2.1,.int p.2.2]
def zcv(ps:List Part):PyData:=.tuple (ps.map zkU)
structure Prt(p:Part):Prop where
 nm:zeR p.1=true
 le:p.2.1<=p.2.2
 lo:-10 ^ 58<=p.2.1
 hi:p.2.2<=10 ^ 59
structure Drw(ps:List Part):Prop where
 l1:1<=ps.length
 l8:ps.length<=8
 all:∀ p∈ps,Prt p
theorem zbq{α:Type}{f:α->PyData}{l:List α}{k:Nat}{x:α}(e:l[k]? = some x):atI (l.map f) (k:Int)=some (f x):=zcd (by rw [getElem?_map,e]; rfl)
end
section
variable {R:RX} {S:Sto}
theorem zsO{a b m:Int}(h1:m∈[a,b])(h2:∀ x,x∈[a,b]->m<=x):m=min a b:=by
 have ha:=h2 a (by simp);have hb:=h2 b (by simp);simp only [mem_cons,not_mem_nil,or_false] at h1;omega
theorem zsw{a b m:Int}(h1:m∈[a,b])(h2:∀ x,x∈[a,b]->x<=m):m=max a b:=by
 have ha:=h2 a (by simp);have hb:=h2 b (by simp);simp only [mem_cons,not_mem_nil,or_false] at h1;omega
theorem zuZ{a b:Int}(q:R (.d (.int (min a b))) S):zqC [.d (.tuple [.int a,.int b])] S R:=.inl ⟨_,rfl,[a,b],rfl,by simp,fun m h1 h2=>by rw [zsO h1 h2]; exact q⟩
theorem zuM{a b:Int}(q:R (.d (.int (max a b))) S):ztZ [.d (.tuple [.int a,.int b])] S R:=⟨_,rfl,[a,b],rfl,by simp,fun m h1 h2=>by rw [zsw h1 h2]; exact q⟩
abbrev Term:=Nat×Int
def tmD(t:Term):PyData:=.tuple [.int t.1,.int t.2]
def zqB(ts:List Term):PyData:=.tuple (ts.map tmD)
structure Gap where
 ts:List Term
 lo:Int
 hi:Int
def zlw(g:Gap):PyData:=.tuple [zqB g.ts,.int g.lo,.int g.hi]
theorem zcT(g:Gap):zlw g=.tuple [zqB g.ts,.int g.lo,.int g.hi]:=rfl
theorem znc(t:Term):tmD t=.tuple [.int t.1,.int t.2]:=rfl
theorem znA(p:Part):zkU p=.tuple [.str p.1,.int p.2.1,.int p.2.2]:=rfl
def zad(ns:List Int):PyData:=.tuple (ns.map PyData.int)
structure Tms(n:Nat)(ts:List Term):Prop where
 ne:ts≠[]
 len:ts.length<=n
 ok:∀ t∈ts,t.1<n/\t.2≠0/\-3<=t.2/\t.2<=3
 srt:ts.Pairwise fun t u=>t.1<u.1
structure Tm3(n:Nat)(ts:List Term):Prop where
 len:ts.length<=100
 ok:∀ t∈ts,t.1<n/\-3<=t.2/\t.2<=3
theorem Tms.tm3{n:Nat}{ts:List Term}(h:Tms n ts)(hn:n<=8):Tm3 n ts:=⟨by have:=h.len; omega,fun t m=>⟨(h.ok t m).1,(h.ok t m).2.2⟩⟩
def worth(ts:List Term)(ns:List Int):Int:=(ts.map fun t=>t.2*ns.getD t.1 0).sum
theorem zjc{ns:List Int}{k:Nat}(h:k<ns.length):ns[k]? = some (ns.getD k 0):=by
 rw [getElem?_eq_getElem h,getD_eq_getElem?_getD,getElem?_eq_getElem h];rfl
def part(ps:List Part)(k:Nat):Part:=ps.getD k ("",0,0)
theorem zms{ps:List Part}{k:Nat}(h:k<ps.length):ps[k]? = some (part ps k):=by
 unfold part;rw [getElem?_eq_getElem h,getD_eq_getElem?_getD,getElem?_eq_getElem h];rfl
def plo(ps:List Part)(k:Nat):Int:=(part ps k).2.1
def phi(ps:List Part)(k:Nat):Int:=(part ps k).2.2
def tLo(ps:List Part)(t:Term):Int:=min (t.2*plo ps t.1) (t.2*phi ps t.1)
def tHi(ps:List Part)(t:Term):Int:=max (t.2*plo ps t.1) (t.2*phi ps t.1)
def zcD(ps:List Part)(ts:List Term):Int:=(ts.map (tLo ps)).sum
def zeI(ps:List Part)(ts:List Term):Int:=(ts.map (tHi ps)).sum
theorem zjk{ps:List Part}{t:Term}{ts:List Term}:zcD ps (t :: ts)=tLo ps t+zcD ps ts:=by simp [zcD]
theorem zk5{ps:List Part}{t:Term}{ts:List Term}:zeI ps (t :: ts)=tHi ps t+zeI ps ts:=by simp [zeI]
theorem zjy{ps:List Part}{ts:List Term}{i:Nat}{t:Term}(h:ts[i]? = some t):zcD ps (ts.take (i+1))=zcD ps (ts.take i)+tLo ps t:=by
 unfold zcD;rw [take_add_one,h];simp
theorem zlb{ps:List Part}{ts:List Term}{i:Nat}{t:Term}(h:ts[i]? = some t):zeI ps (ts.take (i+1))=zeI ps (ts.take i)+tHi ps t:=by
 unfold zeI;rw [take_add_one,h];simp
theorem zkD{ns:List Int}{ts:List Term}{i:Nat}{t:Term}(h:ts[i]? = some t):worth (ts.take (i+1)) ns=worth (ts.take i) ns+t.2*ns.getD t.1 0:=by
 unfold worth;rw [take_add_one,h];simp
theorem zek(ps:List Part):∀ ts:List Term,zcD ps ts<=zeI ps ts
 | []=>by simp [zcD,zeI]
 | t :: ts=>by
  have:=zek ps ts;rw [zjk,zk5];unfold tLo tHi;omega
theorem zbX{α:Type}{f:α->PyData}{l:List α}{i:Nat}{d:PyData}(h:(l.map f)[i]? = some d):∃ x,l[i]? = some x/\d=f x:=by
 rw [getElem?_map] at h;obtain⟨x,e,rfl⟩:=map_eq_some_iff.mp h;exact⟨x,e,rfl⟩
theorem zoa{ds:List PyData}{r:Int}{P:PyData->Prop}(h0:0<=r)(h1:r<ds.length)(hP:∀ d∈ds,P d):∃ d,atI ds r=some d/\P d:=by
 obtain⟨k,rfl⟩:=Int.eq_ofNat_of_zero_le h0;have hk:k<ds.length:=by omega
 exact⟨ds[k],zcd (getElem?_eq_getElem hk),hP _ (getElem_mem hk)⟩
theorem zmh(ds:List PyData):PyData.eqv (.list ds) (.list [])=decide (ds=[]):=by
 cases ds with
 | nil=>rfl
 | cons d ds=>rfl
theorem ztc(t:Term):Shp 1 (tmD t):=zhr (zqM zhs zhs)
theorem zkY(ts:List Term):SeqAt.shaped (.list (ts.map tmD))=true:=(zfe (zf4 fun t _=>ztc t)).ok
def zcf(gs:List Gap):PyData:=.tuple (gs.map zlw)
theorem zuC{g:DG}{te:DE}{fin:Sto->Prop}{α:Type}(F:α->Prop)(f:α->PyData)(P:XE->Prop):∀ (ds:List PyData) (acc:List α) (p:List PyData) (τ:XE),P τ->zaO p->acc.length+ds.length<=1000 ->
  (∀ d∈ds,∀ τ p acc (R:XE->RX),P τ->zaO p->(∀ τ' x p',P τ'->zaO p'->F x->R τ' (.d (f x)) [p',acc])->g (.d d) τ [p,acc] fun τ1 S1=>te τ1 S1 (R τ1)) ->
  (∀ xs p',zaO p'->(∀ x∈xs,F x)->xs.length=ds.length->fin [p',(acc++xs).map f])->ze4 1 g zaJ te fin ds τ [p,acc.map f]
 | [],acc,p,τ,_,hp,_,_,h=>by
  have:=h [] p hp (by simp) rfl;rw [append_nil] at this;exact this
 | d :: ds,acc,p,τ,hP,hp,hl,el,h=>by
  show g (.d d) τ [p,acc.map f] fun τ1 S1=>zaJ τ1 S1 fun b S2=>if b=true then te τ1 S2 fun x S3=>asD x fun e=>∃ acc,S3[1]? = some acc/\acc.length<1000/\ze4 1 g zaJ te fin ds τ1 (S3.set 1 (acc++[e])) else ze4 1 g zaJ te fin ds τ1 S2
  simp only [zaJ,↓reduceIte];rw [length_cons] at hl;refine el d mem_cons_self τ p (acc.map f) (fun τ1 x S3=>asD x fun e=>∃ acc,S3[1]? = some acc/\acc.length<1000/\ze4 1 g zaJ te fin ds τ1 (S3.set 1 (acc++[e]))) hP hp fun τ' x p' hP' hp' hF=>?_;refine⟨acc.map f,rfl,by rw [length_map]; omega,?_⟩;have e:([p',acc.map f]:Sto).set 1 (acc.map f++[f x])=[p',(acc++[x]).map f]:=by simp
  rw [e];refine zuC F f P ds (acc++[x]) p' τ' hP' hp' (by rw [length_append,length_singleton]; omega) (fun e m=>el e (mem_cons_of_mem _ m)) fun xs p'' hp'' fs hl=>?_;rw [append_assoc];exact h (x :: xs) p'' hp'' (fun y m=>(mem_cons.mp m).elim (fun e=>e▸hF) (fs y)) (by simp [hl])
end
section
variable {R:RX} {S:Sto}
theorem zqT{a b c d:Int}(q:R (.d (spD (a+c) (b+d))) []):zjT [.d (spD a b),.d (spD c d)] [] R:=by
 unfold zjT spD;walk_at "e";exact q
theorem zhH{a b n:Int}(h1:-3<=n)(h2:n<=3)(q:R (.d (spD (min (a*n) (b*n)) (max (a*n) (b*n)))) []):zcm [.d (spD a b),.d (.int n)] [] R:=by
 unfold zcm spD;walk_at "e";refine⟨zkg (by omega) (by omega),zkg (by omega) (by omega),?_⟩;refine zuZ ?_;walk_at "e";refine zuM ?_;walk_at "e";exact q
theorem zk1{p:Part}(q:R (.d (spD p.2.1 p.2.2)) []):zen [.d (zkU p)] [] R:=by
 unfold zen zkU;walk_at "e";exact q
theorem zt9{ps:List Part}{t:Term}:min ((part ps t.1).2.1*t.2) ((part ps t.1).2.2*t.2)=tLo ps t:=by
 unfold tLo plo phi;rw [Int.mul_comm t.2,Int.mul_comm t.2]
theorem ztQ{ps:List Part}{t:Term}:max ((part ps t.1).2.1*t.2) ((part ps t.1).2.2*t.2)=tHi ps t:=by
 unfold tHi plo phi;rw [Int.mul_comm t.2,Int.mul_comm t.2]
theorem zeK{ps:List Part}{ts:List Term}{t:PyData}(ht:zkJ (.d t)=some (ts.map tmD))(h3:Tm3 ps.length ts)(q:R (.d (spD (zcD ps ts) (zeI ps ts))) []):zbn [.d (zcv ps),.d t] [] R:=by
 unfold zbn zcv;walk_at "d"
 walk_at "n"
 walk_at "n";refine⟨_,ht,?_⟩;refine zR (fun i δ S=>∃ (u1 u2:Option XV),S=[]/\δ=[some (.d (.tuple (ps.map zkU))),some (.d t),some (.d (spD (zcD ps (ts.take i)) (zeI ps (ts.take i)))),u1,u2]) ⟨_,_,rfl,rfl⟩ ?_ ?_
 ·rintro i d _ _ N hi ⟨u1,u2,rfl,rfl⟩ hN;obtain⟨t,ht,rfl⟩:=zbX hi;obtain⟨t1,t2,t3⟩:=h3.ok t (mem_of_getElem? ht);have ep:=zbq (f:=zkU) (zms t1);rw [znc];walk_at "d";refine⟨_,ep,?_⟩;refine zk1 ?_;walk_at "d";refine zhH t2 t3 ?_;walk_at "d";refine zqT ?_;walk_at "d";exact hN _ _ ⟨_,_,rfl,by rw [zjy ht,zlb ht,<- zt9,<- ztQ]⟩
 ·rintro _ _ ⟨u1,u2,rfl,rfl⟩;rw [length_map,take_length];walk_at "d";exact q
theorem zjx{g:Gap}{ns:List Int}(h3:Tm3 ns.length g.ts)(q:R (.d (.int (worth g.ts ns))) []):zdx [.d (zlw g),.d (zad ns)] [] R:=by
 unfold zdx zad;rw [zcT,zqB];walk_at "e";refine cmp2 (S0:=[]) (fun t:Term=>.int (t.2*ns.getD t.1 0)) rfl g.ts (by have:=h3.len; omega) ?_ ?_
 ·intro t mt u v acc R' hk;obtain⟨t1,t2,t3⟩:=h3.ok t mt;have e:=zbq (f:=PyData.int) (zjc t1);rw [znc];walk_at "e";refine⟨_,e,?_⟩;walk_at "e";exact⟨zeV (by omega) (by omega),hk _ _⟩
 ·walk_at "e";refine⟨g.ts.map fun t:Term=>t.2*ns.getD t.1 0,by rw [map_map]; rfl,q⟩
def zdD(g:Gap)(ns:List Int):Bool:=decide (g.lo<=worth g.ts ns/\worth g.ts ns<=g.hi)
theorem zn9{g:Gap}{ns:List Int}(h3:Tm3 ns.length g.ts)(q:R (.d (.bool (zdD g ns))) []):zhu [.d (zlw g),.d (zad ns)] [] R:=by
 unfold zhu;walk_at "e";rw [zcT];walk_at "e";rw [<- zcT];refine zjx h3 ?_;walk_at "e";unfold zdD at q;by_cases h:g.lo<=worth g.ts ns
 ·simp only [h,true_and] at q;rw [if_pos h];exact q
 ·simp only [h,false_and,decide_false] at q;rw [if_neg h];exact q
structure InBox(ps:List Part)(ns:List Int):Prop where
 len:ns.length=ps.length
 ok:∀ k,k<ps.length->plo ps k<=ns.getD k 0/\ns.getD k 0<=phi ps k
theorem zeW{gs:List Gap}{ns:List Int}(hl:gs.length<=100)(h3:∀ g∈gs,Tm3 ns.length g.ts)(q:R (.d (.list (gs.map fun g=>.bool (zdD g ns)))) []):zb7 [.d (zcf gs),.d (zad ns)] [] R:=by
 unfold zb7;rw [zcf];walk_at "e";refine cmp1 (S0:=[]) (fun g:Gap=>.bool (zdD g ns)) rfl gs (by omega) ?_ ?_
 ·intro g mg u acc R' hk;walk_at "e";refine zn9 (h3 g mg) ?_;walk_at "e";exact hk _
 ·walk_at "e";exact .inl q
end
section
variable {R:RX} {S:Sto}
def zmV:PyData->Bool
 | .int _=>true
 | _=>false
end
section
variable {R:RX} {S:Sto}
def rng(lo:Int)(n:Nat):List Int:=(List.range n).map fun k:Nat=>lo+k
def zm7(p:Part):List Int:=rng p.2.1 (p.2.2 - p.2.1+1).toNat
theorem zoD(p:Part):(zm7 p).length=(p.2.2 - p.2.1+1).toNat:=by simp [zm7,rng]
def ext(found:List (List Int))(p:Part):List (List Int):=found.flatMap fun a=>(zm7 p).map fun x=>a++[x]
def zU:List Nat->Nat
 | []=>1
 | x :: xs=>x*zU xs
def zqX(ps:List Part):Nat:=zU (ps.map fun p=>(p.2.2 - p.2.1+1).toNat)
theorem zcM{α β:Type}{f:α->List β}{n:Nat}:∀ {l:List α},(∀ x∈l,(f x).length=n)->(l.flatMap f).length=l.length*n
 | [],_=>by simp
 | x :: l,h=>by
  rw [List.flatMap_cons,length_append,h x mem_cons_self,zcM fun y m=>h y (mem_cons_of_mem _ m),length_cons,succ_mul,Nat.add_comm]
theorem zl0{found:List (List Int)}{p:Part}:(ext found p).length=found.length*(p.2.2 - p.2.1+1).toNat:=by
 unfold ext;exact zcM fun x _=>by rw [length_map,zoD]
theorem zdf:∀ {l:List Nat},(∀ x∈l,1<=x)->1<=zU l
 | [],_=>le_refl _
 | x :: l,h=>mul_le_mul (h x mem_cons_self) (zdf fun y m=>h y (mem_cons_of_mem _ m))
theorem zdq:∀ (a b:List Nat),zU (a++b)=zU a*zU b
 | [],b=>by simp [zU]
 | x :: a,b=>by simp [zU,zdq a b,Nat.mul_assoc]
theorem zbC{α:Type}{l:List α}{i:Nat}{x:α}(h:l[i]? = some x):l.take (i+1)=l.take i++[x]:=by rw [take_add_one,h]; rfl
theorem ziR(a:List Int)(x:Int):PyData.tuple (a.map PyData.int++[.int x])=zad (a++[x]):=by simp [zad]
end
section
variable {R:RX} {S:Sto}
structure Wds(ws:List Int):Prop where
 l1:1<=ws.length
 l8:ws.length<=8
 pos:∀ x∈ws,1<=x
 le:∀ x∈ws,x<=300
 prod:zU (ws.map Int.toNat)<=300
theorem prod3:∀ {ws:List Int},(∀ x∈ws,1<=x/\x<=3)->zU (ws.map Int.toNat)<=3 ^ ws.length
 | [],_=>by simp [zU]
 | x :: ws,h=>by
  have h1:=h x mem_cons_self;have h2:=prod3 fun y m=>h y (mem_cons_of_mem _ m);rw [map_cons,zU,length_cons,pow_succ,mul_comm];exact mul_le_mul h2 (by omega)
theorem wds3{ws:List Int}(l1:1<=ws.length)(l4:ws.length<=4)(h:∀ x∈ws,1<=x/\x<=3):Wds ws:=by
 refine⟨l1,by omega,fun x m=>(h x m).1,fun x m=>by have:=(h x m).2; omega,le_trans (prod3 h) ?_⟩;have:ws.length=1\/ws.length=2\/ws.length=3\/ws.length=4:=by omega
 rcases this with e | e | e | e <;> rw [e] <;> decide
theorem znZ{Q names number:PN}{p:List PyData}{m:Int}(hQ:Q=fun xs S R=>(zO (zan (zJ 0 1 names (zb (zj 0) zn)) (zi 2)) (zO (zan (zcA [none,some 0] (zay (zb (dOp zb4 (dC (.int 1)) (zJ 0 2 zp (zb (zj 0) (zb (zj 1) zn)))) zn)) (zi 0) zaJ (dOp zb4 (dC (.int 1)) (zJ 0 2 zp (zb (zj 1) (zb (dC (.int 3)) zn))))) (zi 3)) (zO (zcI (dB (dOp zkl (zJ 0 2 zp (zb (zj 0) (zb (dC (.int 12)) zn))) (dC (.int 0)))) (zan (dOp dIx (zcy (zb (dOp zfh (zcy (zb (dC (.int 2)) zn)) (dC (.int 8))) (zb (zcy (zb (dC (.int 17)) (zb (dC (.int 17)) zn))) (zb (zcy (zb (dC (.int 300)) zn)) (zb (dOp zfh (zcy (zb (dC (.int 1)) zn)) (dC (.int 8))) zn))))) (zJ 0 2 zp (zb (zj 0) (zb (dC (.int 4)) zn)))) (zi 3)) za9) (zO (zan (zcE zn) (zi 4)) (zO (zex (zay (zb (dCB zbU (zb (zj 3) zn)) zn)) (zi 5) (zO (zan (zJ 0 1 number (zb (zj 0) zn)) (zi 6)) (zcg (dBM zbF (zj 4) (zb (zaN (zb (dOp dIx (zj 2) (zj 5)) (zb (zj 6) (zb (dOp (dI0 fun i j=>i - j) (dOp zb4 (zj 6) (dOp dIx (zj 3) (zj 5))) (dC (.int 1))) zn)))) zn))))) (za1 (dCB zbQ (zb (zj 4) zn)))))))) (zbB S.length R) (xs.map some++List.replicate 5 none) S)
  (hnames:∀ {p:List PyData} {R:RX},zaO p->(∀ (ns:List Str) p',ns.length=8->(∀ z∈ns,zeR z=true)->zaO p'->R (.d (.list (ns.map PyData.str))) [p'])->names [.l 0] [p] R)
  (hnumber:∀ {p:List PyData} {R:RX},zaO p->(∀ r p',-10 ^ 58<=r->r<=10 ^ 58->zaO p'->R (.d (.int r)) [p'])->number [.l 0] [p] R)
  (hp:zaO p) (m1:0<m) (m4:m<=4) (q:∀ (ps:List Part) p',Drw ps->zqX ps<=300->zaO p'->R (.d (zcv ps)) [p']):Q [.l 0,.d (.int m)] [p] R:=by
 subst hQ;walk_at "d"
 walk_at "n"
 refine hnames hp fun ns p1 hn hz hp1=>?_;walk_at "d"
 walk_at "n"
 refine zv hp1 m1 (zcG m1 (by omega)) fun r p2 r0 r1 hp2=>?_;walk_at "d";refine zuC (α:=Int) (fun x=>1<=x/\x<=3) PyData.int (fun τ=>∃ u,τ=[u,some (.l 0)]) _ [] p2 _ ⟨_,rfl⟩ hp2 (by rw [zah]; simp; omega) ?_ ?_
 ·rintro d md _ p acc R' ⟨u,rfl⟩ hp hk;walk_at "d";refine zv hp dz (by decide +kernel) fun r p' r0 r1 hp'=>?_;walk_at "d";exact hk _ _ p' ⟨_,rfl⟩ hp' ⟨by omega,by omega⟩
 ·intro ws p3 hp3 hw hl;rw [zah] at hl;have hws:Wds ws:=wds3 (by omega) (by omega) hw;rw [nil_append];walk_at "d";refine cut (fun δ S=>∃ (p:List PyData) (ws:List Int),zaO p/\Wds ws/\S=[p]/\δ=[some (.l 0),some (.d (.int m)),some (.d (.list (ns.map PyData.str))),some (.d (.list (ws.map PyData.int))),none,none,none]) (fun N hN=>?_) ?_
  ·walk_at "d";refine zv hp3 dz (by decide +kernel) fun r2 p4 r3 r4 hp4=>?_;walk_at "d";split
   ·refine zv hp4 dz (by decide +kernel) fun r5 p5 r6 r7 hp5=>?_;obtain⟨d,ed,ws',rfl,hw'⟩:=zoa (P:=fun d=>∃ ws:List Int,d=.list (ws.map PyData.int)/\Wds ws) (ds:=[PyData.list (List.replicate 8 [PyData.int 2]).flatten,.list [.int 17,.int 17],.list [.int 300],.list (List.replicate 8 [PyData.int 1]).flatten]) r6 r7 (by
     intro d m;simp only [mem_cons,not_mem_nil,or_false] at m;rcases m with rfl | rfl | rfl | rfl
     ·exact⟨[2,2,2,2,2,2,2,2],rfl,by decide,by decide,by decide,by decide,by decide⟩
     ·exact⟨[17,17],rfl,by decide,by decide,by decide,by decide,by decide⟩
     ·exact⟨[300],rfl,by decide,by decide,by decide,by decide,by decide⟩
     ·exact⟨[1,1,1,1,1,1,1,1],rfl,by decide,by decide,by decide,by decide,by decide⟩)
    walk_at "d";refine⟨_,ed,hN _ _ ⟨p5,ws',hp5,hw',rfl,rfl⟩⟩
   ·exact hN _ _ ⟨p4,ws,hp4,hws,rfl,rfl⟩
  rintro _ _ ⟨p,ws,hp,hws,rfl,rfl⟩;have w8:=hws.l8
  walk_at "n"
  walk_at "n";refine zR (fun i δ S=>∃ (p:List PyData) (ps:List Part) (u1 u2:Option XV),zaO p/\ps.length=i/\(∀ p∈ps,Prt p)/\ps.map (fun p=>(p.2.2 - p.2.1+1).toNat)=(ws.take i).map Int.toNat/\S=[p,ps.map zkU]/\δ=[some (.l 0),some (.d (.int m)),some (.d (.list (ns.map PyData.str))),some (.d (.list (ws.map PyData.int))),some (.l 1),u1,u2]) ⟨p,[],_,_,hp,rfl,by simp,rfl,rfl,rfl⟩ ?_ ?_
  ·rintro i d _ _ N hi ⟨p,ps,u1,u2,hp,hl,ha,hs,rfl,rfl⟩ hN;obtain⟨hi',rfl⟩:=zbi hi;have iw:i<ws.length:=by simpa using hi'
   have i8:i<ns.length:=by omega
   have e:=zbq (f:=PyData.str) (getElem?_eq_getElem i8);have ew:=zbq (f:=PyData.int) (getElem?_eq_getElem iw);have w1:=hws.pos _ (getElem_mem iw);have w300:=hws.le _ (getElem_mem iw);have e0:(0:Int)+(i:Int)=(i:Int):=by omega
   walk_at "d"
   walk_at "n"
   refine hnumber hp fun lo p3 h1 h2 hp3=>?_;walk_at "d";rw [e0];refine⟨_,e,?_⟩;walk_at "d";refine⟨_,ew,?_⟩;walk_at "d";refine⟨by omega,hN _ _ ⟨p3,ps++[(ns[i],lo,lo+ws[i] - 1)],_,_,hp3,by simp [hl],fun x hx=>?_,?_,by simp [zkU],rfl⟩⟩
   ·rcases mem_append.mp hx with hx | hx
    ·exact ha x hx
    ·rw [mem_singleton.mp hx];exact⟨hz _ (getElem_mem i8),by simp only; omega,h1,by simp only; omega⟩
   ·rw [map_append,hs,zbC (getElem?_eq_getElem iw),map_append];congr 1;simp only [map_cons,map_nil,List.cons.injEq,and_true];omega
  ·rintro _ _ ⟨p,ps,u1,u2,hp,hl,ha,hs,rfl,rfl⟩;rw [zah] at hl hs;have hz':(ws.length:Int).toNat=ws.length:=by simp
   rw [hz'] at hl hs;rw [take_length] at hs;walk_at "d";have hw1:=hws.l1;exact q ps p ⟨by omega,by omega,ha⟩ (by unfold zqX; rw [hs]; exact hws.prod) hp
theorem zhn{p:List PyData}{m:Int}(hp:zaO p)(m1:0<m)(m4:m<=4)(q:∀ (ps:List Part) p',Drw ps->zqX ps<=300->zaO p'->R (.d (zcv ps)) [p']):zdk [.l 0,.d (.int m)] [p] R :=
 znZ (names:=zbg) (number:=zaZ) rfl zfI ze9 hp m1 m4 q
theorem zfR{g:Gap}{ns:List Int}(h3:Tm3 ns.length g.ts)(q:R (.d (.int (worth g.ts ns))) []):zdF [.d (zlw g),.d (zad ns)] [] R:=by
 unfold zdF zad;rw [zcT,zqB];walk_at "d"
 walk_at "n"
 walk_at "n";refine zR (fun i δ S=>∃ (u1 u2:Option XV),S=[]/\δ=[some (.d (.tuple [.tuple (g.ts.map tmD),.int g.lo,.int g.hi])),some (.d (.tuple (ns.map PyData.int))),some (.d (.int (worth (g.ts.take i) ns))),u1,u2]) ⟨_,_,rfl,rfl⟩ ?_ ?_
 ·rintro i d _ _ N hi ⟨u1,u2,rfl,rfl⟩ hN;obtain⟨t,ht,rfl⟩:=zbX hi;obtain⟨t1,t2,t3⟩:=h3.ok t (mem_of_getElem? ht);have e:=zbq (f:=PyData.int) (zjc t1);rw [znc];walk_at "d";refine⟨_,e,?_⟩;walk_at "d";exact⟨zeV (by omega) (by omega),hN _ _ ⟨_,_,rfl,by rw [zkD ht]⟩⟩
 ·rintro _ _ ⟨u1,u2,rfl,rfl⟩;rw [length_map,take_length];walk_at "d";exact q
theorem zeP{g:Gap}{ns:List Int}(h3:Tm3 ns.length g.ts)(q:R (.d (.int (worth g.ts ns))) []):zcL [.d (zlw g),.d (zad ns)] [] R:=zfR h3 q
theorem zjC{n:Nat}(a:List Int):Shp (n+1) (zad a):=zhr (zf4 fun _ _=>zhs)
theorem zlp(a:List Int):SeqAt.shaped (zad a)=true:=(zjC (n:=0) a).ok
end
section
variable {R:RX} {S:Sto}
abbrev Off:=Int×Int×Int
def offer(os:List (List Off))(ks:List Nat)(i:Nat):Off:=(os.getD i []).getD (ks.getD i 0) (0,0,0)
end
section
variable {R:RX}
theorem zgy{found:List (List Int)}{p:Part}(hl:(ext found p).length<=1000)(fl:∀ a∈found,a.length<=100)(h1:1<=found.length)(q:R (.d (.list ((ext found p).map zad))) []):zaI [.d (.list (found.map zad)),.d (.list ((zm7 p).map PyData.int))] [] R:=by
 unfold zaI;walk_at "d"
 walk_at "n"
 walk_at "n";refine zR (fun j δ S=>∃ (u:Option XV),S=[(ext (found.take j) p).map zad]/\δ=[some (.d (.list (found.map zad))),some (.d (.list ((zm7 p).map PyData.int))),some (.l 0),u]) ⟨_,rfl,rfl⟩ ?_ ?_
 ·rintro j d _ _ N hj ⟨u,rfl,rfl⟩ hN;obtain⟨a,ha,rfl⟩:=zbX hj;have al:=fl a (mem_of_getElem? ha);have ej:ext (found.take (j+1)) p=ext (found.take j) p++(zm7 p).map fun x=>a++[x]:=by
   rw [zbC ha];unfold ext;rw [List.flatMap_append];simp
  have lj:(ext (found.take (j+1)) p).length<=(ext found p).length:=by
   rw [zl0,zl0,length_take];exact Nat.mul_le_mul_right _ (by omega)
  have sm:(ext (found.take j) p).length+(zm7 p).length<=1000:=by
   rw [ej,length_append,length_map] at lj;omega
  rw [zad];walk_at "d";refine cmp1 (S0:=[(ext (found.take j) p).map zad]) (fun x:Int=>zad (a++[x])) rfl (zm7 p) (by omega) ?_ ?_
  ·intro x mx u acc R' hk;walk_at "d";refine⟨by omega,?_⟩;rw [ziR];exact hk _
  ·walk_at "d";refine⟨sm,hN _ _ ⟨_,?_,rfl⟩⟩;rw [ej,map_append,map_map];rfl
 ·rintro _ _ ⟨u,rfl,rfl⟩;rw [length_map,take_length];walk_at "d";exact .inl q
end
section
variable {R:RX} {S:Sto}
def few0(s1 s2 r:Int):Int:=if (r - (s1+2*s2)+2) / 3>0 then (r - (s1+2*s2)+2) / 3 else 0
def few(s1 s2 r:Int):Int:=if s1=0/\(r - few0 s1 s2 r) % 2=1 then few0 s1 s2 r+1 else few0 s1 s2 r
theorem zoO{ps:List Part}{g:Gap}(h3:Tm3 ps.length g.ts)(q:R (.d (spD (zcD ps g.ts) (zeI ps g.ts))) []):zhg [.d (zcv ps),.d (zlw g)] [] R:=by
 unfold zhg;rw [zcT];walk_at "d";refine zeK rfl h3 ?_;walk_at "d";exact q
end
section
variable {R:RX} {S:Sto}
structure TimesL(l:List Int):Prop where
 l1:1<=l.length
 l6:l.length<=6
 ok:∀ x∈l,x≠0/\-3<=x/\x<=3
theorem zdt{l:List Int}(h:(decide (1<=l.length) && decide (l.length<=6) && l.all fun x=>decide (x≠0/\-3<=x/\x<=3))=true):TimesL l:=by
 simp only [Bool.and_eq_true,decide_eq_true_eq,all_eq_true] at h;exact⟨h.1.1,h.1.2,h.2⟩
theorem TimesL.at{l:List Int}(h:TimesL l){r:Int}(r0:0<=r)(r1:r<l.length):∃ n,atI (l.map PyData.int) r=some (.int n)/\n≠0/\-3<=n/\n<=3:=by
 obtain⟨k,rfl⟩:=Int.eq_ofNat_of_zero_le r0;have hk:k<l.length:=by omega
 exact⟨l[k],zbq (getElem?_eq_getElem hk),h.ok _ (getElem_mem hk)⟩
theorem zij{p:List PyData}{ps:List Part}(hp:zaO p)(hd:Drw ps)(q:∀ ts p',Tms ps.length ts->zaO p'->R (.d (zqB ts)) [p']):zf3 [.l 0,.d (zcv ps)] [p] R:=by
 have h8:=hd.l8;have h1:=hd.l1;unfold zf3;walk_at "d"
 walk_at "n"
 refine zv hp dz (by decide +kernel) fun r p1 r0 r1 hp1=>?_;obtain⟨d,ed,l,rfl,hl⟩:=zoa (P:=fun d=>∃ l:List Int,d=.list (l.map PyData.int)/\TimesL l) (ds:=[PyData.list [.int 1,.int (-1),.int 2,.int (-2),.int 3,.int (-3)],.list [.int 1,.int (-1)],.list [.int 2,.int (-2)],.list [.int 3,.int (-3)],.list [.int 2,.int 3,.int (-2),.int (-3)],.list [.int 1,.int 3,.int (-1),.int (-3)]]) r0 r1 (by
  intro d m;simp only [mem_cons,not_mem_nil,or_false] at m;rcases m with rfl | rfl | rfl | rfl | rfl | rfl
  ·exact⟨[1,-1,2,-2,3,-3],rfl,zdt dz⟩
  ·exact⟨[1,-1],rfl,zdt dz⟩
  ·exact⟨[2,-2],rfl,zdt dz⟩
  ·exact⟨[3,-3],rfl,zdt dz⟩
  ·exact⟨[2,3,-2,-3],rfl,zdt dz⟩
  ·exact⟨[1,3,-1,-3],rfl,zdt dz⟩)
 have l1:=hl.l1;have l6:=hl.l6;walk_at "d";refine⟨_,ed,?_⟩;walk_at "d"
 walk_at "n"
 refine cut (fun δ S=>∃ (p:List PyData) (ts:List Term) (u1:Option XV),zaO p/\ts.length<=ps.length/\(∀ t∈ts,t.1<ps.length/\t.2≠0/\-3<=t.2/\t.2<=3)/\(ts.Pairwise fun t u=>t.1<u.1)/\S=[p,ts.map tmD]/\δ=[some (.l 0),some (.d (zcv ps)),some (.d (.list (l.map PyData.int))),some (.l 1),u1]) (fun N hN=>?_) ?_
 ·walk_at "d";refine⟨ps.length,by unfold zcv; walk_at "d",?_⟩;refine zR (fun i δ S=>∃ (p:List PyData) (ts:List Term) (u1:Option XV),zaO p/\ts.length<=i/\(∀ t∈ts,t.1<i/\t.2≠0/\-3<=t.2/\t.2<=3)/\(ts.Pairwise fun t u=>t.1<u.1)/\S=[p,ts.map tmD]/\δ=[some (.l 0),some (.d (zcv ps)),some (.d (.list (l.map PyData.int))),some (.l 1),u1]) ⟨p1,[],_,hp1,le_refl _,by simp,.nil,rfl,rfl⟩ ?_ ?_
  ·rintro i d _ _ N hi ⟨p,ts,u1,hp,hl',ht,hw,rfl,rfl⟩ hN;obtain⟨hi',rfl⟩:=zbi hi;have hi8:i<ps.length:=by simpa using hi'
   walk_at "d";refine zv hp dz (by decide +kernel) fun r p2 r0 r1 hp2=>?_;walk_at "d";split
   ·refine zv hp2 (by omega) (zcG (by omega) (by omega)) fun r3 p3 r30 r31 hp3=>?_;obtain⟨n,en,hn⟩:=hl.at r30 r31;walk_at "d";refine⟨_,en,?_⟩;walk_at "d";refine⟨by omega,hN _ _ ⟨p3,ts++[(i,n)],_,hp3,by simp; omega,fun t m=>?_,?_,by simp [tmD],rfl⟩⟩
    ·rcases mem_append.mp m with m | m
     ·exact⟨by have:=(ht t m).1; omega,(ht t m).2⟩
     ·rw [mem_singleton.mp m];exact⟨by simp,hn⟩
    ·rw [List.pairwise_append];exact⟨hw,by simp,fun t m u m'=>by rw [mem_singleton.mp m']; exact(ht t m).1⟩
   ·exact hN _ _ ⟨p2,ts,_,hp2,by omega,fun t m=>⟨by have:=(ht t m).1; omega,(ht t m).2⟩,hw,rfl,rfl⟩
  ·rintro _ _ ⟨p,ts,u1,hp,hl',ht,hw,rfl,rfl⟩;rw [zah] at hl' ht;have hz:(ps.length:Int).toNat=ps.length:=by simp
   rw [hz] at hl' ht;exact hN _ _ ⟨p,ts,u1,hp,hl',ht,hw,rfl,rfl⟩
 rintro _ _ ⟨p,ts,u1,hp,hl',ht,hw,rfl,rfl⟩;refine cut (fun δ S=>∃ (p:List PyData) (ts:List Term) (T:Sto) (k:Nat),zaO p/\Tms ps.length ts/\T[k]? = some (ts.map tmD)/\S=p :: T/\δ=[some (.l 0),some (.d (zcv ps)),some (.d (.list (l.map PyData.int))),some (.l (k+1)),u1]) (fun N hN=>?_) ?_
 ·walk_at "d";refine⟨zkY ts,rfl,?_⟩;rw [zmh];walk_at "d";split
  ·refine⟨ps.length,by unfold zcv; walk_at "d",?_⟩;refine zv hp (by omega) (zcG (by omega) (by omega)) fun r p2 r0 r1 hp2=>?_;walk_at "d";refine zv hp2 (by omega) (zcG (by omega) (by omega)) fun r3 p3 r30 r31 hp3=>?_;obtain⟨n,en,hn⟩:=hl.at r30 r31;obtain⟨k,rfl⟩:=Int.eq_ofNat_of_zero_le r0;walk_at "d";refine⟨_,en,?_⟩;walk_at "d";refine hN _ _ ⟨p3,[(k,n)],[ts.map tmD,[tmD (k,n)]],1,hp3,⟨by simp,by simpa using h1,fun t m=>by rw [mem_singleton.mp m]; exact⟨by simp only; omega,hn⟩,by simp⟩,rfl,rfl,rfl⟩
  ·rename_i hne;exact hN _ _ ⟨p,ts,[ts.map tmD],0,hp,⟨fun z=>hne (by rw [z]; rfl),hl',ht,hw⟩,rfl,rfl,rfl⟩
 rintro _ _ ⟨p,ts,T,k,hp,hts,hk,rfl,rfl⟩;walk_at "d";exact⟨_,hk,q ts p hts hp⟩
end
section
variable {R:RX}
theorem len2{ds:List PyData}(h:ds.length=2):∃ x y,ds=[x,y]:=by
 match ds,h with
 | [x,y],_=>exact⟨x,y,rfl⟩
theorem Rb{x y:Bool}{S:Sto}(q:R (.d (.bool y)) S)(e:x=y):R (.d (.bool x)) S:=by rw [e]; exact q
end
section
variable {R:RX} {S:Sto}
def zgg(ps:List Part)(g:Gap):Bool:=decide (g.hi<zcD ps g.ts\/zeI ps g.ts<g.lo)
theorem zqK{a b c d:Int}(q:R (.d (if max a c<=min b d then spD (max a c) (min b d) else .none)) []):zjJ [.d (spD a b),.d (spD c d)] [] R:=by
 unfold zjJ spD;unfold spD at q;have e1:(if c>a then c else a)=max a c:=by split <;> omega
 have e2:(if d<b then d else b)=min b d:=by split <;> omega
 walk_at "d"
 walk_at "n"
 walk_at "n"
 rw [e1,e2];split
 ·rename_i h;rw [if_pos h] at q;exact q
 ·rename_i h;rw [if_neg h] at q;exact q
theorem ziE{g:Gap}(q:R (.d (spD g.lo g.hi)) []):zcS [.d (zlw g)] [] R:=by
 unfold zcS;rw [zcT];walk_at "d";exact q
theorem zmM{ps:List Part}{g:Gap}(h3:Tm3 ps.length g.ts)(hle:g.lo<=g.hi)(q:R (.d (.bool (zgg ps g))) []):zfc [.d (zcv ps),.d (zlw g)] [] R:=by
 have lm:=zek ps g.ts;unfold zfc;walk_at "d";refine zoO h3 ?_;walk_at "d";refine ziE ?_;walk_at "d";refine zqK ?_;walk_at "d";refine Rb q ?_;unfold zgg;by_cases h:max (zcD ps g.ts) g.lo<=min (zeI ps g.ts) g.hi
 ·rw [if_pos h];show false=_
  symm
  rw [decide_eq_false_iff_not];omega
 ·rw [if_neg h];show true=_
  symm
  rw [decide_eq_true_eq];omega
def zuy(ps:List Part)(k:Nat)(lo hi:Int):List Part:=ps.set k ((part ps k).1,lo,hi)
inductive Hs:PyData->Prop
 | tup {ds:List PyData}:(∀ x r,ds=x :: r->SeqAt.shaped x=true)->(∀ y∈ds,Hs y)->Hs (.tuple ds)
 | oth {d:PyData}:(∀ ds,d≠.tuple ds)->Hs d
theorem Hs.hd{x:PyData}{r:List PyData}(h:Hs (.tuple (x :: r))):SeqAt.shaped x=true:=by
 cases h with
 | tup h1 h2=>exact h1 x r rfl
 | oth h=>exact absurd rfl (h _)
theorem Hs.item{ds:List PyData}(h:Hs (.tuple ds)):∀ y∈ds,Hs y:=by
 cases h with
 | tup h1 h2=>exact h2
 | oth h=>exact absurd rfl (h _)
theorem len5{ds:List PyData}(h:ds.length=5):∃ x y z u v,ds=[x,y,z,u,v]:=by
 match ds,h with
 | [x,y,z,u,v],_=>exact⟨x,y,z,u,v,rfl⟩
def wOf(p:Part):Int:=p.2.2 - p.2.1
def zuS(ps:List Part)(p:Part):Bool:=ps.all fun x=>decide (wOf x<=wOf p)
def wid(ps:List Part):Nat:=ps.findIdx (zuS ps)
noncomputable def pw (gs:List Gap):Nat->List Part->PyData
 | 0,_=>.none
 | n+1,ps=>match gs.findIdx? (zgg ps) with
  | some i=>.tuple [.str "gap",.int i]
  | none=>.tuple [.str "cut",.int (wid ps),.int ((plo ps (wid ps)+phi ps (wid ps)) / 2),pw gs n (zuy ps (wid ps) (plo ps (wid ps)) ((plo ps (wid ps)+phi ps (wid ps)) / 2)),pw gs n (zuy ps (wid ps) ((plo ps (wid ps)+phi ps (wid ps)) / 2+1) (phi ps (wid ps)))]
end
section
theorem zhw(a b:Int)(x y:List Int):HT.lexLt (a :: x) (b :: y)=true↔a<b\/a=b/\HT.lexLt x y=true:=by
 rw [HT.lexLt_cons];split
 ·rename_i h;exact⟨fun z=>.inr ⟨h,z⟩,fun z=>z.elim (fun z=>by omega) fun z=>z.2⟩
 ·rename_i h;rw [decide_eq_true_eq];exact⟨fun z=>.inl z,fun z=>z.elim id fun z=>absurd z.1 h⟩
def fil:List Nat->List (List Int)
 | []=>[[]]
 | s :: r=>(List.range s).flatMap fun k:Nat=>(fil r).map fun z=>(k:Int) :: z
theorem zdT:∀ sz:List Nat,(fil sz).length=zU sz
 | []=>rfl
 | s :: r=>by
  have:∀ (n:Nat),((List.range n).flatMap fun k:Nat=>(fil r).map fun z=>(k:Int) :: z).length=n*zU r:=by
   intro n;induction n with
   | zero=>simp
   | succ n ih =>
    rw [List.range_succ,List.flatMap_append,length_append,ih];simp [zdT r,succ_mul]
  exact this s
def Bgn:List Nat->List Int->Prop
 | _,[]=>True
 | [],_ :: _=>False
 | s :: r,k :: b=>(0<=k/\k<s)/\Bgn r b
theorem zeq:∀ {sz:List Nat} {z:List Int},z∈fil sz↔z.length=sz.length/\Bgn sz z
 | [],z=>by
  cases z with
  | nil=>simp [fil,Bgn]
  | cons a z=>simp [fil,Bgn]
 | s :: r,z=>by
  simp only [fil,List.mem_flatMap,mem_range,mem_map];constructor
  ·rintro⟨k,hk,y,hy,rfl⟩;have:=(zeq (sz:=r)).mp hy;exact⟨by simp [this.1],⟨by omega,by omega⟩,this.2⟩
  ·rintro⟨h1,h2⟩;cases z with
   | nil=>simp at h1
   | cons k z =>
    obtain⟨⟨a,b⟩,c⟩:=h2;exact⟨k.toNat,by omega,z,(zeq (sz:=r)).mpr ⟨by simpa using h1,c⟩,by rw [Int.toNat_of_nonneg a]⟩
end
section
variable {R:RX} {S:Sto}
abbrev Trm:=Int×Int
def zhz(p:Trm):PyData:=.tuple [.int p.1,.int p.2]
def zgV(l:List Trm):PyData:=.tuple (l.map zhz)
def zb2(tr:List (List Trm)):PyData:=.tuple (tr.map zgV)
theorem zes(p:Trm):zhz p=.tuple [.int p.1,.int p.2]:=rfl
theorem zbW(l:List Trm):zgV l=.tuple (l.map zhz):=rfl
def wys(l:List Trm):List Trm:=(0,0) :: l
def szT(tr:List (List Trm)):List Nat:=tr.map fun l=>l.length+1
def szD(sz:List Nat):PyData:=.list (sz.map fun n:Nat=>.int n)
def way(l:List Trm)(k:Int):Trm:=(wys l).getD k.toNat (0,0)
structure Trs(n:Nat)(tr:List (List Trm)):Prop where
 len:tr.length=n
 l3:∀ l∈tr,l.length<=3
 n8:n<=8
theorem zbV{n:Nat}{tr:List (List Trm)}(h:Trs n tr):tr.length<=8:=by have:=h.len; have:=h.n8; omega
theorem zbJ{n:Nat}{tr:List (List Trm)}(ht:Trs n tr)(q:R (.d (zb2 (tr.map wys))) []):zbP [.d (zb2 tr)] [] R:=by
 have h8:=zbV ht;unfold zbP zb2;walk_at "d";refine cmp1 (S0:=[]) (fun l:List Trm=>zgV (wys l)) rfl tr (by omega) ?_ ?_
 ·intro l ml u acc R' hk;have:=ht.l3 l ml;rw [zbW];walk_at "d";refine⟨by first | omega | (simp only [length_map]; omega),?_⟩;exact hk _
 ·walk_at "d";unfold zb2 at q;rw [map_map] at q;exact q
theorem zc7{n:Nat}{tr:List (List Trm)}(ht:Trs n tr)(q:R (.d (szD (szT tr))) []):zb5 [.d (zb2 (tr.map wys))] [] R:=by
 have h8:=zbV ht;unfold zb5 zb2;walk_at "d";rw [map_map];refine cmp1 (S0:=[]) (fun l:List Trm=>.int ((l.length+1:Nat):Int)) rfl tr (by omega) ?_ ?_
 ·intro l ml u acc R' hk;show zi 0 (.d (zgV (wys l))) _ _ _;rw [zbW];walk_at "d";have:=hk (some (.d (.tuple ((wys l).map zhz))));simpa [wys] using this
 ·walk_at "d";unfold szD szT at q;rw [map_map] at q;exact .inl q
theorem ziZ:∀ {sz:List Nat} {b:List Int} {i:Nat} {k:Int} {s:Nat},Bgn sz b->b[i]? = some k->sz[i]? = some s->0<=k/\k<s
 | _,[],_,_,_,_,e,_=>by simp at e
 | [],_ :: _,_,_,_,h,_,_=>by cases h
 | s0 :: sz,k0 :: b,0,k,s,h,e1,e2=>by
  simp at e1 e2;subst e1 e2;exact h.1
 | s0 :: sz,k0 :: b,i+1,k,s,h,e1,e2=>ziZ h.2 (by simpa using e1) (by simpa using e2)
theorem zfY:∀ {sz:List Nat} {b:List Int},Bgn sz b->b.length<=sz.length
 | _,[],_=>zero_le _
 | [],_ :: _,h=>by cases h
 | s :: sz,k :: b,h=>by have:=zfY h.2; simp; omega
theorem zsX{tr:List (List Trm)}{b:List Int}(hb:Bgn (szT tr) b){i:Nat}{l:List Trm}{k:Int}(h1:tr[i]? = some l)(h2:b[i]? = some k):atI ((wys l).map zhz) k=some (zhz (way l k)):=by
 have:=ziZ hb h2 (s:=l.length+1) (by unfold szT; rw [getElem?_map,h1]; rfl);obtain⟨n,rfl⟩:=Int.eq_ofNat_of_zero_le this.1;refine zcd ?_;have hn:n<(wys l).length:=by simp [wys]; omega
 rw [getElem?_map,getElem?_eq_getElem hn];simp [way,getD_eq_getElem?_getD,getElem?_eq_getElem hn]
theorem zdI{n:Nat}{tr:List (List Trm)}{b:List Int}(ht:Trs n tr)(hb:Bgn (szT tr) b)(q:R (.d (.list ((tr.zip b).map fun q=>zhz (way q.1 q.2)))) []):zbw [.d (zb2 tr),.d (zad b)] [] R:=by
 have h8:=zbV ht;unfold zbw;walk_at "d";refine zbJ ht ?_;unfold zb2 zad;walk_at "d";rw [map_map,zep];refine cmp2 (S0:=[]) (fun q:List Trm×Int=>zhz (way q.1 q.2)) rfl (tr.zip b) (by simp; omega) ?_ ?_
 ·intro x mx u v acc R' hk;obtain⟨i,hi⟩:=mem_iff_getElem?.mp mx;rw [getElem?_zip_eq_some] at hi;have e:=zsX hb hi.1 hi.2;show zc9 2 _ (.d (.tuple [zgV (wys x.1),.int x.2])) _ _ _;rw [zbW];walk_at "d";refine⟨_,e,?_⟩;exact hk _ _
 ·walk_at "d";exact .inl q
def prc(tr:List (List Trm))(b:List Int):Int:=((tr.zip b).map fun q=>(way q.1 q.2).2).sum
theorem zcc{n:Nat}{tr:List (List Trm)}{b:List Int}(ht:Trs n tr)(hb:Bgn (szT tr) b)(q:R (.d (.int (prc tr b))) []):zaR [.d (zb2 tr),.d (zad b)] [] R:=by
 have h8:=zbV ht;unfold zaR;walk_at "d";refine zdI ht hb ?_;walk_at "d";refine cmp1 (S0:=[]) (fun q:List Trm×Int=>.int (way q.1 q.2).2) rfl (tr.zip b) (by simp; omega) ?_ ?_
 ·intro x mx u acc R' hk;rw [zes];walk_at "d";exact hk _
 ·walk_at "d";exact⟨_,by rw [map_map]; rfl,q⟩
def fld(ns:List Int)(tr:List (List Trm))(b:List Int):List Int:=(ns.zip (tr.zip b)).map fun q=>q.1 - (way q.2.1 q.2.2).1
theorem zhm{n:Nat}{ns:List Int}{tr:List (List Trm)}{b:List Int}(ht:Trs n tr)(hb:Bgn (szT tr) b)(q:R (.d (zad (fld ns tr b))) []):zeD [.d (zad ns),.d (zb2 tr),.d (zad b)] [] R:=by
 have h8:=zbV ht;unfold zeD;walk_at "d";refine zdI ht hb ?_;unfold zad;walk_at "d";rw [zep];refine cmp2 (S0:=[]) (fun q:Int×(List Trm×Int)=>.int (q.1 - (way q.2.1 q.2.2).1)) rfl (ns.zip (tr.zip b)) (by simp; omega) ?_ ?_
 ·intro x mx u v acc R' hk;show zc9 2 _ (.d (.tuple [.int x.1,zhz (way x.2.1 x.2.2)])) _ _ _;rw [zes];walk_at "d";exact hk _ _
 ·walk_at "d";unfold zad fld at q;rw [map_map] at q;exact q
def mst(l:List Trm):Int:=((wys l).getLastD (0,0)).1
def spn(ns:List Int)(tr:List (List Trm))(b:List Int):List (Int×Int):=(fld ns tr b).map (fun x=>(x,x))++((ns.zip tr).drop b.length).map fun q=>(q.1 - mst q.2,q.1)
def lft(ps:List Part)(ns:List Int)(tr:List (List Trm))(b:List Int):List Part:=(ps.zip (spn ns tr b)).map fun q=>(q.1.1,q.2.1,q.2.2)
theorem zfo{ns:List Int}{tr:List (List Trm)}{b:List Int}(h1:ns.length=tr.length)(hb:b.length<=tr.length):(fld ns tr b).length=b.length:=by
 simp [fld];omega
theorem zqo{ns:List Int}{tr:List (List Trm)}{b:List Int}(h1:ns.length=tr.length)(hb:b.length<=tr.length):(spn ns tr b).length=tr.length:=by
 simp only [spn,length_append,length_map,zfo h1 hb,length_drop,List.length_zip];omega
theorem zp4{ps:List Part}{ns:List Int}{tr:List (List Trm)}{b:List Int}(h0:ps.length=tr.length)(h1:ns.length=tr.length)(hb:b.length<=tr.length):(lft ps ns tr b).length=ps.length:=by
 simp only [lft,length_map,List.length_zip,zqo h1 hb];omega
theorem zlT{α:Type}(l:List α)(x:α):atI (l++[x]) (-1)=some x:=by
 have h:ixN (l++[x]).length (-1)=some l.length:=by
  unfold ixN;rw [length_append,length_singleton,if_neg (by omega),if_pos (by omega)];congr 1;omega
 unfold atI;rw [h];simp
theorem zp8{l:List Trm}:atI ((wys l).map zhz) (-1)=some (zhz ((wys l).getLastD (0,0))):=by
 have e:wys l=(wys l).dropLast++[(wys l).getLastD (0,0)]:=by
  have h:wys l≠[]:=by simp [wys]
  have:=List.dropLast_concat_getLast h;rw [List.getLastD_eq_getLast?,List.getLast?_eq_some_getLast h];exact this.symm
 rw [e,map_append];simp only [map_cons,map_nil];rw [zlT];congr 2;simp
theorem zlE{α:Type}{ds:List α}{k:Nat}(h:k<=ds.length):zdE ds (some (k:Int)) none=ds.drop k:=by
 have e1:HT.sIx ds.length 0 (some (k:Int))=k:=by rw [HT.sIx_nat]; omega
 have e2:HT.sIx ds.length ds.length none=ds.length:=rfl;unfold zdE;rw [e1,e2,take_of_length_le (by simp)]
theorem zdU{n:Nat}{ps:List Part}{ns:List Int}{tr:List (List Trm)}{b:List Int}(ht:Trs n tr)(hb:Bgn (szT tr) b)(h0:ps.length=tr.length)(h1:ns.length=tr.length)(q:R (.d (zcv (lft ps ns tr b))) []):zaW [.d (zcv ps),.d (zad ns),.d (zb2 tr),.d (zad b)] [] R:=by
 have h8:=zbV ht;have bl:=zfY hb;have bl':b.length<=tr.length:=by simpa [szT] using bl
 have fl:=zfo h1 bl';unfold zaW;walk_at "d"
 walk_at "n"
 walk_at "n"
 refine zhm ht hb ?_;unfold zad;walk_at "d";refine cmp1 (S0:=[]) (fun x:Int=>.tuple [.int x,.int x]) rfl (fld ns tr b) (by omega) ?_ ?_
 ·intro x mx u acc R' hk;walk_at "d";exact hk _
 walk_at "d";refine zbJ ht ?_;unfold zb2;walk_at "d";refine⟨by omega,?_⟩;rw [map_map,zep,zlE (by simp; omega),<- List.map_drop];refine zR (fun i δ S=>∃ (u v:Option XV),S=[((fld ns tr b).map (fun x=>(x,x))++(((ns.zip tr).drop b.length).take i).map fun q=>(q.1 - mst q.2,q.1)).map fun s:Int×Int=>.tuple [.int s.1,.int s.2]]/\δ=[some (.d (zcv ps)),some (.d (.tuple (ns.map PyData.int))),some (.d (.tuple (tr.map zgV))),some (.d (.tuple (b.map PyData.int))),some (.l 0),u,v]) ⟨none,none,by simp,rfl⟩ ?_ ?_
 ·rintro i d _ _ N hi ⟨u,v,rfl,rfl⟩ hN;obtain⟨x,hx,rfl⟩:=zbX hi;show zc9 2 _ (.d (.tuple [.int x.1,zgV (wys x.2)])) _ _ _;rw [zbW];walk_at "d";refine⟨_,zp8,?_⟩;rw [zes];walk_at "d";have il:i<((ns.zip tr).drop b.length).length:=(List.getElem?_eq_some_iff.mp hx).1;refine⟨by simp at il ⊢; omega,hN _ _ ⟨_,_,?_,rfl⟩⟩;rw [take_add_one,hx];simp [mst]
 ·rintro _ _ ⟨u,v,rfl,rfl⟩;rw [take_of_length_le (by simp)];refine⟨[],_,rfl,_,rfl,_,rfl,_,rfl,_,rfl,?_⟩;show ze4 0 _ _ _ _ (zhF (ps.map zkU) ((spn ns tr b).map fun s:Int×Int=>.tuple [.int s.1,.int s.2])) _ _;rw [zep];refine cmp2 (S0:=[]) (fun q:Part×(Int×Int)=>zkU (q.1.1,q.2.1,q.2.2)) rfl (ps.zip (spn ns tr b)) (by simp; omega) ?_ ?_
  ·intro x mx u v acc R' hk;rw [znA];walk_at "d";exact hk _ _
  ·walk_at "d";unfold zcv lft at q;rw [map_map] at q;exact q
def Sz(sz:List Nat):Prop:=sz.length<=8/\∀ s∈sz,s<=4
theorem zeg{n:Nat}{tr:List (List Trm)}(ht:Trs n tr):Sz (szT tr):=by
 refine⟨by simp [szT]; exact zbV ht,fun s m=>?_⟩;obtain⟨l,ml,rfl⟩:=mem_map.mp m;have:=ht.l3 l ml;omega
theorem zks:∀ {sz:List Nat},(∀ s∈sz,s<=4)->zU sz<=4 ^ sz.length
 | [],_=>by decide
 | s :: sz,h=>by
  have h1:=h s mem_cons_self;have h2:=zks (sz:=sz) fun x m=>h x (mem_cons_of_mem _ m);show s*zU sz<=4 ^ (sz.length+1);rw [pow_succ,mul_comm];exact mul_le_mul h2 h1
theorem zdz(l:List Nat)(x:Nat):zU (l++[x])=zU l*x:=by
 rw [zdq];simp [zU]
theorem zbK{sz:List Nat}{ds:List PyData}(hz:Sz sz)(hl:ds.length<=sz.length)(q:R (.d (.int (zU (sz.drop ds.length)))) []):zaP [.d (szD sz),.d (.tuple ds)] [] R:=by
 obtain⟨h8,h4⟩:=hz;unfold zaP szD;walk_at "d"
 walk_at "n"
 walk_at "n"
 rw [zlE (by simpa using hl),<- List.map_drop];refine zR (fun i δ S=>∃ (u:Option XV),S=[]/\δ=[some (.d (.list (sz.map fun n:Nat=>PyData.int n))),some (.d (.tuple ds)),some (.d (.int (zU ((sz.drop ds.length).take i):Nat))),u]) ⟨none,rfl,by simp [zU]⟩ ?_ ?_
 ·rintro i d _ _ N hi ⟨u,rfl,rfl⟩ hN;obtain⟨x,hx,rfl⟩:=zbX hi;walk_at "d";have mx:x∈sz:=mem_of_mem_drop (mem_of_getElem? hx);have x4:=h4 x mx;refine⟨zkg (by omega) (by omega),hN _ _ ⟨some (.d (.int x)),rfl,?_⟩⟩;rw [take_add_one,hx];simp [zdz]
 ·rintro _ _ ⟨u,rfl,rfl⟩;rw [length_map,take_length];walk_at "d";exact q
def bgO:PyData->List Int
 | .tuple ds=>ds.map fun d=>match d with | .int k=>k | _=>0
 | _=>[]
theorem zg8(b:List Int):bgO (zad b)=b:=by
 show (b.map PyData.int).map _=b;rw [map_map];exact List.map_id' b
theorem zfs{α:Type}{ds:List α}{k:Nat}:zdE ds none (some (k:Int))=ds.take k:=by
 have e1:HT.sIx ds.length ds.length (some (k:Int))=min k ds.length:=by rw [HT.sIx_nat]
 have e2:HT.sIx ds.length 0 none=0:=rfl;unfold zdE;rw [e1,e2];rcases Nat.le_total k ds.length with h | h
 ·rw [Nat.min_eq_left h];simp
 ·rw [Nat.min_eq_right h,take_of_length_le (by simp),take_of_length_le h];simp
def t2:PyData->Bool
 | .tuple [_,_]=>true
 | _=>false
def sn1:PyData->PyData
 | .tuple [_,b]=>b
 | _=>.none
def zpu:PyData->Bool
 | .tuple [.str x]=>decide (x = "dear")
 | _=>false
def ztI:PyData->Bool
 | .tuple [.str x,_]=>decide (x = "off")
 | _=>false
def zuN:PyData->PyData
 | .tuple [_,k]=>k
 | _=>.none
def ztp(gs:List Gap)(k:Int):Gap:=gs.getD k.toNat ⟨[],0,0⟩
def ztM(ps:List Part)(gs:List Gap)(ns:List Int)(tr:List (List Trm))(b:List Int):PyData->Bool
 | .int k=>decide (0<=k/\k<gs.length) && zgg (lft ps ns tr b) (ztp gs k)
 | _=>false
theorem zn8{ps:List Part}{gs:List Gap}{ns:List Int}{tr:List (List Trm)}{b:List Int}(k:Int):ztM ps gs ns tr b (.int k)=(decide (0<=k/\k<gs.length) && zgg (lft ps ns tr b) (ztp gs k)):=rfl
def ztr(ps:List Part)(gs:List Gap)(ns:List Int)(tr:List (List Trm))(price:Int)(b:List Int)(w:PyData):Bool :=
 if zpu w then decide (price<=prc tr b) else ztI w && ztM ps gs ns tr b (zuN w)
structure GsT(n:Nat)(gs:List Gap):Prop where
 t3:∀ g∈gs,Tm3 n g.ts
 le:∀ g∈gs,g.lo<=g.hi
theorem zuL{ps:List Part}{gs:List Gap}{ns:List Int}{tr:List (List Trm)}{price:Int}{b:List Int}{w:PyData}(h:zpu w=true):ztr ps gs ns tr price b w=decide (price<=prc tr b):=by
 unfold ztr;rw [if_pos h]
end
section
variable {R:RX} {S:Sto}
theorem zla{p:List PyData}{ps:List Part}(hp:zaO p)(hd:Drw ps)(q:∀ ns p',InBox ps ns->zaO p'->R (.d (zad ns)) [p']):zel [.l 0,.d (zcv ps)] [p] R:=by
 have l8:=hd.l8;unfold zel;rw [zcv];walk_at "d"
 walk_at "n"
 walk_at "n";refine zR (fun i δ S=>∃ (p:List PyData) (ns:List Int) (u1 u2 u3 u4:Option XV),S=[p,ns.map PyData.int]/\zaO p/\δ=[some (.l 0),some (.d (.tuple (ps.map zkU))),some (.l 1),u1,u2,u3,u4]/\ns.length=i/\∀ j,j<i->plo ps j<=ns.getD j 0/\ns.getD j 0<=phi ps j) ⟨p,[],_,_,_,_,rfl,hp,rfl,rfl,fun j hj=>by omega⟩ ?_ ?_
 ·rintro i d _ _ N hi ⟨p,ns,u1,u2,u3,u4,rfl,hp,rfl,hl,hns⟩ hN;obtain⟨t,ht,rfl⟩:=zbX hi;have mt:=mem_of_getElem? ht;have lo:=(hd.all t mt).le;have il:i<ps.length:=(List.getElem?_eq_some_iff.mp ht).1;have et:part ps i=t:=Option.some.inj ((zms il).symm.trans ht);rw [znA];walk_at "d";walk_at "n";refine .inl ⟨⟨by decide,by decide +kernel⟩,?_⟩;walk_at "d";refine⟨⟨by decide,by decide,by decide⟩,?_⟩;refine zv hp dz (by decide +kernel) fun r p1 r0 r1 hp1=>?_;walk_at "d";refine⟨by omega,?_⟩;refine zv hp1 dz (by decide +kernel) fun r' p2 r2 r3 hp2=>?_;have b1:=Int.emod_nonneg r (show t.2.2 - t.2.1+1≠0 by omega);have b2:=Int.emod_lt_of_pos r (show 0<t.2.2 - t.2.1+1 by omega);obtain⟨d,ed,n,rfl,n0,n1⟩:=zoa (P:=fun d=>∃ n,d=.int n/\t.2.1<=n/\n<=t.2.2) (ds:=[PyData.int t.2.1,PyData.int t.2.2,PyData.int (t.2.1+(t.2.2 - t.2.1) / 2),PyData.int (if t.2.1+1<t.2.2 then t.2.1+1 else t.2.2),PyData.int (if t.2.2 - 1>t.2.1 then t.2.2 - 1 else t.2.1),PyData.int (t.2.1+r % (t.2.2 - t.2.1+1))]) r2 r3 (by
   intro d m;simp only [mem_cons,not_mem_nil,or_false] at m;rcases m with rfl | rfl | rfl | rfl | rfl | rfl
   ·exact⟨_,rfl,by omega,by omega⟩
   ·exact⟨_,rfl,by omega,by omega⟩
   ·exact⟨_,rfl,by omega,by omega⟩
   ·exact⟨_,rfl,by split <;> omega,by split <;> omega⟩
   ·exact⟨_,rfl,by split <;> omega,by split <;> omega⟩
   ·exact⟨_,rfl,by omega,by omega⟩)
  walk_at "d";refine⟨_,ed,?_⟩;walk_at "d";refine⟨by omega,hN _ _ ⟨p2,ns++[n],_,_,_,_,by simp,hp2,rfl,by simp [hl],fun j hj=>?_⟩⟩;by_cases hji:j<i
  ·have e:(ns++[n]).getD j 0=ns.getD j 0:=by
    rw [getD_eq_getElem?_getD,getD_eq_getElem?_getD,getElem?_append_left (by omega)]
   rw [e];exact hns j hji
  ·have hj2:j=ns.length:=by omega
   subst hj2;have e:(ns++[n]).getD ns.length 0=n:=by
    rw [getD_eq_getElem?_getD,getElem?_concat_length];rfl
   rw [e,hl];unfold plo phi;rw [et];exact⟨n0,n1⟩
 ·rintro _ _ ⟨p,ns,u1,u2,u3,u4,rfl,hp,rfl,hl,hns⟩;rw [length_map] at hl hns;walk_at "d";exact q ns p ⟨hl,hns⟩ hp
end
section
variable {R:RX} {S:Sto}
theorem zcK{d:PyData}(q:R (.d (.bool (zmV d))) []):zaq [.d d] [] R:=by
 unfold zaq;cases d <;> (walk_at "e"; exact q)
theorem zna{α β:Type}:∀ (a:List α) (b:List β) (j:Nat),a.zip (b.take j)=(a.zip b).take j
 | [],b,j=>by simp
 | x :: a,[],j=>by simp
 | x :: a,y :: b,0=>by simp
 | x :: a,y :: b,j+1=>by simp [zna a b j]
theorem zos{tr:List (List Trm)}{b:List Int}{i:Nat}{l:List Trm}{k:Int}(h1:tr[i]? = some l)(h2:b[i]? = some k):prc tr (b.take (i+1))=prc tr (b.take i)+(way l k).2:=by
 unfold prc;rw [zna,zna,take_add_one,(getElem?_zip_eq_some (z:=(l,k))).mpr ⟨h1,h2⟩];simp
theorem zrd{tr:List (List Trm)}{b:List Int}(hb:Bgn (szT tr) b){i:Nat}{l:List Trm}{k:Int}(h1:tr[i]? = some l)(h2:b[i]? = some k):atI (PyData.int 0 :: l.map fun p=>PyData.int p.2) k=some (.int (way l k).2):=by
 have:=ziZ hb h2 (s:=l.length+1) (by unfold szT; rw [getElem?_map,h1]; rfl);obtain⟨n,rfl⟩:=Int.eq_ofNat_of_zero_le this.1;refine zcd ?_;have hn:n<(wys l).length:=by simp [wys]; omega
 have e:(PyData.int 0 :: l.map fun p=>PyData.int p.2)=(wys l).map fun p=>PyData.int p.2:=rfl;rw [e,getElem?_map,getElem?_eq_getElem hn];simp [way,getD_eq_getElem?_getD,getElem?_eq_getElem hn]
theorem zfq{n:Nat}{tr:List (List Trm)}{b:List Int}(ht:Trs n tr)(hb:Bgn (szT tr) b)(q:R (.d (.int (prc tr b))) []):za2 [.d (zb2 tr),.d (zad b)] [] R:=by
 have h8:=zbV ht;have bl:=zfY hb;have bl':b.length<=tr.length:=by simpa [szT] using bl
 unfold za2;walk_at "d"
 walk_at "n"
 walk_at "n"
 refine⟨b.length,by unfold zad; walk_at "d",?_⟩;refine zR (fun i δ S=>∃ (u:Option XV),S=[]/\δ=[some (.d (zb2 tr)),some (.d (zad b)),some (.d (.int (prc tr (b.take i)))),u]) ⟨none,rfl,by simp [prc]⟩ ?_ ?_
 ·rintro i d _ _ N hi ⟨u,rfl,rfl⟩ hN;obtain⟨hi',rfl⟩:=zbi hi;have hi8:i<b.length:=by simpa using hi'
  have hb1:=getElem?_eq_getElem hi8;have ht1:=getElem?_eq_getElem (show i<tr.length by omega);have e1:atI (tr.map zgV) (i:Int)=some (zgV tr[i]):=zbq ht1;have l3:=ht.l3 _ (getElem_mem (show i<tr.length by omega));unfold zb2 zad;simp only [Int.zero_add];walk_at "d";refine⟨_,e1,?_⟩;rw [zbW];walk_at "d";refine cmp2 (S0:=[]) (fun p:Trm=>.int p.2) rfl tr[i] (by omega) ?_ ?_
  ·intro x mx u v acc R' hk;rw [zes];walk_at "d";exact hk _ _
  walk_at "d";refine⟨by omega,_,zbq hb1,?_⟩;walk_at "d";refine⟨_,zrd hb ht1 hb1,?_⟩;walk_at "d";refine hN _ _ ⟨some (.d (.int i)),rfl,?_⟩;rw [zos ht1 hb1];rfl
 ·rintro _ _ ⟨u,rfl,rfl⟩;rw [zah,Int.toNat_natCast,take_length];walk_at "d";exact q
theorem zjY:∀ (sz:List Nat) (F:List (List Int)),sz.foldl (fun F s=>F.flatMap fun a=>(List.range s).map fun k:Nat=>a++[(k:Int)]) F=F.flatMap fun a=>(fil sz).map fun z=>a++z
 | [],F=>by simp [fil]
 | s :: sz,F=>by
  rw [List.foldl_cons,zjY sz,List.flatMap_assoc];congr 1;funext a;simp only [fil,List.flatMap_map,List.map_flatMap,map_map];congr 1;funext k;congr 1;funext z;simp
theorem zdp(sz:List Nat):sz.foldl (fun F s=>F.flatMap fun a=>(List.range s).map fun k:Nat=>a++[(k:Int)]) [[]]=fil sz:=by
 rw [zjY];simp
def stp(F:List (List Int))(s:Nat):List (List Int):=F.flatMap fun a=>(List.range s).map fun k:Nat=>a++[(k:Int)]
theorem ziI(l:List Nat)(x:Nat):(l++[x]).foldl stp [[]]=stp (l.foldl stp [[]]) x:=by simp
theorem zj9(l:List Nat):(l.foldl stp [[]]).length=zU l:=by
 have:=zdp l;rw [<- zdT,<- this];rfl
structure TrC(n:Nat)(tr:List (List Trm)):Prop extends Trs n tr where
 few:zU (szT tr)<=256
theorem zmZ{sz:List Nat}(h:∀ s∈sz,1<=s)(i:Nat):zU (sz.take i)<=zU sz:=by
 have:=zdq (sz.take i) (sz.drop i);rw [List.take_append_drop] at this;rw [this];exact Nat.le_mul_of_pos_right _ (zdf fun x m=>h x (mem_of_mem_drop m))
theorem zf1{tr:List (List Trm)}:∀ s∈szT tr,1<=s:=fun s m=>by
 obtain⟨l,_,rfl⟩:=mem_map.mp m;omega
theorem zdK{n:Nat}{tr:List (List Trm)}(ht:TrC n tr)(q:R (.d (.list ((fil (szT tr)).map zad))) []):zby [.d (zb2 tr)] [] R:=by
 have h8:=zbV ht.toTrs;unfold zby zb2;walk_at "d"
 walk_at "n"
 walk_at "n"
 refine zR (fun i δ S=>∃ (u1 u2 u3:Option XV),S=[]/\δ=[some (.d (.tuple (tr.map zgV))),some (.d (.list ((((szT tr).take i).foldl stp [[]]).map zad))),u1,u2,u3]) ⟨_,_,_,rfl,rfl⟩ ?_ ?_
 ·rintro i d _ _ N hi ⟨u1,u2,u3,rfl,rfl⟩ hN;obtain⟨l,hl,rfl⟩:=zbX hi;have l3:=ht.l3 l (mem_of_getElem? hl);have es:(szT tr)[i]? = some (l.length+1):=by unfold szT; rw [getElem?_map,hl]; rfl
  have pl:=zmZ (sz:=szT tr) zf1 (i+1);have pf:=ht.few;rw [take_add_one,es] at pl;simp only [Option.toList_some] at pl;rw [zdz] at pl;generalize hF:((szT tr).take i).foldl stp [[]]=F;have lF:F.length=zU ((szT tr).take i):=by rw [<- hF,zj9]
  rw [zbW];walk_at "d"
  walk_at "n"
  walk_at "n"
  refine zR (fun j δ S=>∃ (u3:Option XV),S=[(stp (F.take j) (l.length+1)).map zad]/\δ=[some (.d (.tuple (tr.map zgV))),some (.d (.list (F.map zad))),some (.d (.tuple (l.map zhz))),some (.l 0),u3]) ⟨_,by simp [stp],rfl⟩ ?_ ?_
  ·rintro j d _ _ N hj ⟨u3,rfl,rfl⟩ hN;obtain⟨a,ha,rfl⟩:=zbX hj;have jl:j<F.length:=(List.getElem?_eq_some_iff.mp ha).1;have e1:stp (F.take (j+1)) (l.length+1)=stp (F.take j) (l.length+1)++(List.range (l.length+1)).map fun k:Nat=>a++[(k:Int)]:=by
    rw [take_add_one,ha];simp [stp]
   have e2:(stp (F.take j) (l.length+1)).length=j*(l.length+1):=by
    unfold stp;rw [zcM (n:=l.length+1) (fun x _=>by simp),length_take];rw [Nat.min_eq_left (by omega)]
   have e3:j*(l.length+1)<=256:=le_trans (Nat.mul_le_mul_right _ (by omega)) (le_trans pl pf);have ei:ze6 0 ((l.length:Int)+1).toNat=(List.range (l.length+1)).map fun k:Nat=>PyData.int (0+(k:Int)):=by
    rw [show ((l.length:Int)+1).toNat=l.length+1 by omega];simp [ze6]
   unfold zad;walk_at "d";rw [ei];refine cmp1 (S0:=[_]) (fun k:Nat=>zad (a++[(k:Int)])) rfl (List.range (l.length+1)) (by simp; omega) ?_ ?_
   ·intro k mk u acc R' hk;have:=hk (some (.d (.int (0+(k:Int)))));unfold zad at this;walk_at "d";have al:a.length<=8:=by
     have ea:F=fil ((szT tr).take i):=by rw [<- hF]; exact zdp _
     have ma:a∈fil ((szT tr).take i):=by rw [<- ea]; exact mem_of_getElem? ha
     have:=(zeq.mp ma).1;simp [szT] at this;omega
    refine⟨by omega,?_⟩;simpa using this
   ·walk_at "d";rw [e2,length_range];refine⟨by omega,hN _ _ ⟨_,?_,rfl⟩⟩;rw [e1,map_append,map_map];rfl
  ·rintro _ _ ⟨u3,rfl,rfl⟩;rw [length_map,take_length];refine⟨[],_,rfl,_,rfl,?_⟩;have e5:((szT tr).take (i+1)).foldl stp [[]]=stp F (l.length+1):=by
    rw [take_add_one,es,<- hF];exact ziI _ _
   exact hN _ _ ⟨_,_,_,rfl,by rw [e5]; rfl⟩
 ·rintro _ _ ⟨u1,u2,u3,rfl,rfl⟩;rw [length_map,show tr.length=(szT tr).length by simp [szT],take_length];walk_at "d";have:=zdp (szT tr);rw [<- this] at q;exact q
theorem zfQ{p:List PyData}{ps:List Part}(hp:zaO p)(hd:Drw ps)(q:∀ tr p',Trs ps.length tr->zaO p'->R (.d (zb2 tr)) [p']):zbO [.l 0,.d (zcv ps)] [p] R:=by
 have l8:=hd.l8;unfold zbO;rw [zcv];walk_at "d"
 walk_at "n"
 walk_at "n"
 refine zR (fun i δ S=>∃ (p:List PyData) (tr:List (List Trm)) (T:Sto) (u3 u4 u5 u6 u7:Option XV),S=p :: tr.map zgV :: T/\zaO p/\tr.length=i/\(∀ l∈tr,l.length<=3)/\δ=[some (.l 0),some (.d (.tuple (ps.map zkU))),some (.l 1),u3,u4,u5,u6,u7]) ⟨p,[],[],none,none,none,none,none,rfl,hp,rfl,by simp,rfl⟩ ?_ ?_
 ·rintro i d _ _ N hi ⟨p,tr,T,u3,u4,u5,u6,u7,rfl,hp,htl,htr,rfl⟩ hN;have il:i<ps.length:=by
   have:=(List.getElem?_eq_some_iff.mp hi).1;simpa using this
  walk_at "d"
  walk_at "n"
  walk_at "n"
  walk_at "n"
  walk_at "n"
  refine zv hp dz (by decide +kernel) fun r p1 r0 r1 hp1=>?_;walk_at "d";refine zR (fun j δ S=>∃ (p:List PyData) (row:List Trm) (m pr:Int) (u7:Option XV),S=p :: tr.map zgV :: (T++[row.map zhz])/\zaO p/\row.length=j/\δ=[some (.l 0),some (.d (.tuple (ps.map zkU))),some (.l 1),some (.d d),some (.l (T.length+1+1)),some (.d (.int m)),some (.d (.int pr)),u7]) ⟨p1,[],0,0,_,rfl,hp1,rfl,rfl⟩ ?_ ?_
  ·rintro j e _ _ N hj ⟨p,row,m,pr,u7,rfl,hp,hrow,rfl⟩ hN;obtain⟨hj',rfl⟩:=zbi hj;walk_at "d"
   walk_at "n"
   refine⟨⟨by decide,by decide,by decide⟩,?_⟩;refine zv hp dz (by decide +kernel) fun r2 p2 r20 r21 hp2=>?_;obtain⟨d2,ed2,n2,rfl,n20,n21⟩:=zoa (P:=fun d=>∃ n:Int,d=.int n/\0<n/\n.natAbs.log2<9000) (ds:=[PyData.int 3,.int 3,.int 3,.int ((10:Int) ^ (20:Int).toNat)]) r20 (by simpa using r21) (by
    intro d m;simp only [mem_cons,not_mem_nil,or_false] at m;rcases m with rfl | rfl | rfl | rfl
    ·exact⟨3,rfl,by decide,by decide +kernel⟩
    ·exact⟨3,rfl,by decide,by decide +kernel⟩
    ·exact⟨3,rfl,by decide,by decide +kernel⟩
    ·exact⟨_,rfl,by decide,by decide +kernel⟩)
   walk_at "d";refine⟨_,ed2,?_⟩;refine zv hp2 n20 n21 fun r3 p3 r30 r31 hp3=>?_;walk_at "d"
   walk_at "n"
   refine zv hp3 dz (by decide +kernel) fun r4 p4 r40 r41 hp4=>?_;have gl:(T++[row.map zhz])[T.length]? = some (row.map zhz):=by simp
   have sl:∀ x,(T++[row.map zhz]).set T.length x=T++[x]:=fun x=>by simp
   walk_at "d";refine⟨by omega,row.map zhz,gl,by simp; omega,?_⟩;rw [sl];exact hN _ _ ⟨p4,row++[(m+1+r3,pr+1+r4)],_,_,_,by simp [zhz],hp4,by simp [hrow],rfl⟩
  ·rintro _ _ ⟨p,row,m,pr,u7,rfl,hp,hrow,rfl⟩;rw [zah] at hrow;walk_at "d";refine⟨by omega,_,by simp; rfl,by omega,hN _ _ ⟨p,tr++[row],_,_,_,_,_,_,by simp [zgV]; rfl,hp,by simp [htl],fun l ml=>?_,rfl⟩⟩;rcases mem_append.mp ml with ml | ml
   ·exact htr l ml
   ·rw [mem_singleton.mp ml];omega
 ·rintro _ _ ⟨p,tr,T,u3,u4,u5,u6,u7,rfl,hp,htl,htr,rfl⟩;walk_at "d";exact q tr p ⟨by simpa using htl,htr,l8⟩ hp
theorem zsY{sz:List Nat}(h:∀ s∈sz,1<=s):1<=(fil sz).length:=by rw [zdT]; exact zdf h
theorem ziu{n:Nat}{ns:List Int}{tr:List (List Trm)}{b:List Int}(ht:Trs n tr)(hb:Bgn (szT tr) b)(h1:ns.length=tr.length)(hbl:b.length=tr.length)(q:∀ ms:List Int,ms.length=ns.length->R (.d (zad ms)) []):zbp [.d (zad ns),.d (zb2 tr),.d (zad b)] [] R:=by
 have h8:=zbV ht;unfold zbp zad;walk_at "d"
 walk_at "n"
 walk_at "n"
 refine zR (fun i δ S=>∃ (ms:List Int) (u:Option XV),S=[ms.map PyData.int]/\ms.length=ns.length/\δ=[some (.d (.tuple (ns.map PyData.int))),some (.d (zb2 tr)),some (.d (.tuple (b.map PyData.int))),some (.l 0),u]) ⟨ns,none,rfl,rfl,rfl⟩ ?_ ?_
 ·rintro i d _ _ N hi ⟨ms,u,rfl,hms,rfl⟩ hN;obtain⟨hi',rfl⟩:=zbi hi;have hi8:i<b.length:=by simpa using hi'
  have eb:=getElem?_eq_getElem hi8;have et:=getElem?_eq_getElem (show i<tr.length by omega);have em:=getElem?_eq_getElem (show i<ms.length by omega);have bb:=ziZ hb eb (s:=(tr[i]'(by omega)).length+1) (by unfold szT; rw [getElem?_map,et]; rfl);rw [Int.zero_add];walk_at "d";refine⟨_,zbq eb,?_⟩;walk_at "d";by_cases h0:0<b[i]
  ·rw [if_pos h0];unfold zb2;walk_at "d";obtain⟨c,hc⟩:=Int.eq_ofNat_of_zero_le bb.1;have hm:c - 1<(tr[i]'(by omega)).length:=by omega
   have e:(c:Int) - 1=((c - 1:Nat):Int):=by omega
   refine⟨_,zbq em,_,zbq et,_,zbq eb,?_⟩;rw [hc,zbW];walk_at "d";rw [e];refine⟨_,zbq (getElem?_eq_getElem hm),?_⟩;rw [zes];walk_at "d";refine⟨i,by unfold ixN; rw [if_pos (by omega),if_pos (by simp; omega)]; simp,?_⟩;rw [<- List.map_set];exact hN _ _ ⟨ms.set i _,_,rfl,by simp [hms],rfl⟩
  ·rw [if_neg h0];exact hN _ _ ⟨ms,_,rfl,hms,rfl⟩
 ·rintro _ _ ⟨ms,u,rfl,hms,rfl⟩;walk_at "d";exact q ms hms
theorem zgc{p:List PyData}{ps:List Part}(hp:zaO p)(hd:Drw ps)(q:∀ ts p',Tms ps.length ts->zaO p'->R (.d (zqB ts)) [p']):zcr [.l 0,.d (zcv ps)] [p] R:=zij hp hd q
theorem zhe{p:List PyData}{ps:List Part}{ns:List Int}{tr:List (List Trm)}(hp:zaO p)(hd:Drw ps)(ht:TrC ps.length tr)(h1:ns.length=tr.length)(q:∀ gs p',GsT ps.length gs->1<=gs.length->gs.length<=3->zaO p'->R (.d (zcf gs)) [p']):zcl [.l 0,.d (zcv ps),.d (zad ns),.d (zb2 tr)] [p] R:=by
 have l8:=hd.l8;have tl:=ht.len;unfold zcl;walk_at "d"
 walk_at "n"
 walk_at "n"
 refine zv hp dz (by decide +kernel) fun r p1 r0 r1 hp1=>?_;walk_at "d";refine zR (fun i δ S=>∃ (p:List PyData) (gs:List Gap) (u5 u6 u7 u8 u9:Option XV),S=[p,gs.map zlw]/\zaO p/\gs.length=i/\GsT ps.length gs/\δ=[some (.l 0),some (.d (zcv ps)),some (.d (zad ns)),some (.d (zb2 tr)),some (.l 1),u5,u6,u7,u8,u9]) ⟨p1,[],_,_,_,_,_,rfl,hp1,rfl,⟨by simp,by simp⟩,rfl⟩ ?_ ?_
 ·rintro i d _ _ N hi ⟨p,gs,u5,u6,u7,u8,u9,rfl,hp,hgl,hgs,rfl⟩ hN;obtain⟨hi',rfl⟩:=zbi hi;walk_at "d"
  walk_at "n"
  refine zgc hp hd fun ts p2 hts hp2=>?_;walk_at "d"
  walk_at "n"
  refine zdK ht ?_;walk_at "d"
  walk_at "n"
  have fl:=zsY (sz:=szT tr) zf1;have fl2:=zdT (szT tr);have few:=ht.few;refine zv hp2 (by omega) (zcG (by omega) (by omega)) fun r2 p3 r20 r21 hp3=>?_;obtain⟨k,rfl⟩:=Int.eq_ofNat_of_zero_le r20;have hk:k<(fil (szT tr)).length:=by omega
  have ez:=getElem?_eq_getElem hk;have mz:=zeq.mp (mem_of_getElem? ez);walk_at "d";refine⟨_,zbq ez,?_⟩;walk_at "d";refine ziu ht.toTrs mz.2 h1 (by simpa [szT] using mz.1) fun ms hms=>?_;walk_at "d"
  walk_at "n"
  have h3:Tm3 ms.length ts:=by rw [hms,h1,tl]; exact hts.tm3 l8
  refine zeP (g:=⟨ts,0,0⟩) h3 ?_;walk_at "d";refine zv hp3 dz (by decide +kernel) fun r4 p4 r40 r41 hp4=>?_;walk_at "d";refine zv hp4 dz (by decide +kernel) fun r5 p5 r50 r51 hp5=>?_;walk_at "d";refine⟨by omega,hN _ _ ⟨p5,gs++[⟨ts,worth ts ms+r4 - 5,worth ts ms+r4 - 5+r5⟩],_,_,_,_,_,by simp [zlw],hp5,by simp [hgl],⟨fun g mg=>?_,fun g mg=>?_⟩,rfl⟩⟩
  ·rcases mem_append.mp mg with mg | mg
   ·exact hgs.t3 g mg
   ·rw [mem_singleton.mp mg];exact hts.tm3 l8
  ·rcases mem_append.mp mg with mg | mg
   ·exact hgs.le g mg
   ·rw [mem_singleton.mp mg];show worth ts ms+r4 - 5<=worth ts ms+r4 - 5+r5;omega
 ·rintro _ _ ⟨p,gs,u5,u6,u7,u8,u9,rfl,hp,hgl,hgs,rfl⟩;rw [zah] at hgl;walk_at "d";exact q gs p hgs (by omega) (by omega) hp
def whG(w:PyData):Prop:=w=.tuple [.str "dear"]\/∃ k:Int,w=.tuple [.str "off",.int k]
theorem zkz:∀ {sz:List Nat} {b:List Int} {s:Nat} {k:Int},Bgn sz b->sz[b.length]? = some s->0<=k->k<s->Bgn sz (b++[k])
 | [],[],_,_,_,e,_,_=>by simp at e
 | s0 :: sz,[],s,k,_,e,k0,k1=>by
  simp at e;subst e;exact⟨⟨k0,k1⟩,by cases sz <;> trivial⟩
 | [],_ :: _,_,_,h,_,_,_=>by cases h
 | s0 :: sz,x :: b,s,k,h,e,k0,k1=>⟨h.1,zkz h.2 (by simpa using e) k0 k1⟩
theorem zj3:∀ {sz:List Nat},(∀ s∈sz,s<=2)->zU sz<=2 ^ sz.length
 | [],_=>by decide
 | s :: sz,h=>by
  have h1:=h s mem_cons_self;have h2:=zj3 (sz:=sz) fun x m=>h x (mem_cons_of_mem _ m);show s*zU sz<=2 ^ (sz.length+1);rw [pow_succ,mul_comm];exact mul_le_mul h2 h1
end
section
variable {R:RX} {S:Sto}
theorem zm1{n:Nat}(h:1<=n):zm7 ("",0,(n:Int) - 1)=(List.range n).map fun k:Nat=>(k:Int):=by
 unfold zm7 rng;rw [show ((n:Int) - 1 - 0+1).toNat=n by omega];simp
theorem zrc{n:Nat}(h:1<=n)(F:List (List Int)):ext F ("",0,(n:Int) - 1)=stp F n:=by
 unfold ext stp;rw [zm1 h];simp [map_map,Function.comp_def]
theorem zdJ{sz:List Nat}(hz:Sz sz)(h1:∀ s∈sz,1<=s)(hf:zU sz<=300)(q:R (.d (.list ((fil sz).map zad))) []):zbx [.d (szD sz)] [] R:=by
 obtain⟨h8,h4⟩:=hz;unfold zbx szD;walk_at "d"
 walk_at "n"
 walk_at "n";refine zR (fun i δ S=>∃ (u:Option XV),S=[]/\δ=[some (.d (.list (sz.map fun n:Nat=>.int n))),some (.d (.list (((sz.take i).foldl stp [[]]).map zad))),u]) ⟨_,rfl,rfl⟩ ?_ ?_
 ·rintro i d _ _ N hi ⟨u,rfl,rfl⟩ hN;obtain⟨n,en,rfl⟩:=zbX hi;have il:i<sz.length:=(List.getElem?_eq_some_iff.mp en).1;have n1:=h1 n (mem_of_getElem? en);have n4:=h4 n (mem_of_getElem? en);have pl:=zmZ h1 (i+1);rw [take_add_one,en] at pl;simp only [Option.toList_some] at pl;rw [zdz] at pl;generalize hF:(sz.take i).foldl stp [[]]=F;have lF:F.length=zU (sz.take i):=by rw [<- hF,zj9]
  have F1:1<=F.length:=by rw [lF]; exact zdf fun x m=>h1 x (List.mem_of_mem_take m)
  walk_at "d";refine⟨⟨by omega,by omega⟩,?_⟩;have ei:ze6 0 ((n:Int)).toNat=(zm7 ("",0,(n:Int) - 1)).map PyData.int:=by
   rw [zm1 n1,map_map,Int.toNat_natCast];simp [ze6]
  rw [ei];have es:=zrc n1 F;refine zgy (by rw [es]; unfold stp; rw [zcM (n:=n) (fun x _=>by simp),lF]; omega) (fun a ma=>?_) F1 ?_
  ·have ea:F=fil (sz.take i):=by rw [<- hF]; exact zdp _
   rw [ea] at ma;have:=(zeq.mp ma).1;rw [length_take] at this;omega
  ·rw [es];have e5:(sz.take (i+1)).foldl stp [[]]=stp F n:=by
    rw [take_add_one,en,<- hF];exact ziI _ _
   exact hN _ _ ⟨_,rfl,by rw [e5]⟩
 ·rintro _ _ ⟨u,rfl,rfl⟩;rw [length_map,take_length];walk_at "d";have:=zdp sz;rw [<- this] at q;exact q
theorem zll{sz:List Nat}(hz:Sz sz)(hf:zU sz<=300)(q:R (.d .none) []):za6 [.d (szD sz)] [] R:=by
 unfold za6;walk_at "d"
 walk_at "n"
 refine zbK hz (by simp) ?_;walk_at "d";rw [drop_zero,if_neg (by omega)];exact q
end
section
variable {R:RX} {S:Sto}
theorem zfv{b:List Int}{ns:List Int}(hl:ns.length<=1000)(bl:b.length<=100)(q:R (.d (.list ((ns.map fun k=>b++[k]).map zad))) []):zaI [.d (.list [zad b]),.d (.list (ns.map PyData.int))] [] R:=by
 unfold zaI;walk_at "d"
 walk_at "n"
 walk_at "n";refine zR (fun j δ S=>∃ (u:Option XV),S=[(([b].take j).flatMap fun a=>ns.map fun k=>a++[k]).map zad]/\δ=[some (.d (.list [zad b])),some (.d (.list (ns.map PyData.int))),some (.l 0),u]) ⟨_,rfl,rfl⟩ ?_ ?_
 ·rintro j d _ _ N hj ⟨u,rfl,rfl⟩ hN;have j0:j=0:=by
   have:=(List.getElem?_eq_some_iff.mp hj).1;simp at this;omega
  subst j0;obtain rfl:zad b=d:=by simpa using hj
  rw [zad];walk_at "d";refine cmp1 (S0:=[(([b].take 0).flatMap fun a=>ns.map fun k=>a++[k]).map zad]) (fun x:Int=>zad (b++[x])) rfl ns (by omega) ?_ ?_
  ·intro x mx u acc R' hk;walk_at "d";refine⟨by omega,?_⟩;rw [ziR];exact hk _
  ·walk_at "d";refine⟨by simp; omega,hN _ _ ⟨_,?_,rfl⟩⟩;simp [map_map,Function.comp_def]
 ·rintro _ _ ⟨u,rfl,rfl⟩;walk_at "d";refine .inl ?_;simpa using q
def zg1{α:Type}:List (Option (List α))->Option (List α)
 | []=>some []
 | none :: _=>none
 | some x :: l=>(zg1 l).map fun y=>x++y
theorem zjN{α:Type}:∀ (l m:List (Option (List α))),zg1 (l++m)=(zg1 l).bind fun x=>(zg1 m).map fun y=>x++y
 | [],m=>by simp [zg1]
 | none :: l,m=>by simp [zg1]
 | some x :: l,m=>by
  simp only [cons_append,zg1];rw [zjN l m];cases zg1 l with
  | none=>rfl
  | some a =>
   cases zg1 m with
   | none=>rfl
   | some c=>simp
theorem zm5{α:Type}(l m:List (Option (List α))):zg1 (zg1 l :: m)=zg1 (l++m):=by
 rw [zjN];cases zg1 l <;> rfl
abbrev Rwp:=List Int×PyData
def rwF(wf:List Int->Option PyData):List Nat->List Int->Option (List Rwp)
 | [],b=>(wf b).map fun w=>[(b,w)]
 | s :: r,b=>match wf b with
  | some w=>some [(b,w)]
  | none=>zg1 ((List.range s).map fun k:Nat=>rwF wf r (b++[(k:Int)]))
theorem zua{wf:List Int->Option PyData}{r:List Nat}{b:List Int}{w:PyData}(h:wf b=some w):rwF wf r b=some [(b,w)]:=by
 cases r <;> simp [rwF,h]
def ndS:List Nat->Nat
 | []=>1
 | s :: r=>1+s*ndS r
theorem zh6{α:Type}(c:Nat):∀ l:List α,(l.map fun _=>c).sum=l.length*c
 | []=>by simp
 | x :: l=>by rw [map_cons,sum_cons,zh6 c l,length_cons,succ_mul]; omega
theorem zsa:∀ l:List Nat,1<=ndS l
 | []=>le_refl _
 | s :: r=>by unfold ndS; omega
def zt2(p:Rwp):PyData:=.tuple [zad p.1,p.2]
def whD:Option PyData->PyData
 | none=>.none
 | some w=>w
def zuq:Option (List Rwp)->PyData
 | none=>.none
 | some rows=>.list (rows.map zt2)
theorem znP(s:Nat)(h:1<=s):zmc ((s:Int) - 1) (((s:Int) - 1) - (-1)).toNat=((List.range s).reverse.map fun k:Nat=>(k:Int)).map PyData.int:=by
 rw [show ((s:Int) - 1 - -1).toNat=s by omega];apply List.ext_getElem
 ·simp [zmc]
 ·intro i h1 h2;have hi:i<s:=by simpa [zmc] using h1
  simp [zmc];omega
theorem ziC{α:Type}{l:List α}{n:Nat}{x:α}(h:l[n]? = some x):l.drop n=x :: l.drop (n+1):=by
 obtain⟨hn,e⟩:=List.getElem?_eq_some_iff.mp h;rw [List.drop_eq_getElem_cons hn,e]
theorem zeH{sz:List Nat}{wf:List Int->Option PyData}{F:Addr}{ql:PN}(hz:Sz sz)(h1:∀ s∈sz,1<=s)(hf:zU sz<=300)(hn:∀ b w,wf b=some w->w≠.none)
  (hw:∀ b,Bgn sz b->∀ R':RX,R' (.d (whD (wf b))) []->ql [.d (zad b)] [] R') (q:R (.d (zuq (rwF wf sz []))) []):zbm F ql [.d (szD sz),.o (.ref F)] [] R:=by
 obtain⟨h8,h4⟩:=hz;have pos:∀ n,1<=zU (sz.drop n):=fun n=>zdf fun x m=>h1 x (mem_of_mem_drop m);unfold zbm szD;walk_at "d"
 walk_at "n"
 walk_at "n"
 walk_at "n";refine⟨fun m δ S=>∃ (st:List (List Int)) (rows:List Rwp) (u v:Option XV),(∀ b∈st,Bgn sz b)/\m=(st.map fun b=>ndS (sz.drop b.length)).sum/\rows.length+(st.map fun b=>zU (sz.drop b.length)).sum<=300 /\
   (zg1 (st.reverse.map fun b=>rwF wf (sz.drop b.length) b)).map (fun y=>rows++y)=rwF wf sz [] /\
   S=[rows.map zt2,st.map zad]/\δ=[some (.d (.list (sz.map fun n:Nat=>.int n))),some (.o (.ref F)),some (.l 0),some (.l 1),u,v],⟨_,[[]],[],none,none,?_,rfl,?_,?_,rfl,rfl⟩,?_⟩
 ·intro b m;rw [mem_singleton.mp m];cases sz <;> trivial
 ·simpa using hf
 ·simp only [reverse_cons,List.reverse_nil,nil_append,map_cons,map_nil,zg1,length_nil,drop_zero];cases rwF wf sz [] <;> simp [zg1]
 ·rintro m _ _ ⟨st,rows,u,v,hb,rfl,hl,hq,rfl,rfl⟩;walk_at "d";rcases List.eq_nil_or_concat st with rfl | ⟨st',b,rfl⟩
  ·simp only [map_nil,List.isEmpty_nil,Bool.true_eq_false,if_false];refine .inl ?_;simp only [List.reverse_nil,map_nil,zg1,map_some,append_nil] at hq;rw [<- hq] at q;exact q
  ·rw [List.concat_eq_append] at *;rw [if_pos (by simp)];have hbb:=hb b (by simp);have hb':∀ c∈st',Bgn sz c:=fun c m=>hb c (by simp [m]);have bl:=zfY hbb;rw [List.reverse_append,List.reverse_singleton,List.singleton_append,map_cons] at hq;rw [map_append,sum_append] at hl ⊢;simp only [map_cons,map_nil,sum_cons,List.sum_nil,Nat.add_zero] at hl ⊢;have pb:=pos b.length;refine⟨_,fun _ _ h=>h,?_⟩;walk_at "d"
   walk_at "n"
   refine⟨zad b,by simp,?_⟩;have edl:(List.map zad (st'++[b])).dropLast=st'.map zad:=by simp
   rw [edl]
   walk_at "n"
   refine hw b hbb _ ?_;cases ew:wf b with
   | some w =>
    rw [zua ew] at hq;have wn:=hn b w ew;show ret0 _ _ (.d w) [];walk_at "d";have np:=zsa (sz.drop b.length);refine⟨by omega,_,?_,st',rows++[(b,w)],_,_,hb',rfl,?_,?_,⟨by simp [zt2],rfl⟩,rfl,rfl⟩
    ·omega
    ·rw [length_append,length_singleton];omega
    ·rw [<- hq];simp only [zg1,Option.map_map];congr 1;funext y;simp
   | none =>
    show ret0 _ _ (.d .none) [];walk_at "d";have lx:∀ S,zrE S (.d (zad b))=some b.length:=fun S=>by
     unfold zad;rw [zmR,length_map]
    refine⟨_,lx _,?_⟩;by_cases hfl:b.length=sz.length
    ·rw [if_pos (by omega)];have e0:sz.drop b.length=[]:=by rw [hfl,drop_length]
     rw [e0] at hq;simp only [rwF,ew,Option.map_none,zg1] at hq;rw [<- hq] at q;exact q
    ·rw [if_neg (by omega)];have il:b.length<sz.length:=by omega
     have es:=getElem?_eq_getElem il;generalize sz[b.length]'il=s at es;have s1:=h1 s (mem_of_getElem? es);have s4:=h4 s (mem_of_getElem? es);have ed:=ziC es;refine⟨_,lx _,_,zbq es,?_⟩;walk_at "d";refine⟨_,_,⟨rfl,rfl⟩,⟨by omega,by omega⟩,⟨by decide,by decide⟩,?_⟩;rw [znP s s1];refine zfv (by simp; omega) (by omega) ?_;walk_at "d";have eN:∀ f:List Nat->Nat,(((List.range s).reverse.map fun k:Nat=>b++[(k:Int)]).map fun c=>f (sz.drop c.length)).sum=s*f (sz.drop (b.length+1)):=fun f=>by
      rw [map_map,List.map_congr_left (g:=fun _=>f (sz.drop (b.length+1))) fun k _=>by simp];rw [zh6,List.length_reverse,length_range]
     have stl:st'.length<=300:=by
      have:st'.length<=(st'.map fun b=>zU (sz.drop b.length)).sum:=by
       clear hq hl hb hb' edl
       induction st' with
       | nil=>simp
       | cons c l ih=>simp only [length_cons,map_cons,sum_cons]; have:=pos c.length; omega
      omega
     rw [ed] at hl hq ⊢;refine⟨by simp; omega,_,?_,st'++((List.range s).reverse.map fun k:Nat=>b++[(k:Int)]),rows,_,_,?_,rfl,?_,?_,⟨rfl,by simp⟩,rfl,rfl⟩
     ·rw [map_append,sum_append,eN ndS];simp only [ndS];omega
     ·intro c m;rcases mem_append.mp m with m | m
      ·exact hb' c m
      ·obtain⟨k,mk,rfl⟩:=mem_map.mp m;have:=mem_range.mp (mem_reverse.mp mk);exact zkz hbb es (by omega) (by omega)
     ·rw [map_append,sum_append,eN zU];simp only [zU] at hl;omega
     ·rw [<- hq];simp only [rwF,ew];rw [zm5,List.reverse_append,map_append];congr 3;rw [<- List.map_reverse,List.reverse_reverse,map_map];refine List.map_congr_left fun k _=>?_;simp
end
section
variable {R:RX} {S:Sto}
theorem zoH(l:List Trm):way l ((0:Nat):Int)=(0,0):=rfl
theorem zrK{ns:List Int}{tr:List (List Trm)}{z:List Int}{i:Nat}{x k:Int}{l:List Trm}(e1:ns[i]? = some x)(e2:tr[i]? = some l)(e3:z[i]? = some k):(fld ns tr z).getD i 0=x - (way l k).1:=by
 unfold fld;rw [getD_eq_getElem?_getD,getElem?_map,(getElem?_zip_eq_some (z:=(x,(l,k)))).mpr ⟨e1,(getElem?_zip_eq_some (z:=(l,k))).mpr ⟨e2,e3⟩⟩];rfl
section
variable {n:Nat} {ps:List Part} {gs:List Gap} {ns:List Int} {tr:List (List Trm)} {price:Int}
def zgk(gs:List Gap)(ms:List Int):Bool:=gs.all fun g=>zdD g ms
def wfB(ps:List Part)(gs:List Gap)(ns:List Int)(tr:List (List Trm))(price:Int)(b:List Int):Option PyData :=
 if price<=prc tr b then some (.tuple [.str "dear"]) else (gs.findIdx? (zgg (lft ps ns tr b))).map fun k:Nat=>.tuple [.str "off",.int k]
theorem ztX{b:List Int}{w:PyData}(h:wfB ps gs ns tr price b=some w):whG w/\ztr ps gs ns tr price b w=true:=by
 unfold wfB at h;by_cases hp:price<=prc tr b
 ·rw [if_pos hp] at h;cases h;refine⟨.inl rfl,?_⟩;rw [zuL (by rfl)];exact decide_eq_true hp
 ·rw [if_neg hp,map_eq_some_iff] at h;obtain⟨k,hk,rfl⟩:=h;refine⟨.inr ⟨k,rfl⟩,?_⟩;obtain⟨h1,h2,_⟩:=List.findIdx?_eq_some_iff_getElem.mp hk;unfold ztr;rw [if_neg (fun h=>by cases (show false=true from h))];show (decide (("off":Str) = "off") && ztM ps gs ns tr b (.int k))=true;rw [zn8];have e:ztp gs (k:Int)=gs[k]:=by
   unfold ztp;rw [Int.toNat_natCast,getD_eq_getElem?_getD,getElem?_eq_getElem h1];rfl
  rw [e,h2];simp;omega
end
theorem zrw(ns:List Int):ImD (zad ns)=true:=by
 unfold zad;rw [zix];refine zfx fun d m=>?_;obtain⟨i,_,rfl⟩:=mem_map.mp m;exact zrb
theorem zsR(ps:List Part):ImD (zcv ps)=true:=by
 unfold zcv;rw [zix];refine zfx fun d m=>?_;obtain⟨p,_,rfl⟩:=mem_map.mp m;rfl
theorem zql(gs:List Gap):ImD (zcf gs)=true:=by
 unfold zcf;rw [zix];refine zfx fun d m=>?_;obtain⟨g,_,rfl⟩:=mem_map.mp m;rw [zcT,zix];simp only [ImL,zrb,Bool.and_true];unfold zqB;rw [zix];refine zfx fun d m=>?_;obtain⟨t,_,rfl⟩:=mem_map.mp m;rfl
theorem zsP(tr:List (List Trm)):ImD (zb2 tr)=true:=by
 unfold zb2;rw [zix];refine zfx fun d m=>?_;obtain⟨l,_,rfl⟩:=mem_map.mp m;rw [zbW,zix];refine zfx fun d m=>?_;obtain⟨t,_,rfl⟩:=mem_map.mp m;rfl
theorem ze5{n:Nat}{ps:List Part}{gs:List Gap}{ns:List Int}{tr:List (List Trm)}{price:Int}{b:List Int}(ht:Trs n tr)(h0:ps.length=tr.length)(h1:ns.length=tr.length)(hg:GsT ps.length gs)(gl:gs.length<=900)(hb:Bgn (szT tr) b)
  (q:R (.d (whD (wfB ps gs ns tr price b))) []):zbA [.d (.tuple [zcv ps,zcf gs]),.d (zad ns),.d (zb2 tr),.d (.int price),.d (zad b)] [] R:=by
 have bl:b.length<=tr.length:=by have:=zfY hb; simpa [szT] using this
 unfold zbA;walk_at "d"
 walk_at "n"
 refine zcc ht hb ?_;walk_at "d";unfold wfB at q;by_cases hp:price<=prc tr b
 ·rw [if_pos hp] at q ⊢;walk_at "d";exact q
 ·rw [if_neg hp] at q ⊢
  walk_at "n"
  refine zdU ht hb h0 h1 ?_;unfold zcf;walk_at "d";walk_at "n";refine zR (fun i δ S=>∃ (u2 u3:Option XV),S=[]/\(∀ j g,j<i->gs[j]? = some g->zgg (lft ps ns tr b) g=false)/\δ=[some (.d (.tuple [zcv ps,.tuple (gs.map zlw)])),some (.d (zad ns)),some (.d (zb2 tr)),some (.d (.int price)),some (.d (zad b)),some (.d (zcv (lft ps ns tr b))),u2,u3]) ⟨_,_,rfl,by intro j g h; omega,rfl⟩ ?_ ?_
  ·rintro i d _ _ N hi ⟨u2,u3,rfl,hm,rfl⟩ hN;obtain⟨d',e1,rfl⟩:=zd9 _ 0 i d hi;rw [zero_add];obtain⟨g,eg,rfl⟩:=zbX e1;have mg:=mem_of_getElem? eg;walk_at "d";refine zmM (by rw [zp4 h0 h1 bl]; exact hg.t3 g mg) (hg.le g mg) ?_;cases hg:zgg (lft ps ns tr b) g with
   | false =>
    walk_at "d";refine hN _ _ ⟨_,_,rfl,fun j g' hj e'=>?_,rfl⟩;rcases lt_or_ge j i with h1 | h1
    ·exact hm j g' h1 e'
    ·obtain rfl:j=i:=by omega
     rw [eg] at e';cases e';exact hg
   | true =>
    walk_at "d";have hf:gs.findIdx? (zgg (lft ps ns tr b))=some i:=by
     obtain⟨il,eil⟩:=List.getElem?_eq_some_iff.mp eg;refine List.findIdx?_eq_some_iff_getElem.mpr ⟨il,by rw [eil]; exact hg,fun j hj=>?_⟩;rw [hm j gs[j] hj (getElem?_eq_getElem (by omega))];decide
    rw [hf] at q;exact q
  ·rintro _ _ ⟨u2,u3,rfl,hm,rfl⟩;rw [zdd,length_map] at hm;have hf:gs.findIdx? (zgg (lft ps ns tr b))=none:=by
    refine List.findIdx?_eq_none_iff.mpr fun g m=>?_;obtain⟨j,hj,e⟩:=List.getElem_of_mem m;exact hm j g hj (by rw [getElem?_eq_getElem hj,e])
   rw [hf] at q;walk_at "d";exact q
theorem zhA{n:Nat}{ns:List Int}{tr:List (List Trm)}{b:List Int}(ht:Trs n tr)(hb:Bgn (szT tr) b)(h1:ns.length=tr.length)(hbl:b.length=tr.length)(q:R (.d (zad (fld ns tr b))) []):zbp [.d (zad ns),.d (zb2 tr),.d (zad b)] [] R:=by
 have h8:=zbV ht;unfold zbp zad;walk_at "d"
 walk_at "n"
 walk_at "n"
 refine zR (fun i δ S=>∃ (ms:List Int) (u:Option XV),S=[ms.map PyData.int]/\ms=(fld ns tr b).take i++ns.drop i/\δ=[some (.d (.tuple (ns.map PyData.int))),some (.d (zb2 tr)),some (.d (.tuple (b.map PyData.int))),some (.l 0),u]) ⟨ns,none,rfl,by simp,rfl⟩ ?_ ?_
 ·rintro i d _ _ N hi ⟨ms,u,rfl,hms,rfl⟩ hN;obtain⟨hi',rfl⟩:=zbi hi;have hi8:i<b.length:=by simpa using hi'
  have eb:=getElem?_eq_getElem hi8;have et:=getElem?_eq_getElem (show i<tr.length by omega);have inl:i<ns.length:=by omega
  have en:=getElem?_eq_getElem inl;have fl:=zfo (ns:=ns) (tr:=tr) (b:=b) h1 (by omega);have em:ms[i]? = some (ns[i]'inl):=by
   rw [hms,getElem?_append_right (by simp; omega),length_take,List.getElem?_drop,show i+(i - min i (fld ns tr b).length)=i by omega];exact en
  have ml:ms.length=ns.length:=by rw [hms]; simp; omega
  have bb:=ziZ hb eb (s:=(tr[i]'(by omega)).length+1) (by unfold szT; rw [getElem?_map,et]; rfl);have ef:=zrK en et eb;have nx:∀ x:Int,x=(fld ns tr b).getD i 0->ms.set i x=(fld ns tr b).take (i+1)++ns.drop (i+1):=fun x ex=>by
   have e1:(fld ns tr b)[i]? = some x:=by rw [ex]; exact zjc (by omega)
   rw [hms,List.set_append_right _ _ (by simp; omega),length_take,show i - min i (fld ns tr b).length=0 by omega,ziC en,set_cons_zero,zbC e1,append_assoc];rfl
  rw [Int.zero_add];walk_at "d";refine⟨_,zbq eb,?_⟩;walk_at "d";by_cases h0:0<b[i]
  ·rw [if_pos h0];unfold zb2;walk_at "d";obtain⟨c,hc⟩:=Int.eq_ofNat_of_zero_le bb.1;have hm:c - 1<(tr[i]'(by omega)).length:=by omega
   have e:(c:Int) - 1=((c - 1:Nat):Int):=by omega
   refine⟨_,zbq em,_,zbq et,_,zbq eb,?_⟩;rw [hc,zbW];walk_at "d";rw [e];refine⟨_,zbq (getElem?_eq_getElem hm),?_⟩;rw [zes];walk_at "d";refine⟨i,by unfold ixN; rw [if_pos (by omega),if_pos (by simp; omega)]; simp,?_⟩;rw [<- List.map_set];refine hN _ _ ⟨ms.set i _,_,rfl,nx _ ?_,rfl⟩;rw [ef,hc];congr 2;unfold way wys;rw [Int.toNat_natCast,getD_eq_getElem?_getD];obtain⟨c',rfl⟩:∃ c',c=c'+1:=⟨c - 1,by omega⟩;rw [getElem?_cons_succ,getElem?_eq_getElem (by omega)];rfl
  ·rw [if_neg h0];refine hN _ _ ⟨ms.set i (ns[i]'inl),_,?_,nx _ ?_,rfl⟩
   ·have:ms.set i (ns[i]'inl)=ms:=by
     obtain⟨hh,e⟩:=List.getElem?_eq_some_iff.mp em;rw [<- e];exact List.set_getElem_self hh
    rw [this]
   ·rw [ef,show b[i]=((0:Nat):Int) by omega,zoH];omega
 ·rintro _ _ ⟨ms,u,rfl,hms,rfl⟩;walk_at "d";have fl:=zfo (ns:=ns) (tr:=tr) (b:=b) h1 (by omega);rw [zah] at hms;have e:ms=fld ns tr b:=by
   rw [hms,take_of_length_le (by simp; omega),List.drop_of_length_le (by simp; omega),append_nil]
  rw [e];exact q
theorem zjg{gs:List Gap}{ms:List Int}(gl:gs.length<=900)(h3:∀ g∈gs,Tm3 ms.length g.ts)(q:R (.d (.bool (zgk gs ms))) []):zdA [.d (zcf gs),.d (zad ms)] [] R:=by
 unfold zdA zcf;walk_at "d";refine cmp1 (S0:=[]) (fun g:Gap=>PyData.bool (zdD g ms)) rfl gs (by omega) ?_ ?_
 ·intro g mg u acc R' hk;rw [zcT];walk_at "d";rw [<- zcT];refine zeP (h3 g mg) ?_;walk_at "d";unfold zdD at hk;by_cases h1:g.lo<=worth g.ts ms
  ·rw [if_pos h1];have e:decide (g.lo<=worth g.ts ms/\worth g.ts ms<=g.hi)=decide (worth g.ts ms<=g.hi):=by simp [h1]
   rw [e] at hk;exact hk _
  ·rw [if_neg h1];have e:decide (g.lo<=worth g.ts ms/\worth g.ts ms<=g.hi)=false:=by simp [h1]
   rw [e] at hk;exact hk _
 ·walk_at "d";refine⟨gs.map fun g=>zdD g ms,by rw [map_map]; rfl,?_⟩;unfold zgk at q;rw [all_map];exact q
end
section
variable {R:RX} {S:Sto}
def zc6(gs:List Gap)(ns:List Int)(tr:List (List Trm)):List (List Int):=(fil (szT tr)).filter fun z=>zgk gs (fld ns tr z)
def oD:Option Int->PyData
 | none=>.none
 | some m=>.int m
def IsL(gs:List Gap)(ns:List Int)(tr:List (List Trm)):Option Int->Prop
 | none=>zc6 gs ns tr=[]
 | some m=>(∃ z∈zc6 gs ns tr,prc tr z=m)/\∀ z∈zc6 gs ns tr,m<=prc tr z
def zgf(tr:List (List Trm))(d:PyData):Int:=prc tr (bgO d)
theorem zdo{tr:List (List Trm)}{z:List Int}(h:z∈fil (szT tr)):Bgn (szT tr) z/\z.length=tr.length:=by
 obtain⟨h1,h2⟩:=zeq.mp h;exact⟨h2,by rw [h1]; simp [szT]⟩
section
variable {n:Nat} {ps:List Part} {gs:List Gap} {ns:List Int} {tr:List (List Trm)} {price:Int}
theorem zja(h0:ps.length=tr.length)(h1:ns.length=tr.length)(hg:GsT ps.length gs){z:List Int}(hz:z∈fil (szT tr)):∀ g∈gs,Tm3 (fld ns tr z).length g.ts:=fun g mg=>by
 rw [zfo h1 (by rw [(zdo hz).2]; exact le_refl _),(zdo hz).2,<- h0];exact hg.t3 g mg
theorem zch(hT:Trs n tr)(few:zU (szT tr)<=300)(h0:ps.length=tr.length)(h1:ns.length=tr.length)(hg:GsT ps.length gs)(gl:gs.length<=100)(no:zc6 gs ns tr=[]->R (.d .none) [])
  (yes:∀ pre b post,zc6 gs ns tr=pre++b :: post->(∀ a∈pre,prc tr b<prc tr a)->(∀ a∈post,prc tr b<=prc tr a)->R (.d (zad b)) []):za7 [.d (.tuple [zcv ps,zcf gs]),.d (zad ns),.d (zb2 tr)] [] R:=by
 unfold za7;walk_at "d"
 walk_at "n"
 refine zbJ hT ?_;walk_at "d";refine zc7 hT ?_;walk_at "d"
 walk_at "n"
 refine zll (zeg hT) few ?_;walk_at "d"
 walk_at "n"
 refine zdJ (zeg hT) zf1 few ?_;walk_at "d";refine cmf1 (S0:=[]) (h:=zad) (f:=zad) (p:=fun z=>zgk gs (fld ns tr z)) rfl (fil (szT tr)) (by rw [zdT]; omega) ?_ ?_
 ·intro z mz u acc R' hk';obtain⟨hb,zl⟩:=zdo mz;walk_at "d";refine zhm hT hb ?_;walk_at "d";refine zeW gl (zja h0 h1 hg mz) ?_;walk_at "d";refine⟨gs.map fun g=>zdD g (fld ns tr z),by rw [map_map]; rfl,?_⟩;rw [all_map];exact hk' _ fun _ T hT=>⟨_,rfl,hT⟩
 ·walk_at "d";refine⟨_,[.d (zb2 tr)],zgf tr,rfl,rfl,fun d md R' hR=>⟨_,rfl,[zb2 tr,d],rfl,rfl,?_⟩,fun z=>no (map_eq_nil_iff.mp z),fun pre d post e hp hq=>?_⟩
  ·obtain⟨z,mz,rfl⟩:=mem_map.mp md;obtain⟨hb,_⟩:=zdo (mem_filter.mp mz).1;have e:zgf tr (zad z)=prc tr z:=by unfold zgf; rw [zg8]
   rw [e] at hR;exact zcc hT hb hR
  ·obtain⟨p1,r1,e1,rfl,e2⟩:=List.map_eq_append_iff.mp e;obtain⟨b,q1,rfl,rfl,rfl⟩:=List.map_eq_cons_iff.mp e2;have e:∀ z,zgf tr (zad z)=prc tr z:=fun z=>by unfold zgf; rw [zg8]
   refine yes p1 b q1 e1 (fun a ma=>?_) fun a ma=>?_
   ·have:=hp (zad a) (mem_map_of_mem ma)
    rwa [e,e] at this
   ·have:=hq (zad a) (mem_map_of_mem ma)
    rwa [e,e] at this
theorem zoB{z:List Int}:z∈zc6 gs ns tr↔z∈fil (szT tr)/\zgk gs (fld ns tr z)=true:=mem_filter
end
end
section
variable {R:RX} {S:Sto}
def zrx(C:Addr):Str:=if C=37 then "span" else if C=49 then "part" else if C=61 then "set" else if C=161 then "text" else if C=73 then "row" else if C=85 then "unlike" else if C=104 then "drawing" else if C=123 then "gap" else if C=142 then "offer" else "great"
theorem znH{C D:Addr}{fs:List (Str×PyData)}(hC:C∈excs)(hD:D∈excs)(q:R (.d (.bool (decide (C=D)))) S):zjS [.x C fs,.o (.ref D)] S R:=⟨C,fs,_,rfl,rfl,hC,.inl ⟨D,rfl,hD,q⟩⟩
theorem zuU{C:Addr}{fs:List (Str×PyData)}(hC:C∈excs)(q:R (.d (.bool true)) S):zjS [.x C fs,.o (.ty "ValueError")] S R:=⟨C,fs,_,rfl,rfl,hC,.inr ⟨rfl,q⟩⟩
theorem zjB{C:Addr}{fs:List (Str×PyData)}(hC:C∈excs)(q:R (.d (.str (zrx C))) []):zb6 [.x C fs] [] R:=by
 unfold zb6;walk_at "d"
 walk_at "n"
 refine znH hC dz ?_;walk_at "d";refine znH hC dz ?_;walk_at "d";refine znH hC dz ?_;walk_at "d";refine znH hC dz ?_;walk_at "d"
 walk_at "n"
 refine znH hC dz ?_;walk_at "d";refine znH hC dz ?_;walk_at "d";refine znH hC dz ?_;walk_at "d";refine znH hC dz ?_;walk_at "d"
 walk_at "n"
 refine znH hC dz ?_;walk_at "d";refine znH hC dz ?_;walk_at "d"
 walk_at "n"
 refine zuU hC ?_;walk_at "d";refine⟨[decide (C=37),decide (C=49),decide (C=61),decide (C=161),decide (C=73),decide (C=85),decide (C=104),decide (C=123),decide (C=142),decide (C=180)],rfl,?_⟩;have sh:∀ bs:List Bool,SeqAt.shaped (.list (bs.map PyData.bool))=true:=fun bs=>(zfe (zf4 fun _ _=>(zjQ:Shp 0 _))).ok;simp only [excs,mem_cons,not_mem_nil,or_false] at hC;rcases hC with rfl | rfl | rfl | rfl | rfl | rfl | rfl | rfl | rfl | rfl
 ·rw [if_neg dz]
  walk_at "n"
  exact⟨sh [true,false,false,false,false,false,false,false,false,false],0,⟨_,rfl,rfl⟩,(fun m e hm he=>by rcases m with _ | _ | _ | _ | _ | _ | _ | _ | _ | m <;> first | (exfalso; omega) | (cases he; rfl)),_,rfl,q⟩
 ·rw [if_neg dz]
  walk_at "n"
  exact⟨sh [false,true,false,false,false,false,false,false,false,false],1,⟨_,rfl,rfl⟩,(fun m e hm he=>by rcases m with _ | _ | _ | _ | _ | _ | _ | _ | _ | m <;> first | (exfalso; omega) | (cases he; rfl)),_,rfl,q⟩
 ·rw [if_neg dz]
  walk_at "n"
  exact⟨sh [false,false,true,false,false,false,false,false,false,false],2,⟨_,rfl,rfl⟩,(fun m e hm he=>by rcases m with _ | _ | _ | _ | _ | _ | _ | _ | _ | m <;> first | (exfalso; omega) | (cases he; rfl)),_,rfl,q⟩
 ·rw [if_neg dz]
  walk_at "n"
  exact⟨sh [false,false,false,false,true,false,false,false,false,false],4,⟨_,rfl,rfl⟩,(fun m e hm he=>by rcases m with _ | _ | _ | _ | _ | _ | _ | _ | _ | m <;> first | (exfalso; omega) | (cases he; rfl)),_,rfl,q⟩
 ·rw [if_neg dz]
  walk_at "n"
  exact⟨sh [false,false,false,false,false,true,false,false,false,false],5,⟨_,rfl,rfl⟩,(fun m e hm he=>by rcases m with _ | _ | _ | _ | _ | _ | _ | _ | _ | m <;> first | (exfalso; omega) | (cases he; rfl)),_,rfl,q⟩
 ·rw [if_neg dz]
  walk_at "n"
  exact⟨sh [false,false,false,false,false,false,true,false,false,false],6,⟨_,rfl,rfl⟩,(fun m e hm he=>by rcases m with _ | _ | _ | _ | _ | _ | _ | _ | _ | m <;> first | (exfalso; omega) | (cases he; rfl)),_,rfl,q⟩
 ·rw [if_neg dz]
  walk_at "n"
  exact⟨sh [false,false,false,false,false,false,false,true,false,false],7,⟨_,rfl,rfl⟩,(fun m e hm he=>by rcases m with _ | _ | _ | _ | _ | _ | _ | _ | _ | m <;> first | (exfalso; omega) | (cases he; rfl)),_,rfl,q⟩
 ·rw [if_neg dz]
  walk_at "n"
  exact⟨sh [false,false,false,false,false,false,false,false,true,false],8,⟨_,rfl,rfl⟩,(fun m e hm he=>by rcases m with _ | _ | _ | _ | _ | _ | _ | _ | _ | m <;> first | (exfalso; omega) | (cases he; rfl)),_,rfl,q⟩
 ·rw [if_neg dz]
  walk_at "n"
  exact⟨sh [false,false,false,true,false,false,false,false,false,false],3,⟨_,rfl,rfl⟩,(fun m e hm he=>by rcases m with _ | _ | _ | _ | _ | _ | _ | _ | _ | m <;> first | (exfalso; omega) | (cases he; rfl)),_,rfl,q⟩
 ·rw [if_neg dz]
  walk_at "n"
  exact⟨sh [false,false,false,false,false,false,false,false,false,true],9,⟨_,rfl,rfl⟩,(fun m e hm he=>by rcases m with _ | _ | _ | _ | _ | _ | _ | _ | _ | m <;> first | (exfalso; omega) | (cases he; rfl)),_,rfl,q⟩
end
section
variable {R:RX} {S:Sto} {EX:EXD}
def ztt(n:Nat):List (Str×PyData):=[("many",.int n),("most",.int 300)]
theorem zgC{sz:List Nat}(hz:Sz sz)(hf:zU sz<=300)(q:R (.d .none) []):zac [.d (szD sz)] [] R EX:=by
 unfold zac;walk_at "d"
 walk_at "n"
 refine zbK hz (by simp) ?_;walk_at "d";rw [drop_zero,if_neg (by omega)];exact q
theorem zgS{sz:List Nat}(hz:Sz sz)(hf:300<zU sz)(q:EX 180 (ztt (zU sz))):zac [.d (szD sz)] [] R EX:=by
 unfold zac;walk_at "d"
 walk_at "n"
 refine zbK hz (by simp) ?_;walk_at "d";rw [drop_zero,if_pos (by omega)];exact q
section
variable {n:Nat} {ps:List Part} {gs:List Gap} {ns:List Int} {tr:List (List Trm)} {price:Int}
theorem zd3(hT:Trs n tr)(few:zU (szT tr)<=300)(h0:ps.length=tr.length)(h1:ns.length=tr.length)(hg:GsT ps.length gs)(gl:gs.length<=100)(no:zc6 gs ns tr=[]->R (.d .none) [])
  (yes:∀ pre b post,zc6 gs ns tr=pre++b :: post->(∀ a∈pre,prc tr b<prc tr a)->(∀ a∈post,prc tr b<=prc tr a)->R (.d (zad b)) []):zap [.d (.tuple [zcv ps,zcf gs]),.d (zad ns),.d (zb2 tr)] [] R EX:=by
 unfold zap;walk_at "d"
 walk_at "n"
 refine zbJ hT ?_;walk_at "d";refine zc7 hT ?_;walk_at "d"
 walk_at "n"
 refine zgC (zeg hT) few ?_;walk_at "d"
 walk_at "n"
 refine zdJ (zeg hT) zf1 few ?_;walk_at "d";refine cmf1 (S0:=[]) (h:=zad) (f:=zad) (p:=fun z=>zgk gs (fld ns tr z)) rfl (fil (szT tr)) (by rw [zdT]; omega) ?_ ?_
 ·intro z mz u acc R' hk';obtain⟨hb,zl⟩:=zdo mz;walk_at "d";refine zhm hT hb ?_;walk_at "d";refine zeW gl (zja h0 h1 hg mz) ?_;walk_at "d";refine⟨gs.map fun g=>zdD g (fld ns tr z),by rw [map_map]; rfl,?_⟩;rw [all_map];exact hk' _ fun _ T hT=>⟨_,rfl,hT⟩
 ·walk_at "d";refine⟨_,[.d (zb2 tr)],zgf tr,rfl,rfl,fun d md R' hR=>⟨_,rfl,[zb2 tr,d],rfl,rfl,?_⟩,fun z=>no (map_eq_nil_iff.mp z),fun pre d post e hp hq=>?_⟩
  ·obtain⟨z,mz,rfl⟩:=mem_map.mp md;obtain⟨hb,_⟩:=zdo (mem_filter.mp mz).1;have e:zgf tr (zad z)=prc tr z:=by unfold zgf; rw [zg8]
   rw [e] at hR;exact zcc hT hb hR
  ·obtain⟨p1,r1,e1,rfl,e2⟩:=List.map_eq_append_iff.mp e;obtain⟨b,q1,rfl,rfl,rfl⟩:=List.map_eq_cons_iff.mp e2;have e:∀ z,zgf tr (zad z)=prc tr z:=fun z=>by unfold zgf; rw [zg8]
   refine yes p1 b q1 e1 (fun a ma=>?_) fun a ma=>?_
   ·have:=hp (zad a) (mem_map_of_mem ma)
    rwa [e,e] at this
   ·have:=hq (zad a) (mem_map_of_mem ma)
    rwa [e,e] at this
theorem zez(hT:Trs n tr){job built:PyData}(h:300<zU (szT tr))(q:EX 180 (ztt (zU (szT tr)))):zap [.d job,.d built,.d (zb2 tr)] [] R EX:=by
 unfold zap;walk_at "d"
 walk_at "n"
 refine zbJ hT ?_;walk_at "d";refine zc7 hT ?_;walk_at "d"
 walk_at "n"
 exact zgS (zeg hT) h q
theorem ziF(hT:Trs n tr){job built pr:PyData}(h:300<zU (szT tr))(q:EX 180 (ztt (zU (szT tr)))):zdB [.d job,.d built,.d (zb2 tr),.d pr] [] R EX:=by
 unfold zdB;walk_at "d"
 walk_at "n"
 refine zbJ hT ?_;walk_at "d";refine zc7 hT ?_;walk_at "d"
 walk_at "n"
 exact zgS (zeg hT) h q
theorem zns(ht:Trs n tr)(few:zU (szT tr)<=300)(h0:ps.length=tr.length)(h1:ns.length=tr.length)(hg:GsT ps.length gs)(gl:gs.length<=900)
  (q:R (.d (zuq (rwF (wfB ps gs ns tr price) (szT tr) []))) []):zdB [.d (.tuple [zcv ps,zcf gs]),.d (zad ns),.d (zb2 tr),.d (.int price)] [] R EX:=by
 unfold zdB;walk_at "d"
 walk_at "n"
 refine zbJ ht ?_;walk_at "d";refine zc7 ht ?_;walk_at "d"
 walk_at "n"
 refine zgC (zeg ht) few ?_;walk_at "d";refine⟨_,[.tuple [zcv ps,zcf gs],zad ns,zb2 tr,.int price],rfl,rfl,?_,fun F=>?_⟩
 ·simp only [ImL,zrb,zix,zrw,zsR,zql,zsP,Bool.and_self]
 ·refine zeH (wf:=wfB ps gs ns tr price) (zeg ht) zf1 few (fun b w e=>?_) (fun b hb R' hR=>?_) ?_
  ·rcases(ztX e).1 with rfl | ⟨k,rfl⟩ <;> simp
  ·walk_at "d";exact ze5 ht h0 h1 hg gl hb hR
  ·exact q
theorem zkw{E:DEnds}{m:Nat}{u0 u1 u2 u3:Option XV}(q:E.rt (.d (.tuple [.str "great",.tuple [.int m,.int 300]])) []):zO
  (zcI
   (dOr (dB (dOp znF (zgI zb6 (zb (zj 4) zn)) (dC (PyData.str (Str.ofString "great")))))
    (dOr (zjr (zgZ (zP 1 zaq (zb (dXA [180] (zj 4) (Str.ofString "many")) zn))))
     (zjr (zgZ (zP 1 zaq (zb (dXA [180] (zj 4) (Str.ofString "most")) zn))))))
   (za1 (zaN (zb (dC (PyData.str (Str.ofString "other"))) (zb (dC PyData.none) zn)))) za9)
  (za1
   (zaN
    (zb (dC (PyData.str (Str.ofString "great")))
     (zb
      (zaN
       (zb (dXA [180] (zj 4) (Str.ofString "many"))
        (zb (dXA [180] (zj 4) (Str.ofString "most")) zn)))
      zn))))
  E [u0,u1,u2,u3,some (XV.x 180 (ztt m))] []:=by
 walk_at "n";refine⟨180,_,rfl,zjB dz ?_⟩;rw [show zrx 180=Str.ofString "great" by decide];walk_at "d";have shg:SeqAt.shaped (PyData.str (Str.ofString "great"))=true:=by decide +kernel
 refine⟨shg,shg,?_⟩;rw [if_neg (by rw [SeqAt.eqv_refl _ (SeqAt.canLay_of_shaped shg)]; decide)];refine⟨180,_,_,rfl,by decide,rfl,zcK ?_⟩;rw [show zmV (.int m)=true from rfl];walk_at "d";refine⟨180,_,_,rfl,by decide,rfl,zcK ?_⟩;rw [show zmV (.int 300)=true from rfl];walk_at "d";refine⟨180,_,_,rfl,by decide,rfl,?_⟩;refine⟨180,_,_,rfl,by decide,rfl,?_⟩;walk_at "d";exact q
theorem zhO(hT:Trs n tr){way:Int}(h0:ps.length=tr.length)(h1:ns.length=tr.length)(hg:GsT ps.length gs)(gl:gs.length<=100)
  (q1:zU (szT tr)<=300->∀ d,R (.d (.tuple [.str "told",d])) []) (q2:300<zU (szT tr)->R (.d (.tuple [.str "great",.tuple [.int (zU (szT tr)),.int 300]])) []):zbN [.d (.int way),.d (.tuple [zcv ps,zcf gs]),.d (zad ns),.d (zb2 tr)] [] R:=by
 unfold zbN;walk_at "d";by_cases w0:way=0
 ·rw [if_pos w0];rcases lt_or_ge 300 (zU (szT tr)) with h | h
  ·exact zez hT h ⟨by decide,zkw (by walk_at "d"; exact q2 h)⟩
  ·refine zd3 hT h h0 h1 hg gl (fun _=>?_) fun _ b _ _ _ _=>?_
   ·walk_at "d";exact q1 h _
   ·walk_at "d";exact q1 h _
 ·rw [if_neg w0];rcases lt_or_ge 300 (zU (szT tr)) with h | h
  ·exact ziF hT h ⟨by decide,zkw (by walk_at "d"; exact q2 h)⟩
  ·refine zns hT h h0 h1 hg (by omega) ?_;walk_at "d";exact q1 h _
theorem zo5:∀ sz:List Nat,(fil sz).Pairwise fun x y=>HT.lexLt x y=true
 | []=>List.pairwise_singleton _ _
 | s :: r=>by
  unfold fil;rw [List.pairwise_flatMap];refine⟨fun k _=>?_,?_⟩
  ·rw [List.pairwise_map];exact(zo5 r).imp fun h=>(zhw _ _ _ _).mpr (.inr ⟨rfl,h⟩)
  ·refine List.Pairwise.imp_of_mem (fun {k1 k2} _ _ hk x mx y my=>?_) List.pairwise_lt_range;obtain⟨x',_,rfl⟩:=mem_map.mp mx;obtain⟨y',_,rfl⟩:=mem_map.mp my;have hk:k1<k2:=hk;exact(zhw _ _ _ _).mpr (.inl (by omega))
theorem zoj{pre post:List (List Int)}{b z:List Int}(e:zc6 gs ns tr=pre++b :: post)(hp:∀ a∈pre,prc tr b<prc tr a)(hq:∀ a∈post,prc tr b<=prc tr a)(mz:z∈zc6 gs ns tr)(hz:∀ y∈zc6 gs ns tr,HT.lexLt (prc tr y :: y) (prc tr z :: z)=false):z=b:=by
 have hb:=hz b (by rw [e]; simp);have pw:(zc6 gs ns tr).Pairwise fun x y=>HT.lexLt x y=true:=(zo5 (szT tr)).filter _;rw [e] at mz pw;rcases mem_append.mp mz with mz | mz
 ·have:=hp z mz;rw [(zhw _ _ _ _).mpr (.inl this)] at hb;cases hb
 ·rcases mem_cons.mp mz with rfl | mz
  ·rfl
  ·have h1:=hq z mz;have h2:=(List.pairwise_cons.mp (List.pairwise_append.mp pw).2.1).1 z mz;have:HT.lexLt (prc tr b :: b) (prc tr z :: z)=true:=(zhw _ _ _ _).mpr (by
    rcases Int.lt_or_le (prc tr b) (prc tr z) with h | h
    ·exact .inl h
    ·exact .inr ⟨by omega,h2⟩)
   rw [this] at hb;cases hb
theorem zim(ht:TrC n tr)(h0:ps.length=tr.length)(h1:ns.length=tr.length)(hg:GsT ps.length gs)(gl:gs.length<=100)(no:zc6 gs ns tr=[]->R (.d .none) [])
  (yes:∀ z∈zc6 gs ns tr,(∀ y∈zc6 gs ns tr,HT.lexLt (prc tr y :: y) (prc tr z :: z)=false)->R (.d (zad z)) []):zbs [.d (zcf gs),.d (zad ns),.d (zb2 tr)] [] R:=by
 have hT:=ht.toTrs;have l256:(fil (szT tr)).length<=256:=by rw [zdT]; exact ht.few
 unfold zbs;walk_at "d"
 walk_at "n"
 walk_at "n";refine zdK ht ?_;walk_at "d";refine zR (fun i δ S=>∃ (u:Option XV),S=[(((fil (szT tr)).take i).filter fun z=>zgk gs (fld ns tr z)).map fun z=>prI (prc tr z,z)]/\δ=[some (.d (zcf gs)),some (.d (zad ns)),some (.d (zb2 tr)),some (.l 0),u]) ⟨_,rfl,rfl⟩ ?_ ?_
 ·rintro i d _ _ N hi ⟨u,rfl,rfl⟩ hN;obtain⟨z,ez,rfl⟩:=zbX hi;have mz:=mem_of_getElem? ez;obtain⟨hb,zl⟩:=zdo mz;have il:=(List.getElem?_eq_some_iff.mp ez).1;walk_at "d";refine zhA hT hb h1 zl ?_;walk_at "d";refine zjg (by omega) (zja h0 h1 hg mz) ?_;have ll:(((fil (szT tr)).take i).filter fun z=>zgk gs (fld ns tr z)).length<=256:=le_trans (List.length_filter_le _ _) (by rw [length_take]; omega);cases hd:zgk gs (fld ns tr z) with
  | false =>
   walk_at "d";refine hN _ _ ⟨_,?_,rfl⟩;rw [zbC ez,List.filter_append];simp [hd]
  | true =>
   walk_at "d";refine zfq hT hb ?_;walk_at "d";refine⟨by omega,hN _ _ ⟨_,?_,rfl⟩⟩;rw [zbC ez,List.filter_append,map_append];simp [hd];rfl
 ·rintro _ _ ⟨u,rfl,rfl⟩;rw [length_map,take_length];walk_at "d"
  walk_at "n"
  refine⟨(zfe (n:=2) (zf4 fun z _=>zhr (n:=1) (zqM zhs (zjC (n:=0) z)))).ok,rfl,?_⟩;rw [zmh];by_cases hn:zc6 gs ns tr=[]
  ·unfold zc6 at hn;rw [hn];exact no hn
  ·have hm:List.map (fun z=>prI (prc tr z,z)) (List.filter (fun z=>zgk gs (fld ns tr z)) (fil (szT tr)))≠[]:=fun h=>hn (map_eq_nil_iff.mp h);rw [decide_eq_false hm,if_neg dz];refine⟨(zc6 gs ns tr).map fun z=>(prc tr z,z),by rw [map_map]; rfl,fun h=>hn (map_eq_nil_iff.mp h),fun m hm ha=>?_⟩;obtain⟨z,mz,rfl⟩:=mem_map.mp hm;unfold prI;walk_at "d";exact yes z mz fun y my=>ha (prc tr y,y) (mem_map_of_mem (f:=fun z=>(prc tr z,z)) my)
theorem zbk(hT:Trs n tr)(hf:zU (szT tr)<=256\/300<zU (szT tr))(h0:ps.length=tr.length)(h1:ns.length=tr.length)(hg:GsT ps.length gs)(gl:gs.length<=100)(q:R (.d (.bool true)) []):zar [.d (.tuple [zcv ps,zcf gs]),.d (zad ns),.d (zb2 tr)] [] R:=by
 have h8:=zbV hT;unfold zar zb2;walk_at "d"
 walk_at "n"
 walk_at "n";refine zR (fun i δ S=>∃ (u:Option XV),S=[]/\δ=[some (.d (.tuple [zcv ps,zcf gs])),some (.d (zad ns)),some (.d (.tuple (tr.map zgV))),some (.d (.int (zU ((szT tr).take i):Nat))),u,none,none,none,none,none]) ⟨none,rfl,by simp [zU]⟩ ?_ ?_
 ·rintro i d _ _ N hi ⟨u,rfl,rfl⟩ hN;obtain⟨l,el,rfl⟩:=zbX hi;have l3:=hT.l3 l (mem_of_getElem? el);rw [zbW];walk_at "d";refine⟨zkg (by omega) (by omega),hN _ _ ⟨some (.d (.tuple (l.map zhz))),rfl,?_⟩⟩;have es:(szT tr)[i]? = some (l.length+1):=by unfold szT; rw [getElem?_map,el]; rfl
  rw [take_add_one,es];simp [zdz,zbW]
 ·rintro _ _ ⟨u,rfl,rfl⟩;rw [length_map,show tr.length=(szT tr).length by simp [szT],take_length];walk_at "n";refine zR (fun i δ S=>∃ (u5 u6:Option XV),S=[]/\δ=[some (.d (.tuple [zcv ps,zcf gs])),some (.d (zad ns)),some (.d (.tuple (tr.map zgV))),some (.d (.int (zU (szT tr):Nat))),u,u5,u6,none,none,none]) ⟨none,none,rfl,rfl⟩ ?_ ?_
  ·rintro i d _ _ N hi ⟨u5,u6,rfl,rfl⟩ hN;obtain⟨hi',rfl⟩:=zbi hi;walk_at "d"
   walk_at "n"
   have shT:SeqAt.shaped (PyData.str (Str.ofString "told"))=true:=by decide +kernel
   have shG:SeqAt.shaped (PyData.tuple [PyData.str (Str.ofString "great"),PyData.tuple [PyData.int (zU (szT tr)),PyData.int 300]])=true :=
    (zhr (n:=1) (zqM ⟨by decide +kernel,by decide +kernel⟩ (zjC (n:=0) [(zU (szT tr):Int),300]))).ok
   refine zhO hT h0 h1 hg gl (fun h d=>?_) fun h=>?_
   ·walk_at "d";rw [if_neg (by omega),if_pos (by omega)];refine⟨shT,shT,?_⟩;rw [if_neg (by rw [SeqAt.eqv_refl _ (SeqAt.canLay_of_shaped shT)]; decide)];exact hN _ _ ⟨_,_,rfl,rfl⟩
   ·walk_at "d";rw [if_pos (by omega)];refine⟨shG,shG,?_⟩;rw [if_neg (by rw [SeqAt.eqv_refl _ (SeqAt.canLay_of_shaped shG)]; decide),if_neg (by omega)];exact hN _ _ ⟨_,_,rfl,rfl⟩
  ·rintro _ _ ⟨u5,u6,rfl,rfl⟩;walk_at "d"
   walk_at "n"
   rcases hf with few | hf
   ·rw [if_neg (by omega)]
    walk_at "n"
    refine zim ⟨hT,few⟩ h0 h1 hg gl (fun hn=>?_) fun z mz hz=>?_
    ·walk_at "d";walk_at "n";refine zR (fun i δ S=>∃ (u8 u9:Option XV),S=[]/\δ=[some (.d (.tuple [zcv ps,zcf gs])),some (.d (zad ns)),some (.d (.tuple (tr.map zgV))),some (.d (.int (zU (szT tr):Nat))),u,u5,u6,some (.d .none),u8,u9]) ⟨none,none,rfl,rfl⟩ ?_ ?_
     ·rintro i d _ _ N hi ⟨u8,u9,rfl,rfl⟩ hN;walk_at "d"
      walk_at "n"
      refine zch hT (by omega) h0 h1 hg gl (fun _=>?_) fun pre b post e _ _=>?_
      ·walk_at "d"
       walk_at "n"
       rw [if_neg (fun h=>by cases (show true=false from h))];exact hN _ _ ⟨_,_,rfl,rfl⟩
      ·rw [hn] at e;simp at e
     ·rintro _ _ ⟨u8,u9,rfl,rfl⟩;walk_at "d";exact q
    ·walk_at "d";walk_at "n";refine zR (fun i δ S=>∃ (u8 u9:Option XV),S=[]/\(0<i->u9=some (.d (zad z)))/\δ=[some (.d (.tuple [zcv ps,zcf gs])),some (.d (zad ns)),some (.d (.tuple (tr.map zgV))),some (.d (.int (zU (szT tr):Nat))),u,u5,u6,some (.d (zad z)),u8,u9]) ⟨none,none,rfl,fun h=>absurd h dz,rfl⟩ ?_ ?_
     ·rintro i d _ _ N hi ⟨u8,u9,rfl,_,rfl⟩ hN;walk_at "d"
      walk_at "n"
      refine zch hT (by omega) h0 h1 hg gl (fun hn=>?_) fun pre b post e hp hq=>?_
      ·rw [hn] at mz;cases mz
      ·obtain rfl:=zoj e hp hq mz hz;walk_at "d"
       walk_at "n"
       have sh:=zlp z;have eq:=SeqAt.eqv_refl _ (SeqAt.canLay_of_shaped sh);have fin:N [some (.d (.tuple [zcv ps,zcf gs])),some (.d (zad ns)),some (.d (.tuple (tr.map zgV))),some (.d (.int (zU (szT tr):Nat))),u,u5,u6,some (.d (zad z)),some (.d d),some (.d (zad z))] []:=hN _ _ ⟨_,_,rfl,fun _=>rfl,rfl⟩;rw [show zad z=PyData.tuple (z.map PyData.int) from rfl] at sh eq fin ⊢;walk_at "d";refine⟨sh,sh,?_⟩;rw [if_neg (by rw [eq]; decide)];exact fin
     ·rintro _ _ ⟨u8,u9,rfl,h9,rfl⟩;obtain rfl:=h9 (by rw [zah]; decide);walk_at "d";rw [if_neg (fun h=>by cases (show false=true from h))];refine⟨z.map PyData.int,rfl,?_⟩;have zl:z.length<=8:=by rw [(zdo (zoB.mp mz).1).2]; exact h8
      refine cmp1 (S0:=[]) (fun _=>PyData.bool true) rfl z (by omega) ?_ ?_
      ·intro x mx u acc R' hk;walk_at "d";refine zcK ?_;walk_at "d";exact hk _
      ·refine⟨[],_,rfl,rfl,z.map fun _=>true,by rw [map_map]; rfl,?_⟩;have:(z.map fun _=>true).all id=true:=by simp
       rw [this];exact q
   ·rw [if_pos (by omega)];exact q
end
def bN(k:Int):Str:=PySem.Txt.mul "b" (k+1)
theorem zjn(a:Addr)(n:Int):zqY (zuT a 10) ((some (.o (.ref a)) :: List.replicate 10 none).set 2 (some (.d (.int n)))) []:=by
 unfold zqY;walk_at "d"
 walk_at "n"
 refine zhK fun p hp=>?_;walk_at "d"
 walk_at "n"
 refine zhn hp dz dz fun ps p1 hd hsz hp1=>?_;have l8:=hd.l8;walk_at "d"
 walk_at "n"
 refine zfQ hp1 hd fun tr p2 ht hp2=>?_;walk_at "d";refine cut (fun δ S=>∃ (tr:List (List Trm)),TrC ps.length tr/\S=[p2]/\δ=[some (.o (.ref a)),none,some (.d (.int n)),some (.l 0),some (.d (zcv ps)),some (.d (zb2 tr)),none,none,none,none,none]) (fun N hN=>?_) ?_
 ·unfold zcv;walk_at "d";have tl:=ht.len;by_cases h4:4<ps.length
  ·rw [if_pos (by omega)];unfold zb2;walk_at "d";refine cmp1 (S0:=[p2]) (fun l:List Trm=>zgV (l.take 1)) rfl tr (by omega) ?_ ?_
   ·intro l ml u acc R' hk;rw [zbW];walk_at "d";rw [show (some 1:Option Int)=some ((1:Nat):Int) from rfl,zfs,<- List.map_take];exact hk _
   refine⟨[p2],_,rfl,rfl,hN _ _ ⟨tr.map (·.take 1),⟨⟨by simpa using tl,fun l ml=>?_,l8⟩,?_⟩,rfl,?_⟩⟩
   ·obtain⟨l',_,rfl⟩:=mem_map.mp ml;rw [length_take];omega
   ·refine le_trans (zj3 fun s m=>?_) ?_
    ·unfold szT at m;rw [map_map] at m;obtain⟨l',_,rfl⟩:=mem_map.mp m;simp only [Function.comp,length_take];omega
    ·have:(szT (tr.map (·.take 1))).length<=8:=by simp [szT]; omega
     exact le_trans (Nat.pow_le_pow_right dz this) dz
   ·unfold zcv zb2;rw [map_map];rfl
  ·rw [if_neg (by omega)];refine hN _ _ ⟨tr,⟨ht,?_⟩,rfl,rfl⟩;refine le_trans (zks (zeg ht).2) ?_;have:(szT tr).length<=4:=by simp [szT]; omega
   exact le_trans (Nat.pow_le_pow_right dz this) dz
 rintro _ _ ⟨tr,ht,rfl,rfl⟩;have tl:=ht.len
 walk_at "n"
 refine zla hp2 hd fun ns p3 hns hp3=>?_;walk_at "d"
 walk_at "n"
 have nl:ns.length=tr.length:=by rw [hns.len,tl]
 refine zhe hp3 hd ht nl fun gs p4 hgs g1 g3 hp4=>?_;walk_at "d"
 walk_at "n"
 refine⟨by simp,by decide,?_⟩
 walk_at "n"
 refine cmp1 (S0:=[p4]) (h:=PyData.int) (fun k:Int=>PyData.tuple [.str (bN k),.int 0,.int 9]) rfl [0,1,2,3,4,5] (by simp) ?_ ?_
 ·intro x mx u acc R' hk;walk_at "d";have hx:0<=x/\x<=5:=by
   simp only [mem_cons,not_mem_nil,or_false] at mx;omega
  exact⟨by decide,by omega,by omega,hk _⟩
 refine⟨[p4],_,rfl,rfl,?_⟩
 walk_at "n"
 refine zbk ht.toTrs (.inl ht.few) tl.symm nl hgs (by omega) ?_;walk_at "d"
 walk_at "n"
 refine zv hp4 dz (by decide +kernel) fun r p5 r0 r1 hp5=>?_;walk_at "d";refine⟨by simp,by omega,by omega,by omega,?_⟩;have hG:∀ n:Nat,1<=n->GsT n [⟨[(0,1)],0,9⟩]:=fun n n1=>⟨fun g m=>by rw [mem_singleton.mp m]; exact⟨by decide,fun t mt=>by rw [mem_singleton.mp mt]; exact⟨n1,by decide,by decide⟩⟩,fun g m=>by rw [mem_singleton.mp m]; decide⟩;have h01:r=0\/r=1:=by omega
 rcases h01 with rfl | rfl
 ·rw [show ((5:Int)+0)=((5:Nat):Int) from rfl,zfs,zfs];refine zbk (n:=5) (ps:=[(bN 0,0,9),(bN 1,0,9),(bN 2,0,9),(bN 3,0,9),(bN 4,0,9)]) (gs:=[⟨[(0,1)],0,9⟩]) (ns:=[9,9,9,9,9]) (tr:=[[(1,1),(2,2),(3,3)],[(1,1),(2,2),(3,3)],[(1,1),(2,2),(3,3)],[(1,1),(2,2),(3,3)],[]]) ⟨rfl,fun l m=>?_,by decide⟩ (.inl dz) rfl rfl (hG 5 dz) dz ?_
  ·simp only [mem_cons,not_mem_nil,or_false] at m;rcases m with rfl | rfl | rfl | rfl | rfl <;> decide
  ·walk_at "d"
 ·rw [show ((5:Int)+1)=((6:Nat):Int) from rfl,zfs,zfs];refine zbk (n:=6) (ps:=[(bN 0,0,9),(bN 1,0,9),(bN 2,0,9),(bN 3,0,9),(bN 4,0,9),(bN 5,0,9)]) (gs:=[⟨[(0,1)],0,9⟩]) (ns:=[9,9,9,9,9,9]) (tr:=[[(1,1),(2,2),(3,3)],[(1,1),(2,2),(3,3)],[(1,1),(2,2),(3,3)],[(1,1),(2,2),(3,3)],[],[(1,1)]]) ⟨rfl,fun l m=>?_,by decide⟩ (.inr dz) rfl rfl (hG 6 dz) dz ?_
  ·simp only [mem_cons,not_mem_nil,or_false] at m;rcases m with rfl | rfl | rfl | rfl | rfl | rfl <;> decide
  ·walk_at "d"
theorem zk8(a:Addr):zi8 (zud a 10) (some (.o (.ref a)) :: List.replicate 10 none) []:=by
 have hg:GsT 1 [⟨[(0,1)],0,0⟩]:=⟨fun g m=>by rw [mem_singleton.mp m]; exact⟨by decide,fun t mt=>by rw [mem_singleton.mp mt]; decide⟩,fun g m=>by rw [mem_singleton.mp m]; decide⟩;unfold zi8;walk_at "d"
 walk_at "n"
 refine zbk (n:=1) (ps:=[("a",0,2)]) (gs:=[⟨[(0,1)],0,0⟩]) (ns:=[2]) (tr:=[[(1,1),(2,9)]]) ⟨rfl,fun l m=>by rw [mem_singleton.mp m]; decide,by decide⟩ (.inl dz) rfl rfl hg dz ?_;walk_at "d";refine zbk (n:=1) (ps:=[("a",0,2)]) (gs:=[⟨[(0,1)],0,0⟩]) (ns:=[2]) (tr:=[[]]) ⟨rfl,fun l m=>by rw [mem_singleton.mp m]; decide,by decide⟩ (.inl dz) rfl rfl hg dz ?_;walk_at "d"
end
end My
namespace My
open PySem L2
def top (i : Nat) : Stmt := PySem.Challenge.pw_gaugewright_k67_filings_gone_through.main.body.getD i (.Pass ⟨0, 0, 0, 0⟩)
abbrev zd2:Stmt:=top 48
theorem zgm:FnScope ["script","k"] ["script","k"] (zg zd2):=fsd
abbrev zeX:Stmt:=top 50
theorem zdX:FnScope ["cell","left"] ["cell"] (zg zeX):=fsd
abbrev zgz:Stmt:=top 49
theorem zfj:FnScope ["seed"] ["seed"] (zg zgz):=fsd
abbrev zgA:Stmt:=top 51
theorem zft:FnScope ["pen","many","found"] ["pen","many"] (zg zgA):=fsd
abbrev zbh:Stmt:=top 54
theorem zQ:FnScope ["pen","letters","way","first","names","word","at"] ["pen"] (zg zbh):=fsd
abbrev zdg:Stmt:=top 53
theorem zc3:FnScope ["pen","way"] ["pen"] (zg zdg):=fsd
abbrev zfy:Stmt:=top 55
theorem zbI:FnScope ["pen","most","names","wides","drawing","k","low"] ["pen","most"] (zg zfy):=fsd
abbrev zdG:Stmt:=top 59
theorem zY:FnScope ["pen","drawing","found","part","row","much","price","k"] ["pen","drawing"] (zg zdG):=fsd
abbrev zib:Stmt:=top 57
theorem zb3:FnScope ["pen","drawing","one","name","low","high","some"] ["pen","drawing"] (zg zib):=fsd
abbrev zdH:Stmt:=top 56
theorem za0:FnScope ["pen","drawing","some","terms","part"] ["pen","drawing"] (zg zdH):=fsd
abbrev zcQ:Stmt:=top 62
theorem zaS:FnScope ["trims","found","one","rows","ahead"] ["trims"] (zg zcQ):=fsd
abbrev zfT:Stmt:=top 60
theorem zdm:FnScope ["built","trims","filing","left","part"] ["built","trims","filing"] (zg zfT):=fsd
abbrev zga:Stmt:=top 58
theorem zbR:FnScope ["gap","one","total","part","times"] ["gap","one"] (zg zga):=fsd
abbrev zeT:Stmt:=top 63
theorem zaH:FnScope ["pen","drawing","built","trims","gaps","k","terms","some","left","low"] ["pen","drawing","built","trims"] (zg zeT):=fsd
abbrev zeM:Stmt:=top 64
theorem zjb:FnScope ["gaps","left"] ["gaps","left"] (zg zeM):=fsd
abbrev zcu:Stmt:=top 61
theorem zbu:FnScope ["trims","filing","total","part"] ["trims","filing"] (zg zcu):=fsd
abbrev zeZ:Stmt:=top 66
theorem zcR:FnScope ["gaps","built","trims","good","filing"] ["gaps","built","trims"] (zg zeZ):=fsd
abbrev zeA:Stmt:=top 29
theorem zjj:FnScope ["offers"] ["offers"] (zg zeA):=fsd
abbrev zc1:Stmt:=top 33
theorem zba:FnScope ["sizes","beginning","many","size"] ["sizes","beginning"] (zg zc1):=fsd
abbrev zcC:Stmt:=top 32
theorem zaV:FnScope ["sizes","many"] ["sizes"] (zg zcC):=fsd
abbrev zcV:Stmt:=top 18
theorem zco:FnScope ["beginnings","numbers","longer","beginning"] ["beginnings","numbers"] (zg zcV):=fsd
abbrev zcW:Stmt:=top 35
theorem zaz:FnScope ["sizes","why_of","rows","left","beginning","why"] ["sizes","why_of"] (zg zcW):=fsd
abbrev zf2:Stmt:=top 39
theorem zk3:FnScope ["trims"] ["trims"] (zg zf2):=fsd
abbrev zcP:Stmt:=top 40
theorem zgu:FnScope ["trims","filing"] ["trims","filing"] (zg zcP):=fsd
abbrev zjt:Stmt:=top 41
theorem zoJ:FnScope ["built","trims","filing"] ["built","trims","filing"] (zg zjt):=fsd
abbrev zaX:Stmt:=top 46
theorem zaL:FnScope ["drawing","built","trims","beginning","spans","number","ways"] ["drawing","built","trims","beginning"] (zg zaX):=fsd
abbrev zcq:Stmt:=top 42
theorem zfk:FnScope ["trims","filing"] ["trims","filing"] (zg zcq):=fsd
abbrev zo9:Stmt:=top 14
theorem zjm:FnScope ["one","other","low","high"] ["one","other"] (zg zo9):=fsd
abbrev zpZ:Stmt:=top 13
theorem zq2:FnScope ["one","other"] ["one","other"] (zg zpZ):=fsd
abbrev ze0:Stmt:=top 15
theorem zeh:FnScope ["one","by","ends"] ["one","by"] (zg ze0):=fsd
abbrev ziJ:Stmt:=top 17
theorem zk2:FnScope ["part"] ["part"] (zg ziJ):=fsd
abbrev zcY:Stmt:=top 25
theorem zaA:FnScope ["drawing","terms","ends","part","times"] ["drawing","terms"] (zg zcY):=fsd
abbrev znp:Stmt:=top 24
theorem zox:FnScope ["drawing","gap"] ["drawing","gap"] (zg znp):=fsd
abbrev zfi:Stmt:=top 20
theorem zin:FnScope ["gap"] ["gap"] (zg zfi):=fsd
abbrev zkv:Stmt:=top 37
theorem zlL:FnScope ["drawing","gap"] ["drawing","gap"] (zg zkv):=fsd
abbrev zdn:Stmt:=top 45
theorem zbo:FnScope ["job","built","trims","price","beginning","left","number","gap"] ["job","built","trims","price","beginning"] (zg zdn):=fsd
abbrev zfd:Stmt:=top 44
theorem zid:FnScope ["job","built","trims","price","sizes"] ["job","built","trims","price"] (zg zfd):=fsd
abbrev zd4:Stmt:=top 34
theorem zbM:FnScope ["sizes","choices","size"] ["sizes"] (zg zd4):=fsd
abbrev zeB:Stmt:=top 21
theorem zjd:FnScope ["gap","one"] ["gap","one"] (zg zeB):=fsd
abbrev zmT:Stmt:=top 22
theorem zn4:FnScope ["gap","one"] ["gap","one"] (zg zmT):=fsd
abbrev zdQ:Stmt:=top 27
theorem ziQ:FnScope ["gaps","one"] ["gaps","one"] (zg zdQ):=fsd
abbrev zao:Stmt:=top 43
theorem zak:FnScope ["job","built","trims","sizes","found"] ["job","built","trims"] (zg zao):=fsd
abbrev zgE:Stmt:=top 65
theorem zca:FnScope ["e","marks","words"] ["e"] (zg zgE):=fsd
abbrev zfN:Stmt:=top 52
theorem zeS:FnScope ["found"] ["found"] (zg zfN):=fsd
abbrev zfS:Stmt:=top 67
theorem zeQ:FnScope ["way","job","built","trims","e"] ["way","job","built","trims"] (zg zfS):=fsd
abbrev zdW:Stmt:=top 68
theorem zav:FnScope ["job","built","trims","every","one","way","told","due","turn","found"] ["job","built","trims"] (zg zdW):=fsd
abbrev s_law:Stmt:=top 69
theorem zcZ:FnScope ["script","job","cell","pen","drawing","trims","built","gaps","great","wide","many"] ["script"] (zg s_law):=fsd
abbrev s_I_TooGreat:Stmt:=zqJ (top 11) 0
theorem zhI:FnScope ["self","many","most"] ["self","many","most"] (zg s_I_TooGreat):=fsc (by decide +kernel)
structure Txt(mg:Str->Option Value):Prop where
 n_len:mg "len" = none
 n_tuple:mg "tuple" = none
 n_range:mg "range" = none
 n_max:mg "max" = none
 n_int:mg "int" = none
 n_min:mg "min" = none
 n_list:mg "list" = none
 n_all:mg "all" = none
 n_zip:mg "zip" = none
 n_sum:mg "sum" = none
 n_enumerate:mg "enumerate" = none
 n_isinstance:mg "isinstance" = none
 n_ValueError:mg "ValueError" = none
 n_bool:mg "bool" = none
 g_MOST_CHOICES:∃ t,mg "MOST_CHOICES" = some (.int 300 t)
structure Dds(K:W.Frag)(mg:Str->Option Value):Prop where
 a0:Dd K mg "_law_cell_at" zd2 ["script","k"]
 a1:Dd K mg "_law_pen_of" zeX ["cell"]
 a2:Dd K mg "_law_next" zgz ["seed"]
 a3:Dd K mg "_law_draw" zgA ["pen","many"]
 a4:Dd K mg "_law_names_of" zbh ["pen"]
 a5:Dd K mg "_law_number_of" zdg ["pen"]
 a6:Dd K mg "_law_few" zfy ["pen","most"]
 a7:Dd K mg "_law_trims_of" zdG ["pen","drawing"]
 a8:Dd K mg "_law_set" zib ["pen","drawing"]
 a9:Dd K mg "_law_terms_of" zdH ["pen","drawing"]
 a10:Dd K mg "_law_filings" zcQ ["trims"]
 a11:Dd K mg "_law_filed" zfT ["built","trims","filing"]
 a12:Dd K mg "_law_worth" zga ["gap","one"]
 a13:Dd K mg "_law_wanted" zeT ["pen","drawing","built","trims"]
 a14:Dd K mg "_law_does" zeM ["gaps","left"]
 a15:Dd K mg "_law_price_of" zcu ["trims","filing"]
 a16:Dd K mg "_law_due_of" zeZ ["gaps","built","trims"]
 a17:Dd K mg "sizes_of" zeA ["offers"]
 a18:Dd K mg "choices_behind" zc1 ["sizes","beginning"]
 a19:Dd K mg "refuse_too_many" zcC ["sizes"]
 a20:Dd K mg "each_longer" zcV ["beginnings","numbers"]
 a21:Dd K mg "rows_with_whys" zcW ["sizes","why_of"]
 a22:Dd K mg "ways_of" zf2 ["trims"]
 a23:Dd K mg "chosen_ways" zcP ["trims","filing"]
 a24:Dd K mg "filed" zjt ["built","trims","filing"]
 a25:Dd K mg "what_may_be_left" zaX ["drawing","built","trims","beginning"]
 a26:Dd K mg "filing_price" zcq ["trims","filing"]
 a27:Dd K mg "meet" zo9 ["one","other"]
 a28:Dd K mg "plus" zpZ ["one","other"]
 a29:Dd K mg "multiplied" ze0 ["one","by"]
 a30:Dd K mg "span_of" ziJ ["part"]
 a31:Dd K mg "reach_of_terms" zcY ["drawing","terms"]
 a32:Dd K mg "reach" znp ["drawing","gap"]
 a33:Dd K mg "wanted_of" zfi ["gap"]
 a34:Dd K mg "misses" zkv ["drawing","gap"]
 a35:Dd K mg "why_no_filing" zdn ["job","built","trims","price","beginning"]
 a36:Dd K mg "bar_of" zfd ["job","built","trims","price"]
 a37:Dd K mg "all_choices" zd4 ["sizes"]
 a38:Dd K mg "worth_of" zeB ["gap","one"]
 a39:Dd K mg "keeps" zmT ["gap","one"]
 a40:Dd K mg "kept_gaps" zdQ ["gaps","one"]
 a41:Dd K mg "cheapest_filing" zao ["job","built","trims"]
 a42:Dd K mg "_law_kind" zgE ["e"]
 a43:Dd K mg "_law_whole" zfN ["found"]
 a44:Dd K mg "_law_tried" zfS ["way","job","built","trims"]
 a45:Dd K mg "_law_right" zdW ["job","built","trims"]
structure Exx(K:W.Frag)(mg:Str->Option Value):Prop where
 ex:Exs K
 m_GaugeError:mg "GaugeError" = some (.ref 24)
 m_NoSpan:mg "NoSpan" = some (.ref 37)
 m_NoPart:mg "NoPart" = some (.ref 49)
 m_NoSet:mg "NoSet" = some (.ref 61)
 m_NoRow:mg "NoRow" = some (.ref 73)
 m_Unlike:mg "Unlike" = some (.ref 85)
 m_NoDrawing:mg "NoDrawing" = some (.ref 104)
 m_NoGap:mg "NoGap" = some (.ref 123)
 m_NoOffer:mg "NoOffer" = some (.ref 142)
 m_NoText:mg "NoText" = some (.ref 161)
 m_TooGreat:mg "TooGreat" = some (.ref 180)
 c_GaugeError:ExCls K 24 none
 c_NoSpan:ExCls K 37 none
 c_NoPart:ExCls K 49 none
 c_NoSet:ExCls K 61 none
 c_NoRow:ExCls K 73 none
 c_Unlike:ExCls K 85 none
 r_TooGreat:XI K 180 ["many","most"] "TooGreat.__init__" s_I_TooGreat
 a_many:ExsI K [180] "many"
 a_most:ExsI K [180] "most"
structure Lams(K:W.Frag)(mg:Str->Option Value):Prop where
 l_bar_of:∃ c P,CodeAt K mg "bar_of" c/\((c,P),L2.lamKey (("bar_of" ++ ".<locals>.") ++ "<lambda>") ⟨123,33,0,0⟩)∈L2.tabsG
 l_cheapest_filing:∃ c P,CodeAt K mg "cheapest_filing" c/\((c,P),L2.lamKey (("cheapest_filing" ++ ".<locals>.") ++ "<lambda>") ⟨119,26,0,0⟩)∈L2.tabsG
section
variable {P:Program} {w:World} {K:W.Frag} {mg:Str->Option Value} {base:Heap}
theorem zlr{f:Addr}{fd:FuncData}(F:Fun K "__init__" "TooGreat.__init__" s_I_TooGreat f fd):FnOk P w K mg base CX0 1 f fd ["self","many","most"] (spI K ["many","most"]):=F.ok zhI zqx fun cdv A outer s H vs Q E hr h=>⟨_,(zf (zni (pv 0) (pv 1) rfl) (zm (zni (pv 0) (pv 2) rfl))),init2 dz h⟩
local macro_rules | `(tactic| walk_at "r")=>`(tactic| repeat' (first | with_reducible (first | refine zd ?_ ?_ | refine zk | refine zo | refine zy | refine zw | refine zax ?_ ?_ | refine zK ?_ ?_ | refine zc5 | refine zaD ?_ | refine zK | refine zM ?_ | refine zaa ?_ ?_ | refine zci ?_ ?_ | refine zbz | refine zc2 | refine zcs | refine zfM ?_ ?_ ?_ | refine zd | refine zik ?_ | refine zgX ?_ ?_ ?_ | refine znY | refine zhE | refine zqQ ?_ | refine zaD | refine zuX | refine zrg | refine zax | refine ztG ?_ ?_ | refine zuY | refine zqN | refine zg7 ?_ | refine zdu | refine zbS ?_ | refine zf5 | refine zbt ?_ ?_ | refine zc0 | refine zn2 ?_ ?_ ?_ | refine zmA | refine zpe | refine zcO ?_ | refine zld | refine zmd ?_ ?_ ?_ ?_ | refine zfJ ?_ | refine zfD | refine zcB ?_ | refine ztV | refine zgW ?_ | refine zey | refine zpw | refine zgX | refine zmF | refine zjV | refine zsN ?_ ?_ | refine ztT | refine zs8 ?_ ?_ | refine zfM | refine zfH | refine zq0 ?_ | refine zoY ?_ | refine zik | refine zsU | refine zdc ?_ | refine zta ?_ ?_ | refine zg7 | refine zn2 | refine ziT | refine zmG | refine zmK | refine zhU ?_ ?_ | refine zfA | refine zg2 | refine zqr | refine zpp | refine zqj | refine zkH | refine znn | refine zqW | refine znN | refine zoq ?_ ?_ | refine zrR | refine zov ?_ ?_ | refine zn0 ?_ | refine zq5 ?_ | refine ztN ?_ ?_ ?_ | refine zqI | refine zto | refine zoE ?_ | refine zoL ?_ | refine zjP ?_ ?_ ?_ ?_ ?_ | refine zhU | refine zdc | refine zcB | refine ztg ?_ ?_ | refine zsf ?_ | refine zsx | refine zaf ?_ ?_ ?_ | refine zbH ?_ ?_ | refine zqA ?_ | refine zbH | refine zaf | refine zqA) | rfl))
theorem zhG(T:Txt mg:=by assumption)(dd:Dds K mg:=by assumption):Df P w K mg base "_law_cell_at" ["script","k"] 1 (sp2 (zqi K)):=by
 refine Df.of2 dd.a0 zgm (fun v u=>[some v,some u]) (fun _ _=>rfl) fun f cdv A outer s H v u Q E hr h=>?_;obtain⟨a,ns,i,rfl,rfl,hS,h0,q⟩:=h;refine⟨_,(zf (zbD (zV zp5 (pv 1) (zt zl1 (by rfl) T.n_len zbG (za (pv 0) zc)) (nomark _)) (zm (zD (zN zmn (pv 0) (pv 1) (fun _ _=>rfl)))) zab) (zm (zD ze))),?_⟩;simp only [zi3,zqg,zqp,tOp,zor,tCB,ze7,zqf,zty,tC,zrk,znw,getElem?_cons_zero,getElem?_cons_succ];refine⟨a,_,rfl,.inl hS,?_⟩;simp only [znw,ztE,decide_eq_true_eq];refine ite2 (fun hi=>?_) (fun _=>q 0);obtain⟨n,e⟩:=zqF h0 hi;exact⟨a,_,i,_,rfl,rfl,hS,e,q n⟩
variable (T:Txt mg:=by assumption) (dd:Dds K mg:=by assumption) (xx:Exx K mg:=by assumption) (ll:Lams K mg:=by assumption)
include T dd xx ll
theorem zih:Df P w K mg base "_law_pen_of" ["cell"] 1 (spN ["cell"] zck):=by
 exact Df.dN dd.a1 zdX 1 rfl fun f cdv A outer s H E hr=>⟨_,_,(zf (zu (i:=1) zdX.nd rfl lo (zt (zfB rfl) (by rfl) T.n_max zkA (za (pv 0) (za (zF zcj ze (pv 0)) zc)))) (zm (zD (zae (za (pv 1) (za (zau zl9 (by rfl) T.n_int znD (za (zjw zrX (pv 1) (zF zgG ze ze) (nomark _)) zc)) (za (zF zed (pv 1) ze) zc))))))),(by walk_at "r"),fun xs S R q=>q⟩
theorem zgT:Df P w K mg base "_law_next" ["seed"] 1 (spN ["seed"] zcx):=by
 exact Df.dN dd.a2 zfj 0 rfl fun f cdv A outer s H E hr=>⟨_,_,(zf (zu (i:=0) zfj.nd rfl lo (zF zed (zF zH (pv 0) ze) ze)) (zm (zD (zF zed (zF zH (zF zH (zF zaY (pv 0) (pv 0)) (zF zaY ze (pv 0))) ze) ze)))),(by walk_at "r"),fun xs S R q=>q⟩
theorem zA:Df P w K mg base "_law_draw" ["pen","many"] 2 (spN ["pen","many"] zp):=by
 exact Df.dN dd.a3 zft 1 rfl fun f cdv A outer s H E hr=>⟨_,_,(zf (zbD (zV (zd8 hr.units) (zN zB (pv 0) ze (fun _ _=>rfl)) ze (nomark _)) (zf (zu (i:=2) zft.nd rfl lo (zF zed (zN zB (pv 0) ze (fun _ _=>rfl)) (pv 1))) (zf (zlF (zF zlV (zN zB (pv 0) ze (fun _ _=>rfl)) (pv 1)) (zm0 (pv 0) ze zhy)) (zm (zD (pv 2))))) zab) (zf (zlF (zq zgT hr dz (za (zF zH (zq zgT hr dz (za (zN zB (pv 0) ze (fun _ _=>rfl)) zc)) ze) zc)) (zm0 (pv 0) ze zhy)) (zm (zD (zF zed (zF zlV (zN zB (pv 0) ze (fun _ _=>rfl)) ze) (pv 1)))))),(by walk_at "r"),fun xs S R q=>q⟩
theorem zgi:Df P w K mg base "_law_names_of" ["pen"] 3 (spN ["pen"] zbg):=by
 exact Df.dN dd.a4 zQ 6 rfl fun f cdv A outer s H E hr=>⟨_,_,(zf (zu (i:=1) zQ.nd rfl (Or.inr rfl) zas) (zf (zu (i:=2) zQ.nd rfl lo (zq zA hr dz (za (pv 0) (za ze zc)))) (zf (zu (i:=3) zQ.nd rfl (Or.inr rfl) (zq zA hr dz (za (pv 0) (za ze zc)))) (zf (zeJ (i:=4) (fun _ _ h=>h) rfl (zL rfl rfl rfl rfl (N:=["k","letters","first"]) (caps:=[none,some 1,some 3]) (by show zaU ["pen","letters","way","first","names","word","at"] (zg zbh).names _ _ _=true; decide +kernel)) zQ.nd rfl rfl (zaj rfl T.n_range (za ze zc)) (fun _ _ _ _=>(zx (i:=0) (by show List.Nodup (["k","letters","first"]:List Str); decide) rfl (Or.inl rfl))) (fun _ _ _ _=>zaB) (fun _ _ _ _=>(zF zaY (zN zB (pv 1) (zF zed (zF zH (pv 2) (zF zaY ze (pv 0))) ze) (fun _ _=>rfl)) (zF zH ze (zF zed (zF zH (pv 2) (zF zaY ze (pv 0))) ze))))) (zf (zbD (zV (zd8 hr.units) (pv 2) ze (nomark _)) (zf (zu (i:=5) zQ.nd rfl (Or.inr rfl) (zdS PySem.F.plainAttrs_str PySem.F.slot_str_join PySem.F.type_str_join zqq zas (za (zbe (fun _ _ h=>h) rfl (zL rfl rfl rfl rfl (N:=["k","letters","first"]) (caps:=[none,some 1,some 3]) (by show zaU ["pen","letters","way","first","names","word","at"] (zg zbh).names _ _ _=true; decide +kernel)) (zaj rfl T.n_range (za ze zc)) (fun _ _ _ _=>(zx (i:=0) (by show List.Nodup (["k","letters","first"]:List Str); decide) rfl (Or.inl rfl))) (fun _ _ _ _=>zaB) (fun _ _ _ _=>(zN zB (pv 1) (zF zed (zF zH (pv 2) (zF zaY ze (pv 0))) ze) (fun _ _=>rfl)))) zc))) (zm (zeJ (i:=4) (fun _ _ h=>h) rfl (zL rfl rfl rfl rfl (N:=["k","word"]) (caps:=[none,some 5]) (by show zaU ["pen","letters","way","first","names","word","at"] (zg zbh).names _ _ _=true; decide +kernel)) zQ.nd rfl rfl (zaj rfl T.n_range (za ze zc)) (fun _ _ _ _=>(zx (i:=0) (by show List.Nodup (["k","word"]:List Str); decide) rfl (Or.inl rfl))) (fun _ _ _ _=>zaB) (fun _ _ _ _=>(zbY ziX (pv 1) zdl (zcp (zF zH (pv 0) ze))))))) zab) (zf (zbD (zV (zd8 hr.units) (pv 2) ze (nomark _)) (zm (zu (i:=4) zQ.nd rfl lo (zae (za zas (za zas (za zas (za zas (za zas (za zas (za zas (za zas zc))))))))))) zab) (zf (zu (i:=6) zQ.nd rfl lo (zq zA hr dz (za (pv 0) (za ze zc)))) (zf (zu (i:=4) zQ.nd rfl lo (zF zl3 (zbY ziX (pv 4) (zcp (pv 6)) zdl) (zbY ziX (pv 4) zdl (zcp (pv 6))))) (zf (zbD (zV (zd8 hr.units) (zq zA hr dz (za (pv 0) (za ze zc))) ze (nomark _)) (zm (zbd (zpf PySem.F.plainAttrs_list PySem.F.slot_list_reverse PySem.F.type_list_reverse zkP (pv 4)))) zab) (zm (zD (pv 4)))))))))))),(zK (zax zc2 zw) (zK (by walk_at "r") (zK (by walk_at "r") (zK (zax (zdy (zcO (zd zy zo)) zw zaC (zaf zf5 (zaf zc5 zk (zaf zqN (zaf zbz zk (zaf zf5 zy zk)) zy)) (zaf zbz zy (zaf zqN (zaf zbz zk (zaf zf5 zy zk)) zy)))) zw) (zK (zfM (by walk_at "r") (zK (zax (zpp zof zc2 (zd (zbf (zcO (zd zy zo)) zw zaC (zaf zc5 zk (zaf zqN (zaf zbz zk (zaf zf5 zy zk)) zy))) zo)) zw) (zax (zdy (zcO (zd zy zo)) zw zaC (zmd zpw zk zfD (zfJ (zaf zbz zk zy)))) zw)) zcs) (by walk_at "r")))))),fun xs S R q=>q⟩
theorem zgd:Df P w K mg base "_law_number_of" ["pen"] 3 (spN ["pen"] zaZ):=by
 exact Df.dN dd.a5 zc3 1 rfl fun f cdv A outer s H E hr=>⟨_,_,(zf (zu (i:=1) zc3.nd rfl lo (zq zA hr dz (za (pv 0) (za ze zc)))) (zf (zbD (zV zp5 (pv 1) ze (nomark _)) (zm (zD (zF zcj (zq zA hr dz (za (pv 0) (za ze zc))) ze))) zab) (zf (zbD (zV zp5 (pv 1) ze (nomark _)) (zm (zD (zF zcj (zq zA hr dz (za (pv 0) (za ze zc))) ze))) zab) (zm (zD (zF zaY (zF zcj (zq zA hr dz (za (pv 0) (za (zF zaY ze (zF zgG ze ze)) zc))) (zF zgG ze ze)) (zF zgG ze ze))))))),(by walk_at "r"),fun xs S R q=>q⟩
theorem zmP:Df P w K mg base "_law_few" ["pen","most"] 4 (spN ["pen","most"] zdk):=by
 exact Df.dN dd.a6 zbI 5 rfl fun f cdv A outer s H E hr=>⟨_,_,(zf (zu (i:=2) zbI.nd rfl lo (zq zgi hr dz (za (pv 0) zc))) (zf (zeJ (i:=3) (fun _ _ h=>h) rfl (zL rfl rfl rfl rfl (N:=["k","pen"]) (caps:=[none,some 0]) (by show zaU ["pen","most","names","wides","drawing","k","low"] (zg zfy).names _ _ _=true; decide +kernel)) zbI.nd rfl rfl (zaj rfl T.n_range (za (zF zH ze (zq zA hr dz (za (pv 0) (za (pv 1) zc)))) zc)) (fun _ _ _ _=>(zx (i:=0) (by show List.Nodup (["k","pen"]:List Str); decide) rfl (Or.inl rfl))) (fun _ _ _ _=>zaB) (fun _ _ _ _=>(zF zH ze (zq zA hr dz (za (pv 1) (za ze zc)))))) (zf (zbD (zV (zd8 hr.units) (zq zA hr dz (za (pv 0) (za ze zc))) ze (nomark _)) (zm (zu (i:=3) zbI.nd rfl lo (zN zB (zae (za (zF zaY (zae (za ze zc)) ze) (za (zae (za ze (za ze zc))) (za (zae (za ze zc)) (za (zF zaY (zae (za ze zc)) ze) zc))))) (zq zA hr dz (za (pv 0) (za ze zc))) (fun _ _=>rfl)))) zab) (zf (zu (i:=4) zbI.nd rfl lo (zae zc)) (zf (zbc PassesOwn.never rfl (zaj rfl T.n_range (za (zt zai (by rfl) T.n_len zbG (za (pv 3) zc)) zc)) (zx (i:=5) zbI.nd rfl (Or.inl rfl)) (zf (zu (i:=6) zbI.nd rfl lo (zq zgd hr dz (za (pv 0) zc))) (zm (zbd (zdS PySem.F.plainAttrs_list PySem.F.slot_list_append PySem.F.type_list_append zbl (pv 4) (za (zW (za (zN zB (pv 2) (pv 5) (fun _ _=>rfl)) (za (pv 6) (za (zF zcj (zF zH (pv 6) (zN zB (pv 3) (pv 5) (fun _ _=>rfl))) ze) zc)))) zc)))))) (zm (zD (zau zS (by rfl) T.n_tuple za3 (za (pv 4) zc))))))))),(zK (by walk_at "r") (zK (zax (zbf (zcO (zd (zaf zbz zy (zci (i:=0) (zd zk (zd zk zo)))) zo)) zw zaC (zaf zbz zy (zci (i:=0) (zd zk (zd zy zo))))) zw) (by walk_at "r"))),fun xs S R q=>q⟩
theorem zgl:Df P w K mg base "_law_trims_of" ["pen","drawing"] 3 (spN ["pen","drawing"] zbO):=by
 exact Df.dN dd.a7 zY 6 rfl fun f cdv A outer s H E hr=>⟨_,_,(zf (zu (i:=2) zY.nd rfl lo (zae zc)) (zf (zbc PassesOwn.never rfl (zaQ (pv 1)) (zx (i:=3) zY.nd rfl (Or.inl rfl)) (zf (zu (i:=4) zY.nd rfl lo (zae zc)) (zf (zu (i:=5) zY.nd rfl lo ze) (zf (zu (i:=6) zY.nd rfl lo ze) (zf (zbc PassesOwn.never rfl (zaj rfl T.n_range (za (zq zA hr dz (za (pv 0) (za ze zc))) zc)) (zx (i:=7) zY.nd rfl (Or.inl rfl)) (zf (zu (i:=5) zY.nd rfl lo (zF zH (zF zH (pv 5) ze) (zq zA hr dz (za (pv 0) (za (zN zB (zae (za ze (za ze (za ze (za (zF zgG ze ze) zc))))) (zq zA hr dz (za (pv 0) (za ze zc))) (fun _ _=>rfl)) zc))))) (zf (zu (i:=6) zY.nd rfl lo (zF zH (zF zH (pv 6) ze) (zq zA hr dz (za (pv 0) (za ze zc))))) (zm (zbd (zdS PySem.F.plainAttrs_list PySem.F.slot_list_append PySem.F.type_list_append zbl (pv 4) (za (zW (za (pv 5) (za (pv 6) zc))) zc))))))) (zm (zbd (zdS PySem.F.plainAttrs_list PySem.F.slot_list_append PySem.F.type_list_append zbl (pv 2) (za (zau zS (by rfl) T.n_tuple za3 (za (pv 4) zc)) zc))))))))) (zm (zD (zau zS (by rfl) T.n_tuple za3 (za (pv 2) zc)))))),(by walk_at "r"),fun xs S R q=>q⟩
theorem zma:Df P w K mg base "_law_set" ["pen","drawing"] 3 (spN ["pen","drawing"] zel):=by
 exact Df.dN dd.a8 zb3 5 rfl fun f cdv A outer s H E hr=>⟨_,_,(zf (zu (i:=2) zb3.nd rfl lo (zae zc)) (zf (zbc PassesOwn.never rfl (zaQ (pv 1)) (zdL (n:=3) rfl (zag (zx (i:=3) zb3.nd rfl (Or.inl rfl)) (zag (zx (i:=4) zb3.nd rfl (Or.inl rfl)) (zag (zx (i:=5) zb3.nd rfl (Or.inl rfl)) zct)))) (zf (zu (i:=6) zb3.nd rfl lo (zae (za (pv 4) (za (pv 5) (za (zF zH (pv 4) (zF zlV (zF zcj (pv 5) (pv 4)) ze)) (za (zt (ziV rfl) (by rfl) T.n_min zie (za (pv 5) (za (zF zH (pv 4) ze) zc))) (za (zt (zfB rfl) (by rfl) T.n_max zkA (za (pv 4) (za (zF zcj (pv 5) ze) zc))) zc))))))) (zm (zbd (zdS PySem.F.plainAttrs_list PySem.F.slot_list_append PySem.F.type_list_append zbl (pv 2) (za (zN zB (zF zH (pv 6) (zae (za (zF zH (pv 4) (zF zed (zq zA hr dz (za (pv 0) (za (zF zgG ze ze) zc))) (zF zH (zF zcj (pv 5) (pv 4)) ze))) zc))) (zq zA hr dz (za (pv 0) (za ze zc))) (fun _ _=>rfl)) zc)))))) (zm (zD (zau zS (by rfl) T.n_tuple za3 (za (pv 2) zc)))))),(by walk_at "r"),fun xs S R q=>q⟩
theorem zgn:Df P w K mg base "_law_terms_of" ["pen","drawing"] 3 (spN ["pen","drawing"] zcr):=by
 exact Df.dN dd.a9 za0 3 rfl fun f cdv A outer s H E hr=>⟨_,_,(zf (zu (i:=2) za0.nd rfl lo (zN zB (zfK (zX (zfK (zX ze (zX (zeG zcz ze) (zX ze (zX (zeG zcz ze) (zX ze (zX (zeG zcz ze) zam))))))) (zX (zae (za ze (za (zeG zcz ze) zc))) (zX (zae (za ze (za (zeG zcz ze) zc))) (zX (zae (za ze (za (zeG zcz ze) zc))) (zX (zae (za ze (za ze (za (zeG zcz ze) (za (zeG zcz ze) zc))))) (zX (zae (za ze (za ze (za (zeG zcz ze) (za (zeG zcz ze) zc))))) zam))))))) (zq zA hr dz (za (pv 0) (za ze zc))) (fun _ _=>rfl))) (zf (zu (i:=3) za0.nd rfl lo (zae zc)) (zf (zbc PassesOwn.never rfl (zaj rfl T.n_range (za (zt zai (by rfl) T.n_len zbG (za (pv 1) zc)) zc)) (zx (i:=4) za0.nd rfl (Or.inl rfl)) (zm (zbD (zV zjA (zq zA hr dz (za (pv 0) (za ze zc))) ze (nomark _)) (zm (zbd (zdS PySem.F.plainAttrs_list PySem.F.slot_list_append PySem.F.type_list_append zbl (pv 3) (za (zW (za (pv 4) (za (zN zB (pv 2) (zq zA hr dz (za (pv 0) (za (zt zai (by rfl) T.n_len zbG (za (pv 2) zc)) zc))) (fun _ _=>rfl)) zc))) zc)))) zab))) (zf (zbD (zV (zd8 hr.units) (pv 3) (zae zc) (nomark _)) (zm (zu (i:=3) za0.nd rfl lo (zae (za (zW (za (zq zA hr dz (za (pv 0) (za (zt zai (by rfl) T.n_len zbG (za (pv 1) zc)) zc))) (za (zN zB (pv 2) (zq zA hr dz (za (pv 0) (za (zt zai (by rfl) T.n_len zbG (za (pv 2) zc)) zc))) (fun _ _=>rfl)) zc))) zc)))) zab) (zm (zD (zau zS (by rfl) T.n_tuple za3 (za (pv 3) zc)))))))),(by walk_at "r"),fun xs S R q=>q⟩
theorem zei:Df P w K mg base "_law_filings" ["trims"] 1 (spN ["trims"] zby):=by
 exact Df.dN dd.a10 zaS 4 rfl fun f cdv A outer s H E hr=>⟨_,_,(zf (zu (i:=1) zaS.nd rfl lo (zae (za (zW zc) zc))) (zf (zbc PassesOwn.never rfl (zaQ (pv 0)) (zx (i:=2) zaS.nd rfl (Or.inl rfl)) (zf (zu (i:=3) zaS.nd rfl lo (zae zc)) (zf (zbc PassesOwn.never rfl (zaQ (pv 1)) (zx (i:=4) zaS.nd rfl (Or.inr rfl)) (zm (zbd (zdS PySem.F.plainAttrs_list PySem.F.slot_list_extend PySem.F.type_list_extend zfu (pv 3) (za (zbe (fun _ _ h=>h) rfl (zL rfl rfl rfl rfl (N:=["number","ahead"]) (caps:=[none,some 4]) (by show zaU ["trims","found","one","rows","ahead"] (zg zcQ).names _ _ _=true; decide +kernel)) (zaj rfl T.n_range (za (zF zH (zt zai (by rfl) T.n_len zbG (za (pv 2) zc)) ze) zc)) (fun _ _ _ _=>(zx (i:=0) (by show List.Nodup (["number","ahead"]:List Str); decide) rfl (Or.inl rfl))) (fun _ _ _ _=>zaB) (fun _ _ _ _=>(zF zH (pv 1) (zW (za (pv 0) zc))))) zc))))) (zm (zu (i:=1) zaS.nd rfl lo (pv 3)))))) (zm (zD (pv 1))))),(zK (by walk_at "r") (zK (zgX (zbS zk) zw (zpR (zK (zpX (zK (by walk_at "r") (zgX (zbS zk) zw (zg7 (zn2 zfH zk (zd (zbf (zcO (zd (zaf zbz (zbH zhE (zd zk zo)) zy) zo)) zw zaC (zaf zbz zk (zM (zd zk zo)))) zo)))))) (zax zk zw)))) (zaD zk))),fun xs S R q=>q⟩
theorem zfE:Df P w K mg base "_law_filed" ["built","trims","filing"] 1 (spN ["built","trims","filing"] zbp):=by
 exact Df.dN dd.a11 zdm 2 rfl fun f cdv A outer s H E hr=>⟨_,_,(zf (zu (i:=3) zdm.nd rfl lo (zau ziN (by rfl) T.n_list zhb (za (pv 0) zc))) (zf (zbc PassesOwn.never rfl (zaj rfl T.n_range (za (zt zai (by rfl) T.n_len zbG (za (pv 2) zc)) zc)) (zx (i:=4) zdm.nd rfl (Or.inl rfl)) (zm (zbD (zV zjA (zN zB (pv 2) (pv 4) (fun _ _=>rfl)) ze (nomark _)) (zm (zlF (zF zcj (zN zB (pv 3) (pv 4) (fun _ _=>rfl)) (zN zB (zN zB (zN zB (pv 1) (pv 4) (fun _ _=>rfl)) (zF zcj (zN zB (pv 2) (pv 4) (fun _ _=>rfl)) ze) (fun _ _=>rfl)) ze (fun _ _=>rfl))) (zm0 (pv 3) (pv 4) zhy))) zab))) (zm (zD (zau zS (by rfl) T.n_tuple za3 (za (pv 3) zc)))))),(by walk_at "r"),fun xs S R q=>q⟩
theorem zfC:Df P w K mg base "_law_worth" ["gap","one"] 1 (spN ["gap","one"] zcL):=by
 exact Df.dN dd.a12 zbR 3 rfl fun f cdv A outer s H E hr=>⟨_,_,(zf (zu (i:=2) zbR.nd rfl lo ze) (zf (zbc PassesOwn.never rfl (zaQ (zN zB (pv 0) ze (fun _ _=>rfl))) (zdL (n:=2) rfl (zag (zx (i:=3) zbR.nd rfl (Or.inl rfl)) (zag (zx (i:=4) zbR.nd rfl (Or.inl rfl)) zct))) (zm (zu (i:=2) zbR.nd rfl lo (zF zH (pv 2) (zF zaY (pv 4) (zN zB (pv 1) (pv 3) (fun _ _=>rfl))))))) (zm (zD (pv 2))))),(by walk_at "r"),fun xs S R q=>q⟩
theorem ziq:Df P w K mg base "_law_wanted" ["pen","drawing","built","trims"] 4 (spN ["pen","drawing","built","trims"] zcl):=by
 exact Df.dN dd.a13 zaH 6 rfl fun f cdv A outer s H E hr=>⟨_,_,(zf (zu (i:=4) zaH.nd rfl lo (zae zc)) (zf (zbc PassesOwn.never rfl (zaj rfl T.n_range (za (zF zH ze (zq zA hr dz (za (pv 0) (za ze zc)))) zc)) (zx (i:=5) zaH.nd rfl (Or.inl rfl)) (zf (zu (i:=6) zaH.nd rfl lo (zq zgn hr dz (za (pv 0) (za (pv 1) zc)))) (zf (zu (i:=7) zaH.nd rfl lo (zq zei hr dz (za (pv 3) zc))) (zf (zu (i:=8) zaH.nd rfl lo (zq zfE hr dz (za (pv 2) (za (pv 3) (za (zN zB (pv 7) (zq zA hr dz (za (pv 0) (za (zt zai (by rfl) T.n_len zbG (za (pv 7) zc)) zc))) (fun _ _=>rfl)) zc))))) (zf (zu (i:=9) zaH.nd rfl lo (zF zcj (zF zH (zq zfC hr dz (za (zW (za (pv 6) (za ze (za ze zc)))) (za (pv 8) zc))) (zq zA hr dz (za (pv 0) (za ze zc)))) ze)) (zm (zbd (zdS PySem.F.plainAttrs_list PySem.F.slot_list_append PySem.F.type_list_append zbl (pv 4) (za (zW (za (pv 6) (za (pv 9) (za (zF zH (pv 9) (zq zA hr dz (za (pv 0) (za ze zc)))) zc)))) zc))))))))) (zm (zD (zau zS (by rfl) T.n_tuple za3 (za (pv 4) zc)))))),(by walk_at "r"),fun xs S R q=>q⟩
theorem zkC:Df P w K mg base "_law_does" ["gaps","left"] 2 (spN ["gaps","left"] zdA):=by
 exact Df.dN dd.a14 zjb 0 rfl fun f cdv A outer s H E hr=>⟨_,_,(zm (zD (zt (zea rfl) (by rfl) T.n_all zkc (za (zbe (fun _ _ h=>h) rfl (zL rfl rfl rfl rfl (N:=["gap","left"]) (caps:=[none,some 1]) (by show zaU ["gaps","left"] (zg zeM).names _ _ _=true; decide +kernel)) (zaQ (pv 0)) (fun _ _ _ _=>(zx (i:=0) (by show List.Nodup (["gap","left"]:List Str); decide) rfl (Or.inl rfl))) (fun _ _ _ _=>zaB) (fun _ _ _ _=>(zky zkN zkN (zN zB (pv 0) ze (fun _ _=>rfl)) (zq zfC hr dz (za (pv 0) (za (pv 1) zc))) (zN zB (pv 0) ze (fun _ _=>rfl))))) zc)))),(zaD (zbH ziT (zd (zbf (zbS zk) zw zaC (zjP znY znY (zaf zc5 zk zy) (zaa (zd zk (zd zk zo))) (zaf zc5 zk zy))) zo))),fun xs S R q=>q⟩
theorem zge:Df P w K mg base "_law_price_of" ["trims","filing"] 1 (spN ["trims","filing"] za2):=by
 exact Df.dN dd.a15 zbu 2 rfl fun f cdv A outer s H E hr=>⟨_,_,(zf (zu (i:=2) zbu.nd rfl lo ze) (zf (zbc PassesOwn.never rfl (zaj rfl T.n_range (za (zt zai (by rfl) T.n_len zbG (za (pv 1) zc)) zc)) (zx (i:=3) zbu.nd rfl (Or.inl rfl)) (zm (zu (i:=2) zbu.nd rfl lo (zF zH (pv 2) (zN zB (zF zH (zae (za ze zc)) (zbe (fun _ _ h=>h) rfl (zL (L:=0) rfl rfl rfl rfl (N:=["much","price"]) (caps:=[none,none]) (by show zaU ["trims","filing","total","part"] (zg zcu).names _ _ _=true; decide +kernel)) (zaQ (zN zB (pv 0) (pv 3) (fun _ _=>rfl))) (fun _ _ _ _=>(zdL (n:=2) rfl (zag (zx (i:=0) (by show List.Nodup (["much","price"]:List Str); decide) rfl (Or.inl rfl)) (zag (zx (i:=1) (by show List.Nodup (["much","price"]:List Str); decide) rfl (Or.inl rfl)) zct)))) (fun _ _ _ _=>zaB) (fun _ _ _ _=>(pv 1)))) (zN zB (pv 1) (pv 3) (fun _ _=>rfl)) (fun _ _=>rfl)))))) (zm (zD (pv 2))))),(zK (zax zy zw) (zK (zgX (by walk_at "r") zw (zax (zaf zbz zk (zaf zc5 (zaf zbz (by walk_at "r") (zbf (zbS (zaf zc5 zk zk)) (zgW (zbt zw (zbt zw zey))) zaC zk)) (by walk_at "r"))) zw)) (zaD zk))),fun xs S R q=>q⟩
theorem zig:Df P w K mg base "_law_due_of" ["gaps","built","trims"] 3 (spN ["gaps","built","trims"] zbs):=by
 exact Df.dN dd.a16 zcR 2 rfl fun f cdv A outer s H E hr=>⟨_,_,(zf (zu (i:=3) zcR.nd rfl lo (zae zc)) (zf (zbc PassesOwn.never rfl (zaQ (zq zei hr dz (za (pv 2) zc))) (zx (i:=4) zcR.nd rfl (Or.inl rfl)) (zm (zbD (za4 (zq zkC hr dz (za (pv 0) (za (zq zfE hr dz (za (pv 1) (za (pv 2) (za (pv 4) zc)))) zc))) (fun _=>rfl)) (zm (zbd (zdS PySem.F.plainAttrs_list PySem.F.slot_list_append PySem.F.type_list_append zbl (pv 3) (za (zW (za (zq zge hr dz (za (pv 2) (za (pv 4) zc))) (za (pv 4) zc))) zc)))) zab))) (zf (zbD (zV (zd8 hr.units) (pv 3) (zae zc) (nomark _)) (zm (zD zdb)) zab) (zm (zD (zN zB (zt (znl rfl hr.units) (by rfl) T.n_min zie (za (pv 3) zc)) ze (fun _ _=>rfl))))))),(by walk_at "r"),fun xs S R q=>q⟩
theorem zew:Df P w K mg base "sizes_of" ["offers"] 1 (spN ["offers"] zb5):=by
 exact Df.dN dd.a17 zjj 0 rfl fun f cdv A outer s H E hr=>⟨_,_,(zm (zD (zbe (fun _ _ h=>h) rfl (zL (L:=0) rfl rfl rfl rfl (N:=["of_part"]) (caps:=[none]) (by show zaU ["offers"] (zg zeA).names _ _ _=true; decide +kernel)) (zaQ (pv 0)) (fun _ _ _ _=>(zx (i:=0) (by show List.Nodup (["of_part"]:List Str); decide) rfl (Or.inl rfl))) (fun _ _ _ _=>zaB) (fun _ _ _ _=>(zt zai (by rfl) T.n_len zbG (za (pv 0) zc)))))),(zaD (zdy (zbS zk) zw zaC (zbH zhE (zd zk zo)))),fun xs S R q=>q⟩
theorem zcX:Df P w K mg base "choices_behind" ["sizes","beginning"] 1 (spN ["sizes","beginning"] zaP):=by
 exact Df.dN dd.a18 zba 2 rfl fun f cdv A outer s H E hr=>⟨_,_,(zf (zu (i:=2) zba.nd rfl lo ze) (zf (zbc PassesOwn.never rfl (zaQ (zbY ziX (pv 0) (zcp (zt zai (by rfl) T.n_len zbG (za (pv 1) zc))) zdl)) (zx (i:=3) zba.nd rfl (Or.inl rfl)) (zm (zu (i:=2) zba.nd rfl lo (zF zaY (pv 2) (pv 3))))) (zm (zD (pv 2))))),(by walk_at "r"),fun xs S R q=>q⟩
theorem zcH:DfX P w K mg base "refuse_too_many" ["sizes"] 3 (spX ["sizes"] zac):=by
 exact DfX.dN dd.a19 zaV 1 rfl fun f cdv A outer s H E EX hr=>⟨_,_,(zf (zmW (zu (i:=1) zaV.nd rfl lo (zq zcX hr dz (za (pv 0) (za (zW zc) zc))))) (zm (zbD (PT.nox (zV zjA (pv 1) (zhJ rfl T.g_MOST_CHOICES) (nomark _))) (zm (zmu xx.r_TooGreat (fun _ _ F=>zlr F) zoI hr dz xx.m_TooGreat dz (za (pv 1) (za (zhJ rfl T.g_MOST_CHOICES) zc)))) zab))),(zh4 (zet (by walk_at "r")) (zsG (zqt (by walk_at "r")) (zmH xx.r_TooGreat.i xx.r_TooGreat.na (by walk_at "r")) (zet zcs))),fun xs S R q=>q⟩
theorem zeN:Df P w K mg base "refuse_too_many" ["sizes"] 3 (spN ["sizes"] za6):=by
 exact Df.dN dd.a19 zaV 1 rfl fun f cdv A outer s H E hr=>⟨_,_,(zf (zu (i:=1) zaV.nd rfl lo (zq zcX hr dz (za (pv 0) (za (zW zc) zc)))) (zm (zbD (zV zjA (pv 1) (zhJ rfl T.g_MOST_CHOICES) (nomark _)) (zm znU) zab))),(by walk_at "r"),fun xs S R q=>q⟩
theorem zec:Df P w K mg base "each_longer" ["beginnings","numbers"] 1 (spN ["beginnings","numbers"] zaI):=by
 exact Df.dN dd.a20 zco 2 rfl fun f cdv A outer s H E hr=>⟨_,_,(zf (zu (i:=2) zco.nd rfl lo (zae zc)) (zf (zbc PassesOwn.never rfl (zaQ (pv 0)) (zx (i:=3) zco.nd rfl (Or.inr rfl)) (zm (zbd (zdS PySem.F.plainAttrs_list PySem.F.slot_list_extend PySem.F.type_list_extend zfu (pv 2) (za (zbe (fun _ _ h=>h) rfl (zL rfl rfl rfl rfl (N:=["number","beginning"]) (caps:=[none,some 3]) (by show zaU ["beginnings","numbers","longer","beginning"] (zg zcV).names _ _ _=true; decide +kernel)) (zaQ (pv 1)) (fun _ _ _ _=>(zx (i:=0) (by show List.Nodup (["number","beginning"]:List Str); decide) rfl (Or.inl rfl))) (fun _ _ _ _=>zaB) (fun _ _ _ _=>(zF zH (pv 1) (zW (za (pv 0) zc))))) zc))))) (zm (zD (pv 2))))),(zK (by walk_at "r") (zK (zgX (zbS zk) zw (zg7 (zn2 zfH zk (zd (zbf (zbS zk) zw zaC (zaf zbz zk (zM (zd zk zo)))) zo)))) (zaD zk))),fun xs S R q=>q⟩
theorem ze3:DfH P w K mg base "rows_with_whys" ["sizes","why_of"] 7 (5+1) ["beginning"] zbm:=by
 exact zsc dd.a21 zaz 4 rfl fun F ql f cdv A outer s H E hr LA=>⟨_,_,(zf (zu (i:=2) zaz.nd rfl lo (zae zc)) (zf (zu (i:=3) zaz.nd rfl lo (zae (za (zW zc) zc))) (zf (znV PassesOwn.never (za4 (pv 3) (fun _=>rfl)) (zf (zu (i:=4) zaz.nd rfl lo (zpf PySem.F.plainAttrs_list PySem.F.slot_list_pop PySem.F.type_list_pop zsQ (pv 3))) (zf (zu (i:=5) zaz.nd rfl lo (zkI LA hr dz (pv 1) (za (pv 4) zc))) (zm (zbD (zV zhf (pv 5) zdb (nomark _)) (zm (zbd (zdS PySem.F.plainAttrs_list PySem.F.slot_list_append PySem.F.type_list_append zbl (pv 2) (za (zW (za (pv 4) (za (pv 5) zc))) zc)))) (zm (zbD (zV (zd8 hr.units) (zt zai (by rfl) T.n_len zbG (za (pv 4) zc)) (zt zai (by rfl) T.n_len zbG (za (pv 0) zc)) (nomark _)) (zm (zD zdb)) (zm (zbd (zdS PySem.F.plainAttrs_list PySem.F.slot_list_extend PySem.F.type_list_extend zfu (pv 3) (za (zq zec hr dz (za (zae (za (pv 4) zc)) (za (znX rfl rfl T.n_list rfl T.n_range (za (zF zcj (zN zB (pv 0) (zt zai (by rfl) T.n_len zbG (za (pv 4) zc)) (fun _ _=>rfl)) ze) (za (zeG zcz ze) (za (zeG zcz ze) zc)))) zc))) zc))))))))))) (zm (zD (pv 2)))))),(by walk_at "r"),fun xs S R q=>q⟩
theorem zda:Df P w K mg base "ways_of" ["trims"] 1 (spN ["trims"] zbP):=by
 exact Df.dN dd.a22 zk3 0 rfl fun f cdv A outer s H E hr=>⟨_,_,(zm (zD (zau zS (by rfl) T.n_tuple za3 (za (zbe (fun _ _ h=>h) rfl (zL (L:=0) rfl rfl rfl rfl (N:=["of_part"]) (caps:=[none]) (by show zaU ["trims"] (zg zf2).names _ _ _=true; decide +kernel)) (zaQ (pv 0)) (fun _ _ _ _=>(zx (i:=0) (by show List.Nodup (["of_part"]:List Str); decide) rfl (Or.inl rfl))) (fun _ _ _ _=>zaB) (fun _ _ _ _=>(zF zH (zW (za (zW (za ze (za ze zc))) zc)) (pv 0)))) zc)))),(zaD (zbH zdu (zd (zbf (zbS zk) zw zaC (zaf zbz (zM (zd (zM (zd zy (zd zy zo))) zo)) zk)) zo))),fun xs S R q=>q⟩
theorem zd7:Df P w K mg base "chosen_ways" ["trims","filing"] 2 (spN ["trims","filing"] zbw):=by
 exact Df.dN dd.a23 zgu 0 rfl fun f cdv A outer s H E hr=>⟨_,_,(zm (zD (zbe (fun _ _ h=>h) rfl (zL (L:=0) rfl rfl rfl rfl (N:=["of_part","number"]) (caps:=[none,none]) (by show zaU ["trims","filing"] (zg zcP).names _ _ _=true; decide +kernel)) (zi4 rfl T.n_zip (za (zq zda hr dz (za (pv 0) zc)) (za (pv 1) zc))) (fun _ _ _ _=>(zdL (n:=2) rfl (zag (zx (i:=0) (by show List.Nodup (["of_part","number"]:List Str); decide) rfl (Or.inl rfl)) (zag (zx (i:=1) (by show List.Nodup (["of_part","number"]:List Str); decide) rfl (Or.inl rfl)) zct)))) (fun _ _ _ _=>zaB) (fun _ _ _ _=>(zN zB (pv 0) (pv 1) (fun _ _=>rfl)))))),(zaD (zdy (zi6 (zd (zaa (zd zk zo)) (zd zk zo))) (zgW (zbt zw (zbt zw zey))) zaC (zaf zc5 zk zk))),fun xs S R q=>q⟩
theorem zjF:Df P w K mg base "filed" ["built","trims","filing"] 3 (spN ["built","trims","filing"] zeD):=by
 exact Df.dN dd.a24 zoJ 0 rfl fun f cdv A outer s H E hr=>⟨_,_,(zm (zD (zau zS (by rfl) T.n_tuple za3 (za (zbe (fun _ _ h=>h) rfl (zL (L:=0) rfl rfl rfl rfl (N:=["number","way"]) (caps:=[none,none]) (by show zaU ["built","trims","filing"] (zg zjt).names _ _ _=true; decide +kernel)) (zi4 rfl T.n_zip (za (pv 0) (za (zq zd7 hr dz (za (pv 1) (za (pv 2) zc))) zc))) (fun _ _ _ _=>(zdL (n:=2) rfl (zag (zx (i:=0) (by show List.Nodup (["number","way"]:List Str); decide) rfl (Or.inl rfl)) (zag (zx (i:=1) (by show List.Nodup (["number","way"]:List Str); decide) rfl (Or.inl rfl)) zct)))) (fun _ _ _ _=>zaB) (fun _ _ _ _=>(zF zcj (pv 0) (zN zB (pv 1) ze (fun _ _=>rfl))))) zc)))),(zaD (zbH zdu (zd (zbf (zi6 (zd zk (zd (zaa (zd zk (zd zk zo))) zo))) (zgW (zbt zw (zbt zw zey))) zaC (zaf zrg zk (zaf zc5 zk zy))) zo))),fun xs S R q=>q⟩
theorem zej:Df P w K mg base "what_may_be_left" ["drawing","built","trims","beginning"] 4 (spN ["drawing","built","trims","beginning"] zaW):=by
 exact Df.dN dd.a25 zaL 3 rfl fun f cdv A outer s H E hr=>⟨_,_,(zf (zeJ (i:=4) (fun _ _ h=>h) rfl (zL (L:=0) rfl rfl rfl rfl (N:=["number"]) (caps:=[none]) (by show zaU ["drawing","built","trims","beginning","spans","number","ways"] (zg zaX).names _ _ _=true; decide +kernel)) zaL.nd rfl rfl (zaQ (zq zjF hr dz (za (pv 1) (za (pv 2) (za (pv 3) zc))))) (fun _ _ _ _=>(zx (i:=0) (by show List.Nodup (["number"]:List Str); decide) rfl (Or.inl rfl))) (fun _ _ _ _=>zaB) (fun _ _ _ _=>(zW (za (pv 0) (za (pv 0) zc))))) (zf (zbc PassesOwn.never rfl (zaQ (zbY ziX (zqy rfl rfl T.n_list rfl T.n_zip (za (pv 1) (za (zq zda hr dz (za (pv 2) zc)) zc))) (zcp (zt zai (by rfl) T.n_len zbG (za (pv 3) zc))) zdl)) (zdL (n:=2) rfl (zag (zx (i:=5) zaL.nd rfl (Or.inl rfl)) (zag (zx (i:=6) zaL.nd rfl (Or.inl rfl)) zct))) (zm (zbd (zdS PySem.F.plainAttrs_list PySem.F.slot_list_append PySem.F.type_list_append zbl (pv 4) (za (zW (za (zF zcj (pv 5) (zN zB (zN zB (pv 6) (zeG zcz ze) (fun _ _=>rfl)) ze (fun _ _=>rfl))) (za (pv 5) zc))) zc))))) (zm (zD (zau zS (by rfl) T.n_tuple za3 (za (zbe (fun _ _ h=>h) rfl (zL (L:=0) rfl rfl rfl rfl (N:=["part","span"]) (caps:=[none,none]) (by show zaU ["drawing","built","trims","beginning","spans","number","ways"] (zg zaX).names _ _ _=true; decide +kernel)) (zi4 rfl T.n_zip (za (pv 0) (za (pv 4) zc))) (fun _ _ _ _=>(zdL (n:=2) rfl (zag (zx (i:=0) (by show List.Nodup (["part","span"]:List Str); decide) rfl (Or.inl rfl)) (zag (zx (i:=1) (by show List.Nodup (["part","span"]:List Str); decide) rfl (Or.inl rfl)) zct)))) (fun _ _ _ _=>zaB) (fun _ _ _ _=>(zW (za (zN zB (pv 0) ze (fun _ _=>rfl)) (za (zN zB (pv 1) ze (fun _ _=>rfl)) (za (zN zB (pv 1) ze (fun _ _=>rfl)) zc)))))) zc)))))),(zpR (zK (zpX (zK (zax (zdy (zbS (zaa (zd zk (zd zk (zd zk zo))))) zw zaC (zM (zd zk (zd zk zo)))) zw) (by walk_at "r"))) (zaD (zbH zdu (zd (zbf (zi6 (zd zk (zd zk zo))) (zgW (zbt zw (zbt zw zey))) zaC (zM (zd (zaf zc5 zk zy) (zd (zaf zc5 zk zy) (zd (zaf zc5 zk zy) zo))))) zo))))),fun xs S R q=>q⟩
theorem zcn:Df P w K mg base "filing_price" ["trims","filing"] 3 (spN ["trims","filing"] zaR):=by
 exact Df.dN dd.a26 zfk 0 rfl fun f cdv A outer s H E hr=>⟨_,_,(zm (zD (zt (ziK rfl) (by rfl) T.n_sum zpW (za (zbe (fun _ _ h=>h) rfl (zL (L:=0) rfl rfl rfl rfl (N:=["way"]) (caps:=[none]) (by show zaU ["trims","filing"] (zg zcq).names _ _ _=true; decide +kernel)) (zaQ (zq zd7 hr dz (za (pv 0) (za (pv 1) zc)))) (fun _ _ _ _=>(zx (i:=0) (by show List.Nodup (["way"]:List Str); decide) rfl (Or.inl rfl))) (fun _ _ _ _=>zaB) (fun _ _ _ _=>(zN zB (pv 0) ze (fun _ _=>rfl)))) zc)))),(zaD (zbH zmG (zd (zbf (zbS (zaa (zd zk (zd zk zo)))) zw zaC (zaf zc5 zk zy)) zo))),fun xs S R q=>q⟩
theorem zth:Df P w K mg base "meet" ["one","other"] 1 (spN ["one","other"] zjJ):=by
 exact Df.dN dd.a27 zjm 2 rfl fun f cdv A outer s H E hr=>⟨_,_,(zf (zu (i:=2) zjm.nd rfl lo (zt (zfB rfl) (by rfl) T.n_max zkA (za (zN zB (pv 0) ze (fun _ _=>rfl)) (za (zN zB (pv 1) ze (fun _ _=>rfl)) zc)))) (zf (zu (i:=3) zjm.nd rfl lo (zt (ziV rfl) (by rfl) T.n_min zie (za (zN zB (pv 0) ze (fun _ _=>rfl)) (za (zN zB (pv 1) ze (fun _ _=>rfl)) zc)))) (zm (zD (zon (zV zkN (pv 2) (pv 3) (nomark _)) (zW (za (pv 2) (za (pv 3) zc))) zdb))))),(by walk_at "r"),fun xs S R q=>q⟩
theorem zti:Df P w K mg base "plus" ["one","other"] 1 (spN ["one","other"] zjT):=by
 exact Df.dN dd.a28 zq2 0 rfl fun f cdv A outer s H E hr=>⟨_,_,(zm (zD (zW (za (zF zH (zN zB (pv 0) ze (fun _ _=>rfl)) (zN zB (pv 1) ze (fun _ _=>rfl))) (za (zF zH (zN zB (pv 0) ze (fun _ _=>rfl)) (zN zB (pv 1) ze (fun _ _=>rfl))) zc))))),(by walk_at "r"),fun xs S R q=>q⟩
theorem ziO:Df P w K mg base "multiplied" ["one","by"] 1 (spN ["one","by"] zcm):=by
 exact Df.dN dd.a29 zeh 1 rfl fun f cdv A outer s H E hr=>⟨_,_,(zf (zu (i:=2) zeh.nd rfl lo (zW (za (zF zaY (zN zB (pv 0) ze (fun _ _=>rfl)) (pv 1)) (za (zF zaY (zN zB (pv 0) ze (fun _ _=>rfl)) (pv 1)) zc)))) (zm (zD (zW (za (zt (zlK rfl hr.units) (by rfl) T.n_min zie (za (pv 2) zc)) (za (zt (znC rfl) (by rfl) T.n_max zkA (za (pv 2) zc)) zc)))))),(by walk_at "r"),fun xs S R q=>q⟩
theorem zl5:Df P w K mg base "span_of" ["part"] 1 (spN ["part"] zen):=by
 exact Df.dN dd.a30 zk2 0 rfl fun f cdv A outer s H E hr=>⟨_,_,(zm (zD (zW (za (zN zB (pv 0) ze (fun _ _=>rfl)) (za (zN zB (pv 0) ze (fun _ _=>rfl)) zc))))),(by walk_at "r"),fun xs S R q=>q⟩
theorem ze2:Df P w K mg base "reach_of_terms" ["drawing","terms"] 2 (spN ["drawing","terms"] zbn):=by
 exact Df.dN dd.a31 zaA 3 rfl fun f cdv A outer s H E hr=>⟨_,_,(zf (zu (i:=2) zaA.nd rfl lo (zW (za ze (za ze zc)))) (zf (zbc PassesOwn.never rfl (zaQ (pv 1)) (zdL (n:=2) rfl (zag (zx (i:=3) zaA.nd rfl (Or.inl rfl)) (zag (zx (i:=4) zaA.nd rfl (Or.inl rfl)) zct))) (zm (zu (i:=2) zaA.nd rfl lo (zq zti hr dz (za (pv 2) (za (zq ziO hr dz (za (zq zl5 hr dz (za (zN zB (pv 0) (pv 3) (fun _ _=>rfl)) zc)) (za (pv 4) zc))) zc)))))) (zm (zD (pv 2))))),(by walk_at "r"),fun xs S R q=>q⟩
theorem zqe:Df P w K mg base "reach" ["drawing","gap"] 3 (spN ["drawing","gap"] zhg):=by
 exact Df.dN dd.a32 zox 0 rfl fun f cdv A outer s H E hr=>⟨_,_,(zm (zD (zq ze2 hr dz (za (pv 0) (za (zN zB (pv 1) ze (fun _ _=>rfl)) zc))))),(by walk_at "r"),fun xs S R q=>q⟩
theorem zju:Df P w K mg base "wanted_of" ["gap"] 1 (spN ["gap"] zcS):=by
 exact Df.dN dd.a33 zin 0 rfl fun f cdv A outer s H E hr=>⟨_,_,(zm (zD (zW (za (zN zB (pv 0) ze (fun _ _=>rfl)) (za (zN zB (pv 0) ze (fun _ _=>rfl)) zc))))),(by walk_at "r"),fun xs S R q=>q⟩
theorem znT:Df P w K mg base "misses" ["drawing","gap"] 4 (spN ["drawing","gap"] zfc):=by
 exact Df.dN dd.a34 zlL 0 rfl fun f cdv A outer s H E hr=>⟨_,_,(zm (zD (zjw zjG (zq zth hr dz (za (zq zqe hr dz (za (pv 0) (za (pv 1) zc))) (za (zq zju hr dz (za (pv 1) zc)) zc))) zdb (nomark _)))),(by walk_at "r"),fun xs S R q=>q⟩
theorem zf7:Df P w K mg base "why_no_filing" ["job","built","trims","price","beginning"] 5 (spN ["job","built","trims","price","beginning"] zbA):=by
 exact Df.dN dd.a35 zbo 3 rfl fun f cdv A outer s H E hr=>⟨_,_,(zf (zbD (zV zrX (zq zcn hr dz (za (pv 2) (za (pv 4) zc))) (pv 3) (nomark _)) (zm (zD (zW (za zas zc)))) zab) (zf (zu (i:=5) zbo.nd rfl lo (zq zej hr dz (za (zN zB (pv 0) ze (fun _ _=>rfl)) (za (pv 1) (za (pv 2) (za (pv 4) zc)))))) (zf (zbc PassesOwn.never rfl (zoc rfl T.n_enumerate (za (zN zB (pv 0) ze (fun _ _=>rfl)) zc)) (zdL (n:=2) rfl (zag (zx (i:=6) zbo.nd rfl (Or.inl rfl)) (zag (zx (i:=7) zbo.nd rfl (Or.inl rfl)) zct))) (zm (zbD (za4 (zq znT hr dz (za (pv 5) (za (pv 7) zc))) (fun _=>rfl)) (zm (zD (zW (za zas (za (pv 6) zc))))) zab))) (zm (zD zdb))))),(by walk_at "r"),fun xs S R q=>q⟩
theorem zog:DfX P w K mg base "bar_of" ["job","built","trims","price"] 10 (spX ["job","built","trims","price"] zdB):=by
 obtain⟨c,P',hc,ht⟩:=ll.l_bar_of;exact zmI dd.a36 hc zid 1 rfl fun f A outer s H E EX hr=>⟨_,_,(zf (zmW (zu (i:=4) zid.nd rfl lo (zq zew hr dz (za (zq zda hr dz (za (pv 2) zc)) zc)))) (zf (zbd (zpF zcH pass1 hr dz (za (PE.nox (pv 4)) zc))) (PSs.nox (zm (zD (zom (kl:=5) (pl:=["beginning"]) (caps:=["job","built","trims","price"]) (ks:=[0,1,2,3]) ze3 hr dz rfl rfl rfl rfl rfl (by show zeu ["job","built","trims","price","sizes"] (zg zfd).names _ _ _ _=true; decide +kernel) (fun _ _ _ _ us hl=>by obtain⟨_,rfl⟩:=L2.len1 hl; rfl) (fun cl f c' A outer s H hr=>(zq zf7 hr dz (za (pv 1) (za (pv 2) (za (pv 3) (za (pv 4) (za (pv 0) zc))))))) (zaa (zd zk (zd zk (zd zk (zd zk (zd zk zo)))))) (za (pv 4) (za (zsz (pl:=["beginning"]) (caps:=["job","built","trims","price"]) (ks:=[0,1,2,3]) ht rfl rfl rfl (by show zeu ["job","built","trims","price","sizes"] (zg zfd).names _ _ _ _=true; decide +kernel) rfl) zc)))))))),(zh4 (zet (by walk_at "r")) (zh4 (zlC (zkp (znj (zd zk zo)))) (zet (zaD (znq zk))))),fun xs S R q=>q⟩
theorem zd5:Df P w K mg base "all_choices" ["sizes"] 2 (spN ["sizes"] zbx):=by
 exact Df.dN dd.a37 zbM 2 rfl fun f cdv A outer s H E hr=>⟨_,_,(zf (zu (i:=1) zbM.nd rfl lo (zae (za (zW zc) zc))) (zf (zbc PassesOwn.never rfl (zaQ (pv 0)) (zx (i:=2) zbM.nd rfl (Or.inl rfl)) (zm (zu (i:=1) zbM.nd rfl lo (zq zec hr dz (za (pv 1) (za (zot rfl rfl T.n_list rfl T.n_range (za (pv 2) zc)) zc)))))) (zm (zD (pv 1))))),(by walk_at "r"),fun xs S R q=>q⟩
theorem zkL:Df P w K mg base "worth_of" ["gap","one"] 1 (spN ["gap","one"] zdx):=by
 exact Df.dN dd.a38 zjd 0 rfl fun f cdv A outer s H E hr=>⟨_,_,(zm (zD (zt (ziK rfl) (by rfl) T.n_sum zpW (za (zbe (fun _ _ h=>h) rfl (zL rfl rfl rfl rfl (N:=["part","times","one"]) (caps:=[none,none,some 1]) (by show zaU ["gap","one"] (zg zeB).names _ _ _=true; decide +kernel)) (zaQ (zN zB (pv 0) ze (fun _ _=>rfl))) (fun _ _ _ _=>(zdL (n:=2) rfl (zag (zx (i:=0) (by show List.Nodup (["part","times","one"]:List Str); decide) rfl (Or.inl rfl)) (zag (zx (i:=1) (by show List.Nodup (["part","times","one"]:List Str); decide) rfl (Or.inl rfl)) zct)))) (fun _ _ _ _=>zaB) (fun _ _ _ _=>(zF zaY (pv 1) (zN zB (pv 2) (pv 0) (fun _ _=>rfl))))) zc)))),(zaD (zbH zmG (zd (zbf (zbS (zaf zc5 zk zy)) (zgW (zbt zw (zbt zw zey))) zaC (zaf zf5 zk (zaf zc5 zk zk))) zo))),fun xs S R q=>q⟩
theorem zp9:Df P w K mg base "keeps" ["gap","one"] 2 (spN ["gap","one"] zhu):=by
 exact Df.dN dd.a39 zn4 0 rfl fun f cdv A outer s H E hr=>⟨_,_,(zm (zD (zky zkN zkN (zN zB (pv 0) ze (fun _ _=>rfl)) (zq zkL hr dz (za (pv 0) (za (pv 1) zc))) (zN zB (pv 0) ze (fun _ _=>rfl))))),(by walk_at "r"),fun xs S R q=>q⟩
theorem zfP:Df P w K mg base "kept_gaps" ["gaps","one"] 3 (spN ["gaps","one"] zb7):=by
 exact Df.dN dd.a40 ziQ 0 rfl fun f cdv A outer s H E hr=>⟨_,_,(zm (zD (zbe (fun _ _ h=>h) rfl (zL rfl rfl rfl rfl (N:=["gap","one"]) (caps:=[none,some 1]) (by show zaU ["gaps","one"] (zg zdQ).names _ _ _=true; decide +kernel)) (zaQ (pv 0)) (fun _ _ _ _=>(zx (i:=0) (by show List.Nodup (["gap","one"]:List Str); decide) rfl (Or.inl rfl))) (fun _ _ _ _=>zaB) (fun _ _ _ _=>(zq zp9 hr dz (za (pv 0) (za (pv 1) zc))))))),(zaD (zdy (zbS zk) zw zaC (zaa (zd zk (zd zk zo))))),fun xs S R q=>q⟩
theorem zeC:DfX P w K mg base "cheapest_filing" ["job","built","trims"] 6 (spX ["job","built","trims"] zap):=by
 obtain⟨c,P',hc,ht⟩:=ll.l_cheapest_filing;exact zmI dd.a41 hc zak 2 rfl fun f A outer s H E EX hr=>⟨_,_,(zf (zmW (zu (i:=3) zak.nd rfl lo (zq zew hr dz (za (zq zda hr dz (za (pv 2) zc)) zc)))) (zf (zbd (zpF zcH pass1 hr dz (za (PE.nox (pv 3)) zc))) (PSs.nox (zf (zeJ (i:=4) (fun _ _ h=>h) rfl (zL rfl rfl rfl rfl (N:=["filing","job","built","trims"]) (caps:=[none,some 0,some 1,some 2]) (by show zaU ["job","built","trims","sizes","found"] (zg zao).names _ _ _=true; decide +kernel)) zak.nd rfl rfl (zaQ (zq zd5 hr dz (za (pv 3) zc))) (fun _ _ _ _=>(zx (i:=0) (by show List.Nodup (["filing","job","built","trims"]:List Str); decide) rfl (Or.inl rfl))) (fun _ _ _ _=>(zly (za4 (zt (zea rfl) (by rfl) T.n_all zkc (za (zq zfP hr dz (za (zN zB (pv 1) ze (fun _ _=>rfl)) (za (zq zjF hr dz (za (pv 2) (za (pv 3) (za (pv 0) zc)))) zc))) zc)) (fun _=>rfl)))) (fun _ _ _ _=>(pv 0))) (zm (zD (ziB (k:=3) (x:="filing") (caps:=["trims"]) (ks:=[2]) ht rfl rfl rfl rfl rfl rfl (by show zeu ["job","built","trims","sizes","found"] (zg zao).names _ _ _ _=true; decide +kernel) rfl (fun _ _ _ _ _=>rfl) hr rfl T.n_min (pv 4) (fun cl f c' s H hr=>(zq zcn hr dz (za (pv 1) (za (pv 0) zc))))))))))),(zh4 (zet (by walk_at "r")) (zh4 (zlC (zkp (znj (zd zk zo)))) (zet (zK (zax (zbf (zbS (zaa (zd zk zo))) zw (zcB (zbH ziT (zd (zaa (zd (zaf zc5 zk zy) (zd (zaa (zd zk (zd zk (zd zk zo)))) zo))) zo))) zk) zw) (zaD (zhN zk (zaa (zd zk (zd zk zo))))))))),fun xs S R q=>q⟩
theorem zer:Df P w K mg base "cheapest_filing" ["job","built","trims"] 6 (spN ["job","built","trims"] za7):=by
 obtain⟨c,P',hc,ht⟩:=ll.l_cheapest_filing;exact zrU dd.a41 hc zak 2 rfl fun f A outer s H E hr=>⟨_,_,(zf (zu (i:=3) zak.nd rfl lo (zq zew hr dz (za (zq zda hr dz (za (pv 2) zc)) zc))) (zf (zbd (zq zeN hr dz (za (pv 3) zc))) (zf (zeJ (i:=4) (fun _ _ h=>h) rfl (zL rfl rfl rfl rfl (N:=["filing","job","built","trims"]) (caps:=[none,some 0,some 1,some 2]) (by show zaU ["job","built","trims","sizes","found"] (zg zao).names _ _ _=true; decide +kernel)) zak.nd rfl rfl (zaQ (zq zd5 hr dz (za (pv 3) zc))) (fun _ _ _ _=>(zx (i:=0) (by show List.Nodup (["filing","job","built","trims"]:List Str); decide) rfl (Or.inl rfl))) (fun _ _ _ _=>(zly (za4 (zt (zea rfl) (by rfl) T.n_all zkc (za (zq zfP hr dz (za (zN zB (pv 1) ze (fun _ _=>rfl)) (za (zq zjF hr dz (za (pv 2) (za (pv 3) (za (pv 0) zc)))) zc))) zc)) (fun _=>rfl)))) (fun _ _ _ _=>(pv 0))) (zm (zD (ziB (k:=3) (x:="filing") (caps:=["trims"]) (ks:=[2]) ht rfl rfl rfl rfl rfl rfl (by show zeu ["job","built","trims","sizes","found"] (zg zao).names _ _ _ _=true; decide +kernel) rfl (fun _ _ _ _ _=>rfl) hr rfl T.n_min (pv 4) (fun cl f c' s H hr=>(zq zcn hr dz (za (pv 1) (za (pv 0) zc)))))))))),(zK (by walk_at "r") (zK (by walk_at "r") (zK (zax (zbf (zbS (zaa (zd zk zo))) zw (zcB (zbH ziT (zd (zaa (zd (zaf zc5 zk zy) (zd (zaa (zd zk (zd zk (zd zk zo)))) zo))) zo))) zk) zw) (zaD (zhN zk (zaa (zd zk (zd zk zo)))))))),fun xs S R q=>q⟩
theorem zk4:DfN P w K mg base "_law_kind" ["e"] 1 (spN ["e"] zb6):=by
 exact DfN.dN dd.a42 zca 2 rfl fun f cdv A outer s H hr=>⟨_,_,(zf (zu (i:=1) zca.nd rfl lo (zfK (zX (zt zbv (by rfl) T.n_isinstance zG (za (pv 0) (za (zb9 (v:=.ref 37) rfl xx.m_NoSpan rfl) zc))) (zX (zt zbv (by rfl) T.n_isinstance zG (za (pv 0) (za (zb9 (v:=.ref 49) rfl xx.m_NoPart rfl) zc))) (zX (zt zbv (by rfl) T.n_isinstance zG (za (pv 0) (za (zb9 (v:=.ref 61) rfl xx.m_NoSet rfl) zc))) (zX (zt zbv (by rfl) T.n_isinstance zG (za (pv 0) (za (zb9 (v:=.ref 161) rfl xx.m_NoText rfl) zc))) zam)))))) (zf (zu (i:=1) zca.nd rfl lo (zF zH (pv 1) (zfK (zX (zt zbv (by rfl) T.n_isinstance zG (za (pv 0) (za (zb9 (v:=.ref 73) rfl xx.m_NoRow rfl) zc))) (zX (zt zbv (by rfl) T.n_isinstance zG (za (pv 0) (za (zb9 (v:=.ref 85) rfl xx.m_Unlike rfl) zc))) (zX (zt zbv (by rfl) T.n_isinstance zG (za (pv 0) (za (zb9 (v:=.ref 104) rfl xx.m_NoDrawing rfl) zc))) (zX (zt zbv (by rfl) T.n_isinstance zG (za (pv 0) (za (zb9 (v:=.ref 123) rfl xx.m_NoGap rfl) zc))) zam))))))) (zf (zu (i:=1) zca.nd rfl lo (zF zH (pv 1) (zae (za (zt zbv (by rfl) T.n_isinstance zG (za (pv 0) (za (zb9 (v:=.ref 142) rfl xx.m_NoOffer rfl) zc))) (za (zt zbv (by rfl) T.n_isinstance zG (za (pv 0) (za (zb9 (v:=.ref 180) rfl xx.m_TooGreat rfl) zc))) zc))))) (zf (zbD (PW.pt (zlk (ze1 (za4 (zt zbv (by rfl) T.n_isinstance zG (za (pv 0) (za (zeL rfl T.n_ValueError zhv (v:=.ty "ValueError") rfl) zc))) (fun _=>rfl))) (zh0 (zV (zhZ hr.units) (zdS PySem.F.plainAttrs_list PySem.F.slot_list_count PySem.F.type_list_count znk (pv 1) (za zgt zc)) ze (nomark _))))) (zm (zD zas)) zab) (zf (zu (i:=2) zca.nd rfl lo (zfK (zX zas (zX zas (zX zas (zX zas (zX zas (zX zas (zX zas (zX zas (zX zas (zX zas zam)))))))))))) (zm (zD (zN zB (pv 2) (zdS PySem.F.plainAttrs_list PySem.F.slot_list_index PySem.F.type_list_index (zlX hr.units) (pv 1) (za zgt zc)) (fun _ _=>rfl))))))))),(zK (zax (zik (zd (zbH (zc0 xx.ex) (by walk_at "r")) (zd (zbH (zc0 xx.ex) (by walk_at "r")) (zd (zbH (zc0 xx.ex) (by walk_at "r")) (zd (zbH (zc0 xx.ex) (by walk_at "r")) zo))))) zw) (zK (zax (zaf zbz zk (zik (zd (zbH (zc0 xx.ex) (by walk_at "r")) (zd (zbH (zc0 xx.ex) (by walk_at "r")) (zd (zbH (zc0 xx.ex) (by walk_at "r")) (zd (zbH (zc0 xx.ex) (by walk_at "r")) zo)))))) zw) (zK (zax (zaf zbz zk (zik (zd (zbH (zc0 xx.ex) (by walk_at "r")) (zd (zbH (zc0 xx.ex) (by walk_at "r")) zo)))) zw) (zK (zfM (zhU (zdc (zcB (zbH (zc0 xx.ex) (by walk_at "r")))) (zqA (zaf zjV (zmK zls zk (zd zld zo)) zy))) (zaD zc2) zcs) (zK (by walk_at "r") (zaD (zaf zc5 zk (zmK zlQ zk (zd zld zo))))))))),fun xs S R q=>q⟩
theorem zfl:DfN P w K mg base "_law_whole" ["found"] 1 (spN ["found"] zaq):=by
 exact DfN.dN dd.a43 zeS 0 rfl fun f cdv A outer s H hr=>⟨_,_,(zm (zD (zpK (zt zd1 (by rfl) T.n_isinstance zG (za (pv 0) (za (zeL rfl T.n_int znD (v:=.ty "int") rfl) zc))) (zmE (zp1 (zt zd1 (by rfl) T.n_isinstance zG (za (pv 0) (za (zeL rfl T.n_bool zmg (v:=.ty "bool") rfl) zc)))))))),(by walk_at "r"),fun xs S R q=>q⟩
theorem zjo:Df P w K mg base "_law_whole" ["found"] 1 (spN ["found"] zaq):=by
 exact Df.dN dd.a43 zeS 0 rfl fun f cdv A outer s H E hr=>⟨_,_,(zm (zD (zpK (zt zd1 (by rfl) T.n_isinstance zG (za (pv 0) (za (zeL rfl T.n_int znD (v:=.ty "int") rfl) zc))) (zmE (zp1 (zt zd1 (by rfl) T.n_isinstance zG (za (pv 0) (za (zeL rfl T.n_bool zmg (v:=.ty "bool") rfl) zc)))))))),(by walk_at "r"),fun xs S R q=>q⟩
theorem zjl:Df P w K mg base "_law_tried" ["way","job","built","trims"] 11 (spN ["way","job","built","trims"] zbN):=by
 exact Df.dN dd.a44 zeQ 1 rfl fun f cdv A outer s H E hr=>⟨_,_,(zm (zol (i:=4) (fun _ _ z=>z) rfl rfl zeQ.nd rfl rfl rfl xx.m_GaugeError xx.c_GaugeError (zra (fun _ _ z=>z) (zV (zd8 hr.units) (pv 0) ze (nomark _)) (zpV (znB (fun _ _ z=>z) (zsj zeC hr dz (fun _ _ z=>z) (za (pv 1) (za (pv 2) (za (pv 3) zc)))))) (fun _ _ _ _ h=>h) (zpV (znB (fun _ _ z=>z) (zsj zog hr dz (fun _ _ z=>z) (za (pv 1) (za (pv 2) (za (pv 3) (za ze zc)))))))) (fun _=>(zf (zbD (PW.pt (zlk (zV (zhZ hr.units) (zi7 zk4 (hr.suite _) dz (za (pv 4) zc)) zas (nomark _)) (zlk (ze1 (za4 (zi7 zfl (hr.suite _) dz (za (znW (pv 4) rfl) zc)) (fun _=>rfl))) (zh0 (ze1 (za4 (zi7 zfl (hr.suite _) dz (za (znW (pv 4) rfl) zc)) (fun _=>rfl))))))) (zm (zD (zW (za zas (za zdb zc))))) zab) (zm (zD (zW (za zas (za (zW (za (znW (pv 4) rfl) (za (znW (pv 4) rfl) zc))) zc))))))))),(zn7 (zqA (zaf zpe zk zy)) (zmC xx.ex rfl zpg (fun _ _ _ _=>rfl) (zd zk (zd zk (zd zk zo))) (zK (zfM (zhU (zqA (zaf zjV (zj8 rfl (zd zk zo)) zc2)) (zhU (zdc (zcB (zaa (zd (zi1 xx.a_many zk) zo)))) (zdc (zcB (zaa (zd (zi1 xx.a_most zk) zo)))))) (zaD (zM (zd zc2 (zd zmF zo)))) zcs) (zaD (zM (zd zc2 (zd (zM (zd (zi1 xx.a_many zk) (zd (zi1 xx.a_most zk) zo))) zo)))))) (zmC xx.ex rfl zpg (fun _ _ _ _=>rfl) (zd zk (zd zk (zd zk (zd zy zo)))) (zK (zfM (zhU (zqA (zaf zjV (zj8 rfl (zd zk zo)) zc2)) (zhU (zdc (zcB (zaa (zd (zi1 xx.a_many zk) zo)))) (zdc (zcB (zaa (zd (zi1 xx.a_most zk) zo)))))) (zaD (zM (zd zc2 (zd zmF zo)))) zcs) (zaD (zM (zd zc2 (zd (zM (zd (zi1 xx.a_many zk) (zd (zi1 xx.a_most zk) zo))) zo))))))),fun xs S R q=>q⟩
theorem zcN:Df P w K mg base "_law_right" ["job","built","trims"] 12 (spN ["job","built","trims"] zar):=by
 exact Df.dN dd.a45 zav 7 rfl fun f cdv A outer s H E hr=>⟨_,_,(zf (zu (i:=3) zav.nd rfl lo ze) (zf (zbc PassesOwn.never rfl (zaQ (pv 2)) (zx (i:=4) zav.nd rfl (Or.inl rfl)) (zm (zu (i:=3) zav.nd rfl lo (zF zaY (pv 3) (zF zH (zt zai (by rfl) T.n_len zbG (za (pv 4) zc)) ze))))) (zf (zbc PassesOwn.never rfl (zaj rfl T.n_range (za ze zc)) (zx (i:=5) zav.nd rfl (Or.inl rfl)) (zf (zu (i:=6) zav.nd rfl lo (zq zjl hr dz (za (pv 5) (za (pv 0) (za (pv 1) (za (pv 2) zc)))))) (zm (zbD (PW.pt (zlk (PW.pt (zkm (zV zjA (pv 3) ze (nomark _)) (zhC (zV (zhZ hr.units) (pv 6) (zW (za zas (za (zW (za (pv 3) (za ze zc))) zc))) (nomark _))))) (zh0 (PW.pt (zkm (zV zkN (pv 3) ze (nomark _)) (zhC (zV (zhZ hr.units) (zN zB (pv 6) ze (fun _ _=>rfl)) zas (nomark _)))))))) (zm (zD zgt)) zab)))) (zf (zbD (zV zjA (pv 3) ze (nomark _)) (zm (zD zgt)) zab) (zf (zu (i:=7) zav.nd rfl lo (zq zig hr dz (za (zN zB (pv 0) ze (fun _ _=>rfl)) (za (pv 1) (za (pv 2) zc))))) (zf (zbc PassesOwn.never rfl (zaj rfl T.n_range (za ze zc)) (zx (i:=8) zav.nd rfl (Or.inl rfl)) (zf (zu (i:=9) zav.nd rfl lo (zq zer hr dz (za (pv 0) (za (pv 1) (za (pv 2) zc))))) (zf (zbD (PW.pt (zkm (zV zjG (pv 7) zdb (nomark _)) (zhC (zV zhf (pv 9) zdb (nomark _))))) (zm (zD zgt)) zab) (zm (zbD (PW.pt (zlk (PW.pt (zkm (zV zhf (pv 7) zdb (nomark _)) (zhC (ze1 (za4 (zt zd1 (by rfl) T.n_isinstance zG (za (pv 9) (za (zeL rfl T.n_tuple za3 (v:=.ty "tuple") rfl) zc))) (fun _=>rfl)))))) (zh0 (zV (zhZ hr.units) (pv 9) (pv 7) (nomark _))))) (zm (zD zgt)) zab))))) (zm (zD (zt6 (zjw zjG (pv 7) zdb (nomark _)) (zmE (zt (zea rfl) (by rfl) T.n_all zkc (za (zbe (fun _ _ h=>h) rfl (zL (L:=0) rfl rfl rfl rfl (N:=["number"]) (caps:=[none]) (by show zaU ["job","built","trims","every","one","way","told","due","turn","found"] (zg zdW).names _ _ _=true; decide +kernel)) (zaQ (pv 9)) (fun _ _ _ _=>(zx (i:=0) (by show List.Nodup (["number"]:List Str); decide) rfl (Or.inl rfl))) (fun _ _ _ _=>zaB) (fun _ _ _ _=>(zq zjo hr dz (za (pv 0) zc)))) zc)))))))))))),(zK (zax zy zw) (zK (by walk_at "r") (zK (by walk_at "r") (zK (by walk_at "r") (zK (by walk_at "r") (zK (by walk_at "r") (zaD (zsx (zoY zk) (zbH ziT (zd (zbf (zbS zk) zw zaC (zaa (zd zk zo))) zo)))))))))),fun xs S R q=>q⟩
theorem ok_law{f:Addr}{fd:FuncData}(F:Fun K "law" "law" s_law f fd):FnOk P w K mg base CX0 13 f fd ["script"] (sp1 (ztW K)):=by
 refine F.ok1 zcZ (fun v=>[some v,none,none,none,none,none,none,none,none,none,none]) (fun _=>rfl) fun cdv A outer s H v Q E hr h=>?_;obtain⟨a,ns,rfl,hS,hlen,q⟩:=h;refine zqS ?_;refine⟨_,(zhY (zlH (i:=1) zcZ.nd rfl (Or.inl rfl) (zaF (zcb (zaF (zcb (zaF (zbZ (QE.mk zas) (zbZ (QE.mk ze) (zbZ (QE.mk ze) zam)))) zam)) (zcb (zaF (zcb (zaF (zcb (zaF (zcb (zaF (zbZ (QE.mk ze) (zbZ (QE.mk ze) zam))) zam)) (zbZ (QE.mk ze) (zbZ (QE.mk ze) zam)))) zam)) zam)))) (QSs.mk (zf (zbD (PW.pt (zlk (ze1 (za4 (zmL zcN hr dz (zt3 (QE.mk (pv 1)) (zcb (zaF (zbZ (QE.mk ze) zam)) (zcb (zaF (zcb (zaF (zcb (zaF (zbZ (QE.mk ze) (zbZ (QE.mk ze) zam))) (zcb (zaF (zbZ (QE.mk ze) (zbZ (QE.mk ze) zam))) zam))) zam)) zam)))) (fun _=>rfl))) (zh0 (ze1 (za4 (zq zcN hr dz (za (pv 1) (za (zW (za ze zc)) (za (zW (za (zW zc) zc)) zc)))) (fun _=>rfl)))))) (zm (zD zgt)) zab) (zf (zbc PassesOwn.never rfl (zq6 (zF zl3 (zae (za (zs5 zhG hr dz (pv 0) ze) zc)) (zbY zmr (pv 0) (zcp ze) (zcp ze)))) (zx (i:=2) zcZ.nd rfl (Or.inl rfl)) (zf (zu (i:=3) zcZ.nd rfl lo (zq zih hr dz (za (pv 2) zc))) (zf (zu (i:=4) zcZ.nd rfl lo (zq zmP hr dz (za (pv 3) (za ze zc)))) (zf (zu (i:=5) zcZ.nd rfl lo (zq zgl hr dz (za (pv 3) (za (pv 4) zc)))) (zf (zbD (zV zjA (zt zai (by rfl) T.n_len zbG (za (pv 4) zc)) ze (nomark _)) (zm (zu (i:=5) zcZ.nd rfl lo (zau zS (by rfl) T.n_tuple za3 (za (zbe (fun _ _ h=>h) rfl (zL (L:=0) rfl rfl rfl rfl (N:=["one"]) (caps:=[none]) (by show zaU ["script","job","cell","pen","drawing","trims","built","gaps","great","wide","many"] (zg s_law).names _ _ _=true; decide +kernel)) (zaQ (pv 5)) (fun _ _ _ _=>(zx (i:=0) (by show List.Nodup (["one"]:List Str); decide) rfl (Or.inl rfl))) (fun _ _ _ _=>zaB) (fun _ _ _ _=>(zbY (zop (K:=K) rfl) (pv 0) zdl (zcp ze)))) zc)))) zab) (zf (zu (i:=6) zcZ.nd rfl lo (zq zma hr dz (za (pv 3) (za (pv 4) zc)))) (zl7 (zu (i:=7) zcZ.nd rfl lo (zq ziq hr dz (za (pv 3) (za (pv 4) (za (pv 6) (za (pv 5) zc)))))) (zhY (zlH (i:=8) zcZ.nd rfl (Or.inl rfl) (zsv zH (zsv zhX (zaF (zcb (zaF (zcb (zaF (zbZ (QE.mk ze) (zbZ (QE.mk ze) zam))) (zcb (zaF (zbZ (QE.mk ze) (zbZ (QE.mk ze) zam))) (zcb (zaF (zbZ (QE.mk ze) (zbZ (QE.mk ze) zam))) zam)))) zam)) (QE.mk ze)) (zaF (zcb (zaF zam) (zcb (zaF (zcb (zaF (zbZ (QE.mk ze) (zbZ (QE.mk ze) zam))) zam)) zam))))) (QSs.mk (zf (zu (i:=9) zcZ.nd rfl lo (zau zS (by rfl) T.n_tuple za3 (za (zbe (fun _ _ h=>h) rfl (zL (L:=0) rfl rfl rfl rfl (N:=["k"]) (caps:=[none]) (by show zaU ["script","job","cell","pen","drawing","trims","built","gaps","great","wide","many"] (zg s_law).names _ _ _=true; decide +kernel)) (zaj rfl T.n_range (za ze zc)) (fun _ _ _ _=>(zx (i:=0) (by show List.Nodup (["k"]:List Str); decide) rfl (Or.inl rfl))) (fun _ _ _ _=>zaB) (fun _ _ _ _=>(zW (za (zF zaY zas (zF (zq1 (K:=K) rfl) (pv 0) ze)) (za ze (za ze zc)))))) zc))) (zf (zbD (ze1 (za4 (zq zcN hr dz (za (zW (za (pv 4) (za (pv 7) zc))) (za (pv 6) (za (pv 5) zc)))) (fun _=>rfl))) (zm (zD zgt)) zab) (zf (zu (i:=10) zcZ.nd rfl lo (zF zH ze (zq zA hr dz (za (pv 3) (za ze zc))))) (zm (zbD (ze1 (za4 (zmL zcN hr dz (zcb (zaF (zha (QE.mk (zbY zi9 (pv 9) zdl (zcp (pv 10)))) (zcb (zaF (zcb (zaF (zcb (zaF (zcb (zaF (zbZ (QE.mk ze) (zbZ (QE.mk ze) zam))) zam)) (zbZ (QE.mk ze) (zbZ (QE.mk ze) zam)))) zam)) zam))) (zha (QE.mk (zF zhX (zW (za ze zc)) (pv 10))) (zha (QE.mk (zbY zi9 (pv 8) zdl (zcp (pv 10)))) zam)))) (fun _=>rfl))) (zm (zD zgt)) zab)))))))))))))) (zm (zD zgt)))))),?_⟩;refine zp2 (a:=a) (m:=10) (dt:=zi8) (zK (zax (zM (zd (zM (zd (zM (zd zc2 (zd zy (zd zy zo)))) zo)) (zd (zM (zd (zM (zd (zM (zd (zM (zd zy (zd zy zo))) zo)) (zd zy (zd zy zo)))) zo)) zo))) zw) (zfM (zhU (zdc (zcB (zaa (zd zk (zd (zM (zd zy zo)) (zd (zM (zd (zM (zd (zM (zd zy (zd zy zo))) (zd (zM (zd zy (zd zy zo))) zo))) zo)) zo)))))) (zdc (zcB (zaa (zd zk (zd (zM (zd zy zo)) (zd (zM (zd (zM zo) zo)) zo))))))) (zaD zld) zcs)) rfl rfl (zk8 a) fun σ1 H1 z0 z1 s1=>?_;exact zri (m:=10) (db:=zqY) (zK (zax (zaa (zd zk zo)) zw) (zK (zax (zci (i:=0) (zd zk (zd zy zo))) zw) (zK (zax (zci (i:=0) (zd zk (zd zk zo))) zw) (zK (zfM (zqA (zaf znY (zbH zhE (zd zk zo)) zy)) (zax (zbH zdu (zd (zbf (zbS zk) zw zaC (zmd zg2 zk zfD (zfJ zy))) zo)) zw) zcs) (zK (zax (zci (i:=0) (zd zk (zd zk zo))) zw) (zK (zax (zci (i:=0) (zd zk (zd zk (zd zk (zd zk zo))))) zw) (zK (zax (zaf zbz (zaf zfA (zM (zd (zM (zd (zM (zd zy (zd zy zo))) (zd (zM (zd zy (zd zy zo))) (zd (zM (zd zy (zd zy zo))) zo)))) zo)) zy) (zM (zd (zM zo) (zd (zM (zd (zM (zd zy (zd zy zo))) zo)) zo)))) zw) (zK (zax (zbH zdu (zd (zbf (zcO (zd zy zo)) zw zaC (zM (zd (zaf zf5 zc2 (zaf zbz zk zy)) (zd zy (zd zy zo))))) zo)) zw) (zK (zfM (zdc (zcB (zaa (zd (zM (zd zk (zd zk zo))) (zd zk (zd zk zo)))))) (zaD zld) zcs) (zK (zax (zaf zbz zy (zci (i:=0) (zd zk (zd zy zo)))) zw) (zfM (zdc (zcB (zaa (zd (zM (zd (zmd zg2 zk zfD (zfJ zk)) (zd (zM (zd (zM (zd (zM (zd (zM (zd zy (zd zy zo))) zo)) (zd zy (zd zy zo)))) zo)) zo))) (zd (zaf zfA (zM (zd zy zo)) zk) (zd (zmd zg2 zk zfD (zfJ zk)) zo)))))) (zaD zld) zcs))))))))))) z0 z1 (s1.seq hS) hlen (fun n=>zjn a n) dz fun _ H2 _=>q H2
end
end My
theorem zdr:L2.tabsG=[((324,320),L2.lamKey (("bar_of" ++ ".<locals>.") ++ "<lambda>") ⟨123,33,0,0⟩),((317,315),L2.lamKey (("cheapest_filing" ++ ".<locals>.") ++ "<lambda>") ⟨119,26,0,0⟩)]:=rfl
namespace PySem.W.Fast
def tw4829503377077830246:Unit:=()
def tw10789339795255983425:Unit:=()
def tw16977881050897581660:Unit:=()
def tw5251918960834980967:Unit:=()
def tw14697099723570226124:Unit:=()
def tw8934342259308318908:Unit:=()
def tw15051951881938417891:Unit:=()
def tw6394049014311110697:Unit:=()
def tw5669062725214674782:Unit:=()
def tw10767482283338137582:Unit:=()
def tw144154703900222567:Unit:=()
def tw6261162110824094100:Unit:=()
def tw5191708806813085477:Unit:=()
def tw7298375520404049907:Unit:=()
def tw5131080263170325932:Unit:=()
def tw12672493965820850996:Unit:=()
def tw6076220329297239988:Unit:=()
def tw13708190908654853128:Unit:=()
def tw12441290414488813706:Unit:=()
def tw12736287330445189607:Unit:=()
def tw8154179149944049054:Unit:=()
def tw443209588728053973:Unit:=()
def tw13275691930778179021:Unit:=()
def tw16949970873588482276:Unit:=()
def tw7991438461250412044:Unit:=()
def tw1660987476216700800:Unit:=()
def tw2089723722330106046:Unit:=()
def tw2264762758610578909:Unit:=()
def tw4159597616297338569:Unit:=()
def tw13514976039334641119:Unit:=()
def tw7710546283413126305:Unit:=()
def tw7961953916249267127:Unit:=()
def tw15847918081612350338:Unit:=()
def tw5643323163243585212:Unit:=()
def tw11129933850186312591:Unit:=()
def tw17780606512692959386:Unit:=()
def tw9744742676335412754:Unit:=()
def tw15535752306421992129:Unit:=()
def tw11613634616146995553:Unit:=()
def tw11700072675268383298:Unit:=()
def tw13345203083884606888:Unit:=()
def tw1375239306178893770:Unit:=()
def tw542394868640925861:Unit:=()
def tw13933155306683085314:Unit:=()
def tw10420970237675891683:Unit:=()
def tw7432821251728525346:Unit:=()
def tw6742977209660271302:Unit:=()
def tw2307949159789748526:Unit:=()
def tw860159249046721699:Unit:=()
def tw2763718382072174870:Unit:=()
def tw8987206858265587541:Unit:=()
def tw5482215779751998596:Unit:=()
def tw17985855715240500137:Unit:=()
def tw15567422221701032911:Unit:=()
def tw1272547559227191809:Unit:=()
def tw5966752387616866695:Unit:=()
def tw4906064935782577769:Unit:=()
def tw17463756599780395831:Unit:=()
def tw1813497871773507096:Unit:=()
def tw5816921173197958977:Unit:=()
def tw9681679294025011864:Unit:=()
def tw11750020205425012434:Unit:=()
def tw10421140375967564967:Unit:=()
def tw68595596251375464:Unit:=()
def tw13375537480043654331:Unit:=()
def tw15356162624555458949:Unit:=()
def tw3265661778293592929:Unit:=()
def tw13713383664119624443:Unit:=()
def tw9552854372835377329:Unit:=()
def tw4628759748162517944:Unit:=()
def tw16471706975402785663:Unit:=()
def tw969255158410422385:Unit:=()
def tw13548971121027935924:Unit:=()
def tw7920199745679811322:Unit:=()
def tw5133763372155390430:Unit:=()
def tw10293634409783446988:Unit:=()
def tw1845624228136078386:Unit:=()
def tw5142098242048136740:Unit:=()
def tw17901664087087997828:Unit:=()
def tw17177820284637613425:Unit:=()
def tw4595557162710450006:Unit:=()
def tw10779054900138693618:Unit:=()
def tw208897755107449749:Unit:=()
def tw16444118713894674393:Unit:=()
def tw9103130729044069956:Unit:=()
def tw15942031375998205334:Unit:=()
def tw13824048993445826629:Unit:=()
def tw12933345463260609138:Unit:=()
def tw6618821858300759924:Unit:=()
def tw7580146397164238614:Unit:=()
def tw5186033095006596415:Unit:=()
def tw9425095057652507288:Unit:=()
def tw2754258472014832609:Unit:=()
def tw4086421442589860381:Unit:=()
def tw1344265789028458381:Unit:=()
def tw18004148538761723607:Unit:=()
def tw13427608384025100101:Unit:=()
def tw3516338642906129517:Unit:=()
def tw8501981854325641499:Unit:=()
def tw3906365844680906069:Unit:=()
def tw4763533667206638645:Unit:=()
def tw15613848373160805384:Unit:=()
def tw1205790222656885596:Unit:=()
def tw4351943506071072176:Unit:=()
def tw1704138397405601165:Unit:=()
def tw7834790260823489360:Unit:=()
def tw15198411079073535368:Unit:=()
def tw10926492447030123314:Unit:=()
def tw14322743568853931265:Unit:=()
def tw13163613603263748067:Unit:=()
def tw10427864234688740023:Unit:=()
def tw10735729634847270589:Unit:=()
def tw3651110421672173848:Unit:=()
def tw9829895868574832127:Unit:=()
def tw3581551259629373694:Unit:=()
def tw5737204329119235719:Unit:=()
def tw17744951199292442306:Unit:=()
def tw5369179165793228737:Unit:=()
def tw10115485864036118968:Unit:=()
def tw11115615505497548466:Unit:=()
def tw3668137305386506926:Unit:=()
def tw16389437246295131266:Unit:=()
def tw823782945778735172:Unit:=()
def tw8295885866307367057:Unit:=()
def tw15144374474094224505:Unit:=()
def tw7270529168416237236:Unit:=()
def tw14341818414904851413:Unit:=()
def tw17538983744873774252:Unit:=()
def tw13989930003998518405:Unit:=()
def tw4717658289667769868:Unit:=()
def tw10073304121290373329:Unit:=()
def tw8157708408195071206:Unit:=()
def tw2258131275400516539:Unit:=()
def tw17386858094089150270:Unit:=()
def tw5665486163402114331:Unit:=()
def tw14248537443521301284:Unit:=()
def tw255386478735362489:Unit:=()
def tw9895962814045930135:Unit:=()
def tw8193755490117165819:Unit:=()
def tw18361141934676486924:Unit:=()
def tw5751261620719162837:Unit:=()
def tw4074188174208771916:Unit:=()
def tw11787242901741862203:Unit:=()
def tw2766461025286006866:Unit:=()
def tw3567029180981383164:Unit:=()
def tw16650112986394389246:Unit:=()
def tw9611967086607276497:Unit:=()
def tw8099661117555888157:Unit:=()
def tw11135651287660933680:Unit:=()
def tw13547721423399673253:Unit:=()
def tw15547456681456769863:Unit:=()
def tw3682768711543897829:Unit:=()
def tw5943018875184576625:Unit:=()
def tw17669075948289953032:Unit:=()
def tw15501933836273871052:Unit:=()
def tw13931606977071762188:Unit:=()
def tw17278033495724269075:Unit:=()
def tw2313388066196084984:Unit:=()
def tw8134443181719697037:Unit:=()
def tw5142511747963390920:Unit:=()
def tw4217782677242909442:Unit:=()
def tw3857863423792220247:Unit:=()
def tw12056687142537513028:Unit:=()
def tw4043451208816766317:Unit:=()
def tw9075559430047457746:Unit:=()
def tw6100546476191713225:Unit:=()
def tw14599636837834453977:Unit:=()
def tw15444793394736393695:Unit:=()
def tw15291398048060587793:Unit:=()
def tw627803848293818621:Unit:=()
def tw5614915833439082932:Unit:=()
def tw14107382341822129072:Unit:=()
def tw928615615653417559:Unit:=()
def tw8723149317806012597:Unit:=()
def tw11304083626345533519:Unit:=()
def tw14179542743228370762:Unit:=()
def tw4874584476737294071:Unit:=()
def tw13340273523406450930:Unit:=()
def tw13981392787613526620:Unit:=()
def tw16207880618179309042:Unit:=()
def tw11667283375706031170:Unit:=()
def tw14334898213510764535:Unit:=()
def tw13837366287877426473:Unit:=()
def tw18073478180015842950:Unit:=()
def tw3439276688120674080:Unit:=()
def tw12386896771525379249:Unit:=()
def tw2338580803925057031:Unit:=()
def tw12491353791270940757:Unit:=()
def tw14370288306318958002:Unit:=()
def tw15164945941920701893:Unit:=()
def tw3881354827103530065:Unit:=()
def tw9207436054467333765:Unit:=()
def tw3182389818864160002:Unit:=()
def tw10981333899142107876:Unit:=()
def tw9290267034880756524:Unit:=()
def tw10311719035145610167:Unit:=()
def tw5813394736733803325:Unit:=()
def tw12716284178589243166:Unit:=()
def tw2650698022406932810:Unit:=()
def tw994338745331777870:Unit:=()
def tw11545404201151469577:Unit:=()
end PySem.W.Fast
open PySem PySem.W PyProof.Rows L2
set_option maxRecDepth 100000 in
set_option maxHeartbeats 0 in
theorem PySem.Challenge.cw_gaugewright_k67_filings_gone_through_holds : PySem.Challenge.rw_gaugewright_k67_filings_gone_through.Holds := by
 w_on; o_law; k_head; (case hw=>w_witness2)
 k_fill
 refine L2.walk_law (l := PySem.Challenge.rw_gaugewright_k67_filings_gone_through) (k := 13) rfl rfl ⟨rfl, by decide, by decide⟩ (fun w h Y => W.km_in_of Y) ?TT ?F
 case TT =>
  intro w h Y;have KX:=W.km_in_of Y;have t8:=W.km_tabs_of Y;refine⟨?nd,?hd,?em,?of⟩
  case nd=>rw [zdr]; show ([320,315]:List Nat).Nodup; decide
  case hd=>rw [zdr]; exact forall_mem_cons.mpr ⟨W.codeHd_of_K (c:=324) (P:=320) KX (by kernel_rfl),forall_mem_cons.mpr ⟨W.codeHd_of_K (c:=317) (P:=315) KX (by kernel_rfl),fun _ h=>nomatch h⟩⟩
  case em=>rw [zdr]; exact forall_mem_cons.mpr ⟨t8 320 (by k_mem),forall_mem_cons.mpr ⟨t8 315 (by k_mem),fun _ h=>nomatch h⟩⟩
  case of=>rw [zdr]; exact forall_mem_cons.mpr ⟨(by kernel_rfl),forall_mem_cons.mpr ⟨(by kernel_rfl),fun _ h=>nomatch h⟩⟩
 case F =>
  intro w mg fa h KX G hmg;have d_law:Dd (L2.KOf KX) mg "law" My.s_law ["script"]:=by
   dsimp only [L2.KOf];refine' Dd.mk' KX G ?a ?l ?c ?k ?b
   (case a=>k_is); (case l=>k_is); (case c=>k_is); (case k=>k_is); (case b=>intro _ _ _ _ _ _ us hl; obtain⟨_,rfl⟩:=L2.len1 hl; rfl)
  have g14:∃ t,mg "MOST_CHOICES" = some (.int 300 t):=by
   apply Exists.intro;apply W.mg_of KX G
   k_is
  have T:My.Txt mg:=by
   refine' ⟨W.mg_none_of KX G ?z0,W.mg_none_of KX G ?z1,W.mg_none_of KX G ?z2,W.mg_none_of KX G ?z3,W.mg_none_of KX G ?z4,W.mg_none_of KX G ?z5,W.mg_none_of KX G ?z6,W.mg_none_of KX G ?z7,W.mg_none_of KX G ?z8,W.mg_none_of KX G ?z9,W.mg_none_of KX G ?z10,W.mg_none_of KX G ?z11,W.mg_none_of KX G ?z12,W.mg_none_of KX G ?z13,g14⟩
   (case z0=>k_is); (case z1=>k_is); (case z2=>k_is); (case z3=>k_is); (case z4=>k_is); (case z5=>k_is); (case z6=>k_is); (case z7=>k_is); (case z8=>k_is); (case z9=>k_is); (case z10=>k_is); (case z11=>k_is); (case z12=>k_is); (case z13=>k_is)
  have m24:mg "GaugeError" = some (.ref 24):=by
   apply W.mg_of KX G
   k_is
  have c24:L2.ExCls (L2.KOf KX) 24 none:=by
   apply L2.exc_of_in;dsimp only [L2.KOf,L2.veB]
   k_exc
  have m37:mg "NoSpan" = some (.ref 37):=by
   apply W.mg_of KX G
   k_is
  have k37:L2.ExK (L2.KOf KX) 37:=by
   dsimp only [L2.KOf];refine' L2.ExK.mk' ?a ?b ?c ?d ?e ?f
   (case a=>k_is); (case b=>k_is); (case c=>k_is); (case d=>k_is); (case e=>k_is); (case f=>rfl)
  have c37:L2.ExCls (L2.KOf KX) 37 none:=by
   apply L2.exc_of_in;dsimp only [L2.KOf,L2.veB]
   k_exc
  have m49:mg "NoPart" = some (.ref 49):=by
   apply W.mg_of KX G
   k_is
  have k49:L2.ExK (L2.KOf KX) 49:=by
   dsimp only [L2.KOf];refine' L2.ExK.mk' ?a ?b ?c ?d ?e ?f
   (case a=>k_is); (case b=>k_is); (case c=>k_is); (case d=>k_is); (case e=>k_is); (case f=>rfl)
  have c49:L2.ExCls (L2.KOf KX) 49 none:=by
   apply L2.exc_of_in;dsimp only [L2.KOf,L2.veB]
   k_exc
  have m61:mg "NoSet" = some (.ref 61):=by
   apply W.mg_of KX G
   k_is
  have k61:L2.ExK (L2.KOf KX) 61:=by
   dsimp only [L2.KOf];refine' L2.ExK.mk' ?a ?b ?c ?d ?e ?f
   (case a=>k_is); (case b=>k_is); (case c=>k_is); (case d=>k_is); (case e=>k_is); (case f=>rfl)
  have c61:L2.ExCls (L2.KOf KX) 61 none:=by
   apply L2.exc_of_in;dsimp only [L2.KOf,L2.veB]
   k_exc
  have m73:mg "NoRow" = some (.ref 73):=by
   apply W.mg_of KX G
   k_is
  have k73:L2.ExK (L2.KOf KX) 73:=by
   dsimp only [L2.KOf];refine' L2.ExK.mk' ?a ?b ?c ?d ?e ?f
   (case a=>k_is); (case b=>k_is); (case c=>k_is); (case d=>k_is); (case e=>k_is); (case f=>rfl)
  have c73:L2.ExCls (L2.KOf KX) 73 none:=by
   apply L2.exc_of_in;dsimp only [L2.KOf,L2.veB]
   k_exc
  have m85:mg "Unlike" = some (.ref 85):=by
   apply W.mg_of KX G
   k_is
  have k85:L2.ExK (L2.KOf KX) 85:=by
   dsimp only [L2.KOf];refine' L2.ExK.mk' ?a ?b ?c ?d ?e ?f
   (case a=>k_is); (case b=>k_is); (case c=>k_is); (case d=>k_is); (case e=>k_is); (case f=>rfl)
  have c85:L2.ExCls (L2.KOf KX) 85 none:=by
   apply L2.exc_of_in;dsimp only [L2.KOf,L2.veB]
   k_exc
  have m104:mg "NoDrawing" = some (.ref 104):=by
   apply W.mg_of KX G
   k_is
  have k104:L2.ExK (L2.KOf KX) 104:=by
   dsimp only [L2.KOf];refine' L2.ExK.mk' ?a ?b ?c ?d ?e ?f
   (case a=>k_is); (case b=>k_is); (case c=>k_is); (case d=>k_is); (case e=>k_is); (case f=>rfl)
  have m123:mg "NoGap" = some (.ref 123):=by
   apply W.mg_of KX G
   k_is
  have k123:L2.ExK (L2.KOf KX) 123:=by
   dsimp only [L2.KOf];refine' L2.ExK.mk' ?a ?b ?c ?d ?e ?f
   (case a=>k_is); (case b=>k_is); (case c=>k_is); (case d=>k_is); (case e=>k_is); (case f=>rfl)
  have m142:mg "NoOffer" = some (.ref 142):=by
   apply W.mg_of KX G
   k_is
  have k142:L2.ExK (L2.KOf KX) 142:=by
   dsimp only [L2.KOf];refine' L2.ExK.mk' ?a ?b ?c ?d ?e ?f
   (case a=>k_is); (case b=>k_is); (case c=>k_is); (case d=>k_is); (case e=>k_is); (case f=>rfl)
  have m161:mg "NoText" = some (.ref 161):=by
   apply W.mg_of KX G
   k_is
  have k161:L2.ExK (L2.KOf KX) 161:=by
   dsimp only [L2.KOf];refine' L2.ExK.mk' ?a ?b ?c ?d ?e ?f
   (case a=>k_is); (case b=>k_is); (case c=>k_is); (case d=>k_is); (case e=>k_is); (case f=>rfl)
  have m180:mg "TooGreat" = some (.ref 180):=by
   apply W.mg_of KX G
   k_is
  have k180:L2.ExK (L2.KOf KX) 180:=by
   dsimp only [L2.KOf];refine' L2.ExK.mk' ?a ?b ?c ?d ?e ?f
   (case a=>k_is); (case b=>k_is); (case c=>k_is); (case d=>k_is); (case e=>k_is); (case f=>rfl)
  have sp:L2.SpK (L2.KOf KX):=by
   dsimp only [L2.KOf];refine' ⟨?a,?b⟩
   (case a=>k_is); (case b=>k_is)
  have i37:∃ ini,L2.ExCls (L2.KOf KX) 37 ini:=⟨_,c37⟩;have i49:∃ ini,L2.ExCls (L2.KOf KX) 49 ini:=⟨_,c49⟩;have i61:∃ ini,L2.ExCls (L2.KOf KX) 61 ini:=⟨_,c61⟩;have i73:∃ ini,L2.ExCls (L2.KOf KX) 73 ini:=⟨_,c73⟩;have i85:∃ ini,L2.ExCls (L2.KOf KX) 85 ini:=⟨_,c85⟩;have i104:∃ ini,L2.ExCls (L2.KOf KX) 104 ini:=by
   apply Exists.intro;refine' L2.exc_ofI ?l ?o ?s ?i c24
   (case l=>dsimp only [L2.KOf]; k_is); (case o=>dsimp only [L2.KOf]; k_is); (case s=>rfl); (case i=>dsimp only [L2.KOf]; k_is)
  have i123:∃ ini,L2.ExCls (L2.KOf KX) 123 ini:=by
   apply Exists.intro;refine' L2.exc_ofI ?l ?o ?s ?i c24
   (case l=>dsimp only [L2.KOf]; k_is); (case o=>dsimp only [L2.KOf]; k_is); (case s=>rfl); (case i=>dsimp only [L2.KOf]; k_is)
  have i142:∃ ini,L2.ExCls (L2.KOf KX) 142 ini:=by
   apply Exists.intro;refine' L2.exc_ofI ?l ?o ?s ?i c24
   (case l=>dsimp only [L2.KOf]; k_is); (case o=>dsimp only [L2.KOf]; k_is); (case s=>rfl); (case i=>dsimp only [L2.KOf]; k_is)
  have i161:∃ ini,L2.ExCls (L2.KOf KX) 161 ini:=by
   apply Exists.intro;refine' L2.exc_ofI ?l ?o ?s ?i c24
   (case l=>dsimp only [L2.KOf]; k_is); (case o=>dsimp only [L2.KOf]; k_is); (case s=>rfl); (case i=>dsimp only [L2.KOf]; k_is)
  have i180:∃ ini,L2.ExCls (L2.KOf KX) 180 ini:=by
   apply Exists.intro;refine' L2.exc_ofI ?l ?o ?s ?i c24
   (case l=>dsimp only [L2.KOf]; k_is); (case o=>dsimp only [L2.KOf]; k_is); (case s=>rfl); (case i=>dsimp only [L2.KOf]; k_is)
  have n180_many:L2.NoAttr (L2.KOf KX) 180 "many":=by
   unfold L2.NoAttr;dsimp only [L2.KOf]
   k_is
  have n180_most:L2.NoAttr (L2.KOf KX) 180 "most":=by
   unfold L2.NoAttr;dsimp only [L2.KOf]
   k_is
  have e180:L2.ExI (L2.KOf KX) 180:=by
   refine' ⟨k180,?b,?c⟩
   (case b=>dsimp only [L2.KOf]; k_is); (case c=>dsimp only [L2.KOf]; k_is)
  have r180:L2.XI (L2.KOf KX) 180 ["many","most"] "TooGreat.__init__" My.s_I_TooGreat:=by
   refine' L2.XI.mk' ?l ?o ?s ?i c24 ?t ?f ?c ?k ?b ?kc k180 e180.hd e180.sa ?na
   (case l=>dsimp only [L2.KOf]; k_is); (case o=>dsimp only [L2.KOf]; k_is); (case s=>rfl); (case i=>dsimp only [L2.KOf]; k_is); (case t=>dsimp only [L2.KOf]; k_is); (case f=>dsimp only [L2.KOf]; k_is); (case c=>dsimp only [L2.KOf]; k_is); (case k=>dsimp only [L2.KOf]; k_is); (case b=>intro _ _ _ _ _ _ us hl; obtain⟨_,_,_,rfl⟩:=L2.len3 hl; rfl); (case kc=>dsimp only [L2.KOf]; k_is)
   (case na=>intro a m; simp only [mem_cons,not_mem_nil,or_false] at m; rcases m with rfl | rfl <;> assumption)
  have a_many:L2.ExsI (L2.KOf KX) [180] "many":=by
   refine⟨fun C m=>?_,fun C m=>?_⟩
   ·simp only [mem_cons,not_mem_nil,or_false] at m;rcases m with rfl <;> assumption
   ·simp only [mem_cons,not_mem_nil,or_false] at m;rcases m with rfl <;> assumption
  have a_most:L2.ExsI (L2.KOf KX) [180] "most":=by
   refine⟨fun C m=>?_,fun C m=>?_⟩
   ·simp only [mem_cons,not_mem_nil,or_false] at m;rcases m with rfl <;> assumption
   ·simp only [mem_cons,not_mem_nil,or_false] at m;rcases m with rfl <;> assumption
  have ex:L2.Exs (L2.KOf KX):=by
   refine⟨sp,fun C m=>?_,fun C m=>?_,fun C m=>?_⟩
   ·simp only [L2.excs,mem_cons,not_mem_nil,or_false] at m;rcases m with rfl | rfl | rfl | rfl | rfl | rfl | rfl | rfl | rfl | rfl <;> assumption
   ·simp only [L2.exc0,mem_cons,not_mem_nil,or_false] at m;rcases m with rfl | rfl | rfl | rfl | rfl <;> assumption
   ·simp only [L2.excs,mem_cons,not_mem_nil,or_false] at m;rcases m with rfl | rfl | rfl | rfl | rfl | rfl | rfl | rfl | rfl | rfl <;> assumption
  have xx:My.Exx (L2.KOf KX) mg:=⟨ex,m24,m37,m49,m61,m73,m85,m104,m123,m142,m161,m180,c24,c37,c49,c61,c73,c85,r180,a_many,a_most⟩;have dd:My.Dds (L2.KOf KX) mg:=by constructor <;> (dsimp only [L2.KOf]; refine' Dd.mk' KX G ?a ?l ?c ?k ?b; (case a=>k_is); (case l=>k_is); (case c=>k_is); (case k=>k_is); (case b=>(intro _ _ _ _ _ _ us hl; first | (obtain⟨_,rfl⟩:=L2.len1 hl; rfl) | (obtain⟨_,_,rfl⟩:=L2.len2 hl; rfl) | (obtain⟨_,_,_,rfl⟩:=L2.len3 hl; rfl) | (obtain⟨_,_,_,_,rfl⟩:=L2.len4 hl; rfl) | (obtain⟨_,_,_,_,_,rfl⟩:=L2.len5 hl; rfl))))
  obtain⟨f,fd,F,hm,_⟩:=d_law.ex;have e0:=hmg.symm.trans hm;cases e0;have ll:My.Lams (L2.KOf KX) mg:=⟨⟨324,320,L2.CodeAt.of (P:=320) KX G (by dsimp only [L2.KOf]; kernel_rfl),by rw [zdr]; exact mem_cons_self⟩,⟨317,315,L2.CodeAt.of (P:=315) KX G (by dsimp only [L2.KOf]; kernel_rfl),by rw [zdr]; exact mem_cons_of_mem _ (mem_cons_self)⟩⟩;exact⟨fd,F.bind1 fun _ _ _ _ _ _ _=>rfl,fun base _ _=>My.ok_law T dd xx ll F⟩
#print axioms PySem.Challenge.cw_gaugewright_k67_filings_gone_through_holds
end