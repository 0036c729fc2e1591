import PyProof.Rows.All
import Wide.All
import OpenK.AllK
import Wide.FinOn
import Lean
import PyProof.EqAt
import PyProof.EqKinds
import PyProof.TupleCall
import KE.KTupSum
import KE.KSortTup
import PyProof.SetKind
import PyProof.SetRoads
import PyProof.SetNew
import PyProof.DictKinds
import PyProof.NsDelKeeps
import PyProof.StrWalks
import KE.KEqDict
import KE.KDictList
import PyProof.AttrMissSeq
import PyProof.WalksMore
import KE.KDictOf
import PyProof.Rows.Range3
import KE.KItemsList
import PyProof.FactsAll.dict_3
import KE.KMinKey
import PyProof.Rows.CallKwBuiltin
import PyProof.TupleOfSeq
import KE.KLam
import KE.KNestM
import PySem.Challenge.RW_gaugewright_k39_floors
open Option (isSome_iff_exists isSome_map map_eq_some_iff map_some)
open Nat (le_of_lt le_refl le_succ le_trans lt_irrefl lt_of_lt_of_le lt_succ_of_lt mul_comm mul_le_mul ne_of_gt ne_of_lt succ_mul zero_add zero_le)
open List (all_cons all_eq_true all_map any_cons append_assoc append_nil cons_append drop_eq_getElem_cons drop_length drop_zero eq_nil_of_length_eq_zero filter_cons find?_cons flatten_cons forIn_cons getD_eq_getElem?_getD getElem?_append_left getElem?_append_right getElem?_concat_length getElem?_cons_succ getElem?_cons_zero getElem?_eq_getElem getElem?_eq_none getElem?_map getElem?_range getElem?_set_ne getElem?_set_self getElem?_zip_eq_some getElem_mem isPrefixOf_iff_prefix length_append length_cons length_drop length_map length_nil length_set length_singleton length_take lookup_cons map_append map_congr_left map_cons map_drop map_id map_id' map_map map_nil map_set map_take mem_append mem_append_left mem_append_right mem_cons mem_cons_of_mem mem_cons_self mem_filter mem_flatMap mem_iff_getElem? mem_map mem_map_of_mem mem_of_getElem? mem_of_mem_drop mem_of_mem_take mem_range mem_reverse mem_singleton nil_append nodup_append nodup_cons nodup_nil not_mem_nil of_mem_zip pairwise_cons pairwise_map range_succ replicate_succ reverse_cons set_cons_succ set_cons_zero size_toArray sum_append sum_cons take_add_one take_length take_of_length_le take_zero zip_cons_cons)
open PySem.Heap (get?_push_of_some get?_push_size get?_update_other get?_update_self lt_size size_push)
open Array (length_toList)
theorem dz{p:Prop}[Decidable p](h:decide p=true:=by rfl):p:=of_decide_eq_true h
set_option Elab.async false
set_option linter.all false
set_option maxRecDepth 100000
set_option maxHeartbeats 8000000
noncomputable section
namespace L2
open PySem PySem.Spec PyProof.Rows
section
abbrev Key:=Sum Int Str
def zmO:Key->Value->Bool
 | .inl k,v=>Value.isInt k v
 | .inr x,v=>Value.isStrOf x v
def zwX(w:World):Key->Int
 | .inl k=>hashInt k
 | .inr x=>hashStr w x
theorem za4:∀ {k:Key} {v:Value},zmO k v=true->(∃ i t,k=Sum.inl i/\v=Value.int i t)\/(∃ x t,k=Sum.inr x/\v=Value.str x t)
 | .inl i,v,h=>by
  obtain⟨t,e⟩:=Value.isInt_shape (k:=i) (v:=v) h;exact .inl ⟨i,t,rfl,e⟩
 | .inr x,v,h=>by
  obtain⟨t,e⟩:=Value.isStrOf_shape (x:=x) (v:=v) h;exact .inr ⟨x,t,rfl,e⟩
theorem zn6(i:Int)(t:Tok):zmO (.inl i) (.int i t)=true:=by simp [zmO,Value.isInt]
theorem zpg(x:Str)(t:Tok):zmO (.inr x) (.str x t)=true:=by simp [zmO,Value.isStrOf]
theorem zuX(a b:Int):decide ((Sum.inl a:Key)=Sum.inl b)=(a == b):=by
 by_cases e:a=b
 ·subst e; simp
 ·have h:¬ (Sum.inl a:Key)=Sum.inl b:=fun q=>e (Sum.inl.inj q);rw [decide_eq_false h];exact(beq_eq_false_iff_ne.mpr e).symm
theorem ztQ(a b:Str):decide ((Sum.inr a:Key)=Sum.inr b)=decide (a=b):=by
 by_cases e:a=b
 ·subst e; simp
 ·have h:¬ (Sum.inr a:Key)=Sum.inr b:=fun q=>e (Sum.inr.inj q);rw [decide_eq_false h,decide_eq_false e]
theorem zt8(a:Int)(b:Str):decide ((Sum.inl a:Key)=Sum.inr b)=false:=decide_eq_false (fun q=>nomatch q)
theorem zvj(a:Str)(b:Int):decide ((Sum.inr a:Key)=Sum.inl b)=false:=decide_eq_false (fun q=>nomatch q)
def zbb(prog:Program)(w:World):PySem.KeyKind prog w Key where
 is:=zmO
 hash:=zwX w
 inj:=fun v a b ha hb=>by
  rcases za4 ha with ⟨i,t,rfl,rfl⟩ | ⟨x,t,rfl,rfl⟩
  ·rcases za4 hb with ⟨j,u,rfl,e⟩ | ⟨y,u,rfl,e⟩
   ·injection e with e1 _; rw [e1]
   ·exact nomatch e
  ·rcases za4 hb with ⟨j,u,rfl,e⟩ | ⟨y,u,rfl,e⟩
   ·exact nomatch e
   ·injection e with e1 _; rw [e1]
 byValue:=fun k v h=>by
  rcases za4 h with ⟨i,t,rfl,rfl⟩ | ⟨x,t,rfl,rfl⟩ <;> rfl
 pyHash:=fun hv h=>by
  rcases za4 hv with ⟨i,t,rfl,rfl⟩ | ⟨x,t,rfl,rfl⟩
  ·exact wpAny_pyHash_int h
  ·exact wpAny_pyHash_str h
 eqBool:=fun hu hv h=>by
  rcases za4 hu with ⟨i,t,rfl,rfl⟩ | ⟨x,t,rfl,rfl⟩
  ·rcases za4 hv with ⟨j,u,rfl,rfl⟩ | ⟨y,u,rfl,rfl⟩
   ·rw [zuX] at h; exact wpAny_eqBool_int h
   ·rw [zt8] at h; exact SeqAt.EqAt.int_str i t y u _ _ _ _ h
  ·rcases za4 hv with ⟨j,u,rfl,rfl⟩ | ⟨y,u,rfl,rfl⟩
   ·rw [zvj] at h; exact SeqAt.EqAt.str_int x t j u _ _ _ _ h
   ·rw [ztQ] at h; exact wpAny_eqBool_str h
 «strs»:=fun k x t v h=>by
  rcases za4 h with ⟨i,u,rfl,e⟩ | ⟨y,u,rfl,e⟩
  ·exact nomatch e
  ·injection e with e1 _
   subst e1;cases v <;> rfl
theorem zk6(prog:Program)(w:World)(i:Int)(t:Tok):(zbb prog w).is (.inl i) (.int i t)=true:=zn6 i t
theorem zk7(prog:Program)(w:World)(x:Str)(t:Tok):(zbb prog w).is (.inr x) (.str x t)=true:=zpg x t
end
section
inductive V where
 | non | bl (b:Bool) | int (i:Int) | str (x:Str) | byt (b:Array UInt8) | flt (b:UInt64) | ref (a:Addr) | ty (n:String)
 deriving DecidableEq
def RelV:V->Value->Prop
 | .non,u=>u=Value.none
 | .bl b,u=>u=Value.bool b
 | .int i,u=>∃ t,u=Value.int i t
 | .str x,u=>∃ t,u=Value.str x t
 | .byt b,u=>∃ t,u=Value.bytes b t
 | .flt b,u=>∃ t,u=Value.float b t
 | .ref a,u=>u=Value.ref a
 | .ty n,u=>u=Value.type n
abbrev Vals:List V->List Value->Prop:=Paired RelV
theorem Vals.length{xs:List V}{us:List Value}(r:Vals xs us):xs.length=us.length:=Paired.length r
theorem Vals.get:∀ {xs:List V} {us:List Value} {i:Nat} {x:V},Vals xs us->xs[i]? = some x->∃ u,us[i]? = some u/\RelV x u
 | _,_,_,_,.nil,e=>by simp at e
 | _,_,0,_,.cons r _,e=>by simp at e; subst e; exact⟨_,rfl,r⟩
 | _,_,i+1,x,.cons _ t,e=>by
  obtain⟨u,h1,h2⟩:=Vals.get (i:=i) (x:=x) t (by simpa using e);exact⟨u,by simpa using h1,h2⟩
theorem Vals.set{x:V}{u:Value}(r:RelV x u):∀ {xs:List V} {us:List Value} (i:Nat),Vals xs us->Vals (xs.set i x) (us.set i u)
 | _,_,_,.nil=>.nil
 | _,_,0,.cons _ t=>.cons r t
 | _,_,i+1,.cons q t=>.cons q (Vals.set r i t)
theorem Vals.append:∀ {xs ys:List V} {us ws:List Value},Vals xs us->Vals ys ws->Vals (xs++ys) (us++ws)
 | _,_,_,_,.nil,s=>s
 | _,_,_,_,.cons r t,s=>.cons r (Vals.append t s)
theorem Vals.take:∀ {xs:List V} {us:List Value} (n:Nat),Vals xs us->Vals (xs.take n) (us.take n)
 | _,_,0,_=>.nil
 | _,_,_+1,.nil=>.nil
 | _,_,n+1,.cons r t=>.cons r (Vals.take n t)
theorem Vals.drop:∀ {xs:List V} {us:List Value} (n:Nat),Vals xs us->Vals (xs.drop n) (us.drop n)
 | _,_,0,r=>r
 | _,_,_+1,.nil=>.nil
 | _,_,n+1,.cons _ t=>Vals.drop n t
def RelO:Option V->Option Value->Prop
 | some v,some u=>RelV v u
 | none,none=>True
 | _,_=>False
def KV{κ:Type}:List (κ×V)->List (κ×Value)->Prop:=Paired fun(p:κ×V) (q:κ×Value)=>p.1=q.1/\RelV p.2 q.2
def kV:Key->V
 | .inl i=>.int i
 | .inr x=>.str x
inductive HO where
 | lst (xs:List V)
 | tup (xs:List V)
 | dK (kvs:List (Key×V)) | dT (kvs:List (List Key×V))
 | set (S:Int->Bool) (n:Nat)
 | ins (C dx:Addr) (fs:List (Str×V))
 | own (x:Addr)
 | xd (fs:List (Str×V))
 | met (f x:Addr)
 | rng (lo hi:Int)
 | frz (o:Obj) (u:HO)
 | tbl (ps:Array Value)
 | ext (φ:Heap->Prop)
abbrev Hp:=Addr->Option HO
def upd(H:Hp)(a:Addr)(o:HO):Hp:=fun b=>if b=a then some o else H b
theorem zaA{H:Hp}{a:Addr}{o:HO}:upd H a o a=some o:=by unfold upd; rw [if_pos rfl]
theorem zS{H:Hp}{a b:Addr}{o:HO}(h:b≠a):upd H a o b=H b:=by unfold upd; rw [if_neg h]
theorem zvM{H:Hp}{a b:Addr}{o u:HO}(h:H a=some o)(h':H b=some u)(d:o≠u):a≠b:=by
 intro e; subst e; rw [h] at h'; exact d (Option.some.inj h')
theorem zY{H:Hp}{a b:Addr}{o:HO}(h:H a=some o)(h':H b=none):a≠b:=by
 intro e; subst e; rw [h] at h'; cases h'
def TblOk(H:Hp)(ps qs:Array Value):Prop:=qs = #[]\/∃ (l c:Value) (q:Str) (t:Tok) (k:Addr) (oc:Obj) (vs:Array Value) (t':Tok),ps = #[l,c,.str q t]/\qs = #[l,c,.ref k]/\H k=some (.frz oc (.own 0))/\oc.data=.fields vs/\vs[1]? = some (.str q t')
theorem TblOk.stay{H H':Hp}{ps qs:Array Value}(x:TblOk H ps qs)(hf:∀ b o u,H b=some (.frz o u)->H' b=some (.frz o u)):TblOk H' ps qs:=by
 rcases x with x | ⟨l,c,q,t,k,oc,vs,t',e1,e2,e3,r⟩
 ·exact .inl x
 ·exact .inr ⟨l,c,q,t,k,oc,vs,t',e1,e2,hf _ _ _ e3,r⟩
section
variable (P:Program) (w:World)
def ObjOk(H:Hp)(h:Heap)(a:Addr):HO->Prop
 | .lst xs=>xs.length<=sizeLine/\∃ (its:List Value) (n:Nat),Vals xs its/\h.get? a=some { cls:=.type "list",data:=.seq its.toArray n }
 | .tup xs=>(xs.length<=sizeLine/\∃ o:Obj,h.get? a=some o/\o.dict=none)/\∃ its:List Value,Vals xs its/\IsTup h a its.toArray
 | .dK kvs=>kvs.length<=sizeLine/\(a == sysModules)=false/\∃ vs,KV kvs vs/\h.DictOf (zbb P w) a vs
 | .dT kvs=>kvs.length<=sizeLine/\(a == sysModules)=false/\∃ xs:List (List Key×Addr×Value),
   Paired (fun(p:List Key×V) (q:List Key×Addr×Value)=>p.1=q.1/\H q.2.1=some (.tup (p.1.map kV))/\RelV p.2 q.2.2) kvs xs /\
   ∃ o es ep,h.get? a=some o/\o.ExactDict/\o.data=.dict es ep/\es.toList=xs.map (entryOfKey (tupleKind (zbb P w)))/\(xs.map (·.1)).Nodup
 | .set S n=>h.SetOf (intKind P w) a S n
 | .ins C dx fs=>H dx=some (.own a)/\fs.length<=1000/\dx≠a/\h.get? a=some (W.instObj C dx) /\
   ∃ mA,h.Ns1 dx mA/\(∀ f,RelO (fs.lookup f) (mA f))/\PySem.Within mA (fs.map (·.1))
 | .own _=>∃ o,h.get? a=some o
 | .xd fs=>∃ mA,h.Ns1 a mA/\∀ f,RelO (fs.lookup f) (mA f)
 | .rng lo hi=>∃ t u v,h.get? a=some { cls:=.type "range",data:=.fields #[.int lo t,.int hi u,.int 1 v] }
 | .frz o u=>h.get? a=some o/\ObjOk H h a u
 | .tbl ps=>∃ qs:Array Value,h.get? a=some { cls:=.none,data:=.fields qs }/\TblOk H ps qs
 | .met f x=>h.get? a=some (W.methodObj (.ref f) (.ref x))
 | .ext φ=>φ h/\(∃ o,h.get? a=some o)/\∀ h1 h2:Heap,φ h1->(∀ o,h1.get? a=some o->h2.get? a=some o)->φ h2
def HOk(H:Hp)(h:Heap):Prop:=∀ a o,H a=some o->ObjOk P w H h a o
end
section
variable {P:Program} {w:World} {H H':Hp} {h h':Heap} {a:Addr} {o:HO}
theorem ObjOk.lt(x:ObjOk P w H h a o):a<h.objs.size:=by
 cases o with
 | lst xs=>obtain⟨_,_,_,_,e⟩:=x; exact lt_size e
 | tup xs=>obtain⟨_,_,_,p⟩:=x; exact p.lt
 | dK kvs=>obtain⟨_,_,_,_,o,_,_,e,_⟩:=x; exact lt_size e
 | dT kvs=>obtain⟨_,_,_,_,o,_,_,e,_⟩:=x; exact lt_size e
 | set S n=>obtain⟨o,_,_,_,e,_⟩:=x; exact lt_size e
 | ins C dx fs=>obtain⟨_,_,_,e,_⟩:=x; exact lt_size e
 | own y=>obtain⟨_,e⟩:=x; exact lt_size e
 | xd fs=>obtain⟨_,⟨_,_,_,e,_⟩,_⟩:=x; exact lt_size e
 | rng lo hi=>obtain⟨_,_,_,e⟩:=x; exact lt_size e
 | frz ob u=>obtain⟨e,_⟩:=x; exact lt_size e
 | tbl ps=>obtain⟨_,e,_⟩:=x; exact lt_size e
 | met f y=>exact lt_size (show h.get? a=some _ from x)
 | ext φ=>obtain⟨_,⟨_,e⟩,_⟩:=x; exact lt_size e
theorem Paired.mapP{α β:Type}{F G:α->β->Prop}:∀ {l₁:List α} {l₂:List β},Paired F l₁ l₂->(∀ a b,F a b->G a b)->Paired G l₁ l₂
 | _,_,.nil,_=>.nil
 | _,_,.cons r t,f=>.cons (f _ _ r) (Paired.mapP t f)
theorem ObjOk.stay(x:ObjOk P w H h a o)(k:∀ b u,(b=a\/H b=some (.own a))->h.get? b=some u->h'.get? b=some u)
  (ho:∀ b,H b=some (.own a)->H' b=some (.own a)) (ht:∀ b xs,H b=some (.tup xs)->H' b=some (.tup xs))
  (hf:∀ b o u,H b=some (.frz o u)->H' b=some (.frz o u):=by first | exact fun _ _ _ q=>q | (intro b o u q; rw [zS (zY q (by assumption))]; exact q)):ObjOk P w H' h' a o:=by
 induction o with
 | lst xs=>obtain⟨z,its,n,r,e⟩:=x; exact⟨z,its,n,r,k _ _ (.inl rfl) e⟩
 | tup xs=>obtain⟨⟨z,o2,e2,d2⟩,its,r,ob,e,c⟩:=x; exact⟨⟨z,o2,k _ _ (.inl rfl) e2,d2⟩,its,r,ob,k _ _ (.inl rfl) e,c⟩
 | dK kvs=>obtain⟨z,y,vs,r,ob,es,ep,e,c⟩:=x; exact⟨z,y,vs,r,ob,es,ep,k _ _ (.inl rfl) e,c⟩
 | dT kvs =>
  obtain⟨z,y,xs,r,ob,es,ep,e,c⟩:=x;exact⟨z,y,xs,Paired.mapP r fun p q z=>⟨z.1,ht _ _ z.2.1,z.2.2⟩,ob,es,ep,k _ _ (.inl rfl) e,c⟩
 | set S n=>obtain⟨ob,es,ep,t,e,c⟩:=x; exact⟨ob,es,ep,t,k _ _ (.inl rfl) e,c⟩
 | ins C dx fs =>
  obtain⟨d,z,ne,e,mA,⟨od,es,ep,e2,c⟩,r⟩:=x;exact⟨ho _ d,z,ne,k _ _ (.inl rfl) e,mA,⟨od,es,ep,k _ _ (.inr d) e2,c⟩,r⟩
 | own y=>obtain⟨ob,e⟩:=x; exact⟨ob,k _ _ (.inl rfl) e⟩
 | xd fs=>obtain⟨mA,⟨od,es,ep,e,c⟩,r⟩:=x; exact⟨mA,⟨od,es,ep,k _ _ (.inl rfl) e,c⟩,r⟩
 | rng lo hi=>obtain⟨t,u,v,e⟩:=x; exact⟨t,u,v,k _ _ (.inl rfl) e⟩
 | frz ob u ih=>obtain⟨e,q⟩:=x; exact⟨k _ _ (.inl rfl) e,ih q⟩
 | tbl ps =>
  obtain⟨qs,e,q⟩:=x;exact⟨qs,k a _ (.inl rfl) e,q.stay hf⟩
 | met f y =>
  have e:h.get? a=some (W.methodObj (.ref f) (.ref y)):=x;show h'.get? a=some (W.methodObj (.ref f) (.ref y));exact k a _ (.inl rfl) e
 | ext φ=>obtain⟨p,⟨o,e⟩,st⟩:=x; exact⟨st _ _ p fun o q=>k _ _ (.inl rfl) q,⟨o,k _ _ (.inl rfl) e⟩,st⟩
theorem HOk.lt(x:HOk P w H h)(e:H a=some o):a<h.objs.size:=(x a o e).lt
theorem HOk.fresh(x:HOk P w H h)(e:h.objs.size<=a):H a=none:=by
 cases q:H a with
 | none=>rfl
 | some u=>exact absurd (lt_of_lt_of_le (x.lt q) e) (lt_irrefl _)
theorem HOk.kept(x:HOk P w H h)(k:∀ b u,h.get? b=some u->h'.get? b=some u):HOk P w H h':=fun a o e =>
 (x a o e).stay (fun b u _ q=>k b u q) (fun _ q=>q) fun _ _ q=>q
theorem HOk.laid(x:HOk P w H h)(k:∀ b u,h.get? b=some u->h'.get? b=some u)(hp:h.objs.size<=a)(new:ObjOk P w (upd H a o) h' a o):HOk P w (upd H a o) h':=fun b u e=>by
 have hn:=x.fresh hp;by_cases hb:b=a
 ·subst hb; rw [zaA] at e; cases e; exact new
 ·rw [zS hb] at e;exact(x b u e).stay (fun c v _ q=>k c v q) (fun c q=>by rw [zS (zY q hn)]; exact q) fun c xs q=>by rw [zS (zY q hn)]; exact q
end
def Rd(H:Hp)(a:Addr)(u:HO):Prop:=H a=some u\/∃ o,H a=some (.frz o u)
theorem Rd.ok{P:Program}{w:World}{H:Hp}{h:Heap}{a:Addr}{u:HO}(r:Rd H a u)(x:HOk P w H h):ObjOk P w H h a u:=by
 rcases r with r | ⟨o,r⟩
 ·exact x a u r
 ·obtain⟨_,q⟩:=x a _ r;exact q
def Mut:Option HO->Prop
 | some (.lst _)=>True
 | some (.dK _)=>True
 | some (.dT _)=>True
 | some (.set _ _)=>True
 | some (.ins _ _ _)=>True
 | some (.ext _)=>True
 | _=>False
section
variable {P:Program} {w:World} {H:Hp} {h h':Heap} {x e:Addr} {o':HO}
theorem HOk.write(ok:HOk P w H h)(mu:Mut (H x))(he:e=x\/H e=some (.own x))(k:∀ b u,b≠e->h.get? b=some u->h'.get? b=some u)(heo:∃ u,h'.get? e=some u)
  (new:ObjOk P w (upd H x o') h' x o'):HOk P w (upd H x o') h':=fun b u q=>by
 have nown:∀ c y,H c=some (.own y)->c≠x:=fun c y r z=>by subst z; rw [r] at mu; exact mu
 have ntup:∀ c xs,H c=some (.tup xs)->c≠x:=fun c xs r z=>by subst z; rw [r] at mu; exact mu
 have nfrz:∀ c o u,H c=some (.frz o u)->c≠x:=fun c o u r z=>by subst z; rw [r] at mu; exact mu
 by_cases hb:b=x
 ·subst hb; rw [zaA] at q; cases q; exact new
 ·rw [zS hb] at q;by_cases hbe:b=e
  ·have q':H b=some (.own x):=by
    rcases he with z | z
    ·exact absurd (hbe.trans z) hb
    ·rw [hbe]; exact z
   rw [q] at q'; cases q';obtain⟨v,hv⟩:=heo;exact⟨v,by rw [hbe]; exact hv⟩
  ·refine(ok b u q).stay (fun c v hc r=>k c v ?_ r) (fun c r=>by rw [zS (nown c b r)]; exact r) (fun c xs r=>by rw [zS (ntup c xs r)]; exact r) fun c o u r=>by rw [zS (nfrz c o u r)]; exact r
   rcases hc with rfl | hc
   ·exact hbe
   ·rintro rfl;rcases he with z | z
    ·exact nown c b hc z
    ·rw [hc] at z; cases z; exact hb rfl
end
structure Un(fs ex:List Addr)(H H':Hp)(h h':Heap):Prop where
 keep:∀ b o,h.get? b=some o->H b=none->b∉fs->b∉ex->h'.get? b=some o
 slot:∀ b o,h.get? b=some o->H b=none->b∈fs->b∉ex->∃ sl,h'.get? b=some { o with slots:=sl }
 free:∀ b o,h.get? b=some o->H b=none->b∉ex->H' b=none
 there:∀ b o,h.get? b=some o->b∉ex->∃ o',h'.get? b=some o'
 tups:∀ b xs,H b=some (.tup xs)->H' b=some (.tup xs)
 frzs:∀ b o u,H b=some (.frz o u)->H' b=some (.frz o u)
 tbls:∀ b ps,H b=some (.tbl ps)->H' b=some (.tbl ps)
section
variable {fs fs' ex ex':List Addr} {H H1 H2:Hp} {h h1 h2 h':Heap} {a x e:Addr} {o:HO}
theorem Un.any(u:Un fs ex H H1 h h1){b:Addr}{ob:Obj}(q:h.get? b=some ob)(n:H b=none)(hx:b∉ex):∃ sl,h1.get? b=some { ob with slots:=sl }:=by
 by_cases hb:b∈fs
 ·exact u.slot b ob q n hb hx
 ·exact⟨ob.slots,u.keep b ob q n hb hx⟩
theorem Un.trans(a:Un fs ex H H1 h h1)(b:Un fs ex H1 H2 h1 h2):Un fs ex H H2 h h2 where
 keep:=fun c ob q n hc hx=>b.keep c ob (a.keep c ob q n hc hx) (a.free c ob q n hx) hc hx
 slot:=fun c ob q n hc hx=>by
  obtain⟨sl,e1⟩:=a.slot c ob q n hc hx;obtain⟨sl',e2⟩:=b.slot c _ e1 (a.free c ob q n hx) hc hx;exact⟨sl',e2⟩
 free:=fun c ob q n hx=>by
  obtain⟨o',e1⟩:=a.there c ob q hx;exact b.free c o' e1 (a.free c ob q n hx) hx
 there:=fun c ob q hx=>by
  obtain⟨o',e1⟩:=a.there c ob q hx;exact b.there c o' e1 hx
 tups:=fun c xs q=>b.tups c xs (a.tups c xs q)
 frzs:=fun c ob xs q=>b.frzs c ob xs (a.frzs c ob xs q)
 tbls:=fun c ps q=>b.tbls c _ (a.tbls c ps q)
theorem Un.kept(k:∀ b u,h.get? b=some u->h'.get? b=some u):Un fs ex H H h h' :=
 ⟨fun b ob q _ _ _=>k b ob q,fun b ob q _ _ _=>⟨ob.slots,k b ob q⟩,fun _ _ _ n _=>n,fun b ob q _=>⟨ob,k b ob q⟩,fun _ _ q=>q,fun _ _ _ q=>q,fun _ _ q=>q⟩
theorem Un.refl:Un fs ex H H h h:=Un.kept fun _ _ q=>q
theorem Un.laid(k:∀ b u,h.get? b=some u->h'.get? b=some u)(hp:h.objs.size<=a)(hn:H a=none):Un fs ex H (upd H a o) h h' where
 keep:=fun b u q _ _ _=>k b u q
 slot:=fun b u q _ _ _=>⟨u.slots,k b u q⟩
 free:=fun b u q n _=>by rw [zS (ne_of_lt (lt_of_lt_of_le (lt_size q) hp))]; exact n
 there:=fun b u q _=>⟨u,k b u q⟩
 tups:=fun b xs q=>by rw [zS (zY q hn)]; exact q
 frzs:=fun b u xs q=>by rw [zS (zY q hn)]; exact q
 tbls:=fun b ps q=>by rw [zS (zY q hn)]; exact q
theorem Un.write(mu:Mut (H x))(he:e=x\/H e=some (.own x))(k:∀ b u,b≠e->h.get? b=some u->h'.get? b=some u)(heo:∃ u,h'.get? e=some u):Un fs ex H (upd H x o) h h':=by
 have hx:∀ b,H b=none->b≠x:=fun b n z=>by subst z; rw [n] at mu; exact mu
 have hb:∀ b,H b=none->b≠e:=fun b n z=>by
  subst z;rcases he with r | r
  ·exact hx b n r
  ·rw [n] at r; cases r
 have hm:∀ b u,H b=some u->¬ Mut (some u)->b≠x:=fun b u q nm z=>by subst z; rw [q] at mu; exact nm mu
 refine⟨fun b u q n _ _=>k b u (hb b n) q,fun b u q n _ _=>⟨u.slots,k b u (hb b n) q⟩,fun b u q n _=>by rw [zS (hx b n)]; exact n,fun b u q _=>?_,
  fun b xs q=>by rw [zS (hm b _ q fun z=>z)]; exact q,fun b u xs q=>by rw [zS (hm b _ q fun z=>z)]; exact q,fun b ps q=>by rw [zS (hm b _ q fun z=>z)]; exact q⟩
 by_cases hbe:b=e
 ·subst hbe; exact heo
 ·exact⟨u,k b u hbe q⟩
theorem Un.mono(u:Un fs ex H H1 h h1)(hs:∀ b∈fs,b∈fs')(hx:∀ b∈ex,b∈ex'):Un fs' ex' H H1 h h1 :=
 ⟨fun b ob q n hb he=>u.keep b ob q n (fun z=>hb (hs b z)) fun z=>he (hx b z),fun _ _ q n _ he=>u.any q n fun z=>he (hx _ z),fun b ob q n he=>u.free b ob q n fun z=>he (hx b z),fun b ob q he=>u.there b ob q fun z=>he (hx b z),u.tups,u.frzs,u.tbls⟩
end
def trk(h:Heap)(H:Hp):List Addr:=(List.range h.objs.size).filter fun a=>(H a).isSome
def zqh(h:Heap)(H:Hp):Heap:=W.hideAll h (trk h H)
theorem znp(h:Heap)(H:Hp):(zqh h H).objs.size=h.objs.size:=W.hideAll_size _ _
theorem zqA{h:Heap}{H:Hp}{b:Addr}{o:Obj}(e:h.get? b=some o)(n:H b=none):(zqh h H).get? b=some o :=
 W.hideAll_get _ e fun hm=>by
  have q:(H b).isSome=true:=(mem_filter.mp hm).2;rw [n] at q; simp at q
theorem zs8{h:Heap}{H:Hp}{b:Addr}{o:Obj}(e:(zqh h H).get? b=some o):h.get? b=some o/\H b=none:=by
 have e':h.get? b=some o:=W.of_hideAll (trk h H) e;refine⟨e',?_⟩;cases q:H b with
 | none=>rfl
 | some x =>
  have hm:b∈trk h H:=mem_filter.mpr ⟨mem_range.mpr (lt_size e'),by simp [q]⟩;have z:(zqh h H).get? b=none:=W.hideAll_none (trk h H) hm;rw [z] at e; cases e
def zsV(g h:Heap)(L:Addr):List (Addr×Obj):=(List.range h.objs.size).filterMap fun a=>if a=L\/(g.get? a).isSome=true then none else (h.get? a).map fun o=>(a,o)
def rest(g h:Heap)(L d:Addr):List (Addr×Obj):=(zsV g h L).filter fun p=>decide (p.1≠d)
end
section
def tabsG:List ((Addr×Addr)×Array Value):=[((184,180),#[rawInt ((99:Nat):Int),rawInt ((33:Nat):Int),.str (("floor_of" ++ ".<locals>.") ++ "<lambda>") 0])]
def BltAt(base:Heap)(mg:Str->Option Value):Prop:=∃ bm ob,mg "__builtins__" = some (.ref bm)/\bm≠builtinsNs/\base.get? bm=some ob/\ob.cls=.type "module"/\ob.dict=some builtinsNs/\ob.data=.plain
structure Frf(fs:List Addr)(H:Hp):Prop where
 free:∀ b∈fs,H b=none
 tab:∀ q∈tabsG,H q.1.2=some (.tbl q.2)
structure Mod(K:W.Frag)(mg:Str->Option Value)(base:Heap):Prop where
 kin:K.In base
 glob:base.Ns mainGlobals mg
 blt:∃ mb,base.Ns builtinsNs mb/\∀ x:Str,x ≠ "__name__"->mb x=bootBuiltins x
 nolimit:base.NoLimit
 bm:BltAt base mg
 hd:∀ q∈tabsG,W.CodeHd base q.1.1 q.1.2
structure Cx where
 prog:Program
 w:World
 K:W.Frag
 mg:Str->Option Value
 base:Heap
 A:Around
 N:List Str
 s₀:Shared
 H₀:Hp
 env:Env
 outer:List Env
 stack:List Env
 ex:List Addr
 fn:Str->Bool
 calm:Bool
 pn:List (Addr×Obj)
 xe:Value->Shared->Prop
def frs(l:List Env):List Addr:=l.filterMap (·.frame)
abbrev Cx.fs (X:Cx):List Addr:=frs X.outer
def Vis(sc:Scope)(x:Str):Prop:=sc.names.lookup x=some .local\/sc.names.lookup x=some .cell\/sc.names.lookup x=some .free
def Loc(sc:Scope)(x:Str):Prop:=sc.names.lookup x=some .local\/sc.names.lookup x=some .cell
def Look(env:Env)(h:Heap)(m:Str->Option Value)(x:Str)(u:Value):Prop :=
 (env.kindOf x=some .local/\m x=some u)\/((env.kindOf x=some .cell\/env.kindOf x=some .free)/\∃ c,env.cells.lookup x=some c/\h.IsCell c (some u))
structure Cx.Ok(X:Cx):Prop where
 mod:Mod X.K X.mg X.base
 kind:X.env.scope.kind=.function
 glob:X.env.globals=mainGlobals
 blt:X.env.builtins=builtinsNs
 above:X.s₀.heap.objs.size<=X.env.locals
 inj:∀ x y c,X.env.cells.lookup x=some c->X.env.cells.lookup y=some c->x=y
 has:∀ x,(X.env.kindOf x=some .cell\/X.env.kindOf x=some .free)->∃ c,X.env.cells.lookup x=some c
 cab:∀ x c,X.fn x=true->X.env.cells.lookup x=some c->X.s₀.heap.objs.size<=c
 hd:X.calm=true->X.A.handled=none
 frames:X.A.frames=some X.stack
 stk:X.stack=X.outer\/(X.stack=X.env :: X.outer/\X.env.frame=some X.env.locals)
 exf:∀ b∈X.ex,b≠X.env.locals/\∀ x c,X.env.cells.lookup x=some c->c≠b
 bs:∀ b o,X.base.get? b=some o->X.s₀.heap.get? b=some o/\X.H₀ b=none
 bsz:X.base.objs.size<=X.s₀.heap.objs.size
 noex:∀ b o,X.base.get? b=some o->b∉X.ex
 exfs:∀ b∈X.ex,b∉X.fs
 funs:X.s₀.heap.FunFrames X.base X.outer
 frf:Frf X.fs X.H₀
structure Inv(X:Cx)(zn:List (Addr×Obj))(σ:List (Option V))(H:Hp)(s:Shared):Prop where
 ok:X.Ok
 os:s.os=X.s₀.os
 bare:AllBare s.gens
 base:Un X.fs X.ex X.H₀ H X.s₀.heap s.heap
 loc:∃ m,s.heap.Ns X.env.locals m/\∀ (i:Nat) (x:Str) (v:V),X.N[i]? = some x->σ[i]? = some (some v)->Vis X.env.scope x->∃ u,RelV v u/\Look X.env s.heap m x u
 cell:∀ x c,X.env.cells.lookup x=some c->∃ v,s.heap.IsCell c v
 free:H X.env.locals=none
 freeC:∀ x c,X.env.cells.lookup x=some c->H c=none
 pin:∀ p∈X.pn++zn,s.heap.get? p.1=some p.2/\H p.1=none/\p.1≠X.env.locals/\p.1∉X.fs/\∀ v,p.2.data≠.cell v
 hok:HOk X.prog X.w H s.heap
 len:σ.length=X.N.length
section
variable {X:Cx} {zn:List (Addr×Obj)} {σ:List (Option V)} {H H':Hp} {s:Shared} {h':Heap}
theorem Cx.Ok.nofr(ok:X.Ok){b:Addr}{o:Obj}(e:X.base.get? b=some o):b∉X.fs:=fun hb=>by
 have:=(ok.funs.mem hb).1;rw [e] at this; cases this
theorem Inv.bs(I:Inv X zn σ H s):∀ b o,X.base.get? b=some o->s.heap.get? b=some o/\H b=none:=fun b o e =>
 ⟨I.base.keep b o (I.ok.bs b o e).1 (I.ok.bs b o e).2 (I.ok.nofr e) (I.ok.noex b o e),I.base.free b o (I.ok.bs b o e).1 (I.ok.bs b o e).2 (I.ok.noex b o e)⟩
theorem Inv.bk(I:Inv X zn σ H s):∀ b o,X.base.get? b=some o->s.heap.get? b=some o:=fun b o e=>(I.bs b o e).1
theorem Inv.mod(I:Inv X zn σ H s):Mod X.K X.mg X.base:=I.ok.mod
theorem Inv.kIn(I:Inv X zn σ H s):X.K.In s.heap:=I.ok.mod.kin.keeps I.bk
theorem Inv.lt(I:Inv X zn σ H s):X.env.locals<s.heap.objs.size:=let ⟨_,hn,_⟩:=I.loc; hn.lt
theorem Inv.sz(I:Inv X zn σ H s):X.s₀.heap.objs.size<=s.heap.objs.size:=le_trans I.ok.above (le_of_lt I.lt)
theorem Inv.nofs(I:Inv X zn σ H s){a:Addr}(h:s.heap.objs.size<=a):a∉X.fs:=fun hb=>by
 obtain⟨_,o,ho,_⟩:=I.ok.funs.mem hb;exact absurd (lt_of_lt_of_le (lt_size ho) (le_trans I.sz h)) (lt_irrefl _)
theorem Inv.cne(I:Inv X zn σ H s):∀ x c,X.env.cells.lookup x=some c->c≠X.env.locals:=fun x c e z=>by
 obtain⟨v,o,ho,hd⟩:=I.cell x c e;obtain⟨m,⟨o',es,ep,ho',hd',_⟩,_⟩:=I.loc;rw [z,ho'] at ho; cases ho; rw [hd'] at hd; cases hd
theorem Inv.funs(I:Inv X zn σ H s):s.heap.FunFrames X.base X.outer:=by
 have all:∀ (l:List Env),(∀ b∈frs l,b∈X.fs)->X.s₀.heap.FunFrames X.base l->s.heap.FunFrames X.base l:=by
  intro l;induction l with
  | nil=>intro _ _; trivial
  | cons env r ih =>
   intro hs hl;obtain⟨hk,⟨L,o,hf,hn,ho,hd⟩,hr⟩:=hl;have hL:L∈X.fs:=hs L (by unfold frs; rw [List.filterMap_cons,hf]; exact mem_cons_self);obtain⟨sl,e⟩:=I.base.slot L o ho (I.ok.frf.free L hL) hL fun z=>I.ok.exfs L z hL;exact⟨hk,⟨L,_,hf,hn,e,hd⟩,ih (fun b hb=>hs b (by unfold frs; rw [List.filterMap_cons,hf]; exact mem_cons_of_mem _ hb)) hr⟩
 exact all X.outer (fun _ hb=>hb) I.ok.funs
theorem Inv.stack(I:Inv X zn σ H s):s.heap.FunFrames X.base X.stack:=by
 rcases I.ok.stk with e | ⟨e,hf⟩
 ·rw [e]; exact I.funs
 ·rw [e];obtain⟨m,hn,_⟩:=I.loc;refine .cons (by rw [I.ok.kind]; decide) hf hn ?_ I.funs;exact Heap.get?_none_of_le (le_trans I.ok.bsz I.ok.above)
theorem Inv.stkSub(I:Inv X zn σ H s):∀ b∈frs X.stack,b∈X.env.locals :: X.fs:=fun b hb=>by
 rcases I.ok.stk with e | ⟨e,hf⟩
 ·rw [e] at hb; exact mem_cons_of_mem _ hb
 ·rw [e] at hb;unfold frs at hb;rw [List.filterMap_cons,hf] at hb;exact hb
theorem Inv.stkFree(I:Inv X zn σ H s):Frf (frs X.stack) H:=⟨fun b hb=>by
 rcases mem_cons.mp (I.stkSub b hb) with e | hb
 ·rw [e]; exact I.free
 ·obtain⟨_,o,ho,_⟩:=I.ok.funs.mem hb;exact I.base.free b o ho (I.ok.frf.free b hb) fun z=>I.ok.exfs b z hb,fun q hq=>I.base.tbls _ _ (I.ok.frf.tab q hq)⟩
theorem Inv.step{g':Array GenState}{t':Nat}{d':Drawn}{ch:List Addr}(I:Inv X zn σ H s)
  (hch:∀ b∈ch,(b∈X.ex\/X.s₀.heap.objs.size<=b)/\b≠X.env.locals/\(∀ x c,X.env.cells.lookup x=some c->c≠b)/\∀ p∈X.pn++zn,p.1≠b)
  (keep:∀ b o,b≠X.env.locals->b∉X.fs->b∉ch->s.heap.get? b=some o->H b=none->h'.get? b=some o)
  (slot:∀ b o,b≠X.env.locals->b∈X.fs->b∉ch->s.heap.get? b=some o->H b=none->∃ sl,h'.get? b=some { o with slots:=sl }) (free:∀ b o,b∉ch->s.heap.get? b=some o->H b=none->H' b=none)
  (there:∀ b o,b∉ch->s.heap.get? b=some o->∃ o',h'.get? b=some o')
  (tups:∀ b xs,H b=some (.tup xs)->H' b=some (.tup xs)) (frzs:∀ b o u,H b=some (.frz o u)->H' b=some (.frz o u)) (tbls:∀ b ps,H b=some (.tbl ps)->H' b=some (.tbl ps))
  (ns:∀ m,s.heap.Ns X.env.locals m->h'.Ns X.env.locals m) (hok:HOk X.prog X.w H' h') (hg:AllBare g') :
  Inv X zn σ H' { s with heap:=h',gens:=g',drawn:=d',toks:=t' }:=by
 have neL:∀ b o,X.s₀.heap.get? b=some o->b≠X.env.locals:=fun b o e=>ne_of_lt (lt_of_lt_of_le (lt_size e) I.ok.above);have neC:∀ b o,X.s₀.heap.get? b=some o->b∉X.ex->b∉ch:=fun b o e hx hb=>by
  rcases(hch b hb).1 with z | z
  ·exact hx z
  ·exact absurd (lt_of_lt_of_le (lt_size e) z) (lt_irrefl _)
 have cellK:∀ x c,X.env.cells.lookup x=some c->∀ v,s.heap.IsCell c v->h'.IsCell c v:=fun x c e v ⟨o,ho,hd⟩=>by
  have nch:c∉ch:=fun z=>(hch c z).2.2.1 x c e rfl;by_cases hc:c∈X.fs
  ·obtain⟨sl,q⟩:=slot c o (I.cne x c e) hc nch ho (I.freeC x c e);exact⟨_,q,hd⟩
  ·exact⟨o,keep c o (I.cne x c e) hc nch ho (I.freeC x c e),hd⟩
 refine⟨I.ok,I.os,hg,⟨fun b o e n hb hx=>?_,fun b o e n hb hx=>?_,fun b o e n hx=>?_,fun b o e hx=>?_,fun b xs e=>tups b xs (I.base.tups b xs e),fun b o xs e=>frzs b o xs (I.base.frzs b o xs e),fun b ps e=>?_⟩,?_,fun x c e=>?_,?_,fun x c e=>?_,fun p hp=>?_,hok,I.len⟩
 ·exact keep b o (neL b o e) hb (neC b o e hx) (I.base.keep b o e n hb hx) (I.base.free b o e n hx)
 ·obtain⟨sl,e1⟩:=I.base.slot b o e n hb hx;obtain⟨sl',e2⟩:=slot b _ (neL b o e) hb (neC b o e hx) e1 (I.base.free b o e n hx);exact⟨sl',e2⟩
 ·obtain⟨o',e1⟩:=I.base.there b o e hx;exact free b o' (neC b o e hx) e1 (I.base.free b o e n hx)
 ·obtain⟨o',e1⟩:=I.base.there b o e hx;exact there b o' (neC b o e hx) e1
 ·exact tbls b _ (I.base.tbls b ps e)
 ·obtain⟨m,hn,hl⟩:=I.loc;refine⟨m,ns m hn,fun i x v e1 e2 e3=>?_⟩;obtain⟨u,r,l⟩:=hl i x v e1 e2 e3;refine⟨u,r,?_⟩;rcases l with l | ⟨k,c,e,z⟩
  ·exact .inl l
  ·exact .inr ⟨k,c,e,cellK x c e _ z⟩
 ·obtain⟨v,z⟩:=I.cell x c e;exact⟨v,cellK x c e v z⟩
 ·obtain⟨m,⟨o,_,_,ho,_⟩,_⟩:=I.loc;exact free _ o (fun z=>(hch _ z).2.1 rfl) ho I.free
 ·obtain⟨v,o,ho,hd⟩:=I.cell x c e;exact free c o (fun z=>(hch c z).2.2.1 x c e rfl) ho (I.freeC x c e)
 ·obtain⟨e,n,ne,nf,d⟩:=I.pin p hp;have nch:p.1∉ch:=fun z=>(hch p.1 z).2.2.2 p hp rfl;exact⟨keep p.1 p.2 ne nf nch e n,free p.1 p.2 nch e n,ne,nf,d⟩
theorem Inv.un{t':Nat}(I:Inv X zn σ H s)(u:Un X.fs [] H H' s.heap h')(hok:HOk X.prog X.w H' h'):Inv X zn σ H' { s with heap:=h',toks:=t' }:=by
 obtain⟨m,⟨o,es,ep,ho,r⟩,_⟩:=id I.loc;obtain⟨sl,hL⟩:=u.any ho I.free (by simp);exact I.step (g':=s.gens) (d':=s.drawn) (ch:=[]) (fun _ z=>nomatch z) (fun b o _ hb _ e n=>u.keep b o e n hb (by simp)) (fun b o _ hb _ e n=>u.slot b o e n hb (by simp)) (fun b o _ e n=>u.free b o e n (by simp)) (fun b o _ e=>u.there b o e (by simp)) u.tups u.frzs u.tbls (fun m' hm=>by
  obtain⟨o',es',ep',ho',r'⟩:=hm;rw [ho] at ho'; cases ho';exact⟨_,es',ep',hL,r'⟩) hok I.bare
theorem Inv.call{g':Array GenState}{t':Nat}{d':Drawn}{ch:List Addr}(I:Inv X zn σ H s)(u:Un (frs X.stack) ch H H' s.heap h')(hok:HOk X.prog X.w H' h')(hg:AllBare g')
  (hch:∀ b∈ch,(b∈X.ex\/X.s₀.heap.objs.size<=b)/\b≠X.env.locals/\(∀ x c,X.env.cells.lookup x=some c->c≠b)/\∀ p∈X.pn++zn,p.1≠b) :
  Inv X zn σ H' { s with heap:=h',gens:=g',drawn:=d',toks:=t' }:=by
 obtain⟨m,⟨o,es,ep,ho,r⟩,_⟩:=id I.loc;obtain⟨sl,hL⟩:=u.any ho I.free fun z=>(hch _ z).2.1 rfl;exact I.step (ch:=ch) hch (fun b o hL hb hc e n=>u.keep b o e n (fun z=>(mem_cons.mp (I.stkSub b z)).elim hL hb) hc) (fun b o _ _ hc e n=>u.any e n hc) (fun b o hc e n=>u.free b o e n hc) (fun b o hc e=>u.there b o e hc) u.tups u.frzs u.tbls (fun m' hm=>by
  obtain⟨o',es',ep',ho',r'⟩:=hm;rw [ho] at ho'; cases ho';exact⟨_,es',ep',hL,r'⟩) hok hg
theorem Inv.turned{t':Nat}{it:Addr}(I:Inv X zn σ H s)(k:∀ b o,b≠it->s.heap.get? b=some o->h'.get? b=some o)(hn:H it=none)(hL:it≠X.env.locals)
  (h1:it∈X.ex\/X.s₀.heap.objs.size<=it) (h2:∀ x c,X.env.cells.lookup x=some c->c≠it) (h3:∀ p∈X.pn++zn,p.1≠it):Inv X zn σ H { s with heap:=h',toks:=t' }:=by
 have nit:∀ b u,H b=some u->b≠it:=fun b u e z=>by rw [z,hn] at e; cases e
 refine I.step (g':=s.gens) (d':=s.drawn) (ch:=[it]) (fun b hb=>?_) (fun b o _ _ hc e _=>k b o (fun z=>hc (by simp [z])) e) (fun b o _ _ hc e _=>⟨o.slots,k b o (fun z=>hc (by simp [z])) e⟩) (fun _ _ _ _ n=>n)
  (fun b o hc e=>⟨o,k b o (fun z=>hc (by simp [z])) e⟩) (fun _ _ e=>e) (fun _ _ _ e=>e) (fun _ _ e=>e) (fun m hm=>?_) (fun b u e=>?_) I.bare
 ·have e:b=it:=by simpa using hb
  subst e;exact⟨h1,hL,h2,h3⟩
 ·obtain⟨o,es,ep,ho,r⟩:=hm;exact⟨o,es,ep,k _ o (Ne.symm hL) ho,r⟩
 ·refine(I.hok b u e).stay (fun c v hc q=>k c v ?_ q) (fun _ q=>q) fun _ _ q=>q;rcases hc with z | z
  ·rw [z]; exact nit b u e
  ·exact nit c _ z
theorem Inv.tok(I:Inv X zn σ H s)(t:Nat):Inv X zn σ H { s with toks:=t }:=I.un (h':=s.heap) (t':=t) Un.refl I.hok
theorem Inv.kept{t':Nat}(I:Inv X zn σ H s)(k:∀ b u,s.heap.get? b=some u->h'.get? b=some u):Inv X zn σ H { s with heap:=h',toks:=t' }:=I.un (Un.kept k) (I.hok.kept k)
theorem Inv.laid{a:Addr}{o:HO}{t':Nat}(I:Inv X zn σ H s)(k:∀ b u,s.heap.get? b=some u->h'.get? b=some u)(hp:s.heap.objs.size<=a)(new:ObjOk X.prog X.w (upd H a o) h' a o):
  Inv X zn σ (upd H a o) { s with heap:=h',toks:=t' }:=I.un (Un.laid k hp (I.hok.fresh hp)) (I.hok.laid k hp new)
theorem Inv.write{x e:Addr}{o:HO}{t':Nat}(I:Inv X zn σ H s)(mu:Mut (H x))(he:e=x\/H e=some (.own x))(k:∀ b u,b≠e->s.heap.get? b=some u->h'.get? b=some u)(heo:∃ u,h'.get? e=some u)
  (new:ObjOk X.prog X.w (upd H x o) h' x o):Inv X zn σ (upd H x o) { s with heap:=h',toks:=t' }:=I.un (Un.write mu he k heo) (I.hok.write mu he k heo new)
theorem Inv.pins_of{pins':List (Addr×Obj)}(I:Inv X zn σ H s)(h:∀ p∈pins',s.heap.get? p.1=some p.2/\H p.1=none/\p.1≠X.env.locals/\p.1∉X.fs/\∀ v,p.2.data≠.cell v):Inv X pins' σ H s :=
 ⟨I.ok,I.os,I.bare,I.base,I.loc,I.cell,I.free,I.freeC,fun p hp=>(mem_append.mp hp).elim (fun z=>I.pin p (mem_append_left _ z)) (h p),I.hok,I.len⟩
theorem zlG{N:List Str}(hN:N.Nodup){i j:Nat}{x:Str}(a:N[i]? = some x)(b:N[j]? = some x):i=j:=by
 obtain⟨h1,e1⟩:=List.getElem?_eq_some_iff.mp a;obtain⟨h2,e2⟩:=List.getElem?_eq_some_iff.mp b;exact(List.getElem_inj hN).mp (e1.trans e2.symm)
theorem zoL{M:Model}{A:Around}{E:Value->Shared->Prop}{i:Nat}{x:Str}{v:V}{u:Value}{Q:Unit->Shared->Prop}(I:Inv X zn σ H s)(hN:X.N.Nodup)(hi:X.N[i]? = some x)(hx:Loc X.env.scope x)(r:RelV v u)
  (h:∀ s',Inv X zn (σ.set i (some v)) H s'->(∃ a,Heap.SameBut a s.heap s'.heap/\(a=X.env.locals\/X.env.cells.lookup x=some a))->Q () s') (hf:X.fn x=true\/X.env.scope.names.lookup x=some .local:=by first | exact .inl rfl | exact .inr rfl | assumption):wpAny M A (storeName X.env x u) Q E s:=by
 obtain⟨m,hn,hl⟩:=id I.loc;have hcls:(X.env.scope.kind == .class || (X.env.scope.kind == .module && X.env.locals != X.env.globals))=false:=by rw [I.ok.kind]; rfl
 have hiσ:i<σ.length:=by rw [I.len]; exact(List.getElem?_eq_some_iff.mp hi).1
 have cne:=I.cne;have tracked:∀ {a:Addr} {h':Heap},(∃ o,s.heap.get? a=some o/\H a=none)->Heap.SameBut a s.heap h'->HOk X.prog X.w H h':=fun {a h'} ha hs b ob e=>by
  obtain⟨_,_,hfree⟩:=ha;refine(I.hok b ob e).stay (fun c w' hc q=>(hs.2 c ?_).trans q) (fun _ q=>q) fun _ _ q=>q;rintro rfl;rcases hc with rfl | hc
  ·rw [hfree] at e; cases e
  ·rw [hfree] at hc; cases hc
 rcases hx with hk | hk
 ·refine wpAny_storeName_local hk hn (fun h' hn' hs=>?_) hcls;obtain⟨oL,_,_,hoL,_⟩:=id hn;refine h _ ⟨I.ok,I.os,I.bare,⟨fun b o e n hb hx=>?_,fun b o e n hb hx=>?_,I.base.free,fun b o e hx=>?_,I.base.tups,I.base.frzs,I.base.tbls⟩,⟨_,hn',fun j y v' e1 e2 e3=>?_⟩,fun y c e=>?_,I.free,I.freeC,fun p hp=>?_,tracked ⟨oL,hoL,I.free⟩ hs,by simpa using I.len⟩ ⟨_,hs,.inl rfl⟩
  ·exact(hs.2 b (ne_of_lt (lt_of_lt_of_le (lt_size e) I.ok.above))).trans (I.base.keep b o e n hb hx)
  ·obtain⟨sl,e1⟩:=I.base.slot b o e n hb hx;exact⟨sl,(hs.2 b (ne_of_lt (lt_of_lt_of_le (lt_size e) I.ok.above))).trans e1⟩
  ·obtain⟨o',e1⟩:=I.base.there b o e hx;exact⟨o',(hs.2 b (ne_of_lt (lt_of_lt_of_le (lt_size e) I.ok.above))).trans e1⟩
  ·by_cases hj:j=i
   ·subst hj;rw [hi] at e1; cases e1;rw [getElem?_set_self hiσ] at e2;cases e2;exact⟨u,r,.inl ⟨hk,by simp⟩⟩
   ·rw [getElem?_set_ne (Ne.symm hj)] at e2;obtain⟨u',r',q⟩:=hl j y v' e1 e2 e3;refine⟨u',r',?_⟩;rcases q with ⟨k,e⟩ | ⟨k,c,e,z⟩
    ·refine .inl ⟨k,?_⟩;have:y≠x:=fun e=>hj (zlG hN e1 (e▸hi));simp [this,e]
    ·exact .inr ⟨k,c,e,z.sameBut hs (cne y c e)⟩
  ·obtain⟨w',z⟩:=I.cell y c e;exact⟨w',z.sameBut hs (cne y c e)⟩
  ·obtain⟨e,n,ne,nf,d⟩:=I.pin p hp;exact⟨(hs.2 p.1 ne).trans e,n,ne,nf,d⟩
 ·have hfn:X.fn x=true:=by
   rcases hf with z | z
   ·exact z
   ·rw [z] at hk; cases hk
  obtain⟨c,hc⟩:=I.ok.has x (.inl hk);obtain⟨w',z⟩:=I.cell x c hc;refine wpAny_storeName_cell I.ok.kind hk hc z (fun h' hc' hs=>?_);obtain⟨oc,hoc,hocd⟩:=id z;refine h { s with heap:=h' } ⟨I.ok,I.os,I.bare,⟨fun b o e n hb hx=>?_,fun b o e n hb hx=>?_,I.base.free,fun b o e hx=>?_,I.base.tups,I.base.frzs,I.base.tbls⟩,⟨m,hn.sameBut hs (Ne.symm (cne x c hc)),fun j y v' e1 e2 e3=>?_⟩,fun y c' e=>?_,I.free,I.freeC,fun p hp=>?_,tracked ⟨oc,hoc,I.freeC x c hc⟩ hs,by simpa using I.len⟩ ⟨c,hs,.inr hc⟩
  ·exact(hs.2 b (ne_of_lt (lt_of_lt_of_le (lt_size e) (I.ok.cab x c hfn hc)))).trans (I.base.keep b o e n hb hx)
  ·obtain⟨sl,e1⟩:=I.base.slot b o e n hb hx;exact⟨sl,(hs.2 b (ne_of_lt (lt_of_lt_of_le (lt_size e) (I.ok.cab x c hfn hc)))).trans e1⟩
  ·obtain⟨o',e1⟩:=I.base.there b o e hx;exact⟨o',(hs.2 b (ne_of_lt (lt_of_lt_of_le (lt_size e) (I.ok.cab x c hfn hc)))).trans e1⟩
  ·by_cases hj:j=i
   ·subst hj;rw [hi] at e1; cases e1;rw [getElem?_set_self hiσ] at e2;cases e2;exact⟨u,r,.inr ⟨.inl hk,c,hc,hc'⟩⟩
   ·rw [getElem?_set_ne (Ne.symm hj)] at e2;obtain⟨u',r',q⟩:=hl j y v' e1 e2 e3;refine⟨u',r',?_⟩;rcases q with q | ⟨k,c',e,z'⟩
    ·exact .inl q
    ·refine .inr ⟨k,c',e,z'.sameBut hs ?_⟩;rintro rfl;exact hj (zlG hN e1 (I.ok.inj _ _ _ e hc▸hi))
  ·by_cases hcc:c'=c
   ·subst hcc; exact⟨_,hc'⟩
   ·obtain⟨w2,z2⟩:=I.cell y c' e;exact⟨w2,z2.sameBut hs hcc⟩
  ·obtain⟨e,n,ne,nf,d⟩:=I.pin p hp;refine⟨(hs.2 p.1 ?_).trans e,n,ne,nf,d⟩;intro q;rw [q,hoc] at e;have q':oc=p.2:=Option.some.inj e;exact d w' (by rw [<- q']; exact hocd)
theorem ziF{M:Model}{A:Around}{E:Value->Shared->Prop}{i:Nat}{x:Str}{v:V}{u:Value}{Q:Unit->Shared->Prop}(I:Inv X zn σ H s)(hN:X.N.Nodup)(hi:X.N[i]? = some x)(hx:Loc X.env.scope x)(r:RelV v u)
  (h:∀ s',Inv X zn (σ.set i (some v)) H s'->Q () s') (hf:X.fn x=true\/X.env.scope.names.lookup x=some .local:=by first | exact .inl rfl | exact .inr rfl | assumption):wpAny M A (storeName X.env x u) Q E s :=
 zoL I hN hi hx r (fun s' I' _=>h s' I') hf
theorem Inv.call'{s':Shared}{ch:List Addr}(I:Inv X zn σ H s)(ho:s'.os=s.os)(u:Un (frs X.stack) ch H H' s.heap s'.heap)(hok:HOk X.prog X.w H' s'.heap)(hg:AllBare s'.gens)
  (hch:∀ b∈ch,(b∈X.ex\/X.s₀.heap.objs.size<=b)/\b≠X.env.locals/\(∀ x c,X.env.cells.lookup x=some c->c≠b)/\∀ p∈X.pn++zn,p.1≠b):Inv X zn σ H' s':=by
 obtain⟨h',g',d',t',o'⟩:=s';have e:o'=s.os:=ho;subst e;exact I.call (g':=g') (t':=t') (d':=d') u hok hg hch
end
abbrev XK:=Value->Option Addr->Hp->Prop
abbrev St:=List (Option V)
abbrev VK:=V->Hp->Prop
abbrev TE:=St->Hp->VK->Prop
abbrev TT:=St->Hp->(Bool->Hp->Prop)->Prop
abbrev TA:=St->Hp->(List V->Hp->Prop)->Prop
structure Ends where
 nx:St->Hp->Prop
 rt:VK
 bk:St->Hp->Prop:=fun _ _=>False
 ct:St->Hp->Prop:=fun _ _=>False
abbrev TS:=Ends->St->Hp->Prop
def EP(X:Cx)(zn:List (Addr×Obj))(σ:St)(Q:VK)(u:Value)(s':Shared):Prop:=∃ v H',Inv X zn σ H' s'/\RelV v u/\Q v H'
def TP(X:Cx)(zn:List (Addr×Obj))(σ:St)(Q:Bool->Hp->Prop)(b:Bool)(s':Shared):Prop:=∃ H',Inv X zn σ H' s'/\Q b H'
def AP(X:Cx)(zn:List (Addr×Obj))(σ:St)(Q:List V->Hp->Prop)(us:List Value)(s':Shared):Prop:=∃ vs H',Inv X zn σ H' s'/\Vals vs us/\Q vs H'
def SP(X:Cx)(zn:List (Addr×Obj))(D:Ends)(f:Flow)(s':Shared):Prop :=
 match f with
 | .next=>∃ σ' H',Inv X zn σ' H' s'/\D.nx σ' H'
 | .brk=>∃ σ' H',Inv X zn σ' H' s'/\D.bk σ' H'
 | .cont=>∃ σ' H',Inv X zn σ' H' s'/\D.ct σ' H'
 | .ret u=>∃ v σ' H',Inv X zn σ' H' s'/\RelV v u/\D.rt v H'
def PE(X:Cx)(e:Expr)(t:TE):Prop :=
 ∀ (zn:List (Addr×Obj)) (s:Shared) (σ:St) (H:Hp) (Q:VK),Inv X zn σ H s->t σ H Q->wpAny (model X.prog X.w) X.A (eval e X.env) (EP X zn σ Q) X.xe s
def PT(X:Cx)(e:Expr)(t:TT):Prop :=
 ∀ (zn:List (Addr×Obj)) (s:Shared) (σ:St) (H:Hp) (Q:Bool->Hp->Prop),Inv X zn σ H s->t σ H Q->wpAny (model X.prog X.w) X.A (isTrue e X.env (eval e X.env)) (TP X zn σ Q) X.xe s
def PW(X:Cx)(e:Expr)(t:TT):Prop :=
 ∀ (whole:Sem Value) (zn:List (Addr×Obj)) (s:Shared) (σ:St) (H:Hp) (Q:Bool->Hp->Prop),Inv X zn σ H s->t σ H Q->wpAny (model X.prog X.w) X.A (isTrue e X.env whole) (TP X zn σ Q) X.xe s
theorem PW.pt{X:Cx}{e:Expr}{t:TT}(h:PW X e t):PT X e t:=h _
def PA(X:Cx)(es:List Expr)(t:TA):Prop :=
 ∀ (pos:Pos) (zn:List (Addr×Obj)) (s:Shared) (σ:St) (H:Hp) (Q:List V->Hp->Prop),Inv X zn σ H s->t σ H Q->wpAny (model X.prog X.w) X.A (spliced (backTo pos (starEach es X.env))) (AP X zn σ Q) X.xe s
def PS(X:Cx)(st:Stmt)(t:TS):Prop :=
 ∀ (zn:List (Addr×Obj)) (s:Shared) (σ:St) (H:Hp) (D:Ends),Inv X zn σ H s->t D σ H->wpAny (model X.prog X.w) X.A (exec st X.env) (SP X zn D) X.xe s
def PSs(X:Cx)(st:List Stmt)(t:TS):Prop :=
 ∀ (zn:List (Addr×Obj)) (s:Shared) (σ:St) (H:Hp) (D:Ends),Inv X zn σ H s->t D σ H->wpAny (model X.prog X.w) X.A (execs st X.env) (SP X zn D) X.xe s
theorem thn{α:Type}{t:Sem α}{Q Q':α->Shared->Prop}{M:Model}{A:Around}{E:Value->Shared->Prop}{s:Shared}(h:wpAny M A t Q E s)(hQ:∀ a s,Q a s->Q' a s):wpAny M A t Q' E s:=wpAny_mono h hQ fun _ _ x=>x
end
section
section
variable {X:Cx}
def zn3(i:Nat):TE:=fun σ H Q=>∃ v,σ[i]? = some (some v)/\Q v H
def tC(v:V):TE:=fun _ H Q=>Q v H
theorem zvv{i:Nat}{x:Str}{pos:Pos}(hN:X.N[i]? = some x)(hv:Vis X.env.scope x)(hd:(x == ("__debug__":Str))=false:=by decide)(hcd:(x == ("__classdict__":Str))=false:=by decide):PE X (.Name x pos) (zn3 i):=by
 intro zn s σ H Q I h;obtain⟨v,e,h⟩:=h;obtain⟨m,hn,hl⟩:=I.loc;obtain⟨u,r,l⟩:=hl i x v hN e hv;have fin:EP X zn σ Q u s:=⟨v,H,I,r,h⟩;rcases l with ⟨hk,hm⟩ | ⟨hk,c,hc,hcell⟩
 ·exact wpAny_Name (wpAny_loadName_local I.ok.kind hk hn hm fin) hd
 ·rcases hk with hk | hk
  ·exact wpAny_Name (wpAny_loadName_cell I.ok.kind hk hc hcell fin) hd
  ·exact wpAny_Name (wpAny_loadName_free I.ok.kind hk hc hcell fin hcd) hd
theorem ze{i j pos}:PE X (.Constant (.int i) j pos) (tC (.int i)):=fun _ _ _ H _ I h=>wpAny_Constant_int ⟨.int i,H,I.tok _,⟨_,rfl⟩,h⟩
theorem zbW{b j pos}:PE X (.Constant (.bool b) j pos) (tC (.bl b)):=fun _ _ _ H _ I h=>Constant_bool ⟨.bl b,H,I,rfl,h⟩
theorem zdG{j pos}:PE X (.Constant .none j pos) (tC .non):=fun _ _ _ H _ I h=>Constant_none ⟨.non,H,I,rfl,h⟩
theorem zch{x j pos}:PE X (.Constant (.str x) j pos) (tC (.str x)):=fun _ _ _ H _ I h=>Calls.Constant_str ⟨.str x,H,I.tok _,⟨_,rfl⟩,h⟩
def Gl(X:Cx)(x:Str):Prop:=X.env.kindOf x=some .globalImplicit
theorem zle{E:Value->Shared->Prop}{zn:List (Addr×Obj)}{s:Shared}{σ:St}{H:Hp}{x:Str}{u:Value}{pos:Pos}{Q:Value->Shared->Prop}(I:Inv X zn σ H s)(hg:Gl X x)(hm:X.mg x=some u)(h:Q u s)
  (hd:(x == ("__debug__":Str))=false:=by decide):wpAny (model X.prog X.w) X.A (eval (.Name x pos) X.env) Q E s :=
 Calls.Name_function_global I.ok.kind hg (Calls.loadGlobal_global (by rw [I.ok.glob]; exact I.mod.glob.keeps I.bk) hm h) hd
theorem zfn{E:Value->Shared->Prop}{zn:List (Addr×Obj)}{s:Shared}{σ:St}{H:Hp}{x:Str}{u:Value}{pos:Pos}{Q:Value->Shared->Prop}(I:Inv X zn σ H s)(hg:Gl X x)(hm:X.mg x=none)(hv:bootBuiltins x=some u)(h:Q u s)
  (hn:x ≠ "__name__":=by decide) (hd:(x == ("__debug__":Str))=false:=by decide):wpAny (model X.prog X.w) X.A (eval (.Name x pos) X.env) Q E s:=by
 obtain⟨mb,h1,h2⟩:=I.mod.blt;exact Calls.Name_function_global I.ok.kind hg (Calls.loadGlobal_builtin (by rw [I.ok.glob]; exact I.mod.glob.keeps I.bk) hm (by rw [I.ok.blt]; exact h1.keeps I.bk) ((h2 x hn).trans hv) h) hd
theorem zsR{x:Str}{v:V}{u:Value}{pos:Pos}(hg:Gl X x)(hm:X.mg x=some u)(r:RelV v u)(hd:(x == ("__debug__":Str))=false:=by decide):PE X (.Name x pos) (tC v) :=
 fun _ _ _ H _ I h=>zle I hg hm ⟨v,H,I,r,h⟩ hd
theorem zbD{x:Str}{v:V}{u:Value}{pos:Pos}(hg:Gl X x)(hm:X.mg x=none)(hv:bootBuiltins x=some u)(r:RelV v u)(hn:x ≠ "__name__":=by decide)(hd:(x == ("__debug__":Str))=false:=by decide):PE X (.Name x pos) (tC v) :=
 fun _ _ _ H _ I h=>zfn I hg hm hv ⟨v,H,I,r,h⟩ hn hd
variable {a b:Expr} {ta tb:TE} {pos:Pos}
variable {tA tB':TT} {rest:List Expr}
def zwP(t u:TT):TT:=fun σ H Q=>t σ H fun c H1=>if c=true then u σ H1 Q else Q false H1
def tOr(t u:TT):TT:=fun σ H Q=>t σ H fun c H1=>if c=true then Q true H1 else u σ H1 Q
def zwR(t:TT):TT:=fun σ H Q=>t σ H fun c H1=>Q (!c) H1
theorem znK(ha:PT X a tA):PW X (.BoolOp .And [a] pos) tA:=by
 intro wh zn s σ H Q I h;refine isTrue_and (thn (ha zn s σ H Q I h) fun c s1 e=>?_);cases c with
 | true=>exact isTrue_and_nil e
 | false=>exact e
theorem zd6(ha:PT X a tA):PW X (.BoolOp .Or [a] pos) tA:=by
 intro wh zn s σ H Q I h;refine isTrue_or (thn (ha zn s σ H Q I h) fun c s1 e=>?_);cases c with
 | false=>exact isTrue_or_nil e
 | true=>exact e
theorem zrf(ha:PT X a tA)(hb:PW X (.BoolOp .And (b :: rest) pos) tB'):PW X (.BoolOp .And (a :: b :: rest) pos) (zwP tA tB'):=by
 intro wh zn s σ H Q I h;refine isTrue_and (thn (ha zn s σ H _ I h) fun c s1 ⟨H1,I1,q1⟩=>?_);cases c with
 | true=>exact hb wh zn s1 σ H1 Q I1 q1
 | false=>exact⟨H1,I1,q1⟩
theorem zea(ha:PT X a tA)(hb:PW X (.BoolOp .Or (b :: rest) pos) tB'):PW X (.BoolOp .Or (a :: b :: rest) pos) (tOr tA tB'):=by
 intro wh zn s σ H Q I h;refine isTrue_or (thn (ha zn s σ H _ I h) fun c s1 ⟨H1,I1,q1⟩=>?_);cases c with
 | true=>exact⟨H1,I1,q1⟩
 | false=>exact hb wh zn s1 σ H1 Q I1 q1
theorem zbp(ha:PT X a tA):PT X (.UnaryOp .Not a pos) (zwR tA):=by
 intro zn s σ H Q I h;exact isTrue_not (ha zn s σ H (fun c H1=>Q (!c) H1) I h)
def ztI(ta tb:TE):TE:=fun σ H Q=>ta σ H fun x H1=>∃ c,x=.bl c/\if c=true then tb σ H1 Q else Q (.bl false) H1
def zwD(ta tb:TE):TE:=fun σ H Q=>ta σ H fun x H1=>∃ c,x=.bl c/\if c=true then Q (.bl true) H1 else tb σ H1 Q
def zuH(ta:TE):TE:=fun σ H Q=>ta σ H fun x H1=>∃ c,x=.bl c/\Q (.bl (!c)) H1
theorem zet{op}{t:TE}(h:PE X a t):PE X (.BoolOp op [a] pos) t:=fun zn s σ H Q I hw=>BoolOp_one (h zn s σ H Q I hw)
theorem ze9(ha:PE X a ta)(hb:PE X (.BoolOp .And (b :: rest) pos) tb):PE X (.BoolOp .And (a :: b :: rest) pos) (ztI ta tb):=by
 intro zn s σ H Q I h;refine BoolOp_and (thn (ha zn s σ H _ I h) fun v s1 ⟨x,H1,I1,r1,q1⟩=>?_);obtain⟨c,rfl,q1⟩:=q1;cases r1;refine wpAny_truthy_bool ?_;cases c with
 | true=>exact hb zn s1 σ H1 Q I1 q1
 | false=>exact⟨.bl false,H1,I1,rfl,q1⟩
theorem zwi(ha:PE X a ta)(hb:PE X (.BoolOp .Or (b :: rest) pos) tb):PE X (.BoolOp .Or (a :: b :: rest) pos) (zwD ta tb):=by
 intro zn s σ H Q I h;refine BoolOp_or (thn (ha zn s σ H _ I h) fun v s1 ⟨x,H1,I1,r1,q1⟩=>?_);obtain⟨c,rfl,q1⟩:=q1;cases r1;refine wpAny_truthy_bool ?_;cases c with
 | false=>exact hb zn s1 σ H1 Q I1 q1
 | true=>exact⟨.bl true,H1,I1,rfl,q1⟩
theorem zpx(ha:PE X a ta):PE X (.UnaryOp .Not a pos) (zuH ta):=by
 intro zn s σ H Q I h;refine UnaryOp_ (thn (ha zn s σ H _ I h) fun v s1 ⟨x,H1,I1,r1,q1⟩=>?_);obtain⟨c,rfl,q1⟩:=q1;cases r1;exact not_of (wpAny_truthy_bool ⟨.bl (!c),H1,I1,rfl,q1⟩)
def tIf(t:TT)(ta tb:TE):TE:=fun σ H Q=>t σ H fun c H1=>if c=true then ta σ H1 Q else tb σ H1 Q
theorem ziy{c:Expr}(hc:PT X c tA)(ha:PE X a ta)(hb:PE X b tb):PE X (.IfExp c a b pos) (tIf tA ta tb):=by
 intro zn s σ H Q I h;refine wpAny_IfExp (thn (hc zn s σ H _ I h) fun d s1 ⟨H1,I1,q1⟩=>?_);cases d with
 | true=>exact ha zn s1 σ H1 Q I1 q1
 | false=>exact hb zn s1 σ H1 Q I1 q1
end
end
section
def SqL(K:W.Frag)(H:Hp)(a:Addr)(xs:List V):Prop :=
 Rd H a (.lst xs) \/
  ∃ (o:Obj) (its:Array Value) (n:Nat),K.lookup a=some o/\o.cls=.type "list"/\o.dict=none/\o.data=.seq its n/\its.size<=sizeLine/\Vals xs its.toList
def SqT(K:W.Frag)(H:Hp)(a:Addr)(xs:List V):Prop :=
 Rd H a (.tup xs) \/
  ∃ (o:Obj) (its:Array Value) (n:Nat),K.lookup a=some o/\o.cls=.type "tuple"/\o.data=.seq its n/\its.size<=sizeLine/\Vals xs its.toList
def zwY:Value->Option V
 | .none=>some .non
 | .bool b=>some (.bl b)
 | .int i _=>some (.int i)
 | .str x _=>some (.str x)
 | .bytes b _=>some (.byt b)
 | .float b _=>some (.flt b)
 | .ref a=>some (.ref a)
 | .type n=>some (.ty n)
 | _=>none
theorem RelV.abs{x:V}{u:Value}(r:RelV x u):zwY u=some x:=by
 cases x with
 | non=>cases r; rfl
 | bl _=>cases r; rfl
 | int _=>obtain⟨t,rfl⟩:=r; rfl
 | str _=>obtain⟨t,rfl⟩:=r; rfl
 | byt _=>obtain⟨t,rfl⟩:=r; rfl
 | flt _=>obtain⟨t,rfl⟩:=r; rfl
 | ref _=>cases r; rfl
 | ty _=>cases r; rfl
theorem RelV.inj{x y:V}{u:Value}(r:RelV x u)(q:RelV y u):x=y:=Option.some.inj (r.abs.symm.trans q.abs)
theorem Vals.inj:∀ {xs ys:List V} {us:List Value},Vals xs us->Vals ys us->xs=ys
 | _,_,_,.nil,.nil=>rfl
 | _,_,_,.cons r t,.cons r' t'=>by rw [r.inj r',Vals.inj t t']
section
variable {X:Cx} {zn:List (Addr×Obj)} {σ:St} {H:Hp} {s:Shared} {a:Addr} {xs ys:List V}
theorem SqL.of{K:W.Frag}(h:H a=some (.lst xs)):SqL K H a xs:=.inl (.inl h)
theorem SqT.of{K:W.Frag}(h:H a=some (.tup xs)):SqT K H a xs:=.inl (.inl h)
theorem Inv.list(I:Inv X zn σ H s)(h:SqL X.K H a xs):∃ its:List Value,Vals xs its/\PlainL s.heap a its.toArray/\xs.length<=sizeLine:=by
 rcases h with h | ⟨o,its,n,hk,hc,hd,hs,hz,r⟩
 ·obtain⟨z,its,n,r,e⟩:=h.ok I.hok;exact⟨its,r,⟨_,n,e,rfl,rfl,rfl⟩,z⟩
 ·refine⟨its.toList,r,⟨o,n,I.kIn a o hk,hc,hd,by simpa using hs⟩,?_⟩;have e:=r.length;simp only [length_toList] at e;omega
theorem Inv.tuple(I:Inv X zn σ H s)(h:SqT X.K H a xs):∃ its:List Value,Vals xs its/\IsTup s.heap a its.toArray/\xs.length<=sizeLine:=by
 rcases h with h | ⟨o,its,n,hk,hc,hs,hz,r⟩
 ·obtain⟨z,its,r,p⟩:=h.ok I.hok;exact⟨its,r,p,z.1⟩
 ·refine⟨its.toList,r,⟨o,I.kIn a o hk,hc,n,by simpa using hs⟩,?_⟩;have e:=r.length;simp only [length_toList] at e;omega
theorem Inv.list_inj(I:Inv X zn σ H s)(h:SqL X.K H a xs)(h':SqL X.K H a ys):xs=ys:=by
 obtain⟨its,r,⟨o,n,e,_,_,d⟩,_⟩:=I.list h;obtain⟨its',r',⟨o',n',e',_,_,d'⟩,_⟩:=I.list h';rw [e] at e'; cases e';rw [d] at d';injection d' with d1 _
 have:its=its':=by simpa using congrArg Array.toList d1
 subst this;exact r.inj r'
theorem Inv.tuple_inj(I:Inv X zn σ H s)(h:SqT X.K H a xs)(h':SqT X.K H a ys):xs=ys:=by
 obtain⟨its,r,⟨o,e,_,n,d⟩,_⟩:=I.tuple h;obtain⟨its',r',⟨o',e',_,n',d'⟩,_⟩:=I.tuple h';rw [e] at e'; cases e';rw [d] at d';injection d' with d1 _
 have:its=its':=by simpa using congrArg Array.toList d1
 subst this;exact r.inj r'
end
abbrev Cx.wish (X:Cx) (E:Value->Shared->Prop):Cx:={ X with xe:=E }
abbrev Cx.nox (X:Cx):Cx:=X.wish fun _ _=>False
theorem Cx.Ok.wish{X:Cx}(ok:X.Ok)(E:Value->Shared->Prop):(X.wish E).Ok :=
 ⟨ok.mod,ok.kind,ok.glob,ok.blt,ok.above,ok.inj,ok.has,ok.cab,ok.hd,ok.frames,ok.stk,ok.exf,ok.bs,ok.bsz,ok.noex,ok.exfs,ok.funs,ok.frf⟩
theorem Cx.Ok.unwish{X:Cx}{E:Value->Shared->Prop}(ok:(X.wish E).Ok):X.Ok :=
 ⟨ok.mod,ok.kind,ok.glob,ok.blt,ok.above,ok.inj,ok.has,ok.cab,ok.hd,ok.frames,ok.stk,ok.exf,ok.bs,ok.bsz,ok.noex,ok.exfs,ok.funs,ok.frf⟩
section
variable {X:Cx} {zn:List (Addr×Obj)} {σ:St} {H:Hp} {s:Shared} {E:Value->Shared->Prop}
theorem Inv.wish(I:Inv X zn σ H s)(E:Value->Shared->Prop):Inv (X.wish E) zn σ H s:=⟨I.ok.wish E,I.os,I.bare,I.base,I.loc,I.cell,I.free,I.freeC,I.pin,I.hok,I.len⟩
theorem Inv.unwish(I:Inv (X.wish E) zn σ H s):Inv X zn σ H s:=⟨I.ok.unwish,I.os,I.bare,I.base,I.loc,I.cell,I.free,I.freeC,I.pin,I.hok,I.len⟩
theorem SP.unwish{D:Ends}{f:Flow}{s':Shared}(h:SP (X.wish E) zn D f s'):SP X zn D f s':=by
 cases f with
 | next=>obtain⟨σ',H',I,q⟩:=h; exact⟨σ',H',I.unwish,q⟩
 | brk=>obtain⟨σ',H',I,q⟩:=h; exact⟨σ',H',I.unwish,q⟩
 | cont=>obtain⟨σ',H',I,q⟩:=h; exact⟨σ',H',I.unwish,q⟩
 | ret u=>obtain⟨v,σ',H',I,r,q⟩:=h; exact⟨v,σ',H',I.unwish,r,q⟩
theorem PSs.nox{st:List Stmt}{t:TS}(h:PSs X.nox st t):PSs X st t:=fun zn s σ H D I hw =>
 wpAny_mono (h zn s σ H D (I.wish _) hw) (fun _ _ q=>q.unwish) fun _ _ z=>False.elim z
end
section
variable {X:Cx} {st:Stmt} {rest:List Stmt} {t u:TS} {e:Expr} {te:TE} {pos:Pos}
def ztm:TS:=fun D σ H=>D.nx σ H
def zoD(t u:TS):TS:=fun D σ H=>t { D with nx:=u D } σ H
theorem zJ:PSs X [] ztm:=fun _ _ σ H _ I h=>wpAny_execs_nil ⟨σ,H,I,h⟩
theorem zf(h1:PS X st t)(h2:PSs X rest u):PSs X (st :: rest) (zoD t u):=by
 intro zn s σ H D I h;refine wpAny_execs_cons (thn (h1 zn s σ H { D with nx:=u D } I h) fun f s1 q=>?_);cases f with
 | next =>
  obtain⟨σ',H',I',q⟩:=q;exact h2 zn s1 σ' H' D I' q
 | ret v=>exact q
 | brk=>exact q
 | cont=>exact q
theorem zm(h1:PS X st t):PSs X [st] t:=by
 intro zn s σ H D I h;refine wpAny_execs_cons (thn (h1 zn s σ H D I h) fun f s1 q=>?_);cases f with
 | next=>exact wpAny_execs_nil q
 | ret v=>exact q
 | brk=>exact q
 | cont=>exact q
theorem Inv.quiet{zn:List (Addr×Obj)}{σ:St}{H:Hp}{s:Shared}(I:Inv X zn σ H s):interactive X.env=false:=by simp [interactive,I.ok.kind]
def zuV(te:TE):TS:=fun D σ H=>te σ H fun _ H1=>D.nx σ H1
theorem zbQ(he:PE X e te)(hs:swapsWith e none pos.line X.env=pure false:=by rfl):PS X (.Expr e pos) (zuV te):=by
 intro zn s σ H D I h;exact wpAny_Expr_any (thn (he zn s σ H _ I h) fun v s1 ⟨x,H1,I1,r1,q1⟩=>⟨σ,H1,I1,q1⟩) I.quiet hs
def zvU(te:TE):TS:=fun D σ H=>te σ H D.rt
theorem zy(he:PE X e te):PS X (.Return (some e) pos) (zvU te):=by
 intro zn s σ H D I h;exact wpAny_Return_some (thn (he zn s σ H _ I h) fun v s1 ⟨x,H1,I1,r1,q1⟩=>⟨x,σ,H1,I1,r1,q1⟩)
def zv7(c:TT)(t u:TS):TS:=fun D σ H=>c σ H fun b H1=>if b=true then t D σ H1 else u D σ H1
theorem zax{c:Expr}{a b:List Stmt}{tc:TT}(hc:PT X c tc)(ha:PSs X a t)(hb:PSs X b u):PS X (.If c a b pos) (zv7 tc t u):=by
 intro zn s σ H D I h;refine wpAny_If (thn (hc zn s σ H _ I h) fun d s1 ⟨H1,I1,q1⟩=>?_);cases d with
 | true=>exact ha zn s1 σ H1 D I1 q1
 | false=>exact hb zn s1 σ H1 D I1 q1
def zrt:TS:=fun _ _ _=>False
theorem zqf:PS X st zrt:=fun _ _ _ _ _ _ h=>h.elim
end
abbrev TG:=V->St->Hp->(St->Hp->Prop)->Prop
abbrev TGs:=List V->St->Hp->(St->Hp->Prop)->Prop
def PG(X:Cx)(target:Expr)(t:TG):Prop :=
 ∀ (zn:List (Addr×Obj)) (s:Shared) (σ:St) (H:Hp) (v:V) (u:Value) (Q:St->Hp->Prop),Inv X zn σ H s->RelV v u->t v σ H Q ->
  wpAny (model X.prog X.w) X.A (assign target X.env u) (fun _ s'=>∃ σ' H',Inv X zn σ' H' s'/\Q σ' H') X.xe s
def PGs(X:Cx)(ts:List Expr)(t:TGs):Prop :=
 ∀ (zn:List (Addr×Obj)) (s:Shared) (σ:St) (H:Hp) (vs:List V) (us:List Value) (Q:St->Hp->Prop),Inv X zn σ H s->Vals vs us->t vs σ H Q ->
  wpAny (model X.prog X.w) X.A (assignInOrder ((assignEach ts X.env).map (·.2)) us) (fun _ s'=>∃ σ' H',Inv X zn σ' H' s'/\Q σ' H') X.xe s
abbrev TSet:=V->V->V->Hp->(Hp->Prop)->Prop
def PSet(X:Cx)(t:TSet):Prop :=
 ∀ (zn:List (Addr×Obj)) (s:Shared) (σ:St) (H:Hp) (o i v:V) (ov iv u:Value) (Q:Hp->Prop),Inv X zn σ H s->RelV o ov->RelV i iv->RelV v u->t o i v H Q ->
  wpAny (model X.prog X.w) X.A (setItem ov iv u) (fun _ s'=>∃ H',Inv X zn σ H' s'/\Q H') X.xe s
section
variable {X:Cx} {pos:Pos}
def zkW(i:Nat):TG:=fun v σ H Q=>Q (σ.set i (some v)) H
theorem zt{i:Nat}{x:Str}(hN:X.N.Nodup)(hi:X.N[i]? = some x)(hx:Loc X.env.scope x)(hf:X.fn x=true\/X.env.scope.names.lookup x=some .local:=by first | exact .inl rfl | exact .inr rfl | assumption):PG X (.Name x pos) (zkW i):=by
 intro zn s σ H v u Q I r h;exact wpAny_assign_Name (ziF I hN hi hx r (fun s' I'=>⟨_,H,I',h⟩) hf)
def zwJ:TGs:=fun vs σ H Q=>vs=[]/\Q σ H
def zug(t:TG)(u:TGs):TGs:=fun vs σ H Q=>∃ v r,vs=v :: r/\t v σ H fun σ' H'=>u r σ' H' Q
theorem zaQ:PGs X [] zwJ:=by
 intro zn s σ H vs us Q I r h;obtain⟨e,h⟩:=h;subst e;cases r;exact assignInOrder_nil ⟨σ,H,I,h⟩
theorem zC{e:Expr}{es:List Expr}{t:TG}{u:TGs}(h1:PG X e t)(h2:PGs X es u)
  (hs:(assignEach (e :: es) X.env).map (·.2)=assign e X.env :: (assignEach es X.env).map (·.2):=by rfl):PGs X (e :: es) (zug t u):=by
 intro zn s σ H vs us Q I r h;obtain⟨v,vr,e1,h⟩:=h;subst e1;cases r with
 | cons r rr =>
  rw [hs];refine assignInOrder_cons (thn (h1 zn s σ H _ _ _ I r h) fun _ s1 ⟨σ1,H1,I1,q1⟩=>?_);exact h2 zn s1 σ1 H1 _ _ Q I1 rr q1
def zwL(K:W.Frag)(n:Nat)(t:TGs):TG:=fun v σ H Q=>∃ a xs,v=.ref a/\SqT K H a xs/\xs.length=n/\t xs σ H Q
theorem zbu{es:List Expr}{k:Nat}{t:TGs}{n:Nat}(hc:X.calm=true)(h:PGs X es t)
  (hn:(assignEach es X.env).length=n:=by rfl) (hst:(assignEach es X.env).findIdx? (·.1)=none:=by rfl):PG X (.Tuple es k pos) (zwL X.K n t):=by
 intro zn s σ H v u Q I r hw;obtain⟨a,xs,e1,hq,hl,hw⟩:=hw;subst e1;cases r;obtain⟨its,rv,ht,hz⟩:=I.tuple hq;refine assign_Tuple_tuple (I.ok.hd hc) ht (by simp [hn,<- hl,rv.length]) hst fun h' hx=>?_;have I1:Inv X zn σ H { s with heap:=h' }:=I.kept (t':=s.toks) fun b o e=>hx b o (ne_of_lt (lt_size e)) e;exact h zn _ σ H xs _ Q I1 (by simpa using rv) hw
def zwI(to ti:TE)(t:TSet):TG:=fun v σ H Q=>to σ H fun o H1=>ti σ H1 fun i H2=>t o i v H2 fun H3=>Q σ H3
theorem zjN{o i:Expr}{to ti:TE}{t:TSet}(ho:PE X o to)(hi:PE X i ti)(hs:PSet X t)
  (ha:∀ v,assign (.Subscript o i pos) X.env v=(do
   let ov <- holding [v] (eval o X.env)
   let iv <- holding [v,ov] (eval i X.env)
   standAt pos
   holding [v,ov,iv] (setItem ov iv v)
   release [v,ov,iv] []):=by intro _; rfl):PG X (.Subscript o i pos) (zwI to ti t):=by
 intro zn s σ H v u Q I r h;rw [ha];refine wpAny_bind (wpAny_holding (thn (ho zn s σ H _ I h) fun ov s1 ⟨x,H1,I1,r1,q1⟩=>?_));refine wpAny_bind (wpAny_holding (thn (hi zn s1 σ H1 _ I1 q1) fun iv s2 ⟨y,H2,I2,r2,q2⟩=>?_));refine wpAny_bind (wpAny_standAt (wpAny_bind (wpAny_holding (thn (hs zn s2 σ H2 x y v ov iv u _ I2 r1 r2 r q2) fun _ s3 ⟨H3,I3,q3⟩=>?_))));exact wpAny_release ⟨σ,H3,I3,q3⟩
def zuy(te:TE)(g:TG):TS:=fun D σ H=>te σ H fun x H1=>g x σ H1 D.nx
theorem zff{tg e:Expr}{te:TE}{g:TG}(he:PE X e te)(hg:PG X tg g)(hs:swapsWithSole [tg] e pos.line X.env=pure false:=by rfl)(hw:swappedStores [tg] e X.env=pure none:=by rfl)
  (h1:(assignEach [tg] X.env).map (·.2)=[assign tg X.env]:=by rfl):PS X (.Assign [tg] e pos) (zuy te g):=by
 intro zn s σ H D I h;refine wpAny_Assign_stores (thn (he zn s σ H _ I h) fun v s1 ⟨x,H1,I1,r1,q1⟩=>?_) hs hw;rw [h1];exact thn (hg zn s1 σ H1 x v _ I1 r1 q1) fun _ s2 q=>q
theorem zA{i:Nat}{x:Str}{e:Expr}{te:TE}{pos':Pos}(hN:X.N.Nodup)(hi:X.N[i]? = some x)(hx:Loc X.env.scope x)(he:PE X e te)(hs:swapsWith e (some (.Name x pos')) pos.line X.env=pure false:=by rfl)(hf:X.fn x=true\/X.env.scope.names.lookup x=some .local:=by first | exact .inl rfl | exact .inr rfl | assumption):
  PS X (.Assign [.Name x pos'] e pos) (zuy te (zkW i)):=by
 intro zn s σ H D I h;refine wpAny_Assign_Name (thn (he zn s σ H _ I h) fun v s1 ⟨y,H1,I1,r1,q1⟩=>?_) hs;exact ziF I1 hN hi hx r1 (fun s2 I2=>⟨_,H1,I2,q1⟩) hf
end
section
variable {X:Cx} {pos:Pos}
def zrP(c:TT)(tb:TS):TS:=fun D σ H=>∃ W:Nat->St->Hp->Prop,(∃ m,W m σ H)/\∀ m σ H,W m σ H ->
 c σ H fun b H1=>if b=true then ∃ N:St->Hp->Prop,(∀ σ' H',N σ' H'->∃ m',m'<m/\W m' σ' H')/\tb { D with nx:=N,ct:=N,bk:=D.nx } σ H1 else D.nx σ H1
theorem zqk{c:Expr}{body:List Stmt}{tc:TT}{tb:TS}(hp:PassesOwn (model X.prog X.w) X.A X.env X.xe)(hc:PT X c tc)(hb:PSs X body tb):PS X (.While c body [] pos) (zrP tc tb):=by
 intro zn s σ H D I h;obtain⟨W,⟨m0,w0⟩,turn⟩:=h;refine wpAny_While (codeAny_whileLoop (fun n s'=>∃ σ' H',Inv X zn σ' H' s'/\W n σ' H') ?_ m0 ⟨σ,H,I,w0⟩);rintro n s1 ⟨σ1,H1,I1,w1⟩;refine wpAny_passesOwn hp (thn (hc zn s1 σ1 H1 _ I1 (turn n σ1 H1 w1)) fun b s2 ⟨H2,I2,q2⟩=>?_);cases b with
 | true =>
  obtain⟨N,hN,q2⟩:=q2;rw [if_pos rfl];refine wpAny_passesOwn hp (thn (hb zn s2 σ1 H2 _ I2 q2) fun f s3 q3=>?_);cases f with
  | next =>
   obtain⟨σ3,H3,I3,n3⟩:=q3;obtain⟨m',hm,w3⟩:=hN σ3 H3 n3;exact⟨m',hm,σ3,H3,I3,w3⟩
  | cont =>
   obtain⟨σ3,H3,I3,n3⟩:=q3;obtain⟨m',hm,w3⟩:=hN σ3 H3 n3;exact⟨m',hm,σ3,H3,I3,w3⟩
  | brk=>exact q3
  | ret v=>exact q3
 | false =>
  rw [if_neg Bool.false_ne_true];exact wpAny_execs_nil ⟨σ1,H2,I2,q2⟩
end
structure It where
 go:Nat->Hp->Prop
 yld:Nat->Hp->V->Hp->Prop
 stop:Nat->Hp->Prop
def FpOk(X:Cx)(zn:List (Addr×Obj))(H:Hp)(b:Addr):Prop :=
 H b=none/\b≠X.env.locals/\b∉X.fs/\(b∈X.ex\/X.s₀.heap.objs.size<=b)/\(∀ x c,X.env.cells.lookup x=some c->c≠b)/\∀ p∈X.pn++zn,p.1≠b
theorem Inv.fpOk{X:Cx}{zn:List (Addr×Obj)}{σ:St}{H H':Hp}{s:Shared}{b:Addr}(I:Inv X zn σ H s)(hb:s.heap.objs.size<=b)(hn:H' b=none):FpOk X zn H' b:=by
 refine⟨hn,ne_of_gt (lt_of_lt_of_le I.lt hb),I.nofs hb,.inr (le_trans I.sz hb),fun x c e z=>?_,fun p hp z=>?_⟩
 ·obtain⟨v,q⟩:=I.cell x c e;exact absurd (lt_of_lt_of_le q.lt (by rw [z]; exact hb)) (lt_irrefl _)
 ·exact absurd (lt_of_lt_of_le (lt_size (I.pin p hp).1) (by rw [z]; exact hb)) (lt_irrefl _)
structure Turn(P:Program)(w:World)(K:W.Frag)(tg:Expr)(J:It)(fp:List Addr)(it:Addr)(tn:Nat->Heap->Prop):Prop where
 mem:it∈fp
 obj:∀ i h,tn i h->∀ b∈fp,∃ o,h.get? b=some o/\∀ v,o.data≠.cell v
 keep:∀ i h h',tn i h->(∀ b∈fp,∀ o,h.get? b=some o->h'.get? b=some o)->tn i h'
 item:∀ (X:Cx),X.prog=P->X.w=w->X.K=K->X.calm=true->∀ (i:Nat) (zn:List (Addr×Obj)) (s:Shared) (σ:St) (H:Hp) (E:Value->Shared->Prop),Inv X zn σ H s->(∀ b∈fp,FpOk X zn H b)->tn i s.heap->J.go i H ->
  wpAny (model P w) X.A (pyNext (.ref it)) (fun r s1=>∃ u,r=some u /\
   wpAny (model P w) X.A (letOwnedTupleGo tg (.ref it) u) (fun _ s2=>∃ x H',Inv X zn σ H' s2/\RelV x u/\J.yld i H x H'/\tn (i+1) s2.heap/\∀ b∈fp,H' b=none) E s1) E s
 done:∀ (X:Cx),X.prog=P->X.w=w->X.K=K->X.calm=true->∀ (i:Nat) (zn:List (Addr×Obj)) (s:Shared) (σ:St) (H:Hp) (E:Value->Shared->Prop),Inv X zn σ H s->(∀ b∈fp,FpOk X zn H b)->tn i s.heap->J.stop i H ->
  wpAny (model P w) X.A (pyNext (.ref it)) (fun r s1=>r=none/\Inv X zn σ H s1) E s
 self:∀ (A:Around) (i:Nat) (s:Shared) (Q:Value->Shared->Prop) (E:Value->Shared->Prop),tn i s.heap->Q (.ref it) s->wpAny (model P w) A (pyIter (.ref it)) Q E s
abbrev TI:=St->Hp->(It->Hp->Prop)->Prop
def PIE(X:Cx)(zn:List (Addr×Obj))(σ:St)(tg:Expr)(R:It->Hp->Prop)(itv:Value)(s2:Shared):Prop :=
 ∃ (it:Addr) (fp:List Addr) (tn:Nat->Heap->Prop) (J:It) (H':Hp),itv=.ref it/\Inv X zn σ H' s2/\Turn X.prog X.w X.K tg J fp it tn/\tn 0 s2.heap/\(∀ b∈fp,FpOk X zn H' b)/\R J H'
def PI(X:Cx)(tg iter:Expr)(wi:TI):Prop :=
 ∀ (zn:List (Addr×Obj)) (s:Shared) (σ:St) (H:Hp) (R:It->Hp->Prop),Inv X zn σ H s->wi σ H R ->
  wpAny (model X.prog X.w) X.A (eval iter X.env) (fun v s1=>wpAny (model X.prog X.w) X.A (pyIter v) (PIE X zn σ tg R) X.xe s1) X.xe s
theorem zqE{M:Model}{A:Around}{E:Value->Shared->Prop}{s:Shared}{tg:Expr}{it:Addr}{u:Value}{o:Obj}{n:String}{vs:Array Value}{Q:Unit->Shared->Prop}(ho:s.heap.get? it=some o)(hc:o.cls=.type n)(hd:o.data=.fields vs)
    (hn:["enumerate","zip","dict_itemiterator","dict_reverseitemiterator","odict_iterator","itertools.zip_longest","itertools.pairwise"].contains n=false) (hQ:Q () s):wpAny M A (letOwnedTupleGo tg (.ref it) u) Q E s:=by
  unfold letOwnedTupleGo;cases tg <;> first
    | exact wpAny_pure hQ
    | (cases u <;> first
        | exact wpAny_pure hQ
        | (refine wpAny_bind (wpAny_load ho ?_)
           rw [hc,hd];show wpAny M A (if (["enumerate","zip","dict_itemiterator","dict_reverseitemiterator","odict_iterator","itertools.zip_longest","itertools.pairwise"].contains n && vs[0]? == some (rawInt _))=true then _ else _) Q E s;rw [if_neg (by intro h; rw [hn,Bool.false_and] at h; cases h)];exact wpAny_pure hQ))
def Itl(K:W.Frag)(a:Addr):It :=
 ⟨fun i H=>∃ xs x,SqL K H a xs/\xs[i]? = some x,fun i H x H'=>H'=H/\∀ xs,SqL K H a xs->xs[i]? = some x,fun i H=>∃ xs,SqL K H a xs/\xs.length<=i⟩
def Itt(K:W.Frag)(a:Addr):It :=
 ⟨fun i H=>∃ xs x,SqT K H a xs/\xs[i]? = some x,fun i H x H'=>H'=H/\∀ xs,SqT K H a xs->xs[i]? = some x,fun i H=>∃ xs,SqT K H a xs/\xs.length<=i⟩
def Itr(lo:Int)(n:Nat):It:=⟨fun i _=>i<n,fun i H x H'=>H'=H/\x=.int (lo+i),fun i _=>n<=i⟩
theorem zjp{P:Program}{w:World}{K:W.Frag}{tg:Expr}(a it:Addr):Turn P w K tg (Itl K a) [it] it (fun i h=>h.IsListIter it a i) where
 mem:=by simp
 obj:=fun i h st b hb=>by
  have e:b=it:=by simpa using hb
  subst e;obtain⟨o,e,c,d⟩:=st;exact⟨o,e,fun v z=>by rw [d] at z; cases z⟩
 keep:=fun i h h' st k=>st.at fun o e=>k it (by simp) o e
 item:=by
  intro X hP hw hK hc i zn s σ H E I hf st hg;subst hP hw hK;obtain⟨xs,x,hq,hx⟩:=hg;obtain⟨its,rv,p,hz⟩:=I.list hq;obtain⟨u,hu,ru⟩:=rv.get hx;obtain⟨f0,f1,f2,f3,f4,f5⟩:=hf it (by simp);refine wpAny_pyNext_list_item st p.isList (x:=u) (by simpa using hu) fun h' st' sb=>?_;have I1:Inv X zn σ H { s with heap:=h' }:=I.turned (t':=s.toks) (fun b o hb e=>(sb.2 b hb).trans e) f0 f1 f3 f4 f5;obtain⟨o,e,c,d⟩:=id st';exact⟨u,rfl,zqE (s:={ s with heap:=h' }) e c d dz ⟨x,H,I1,ru,⟨rfl,fun ys hy=>by rw [I.list_inj hy hq]; exact hx⟩,st',fun b hb=>(hf b hb).1⟩⟩
 done:=by
  intro X hP hw hK hc i zn s σ H E I hf st hg;subst hP hw hK;obtain⟨xs,hq,hx⟩:=hg;obtain⟨its,rv,p,hz⟩:=I.list hq;obtain⟨f0,f1,f2,f3,f4,f5⟩:=hf it (by simp);have hl:=rv.length;exact wpAny_pyNext_list_end (I.ok.hd hc) st p.isList (by simp; omega) fun h' eb=>⟨rfl,I.turned (t':=s.toks) (fun b o hb e=>eb b o hb e) f0 f1 f3 f4 f5⟩
 self:=fun _ _ _ _ _ st h=>wpAny_pyIter_listiter st h
theorem zmY{P:Program}{w:World}{K:W.Frag}{tg:Expr}(a it:Addr):Turn P w K tg (Itt K a) [it] it (fun i h=>h.IsTupleIter it a i) where
 mem:=by simp
 obj:=fun i h st b hb=>by
  have e:b=it:=by simpa using hb
  subst e;obtain⟨o,e,c,d⟩:=st;exact⟨o,e,fun v z=>by rw [d] at z; cases z⟩
 keep:=fun i h h' st k=>st.at fun o e=>k it (by simp) o e
 item:=by
  intro X hP hw hK hc i zn s σ H E I hf st hg;subst hP hw hK;obtain⟨xs,x,hq,hx⟩:=hg;obtain⟨its,rv,p,hz⟩:=I.tuple hq;obtain⟨u,hu,ru⟩:=rv.get hx;obtain⟨f0,f1,f2,f3,f4,f5⟩:=hf it (by simp);refine wpAny_pyNext_tuple_item st (show s.heap.IsTuple a its.toArray from p) (x:=u) (by simpa using hu) fun h' st' sb=>?_;have I1:Inv X zn σ H { s with heap:=h' }:=I.turned (t':=s.toks) (fun b o hb e=>(sb.2 b hb).trans e) f0 f1 f3 f4 f5;obtain⟨o,e,c,d⟩:=id st';exact⟨u,rfl,zqE (s:={ s with heap:=h' }) e c d dz ⟨x,H,I1,ru,⟨rfl,fun ys hy=>by rw [I.tuple_inj hy hq]; exact hx⟩,st',fun b hb=>(hf b hb).1⟩⟩
 done:=by
  intro X hP hw hK hc i zn s σ H E I hf st hg;subst hP hw hK;obtain⟨xs,hq,hx⟩:=hg;obtain⟨its,rv,p,hz⟩:=I.tuple hq;obtain⟨f0,f1,f2,f3,f4,f5⟩:=hf it (by simp);have hl:=rv.length;exact wpAny_pyNext_tuple_end (I.ok.hd hc) st (show s.heap.IsTuple a its.toArray from p) (by simp; omega) fun h' eb=>⟨rfl,I.turned (t':=s.toks) (fun b o hb e=>eb b o hb e) f0 f1 f3 f4 f5⟩
 self:=fun _ _ _ _ _ st h=>wpAny_pyIter_tupleiter st h
theorem zmD{P:Program}{w:World}{K:W.Frag}{tg:Expr}(it:Addr)(lo:Int)(n:Nat):Turn P w K tg (Itr lo n) [it] it (fun i h=>IsRangeIter h it (lo+(i:Nat)*1) ((n:Int) - (i:Nat)) 1) where
 mem:=by simp
 obj:=fun i h st b hb=>by
  have e:b=it:=by simpa using hb
  subst e;exact⟨_,st,fun v z=>by
   have z':Data.fields _=Data.cell v:=z;cases z'⟩
 keep:=fun i h h' st k=>k it (by simp) _ st
 item:=by
  intro X hP hw hK hc i zn s σ H E I hf st hg;subst hP hw hK;obtain⟨f0,f1,f2,f3,f4,f5⟩:=hf it (by simp);have W:=Walks.range (prog:=X.prog) (w:=X.w) (I.ok.hd hc) it lo 1 n;refine W.item i s _ _ hg st fun v h' tk hv st' kk=>?_;obtain⟨t,rfl⟩:=hv;have I1:Inv X zn σ H { s with heap:=h',toks:=tk }:=I.turned (fun b o hb e=>kk b o (by simpa using hb) e) f0 f1 f3 f4 f5;refine⟨_,rfl,zqE (s:={ s with heap:=h',toks:=tk }) (n:="range_iterator") st' rfl rfl dz ⟨.int (lo+i),H,I1,⟨t,?_⟩,⟨rfl,rfl⟩,st',fun b hb=>(hf b hb).1⟩⟩;rw [Int.mul_one]
 done:=by
  intro X hP hw hK hc i zn s σ H E I hf st hg;subst hP hw hK;obtain⟨f0,f1,f2,f3,f4,f5⟩:=hf it (by simp);exact wpAny_pyNext_range_end (I.ok.hd hc) st (by have:n<=i:=hg; omega) fun h' eb=>⟨rfl,I.turned (t':=s.toks) (fun b o hb e=>eb b o hb e) f0 f1 f3 f4 f5⟩
 self:=fun _ _ _ _ _ st h=>wpAny_pyIter_rangeiter st h
end
section
section
variable {X:Cx} {tg:Expr}
def zs9(K:W.Frag)(tl:TE):TI:=fun σ H R=>tl σ H fun x H1=>∃ a,x=.ref a/\(∃ xs,SqL K H1 a xs)/\R (Itl K a) H1
theorem zsB{l:Expr}{tl:TE}(hl:PE X l tl):PI X tg l (zs9 X.K tl):=by
 intro zn s σ H R I h;refine thn (hl zn s σ H _ I h) fun v s1 ⟨x,H1,I1,r1,q1⟩=>?_;obtain⟨a,e,⟨xs,hq⟩,q⟩:=q1;subst e;cases r1;obtain⟨its,rv,p,hz⟩:=I1.list hq;refine wpAny_pyIter_list p.isList ?_;refine⟨s1.heap.objs.size,[s1.heap.objs.size],_,_,H1,rfl,I1.kept (t':=s1.toks) fun b o e=>get?_push_of_some _ e,zjp a _,⟨_,get?_push_size _ rfl,rfl,rfl⟩,fun b hb=>?_,q⟩;have e:b=s1.heap.objs.size:=by simpa using hb
 subst e;exact I1.fpOk (le_refl _) (I1.hok.fresh (le_refl _))
def zt9(wi:TI)(g:TG)(tb:TS):TS:=fun D σ H=>wi σ H fun J H1=>∃ W:Nat->Nat->St->Hp->Prop,(∃ m,W 0 m σ H1)/\∀ i m σ H,W i m σ H ->
 (J.stop i H/\D.nx σ H)\/(J.go i H/\∃ N:St->Hp->Prop,(∀ σ' H',N σ' H'->∃ m',m'<m/\W (i+1) m' σ' H')/\∀ x H',J.yld i H x H'->g x σ H' fun σ2 H2=>tb { D with nx:=N,ct:=N,bk:=D.nx } σ2 H2)
def zj2(fp:List Addr)(h:Heap):List (Addr×Obj):=fp.filterMap fun b=>(h.get? b).map fun o=>(b,o)
theorem zej{fp:List Addr}{h:Heap}{b:Addr}{o:Obj}(hb:b∈fp)(e:h.get? b=some o):(b,o)∈zj2 fp h:=List.mem_filterMap.mpr ⟨b,hb,by rw [e]; rfl⟩
theorem zow{fp:List Addr}{h:Heap}{p:Addr×Obj}(hp:p∈zj2 fp h):p.1∈fp/\h.get? p.1=some p.2:=by
 obtain⟨b,hb,e⟩:=List.mem_filterMap.mp hp;cases q:h.get? b with
 | none=>rw [q] at e; cases e
 | some o =>
  rw [q] at e;have e':(b,o)=p:=Option.some.inj e;subst e';exact⟨hb,q⟩
theorem Inv.pinned{zn:List (Addr×Obj)}{σ:St}{H:Hp}{s:Shared}{fp:List Addr}(I:Inv X zn σ H s)(hf:∀ b∈fp,FpOk X zn H b)(ho:∀ b∈fp,∃ o,s.heap.get? b=some o/\∀ v,o.data≠.cell v):Inv X (zn++zj2 fp s.heap) σ H s :=
 I.pins_of fun p hp=>(mem_append.mp hp).elim (fun z=>I.pin p (mem_append_right _ z)) fun z=>by
  obtain⟨hb,e⟩:=zow z;obtain⟨f0,f1,f2,_⟩:=hf p.1 hb;obtain⟨o,e',d⟩:=ho p.1 hb;rw [e] at e'; cases e';exact⟨e,f0,f1,f2,d⟩
theorem Inv.unpinned{zn pl:List (Addr×Obj)}{σ:St}{H:Hp}{s:Shared}(I:Inv X (zn++pl) σ H s):Inv X zn σ H s:=I.pins_of fun p hp=>I.pin p (mem_append_right _ (mem_append_left _ hp))
theorem zbx{iter:Expr}{body:List Stmt}{wi:TI}{g:TG}{tb:TS}{pos:Pos}(hp:PassesOwn (model X.prog X.w) X.A X.env X.xe)(hc:X.calm=true)(hi:PI X tg iter wi)(hg:PG X tg g)(hb:PSs X body tb)
  (hs:∀ x,foldedSetIterable iter X.env x=pure x:=by intro _; rfl):PS X (.For tg iter body [] pos) (zt9 wi g tb):=by
 intro zn s σ H D I h;refine wpAny_For (thn (hi zn s σ H _ I h) fun v s1 h1=>thn h1 fun itv s2 h2=>?_) hs;obtain⟨it,fp,tn,J,H2,e,I2,T,st2,f2,W,⟨m0,w0⟩,turn⟩:=h2;subst e
 -- what stays true of the iterator's objects through the loop
 have stat:∀ {H':Hp},(∀ b∈fp,H' b=none)->∀ b∈fp,FpOk X zn H' b:=fun hn b hb=>⟨hn b hb,(f2 b hb).2⟩;refine codeAny_forLoop_any (fun n s'=>∃ i σ' H',Inv X zn σ' H' s'/\tn i s'.heap/\(∀ b∈fp,H' b=none)/\W i n σ' H') ?_ m0 ⟨0,σ,H2,I2,st2,fun b hb=>(f2 b hb).1,w0⟩;rintro n s3 ⟨i,σ3,H3,I3,st3,fr3,w3⟩;rcases turn i n σ3 H3 w3 with ⟨stop,qn⟩ | ⟨go,N,hN,step⟩
 ·refine wpAny_passesOwn hp (thn (T.done X rfl rfl rfl hc i zn s3 σ3 H3 X.xe I3 (stat fr3) st3 stop) fun r s4 ⟨hr,I4⟩=>?_);subst hr;exact wpAny_execs_nil ⟨σ3,H3,I4,qn⟩
 ·refine wpAny_passesOwn hp (thn (T.item X rfl rfl rfl hc i zn s3 σ3 H3 X.xe I3 (stat fr3) st3 go) fun r s4 ⟨u,hr,h4⟩=>?_);subst hr;refine wpAny_passesOwn hp (thn h4 fun _ s5 ⟨x,H5,I5,r5,y5,st5,fr5⟩=>?_);have I5':=I5.pinned (stat fr5) (T.obj _ _ st5);refine wpAny_passesOwn hp (thn (hg _ s5 σ3 H5 x u _ I5' r5 (step x H5 y5)) fun _ s6 ⟨σ6,H6,I6,q6⟩=>?_);refine wpAny_passesOwn hp (thn (hb _ s6 σ6 H6 _ I6 q6) fun f s7 q7=>?_);have again:∀ {σ7:St} {H7:Hp},Inv X (zn++zj2 fp s5.heap) σ7 H7 s7->N σ7 H7->∃ m,m<n/\∃ i σ' H',Inv X zn σ' H' s7/\tn i s7.heap/\(∀ b∈fp,H' b=none)/\W i m σ' H':=fun {σ7 H7} I7 n7=>by
   obtain⟨m',hm,w7⟩:=hN σ7 H7 n7;refine⟨m',hm,i+1,σ7,H7,I7.unpinned,T.keep _ _ _ st5 fun b hb o e=>(I7.pin (b,o) (mem_append_right _ (mem_append_right _ (zej hb e)))).1,fun b hb=>?_,w7⟩;obtain⟨o,e,d⟩:=T.obj _ _ st5 b hb;exact(I7.pin (b,o) (mem_append_right _ (mem_append_right _ (zej hb e)))).2.1
  cases f with
  | next=>obtain⟨σ7,H7,I7,n7⟩:=q7; exact again I7 n7
  | cont=>obtain⟨σ7,H7,I7,n7⟩:=q7; exact again I7 n7
  | brk=>obtain⟨σ7,H7,I7,q7⟩:=q7; exact⟨σ7,H7,I7.unpinned,q7⟩
  | ret v=>obtain⟨x7,σ7,H7,I7,r7,q7⟩:=q7; exact⟨x7,σ7,H7,I7.unpinned,r7,q7⟩
end
theorem zpQ{K:W.Frag}{a:Addr}{xs:List V}{g:TG}{tb:TS}{D:Ends}{σ:St}{H:Hp}(Pv:Nat->St->Hp->Prop)(h0:Pv 0 σ H)(hl:∀ i σ H,i<=xs.length->Pv i σ H->SqL K H a xs)
  (hs:∀ i x σ H,xs[i]? = some x->Pv i σ H->g x σ H fun σ2 H2=>tb { D with nx:=Pv (i+1),ct:=Pv (i+1),bk:=D.nx } σ2 H2) (hd:∀ σ H,Pv xs.length σ H->D.nx σ H) :
  ∃ W:Nat->Nat->St->Hp->Prop,(∃ m,W 0 m σ H)/\∀ i m σ H,W i m σ H ->
   ((Itl K a).stop i H/\D.nx σ H)\/((Itl K a).go i H/\∃ N:St->Hp->Prop,(∀ σ' H',N σ' H'->∃ m',m'<m/\W (i+1) m' σ' H')/\∀ x H',(Itl K a).yld i H x H'->g x σ H' fun σ2 H2=>tb { D with nx:=N,ct:=N,bk:=D.nx } σ2 H2):=by
 refine⟨fun i m σ H=>m=xs.length - i/\i<=xs.length/\Pv i σ H,⟨xs.length,by simp,zero_le _,h0⟩,?_⟩;rintro i m σ H ⟨rfl,hi,p⟩;have q:=hl i σ H hi p;by_cases hlt:i<xs.length
 ·refine .inr ⟨⟨xs,xs[i],q,by simp [hlt]⟩,Pv (i+1),fun σ' H' p'=>⟨xs.length - (i+1),by omega,rfl,hlt,p'⟩,fun x H' y=>?_⟩;obtain⟨e,y⟩:=y;subst e;exact hs i x σ _ (y xs q) p
 ·have e:i=xs.length:=by omega
  subst e;exact .inl ⟨⟨xs,q,le_refl _⟩,hd σ H p⟩
end
section
abbrev R2:=V->V->Hp->VK->Prop
def OpR(X:Cx)(f:Value->Value->Sem Value)(r:R2):Prop :=
 ∀ (zn:List (Addr×Obj)) (s:Shared) (σ:St) (H:Hp) (x y:V) (v u:Value) (Q:VK),Inv X zn σ H s->RelV x v->RelV y u->r x y H Q ->
  wpAny (model X.prog X.w) X.A (f v u) (EP X zn σ Q) X.xe s
def UnR(X:Cx)(f:Value->Sem Value)(r:V->Hp->VK->Prop):Prop :=
 ∀ (zn:List (Addr×Obj)) (s:Shared) (σ:St) (H:Hp) (x:V) (v:Value) (Q:VK),Inv X zn σ H s->RelV x v->r x H Q ->
  wpAny (model X.prog X.w) X.A (f v) (EP X zn σ Q) X.xe s
def CallR(X:Cx)(f:Value)(r:List V->Hp->VK->Prop):Prop :=
 ∀ (zn:List (Addr×Obj)) (s:Shared) (σ:St) (H:Hp) (xs:List V) (us:List Value) (Q:VK),Inv X zn σ H s->Vals xs us->r xs H Q ->
  wpAny (model X.prog X.w) X.A (call f us) (EP X zn σ Q) X.xe s
def TruR(X:Cx)(r:V->Hp->(Bool->Hp->Prop)->Prop):Prop :=
 ∀ (zn:List (Addr×Obj)) (s:Shared) (σ:St) (H:Hp) (x:V) (v:Value) (Q:Bool->Hp->Prop),Inv X zn σ H s->RelV x v->r x H Q ->
  wpAny (model X.prog X.w) X.A (truthy v) (TP X zn σ Q) X.xe s
def tOp(r:R2)(ta tb:TE):TE:=fun σ H Q=>ta σ H fun x H1=>tb σ H1 fun y H2=>r x y H2 Q
def tUn(r:V->Hp->VK->Prop)(ta:TE):TE:=fun σ H Q=>ta σ H fun x H1=>r x H1 Q
def rI(C:Int->Int->Prop)(g:Int->Int->V):R2:=fun x y H Q=>∃ i j,x=.int i/\y=.int j/\C i j/\Q (g i j) H
def rI0(g:Int->Int->V):R2:=fun x y H Q=>∃ i j,x=.int i/\y=.int j/\Q (g i j) H
def rU(g:Int->V):V->Hp->VK->Prop:=fun x H Q=>∃ i,x=.int i/\Q (g i) H
section
variable {X:Cx} {a b c:Expr} {ta tb tc:TE} {pos:Pos}
theorem zwl(ha:PE X a ta)(hb:PE X b tb){zn:List (Addr×Obj)}{s:Shared}{σ:St}{H:Hp}{R:V->V->Hp->Prop}(I:Inv X zn σ H s)
  (h:ta σ H fun x H1=>tb σ H1 fun y H2=>R x y H2) {Q:Value->Shared->Prop} {f:Value->Value->Sem Value}
  (hf:∀ v u s2 x y H2,Inv X zn σ H2 s2->RelV x v->RelV y u->R x y H2->wpAny (model X.prog X.w) X.A (f v u) Q X.xe s2) :
  wpAny (model X.prog X.w) X.A (eval a X.env) (fun v s₁=>wpAny (model X.prog X.w) X.A (eval b X.env) (fun u s₂=>wpAny (model X.prog X.w) X.A (f v u) Q X.xe s₂) X.xe s₁) X.xe s:=by
 refine thn (ha zn s σ H _ I h) fun v s1 ⟨x,H1,I1,r1,q1⟩=>?_;refine thn (hb zn s1 σ H1 _ I1 q1) fun u s2 ⟨y,H2,I2,r2,q2⟩=>?_;exact hf v u s2 x y H2 I2 r1 r2 q2
theorem zG{op:Operator}{r:R2}(ho:OpR X (binaryOp op) r)(ha:PE X a ta)(hb:PE X b tb):PE X (.BinOp a op b pos) (tOp r ta tb):=by
 intro zn s σ H Q I h;exact wpAny_BinOp (zwl ha hb I h fun v u s2 x y H2 I2 rx ry q=>ho zn s2 σ H2 x y v u Q I2 rx ry q)
theorem zfk{op:UnaryOp}{r:V->Hp->VK->Prop}(ho:UnR X (unaryOp op) r)(ha:PE X a ta):PE X (.UnaryOp op a pos) (tUn r ta):=by
 intro zn s σ H Q I h;exact UnaryOp_ (thn (ha zn s σ H _ I h) fun v s1 ⟨x,H1,I1,r1,q1⟩=>ho zn s1 σ H1 x v Q I1 r1 q1)
theorem opI{f:Value->Value->Sem Value}{C:Int->Int->Prop}{g:Int->Int->Int}
  (rule:∀ (i j:Int) (t u:Tok) (s:Shared) (Q:Value->Shared->Prop) (E:Value->Shared->Prop),C i j->Q (.int (g i j) s.toks) { s with toks:=s.toks+1 }->wpAny (model X.prog X.w) X.A (f (.int i t) (.int j u)) Q E s) :
  OpR X f (rI C fun i j=>.int (g i j)):=by
 intro zn s σ H x y v u Q I rx ry h;obtain⟨i,j,rfl,rfl,hc,q⟩:=h;obtain⟨t,rfl⟩:=rx;obtain⟨t',rfl⟩:=ry;exact rule i j t t' s _ _ hc ⟨.int (g i j),H,I.tok _,⟨_,rfl⟩,q⟩
theorem zwz{f:Value->Value->Sem Value}{g:Int->Int->Int}
  (rule:∀ (i j:Int) (t u:Tok) (s:Shared) (Q:Value->Shared->Prop) (E:Value->Shared->Prop),Q (.int (g i j) s.toks) { s with toks:=s.toks+1 }->wpAny (model X.prog X.w) X.A (f (.int i t) (.int j u)) Q E s) :
  OpR X f (rI0 fun i j=>.int (g i j)):=by
 intro zn s σ H x y v u Q I rx ry h;obtain⟨i,j,rfl,rfl,q⟩:=h;obtain⟨t,rfl⟩:=rx;obtain⟨t',rfl⟩:=ry;exact rule i j t t' s _ _ ⟨.int (g i j),H,I.tok _,⟨_,rfl⟩,q⟩
theorem zvD{f:Value->Value->Sem Value}{g:Int->Int->Bool}
  (rule:∀ (i j:Int) (t u:Tok) (s:Shared) (Q:Value->Shared->Prop) (E:Value->Shared->Prop),Q (.bool (g i j)) s->wpAny (model X.prog X.w) X.A (f (.int i t) (.int j u)) Q E s) :
  OpR X f (rI0 fun i j=>.bl (g i j)):=by
 intro zn s σ H x y v u Q I rx ry h;obtain⟨i,j,rfl,rfl,q⟩:=h;obtain⟨t,rfl⟩:=rx;obtain⟨t',rfl⟩:=ry;exact rule i j t t' s _ _ ⟨.bl (g i j),H,I,rfl,q⟩
def CDivN(i j:Int):Prop:=j≠0/\j.natAbs<1073741824
def CPow(i j:Int):Prop:=0<=j/\j<=1000000/\i.natAbs<2 ^ 64
theorem zuw:OpR X (binaryOp .Add) (rI0 fun i j=>.int (i+j)):=zwz fun _ _ _ _ _ _ _ q=>add_int q
theorem zbS:OpR X (binaryOp .Sub) (rI0 fun i j=>.int (i - j)):=zwz fun _ _ _ _ _ _ _ q=>sub_int q
theorem zp9:OpR X (binaryOp .FloorDiv) (rI CDivN fun i j=>.int (i.fdiv j)):=opI fun _ _ _ _ _ _ _ hc q=>floordiv_int hc.1 q (.inl (PyProof.noPylong_small hc.2))
theorem zfX:OpR X (binaryOp .Mod) (rI (fun _ j=>0<j) fun i j=>.int (i % j)):=opI fun i j _ _ _ _ _ hc q=>by
 have h1:(0:Int)<j:=hc;exact mod_int' (by omega) (by rw [Int.fmod_eq_emod_of_nonneg i (by omega)]; exact q)
theorem zhf:OpR X (binaryOp .Pow) (rI CPow fun i j=>.int (i ^ j.toNat)):=opI fun _ _ _ _ _ _ _ hc q=>pow_int_small hc.1 hc.2.1 hc.2.2 q
theorem unI{f:Value->Sem Value}{g:Int->Int}
  (rule:∀ (i:Int) (t:Tok) (s:Shared) (Q:Value->Shared->Prop) (E:Value->Shared->Prop),Q (.int (g i) s.toks) { s with toks:=s.toks+1 }->wpAny (model X.prog X.w) X.A (f (.int i t)) Q E s) :
  UnR X f (rU fun i=>.int (g i)):=by
 intro zn s σ H x v Q I rx h;obtain⟨i,rfl,q⟩:=h;obtain⟨t,rfl⟩:=rx;exact rule i t s _ _ ⟨.int (g i),H,I.tok _,⟨_,rfl⟩,q⟩
theorem zcG:UnR X (unaryOp .USub) (rU fun i=>.int (-i)):=unI fun _ _ _ _ _ q=>neg_int q
end
section
variable {X:Cx} {a b c:Expr} {ta tb tc:TE} {pos:Pos}
theorem zma{zn:List (Addr×Obj)}{σ:St}{H:Hp}{s:Shared}{Q:VK}{k k':Bool}(I:Inv X zn σ H s)(q:Q (.bl k) H)(e:k=k'):EP X zn σ Q (.bool k') s:=by
 subst e;exact⟨.bl k,H,I,rfl,q⟩
theorem zgH:OpR X (compareOp .Lt) (rI0 fun i j=>.bl (decide (i<j))):=zvD fun _ _ _ _ _ _ _ q=>lt_int q
theorem zmz:OpR X (compareOp .LtE) (rI0 fun i j=>.bl (decide (i<=j))):=zvD fun _ _ _ _ _ _ _ q=>le_int q
theorem zhC:OpR X (compareOp .Gt) (rI0 fun i j=>.bl (decide (j<i))):=zvD fun _ _ _ _ _ _ _ q=>gt_int q
theorem zqx:OpR X (compareOp .GtE) (rI0 fun i j=>.bl (decide (j<=i))):=zvD fun _ _ _ _ _ _ _ q=>ge_int q
theorem zus:OpR X (compareOp .Is) (fun x y H Q=>y=.non/\Q (.bl (decide (x=.non))) H):=by
 intro zn s σ H x y v u Q I rx ry h;obtain⟨rfl,q⟩:=h;cases ry;refine is_none_gen (zma I q ?_);cases x <;> first
  | (cases rx; rfl)
  | (obtain⟨t,rfl⟩:=rx; rfl)
theorem zsy:OpR X (compareOp .IsNot) (fun x y H Q=>y=.non/\Q (.bl (!decide (x=.non))) H):=by
 intro zn s σ H x y v u Q I rx ry h;obtain⟨rfl,q⟩:=h;cases ry;refine isnot_none_gen (zma I q ?_);cases x <;> first
  | (cases rx; rfl)
  | (obtain⟨t,rfl⟩:=rx; rfl)
theorem zjo:OpR X (compareOp .NotIn) (fun x y H Q=>∃ i j,x=.str i/\y=.str j/\Q (.bl (!(!(Builtin.Str.occurrences j i 0 j.length 1).isEmpty))) H):=by
 intro zn s σ H x y v u Q I rx ry h;obtain⟨i,j,rfl,rfl,q⟩:=h;obtain⟨t,rfl⟩:=rx;obtain⟨t',rfl⟩:=ry;exact notIn_str (zma I q rfl)
theorem OpR.or{f:Value->Value->Sem Value}{r r':R2}(h:OpR X f r)(h':OpR X f r'):OpR X f (fun x y H Q=>r x y H Q\/r' x y H Q):=by
 intro zn s σ H x y v u Q I rx ry q;rcases q with q | q
 ·exact h zn s σ H x y v u Q I rx ry q
 ·exact h' zn s σ H x y v u Q I rx ry q
theorem nomark(b:Expr){op:CmpOp}(h:op≠.In:=by decide)(h2:op≠.NotIn:=by decide):behindInMarks op b=false:=by
 have e1:(op == CmpOp.In)=false:=by cases op <;> first | rfl | exact absurd rfl h
 have e2:(op == CmpOp.NotIn)=false:=by cases op <;> first | rfl | exact absurd rfl h2
 cases b <;> simp [behindInMarks,e1,e2]
theorem zbO{op:CmpOp}{r:R2}(ho:OpR X (compareOp op) r)(ha:PE X a ta)(hb:PE X b tb)(hm:behindInMarks op b=false):PE X (.Compare a [op] [b] pos) (tOp r ta tb):=by
 intro zn s σ H Q I h;exact wpAny_Compare1 (zwl ha hb I h fun v u s2 x y H2 I2 rx ry q=>ho zn s2 σ H2 x y v u Q I2 rx ry q) hm
def zod(t:TE):TT:=fun σ H Q=>t σ H fun x H'=>∃ k,x=.bl k/\Q k H'
theorem zI{op:CmpOp}{r:R2}(ho:OpR X (compareOp op) r)(ha:PE X a ta)(hb:PE X b tb)(hm:behindInMarks op b=false):PT X (.Compare a [op] [b] pos) (zod (tOp r ta tb)):=by
 intro zn s σ H Q I h;refine wpAny_isTrue_Compare1 (thn (ha zn s σ H _ I h) fun v s1 ⟨x,H1,I1,r1,q1⟩=>thn (hb zn s1 σ H1 _ I1 q1) fun u s2 ⟨y,H2,I2,r2,q2⟩ =>
  thn (ho zn s2 σ H2 x y v u _ I2 r1 r2 q2) fun c s3 ⟨z,H3,I3,r3,k,e,q3⟩=>?_) hm
 subst e;cases r3;exact wpAny_truthy_bool ⟨H3,I3,q3⟩
def zo0(r r':R2)(ta tb tc:TE):TE:=fun σ H Q=>ta σ H fun x H1=>tb σ H1 fun y H2=>r x y H2 fun z H3=>∃ k,z=.bl k /\
 (if k=true then tc σ H3 fun w' H4=>r' y w' H4 Q else Q (.bl false) H3)
theorem ziu{op op':CmpOp}{r r':R2}(ho:OpR X (compareOp op) r)(ho':OpR X (compareOp op') r')(ha:PE X a ta)(hb:PE X b tb)(hc:PE X c tc)
  (hm:lastMarks [op,op'] [b,c]=false:=by with_unfolding_all rfl):PE X (.Compare a [op,op'] [b,c] pos) (zo0 r r' ta tb tc):=by
 intro zn s σ H Q I h;refine Compare_chain (thn (ha zn s σ H _ I h) fun v s1 ⟨x,H1,I1,r1,q1⟩=>chain_link (thn (hb zn s1 σ H1 _ I1 q1) fun u s2 ⟨y,H2,I2,r2,q2⟩ =>
  thn (ho zn s2 σ H2 x y v u _ I2 r1 r2 q2) fun d s3 ⟨z,H3,I3,r3,k,e,q3⟩=>?_)) hm
 subst e;cases r3;refine wpAny_truthy_bool ?_;cases k with
 | false=>exact ite_ff ⟨.bl false,H3,I3,rfl,q3⟩
 | true=>exact ite_tt (chain_last (thn (hc zn s3 σ H3 _ I3 q3) fun w' s4 ⟨z',H4,I4,r4,q4⟩=>ho' zn s4 σ H4 y z' u w' Q I4 r2 r4 q4))
theorem zpW{op op':CmpOp}{r r':R2}(ho:OpR X (compareOp op) r)(ho':OpR X (compareOp op') r')(ha:PE X a ta)(hb:PE X b tb)(hc:PE X c tc)
  (hm:lastMarks [op,op'] [b,c]=false:=by with_unfolding_all rfl):PT X (.Compare a [op,op'] [b,c] pos) (zod (zo0 r r' ta tb tc)):=by
 intro zn s σ H Q I h;refine isTrue_chain (thn (ha zn s σ H _ I h) fun v s1 ⟨x,H1,I1,r1,q1⟩=>test_link (thn (hb zn s1 σ H1 _ I1 q1) fun u s2 ⟨y,H2,I2,r2,q2⟩ =>
  thn (ho zn s2 σ H2 x y v u _ I2 r1 r2 q2) fun d s3 ⟨z,H3,I3,r3,k,e,q3⟩=>?_)) hm
 subst e;cases r3;refine wpAny_truthy_bool ?_;cases k with
 | false =>
  obtain⟨k',e',q'⟩:=q3;cases e';exact ite_ff ⟨H3,I3,q'⟩
 | true =>
  refine ite_tt (test_last (thn (hc zn s3 σ H3 _ I3 q3) fun w' s4 ⟨z',H4,I4,r4,q4⟩=>thn (ho' zn s4 σ H4 y z' u w' _ I4 r2 r4 q4) fun d' s5 ⟨z2,H5,I5,r5,k2,e2,q5⟩=>?_));subst e2;cases r5;exact wpAny_truthy_bool ⟨H5,I5,q5⟩
def TruV(K:W.Frag)(x:V)(H:Hp)(k:Bool):Prop :=
 match x with
 | .non=>k=false
 | .bl b=>k=b
 | .int i=>k=(i != 0)
 | .str y=>y.length<=sizeLine/\k=((y.length:Int) != 0)
 | .byt y=>y.size<=sizeLine/\k=((y.size:Int) != 0)
 | .ref p=>(∃ xs,SqL K H p xs/\k = !xs.isEmpty)\/(∃ xs,SqT K H p xs/\k = !xs.isEmpty)\/∃ kvs,H p=some (.dK kvs)/\k = !kvs.isEmpty
 | _=>False
theorem zmR{κ:Type}{kvs:List (κ×V)}{vs:List (κ×Value)}(r:KV kvs vs):(!vs.isEmpty) = !kvs.isEmpty:=by
 cases r <;> rfl
theorem zid{xs:List V}{its:List Value}(r:Vals xs its):(!its.toArray.isEmpty) = !xs.isEmpty:=by
 cases r <;> simp
theorem line63:(sizeLine:Nat)<2 ^ 63:=by rw [sizeLine_eq]; decide
theorem zul:TruR X (fun x H Q=>∃ k,TruV X.K x H k/\Q k H):=by
 intro zn s σ H x v Q I rx h;obtain⟨k,e,q⟩:=h;have hl:=line63;have hs:sizeLine=16777216:=sizeLine_eq;cases x with
 | non =>
  cases rx;have e':k=false:=e;subst e';exact truthy_none ⟨H,I,q⟩
 | bl b =>
  cases rx;have e':k=b:=e;subst e';exact wpAny_truthy_bool ⟨H,I,q⟩
 | int i =>
  obtain⟨t,rfl⟩:=rx;have e':k=(i != 0):=e;subst e';exact PySem.P.truthy_int ⟨H,I,q⟩
 | str y =>
  obtain⟨t,rfl⟩:=rx;obtain⟨hy,e'⟩:y.length<=sizeLine/\k=((y.length:Int) != 0):=e;subst e';exact PySem.P.truthy_str (by omega) ⟨H,I.tok _,q⟩
 | byt y =>
  obtain⟨t,rfl⟩:=rx;obtain⟨hy,e'⟩:y.size<=sizeLine/\k=((y.size:Int) != 0):=e;subst e';exact W.truthy_bytes (by omega) ⟨H,I.tok _,q⟩
 | ref p =>
  cases rx;have e':(∃ xs,SqL X.K H p xs/\k = !xs.isEmpty)\/(∃ xs,SqT X.K H p xs/\k = !xs.isEmpty)\/∃ kvs,H p=some (.dK kvs)/\k = !kvs.isEmpty:=e;rcases e' with ⟨xs,hx,e'⟩ | ⟨xs,hx,e'⟩ | ⟨kvs,hx,e'⟩
  ·subst e';obtain⟨its,r,pl,hz⟩:=I.list hx;have hlen:=r.length;exact wpAny_truthy_list pl.isList (by simp only [size_toArray]; omega) ⟨H,I.tok _,by rw [zid r]; exact q⟩
  ·subst e';obtain⟨its,r,pl,hz⟩:=I.tuple hx;have hlen:=r.length;exact truthy_tuple pl (by simp only [size_toArray]; omega) ⟨H,I.tok _,by rw [zid r]; exact q⟩
  ·subst e';obtain⟨hz,hS,vs,r,m⟩:kvs.length<=sizeLine/\(p == sysModules)=false/\∃ vs,KV kvs vs/\s.heap.DictOf (zbb X.prog X.w) p vs:=I.hok p _ hx;have hlen:kvs.length=vs.length:=Paired.length r;exact wpAny_truthy_dict hS m (by omega) ⟨H,I.tok _,by rw [zmR r]; exact q⟩
 | _=>exact(show False from e).elim
theorem zah(ha:PE X a ta)(he:∀ whole,isTrue a X.env whole=(do let v <- whole; standAt a.pos; holding [v] (truthy v))):
  PT X a (fun σ H Q=>ta σ H fun x H'=>∃ k,TruV X.K x H' k/\Q k H'):=by
 intro zn s σ H Q I h;exact isTrue_plain (thn (ha zn s σ H _ I h) fun v s1 ⟨x,H1,I1,r1,q1⟩=>zul zn s1 σ H1 x v Q I1 r1 q1) (he _)
theorem zmM:OpR X (binaryOp .Add) (fun x y H Q=>∃ i j,x=.str i/\y=.str j/\i.length+j.length<=sizeLine/\Q (.str (i++j)) H):=by
 intro zn s σ H x y v u Q I rx ry h;obtain⟨i,j,rfl,rfl,hz,q⟩:=h;obtain⟨t,rfl⟩:=rx;obtain⟨t',rfl⟩:=ry;exact add_str (fun t' tk=>⟨.str (i++j),H,I.tok _,⟨_,rfl⟩,q⟩) hz
theorem vals1{x:V}{us:List Value}(r:Vals [x] us):∃ u,us=[u]/\RelV x u:=by
 cases r with
 | cons r1 r2=>cases r2; exact⟨_,rfl,r1⟩
theorem vals2{x y:V}{us:List Value}(r:Vals [x,y] us):∃ u w',us=[u,w']/\RelV x u/\RelV y w':=by
 cases r with
 | cons r1 r2 =>
  cases r2 with
  | cons r3 r4=>cases r4; exact⟨_,_,rfl,r1,r3⟩
theorem zgR(hc:X.calm=true):CallR X (.builtin "max") (fun xs H Q=>∃ i j,xs=[.int i,.int j]/\Q (.int (if j>i then j else i)) H):=by
 intro zn s σ H xs us Q I r h;obtain⟨i,j,rfl,q⟩:=h;obtain⟨u,w',rfl,⟨t,rfl⟩,⟨t',rfl⟩⟩:=vals2 r;refine max_two_ints (I.ok.hd hc) fun h' tk k=>⟨_,H,I.kept k,?_,q⟩;by_cases hj:j>i
 ·rw [if_pos hj,if_pos hj]; exact⟨_,rfl⟩
 ·rw [if_neg hj,if_neg hj]; exact⟨_,rfl⟩
theorem znl(hc:X.calm=true):CallR X (.builtin "min") (fun xs H Q=>∃ i j,xs=[.int i,.int j]/\Q (.int (if j<i then j else i)) H):=by
 intro zn s σ H xs us Q I r h;obtain⟨i,j,rfl,q⟩:=h;obtain⟨u,w',rfl,⟨t,rfl⟩,⟨t',rfl⟩⟩:=vals2 r;refine min_two_ints (I.ok.hd hc) fun h' tk k=>⟨_,H,I.kept k,?_,q⟩;by_cases hj:j<i
 ·rw [if_pos hj,if_pos hj]; exact⟨_,rfl⟩
 ·rw [if_neg hj,if_neg hj]; exact⟨_,rfl⟩
theorem znj:CallR X (.type "int") (fun xs H Q=>(∃ i,xs=[.int i]/\Q (.int i) H)\/∃ k,xs=[.bl k]/\Q (.int (if k then 1 else 0)) H):=by
 intro zn s σ H xs us Q I r h;rcases h with ⟨i,rfl,q⟩ | ⟨k,rfl,q⟩
 ·obtain⟨u,rfl,t,rfl⟩:=vals1 r;exact call_int_int ⟨.int i,H,I,⟨_,rfl⟩,q⟩
 ·obtain⟨u,rfl,r1⟩:=vals1 r;cases r1;exact call_int_bool ⟨.int (if k then 1 else 0),H,I.tok _,⟨_,rfl⟩,q⟩
end
end
section
structure ObjM(h:Heap)(x dx C:Addr)(mA:Str->Option Value):Prop where
 obj:h.get? x=some (W.instObj C dx)
 ns:h.Ns1 dx mA
 ne:dx≠x
theorem zoT{h:Heap}{dx:Addr}{mA:Str->Option Value}(n:h.Ns1 dx mA):∃ od,h.get? dx=some od/\∀ name,W.lookIn name od=some (mA name):=by
 obtain⟨o,es,ep,ho,hd,hk,_,hm⟩:=n;refine⟨o,ho,fun name=>?_⟩;have e:=hm name;unfold nsFind findBy at e;rw [<- Array.find?_toList] at e;unfold W.lookIn;rw [hd];dsimp only;split
 ·rename_i y q;rw [q] at e;exact congrArg some e
 ·rename_i q;rw [q] at e;have a:es.toList.any (·.refKey)=false:=by
   rw [List.any_eq_false];intro y hy;obtain⟨z,t,hkey⟩:=hk y (Array.mem_toList_iff.mp hy);simp [DictEntry.refKey,hkey]
  have a':¬ es.toList.any (·.refKey)=true:=by rw [a]; exact Bool.false_ne_true
  rw [if_neg a'];exact congrArg some e
theorem ObjM.look{h:Heap}{x dx C:Addr}{mA:Str->Option Value}(I:ObjM h x dx C mA):∃ od,W.InstAt h x (W.instObj C dx) C (some od)/\∀ name,W.lookIn name od=some (mA name) :=
 let ⟨od,ho,hl⟩:=zoT I.ns
 ⟨od,⟨I.obj,rfl,rfl,ho⟩,hl⟩
section
variable {P:Program} {w:World} {H H':Hp} {h h':Heap} {a C dx:Addr} {fs fs':List (Str×V)}
theorem ztd(hok:HOk P w H h)(e:H a=some (.ins C dx fs)):∃ mA,ObjM h a dx C mA/\(∀ f,RelO (fs.lookup f) (mA f))/\PySem.Within mA (fs.map (·.1))/\fs.length<=1000/\H dx=some (.own a):=by
 obtain⟨d,z,ne,ob,mA,n,r,q⟩:=(show ObjOk P w H h a (.ins C dx fs) from hok a _ e);exact⟨mA,⟨ob,n,ne⟩,r,q,z,d⟩
end
structure Cls(K:W.Frag)(C:Addr):Prop where
 pg:W.plainGet K C Str.empty=true
 hd:W.hasDictIn K C=true
 po:W.plainOver K C=true
 sa:W.findIn K (.ref C) "__setattr__" = some (some (.builtin "object.__setattr__"))
theorem Cls.get{K:W.Frag}{C:Addr}(c:Cls K C)(f:Str):W.plainGet K C f=true:=c.pg
section
variable {X:Cx} {zn:List (Addr×Obj)} {σ:St} {H:Hp} {s:Shared} {A:Around} {E:Value->Shared->Prop} {Q:Value->Shared->Prop} {c:Value} {b:Bool}
inductive TyOf (K:W.Frag) (H:Hp):V->Value->Prop where
 | non:TyOf K H .non (.type "NoneType")
 | bl (x:Bool):TyOf K H (.bl x) (.type "bool")
 | int (i:Int):TyOf K H (.int i) (.type "int")
 | str (x:Str):TyOf K H (.str x) (.type "str")
 | flt (x:UInt64):TyOf K H (.flt x) (.type "float")
 | lst {a:Addr} {xs:List V} (e:H a=some (.lst xs)):TyOf K H (.ref a) (.type "list")
 | frz {a:Addr} {o:Obj} {xs:List V} (e:H a=some (.frz o (.lst xs))):TyOf K H (.ref a) (.type "list")
 | tup {a:Addr} {xs:List V} (e:H a=some (.tup xs)):TyOf K H (.ref a) (.type "tuple")
 | dK {a:Addr} {kvs:List (Key×V)} (e:Rd H a (.dK kvs)):TyOf K H (.ref a) (.type "dict")
 | dT {a:Addr} {kvs:List (List Key×V)} (e:Rd H a (.dT kvs)):TyOf K H (.ref a) (.type "dict")
 | ins {a C dx:Addr} {fs:List (Str×V)} (e:H a=some (.ins C dx fs)) (cl:Cls K C) (ha:W.findIn K (.ref C) "__class__" = some (some (.builtin "object.__class__")))
   (hn:W.specialIn K (.builtin "object.__class__") "__get__" = some (some (.builtin "getset_descriptor.__get__"))) (htk:W.takesIn K (.builtin "object.__class__")=some true)
   (hm:W.mroIn K C (.type "object")=some true):TyOf K H (.ref a) (.ref C)
theorem zov{x:V}{u t:Value}(I:Inv X zn σ H s)(rx:RelV x u)(ty:TyOf X.K H x t)(e:W.kitOne X.K t c=some b)(h:∀ tk,Q (.bool b) { s with toks:=tk }):
  wpAny (model X.prog X.w) A (call (.builtin "isinstance") [u,c]) Q E s:=by
 cases ty with
 | non=>cases (show u=Value.none from rx); exact W.kia_one W.kitx_none I.kIn True.intro e (fun z=>nomatch z) h
 | bl y=>cases (show u=Value.bool y from rx); exact W.kia_one W.kitx_bool I.kIn True.intro e (fun z=>nomatch z) h
 | int i=>obtain⟨t,q⟩:=(show ∃ t,u=Value.int i t from rx); cases q; exact W.kia_one W.kitx_int I.kIn True.intro e (fun z=>nomatch z) h
 | str y=>obtain⟨t,q⟩:=(show ∃ t,u=Value.str y t from rx); cases q; exact W.kia_one W.kitx_str I.kIn True.intro e (fun z=>nomatch z) h
 | flt y=>obtain⟨t,q⟩:=(show ∃ t,u=Value.float y t from rx); cases q; exact W.kia_one W.kitx_float I.kIn True.intro e (fun z=>nomatch z) h
 | @lst a xs ea =>
  cases (show u=Value.ref a from rx);obtain⟨_,_,n,_,h1⟩:=(show ObjOk X.prog X.w H s.heap a (.lst xs) from I.hok a _ ea);exact W.kia_one W.kitx_list I.kIn ⟨_,h1,rfl⟩ e (fun z=>nomatch z) h
 | @frz a ob xs ea =>
  cases (show u=Value.ref a from rx);obtain⟨_,_,_,n,_,h1⟩:=(show ObjOk X.prog X.w H s.heap a (.frz ob (.lst xs)) from I.hok a _ ea);exact W.kia_one W.kitx_list I.kIn ⟨_,h1,rfl⟩ e (fun z=>nomatch z) h
 | @tup a xs ea =>
  cases (show u=Value.ref a from rx);obtain⟨_,_,_,p⟩:=(show ObjOk X.prog X.w H s.heap a (.tup xs) from I.hok a _ ea);obtain⟨o,h1,h2,_⟩:=p;exact W.kia_one W.kitx_tuple I.kIn ⟨o,h1,h2⟩ e (fun z=>nomatch z) h
 | @dK a kvs ea =>
  cases (show u=Value.ref a from rx);obtain⟨_,_,vs,_,p⟩:=(show ObjOk X.prog X.w H s.heap a (.dK kvs) from ea.ok I.hok);obtain⟨o,es,ep,h1,h2,_⟩:=p;exact W.kia_one W.kitx_dict I.kIn ⟨o,h1,h2.1⟩ e (fun z=>nomatch z) h
 | @dT a kvs ea =>
  cases (show u=Value.ref a from rx);obtain⟨_,_,xs,_,o,es,ep,h1,h2,_⟩:=(show ObjOk X.prog X.w H s.heap a (.dT kvs) from ea.ok I.hok);exact W.kia_one W.kitx_dict I.kIn ⟨o,h1,h2.1⟩ e (fun z=>nomatch z) h
 | @ins a C dx fs ea cl ha hn htk hm =>
  cases (show u=Value.ref a from rx);obtain⟨mA,O,_⟩:=ztd I.hok ea;obtain⟨od,J,_⟩:=O.look;exact W.kia_one (W.kitx_own (cl.get _) cl.hd ha hn htk hm) I.kIn J e (fun z=>nomatch z) h
end
end
section
structure Room(k:Nat)(A:Around):Prop where
 hd:A.handled=none
 dp:A.depth+3*k+5<recursionLimit
 un:A.units+16*k+200<cLine
theorem Room.mono{j k:Nat}{A:Around}(r:Room k A)(h:j<=k):Room j A:=⟨r.hd,by have:=r.dp; omega,by have:=r.un; omega⟩
theorem Room.deeper{k:Nat}{A:Around}(r:Room (k+1) A)(env:Env):Room k (A.deeper env) :=
 ⟨r.hd,by have:=r.dp; show A.depth+1+3*k+5<_; omega,by have:=r.un; show A.units+3+16*k+200<_; omega⟩
theorem Room.depth{k:Nat}{A:Around}(r:Room k A):A.depth<recursionLimit:=by have:=r.dp; omega
theorem Room.units{k:Nat}{A:Around}(r:Room k A):A.units+64<cLine:=by have:=r.un; omega
theorem Room.units0{k:Nat}{A:Around}(r:Room k A):A.units<cLine:=by have:=r.un; omega
def zth:TA:=fun _ H Q=>Q [] H
def zjJ(ta:TE)(tr:TA):TA:=fun σ H Q=>ta σ H fun x H1=>tr σ H1 fun xs H2=>Q (x :: xs) H2
section
variable {X:Cx} {e:Expr} {es:List Expr} {te:TE} {t:TA} {pos:Pos}
theorem zd:PA X [] zth:=fun _ _ _ _ H Q I h=>Calls.spliced_nil ⟨[],H,I,.nil,h⟩
theorem za(ha:PE X e te)(hr:PA X es t)(hs:starEach (e :: es) X.env=(false,eval e X.env) :: starEach es X.env:=by rfl):PA X (e :: es) (zjJ te t):=by
 intro pos zn s σ H Q I h;rw [hs];show wpAny _ _ (spliced ((false,eval e X.env) :: backTo pos (starEach es X.env))) _ _ s;refine Calls.spliced_cons (thn (ha zn s σ H _ I h) fun u s1 ⟨x,H1,I1,r1,q1⟩=>?_);exact thn (hr pos zn s1 σ H1 _ I1 q1) fun us s2 ⟨xs,H2,I2,r2,q2⟩=>⟨x :: xs,H2,I2,.cons r1 r2,q2⟩
def zwQ(t:TA):TE:=fun σ H Q=>t σ H fun xs H1=>xs.length<=sizeLine/\∀ p,H1 p=none->Q (.ref p) (upd H1 p (.tup xs))
def ztx(t:TA):TE:=fun σ H Q=>t σ H fun xs H1=>xs.length<=sizeLine/\∀ p,H1 p=none->Q (.ref p) (upd H1 p (.lst xs))
theorem zaq{x1}(h:PA X es t):PE X (.Tuple es x1 pos) (zwQ t):=by
 intro zn s σ H Q I hq;refine wpAny_Tuple_spliced (thn (h pos zn s σ H _ I hq) fun us s1 ⟨xs,H1,I1,r,z,q⟩=>⟨by rw [<- r.length]; exact z,?_⟩);have hf:H1 s1.heap.objs.size=none:=I1.hok.fresh (le_refl _);refine⟨.ref s1.heap.objs.size,upd H1 s1.heap.objs.size (.tup xs),I1.laid (t':=s1.toks) (fun b u e=>get?_push_of_some _ e) (le_refl _) ?_,rfl,q _ hf⟩;exact⟨⟨z,_,get?_push_size _ rfl,rfl⟩,us,r,⟨_,get?_push_size _ rfl,rfl,_,rfl⟩⟩
theorem zaK(h:PA X es t):PE X (.List es pos) (ztx t):=by
 intro zn s σ H Q I hq;refine wpAny_List_spliced (thn (h pos zn s σ H _ I hq) fun us s1 ⟨xs,H1,I1,r,z,q⟩=>⟨by rw [<- r.length]; exact z,?_⟩);have hf:H1 s1.heap.objs.size=none:=I1.hok.fresh (le_refl _);refine⟨.ref s1.heap.objs.size,upd H1 s1.heap.objs.size (.lst xs),I1.laid (t':=s1.toks) (fun b u e=>get?_push_of_some _ e) (le_refl _) ?_,rfl,q _ hf⟩;exact⟨z,us,0,r,get?_push_size _ rfl⟩
end
abbrev Sp:=List V->Hp->VK->XK->Prop
abbrev CXT:=List Env->Hp->Shared->XK->Value->Shared->Prop
structure Env0(P:Program)(w:World)(K:W.Frag)(mg:Str->Option Value)(base:Heap)(A:Around)(outer:List Env)(s:Shared)(H:Hp):Prop where
 frames:A.frames=some outer
 mod:Mod K mg base
 bs:∀ b o,base.get? b=some o->s.heap.get? b=some o/\H b=none
 bsz:base.objs.size<=s.heap.objs.size
 funs:s.heap.FunFrames base outer
 frf:Frf (frs outer) H
 hok:HOk P w H s.heap
 bare:AllBare s.gens
def CE(outer:List Env)(P:Program)(w:World)(H:Hp)(s:Shared)(Q:VK)(u:Value)(s':Shared):Prop :=
 ∃ v H',s'.os=s.os/\AllBare s'.gens/\Un (frs outer) [] H H' s.heap s'.heap/\HOk P w H' s'.heap/\RelV v u/\Q v H'
def CR(CX:CXT)(outer:List Env)(P:Program)(w:World)(H:Hp)(s:Shared)(Q:VK)(E:XK)(r:Result)(s':Shared):Prop :=
 match r with
 | .ok (.ret u)=>CE outer P w H s Q u s'
 | .ok _=>False
 | .error e=>CX outer H s E e s'
structure FnOk(P:Program)(w:World)(K:W.Frag)(mg:Str->Option Value)(base:Heap)(CX:CXT)(k:Nat)(f:Addr)(fd:FuncData)(ps:List Str)(sp:Sp):Prop where
 len:∀ vs H Q E,sp vs H Q E->vs.length=ps.length
 run:∀ (A:Around) (outer:List Env) (s:Shared) (H:Hp) (args:Args) (us:List Value) (vs:List V) (Q:VK) (E:XK),Room k A->Env0 P w K mg base A outer s H->BindsTo s fd args (ps.zip us)->Vals vs us->sp vs H Q E ->
  codeAny (model P w) A (.call (.ref f) args) (CR CX outer P w H s Q E) s
section
variable {X:Cx} {zn:List (Addr×Obj)} {σ:St} {H:Hp} {s s':Shared}
theorem Inv.env0(I:Inv X zn σ H s):Env0 X.prog X.w X.K X.mg X.base X.A X.stack s H :=
 ⟨I.ok.frames,I.ok.mod,I.bs,le_trans I.ok.bsz I.sz,I.stack,I.stkFree,I.hok,I.bare⟩
theorem Inv.after{Q:VK}{u:Value}(I:Inv X zn σ H s)(h:CE X.stack X.prog X.w H s Q u s'):EP X zn σ Q u s':=by
 obtain⟨v,H',os,bare,un,hok,r,q⟩:=h;obtain⟨hh,g,d,t,os'⟩:=s';obtain rfl:os'=s.os:=os;exact⟨v,H',I.call (h':=hh) (g':=g) (d':=d) (t':=t) (ch:=[]) un hok bare (fun b z=>absurd z (by simp)),r,q⟩
end
def zkP(sp:Sp)(dvs:List V)(E:XK)(t:TA):TE:=fun σ H Q=>t σ H fun vs H1=>sp (vs++dvs) H1 Q E
def Binds(K:W.Frag)(fd:FuncData)(ps:List Str)(ds:List Value):Prop :=
 ∀ (s:Shared) (us:List Value),K.In s.heap->(us++ds).length=ps.length->BindsTo s fd ⟨us,[]⟩ (ps.zip (us++ds))
theorem Binds.all{K:W.Frag}{fd:FuncData}{ps:List Str}(h:∀ us:List Value,us.length=ps.length->bindArgs fd ⟨us,[]⟩=pure (ps.zip us)):Binds K fd ps []:=fun s us _ hl=>by
 rw [append_nil] at hl ⊢;exact .of_eq (h us hl)
def Passes(CX:CXT)(X:Cx)(E:XK):Prop:=∀ (zn:List (Addr×Obj)) (σ:St) (H:Hp) (s:Shared) (e:Value) (s':Shared),Inv X zn σ H s->CX X.stack H s E e s'->X.xe e s'
section
variable {X:Cx} {CX:CXT} {k:Nat} {f C:Addr} {fd:FuncData} {ps:List Str} {sp:Sp} {dvs:List V} {ds:List Value} {E:XK} {x m:Str} {p pos apos:Pos} {e o:Expr} {es:List Expr} {ta:TE} {t:TA}
theorem zun{zn:List (Addr×Obj)}{σ:St}{H:Hp}{s:Shared}{Q:VK}{us:List Value}{vs:List V}(F:FnOk X.prog X.w X.K X.mg X.base CX k f fd ps sp)(hr:Room k X.A)(hb:Binds X.K fd ps ds)(hd:Vals dvs ds)(hx:Passes CX X E)
  (I:Inv X zn σ H s) (r:Vals vs us) (h:sp (vs++dvs) H Q E):wpAny (model X.prog X.w) X.A (call (.ref f) us) (EP X zn σ Q) X.xe s:=by
 have r2:Vals (vs++dvs) (us++ds):=r.append hd;have hl:(us++ds).length=ps.length:=by rw [<- r2.length]; exact F.len _ _ _ _ h
 refine wpAny_call (codeAny_mono (F.run X.A X.stack s H ⟨us,[]⟩ (us++ds) (vs++dvs) Q E hr I.env0 (hb s us I.kIn hl) r2 h) fun r s' hq=>?_);cases r with
 | error e=>exact hx zn σ H s e s' I hq
 | ok fl =>
  cases fl with
  | ret u=>exact I.after hq
  | next=>exact False.elim hq
  | brk=>exact False.elim hq
  | cont=>exact False.elim hq
theorem zoI(F:FnOk X.prog X.w X.K X.mg X.base CX k f fd ps sp)(hr:Room k X.A)(hg:Gl X x)(hm:X.mg x=some (.ref f))(hk:W.keepIn X.K (.ref f)=true)(hb:Binds X.K fd ps ds)(hd:Vals dvs ds)(hx:Passes CX X E)
  (ha:PA X (e :: es) t) (hdb:(x == ("__debug__":Str))=false:=by decide) (he:starEach (e :: es) X.env=(false,eval e X.env) :: starEach es X.env:=by rfl) (hpl:(backTo pos (starEach es X.env)).any (·.1)=false:=by rfl) :
  PE X (.Call (.Name x p) (e :: es) [] pos) (zkP sp dvs E t):=by
 intro zn s σ H Q I h;refine wpAny_Call_Name_kw (zle I hg hm ?_ hdb);refine W.callWith_K (h₀:=X.base) I.ok.mod.kin hk (thn (ha pos zn s σ H _ I h) fun us s1 ⟨vs,H1,I1,r,q⟩=>⟨I1.kIn,?_⟩) he hpl;exact zun F hr hb hd hx I1 r q
end
structure FnScope(N P:List Str)(sc:Scope):Prop where
 kind:sc.kind=.function
 co:sc.isCoroutine=false
 gen:sc.isGenerator=false
 nd:N.Nodup
 pre:N.take P.length=P
 par:∀ x∈P,sc.names.lookup x=some .local\/sc.names.lookup x=some .cell
 nofree:∀ y∈sc.names,y.2≠.free
theorem zjw{kindOf:Str->Option NameKind}{x:Str}:∀ {binds:List (Str×Value)} {m:Str->Option Value},(∀ v,(x,v)∉binds)->bindL kindOf binds m x=m x
 | [],_,_=>rfl
 | (n,v) :: r,m,h=>by
  unfold bindL;rw [zjw fun w hw=>h w (mem_cons_of_mem _ hw)];split
  ·have:x≠n:=by rintro rfl; exact h v mem_cons_self
   simp [this]
  ·rfl
theorem zkh{kindOf:Str->Option NameKind}{x:Str}:∀ {binds:List (Str×Value)} {m:Str->Option Value},(∀ v,(x,v)∉binds)->bindC kindOf binds m x=m x
 | [],_,_=>rfl
 | (n,v) :: r,m,h=>by
  unfold bindC;rw [zkh fun w hw=>h w (mem_cons_of_mem _ hw)];split
  ·rfl
  ·have:x≠n:=by rintro rfl; exact h v mem_cons_self
   simp [this]
theorem zj3{kindOf:Str->Option NameKind}{x:Str}{v:Value}:∀ {P:List Str} {vs:List Value} {i:Nat} {m:Str->Option Value},P.Nodup->P[i]? = some x->vs[i]? = some v->kindOf x=some .local ->
  bindL kindOf (P.zip vs) m x=some v
 | [],_,_,_,_,h,_,_=>by simp at h
 | _ :: _,[],_,_,_,_,h,_=>by simp at h
 | p :: P,w :: vs,0,m,nd,h1,h2,hk=>by
  simp at h1 h2; subst h1; subst h2;show bindL kindOf ((p,w) :: P.zip vs) m p=_;unfold bindL;rw [zjw fun v hv=>(nodup_cons.mp nd).1 (of_mem_zip hv).1,if_pos hk];simp
 | p :: P,w :: vs,i+1,m,nd,h1,h2,hk=>by
  show bindL kindOf ((p,w) :: P.zip vs) m x=_;unfold bindL;exact zj3 (i:=i) (nodup_cons.mp nd).2 (by simpa using h1) (by simpa using h2) hk
theorem zj9{kindOf:Str->Option NameKind}{x:Str}{v:Value}:∀ {P:List Str} {vs:List Value} {i:Nat} {m:Str->Option Value},P.Nodup->P[i]? = some x->vs[i]? = some v->kindOf x≠some .local ->
  bindC kindOf (P.zip vs) m x=some v
 | [],_,_,_,_,h,_,_=>by simp at h
 | _ :: _,[],_,_,_,_,h,_=>by simp at h
 | p :: P,w :: vs,0,m,nd,h1,h2,hk=>by
  simp at h1 h2; subst h1; subst h2;show bindC kindOf ((p,w) :: P.zip vs) m p=_;unfold bindC;rw [zkh fun v hv=>(nodup_cons.mp nd).1 (of_mem_zip hv).1,if_neg hk];simp
 | p :: P,w :: vs,i+1,m,nd,h1,h2,hk=>by
  show bindC kindOf ((p,w) :: P.zip vs) m x=_;unfold bindC;exact zj9 (i:=i) (nodup_cons.mp nd).2 (by simpa using h1) (by simpa using h2) hk
def start(N:List Str)(vs:List V):St:=vs.map some++List.replicate (N.length - vs.length) none
def zk2(CX:CXT)(P:Program)(w:World)(K:W.Frag)(mg:Str->Option Value)(base:Heap)(N:List Str)(qual:Str)(scope:Scope)(f:Addr)(cd:Value)(A:Around)(outer:List Env)(s:Shared)(H:Hp)(E:XK):Cx where
 prog:=P
 w:=w
 K:=K
 mg:=mg
 base:=base
 A:=A.deeper (envOfC qual scope s.heap.objs.size f cd)
 N:=N
 s₀:=s
 H₀:=H
 env:=envOfC qual scope s.heap.objs.size f cd
 outer:=outer
 stack:=envOfC qual scope s.heap.objs.size f cd :: outer
 ex:=[]
 calm:=true
 fn:=fun _=>true
 pn:=[]
 xe:=fun e s'=>wpAny (model P w) (A.deeper (envOfC qual scope s.heap.objs.size f cd)) (leaving (envOfC qual scope s.heap.objs.size f cd) e) (fun _ s''=>CX outer H s E e s'') (fun e' s''=>CX outer H s E e' s'') s'
theorem zln{sc:Scope}{n:Nat}{x:Str}(h:sc.names.lookup x=some .cell):∃ c,(cellsFrom n sc.names []).lookup x=some c:=by
 have q:=W.cellsFrom_some sc.names n [] (.inl h);exact isSome_iff_exists.mp q
theorem zkf{CX:CXT}{P:Program}{w:World}{K:W.Frag}{mg:Str->Option Value}{base:Heap}{N ps:List Str}{qual:Str}{scope:Scope}{f:Addr}{cd:Value}{A:Around}{outer:List Env}{s s1:Shared}{H:Hp}{E:XK}{us:List Value}{vs:List V}
  (S:FnScope N ps scope) (hd:A.handled=none) (e0:Env0 P w K mg base A outer s H) (hl:vs.length=ps.length) (r:Vals vs us)
  (x:InCallC s s.heap.objs.size (bindL (envOfC qual scope s.heap.objs.size f cd).kindOf (ps.zip us) fun _=>none) (cellsFrom (s.heap.objs.size+1) scope.names []) (bindC (envOfC qual scope s.heap.objs.size f cd).kindOf (ps.zip us) fun _=>none) s1) :
  Inv (zk2 CX P w K mg base N qual scope f cd A outer s H E) [] (start N vs) H s1:=by
 have hpl:ps.length<=N.length:=by have:=congrArg List.length S.pre; rw [length_take] at this; omega
 obtain⟨h1,tk,rfl,hk⟩:=x.done;have noA:∀ b:Addr,b∉(zk2 CX P w K mg base N qual scope f cd A outer s H E).ex:=fun b z=>absurd (show b∈([]:List Addr) from z) (by simp);refine⟨⟨e0.mod,S.kind,rfl,rfl,le_refl _,fun y z c h1 h2=>?_,fun y hy=>?_,fun y c _ h=>?_,fun _=>hd,Around.frames_deeper e0.frames,.inr ⟨rfl,rfl⟩,fun b z=>absurd z (noA b),e0.bs,e0.bsz,fun b _ _=>noA b,fun b z=>absurd z (noA b),e0.funs,e0.frf⟩,
  rfl,e0.bare,Un.kept hk,⟨_,x.toInCall.ns,fun i y v h1 h2 h3=>?_⟩,fun y c h=>⟨_,x.cell y c h⟩,e0.hok.fresh (le_refl _),fun y c h=>?_,fun p hp=>absurd (show p∈([]:List (Addr×Obj)) from hp) (by simp),e0.hok.kept hk,?_⟩
 ·exact name_of_addr x.apart (PySem.mem_of_lookup h1) (PySem.mem_of_lookup h2)
 ·have hy:scope.names.lookup y=some .cell\/scope.names.lookup y=some .free:=hy;rcases hy with hy | hy
  ·exact zln hy
  ·exact absurd rfl (S.nofree _ (PySem.mem_of_lookup hy))
 ·exact le_of_lt (x.above y c (PySem.mem_of_lookup h))
 ·have hi:i<vs.length:=by
   unfold start at h2;by_cases hi:i<vs.length
   ·exact hi
   ·rw [getElem?_append_right (by simpa using hi)] at h2;rw [List.getElem?_replicate] at h2;split at h2 <;> cases h2
  have ha:vs[i]? = some v:=by
   unfold start at h2;rw [getElem?_append_left (by simpa using hi),getElem?_map] at h2;cases e:vs[i]? with
   | none=>rw [e] at h2; cases h2
   | some a=>rw [e] at h2; cases h2; rfl
  obtain⟨u,hu,rv⟩:=r.get ha;have hp:ps[i]? = some y:=by
   rw [<- S.pre,List.getElem?_take_of_lt (by omega)]; exact h1
  have ndP:ps.Nodup:=by rw [<- S.pre]; exact S.nd.sublist (List.take_sublist _ _)
  refine⟨u,rv,?_⟩;rcases S.par y (mem_of_getElem? hp) with k | k
  ·exact .inl ⟨k,zj3 ndP hp hu k⟩
  ·obtain⟨c,e⟩:=zln (n:=s.heap.objs.size+1) k;refine .inr ⟨.inl k,c,e,?_⟩;have q:=x.cell y c e;rw [zj9 ndP hp hu (by show scope.names.lookup y≠_; rw [k]; decide)] at q;exact q
 ·exact e0.hok.fresh (le_of_lt (x.above y c (PySem.mem_of_lookup h)))
 ·unfold start;show _=N.length;rw [length_append,length_map,List.length_replicate];omega
theorem ztZ{CX:CXT}{P:Program}{w:World}{K:W.Frag}{mg:Str->Option Value}{base:Heap}{k:Nat}{f:Addr}{name qual:Str}{params:Arguments}{body:List Stmt}{scope:Scope}{dV kV doc pm cdv ct oc:Value}{an od:Option Addr}
  {osl:Array (Option Value)} {N ps:List Str} {sp:Sp} (lk:K.lookup f=some ⟨oc,od,.func (W.fnOf name qual params body scope dV kV doc pm an cdv ct),osl⟩) (hcd:W.codeIn K cdv qual=true) (S:FnScope N ps scope)
  (len:∀ vs H Q E,sp vs H Q E->vs.length=ps.length)
  (hbody:∀ (A:Around) (outer:List Env) (s:Shared) (H:Hp) (vs:List V) (Q:VK) (E:XK),Room k (A.deeper (envOfC qual scope s.heap.objs.size f cdv))->sp vs H Q E ->
   ∃ t,PSs (zk2 CX P w K mg base N qual scope f cdv A outer s H E) body t/\t { nx:=fun _ H'=>Q .non H',rt:=Q } (start N vs) H) :
  FnOk P w K mg base CX (k+1) f (W.fnOf name qual params body scope dV kV doc pm an cdv ct) ps sp:=by
 refine⟨len,fun A outer s H args us vs Q E hr e0 hb r hsp=>?_⟩;have hl:=len _ _ _ _ hsp;have KX:K.In s.heap:=e0.mod.kin.keeps fun b o e=>(e0.bs b o e).1;have lim:s.heap.NoLimit:=e0.mod.nolimit.keeps fun b o e=>(e0.bs b o e).1;have hkind:∀ y∈ps.zip us,scope.names.lookup y.1=some .local\/(scope.names.lookup y.1=some .cell/\((cellsFrom (s.heap.objs.size+1) scope.names []).lookup y.1).isSome=true):=fun⟨n,v⟩ hy=>by
  rcases S.par n (of_mem_zip hy).1 with q | q
  ·exact .inl q
  ·exact .inr ⟨q,W.cellsFrom_some _ _ _ (.inl q)⟩
 refine codeAny_call_function hr.depth (KX _ _ lk) rfl S.co S.gen rfl (W.codeRec_of KX hcd) (hb _ _ _ _ ?_);refine wpAny_newFunctionEnv_cells S.kind hkind fun env he s1 x=>?_;subst he;refine⟨lim.keeps x.toInCall.keep,codeAny_func ?_⟩;obtain⟨t,ht,hq⟩:=hbody A outer s H vs Q E (hr.deeper _) hsp;have I:Inv (zk2 CX P w K mg base N qual scope f cdv A outer s H E) [] (start N vs) H s1:=zkf S hr.hd e0 hl r x;refine wpAny_mono (ht [] s1 (start N vs) H _ I hq) (fun fl s' hs=>?_) fun e s' hs=>hs;have fin:∀ {σ':St} {H':Hp} {v:V} {u:Value},Inv (zk2 CX P w K mg base N qual scope f cdv A outer s H E) [] σ' H' s'->RelV v u->Q v H'->CE outer P w H s Q u s' :=
  fun {σ' H' v u} J rv q=>⟨v,H',J.os,J.bare,J.base,J.hok,rv,q⟩
 cases fl with
 | ret u =>
  obtain⟨v,σ',H',J,rv,q⟩:=hs;exact fin J rv q
 | next =>
  obtain⟨σ',H',J,q⟩:=hs;exact fin (v:=V.non) (u:=Value.none) J rfl q
 | brk =>
  obtain⟨_,_,_,q⟩:=hs;exact False.elim q
 | cont =>
  obtain⟨_,_,_,q⟩:=hs;exact False.elim q
end
section
section
variable {X:Cx} {x:Str} {p pos:Pos} {e:Expr} {es:List Expr} {t:TA} {id T:String} {r:List V->Hp->VK->Prop}
def tCB(r:List V->Hp->VK->Prop)(t:TA):TE:=fun σ H Q=>t σ H fun vs H1=>r vs H1 Q
theorem zo(hc:CallR X (.builtin id) r)(hg:Gl X x)(hm:X.mg x=none)(hv:bootBuiltins x=some (.builtin id))(ha:PA X (e :: es) t)(hn:x ≠ "__name__":=by decide)(hdb:(x == ("__debug__":Str))=false:=by decide)
  (he:starEach (e :: es) X.env=(false,eval e X.env) :: starEach es X.env:=by rfl) (hpl:(backTo pos (starEach es X.env)).any (·.1)=false:=by rfl):PE X (.Call (.Name x p) (e :: es) [] pos) (tCB r t):=by
 intro zn s σ H Q I h;refine wpAny_Call_Name_kw (zfn I hg hm hv ?_ hn hdb);exact PyProof.Rows.callWith_builtin1 (thn (ha pos zn s σ H _ I h) fun us s1 ⟨vs,H1,I1,r1,q1⟩=>hc zn s1 σ H1 vs us Q I1 r1 q1) he hpl
theorem zad(hc:CallR X (.type T) r)(hg:Gl X x)(hm:X.mg x=none)(hv:bootBuiltins x=some (.type T))(ha:PA X (e :: es) t)(hn:x ≠ "__name__":=by decide)(hdb:(x == ("__debug__":Str))=false:=by decide)
  (he:starEach (e :: es) X.env=(false,eval e X.env) :: starEach es X.env:=by rfl) (hpl:(backTo pos (starEach es X.env)).any (·.1)=false:=by rfl):PE X (.Call (.Name x p) (e :: es) [] pos) (tCB r t):=by
 intro zn s σ H Q I h;refine wpAny_Call_Name_kw (zfn I hg hm hv ?_ hn hdb);exact PyProof.Rows.callWith_type1 (thn (ha pos zn s σ H _ I h) fun us s1 ⟨vs,H1,I1,r1,q1⟩=>hc zn s1 σ H1 vs us Q I1 r1 q1) he hpl
end
end
end L2
namespace HT
open PySem PyProof.Rows
def lexLt:List Int->List Int->Bool
 | [],[]=>false
 | [],_ :: _=>true
 | _ :: _,[]=>false
 | x :: xs,y :: ys=>if x=y then lexLt xs ys else decide (x<y)
theorem lexLt_cons(x y:Int)(xs ys:List Int):lexLt (x :: xs) (y :: ys)=if x=y then lexLt xs ys else decide (x<y):=rfl
theorem zit:lexLt [] []=false:=rfl
theorem zhG(y:Int)(ys:List Int):lexLt [] (y :: ys)=true:=rfl
theorem zhA(x:Int)(xs:List Int):lexLt (x :: xs) []=false:=rfl
theorem zqT(A:Around)(s:Shared)(a:Int)(t:Tok)(c:Int)(u:Tok):∃ e,SeqAt.EqAt A s (.int a t) (.int c u) e/\(e=true↔a=c) :=
 ⟨(a == c),SeqAt.EqAt.int_int a t c u,by simp⟩
theorem zp7(A:Around)(s:Shared)(a:Int)(t:Tok)(c:Int)(u:Tok)(prog:Program)(w:World)(E:Value->Shared->Prop)(Q:Value->Shared->Prop)(h:Q (.bool (decide (a<c))) s):
  wpAny (model prog w) A (richCompare .Lt (.int a t) (.int c u)) Q E s :=
 (PyProof.Rows.lt_int h:wpAny (model prog w) A (compareOp .Lt (.int a t) (.int c u)) Q E s)
section
open PySem.SeqAt
open PySem.AutoSeq1 (wpAny_loadPart')
open PySem.MeetsSeq PySem.MeetsSeq2 PySem.MeetsSeq3
theorem ziO(l b:Addr)(items items2:Array Value)(n n2:Nat)(dd dd2:Option Addr)(sl sl2:Array (Option Value))(ns ms:List Int)(hi:IntsAre items.toList ns)(hj:IntsAre items2.toList ms):
  Meets (Builtin.«tuple.__lt__» ⟨[.ref l,.ref b],[]⟩)
   (fun _ R s=>s.heap.get? l=some { cls:=.type "tuple",dict:=dd,data:=.seq items n,slots:=sl }/\s.heap.get? b=some { cls:=.type "tuple",dict:=dd2,data:=.seq items2 n2,slots:=sl2 } /\
    R (.ok (.ret (.bool (lexLt ns ms)))) s) :=
 .of_wp fun prog w A R s h=>by
  obtain⟨hp,g,d,tk,os⟩:=s; obtain⟨hl,hb,h⟩:=h;have f2:=AutoSeq1.sub_tuple_tuple;have z1:items.size=ns.length:=by rw [<- hi.length]; simp
  have z2:items2.size=ms.length:=by rw [<- hj.length]; simp
  wp_walk using wpAny_loadPart' hl,wpAny_loadPart' hb,wpAny_forIn_list _ (fun rest b s'=>b.1=none/\s'=⟨hp,g,d,tk,os⟩/\∃ (vs ws:List Value) (ns' ms':List Int),rest=vs.zip ws /\
   IntsAre vs ns'/\IntsAre ws ms'/\ns'.length+items2.size=ms'.length+items.size/\R (.ok (.ret (.bool (lexLt ns' ms')))) ⟨hp,g,d,tk,os⟩) _
  case turn =>
   rintro⟨y,x⟩ rest b s' ⟨hb',rfl,vs,ws,ns',ms',hz,hvi,hwi,hlen,hR⟩;cases hvi with
   | nil=>rw [List.zip_nil_left] at hz; cases hz
   | cons a t hvi' =>
    cases hwi with
    | nil=>rw [List.zip_nil_right] at hz; cases hz
    | cons c u hwi' =>
     rw [zip_cons_cons] at hz;injection hz with hyx hrest
     injection hyx with hy hx
     subst hy hx;rw [lexLt_cons] at hR;simp only [length_cons] at hlen;obtain⟨e,he,hiff⟩:=zqT A.in1 ⟨hp,g,d,tk,os⟩ a t c u;refine wpAny_bind (he prog w _ _ ?_);cases e with
     | true =>
      rw [if_pos (hiff.mp rfl)] at hR
      wp_walk
      exact⟨rfl,rfl,_,_,_,_,hrest,hvi',hwi',by omega,hR⟩
     | false =>
      rw [if_neg (fun q=>absurd (hiff.mpr q) Bool.false_ne_true)] at hR;have hri:=zp7 A.in1 ⟨hp,g,d,tk,os⟩ a t c u prog w
      wp_walk using hri
      exact⟨_,rfl,by simpa using hR⟩
  case fin =>
   rintro⟨b1,b2⟩ s' ⟨hb',rfl,vs,ws,ns',ms',hz,hvi,hwi,hlen,hR⟩;simp only at hb';subst hb';have hv:lexLt ns' ms'=decide (items.size<items2.size):=by
    cases hvi with
    | nil =>
     cases hwi with
     | nil =>
      simp only [length_nil] at hlen;rw [zit];exact(decide_eq_false (by omega)).symm
     | cons c u hw =>
      simp only [length_nil,length_cons] at hlen;rw [zhG];exact(decide_eq_true (by omega)).symm
    | cons a t hv =>
     cases hwi with
     | nil =>
      simp only [length_nil,length_cons] at hlen;rw [zhA];exact(decide_eq_false (by omega)).symm
     | cons c u hw =>
      rw [zip_cons_cons] at hz;cases hz
   rw [hv] at hR
   wp_walk
   exact⟨_,rfl,by simpa [Builtin.Tuple.tupleCompareSizes] using hR⟩
  case h =>
   exact⟨rfl,rfl,items.toList,items2.toList,ns,ms,rfl,hi,hj,by omega,h⟩
end
section
variable {prog:Program} {w:World} {A:Around} {E:Value->Shared->Prop} {s:Shared}
theorem lt_tupInts{l b:Addr}{items items2:Array Value}{ns ms:List Int}{Q:Value->Shared->Prop}(hl:IsTup s.heap l items)(hb:IsTup s.heap b items2)(hi:IntsAre items.toList ns)(hj:IntsAre items2.toList ms)
  (hu:A.units<cLine) (h:Q (.bool (lexLt ns ms)) s):wpAny (model prog w) A (compareOp .Lt (.ref l) (.ref b)) Q E s:=by
 obtain⟨⟨cls,dd,data,sl⟩,ho,hc,n,hd⟩:=id hl;obtain⟨⟨cls2,dd2,data2,sl2⟩,ho2,hc2,n2,hd2⟩:=id hb;simp only at hc hd hc2 hd2;subst hc hd hc2 hd2;exact richCompare_meets_room (op:=.Lt) ⟨_,ho,rfl⟩ ⟨_,ho2,rfl⟩ PySem.F.slot_tuple_lt PySem.F.entry_tuple_lt (PySem.F.args_tuple_lt_2 _ _) (ziO l b items items2 n n2 dd dd2 sl sl2 ns ms hi hj)
  ⟨ho,ho2,show Value.bool (lexLt ns ms)≠Value.notImplemented/\Q (.bool (lexLt ns ms)) s from⟨(fun x=>nomatch x),h⟩⟩ hu
theorem cat_tup{t b:Addr}{vs ws:List Value}{Q:Value->Shared->Prop}(ht:IsTup s.heap t vs.toArray)(hb:IsTup s.heap b ws.toArray)(hv:vs≠[])
  (h1:ws=[]->Q (.ref t) s) (h2:ws≠[]->Q (.ref s.heap.objs.size) { s with heap:=s.heap.push { cls:=.type "tuple",data:=.seq (vs++ws).toArray } })
  (hsz:vs.length+ws.length<=sizeLine):wpAny (model prog w) A (binaryOp .Add (.ref t) (.ref b)) Q E s:=by
 obtain⟨⟨cls,dd,data,sl⟩,ho,hc,n,hd⟩:=id ht;obtain⟨⟨cls2,dd2,data2,sl2⟩,ho2,hc2,n2,hd2⟩:=id hb;simp only at hc hd hc2 hd2;subst hc hd hc2 hd2;have e:vs.toArray++ws.toArray=(vs++ws).toArray:=by simp
 by_cases hw:ws=[]
 ·exact concat_meets ⟨_,ho,rfl⟩ ⟨_,ho2,rfl⟩ noFill_tuple_add seq_tuple_add PySem.F.slot_tuple_add PySem.F.entry_tuple_add (PySem.F.args_tuple_add_2 _ _)
   (tuple_addW1 t b vs.toArray ws.toArray n n2 dd dd2 sl sl2 (by simpa using hv) (by simp [hw])) ⟨ho,ho2,h1 hw⟩
 ·refine concat_meets ⟨_,ho,rfl⟩ ⟨_,ho2,rfl⟩ noFill_tuple_add seq_tuple_add PySem.F.slot_tuple_add PySem.F.entry_tuple_add (PySem.F.args_tuple_add_2 _ _)
   (tuple_addW2 t b vs.toArray ws.toArray n n2 dd dd2 sl sl2 (by simpa using hv) (by simpa using hw) (by rw [size_toArray,size_toArray]; exact hsz)) ⟨ho,ho2,?_⟩
  rw [e];exact h2 hw
def sIx(n d:Nat):Option Int->Nat
 | none=>d
 | some v=>if v<0 then (v+(n:Int)).toNat else min v.toNat n
theorem sIx_nat(n d k:Nat):sIx n d (some (k:Int))=min k n:=by
 show (if (k:Int)<0 then ((k:Int)+(n:Int)).toNat else min (k:Int).toNat n)=min k n;rw [if_neg (by omega),Int.toNat_natCast]
theorem ztH(n d:Nat)(hd:d<=n)(o:Option Int):sIx n d o<=n:=by
 cases o with
 | none=>exact hd
 | some v =>
  show (if v<0 then (v+(n:Int)).toNat else min v.toNat n)<=n;by_cases hv:v<0
  ·rw [if_pos hv]; omega
  ·rw [if_neg hv]; exact Nat.min_le_right _ _
theorem znQ(v:Int)(n d:Nat):(if v<0 then max (v+(n:Int)) 0 else min v (n:Int))=((sIx n d (some v):Nat):Int):=by
 show (if v<0 then max (v+(n:Int)) 0 else min v (n:Int))=(((if v<0 then (v+(n:Int)).toNat else min v.toNat n):Nat):Int);by_cases hv:v<0
 ·simp only [if_pos hv]; omega
 ·simp only [if_neg hv]; omega
theorem zm7(lo hi:Option Int)(n:Nat):Builtin.Slice.sliceAdjust lo hi 1 (n:Int)=(((sIx n 0 lo:Nat):Int),((sIx n n hi:Nat):Int)):=by
 have h1:¬ ((1:Int)<0):=by omega
 unfold Builtin.Slice.sliceAdjust;simp only [h1,if_false];refine Prod.ext ?_ ?_
 ·cases lo with
  | none=>rfl
  | some v=>exact znQ v n 0
 ·cases hi with
  | none=>rfl
  | some v=>exact znQ v n n
theorem zmT(i j:Nat):Builtin.Slice.slicePlaces (i:Int) (j:Int) 1=j - i:=by
 unfold Builtin.Slice.slicePlaces;have h1:(1:Int)>0:=by omega
 simp only [h1,if_true,Int.ediv_one];split <;> omega
theorem zic{v:Value}{o:Option Int}{Q:Option Int->Shared->Prop}(p:IsPart v o)(h:Q o s):wpAny (model prog w) A (Builtin.Slice.slicePartIndex v) Q E s:=by
 cases p with
 | none=>exact slicePart_none h
 | int i t=>exact slicePart_int h
theorem zdF{sl:Addr}{vl vu:Value}{lo hi:Option Int}{n:Nat}{Q:Int×Int×Nat->Shared->Prop}(hs:s.heap.IsSliceOf sl vl vu .none)(pl:IsPart vl lo)(pu:IsPart vu hi)
  (h:Q (((sIx n 0 lo:Nat):Int),1,sIx n n hi - sIx n 0 lo) s):wpAny (model prog w) A (Builtin.Slice.sliceApplied (.ref sl) (pure (n:Int))) Q E s:=by
 obtain⟨os,hos,hcs,hds⟩:=id hs;unfold Builtin.Slice.sliceApplied Builtin.Slice.sliceFields;refine wpAny_bind (wpAny_bind (wpAny_field hos hds (x:=vl) rfl (wpAny_bind (wpAny_field hos hds (x:=vu) rfl (wpAny_bind (wpAny_field hos hds (x:=.none) rfl (wpAny_pure ?_)))))));refine wpAny_bind (slicePart_none ?_);show wpAny _ _ (if ((1:Int) == 0)=true then _ else _) _ _ s;rw [if_neg dz];refine wpAny_bind (zic pl (wpAny_bind (zic pu (wpAny_bind (wpAny_pure ?_)))));show wpAny _ _ (match Builtin.Slice.sliceAdjust lo hi 1 (n:Int) with | (lo,hi)=>pure (lo,(1:Int),Builtin.Slice.slicePlaces lo hi 1)) _ _ s;rw [zm7 lo hi n];show wpAny _ _ (pure (((sIx n 0 lo:Nat):Int),(1:Int),Builtin.Slice.slicePlaces ((sIx n 0 lo:Nat):Int) ((sIx n n hi:Nat):Int) 1)) _ _ s;rw [zmT];exact wpAny_pure h
theorem zqm(xs:Array Value)(i k:Nat):((List.range k).filterMap fun(m:Nat)=>xs[((i:Int)+(m:Int)*1).toNat]?).toArray=((xs.toList.drop i).take k).toArray:=by
 have e:(fun(m:Nat)=>xs[((i:Int)+(m:Int)*1).toNat]?)=fun m=>xs[i+m]?:=by
  funext m;have:((i:Int)+(m:Int)*1).toNat=i+m:=by omega
  rw [this]
 rw [e];have:=pick_run xs i k;rw [List.filterMap_map] at this;have e2:((fun x=>xs[x]?)∘fun x=>i+x)=fun m=>xs[i+m]?:=rfl;rw [e2] at this;rw [this]
theorem getItem_tuple_cut{t sl:Addr}{items:Array Value}{vl vu:Value}{lo hi:Option Int}{Q:Value->Shared->Prop}(ht:IsTup s.heap t items)(hs:s.heap.IsSliceOf sl vl vu .none)(pl:IsPart vl lo)(pu:IsPart vu hi)
  (hw:¬ (sIx items.size 0 lo=0/\sIx items.size items.size hi=items.size))
  (h:Q (.ref s.heap.objs.size) { s with heap:=s.heap.push { cls:=.type "tuple",data:=.seq ((items.toList.drop (sIx items.size 0 lo)).take (sIx items.size items.size hi - sIx items.size 0 lo)).toArray } })
  (hsz:items.size<=sizeLine):wpAny (model prog w) A (getItem (.ref t) (.ref sl)) Q E s:=by
 have htake:sizeOk (.seq ((items.toList.drop (sIx items.size 0 lo)).take (sIx items.size items.size hi - sIx items.size 0 lo)).toArray):=by
  show ((items.toList.drop (sIx items.size 0 lo)).take (sIx items.size items.size hi - sIx items.size 0 lo)).toArray.size<=sizeLine;rw [size_toArray,length_take,length_drop,length_toList];omega
 have hj:sIx items.size items.size hi<=items.size:=ztH _ _ (le_refl _) hi;obtain⟨os,hos,hcs,hds⟩:=id hs;have hTs:s.TypeIs (.ref sl) "slice":=⟨os,hos,hcs⟩;unfold getItem
 try with_reducible refine wpAny_holding ?_
 first | refine wpAny_bind (wpAny_pure ?_) | skip
 refine wpAny_bind (wpAny_sequenceKey ht.typeIs dz ?_);refine wpAny_bind (wpAny_callSpecial?_slot (name:=Str.ofString "__getitem__") ht.typeIs PyProof.Rows.slot_tuple_getitem
  (wpAny_call_entry PyProof.Rows.slot_tuple_getitem ht.typeIs entry_tuple_getitem ?_ (args_tuple_getitem _ _)))
 show wpAny _ _ (Builtin.Tuple.tupleItemsOf (.ref t) >>= _) _ _ s;refine wpAny_bind (tupleItemsOf_ ht ?_);refine wpAny_bind (wpAny_typeOf hTs ?_);rw [if_pos dz];refine wpAny_bind (zdF hs pl pu ?_);have hno:¬ ((((sIx items.size 0 lo:Nat):Int) == 0 && (1:Int) == 1 && (sIx items.size items.size hi - sIx items.size 0 lo) == items.size)=true):=by
  intro q;rw [Bool.and_eq_true,Bool.and_eq_true] at q;have q1:((sIx items.size 0 lo:Nat):Int)=0:=eq_of_beq q.1.1;have q2:sIx items.size items.size hi - sIx items.size 0 lo=items.size:=eq_of_beq q.2;exact hw ⟨by omega,by omega⟩
 show wpAny _ _ (if (((sIx items.size 0 lo:Nat):Int) == 0 && (1:Int) == 1 && (sIx items.size items.size hi - sIx items.size 0 lo) == items.size)=true then _ else _) _ _ s;rw [if_neg hno,zqm]
 first
  | exact wpAny_bind (m:=Builtin.Tuple.tupleExact _) (wpAny_newObj_type (wpAny_pure ⟨_,rfl,wpAny_pure h⟩) htake)
  | exact wpAny_bind (m:=Builtin.Tuple.tupleExact _) (wpAny_newObj_type (wpAny_bind (wpAny_pure (wpAny_pure ⟨_,rfl,wpAny_pure h⟩))) htake)
  | exact wpAny_bind (wpAny_bind (m:=Builtin.Tuple.tupleExact _) (wpAny_newObj_type (wpAny_pure (wpAny_pure ⟨_,rfl,wpAny_pure h⟩)) htake))
  | exact wpAny_bind (wpAny_bind (m:=Builtin.Tuple.tupleExact _) (wpAny_newObj_type (wpAny_pure ⟨_,rfl,wpAny_pure h⟩) htake))
end
end HT
namespace L2
open PySem PySem.Spec PyProof.Rows
section
abbrev TO:=St->Hp->(Option Int->Hp->Prop)->Prop
def PO(X:Cx)(e:Option Expr)(t:TO):Prop :=
 ∀ (zn:List (Addr×Obj)) (s:Shared) (σ:St) (H:Hp) (Q:Option Int->Hp->Prop),Inv X zn σ H s->t σ H Q ->
  wpAny (model X.prog X.w) X.A (evalPart e X.env) (fun u s'=>∃ o H',Inv X zn σ H' s'/\IsPart u o/\Q o H') X.xe s
def znU:TO:=fun _ H Q=>Q none H
def zmW(t:TE):TO:=fun σ H Q=>t σ H fun x H1=>∃ i,x=.int i/\Q (some i) H1
theorem za7{ns:List Int}:∀ {us:List Value},Vals (ns.map V.int) us->IntsAre us ns:=by
 induction ns with
 | nil=>intro us r; rw [map_nil] at r; cases r; exact .nil
 | cons n ns ih =>
  intro us r;rw [map_cons] at r;cases r with
  | cons r1 r2 =>
   obtain⟨t,e⟩:=r1;subst e;exact .cons n t (ih r2)
section
variable {X:Cx} {e:Expr} {te:TE} {lo hi:Option Expr} {tl th:TO} {pos p2:Pos}
theorem zbY:PO X none znU:=by
 intro zn s σ H Q I h;rw [evalPart_none];exact wpAny_pure ⟨none,H,I,.none,h⟩
theorem zbE(h:PE X e te):PO X (some e) (zmW te):=by
 intro zn s σ H Q I hw;rw [evalPart_some];refine thn (h zn s σ H _ I hw) fun u s1 ⟨x,H1,I1,r1,q1⟩=>?_;obtain⟨i,rfl,q⟩:=q1;obtain⟨t,rfl⟩:=r1;exact⟨some i,H1,I1,.int i t,q⟩
def SlR(X:Cx)(r:V->Option Int->Option Int->Hp->VK->Prop):Prop :=
 ∀ (zn:List (Addr×Obj)) (s:Shared) (σ:St) (H:Hp) (x:V) (v vl vu:Value) (lo hi:Option Int) (sl:Addr) (Q:VK),Inv X zn σ H s->RelV x v->s.heap.IsSliceOf sl vl vu .none->IsPart vl lo->IsPart vu hi->r x lo hi H Q ->
  ∃ T id,typeLookup (.type T) "__getitem__" = pure (some (.builtin id))/\s.TypeIs v T/\wpAny (model X.prog X.w) X.A (getItem v (.ref sl)) (EP X zn σ Q) X.xe s
theorem SlR.or{r r':V->Option Int->Option Int->Hp->VK->Prop}(h:SlR X r)(h':SlR X r'):SlR X (fun x lo hi H Q=>r x lo hi H Q\/r' x lo hi H Q):=by
 intro zn s σ H x v vl vu lo hi sl Q I rx hs pl pu q;rcases q with q | q
 ·exact h zn s σ H x v vl vu lo hi sl Q I rx hs pl pu q
 ·exact h' zn s σ H x v vl vu lo hi sl Q I rx hs pl pu q
def tSl(r:V->Option Int->Option Int->Hp->VK->Prop)(te:TE)(tl th:TO):TE:=fun σ H Q=>te σ H fun x H1=>tl σ H1 fun l H2=>th σ H2 fun u H3=>r x l u H3 Q
theorem zbc{r:V->Option Int->Option Int->Hp->VK->Prop}(hr:SlR X r)(he:PE X e te)(hl:PO X lo tl)(hu:PO X hi th):PE X (.Subscript e (.Slice lo hi none p2) pos) (tSl r te tl th):=by
 intro zn s σ H Q I h;refine Subscript_ (thn (he zn s σ H _ I h) fun v s1 ⟨x,H1,I1,r1,q1⟩=>?_);refine wpAny_Slice (thn (hl zn s1 σ H1 _ I1 q1) fun vl s2 ⟨l,H2,I2,pl,q2⟩=>thn (hu zn s2 σ H2 _ I2 q2) fun vu s3 ⟨u,H3,I3,pu,q3⟩=>?_);rw [evalPart_none];refine wpAny_pure ?_;have I4:Inv X zn σ H3 { s3 with heap:=s3.heap.push { cls:=.type "slice",data:=.fields #[vl,vu,.none] } }:=I3.kept (t':=s3.toks) fun b ob q=>get?_push_of_some _ q;obtain⟨T,id,hT,ht,hg⟩:=hr zn { s3 with heap:=s3.heap.push { cls:=.type "slice",data:=.fields #[vl,vu,.none] } } σ H3 x v vl vu l u s3.heap.objs.size Q I4 r1 (Heap.IsSliceOf.new ..) pl pu q3;show wpAny (model X.prog X.w) X.A (subscriptTail e (.Slice lo hi none p2) v (.ref s3.heap.objs.size)) (EP X zn σ Q) X.xe { s3 with heap:=s3.heap.push { cls:=.type "slice",data:=.fields #[vl,vu,.none] } };exact tail_any (ops:=[.ref s3.heap.objs.size,v]) ht hT hg (by with_unfolding_all rfl)
def zlS(xs:List V)(lo hi:Option Int):List V:=(xs.drop (HT.sIx xs.length 0 lo)).take (HT.sIx xs.length xs.length hi - HT.sIx xs.length 0 lo)
theorem zeD(xs:List V)(lo hi:Option Int):(zlS xs lo hi).length<=xs.length:=by
 unfold zlS;rw [length_take,length_drop];omega
def zvV(K:W.Frag):V->Option Int->Option Int->Hp->VK->Prop:=fun x lo hi H Q=>∃ a xs,x=.ref a/\SqT K H a xs /\
 ¬ (HT.sIx xs.length 0 lo=0/\HT.sIx xs.length xs.length hi=xs.length)/\∀ p,H p=none->Q (.ref p) (upd H p (.tup (zlS xs lo hi)))
theorem zsb:SlR X (zvV X.K):=by
 intro zn s σ H x v vl vu lo hi sl Q I rx hs pl pu h;obtain⟨a,xs,rfl,hx,hw,q⟩:=h;cases rx;obtain⟨its,r,ht,hz⟩:=I.tuple hx;have hlen:its.toArray.size=xs.length:=by rw [size_toArray]; exact r.length.symm
 refine⟨"tuple",_,PyProof.Rows.slot_tuple_getitem.lookup,ht.typeIs,?_⟩;refine HT.getItem_tuple_cut ht hs pl pu (by rw [hlen]; exact hw) ?_ (by rw [hlen]; exact hz);rw [hlen];refine⟨.ref s.heap.objs.size,_,I.laid (t':=s.toks) (o:=.tup (zlS xs lo hi)) (fun b ob q=>get?_push_of_some _ q) (le_refl _) ?_,rfl,q _ (I.hok.fresh (le_refl _))⟩;exact⟨⟨le_trans (zeD xs lo hi) hz,_,get?_push_size _ rfl,rfl⟩,_,(r.drop (HT.sIx xs.length 0 lo)).take (HT.sIx xs.length xs.length hi - HT.sIx xs.length 0 lo),IsTup.new _ _⟩
def zws(K:W.Frag):R2:=fun x y H Q=>∃ a b ns ms,x=.ref a/\y=.ref b/\SqT K H a (ns.map V.int)/\SqT K H b (ms.map V.int)/\Q (.bl (HT.lexLt ns ms)) H
theorem zux(hu:X.A.units<cLine):OpR X (compareOp .Lt) (zws X.K):=by
 intro zn s σ H x y v u Q I rx ry h;obtain⟨a,b,ns,ms,rfl,rfl,ha,hb,q⟩:=h;cases rx;cases ry;obtain⟨its,r1,p1,_⟩:=I.tuple ha;obtain⟨its2,r2,p2,_⟩:=I.tuple hb;have i1:IntsAre its.toArray.toList ns:=za7 r1;have i2:IntsAre its2.toArray.toList ms:=za7 r2;exact HT.lt_tupInts p1 p2 i1 i2 hu ⟨.bl (HT.lexLt ns ms),H,I,rfl,q⟩
def zsZ(K:W.Frag):R2:=fun x y H Q=>∃ a b xs ys,x=.ref a/\y=.ref b/\SqT K H a xs/\SqT K H b ys/\xs≠[]/\xs.length+ys.length<=sizeLine /\
 (ys=[]->Q (.ref a) H)/\(ys≠[]->∀ p,H p=none->Q (.ref p) (upd H p (.tup (xs++ys))))
theorem Vals.nil_iff{xs:List V}{us:List Value}(r:Vals xs us):us=[]↔xs=[]:=by
 cases r with
 | nil=>simp
 | cons _ _=>simp
theorem ztk:OpR X (binaryOp .Add) (zsZ X.K):=by
 intro zn s σ H x y v u Q I rx ry h;obtain⟨a,b,xs,ys,rfl,rfl,ha,hb,hx,hz,q1,q2⟩:=h;cases rx;cases ry;obtain⟨its,r1,p1,_⟩:=I.tuple ha;obtain⟨its2,r2,p2,_⟩:=I.tuple hb;refine HT.cat_tup p1 p2 (fun z=>hx (r1.nil_iff.mp z)) (fun z=>⟨.ref a,H,I,rfl,q1 (r2.nil_iff.mp z)⟩) (fun z=>?_) (by rw [<- r1.length,<- r2.length]; exact hz);refine⟨.ref s.heap.objs.size,_,I.laid (t':=s.toks) (o:=.tup (xs++ys)) (fun b ob q=>get?_push_of_some _ q) (le_refl _) ?_,rfl,q2 (fun w=>z (r2.nil_iff.mpr w)) _ (I.hok.fresh (le_refl _))⟩;exact⟨⟨by rw [length_append]; exact hz,_,get?_push_size _ rfl,rfl⟩,_,r1.append r2,IsTup.new _ _⟩
end
end
section
def ixN(n:Nat)(i:Int):Option Nat:=if 0<=i then (if i<n then some i.toNat else none) else if -(n:Int)<=i then some (i+n).toNat else none
def atI{α:Type}(xs:List α)(i:Int):Option α:=(ixN xs.length i).bind fun j=>xs[j]?
theorem zo3{n:Nat}{i:Int}{j:Nat}(h:ixN n i=some j):seqIndex? i n=some j/\j<n/\-(n:Int)<=i/\i<n:=by
 unfold ixN at h;by_cases h0:0<=i
 ·rw [if_pos h0] at h;by_cases h1:i<n
  ·rw [if_pos h1] at h;have e:i.toNat=j:=Option.some.inj h;exact⟨by rw [seqIndex_of h0 h1,e],by omega,by omega,h1⟩
  ·rw [if_neg h1] at h; cases h
 ·rw [if_neg h0] at h;by_cases h1:-(n:Int)<=i
  ·rw [if_pos h1] at h;have e:(i+n).toNat=j:=Option.some.inj h;exact⟨by rw [seqIndex_neg (by omega) h1,e],by omega,h1,by omega⟩
  ·rw [if_neg h1] at h; cases h
theorem zk9{α:Type}{xs:List α}{i:Int}{v:α}(h:atI xs i=some v):∃ j,seqIndex? i xs.length=some j/\xs[j]? = some v/\j<xs.length/\-(xs.length:Int)<=i/\i<xs.length:=by
 unfold atI at h;cases e:ixN xs.length i with
 | none=>rw [e] at h; cases h
 | some j =>
  rw [e] at h;obtain⟨h1,h2,h3,h4⟩:=zo3 e;exact⟨j,h1,h,h2,h3,h4⟩
theorem zdo{α:Type}{xs:List α}{j:Nat}{v:α}(h:xs[j]? = some v):atI xs (j:Int)=some v:=by
 have hj:j<xs.length:=(List.getElem?_eq_some_iff.mp h).1;have e:ixN xs.length (j:Int)=some j:=by
  unfold ixN;rw [if_pos (by omega),if_pos (by omega)]; simp
 unfold atI; rw [e]; exact h
theorem zlm{α:Type}(xs:List α)(v:α):atI (xs++[v]) (-1)=some v:=by
 have hl:(xs++[v]).length=xs.length+1:=by simp
 have e:ixN (xs++[v]).length (-1)=some xs.length:=by
  unfold ixN;rw [hl,if_neg dz,if_pos (by omega)];congr 1;omega
 unfold atI;rw [e];show (xs++[v])[xs.length]? = some v;simp
def PlainIx(b:Expr):Prop:=∀ o i,subscripted b false o i=operate [o,i] (getItem o i)
def IxR(X:Cx)(r:R2):Prop :=
 ∀ (value slice:Expr) (zn:List (Addr×Obj)) (s:Shared) (σ:St) (H:Hp) (x y:V) (v u:Value) (Q:VK),Inv X zn σ H s->RelV x v->RelV y u->r x y H Q ->
  subscripted slice false v u=operate [v,u] (getItem v u)->wpAny (model X.prog X.w) X.A (subscriptTail value slice v u) (EP X zn σ Q) X.xe s
def MtR(X:Cx)(id:String)(r:V->List V->Hp->VK->Prop):Prop :=
 ∀ (zn:List (Addr×Obj)) (s:Shared) (σ:St) (H:Hp) (x:V) (xs:List V) (v:Value) (us:List Value) (Q:VK),Inv X zn σ H s->RelV x v->Vals xs us->r x xs H Q ->
  wpAny (model X.prog X.w) X.A (call (.builtin id) (v :: us)) (EP X zn σ Q) X.xe s
section
variable {X:Cx} {a b:Expr} {ta tb:TE} {pos:Pos}
theorem IxR.or{r r':R2}(h:IxR X r)(h':IxR X r'):IxR X (fun x y H Q=>r x y H Q\/r' x y H Q):=by
 intro value slice zn s σ H x y v u Q I rx ry q hs;rcases q with q | q
 ·exact h value slice zn s σ H x y v u Q I rx ry q hs
 ·exact h' value slice zn s σ H x y v u Q I rx ry q hs
theorem zB{r:R2}(hr:IxR X r)(ha:PE X a ta)(hb:PE X b tb)(hs:PlainIx b):PE X (.Subscript a b pos) (tOp r ta tb):=by
 intro zn s σ H Q I h;exact Subscript_ (zwl ha hb I h fun v u s2 x y H2 I2 rx ry q=>hr a b zn s2 σ H2 x y v u Q I2 rx ry q (hs _ _))
def zwj(K:W.Frag):R2:=fun x y H Q=>∃ p xs i v,x=.ref p/\y=.int i/\SqL K H p xs/\atI xs i=some v/\Q v H
def zv2(K:W.Frag):R2:=fun x y H Q=>∃ p xs i v,x=.ref p/\y=.int i/\SqT K H p xs/\atI xs i=some v/\Q v H
def zvX:R2:=fun x y H Q=>∃ z i c,x=.str z/\y=.int i/\z.length<=sizeLine/\atI z.cps.toList i=some c/\Q (.str ⟨#[c]⟩) H
theorem zoJ:IxR X (zwj X.K):=by
 intro value slice zn s σ H x y v u Q I rx ry h hs;obtain⟨p,xs,i,z,rfl,rfl,hq,he,q⟩:=h;cases rx;obtain⟨t,rfl⟩:=ry;obtain⟨its,r,pl,hz⟩:=I.list hq;obtain⟨j,h1,h2,h3,h4,h5⟩:=zk9 he;obtain⟨w,ew,rw'⟩:=r.get h2;have hl:=r.length;have hn:=line63;have fin:EP X zn σ Q w s:=⟨z,H,I,rw',q⟩;by_cases h0:0<=i
 ·have hj:i.toNat=j:=by
   rw [seqIndex_of h0 h5] at h1;exact Option.some.inj h1
  exact item_listR pl.isList h0 (by omega) (by rw [hj]; simpa using ew) fin hs
 ·have hj:(i+(its.toArray.size:Int)).toNat=j:=by
   rw [seqIndex_neg (by omega) h4] at h1;rw [size_toArray,<- hl];exact Option.some.inj h1
  exact subscriptTail_builtinR (x:=w) pl.isList.typeIs slot_list_getitem.lookup
   (wpAny_getItem_list_neg (Q:=fun r s'=>r=w/\EP X zn σ Q r s') pl.isList (by omega) (by rw [size_toArray] <;> omega) (by omega) (by rw [hj]; simpa using ew) ⟨rfl,fin⟩) hs
theorem zuB:IxR X (zv2 X.K):=by
 intro value slice zn s σ H x y v u Q I rx ry h hs;obtain⟨p,xs,i,z,rfl,rfl,hq,he,q⟩:=h;cases rx;obtain⟨t,rfl⟩:=ry;obtain⟨its,r,pl,hz⟩:=I.tuple hq;obtain⟨j,h1,h2,h3,h4,h5⟩:=zk9 he;obtain⟨w,ew,rw'⟩:=r.get h2;have hl:=r.length;have hn:=line63;have fin:EP X zn σ Q w s:=⟨z,H,I,rw',q⟩;exact subscriptTail_builtinR (x:=w) pl.typeIs slot_tuple_getitem.lookup
  (getItem_tuple (j:=j) (Q:=fun r s'=>r=w/\EP X zn σ Q r s') pl (by omega) (by omega) (by rw [size_toArray,<- hl]; exact h1) (by simpa using ew) ⟨rfl,fin⟩) hs
theorem zu5:IxR X zvX:=by
 intro value slice zn s σ H x y v u Q I rx ry h hs;obtain⟨z,i,c,rfl,rfl,hz,he,q⟩:=h;obtain⟨t,rfl⟩:=rx;obtain⟨t',rfl⟩:=ry;obtain⟨j,h1,h2,h3,h4,h5⟩:=zk9 he;have hl:z.cps.toList.length=z.length:=by simp [Str.length]
 rw [hl] at h1 h4 h5;have hn:=line63;exact tail_any (typeIs_str s z t) slot_str_getitem.lookup (getItem_str (c:=c) (by
  have e1:decide (i < -(2 ^ 63:Int))=false:=decide_eq_false (by omega);have e2:decide (i≥2 ^ 63)=false:=decide_eq_false (by omega);rw [e1,e2,Bool.or_false]) (by rw [h1]; simpa using h2) ⟨.str ⟨#[c]⟩,H,I.tok _,⟨_,rfl⟩,q⟩) hs
def rIx(K:W.Frag):R2:=fun x y H Q=>zwj K x y H Q\/zv2 K x y H Q\/zvX x y H Q
theorem zr:IxR X (rIx X.K):=zoJ.or (zuB.or zu5)
theorem zmv(its:List Value)(n j:Nat)(u:Value):Obj.mapSeq (·.setIfInBounds j u) { cls:=.type "list",data:=.seq its.toArray n } = { cls:=.type "list",data:=.seq (its.set j u).toArray n }:=by
 simp [Obj.mapSeq]
theorem Inv.lst{zn:List (Addr×Obj)}{σ:St}{H:Hp}{s:Shared}{p:Addr}{xs:List V}(I:Inv X zn σ H s)(h:H p=some (.lst xs)):
  ∃ (its:List Value) (n:Nat),Vals xs its/\s.heap.get? p=some { cls:=.type "list",data:=.seq its.toArray n }/\xs.length<=sizeLine:=by
 obtain⟨z,its,n,r,e⟩:=I.hok p _ h;exact⟨its,n,r,e,z⟩
theorem Inv.lstUpd{zn:List (Addr×Obj)}{σ:St}{H:Hp}{s:Shared}{p:Addr}{xs ys:List V}{its its':List Value}{n n':Nat}{f:Obj->Obj}(I:Inv X zn σ H s)(h:H p=some (.lst xs))
  (ho:s.heap.get? p=some { cls:=.type "list",data:=.seq its.toArray n }) (hf:f { cls:=.type "list",data:=.seq its.toArray n } = { cls:=.type "list",data:=.seq its'.toArray n' }) (r:Vals ys its') (hz:ys.length<=sizeLine) (t:Nat) :
  Inv X zn σ (upd H p (.lst ys)) { s with heap:=s.heap.update p f,toks:=t }:=by
 have e:(s.heap.update p f).get? p=some { cls:=.type "list",data:=.seq its'.toArray n' }:=by
  rw [get?_update_self f ho (by rw [hf] <;> rfl),hf]
 refine I.write (x:=p) (e:=p) (by rw [h]; trivial) (.inl rfl) (fun b u hb q=>(get?_update_other _ _ (Ne.symm hb)).trans q) ⟨_,e⟩ ?_;exact⟨hz,its',n',r,e⟩
def zvk:V->V->V->Hp->(Hp->Prop)->Prop:=fun o i v H Q=>∃ p xs k j,o=.ref p/\i=.int k/\H p=some (.lst xs)/\ixN xs.length k=some j/\Q (upd H p (.lst (xs.set j v)))
theorem ze3:PSet X zvk:=by
 intro zn s σ H o i v ov iv u Q I ro ri rv h;obtain⟨p,xs,k,j,rfl,rfl,hp,hj,q⟩:=h;cases ro;obtain⟨t,rfl⟩:=ri;obtain⟨its,n,r,ho,hz⟩:=I.lst hp;obtain⟨h1,h2,h3,h4⟩:=zo3 hj;have hl:=r.length;have hn:=line63;have I':Inv X zn σ (upd H p (.lst (xs.set j v))) { s with heap:=s.heap.update p (Obj.mapSeq (·.setIfInBounds j u)) } :=
  I.lstUpd hp ho (zmv its n j u) (r.set rv j) (by rw [length_set]; exact hz) s.toks
 by_cases h0:0<=k
 ·have hk:k.toNat=j:=by
   rw [seqIndex_of h0 h4] at h1;exact Option.some.inj h1
  exact W.ki_setAt ho h0 (by omega) (by rw [size_toArray,<- hl]; exact h4) (by rw [hk]; exact⟨_,I',q⟩)
 ·have hk:(k+(its.toArray.size:Int)).toNat=j:=by
   rw [seqIndex_neg (by omega) h3] at h1;rw [size_toArray,<- hl];exact Option.some.inj h1
  exact W.ki_setBack ho (by omega) (by rw [size_toArray,<- hl]; exact h3) (by omega) (by rw [hk]; exact⟨_,I',q⟩)
theorem zks(lo hi:Option Int)(n:Nat):(sliceBounds lo hi none n).1=((HT.sIx n 0 lo:Nat):Int)/\(sliceBounds lo hi none n).2.1=((HT.sIx n n hi:Nat):Int)/\(sliceBounds lo hi none n).2.2=1:=by
 refine⟨?_,?_,rfl⟩
 ·cases lo with
  | none=>simp [sliceBounds,HT.sIx]
  | some i =>
   simp only [sliceBounds,HT.sIx,Option.getD_none,show (1:Int)>0 by decide,if_true];by_cases h:i<0
   ·simp only [h,if_true] <;> omega
   ·simp only [h,if_false] <;> omega
 ·cases hi with
  | none=>simp [sliceBounds,HT.sIx]
  | some i =>
   simp only [sliceBounds,HT.sIx,Option.getD_none,show (1:Int)>0 by decide,if_true];by_cases h:i<0
   ·simp only [h,if_true] <;> omega
   ·simp only [h,if_false] <;> omega
theorem ziv(its:List Value)(lo hi:Option Int):slicePick its.toArray lo hi none=((its.drop (HT.sIx its.length 0 lo)).take (HT.sIx its.length its.length hi - HT.sIx its.length 0 lo)).toArray:=by
 obtain⟨h1,h2,h3⟩:=zks lo hi its.toArray.size;unfold slicePick;rw [h1,h2,h3];simp only [sliceRange_one,pick_run,size_toArray] <;> rfl
def zuS(K:W.Frag):V->Option Int->Option Int->Hp->VK->Prop:=fun x lo hi H Q=>∃ a xs,x=.ref a/\SqL K H a xs/\∀ p,H p=none->Q (.ref p) (upd H p (.lst (zlS xs lo hi)))
theorem zn4:SlR X (zuS X.K):=by
 intro zn s σ H x v vl vu lo hi sl Q I rx hs pl pu h;obtain⟨a,xs,rfl,hx,q⟩:=h;cases rx;obtain⟨its,r,ht,hz⟩:=I.list hx;have hlen:=r.length;refine⟨"list",_,slot_list_getitem.lookup,ht.isList.typeIs,?_⟩;refine wpAny_getItem_list_slice ht.isList hs pl pu .none (by simp) ?_ (by rw [size_toArray] <;> omega);rw [ziv,<- hlen];refine⟨.ref s.heap.objs.size,_,I.laid (t':=s.toks) (o:=.lst (zlS xs lo hi)) (fun b ob q=>get?_push_of_some _ q) (le_refl _) ?_,rfl,q _ (I.hok.fresh (le_refl _))⟩;exact⟨le_trans (zeD xs lo hi) hz,_,0,(r.drop (HT.sIx xs.length 0 lo)).take (HT.sIx xs.length xs.length hi - HT.sIx xs.length 0 lo),get?_push_size _ rfl⟩
theorem zfO:CallR X (.builtin "len") (fun xs H Q=>∃ p ys,xs=[.ref p]/\(SqL X.K H p ys\/SqT X.K H p ys)/\Q (.int ys.length) H):=by
 intro zn s σ H xs us Q I r h;obtain⟨p,ys,rfl,hq,q⟩:=h;obtain⟨u,rfl,rx⟩:=vals1 r;cases rx;have hn:=line63;rcases hq with hq | hq
 ·obtain⟨its,r',pl,hz⟩:=I.list hq;have hlen:=r'.length;exact Calls.call_len_list pl.isList (by simp only [size_toArray] <;> omega) ⟨.int ys.length,H,I.tok _,⟨s.toks+1,by rw [size_toArray,hlen]⟩,q⟩
 ·obtain⟨its,r',pl,hz⟩:=I.tuple hq;have hlen:=r'.length;exact len_tuple pl (by simp only [size_toArray] <;> omega) ⟨.int ys.length,H,I.tok _,⟨s.toks+1,by rw [size_toArray,hlen]⟩,q⟩
theorem zjF:CallR X (.builtin "len") (fun xs H Q=>∃ z,xs=[.str z]/\z.length<=sizeLine/\Q (.int z.length) H):=by
 intro zn s σ H xs us Q I r h;obtain⟨z,rfl,hz,q⟩:=h;obtain⟨u,rfl,t,rfl⟩:=vals1 r;have hn:=line63;exact len_str (by omega) ⟨.int z.length,H,I.tok _,⟨_,rfl⟩,q⟩
theorem CallR.or{f:Value}{r r':List V->Hp->VK->Prop}(h:CallR X f r)(h':CallR X f r'):CallR X f (fun xs H Q=>r xs H Q\/r' xs H Q):=by
 intro zn s σ H xs us Q I rs q;rcases q with q | q
 ·exact h zn s σ H xs us Q I rs q
 ·exact h' zn s σ H xs us Q I rs q
theorem zdM:CallR X (.type "list") (fun xs H Q=>∃ p ys,xs=[.ref p]/\(SqL X.K H p ys\/SqT X.K H p ys)/\∀ l,H l=none->Q (.ref l) (upd H l (.lst ys))):=by
 intro zn s σ H xs us Q I r h;obtain⟨p,ys,rfl,hq,q⟩:=h;obtain⟨u,rfl,rx⟩:=vals1 r;cases rx;have fin:∀ (its:List Value),Vals ys its->ys.length<=sizeLine->∀ (h':Heap) (c':Nat),(∀ b o',s.heap.get? b=some o'->h'.get? b=some o') ->
   h'.get? s.heap.objs.size=some { cls:=.type "list",dict:=none,data:=.seq its.toArray c',slots:=#[] }->EP X zn σ Q (.ref s.heap.objs.size) { s with heap:=h' }:=fun its r' hz h' c' kp e =>
  ⟨.ref s.heap.objs.size,_,I.laid (t':=s.toks) kp (le_refl _) (show ObjOk X.prog X.w _ h' _ (.lst ys) from⟨hz,its,c',r',e⟩),rfl,q _ (I.hok.fresh (le_refl _))⟩
 rcases hq with hq | hq
 ·obtain⟨its,r',pl,hz⟩:=I.list hq;have hlen:=r'.length;obtain⟨o,ho,hc,n,hd⟩:=pl.isList;exact call_list_seq p (.inl rfl) ho hc hd (fun h' c' kp e=>fin its r' hz h' c' kp e) (by simp only [size_toArray] <;> omega)
 ·obtain⟨its,r',pl,hz⟩:=I.tuple hq;have hlen:=r'.length;obtain⟨o,ho,hc,n,hd⟩:=pl;exact call_list_seq p (.inr rfl) ho hc hd (fun h' c' kp e=>fin its r' hz h' c' kp e) (by simp only [size_toArray] <;> omega)
theorem zO:CallR X (.type "tuple") (fun xs H Q=>∃ p ys,xs=[.ref p]/\((SqL X.K H p ys/\∀ l,H l=none->Q (.ref l) (upd H l (.tup ys)))\/(SqT X.K H p ys/\Q (.ref p) H))):=by
 intro zn s σ H xs us Q I r h;obtain⟨p,ys,rfl,h⟩:=h;obtain⟨u,rfl,rx⟩:=vals1 r;cases rx;rcases h with ⟨hq,q⟩ | ⟨hq,q⟩
 ·obtain⟨its,r',pl,hz⟩:=I.list hq;have hlen:=r'.length;refine call_tuple_list pl.isList (fun h' kp=>?_) (by simp only [size_toArray] <;> omega);have I1:Inv X zn σ H { s with heap:=h' }:=I.kept (t':=s.toks) kp;have I2:Inv X zn σ (upd H h'.objs.size (.tup ys)) { s with heap:=h'.push { cls:=.type "tuple",data:=.seq its.toArray } } :=
   I1.laid (t':=s.toks) (fun b o e=>get?_push_of_some _ e) (le_refl _) (show ObjOk X.prog X.w _ _ _ (.tup ys) from⟨⟨hz,_,get?_push_size _ rfl,rfl⟩,its,r',IsTup.new _ _⟩)
  exact⟨.ref h'.objs.size,_,I2,rfl,q _ (I1.hok.fresh (le_refl _))⟩
 ·obtain⟨its,r',pl,hz⟩:=I.tuple hq;exact call_tuple_same pl ⟨.ref p,H,I,rfl,q⟩
def tyV(K:W.Frag)(T:String)(x:V)(H:Hp):Prop:=match x with
 | .str _=>T = "str"
 | .int _=>T = "int"
 | .ref p=>(T = "list"/\∃ xs,SqL K H p xs)\/(T = "tuple"/\∃ o,K.lookup p=some o/\o.cls=.type "tuple"/\o.dict=none) \/
   (T = "dict"/\((∃ kvs,H p=some (.dK kvs))\/∃ kvs,H p=some (.dT kvs)))\/(T = "set"/\∃ S n,H p=some (.set S n))
 | _=>False
theorem zrC{zn:List (Addr×Obj)}{σ:St}{H:Hp}{s:Shared}{T:String}{x:V}{v:Value}(I:Inv X zn σ H s)(r:RelV x v)(ty:tyV X.K T x H):
  s.TypeIs v T/\∀ a,v=.ref a->∃ ob,s.heap.get? a=some ob/\ob.dict=none:=by
 cases x with
 | str z =>
  obtain⟨t,rfl⟩:=r;cases (show T = "str" from ty);exact⟨typeIs_str s z t,fun _ e=>nomatch e⟩
 | int i =>
  obtain⟨t,rfl⟩:=r;cases (show T = "int" from ty);exact⟨typeIs_int s i t,fun _ e=>nomatch e⟩
 | ref p =>
  cases r;rcases ty with ⟨rfl,xs,hq⟩ | ⟨rfl,o,hk,hc,hd⟩ | ⟨rfl,hk⟩ | ⟨rfl,S,n,hk⟩
  ·obtain⟨its,_,pl,_⟩:=I.list hq;refine⟨pl.isList.typeIs,fun a e=>?_⟩;cases e;obtain⟨o,n,e,c,hd,_⟩:=pl;exact⟨o,e,hd⟩
  ·refine⟨⟨o,I.kIn p o hk,hc⟩,fun a e=>?_⟩;cases e;exact⟨o,I.kIn _ o hk,hd⟩
  ·have z:∃ o,s.heap.get? p=some o/\o.ExactDict:=by
    rcases hk with ⟨kvs,hk⟩ | ⟨kvs,hk⟩
    ·obtain⟨_,_,_,_,o,_,_,e,ex,_⟩:=I.hok p _ hk;exact⟨o,e,ex⟩
    ·obtain⟨_,_,_,_,o,_,_,e,ex,_⟩:=I.hok p _ hk;exact⟨o,e,ex⟩
   obtain⟨o,e,ex⟩:=z;refine⟨⟨o,e,ex.1⟩,fun a e2=>?_⟩;cases e2;exact⟨o,e,ex.2.1⟩
  ·obtain⟨o,_,_,_,e,ex,_⟩:=I.hok p _ hk;refine⟨⟨o,e,ex.1⟩,fun a e2=>?_⟩;cases e2;exact⟨o,e,ex.2.1⟩
 | _=>exact False.elim ty
def zwx(K:W.Frag)(T:String)(r:V->List V->Hp->VK->Prop)(to:TE):TE:=fun σ H Q=>to σ H fun x H1=>tyV K T x H1/\r x [] H1 Q
def tBM(K:W.Frag)(T:String)(r:V->List V->Hp->VK->Prop)(to:TE)(t:TA):TE:=fun σ H Q=>to σ H fun x H1=>tyV K T x H1/\t σ H1 fun xs H2=>r x xs H2 Q
variable {o e:Expr} {es:List Expr} {to:TE} {t:TA} {name:Str} {apos cpos:Pos} {T id:String} {r:V->List V->Hp->VK->Prop}
theorem zrk(pa:PlainAttrs T)(slot:Slot T name id)(hty:typeOf (.builtin id)=pure (.type "method_descriptor"))(hm:MtR X id r)(ho:PE X o to)
  (hbase:attributeBase o name X.env (eval o X.env)=eval o X.env:=by rfl) (hline:(apos.endLine == cpos.line)=true:=by rfl):PE X (.Call (.Attribute o name apos) [] [] cpos) (zwx X.K T r to):=by
 intro zn s σ H Q I h;refine wpAny_Call_method0_late hbase hline (thn (ho zn s σ H _ I h) fun v s1 ⟨x,H1,I1,r1,ty,q1⟩=>?_);obtain⟨h1,h2⟩:=zrC I1 r1 ty;exact⟨T,id,pa,slot,hty,h1,h2,Calls.callWith_builtin rfl (PySem.evalArgs_none (hm zn s1 σ H1 x [] v [] Q I1 r1 .nil q1))⟩
theorem ze0(pa:PlainAttrs T)(slot:Slot T name id)(hty:typeOf (.builtin id)=pure (.type "method_descriptor"))(hm:MtR X id r)(ho:PE X o to)(ha:PA X (e :: es) t)
  (hbase:attributeBase o name X.env (eval o X.env)=eval o X.env:=by rfl)
  (hfew:((backTo cpos (starEach (e :: es) X.env)).all (fun x=>!x.1) && (backToKw cpos (keywordEach [] X.env)).all (fun x=>x.1.isSome)
   && decide ((e :: es).length+([]:List Keyword).length+(if ([]:List Keyword).isEmpty then 0 else 1)<30))=true:=by rfl)
  (hline:(apos.endLine == cpos.line)=true:=by rfl) (hs:starEach (e :: es) X.env=(false,eval e X.env) :: starEach es X.env:=by rfl) (hplain:(backTo cpos (starEach es X.env)).any (·.1)=false:=by rfl) :
  PE X (.Call (.Attribute o name apos) (e :: es) [] cpos) (tBM X.K T r to t):=by
 intro zn s σ H Q I h;refine wpAny_Call_method_late hbase hfew hline rfl (thn (ho zn s σ H _ I h) fun v s1 ⟨x,H1,I1,r1,ty,q1⟩=>?_);obtain⟨h1,h2⟩:=zrC I1 r1 ty;refine⟨T,id,pa,slot,hty,h1,h2,?_⟩;have hA:=ha cpos zn s1 σ H1 _ I1 q1;rw [hs] at hA ⊢;refine Calls.callWith_builtin (by show (false || (backTo cpos (starEach es X.env)).any (·.1))=false; rw [hplain] <;> rfl) (Calls.evalArgs_plain ?_);exact thn hA fun us s2 ⟨vs,H2,I2,r2,q2⟩=>hm zn s2 σ H2 x vs v us Q I2 r1 r2 q2
end
end
section
def MtM(X:Cx)(id:String)(r:V->List V->Hp->VK->Prop):Prop :=
 ∀ (zn:List (Addr×Obj)) (s:Shared) (σ:St) (H:Hp) (x:V) (xs:List V) (v:Value) (us:List Value) (Q:VK),Inv X zn σ H s->RelV x v->Vals xs us->r x xs H Q ->
  wpAny (model X.prog X.w) X.A (call (.builtin id) (v :: us)) (EP X zn σ Q) X.xe s
theorem Vals.one:∀ {x:V} {us:List Value},Vals [x] us->∃ u,us=[u]/\RelV x u
 | _,_,.cons r .nil=>⟨_,rfl,r⟩
theorem Vals.zero:∀ {us:List Value},Vals [] us->us=[]
 | _,.nil=>rfl
theorem Vals.dropLast{xs:List V}{us:List Value}(h:Vals xs us):Vals xs.dropLast us.dropLast:=by
 induction h with
 | nil=>exact .nil
 | cons r t ih =>
  cases t with
  | nil=>exact .nil
  | cons q t'=>exact .cons r ih
theorem Vals.reverse{xs:List V}{us:List Value}(h:Vals xs us):Vals xs.reverse us.reverse:=by
 induction h with
 | nil=>exact .nil
 | cons r t ih=>rw [reverse_cons,reverse_cons]; exact Vals.append ih (.cons r .nil)
theorem Vals.rep{xs:List V}{us:List Value}(h:Vals xs us):∀ k:Nat,Vals (List.replicate k xs).flatten (List.replicate k us).flatten
 | 0=>.nil
 | k+1=>by
  rw [replicate_succ,replicate_succ,flatten_cons,flatten_cons];exact Vals.append h (Vals.rep h k)
theorem zmJ{α:Type}(l:List α):l.eraseIdx (l.length - 1)=l.dropLast:=by
 induction l with
 | nil=>rfl
 | cons a r ih =>
  cases r with
  | nil=>rfl
  | cons b r =>
   have e:(a :: b :: r).length - 1=((b :: r).length - 1)+1:=by
    have h1:(a :: b :: r).length=r.length+2:=rfl;have h2:(b :: r).length=r.length+1:=rfl;omega
   rw [e,List.eraseIdx_cons_succ,ih]
   all_goals rfl
theorem zke(its:List Value):∀ (k:Nat) (acc:List Value),
  List.foldl (fun x1 x2=>x1++x2) acc.toArray (List.replicate k its.toArray)=(acc++(List.replicate k its).flatten).toArray
 | 0,acc=>by simp
 | k+1,acc=>by
  have e:acc.toArray++its.toArray=(acc++its).toArray:=by simp
  have e2:(acc++its)++(List.replicate k its).flatten=acc++(List.replicate (k+1) its).flatten:=by
   rw [replicate_succ,flatten_cons,append_assoc]
  rw [<- e2,<- zke its k (acc++its),<- e,replicate_succ,List.foldl_cons]
section
variable {X:Cx} {zn:List (Addr×Obj)} {σ:St} {H:Hp} {s:Shared} {l b:Addr} {xs ys zs:List V}
theorem Inv.lset{its its':List Value}{n:Nat}{f:Array Value->Array Value}{t':Nat}(I:Inv X zn σ H s)(hH:H l=some (.lst xs))
  (e:s.heap.get? l=some { cls:=.type "list",data:=.seq its.toArray n }) (hf:f its.toArray=its'.toArray) (hv:Vals ys its') (hz:ys.length<=sizeLine) :
  Inv X zn σ (upd H l (.lst ys)) { s with heap:=s.heap.update l (Obj.mapSeq f),toks:=t' }:=by
 have q:=PySem.IsL.update e f;rw [hf] at q;refine I.write (x:=l) (e:=l) (by rw [hH]; exact trivial) (.inl rfl) (fun b' u hb hu=>(get?_update_other s.heap (Obj.mapSeq f) (Ne.symm hb)).trans hu) ⟨_,q⟩ ?_;exact⟨hz,its',_,hv,q⟩
theorem Inv.lnew{its:List Value}{t':Nat}(I:Inv X zn σ H s)(hv:Vals ys its)(hz:ys.length<=sizeLine):
  Inv X zn σ (upd H s.heap.objs.size (.lst ys)) { s with heap:=s.heap.push { cls:=.type "list",data:=.seq its.toArray },toks:=t' } :=
 I.laid (fun _ _ q=>get?_push_of_some _ q) (le_refl _) ⟨hz,its,0,hv,get?_push_size _ rfl⟩
theorem Inv.fresh(I:Inv X zn σ H s):H s.heap.objs.size=none:=I.hok.fresh (le_refl _)
theorem Inv.lstM(I:Inv X zn σ H s)(hH:H l=some (.lst xs)):xs.length<=sizeLine/\∃ (its:List Value) (n:Nat),Vals xs its/\xs.length=its.length/\s.heap.get? l=some { cls:=.type "list",data:=.seq its.toArray n }:=by
 obtain⟨z,its,n,r,e⟩:=I.hok l _ hH;exact⟨z,its,n,r,r.length,e⟩
theorem zlB{n:Nat}(h:n<=sizeLine):Builtin.List.listTooLong n=false:=by
 unfold Builtin.List.listTooLong;exact decide_eq_false (by omega)
end
section
variable {X:Cx}
def zn0:V->List V->Hp->VK->Prop:=fun x vs H Q=>∃ l xs y,x=.ref l/\vs=[y]/\H l=some (.lst xs)/\xs.length<sizeLine/\Q .non (upd H l (.lst (xs++[y])))
theorem zbz:MtM X "list.append" zn0:=by
 intro zn s σ H x vs v us Q I rx rv h;obtain⟨l,xs,y,rfl,rfl,hH,hz,q⟩:=h;cases rx;obtain⟨u,rfl,ru⟩:=rv.one;obtain⟨z,its,n,r,hl,e⟩:=I.lstM hH;refine call_meets F.slot_list_append ⟨_,e,rfl⟩ F.entry_list_append (F.args_list_append_2 _ _) (PySem.list_append l its.toArray n u (by rw [size_toArray]; omega)) ⟨e,?_⟩;refine⟨.non,_,I.lset (its':=its++[u]) hH e (by simp) (r.append (.cons ru .nil)) ?_,rfl,q⟩;rw [length_append,length_singleton];omega
def zoX:V->List V->Hp->VK->Prop:=fun x vs H Q=>∃ l b xs zs,x=.ref l/\vs=[.ref b]/\H l=some (.lst xs)/\H b=some (.lst zs)/\xs.length+zs.length<=sizeLine/\Q .non (upd H l (.lst (xs++zs)))
theorem zhb:MtM X "list.extend" zoX:=by
 intro zn s σ H x vs v us Q I rx rv h;obtain⟨l,b,xs,zs,rfl,rfl,hH,hB,hz,q⟩:=h;cases rx;obtain⟨u,rfl,ru⟩:=rv.one;cases ru;obtain⟨z,its,n,r,hl,e⟩:=I.lstM hH;obtain⟨z2,its2,n2,r2,hl2,e2⟩:=I.lstM hB;have hsz:its.toArray.size+its2.toArray.size<=sizeLine:=by rw [size_toArray,size_toArray]; omega
 have hlong:¬ (!its.toArray.isEmpty && Builtin.List.listTooLong (its.toArray.size+its2.toArray.size))=true:=by
  rw [zlB hsz,Bool.and_false];exact Bool.false_ne_true
 refine call_meets F.slot_list_extend ⟨_,e,rfl⟩ F.entry_list_extend (F.args_list_extend_2 _ _)
  (AutoSeq1.list_extend_list_list_0 l its.toArray n b its2.toArray n2 hlong (by rw [size_toArray]; omega) (by omega)) ⟨e,e2,?_⟩
 refine⟨.non,_,I.lset (its':=its++its2) hH e (by simp) (r.append r2) ?_,rfl,q⟩;rw [length_append];omega
def zww:V->List V->Hp->VK->Prop:=fun x vs H Q=>∃ l xs y,x=.ref l/\vs=[]/\H l=some (.lst xs)/\xs[xs.length - 1]? = some y/\Q y (upd H l (.lst xs.dropLast))
theorem zuZ:MtM X "list.pop" zww:=by
 intro zn s σ H x vs v us Q I rx rv h;obtain⟨l,xs,y,rfl,rfl,hH,hy,q⟩:=h;cases rx;have hus:=rv.zero;subst hus;obtain⟨z,its,n,r,hl,e⟩:=I.lstM hH;obtain⟨u,hu,ru⟩:=r.get hy;have hy':its.toArray[its.toArray.size - 1]? = some u:=by
  show its.toArray[its.length - 1]? = some u;rw [<- Array.getElem?_toList,<- hl];exact hu
 refine call_meets F.slot_list_pop ⟨_,e,rfl⟩ F.entry_list_pop (F.args_list_pop_1 _) (MeetsSeq.list_pop_last l its.toArray n u hy' (by rw [size_toArray]; omega)) ⟨e,?_⟩;refine⟨y,_,I.lset (its':=its.dropLast) hH e ?_ r.dropLast ?_,ru,q⟩
 ·show its.toArray.eraseIdxIfInBounds (its.toArray.size - 1)=its.dropLast.toArray;rw [size_toArray,List.eraseIdxIfInBounds_toArray,zmJ]
 ·rw [List.length_dropLast];omega
def zl5:V->List V->Hp->VK->Prop:=fun x vs H Q=>∃ l xs,x=.ref l/\vs=[]/\H l=some (.lst xs)/\Q .non (upd H l (.lst xs.reverse))
theorem zmA:MtM X "list.reverse" zl5:=by
 intro zn s σ H x vs v us Q I rx rv h;obtain⟨l,xs,rfl,rfl,hH,q⟩:=h;cases rx;have hus:=rv.zero;subst hus;obtain⟨z,its,n,r,hl,e⟩:=I.lstM hH;refine call_meets F.slot_list_reverse ⟨_,e,rfl⟩ F.entry_list_reverse (F.args_list_reverse_1 _) (AutoSeq1.list_reverse_list_0 l its.toArray n (by rw [size_toArray]; omega)) ⟨e,?_⟩;refine⟨.non,_,I.lset (its':=its.reverse) hH e (by simp) r.reverse ?_,rfl,q⟩;rw [List.length_reverse];omega
def ztw:R2:=fun x y H Q=>∃ l b xs zs,x=.ref l/\y=.ref b/\H l=some (.lst xs)/\H b=some (.lst zs)/\xs.length+zs.length<=sizeLine/\∀ p,H p=none->Q (.ref p) (upd H p (.lst (xs++zs)))
theorem zn1:OpR X (binaryOp .Add) ztw:=by
 intro zn s σ H x y v u Q I rx ry h;obtain⟨l,b,xs,zs,rfl,rfl,hH,hB,hz,q⟩:=h;cases rx;cases ry;obtain⟨z,its,n,r,hl,e⟩:=I.lstM hH;obtain⟨z2,its2,n2,r2,hl2,e2⟩:=I.lstM hB;refine PySem.P.add_list e e2 ?_ (by rw [size_toArray,size_toArray]; omega);have ea:its.toArray++its2.toArray=(its++its2).toArray:=by simp
 rw [ea];exact⟨.ref _,_,I.lnew (t':=s.toks) (r.append r2) (by rw [length_append]; omega),rfl,q _ I.fresh⟩
def zwr:R2:=fun x y H Q=>∃ l k xs,x=.ref l/\y=.int k/\H l=some (.lst xs)/\-(2 ^ 63)<=k/\k<2 ^ 63/\xs.length*k.toNat<=sizeLine /\
 ∀ p,H p=none->Q (.ref p) (upd H p (.lst (List.replicate k.toNat xs).flatten))
theorem ztl{α:Type}(xs:List α)(k:Nat):(List.replicate k xs).flatten.length=k*xs.length:=by
 induction k with
 | zero=>simp
 | succ k ih=>rw [replicate_succ,flatten_cons,length_append,ih,succ_mul,Nat.add_comm]
theorem zvz:OpR X (binaryOp .Mult) zwr:=by
 intro zn s σ H x y v u Q I rx ry h;obtain⟨l,k,xs,rfl,rfl,hH,h1,h2,hz,q⟩:=h;cases rx;obtain⟨t,rfl⟩:=ry;obtain⟨z,its,n,r,hl,e⟩:=I.lstM hH;have hlen:its.toArray.size*k.toNat<=sizeLine:=by rw [size_toArray,<- hl]; exact hz
 have hcap:¬ its.toArray.size*k.toNat>(2 ^ 63 - 1) / 8:=by
  have:(sizeLine:Nat)<=(2 ^ 63 - 1) / 8:=by decide
  omega
 have hfit:¬ (!Builtin.List.listFitsIndex k)=true:=by
  rw [fitsIndex_both h1 h2];exact Bool.false_ne_true
 have hlong:¬ Builtin.List.listTooLong (its.toArray.size*k.toNat)=true:=by
  rw [zlB hlen];exact Bool.false_ne_true
 have hnew:List.foldl (fun x1 x2=>x1++x2) #[] (List.replicate (if its.toArray.isEmpty=true then 0 else k.toNat) its.toArray)=(List.replicate k.toNat its).flatten.toArray:=by
  have f0:∀ m:Nat,List.foldl (fun x1 x2=>x1++x2) #[] (List.replicate m its.toArray)=(List.replicate m its).flatten.toArray:=fun m=>by
   have:=zke its m [];rw [nil_append] at this;exact this
  rw [f0];cases its with
  | nil=>simp
  | cons a r'=>rw [if_neg (by simp)]
 refine wpAny_binaryOp_repeat_ref (T:="list") (U:="int") dz ⟨_,e,rfl⟩ (fun s'=>typeIs_int s' k t) noFill_list_mul F.fills_int_mul F.slot_int_rmul repeat_list F.slot_int_index.lookup
  (call_meets F.slot_int_rmul (typeIs_int s k t) F.entry_int_rmul (F.args_int_rmul_2 _ _) (int___rmul___int_list k t l its.toArray n)
   ⟨e,rfl,⟨_,e,rfl⟩,call_meets F.slot_list_mul ⟨_,e,rfl⟩ F.entry_list_mul (F.args_list_mul_2 _ _) (AutoListH.list___mul___list_int_3 l its.toArray n k t hfit hcap hlong) ⟨e,?_⟩⟩)
 rw [hnew];exact⟨.ref _,_,I.lnew (t':=s.toks) (r.rep k.toNat) (by rw [ztl,mul_comm]; exact hz),rfl,q _ I.fresh⟩
end
end
section
section
variable {κ:Type} [DecidableEq κ]
def zlh(kvs:List (κ×V))(k:κ):Option V:=(kvs.find? fun kv=>decide (kv.1=k)).map (·.2)
def zkC(kvs:List (κ×V))(k:κ)(v:V):List (κ×V) :=
 if (kvs.any fun kv=>decide (kv.1=k))=true then kvs.map (fun kv=>if kv.1=k then (kv.1,v) else kv) else kvs++[(k,v)]
theorem zgn{p:κ×V}{r:List (κ×V)}{k:κ}(e:p.1=k):zlh (p :: r) k=some p.2:=by simp [zlh,find?_cons,e]
theorem zgk{p:κ×V}{r:List (κ×V)}{k:κ}(e:¬ p.1=k):zlh (p :: r) k=zlh r k:=by simp [zlh,find?_cons,e]
theorem zme(k:κ):∀ kvs:List (κ×V),(kvs.any fun kv=>decide (kv.1=k))=(zlh kvs k).isSome
 | []=>rfl
 | p :: r=>by
  rw [any_cons];by_cases e:p.1=k
  ·simp only [zgn e,decide_eq_true e,Bool.true_or,Option.isSome_some]
  ·rw [zgk e,decide_eq_false e,Bool.false_or]; exact zme k r
theorem zg8(kvs:List (κ×V))(k:κ)(v:V):(zkC kvs k v).length<=kvs.length+1:=by
 unfold zkC;split
 ·rw [length_map]; omega
 ·rw [length_append,length_cons,length_nil]; omega
theorem RelO.isSome_eq{o:Option V}{u:Option Value}(r:RelO o u):o.isSome=u.isSome:=by
 cases o with
 | none=>cases u with
  | none=>rfl
  | some _=>exact(show False from r).elim
 | some _=>cases u with
  | none=>exact(show False from r).elim
  | some _=>rfl
theorem RelO.getD{o:Option V}{u:Option Value}{d:V}{d':Value}(r:RelO o u)(rd:RelV d d'):RelV (o.getD d) (u.getD d'):=by
 cases o with
 | none=>cases u with
  | none=>exact rd
  | some _=>exact(show False from r).elim
 | some _=>cases u with
  | none=>exact(show False from r).elim
  | some _=>exact r
theorem KV.val{kvs:List (κ×V)}{vs:List (κ×Value)}(r:KV kvs vs)(k:κ):RelO (zlh kvs k) (valueAt vs k):=by
 unfold KV at r;induction r with
 | nil=>exact True.intro
 | @cons p q ps qs h t ih =>
  obtain⟨h1,h2⟩:=h;by_cases e:p.1=k
  ·have e':q.1=k:=h1.symm.trans e;have b:valueAt (q :: qs) k=some q.2:=by simp [valueAt,find?_cons,e']
   rw [zgn e,b]; exact h2
  ·have e':¬ q.1=k:=fun z=>e (h1.trans z);have b:valueAt (q :: qs) k=valueAt qs k:=by simp [valueAt,find?_cons,e']
   rw [zgk e,b]; exact ih
theorem KV.any{kvs:List (κ×V)}{vs:List (κ×Value)}(r:KV kvs vs)(k:κ):(kvs.any fun kv=>decide (kv.1=k))=vs.any fun kv=>decide (kv.1=k):=by
 unfold KV at r;induction r with
 | nil=>rfl
 | cons h t ih=>rw [any_cons,any_cons,ih,h.1]
theorem KV.repl{kvs:List (κ×V)}{vs:List (κ×Value)}(r:KV kvs vs)(k:κ){y:V}{u:Value}(ry:RelV y u):
  KV (kvs.map fun kv=>if kv.1=k then (kv.1,y) else kv) (vs.map fun kv=>if kv.1=k then (kv.1,u) else kv):=by
 unfold KV at r ⊢;induction r with
 | nil=>exact .nil
 | @cons p q ps qs h t ih =>
  rw [map_cons,map_cons];refine .cons ?_ ih;obtain⟨h1,h2⟩:=h;by_cases e:p.1=k
  ·rw [if_pos e,if_pos (h1.symm.trans e)]; exact⟨h1,ry⟩
  ·rw [if_neg e,if_neg (fun z=>e (h1.trans z))]; exact⟨h1,h2⟩
theorem KV.put{kvs:List (κ×V)}{vs:List (κ×Value)}(r:KV kvs vs)(k:κ){y:V}{u:Value}(ry:RelV y u):KV (zkC kvs k y) (stored vs k u):=by
 unfold zkC stored;rw [r.any k];by_cases e:(vs.any fun kv=>decide (kv.1=k))=true
 ·rw [if_pos e,if_pos e]; exact r.repl k ry
 ·rw [if_neg e,if_neg e]; exact Paired.snoc r ⟨rfl,ry⟩
theorem KV.length{kvs:List (κ×V)}{vs:List (κ×Value)}(r:KV kvs vs):kvs.length=vs.length:=Paired.length r
end
theorem ztq{P:Program}{w:World}{k:Key}{u:Value}(r:RelV (kV k) u):(zbb P w).is k u=true:=by
 cases k with
 | inl i=>obtain⟨t,e⟩:=(show ∃ t,u=Value.int i t from r); subst e; exact zk6 P w i t
 | inr x=>obtain⟨t,e⟩:=(show ∃ t,u=Value.str x t from r); subst e; exact zk7 P w x t
theorem zkq{P:Program}{w:World}:∀ {ks:List Key} {us:List Value},Vals (ks.map kV) us->ItemsAre (zbb P w) ks us
 | [],_,r=>by rw [map_nil] at r; cases r; exact .nil
 | k :: ks,_,r=>by
  rw [map_cons] at r;cases r with
  | cons h t=>exact .cons (ztq h) (zkq t)
abbrev KT (H:Hp):List (List Key×V)->List (List Key×Addr×Value)->Prop:=Paired fun p q=>p.1=q.1/\H q.2.1=some (.tup (p.1.map kV))/\RelV p.2 q.2.2
theorem KT.val{H:Hp}{kvs:List (List Key×V)}{xs:List (List Key×Addr×Value)}(r:KT H kvs xs)(k:List Key):RelO (zlh kvs k) ((atKey xs k).map (·.2)):=by
 induction r with
 | nil=>exact True.intro
 | @cons p q ps qs h t ih =>
  obtain⟨h1,_,h2⟩:=h;by_cases e:p.1=k
  ·have e':q.1=k:=h1.symm.trans e;have b:atKey (q :: qs) k=some q.2:=by simp [atKey,find?_cons,e']
   rw [zgn e,b]; exact h2
  ·have e':¬ q.1=k:=fun z=>e (h1.trans z);have b:atKey (q :: qs) k=atKey qs k:=by simp [atKey,find?_cons,e']
   rw [zgk e,b]; exact ih
theorem KT.repl{H:Hp}{kvs:List (List Key×V)}{xs:List (List Key×Addr×Value)}(r:KT H kvs xs)(k:List Key){y:V}{u:Value}(ry:RelV y u):
  KT H (kvs.map fun kv=>if kv.1=k then (kv.1,y) else kv) (xs.map (putAt k u)):=by
 induction r with
 | nil=>exact .nil
 | @cons p q ps qs h t ih =>
  rw [map_cons,map_cons];refine .cons ?_ ih;obtain⟨h1,h2,h3⟩:=h;unfold putAt;by_cases e:p.1=k
  ·rw [if_pos e,if_pos (h1.symm.trans e)]; exact⟨h1,h2,ry⟩
  ·rw [if_neg e,if_neg (fun z=>e (h1.trans z))]; exact⟨h1,h2,h3⟩
theorem KT.put{H:Hp}{kvs:List (List Key×V)}{xs:List (List Key×Addr×Value)}(r:KT H kvs xs)(k:List Key){b:Addr}{y:V}{u:Value}(hb:H b=some (.tup (k.map kV)))(ry:RelV y u):
  KT H (zkC kvs k y) (storedH xs k b u):=by
 have e:(kvs.any fun kv=>decide (kv.1=k))=(atKey xs k).isSome:=by
  rw [zme,(r.val k).isSome_eq,isSome_map]
 unfold zkC storedH;rw [e];by_cases q:(atKey xs k).isSome=true
 ·rw [if_pos q,if_pos q]; exact r.repl k ry
 ·rw [if_neg q,if_neg q]; exact Paired.snoc r ⟨rfl,hb,ry⟩
theorem KT.keeps{H H':Hp}{kvs:List (List Key×V)}{xs:List (List Key×Addr×Value)}(r:KT H kvs xs)(ht:∀ b ys,H b=some (.tup ys)->H' b=some (.tup ys)):KT H' kvs xs :=
 Paired.mapP r fun _ _ z=>⟨z.1,ht _ _ z.2.1,z.2.2⟩
section
variable {P:Program} {w:World} {H:Hp} {h:Heap} {a:Addr}
theorem zuf{u:HO}(ok:HOk P w H h)(e:Rd H a u):ObjOk P w H h a u:=e.ok ok
theorem zqc{kvs:List (Key×V)}(ok:HOk P w H h)(e:Rd H a (.dK kvs)):kvs.length<=sizeLine/\(a == sysModules)=false/\∃ vs,KV kvs vs/\h.DictOf (zbb P w) a vs :=
 show ObjOk P w H h a (.dK kvs) from zuf ok e
theorem zv4{kvs:List (Key×V)}(ok:HOk P w H h)(e:H a=some (.dK kvs)):kvs.length<=sizeLine/\(a == sysModules)=false/\∃ vs,KV kvs vs/\h.DictOf (zbb P w) a vs:=zqc ok (.inl e)
theorem zlX{ks:List Key}(ok:HOk P w H h)(e:H a=some (.tup (ks.map kV))):(tupleKind (zbb P w)).is h ks a:=by
 obtain⟨_,its,r,o,h1,h2,n,h3⟩:=(show ObjOk P w H h a (.tup (ks.map kV)) from ok a _ e);exact⟨o,its.toArray,n,h1,h2,h3,by simpa using zkq r⟩
theorem zqK{kvs:List (List Key×V)}(ok:HOk P w H h)(e:Rd H a (.dT kvs)):kvs.length<=sizeLine/\(a == sysModules)=false /\
  ∃ xs,KT H kvs xs/\h.DictOfH (tupleKind (zbb P w)) a xs:=by
 obtain⟨z,y,xs,r,o,es,ep,h1,h2,h3,h4,h5⟩:=(show ObjOk P w H h a (.dT kvs) from zuf ok e);refine⟨z,y,xs,r,o,es,ep,h1,h2,h3,h4,fun x hx=>?_,h5⟩;have all:∀ {l:List (List Key×V)} {m:List (List Key×Addr×Value)},KT H l m->∀ x∈m,(tupleKind (zbb P w)).is h x.1 x.2.1:=by
  intro l m q;induction q with
  | nil=>intro x hx; exact nomatch hx
  | @cons p q ps qs hq t ih =>
   intro x hx;rcases mem_cons.mp hx with e | hx
   ·subst e;exact zlX ok (by rw [<- hq.1]; exact hq.2.1)
   ·exact ih x hx
 exact all r x hx
theorem zvQ{kvs:List (List Key×V)}(ok:HOk P w H h)(e:H a=some (.dT kvs)):kvs.length<=sizeLine/\(a == sysModules)=false /\
  ∃ xs,KT H kvs xs/\h.DictOfH (tupleKind (zbb P w)) a xs:=zqK ok (.inl e)
end
def DGet(H:Hp)(a:Addr)(y:V)(r:Option V):Prop :=
 (∃ kvs k,Rd H a (.dK kvs)/\y=kV k/\r=zlh kvs k)\/∃ kvs k b,Rd H a (.dT kvs)/\y=.ref b/\H b=some (.tup (k.map kV))/\r=zlh kvs k
def DPut(H:Hp)(a:Addr)(y v:V)(H':Hp):Prop :=
 (∃ kvs k,H a=some (.dK kvs)/\y=kV k/\kvs.length<sizeLine/\H'=upd H a (.dK (zkC kvs k v))) \/
 ∃ kvs k b,H a=some (.dT kvs)/\y=.ref b/\H b=some (.tup (k.map kV))/\kvs.length<sizeLine/\H'=upd H a (.dT (zkC kvs k v))
theorem DPut.k{H:Hp}{a:Addr}{kvs:List (Key×V)}{k:Key}{v:V}(e:H a=some (.dK kvs))(hl:kvs.length<sizeLine):DPut H a (kV k) v (upd H a (.dK (zkC kvs k v))):=.inl ⟨kvs,k,e,rfl,hl,rfl⟩
theorem DPut.t{H:Hp}{a b:Addr}{kvs:List (List Key×V)}{k:List Key}{v:V}(e:H a=some (.dT kvs))(eb:H b=some (.tup (k.map kV)))(hl:kvs.length<sizeLine):
  DPut H a (.ref b) v (upd H a (.dT (zkC kvs k v))):=.inr ⟨kvs,k,b,e,rfl,eb,hl,rfl⟩
section
variable {X:Cx} {zn:List (Addr×Obj)} {σ:St} {H:Hp} {s:Shared} {a:Addr} {y v:V} {u r:Value} {o:Option V} {A:Around} {E:Value->Shared->Prop}
theorem Inv.big(I:Inv X zn σ H s):sysModules<s.heap.objs.size:=by
 have h:mainGlobals<s.heap.objs.size:=(I.mod.glob.keeps I.bk).lt;exact Nat.lt_trans dz h
theorem zoe{h':Heap}{t':Nat}{ob:HO}(I:Inv X zn σ H s)(mu:Mut (H a))(hs:Heap.SameBut a s.heap h')(he:∃ q,h'.get? a=some q)(new:ObjOk X.prog X.w (upd H a ob) h' a ob):
  Inv X zn σ (upd H a ob) { s with heap:=h',toks:=t' } :=
 I.write (x:=a) (e:=a) mu (.inl rfl) (fun b q hb z=>(hs.2 b hb).trans z) he new
theorem zuc{P:Program}{w:World}{H':Hp}{h':Heap}{kvs:List (Key×V)}{vs:List (Key×Value)}(z:kvs.length<=sizeLine)(hd:(a == sysModules)=false)(rel:KV kvs vs)(dd:h'.DictOf (zbb P w) a vs):
  ObjOk P w H' h' a (.dK kvs):=⟨z,hd,vs,rel,dd⟩
theorem zpv{H':Hp}{Q:Unit->Shared->Prop}(hu:A.units+1<cLine)(I:Inv X zn σ H s)(g:DPut H a y v H')(ry:RelV y u)(rv:RelV v r)(h:∀ s',Inv X zn σ H' s'->Q () s'):
  wpAny (model X.prog X.w) A (setItem (.ref a) u r) Q E s:=by
 rcases g with ⟨kvs,k,e,ey,l,eH⟩ | ⟨kvs,k,b,e,ey,eb,l,eH⟩
 ·subst ey eH;obtain⟨z,hd,vs,rel,dd⟩:=zv4 I.hok e;have hz:vs.length<=sizeLine:=by rw [<- rel.length]; exact z
  have hl:(zkC kvs k v).length<=sizeLine:=by have:=zg8 kvs k v; omega
  refine wpAny_setItem_pairs (hsz:=hz) (ztq ry) dd fun h' dd' hs=>h _ ?_;have he:∃ q,h'.get? a=some q:=let ⟨q,_,_,hq,_⟩:=dd'; ⟨q,hq⟩;exact zoe I (by rw [e]; exact True.intro) hs he (zuc hl hd (rel.put k rv) dd')
 ·subst ey eH;cases (show u=Value.ref b from ry);obtain⟨z,hd,xs,rel,dd⟩:=zvQ I.hok e;have hz:xs.length<=sizeLine:=by rw [<- Paired.length rel]; exact z
  have hl:(zkC kvs k v).length<=sizeLine:=by have:=zg8 kvs k v; omega
  refine wpAny_setItem_heap (hsz:=hz) (tupleKind_room_in1 hu) (zlX I.hok eb) dd fun h' dd' hs=>h _ ?_;obtain⟨q,es,ep,hq,h2,h3,h4,_,h5⟩:=dd';refine zoe I (by rw [e]; exact True.intro) hs ⟨q,hq⟩ ⟨hl,hd,_,(rel.put k eb rv).keeps fun c ys ec=>?_,q,es,ep,hq,h2,h3,h4,h5⟩;rw [zS (zvM ec e (fun z=>nomatch z))];exact ec
end
def zu4(td ty tv:TE):TS:=fun D σ H=>tv σ H fun v H1=>td σ H1 fun x H2=>ty σ H2 fun y H3=>∃ a H4,x=.ref a/\DPut H3 a y v H4/\D.nx σ H4
section
variable {X:Cx} {o i e value:Expr} {pos pos' tpos:Pos} {td ty tv:TE}
theorem zsl(hu:X.A.units+1<cLine)(ho:PE X o td)(hi:PE X i ty)(hv:PE X value tv)(hs:swapsWith value (some (.Subscript o i pos')) pos.line X.env=pure false):
  PS X (.Assign [.Subscript o i pos'] value pos) (zu4 td ty tv):=by
 intro zn s σ H D I h;refine wpAny_Assign_Subscript (thn (hv zn s σ H _ I h) fun r s1 ⟨v,H1,I1,rv,q1⟩=>thn (ho zn s1 σ H1 _ I1 q1) fun u s2 ⟨x,H2,I2,rx,q2⟩=>thn (hi zn s2 σ H2 _ I2 q2) fun iv s3 ⟨y,H3,I3,ry,a,H4,ex,g,q3⟩=>?_) hs;subst ex;obtain rfl:u=Value.ref a:=rx;exact zpv hu I3 g ry rv fun s4 I4=>⟨σ,H4,I4,q3⟩
end
theorem zqF{P:Program}{w:World}{H:Hp}(h:Heap)(hb:sysModules<h.objs.size):ObjOk P w H (h.push { cls:=.type "dict",data:=.dict #[] }) h.objs.size (.dT []) :=
 ⟨zero_le _,beq_eq_false_iff_ne.mpr (Ne.symm (ne_of_lt hb)),[],.nil,_,#[],0,get?_push_size _ rfl,⟨rfl,rfl,rfl⟩,rfl,rfl,nodup_nil⟩
def zsd:TE:=fun _ H Q=>∀ p,H p=none->Q (.ref p) (upd H p (.dT []))
section
variable {X:Cx} {pos:Pos}
theorem zpT:PE X (.Dict [] [] pos) zsd:=fun zn s σ H Q I h =>
 wpAny_Dict_empty ⟨.ref s.heap.objs.size,_,I.laid (a:=s.heap.objs.size) (o:=.dT []) (t':=s.toks) (fun _ _ q=>get?_push_of_some _ q) (le_refl _) (zqF s.heap I.big),rfl,h _ (I.hok.fresh (le_refl _))⟩
end
structure M1(X:Cx)(o:Expr)(m:Str)(apos:Pos)(e:Expr)(cpos:Pos):Prop where
 base:attributeBase o m X.env (eval o X.env)=eval o X.env
 few:((backTo cpos (starEach [e] X.env)).all (fun x=>!x.1) && (backToKw cpos (keywordEach [] X.env)).all (fun x=>x.1.isSome)
  && decide (([e]:List Expr).length+([]:List Keyword).length+(if ([]:List Keyword).isEmpty then 0 else 1)<30))=true
 line:(apos.endLine == cpos.line)=true
 trees:backTo cpos (starEach [e] X.env)=[(false,eval e X.env)]
structure M2(X:Cx)(o:Expr)(m:Str)(apos:Pos)(e f:Expr)(cpos:Pos):Prop where
 base:attributeBase o m X.env (eval o X.env)=eval o X.env
 few:((backTo cpos (starEach [e,f] X.env)).all (fun x=>!x.1) && (backToKw cpos (keywordEach [] X.env)).all (fun x=>x.1.isSome)
  && decide (([e,f]:List Expr).length+([]:List Keyword).length+(if ([]:List Keyword).isEmpty then 0 else 1)<30))=true
 line:(apos.endLine == cpos.line)=true
 trees:backTo cpos (starEach [e,f] X.env)=[(false,eval e X.env),(false,eval f X.env)]
def IsD(H:Hp)(a:Addr):Prop:=(∃ kvs,Rd H a (.dK kvs))\/∃ kvs,Rd H a (.dT kvs)
theorem zr6{X:Cx}{zn:List (Addr×Obj)}{σ:St}{H:Hp}{s:Shared}{a:Addr}(I:Inv X zn σ H s)(d:IsD H a):
  s.TypeIs (.ref a) "dict"/\(∀ b,Value.ref a=.ref b->∃ ob,s.heap.get? b=some ob/\ob.dict=none)/\(a == sysModules)=false:=by
 rcases d with ⟨kvs,e⟩ | ⟨kvs,e⟩
 ·obtain⟨_,hd,vs,_,dd⟩:=zqc I.hok e;refine⟨dd.typeIs,fun b q=>?_,hd⟩;cases q;obtain⟨ob,_,_,h1,h2,_⟩:=dd;exact⟨ob,h1,h2.2.1⟩
 ·obtain⟨_,hd,xs,_,dd⟩:=zqK I.hok e;refine⟨dd.typeIs,fun b q=>?_,hd⟩;cases q;obtain⟨ob,_,_,h1,h2,_⟩:=dd;exact⟨ob,h1,h2.2.1⟩
section
variable {X:Cx} {zn:List (Addr×Obj)} {σ:St} {H:Hp} {s:Shared} {a:Addr} {y d:V} {u r:Value} {o:Option V} {A:Around} {E:Value->Shared->Prop}
theorem ztJ{Q:Value->Shared->Prop}(hu:A.units+1<cLine)(I:Inv X zn σ H s)(g:DGet H a y o)(ry:RelV y u)(rd:RelV d r)(h:∀ w' s',Inv X zn σ H s'->RelV (o.getD d) w'->Q w' s'):
  wpAny (model X.prog X.w) A (call (.builtin "dict.get") [.ref a,u,r]) Q E s:=by
 rcases g with ⟨kvs,k,e,ey,l⟩ | ⟨kvs,k,b,e,ey,eb,l⟩
 ·subst ey;obtain⟨z,hd,vs,rel,dd⟩:=zqc I.hok e;refine call_meetsIn PySem.F.slot_dict_get dd.typeIs PySem.F.entry_dict_get (PySem.F.args_dict_get_3 _ _ _) (meets_dict_get_default (zbb X.prog X.w) a (ztq ry) hd r) ⟨_,dd.mapOf,h _ _ (I.tok _) ?_⟩;rw [l];exact(rel.val k).getD rd
 ·subst ey;cases (show u=Value.ref b from ry);obtain⟨z,hd,xs,rel,dd⟩:=zqK I.hok e;refine call_meetsIn PySem.F.slot_dict_get dd.typeIs PySem.F.entry_dict_get (PySem.F.args_dict_get_3 _ _ _) (meetsH_dict_get_default (tupleKind (zbb X.prog X.w)) a b hd r) ⟨tupleKind_room_in1 hu,k,xs,zlX I.hok eb,dd,h _ _ (I.tok _) ?_⟩;rw [l];exact(rel.val k).getD rd
end
def zrj(td ty tx:TE):TE:=fun σ H Q=>td σ H fun x H1=>∃ a,x=.ref a/\IsD H1 a/\ty σ H1 fun y H2=>tx σ H2 fun z H3=>∃ o,DGet H3 a y o/\Q (o.getD z) H3
section
variable {X:Cx} {o e f:Expr} {apos cpos:Pos} {td ty tx:TE}
theorem zqN(hu:X.A.units+1<cLine)(ho:PE X o td)(he:PE X e ty)(hf:PE X f tx)(m:M2 X o "get" apos e f cpos):PE X (.Call (.Attribute o "get" apos) [e,f] [] cpos) (zrj td ty tx):=by
 intro zn s σ H Q I h;refine wpAny_Call_method m.base m.few m.line PySem.F.plainAttrs_dict PySem.F.slot_dict_get PySem.F.type_dict_get (thn (ho zn s σ H _ I h) fun u s1 ⟨x,H1,I1,rx,a,ex,d,q1⟩=>?_);subst ex;obtain rfl:u=Value.ref a:=rx;obtain⟨t1,t2,_⟩:=zr6 I1 d;refine⟨t1,t2,?_⟩;rw [m.trees];refine Calls.callWith_builtin rfl (Calls.evalArgs_plain (Calls.spliced_cons (thn (he zn s1 σ H1 _ I1 q1) fun iv s2 ⟨y,H2,I2,ry,q2⟩ =>
  Calls.spliced_cons (thn (hf zn s2 σ H2 _ I2 q2) fun fv s3 ⟨z,H3,I3,rz,ov,g,q3⟩=>Calls.spliced_nil ?_))))
 exact ztJ hu I3 g ry rz fun w' s4 I4 rw'=>⟨_,H3,I4,rw',q3⟩
end
end
end L2
namespace Att
open PySem PySem.W PySem.Calls PyProof.Rows
theorem zhg{P:Params}{h:Heap}:∀ (ns:List Int) (vs:List Value),WellAll P h vs (ns.map WData.int)->IntsAre vs ns:=by
 intro ns;induction ns with
 | nil =>
  intro vs w;rw [map_nil] at w;cases w;exact .nil
 | cons n ns ih =>
  intro vs w;rw [map_cons] at w;cases w with
  | cons a b =>
   cases a;exact .cons _ _ (ih _ b)
theorem znB{l:OpenLaw}{n:Nat}(hn:l.most=some n){P:Params}{h:Heap}{args:List WData}{vals:List Value}
  (hpre:l.row.toRowW.claim.pre args=true) (hwl:WellAll P h vals args) :
  ∃ a vs ns,vals=[Value.ref a]/\args=[WData.list (ns.map WData.int)]/\h.get? a=some { cls:=.type "list",data:=.seq vs.toArray }/\IntsAre vs ns/\ns.length<=n:=by
 have hsh:WShape.hasAll [] args [.list .int]=true:=(pre_splitW hpre).1;have hc:l.pre.holds [] { args:=args } = true:=(pre_splitW hpre).2;obtain⟨d,r,rfl,h1,h2⟩:=hasAllW_cons hsh;obtain rfl:=hasAllW_nil h2;obtain⟨xs,rfl,h3⟩:=hasW_list h1;obtain⟨ns,rfl⟩:=items_int h3;have hlen:ns.length<=n:=by
  unfold OpenLaw.pre at hc;have h4:(WTm.not (.lt (.lit (.int (n:Int))) (.len (.arg 0)))).holds [] { args:=[.list (ns.map .int)] } = true:=by
   have h4:=(holds_andW hc).1;rw [hn] at h4;exact h4
  have h5:=condW_of h4 (w_not (w_lt w_lit (w_len_list (w_arg rfl))));rw [length_map] at h5;refine Nat.le_of_not_lt fun q=>?_;have q':(n:Int)<((ns.length:Nat):Int):=by omega
  first
   | (rw [decide_eq_true q'] at h5; exact absurd h5 dz)
   | (simp at h5; omega)
 cases hwl with
 | cons w1 w2 =>
  cases w2;cases w1 with
  | list ho hall=>exact⟨_,_,ns,rfl,rfl,ho,zhg ns _ hall,hlen⟩
theorem zph(l:OpenLaw)(args:List WData):l.row.toRowW.claim.post args (.bool true) args=true :=
 postW_of (r:=l.row.toRowW) (X:=(true == true))
  (show WShape.has [] (.bool true) .bool=true by first | rfl | decide | simp [WShape.has,WShape.arms,WShape.armsAll])
  (show (WTm.eq .res (.lit (.bool true))).value [] { args:=args,res:=some (.bool true),after:=args } = some (.bool (true == true)) from w_eq_bool (w_res rfl) w_lit) rfl
theorem attach_call{l:OpenLaw}{n:Nat}{q:Program}{loose:List Str}{XP:(Str->Option Value)->Heap->Prop}{YP:World->Heap->Prop}{d:DefRec}
  (hn:l.most=some n) (hdf:d.params.defaults=[])
  (call:∀ (w:World) (s₀ s₁:Shared) (mg mb:Str->Option Value) (fa:Addr) (o:Obj) (pm cd doc:Value) (a:Addr) (vs:List Value) (ns:List Int),
   Ground q loose [] XP w s₀ mg mb s₁.heap->YP w s₁.heap ->
   s₁.heap.get? fa=some o->o.data=.func (docDef d.name d.params d.body d.scope pm cd doc)->s₁.heap.CodeRec cd d.name->mg d.name=some (.ref fa) ->
   s₁.heap.get? a=some { cls:=.type "list",data:=.seq vs.toArray }->IntsAre vs ns->ns.length<=n->s₁.gens = #[] ->
   codeAny (model l.prog w) callerA (.call (.ref fa) ⟨[.ref a],[]⟩) (fun r s'=>r=.ok (.ret (.bool true))/\OldK s₁.heap s'.heap/\s'.os=s₁.os/\AllBare s'.gens) s₁) :
  WalkO q loose XP YP l.row.toRowW d [] (fun f vs=>PySem.call f vs):=by
 intro w s₀ s₁ mg mb G Y fa o pm cd doc dV kV ho hd hcd hD hmg hg args vals as hpre hlay hrd hwl hlo;obtain rfl:dV=.none:=Dflts.none hD hdf;obtain rfl:kV=.none:=Dflts.noKw hD;obtain⟨a,vs,ns,rfl,rfl,hobj,hints,hlen⟩:=znB hn hpre hwl;refine enter_call (codeAny_mono (call w s₀ s₁ mg mb fa o pm cd doc a vs ns G Y ho (fd_plain hd) hcd hmg hobj hints hlen hg) fun r s' hq=>?_);obtain⟨rfl,h2,h3,h4⟩:=hq;exact⟨.inl ⟨.bool true,.bool true,[],rfl,fun _=>rfl,.bool true,zph l _,fun _=>⟨List.Pairwise.nil,fun _ hm=>(nomatch hm)⟩⟩,h2,h3,h4⟩
end Att
namespace L2
open PySem PySem.Spec PyProof.Rows
section
theorem zj7:∀ {vs:List Value} {ns:List Int},IntsAre vs ns->Vals (ns.map V.int) vs
 | _,_,.nil=>.nil
 | _,_,.cons n t h=>.cons ⟨t,rfl⟩ (zj7 h)
def Only(H:Hp):Prop:=∀ b,H b=none\/(∃ o xs,H b=some (.frz o (.lst xs)))\/∃ q∈tabsG,q.1.2=b/\H b=some (.tbl q.2)
def zfD(b:Addr):Option HO:=(tabsG.find? fun q=>q.1.2 == b).map fun q=>.tbl q.2
theorem zeg{b:Addr}{u:HO}(e:zfD b=some u):∃ q∈tabsG,q.1.2=b/\u=.tbl q.2:=by
 unfold zfD at e;cases h:tabsG.find? fun q=>q.1.2 == b with
 | none=>rw [h] at e; cases e
 | some q =>
  rw [h] at e;cases e;exact⟨q,List.mem_of_find?_eq_some h,by simpa using List.find?_some h,rfl⟩
theorem zmL{l:List ((Addr×Addr)×Array Value)}(nd:(l.map fun q=>q.1.2).Nodup){q:(Addr×Addr)×Array Value}(h:q∈l):l.find? (fun r=>r.1.2 == q.1.2)=some q:=by
 induction l with
 | nil=>cases h
 | cons p l ih =>
  rw [map_cons,nodup_cons] at nd;rcases mem_cons.mp h with e | e
  ·subst e; simp
  ·have ne:¬ p.1.2=q.1.2:=fun z=>nd.1 (by rw [z]; exact mem_map_of_mem (f:=fun q:(Addr×Addr)×Array Value=>q.1.2) e);rw [List.find?_cons_of_neg (by simpa using ne)];exact ih nd.2 e
theorem zkb(nd:(tabsG.map fun q=>q.1.2).Nodup){q:(Addr×Addr)×Array Value}(h:q∈tabsG):zfD q.1.2=some (.tbl q.2):=by
 unfold zfD;rw [zmL nd h];rfl
structure TabsOk(K:W.Frag)(h:Heap):Prop where
 nd:(tabsG.map fun q=>q.1.2).Nodup
 hd:∀ q∈tabsG,W.CodeHd h q.1.1 q.1.2
 empty:∀ q∈tabsG,h.get? q.1.2=some (W.tabObj #[])
 off:∀ q∈tabsG,K.lookup q.1.2=none
theorem zpR{P:Program}{w:World}{K:W.Frag}{mg mb:Str->Option Value}{CX:CXT}{k:Nat}{fa a:Addr}{fd:FuncData}{x:Str}{sp:Sp}{s₁:Shared}{vs:List Value}{ns:List Int}
  (KX:K.In s₁.heap) (TT:TabsOk K s₁.heap) (hbm:BltAt s₁.heap mg) (hns:s₁.heap.Ns mainGlobals mg) (hb:s₁.heap.Ns builtinsNs mb) (hbb:∀ x:Str,x ≠ "__name__"->mb x=bootBuiltins x) (hlim:s₁.heap.NoLimit) (hg:s₁.gens = #[])
  (ha:s₁.heap.get? a=some { cls:=.type "list",data:=.seq vs.toArray }) (hi:IntsAre vs ns) (hl:ns.length<=sizeLine) (hr:Room k callerA)
  (F:∀ base:Heap,K.In base->base.Ns mainGlobals mg->FnOk P w K mg base CX k fa fd [x] sp) (hbind:∀ (s:Shared) (u:Value),BindsTo s fd ⟨[u],[]⟩ [(x,u)])
  (hsp:∀ H:Hp,Only H->SqL K H a (ns.map V.int)->sp [.ref a] H (fun v _=>v=.bl true) fun _ _ _=>False)
  (hCX:∀ H e s',CX [] H s₁ (fun _ _ _=>False) e s'->False) :
  codeAny (model P w) callerA (.call (.ref fa) ⟨[.ref a],[]⟩) (fun r s'=>r=.ok (.ret (.bool true))/\OldK s₁.heap s'.heap/\s'.os=s₁.os/\AllBare s'.gens) s₁:=by
 have rv:=zj7 hi;have lenV:=hi.length
 -- from an abstract heap in which nothing but the script may be tracked
 have core:∀ H:Hp,Only H->SqL K H a (ns.map V.int)->HOk P w H s₁.heap->(∀ b,H b≠none->b=a\/∃ q∈tabsG,q.1.2=b)->(H a≠none->K.lookup a=none)->(∀ q∈tabsG,H q.1.2=some (.tbl q.2)) ->
   codeAny (model P w) callerA (.call (.ref fa) ⟨[.ref a],[]⟩) (fun r s'=>r=.ok (.ret (.bool true))/\OldK s₁.heap s'.heap/\s'.os=s₁.os/\AllBare s'.gens) s₁:=by
  intro H hO hS hok hA hK hTab;have noO:∀ {b:Addr} {o:Obj},s₁.heap.get? b=some o->o.cls≠.type "list"->o.cls≠.none->H b=none:=fun {b o} e c1 c2=>by
   cases q:H b with
   | none=>rfl
   | some u =>
    rcases hA b (by rw [q]; simp) with e' | ⟨r,hr',e'⟩
    ·subst e';rw [ha] at e; cases e;exact absurd rfl c1
    ·have:=TT.empty r hr';rw [e',e] at this;cases this;exact absurd rfl c2
  have base_of:∀ {b:Addr} {o:Obj},s₁.heap.get? b=some o->H b=none->(zqh s₁.heap H).get? b=some o:=fun e n=>zqA e n;have noA:∀ {b:Addr} {o:Obj} {es:Array DictEntry} {ep:Nat},s₁.heap.get? b=some o->o.data=.dict es ep->H b=none:=fun {b o es ep} e d=>by
   cases q:H b with
   | none=>rfl
   | some u =>
    rcases hA b (by rw [q]; simp) with e' | ⟨r,hr',e'⟩
    ·subst e';rw [ha] at e; cases e;have d':Data.seq vs.toArray _=Data.dict es ep:=d;cases d'
    ·have:=TT.empty r hr';rw [e',e] at this;cases this;cases d
  have nsK:∀ {b:Addr} {m:Str->Option Value},s₁.heap.Ns b m->(zqh s₁.heap H).Ns b m:=fun {b m} ⟨o,es,ep,e,d,r⟩=>⟨o,es,ep,base_of e (noA e d),d,r⟩;have hKb:K.In (zqh s₁.heap H):=fun b o e=>base_of (KX b o e) (by
   cases q:H b with
   | none=>rfl
   | some u =>
    rcases hA b (by rw [q]; simp) with e' | ⟨r,hr',e'⟩
    ·subst e';rw [hK (by rw [q]; simp)] at e; cases e
    ·rw [<- e',TT.off r hr'] at e; cases e)
  have hM:Mod K mg (zqh s₁.heap H):=⟨hKb,nsK hns,⟨mb,nsK hb,hbb⟩,let ⟨mc,h1,h2⟩:=hlim; ⟨mc,nsK h1,h2⟩,
   let ⟨bm,ob,b1,b2,b3,b4,b5⟩:=hbm; ⟨bm,ob,b1,b2,base_of b3 (noO b3 (by rw [b4]; decide) (by rw [b4]; decide)),b4,b5⟩,
   fun q hq=>let ⟨o,vs,file,tf,flags,tg,inF,text,tt,e1,c1,r⟩:=TT.hd q hq; ⟨o,vs,file,tf,flags,tg,inF,text,tt,base_of e1 (noO e1 (by rw [c1]; decide) (by rw [c1]; decide)),c1,r⟩⟩
  have e0:Env0 P w K mg (zqh s₁.heap H) callerA [] s₁ H:=⟨rfl,hM,fun b o e=>zs8 e,Nat.le_of_eq (znp _ _),trivial,⟨fun b hb=>absurd (show b∈([]:List Addr) from hb) (by simp),hTab⟩,hok,.of_eq hg⟩;refine codeAny_mono ((F _ hKb (nsK hns)).run callerA [] s₁ H ⟨[.ref a],[]⟩ [.ref a] [.ref a] _ _ hr e0 (hbind s₁ (.ref a)) (.cons rfl .nil) (hsp H hO hS)) fun r s' h=>?_;cases r with
  | error e=>exact(hCX H e s' h).elim
  | ok fl =>
   cases fl with
   | next=>exact False.elim h
   | brk=>exact False.elim h
   | cont=>exact False.elim h
   | ret u =>
    obtain⟨v,H',os,bare,un,hok',r',q⟩:=h;have q':v=.bl true:=q;subst q';obtain rfl:u=Value.bool true:=r';have all:∀ b o,s₁.heap.get? b=some o->s'.heap.get? b=some o\/∃ q∈tabsG,q.1.2=b/\o=W.tabObj #[]/\∃ ps,s'.heap.get? b=some (W.tabObj ps):=fun b o e=>by
     cases q:H b with
     | none=>exact .inl (un.keep b o e q (by intro z; exact absurd (show b∈([]:List Addr) from z) (by simp)) (by simp))
     | some u =>
      rcases hO b with z | ⟨ob,xs,z⟩ | ⟨r,hr',e',z⟩
      ·rw [q] at z; cases z
      ·have z2:=un.frzs b ob _ z;obtain⟨e1,_⟩:=hok b _ z;obtain⟨e2,_⟩:=hok' b _ z2;rw [e] at e1; cases e1;exact .inl e2
      ·obtain⟨qs,e2,_⟩:=hok' b _ (un.tbls b _ z);have:=TT.empty r hr';rw [e',e] at this;cases this;exact .inr ⟨r,hr',e',rfl,qs,e2⟩
    refine⟨rfl,⟨fun b o e=>?_,fun b o e=>?_⟩,os,bare⟩
    ·rcases all b o e with z | ⟨r,hr',rfl,rfl,ps,z⟩
     ·exact .inl z
     ·exact .inr (.inl ⟨((TT.hd r hr').tab (TT.empty r hr')).isCodeTable,rfl,#[],ps,rfl,by rw [Array.empty_append]; exact z⟩)
    ·rcases all b o e with z | ⟨r,hr',rfl,rfl,ps,z⟩
     ·exact⟨o,z⟩
     ·exact⟨_,z⟩
 have naT:∀ q∈tabsG,q.1.2≠a:=fun q hq z=>by
  have:=TT.empty q hq;rw [z,ha] at this;cases this
 have tOk:∀ (H:Hp) (b:Addr) (u:HO),zfD b=some u->ObjOk P w H s₁.heap b u:=fun H b u z=>by
  obtain⟨q,hq,rfl,rfl⟩:=zeg z;exact⟨#[],TT.empty q hq,.inl rfl⟩
 cases hk:K.lookup a with
 | some o =>
  -- the script is one of the module's own objects
  have e:=KX a o hk;rw [ha] at e;cases e;refine core zfD (fun b=>?_) (.inr ⟨_,vs.toArray,_,hk,rfl,rfl,rfl,by rw [size_toArray,lenV]; exact hl,by simpa using rv⟩) (tOk zfD) (fun b z=>?_) (fun z=>?_) fun q hq=>zkb TT.nd hq
  ·cases q:zfD b with
   | none=>exact .inl rfl
   | some u=>obtain⟨r,hr',e',rfl⟩:=zeg q; exact .inr (.inr ⟨r,hr',e',rfl⟩)
  ·cases q:zfD b with
   | none=>exact absurd q z
   | some u=>obtain⟨r,hr',e',_⟩:=zeg q; exact .inr ⟨r,hr',e'⟩
  ·cases q:zfD a with
   | none=>exact absurd q z
   | some u=>obtain⟨r,hr',e',_⟩:=zeg q; exact absurd e' (naT r hr')
 | none =>
  refine core (fun b=>if b=a then some (.frz { cls:=.type "list",data:=.seq vs.toArray } (.lst (ns.map V.int))) else zfD b) (fun b=>?_) (.inl (.inr ⟨{ cls:=.type "list",data:=.seq vs.toArray },if_pos rfl⟩)) (fun b u z=>?_) (fun b z=>?_) (fun _=>hk) fun q hq=>(if_neg (naT q hq)).trans (zkb TT.nd hq)
  ·by_cases hb:b=a
   ·exact .inr (.inl ⟨_,_,if_pos hb⟩)
   ·cases q:zfD b with
    | none=>exact .inl ((if_neg hb).trans q)
    | some u=>obtain⟨r,hr',e',rfl⟩:=zeg q; exact .inr (.inr ⟨r,hr',e',(if_neg hb).trans q⟩)
  ·by_cases hb:b=a
   ·have z':=(if_pos hb).symm.trans z;cases z';subst hb;exact⟨ha,by rw [length_map]; exact hl,vs,_,rv,ha⟩
   ·have z':=(if_neg hb).symm.trans z;exact tOk _ b u z'
  ·by_cases hb:b=a
   ·exact .inl hb
   ·cases q:zfD b with
    | none=>exact absurd ((if_neg hb).trans q) z
    | some u=>obtain⟨r,hr',e',_⟩:=zeg q; exact .inr ⟨r,hr',e'⟩
end
section
abbrev KOf {K:W.Frag} {h:Heap} (_:K.In h):W.Frag:=K
theorem walk_of{l:W.OpenLaw}{n k:Nat}{q:Program}{loose:List Str}{XP:(Str->Option Value)->Heap->Prop}{YP:World->Heap->Prop}{d:DefRec}{K:Params->W.Frag}{CX:World->CXT}{sp:World->Sp}{x:Str}
  (hn:l.most=some n) (hn2:n<=sizeLine) (hdf:d.params.defaults=[]) (hr:Room k callerA)
  (hY:∀ (w:World) (h:Heap),YP w h->(K w.params).In h)
  (hT:∀ (w:World) (h:Heap),YP w h->TabsOk (K w.params) h)
  (F:∀ (w:World) (mg:Str->Option Value) (fa:Addr) (h:Heap),(K w.params).In h->h.Ns mainGlobals mg->mg d.name=some (.ref fa) ->
   ∃ fd:FuncData,(∀ (s:Shared) (u:Value),BindsTo s fd ⟨[u],[]⟩ [(x,u)]) /\
    ∀ base:Heap,(K w.params).In base->base.Ns mainGlobals mg->FnOk l.prog w (K w.params) mg base (CX w) k fa fd [x] (sp w))
  (hsp:∀ (w:World) (H:Hp) (a:Addr) (ns:List Int),ns.length<=n->Only H->SqL (K w.params) H a (ns.map V.int)->sp w [.ref a] H (fun v _=>v=.bl true) fun _ _ _=>False)
  (hCX:∀ (w:World) (H:Hp) (s:Shared) (e:Value) (s':Shared),CX w [] H s (fun _ _ _=>False) e s'->False) :
  W.WalkO q loose XP YP l.row.toRowW d [] (fun f vs=>PySem.call f vs):=by
 refine Att.attach_call hn hdf fun w s₀ s₁ mg mb fa o pm cd doc a vs ns G Y ho hd hcd hmg hobj hints hlen hg=>?_;have KX:=hY w _ Y;obtain⟨fd,hb,hF⟩:=F w mg fa _ KX G.T.g hmg;exact zpR KX (hT w _ Y) (let ⟨bm,ob,a1,a2,a3,a4,a5,a6⟩:=G.T.bmain; ⟨bm,ob,a1,a2,a3,a4,a5,a6⟩) G.T.g G.T.b G.T.builtins G.T.nolimit hg hobj hints (le_trans hlen hn2) hr hF hb (fun H hO hS=>hsp w H a ns hlen hO hS) fun H e s'=>hCX w H s₁ e s'
end
section
def zex(s:Stmt):Arguments:=match s with
 | .FunctionDef _ a _ _ _ _ _ _ _ _=>a
 | _=>{ posonlyargs:=[],args:=[],vararg:=none,kwonlyargs:=[],kw_defaults:=[],kwarg:=none,defaults:=[] }
def zbL(s:Stmt):List Stmt:=match s with
 | .FunctionDef _ _ b _ _ _ _ _ _ _=>b
 | _=>[]
def zi(s:Stmt):Scope:=match s with
 | .FunctionDef _ _ _ _ _ _ sc _ _ _=>sc
 | _=>{ kind:=.function,names:=[],isGenerator:=false,isCoroutine:=false }
abbrev CX0:CXT:=fun _ _ _ _ _ _=>False
abbrev E0:XK:=fun _ _ _=>False
theorem pass0{X:Cx}:Passes CX0 X E0:=fun _ _ _ _ _ _ _ h=>h.elim
structure Fun(K:W.Frag)(x qual:Str)(st:Stmt)(f:Addr)(fd:FuncData):Prop where
 ex:∃ (oc:Value) (od:Option Addr) (kV doc pm:Value) (an:Option Addr) (cdv ct:Value) (osl:Array (Option Value)),
  fd=W.fnOf x qual (zex st) (zbL st) (zi st) .none kV doc pm an cdv ct/\K.lookup f=some ⟨oc,od,.func fd,osl⟩/\W.codeIn K cdv qual=true
 kp:W.keepIn K (.ref f)=true
section
variable {P:Program} {w:World} {K:W.Frag} {mg:Str->Option Value} {base:Heap}
theorem Fun.ok{x qual:Str}{st:Stmt}{f:Addr}{fd:FuncData}{N ps:List Str}{k:Nat}{sp:Sp}(F:Fun K x qual st f fd)(S:FnScope N ps (zi st))(len:∀ vs H Q E,sp vs H Q E->vs.length=ps.length)
  (hbody:∀ (cdv:Value) (A:Around) (outer:List Env) (s:Shared) (H:Hp) (vs:List V) (Q:VK) (E:XK),Room k (A.deeper (envOfC qual (zi st) s.heap.objs.size f cdv))->sp vs H Q E ->
   ∃ t,PSs (zk2 CX0 P w K mg base N qual (zi st) f cdv A outer s H E).nox (zbL st) t/\t { nx:=fun _ H'=>Q .non H',rt:=Q } (start N vs) H):FnOk P w K mg base CX0 (k+1) f fd ps sp:=by
 obtain⟨oc,od,kV,doc,pm,an,cdv,ct,osl,rfl,lk,hcd⟩:=F.ex;refine ztZ lk hcd S len fun A outer s H vs Q E hr hsp=>?_;obtain⟨t,h,q⟩:=hbody cdv A outer s H vs Q E hr hsp;exact⟨t,h.nox,q⟩
theorem Fun.binds{x qual:Str}{st:Stmt}{f:Addr}{fd:FuncData}{ps:List Str}(F:Fun K x qual st f fd)
  (h:∀ (kV doc pm:Value) (an:Option Addr) (cdv ct:Value) (us:List Value),us.length=ps.length->bindArgs (W.fnOf x qual (zex st) (zbL st) (zi st) .none kV doc pm an cdv ct) ⟨us,[]⟩=pure (ps.zip us)):Binds K fd ps []:=by
 obtain⟨oc,od,kV,doc,pm,an,cdv,ct,osl,rfl,lk,hcd⟩:=F.ex;exact .all (h kV doc pm an cdv ct)
theorem zra{x qual:Str}{st:Stmt}{f:Addr}{oc:Value}{od an:Option Addr}{osl:Array (Option Value)}{kV doc pm cdv ct:Value}(l:K.lookup f=some ⟨oc,od,.func (W.fnOf x qual (zex st) (zbL st) (zi st) .none kV doc pm an cdv ct),osl⟩)
  (c:W.codeIn K cdv qual=true) (k:W.keepIn K (.ref f)=true):Fun K x qual st f (W.fnOf x qual (zex st) (zbL st) (zi st) .none kV doc pm an cdv ct):=⟨⟨oc,od,kV,doc,pm,an,cdv,ct,osl,rfl,l,c⟩,k⟩
end
theorem zsP{A:Around}{k:Nat}(hr:Room k A):A.units+1<cLine:=Nat.lt_of_le_of_lt (Nat.add_le_add_left (by decide:1<=64) _) hr.units
theorem small1000{n:Nat}(h:n<=1000):n<sizeLine:=Nat.lt_of_le_of_lt h dz
section
variable {X:Cx}
theorem pv(i:Nat){x:Str}{pos:Pos}(hN:X.N[i]? = some x:=by rfl)(hv:Vis X.env.scope x:=by first | exact Or.inl rfl | exact Or.inr (Or.inl rfl) | exact Or.inr (Or.inr rfl))(hd:(x == ("__debug__":Str))=false:=by decide)
  (hcd:(x == ("__classdict__":Str))=false:=by decide):PE X (.Name x pos) (zn3 i):=zvv hN hv hd hcd
end
theorem zpI{A B:Prop}(h:B):if false=true then A else B:=by
 rw [if_neg Bool.false_ne_true];exact h
theorem zpG{A B:Prop}(h:A):if true=true then A else B:=by
 rw [if_pos rfl];exact h
theorem ite2{c A B:Prop}[Decidable c](h1:c->A)(h2:¬ c->B):if c then A else B:=by
 by_cases h:c
 ·rw [if_pos h];exact h1 h
 ·rw [if_neg h];exact h2 h
def Same(H H':Hp):Prop:=∀ b o,H b=some o->H' b=some o
theorem Same.refl(H:Hp):Same H H:=fun _ _ h=>h
theorem Same.trans{H H1 H2:Hp}(a:Same H H1)(b:Same H1 H2):Same H H2:=fun c o h=>b c o (a c o h)
theorem Same.seq{K:W.Frag}{H H':Hp}{a:Addr}{xs:List V}(e:Same H H')(h:SqL K H a xs):SqL K H' a xs:=by
 rcases h with (h | ⟨o,h⟩) | h
 ·exact .inl (.inl (e _ _ h))
 ·exact .inl (.inr ⟨o,e _ _ h⟩)
 ·exact .inr h
end
section
section
variable {X:Cx}
def CDivX(i j:Int):Prop:=0<j/\j.natAbs.log2<9000
theorem zqG:OpR X (binaryOp .FloorDiv) (rI CDivX fun i j=>.int (i / j)):=opI fun i j _ _ _ _ _ hc q=>by
 have h1:(0:Int)<j:=hc.1;exact floordiv_int (by omega) (by rw [Int.fdiv_eq_ediv_of_nonneg i (by omega)]; exact q) (.inl (PyProof.noPylong_of_log2 hc.2))
theorem zs4:OpR X (binaryOp .Mult) (rI IntMulOk fun i j=>.int (i*j)):=opI fun _ _ _ _ _ _ _ hc q=>mul_int q hc
theorem zo8{k:Int}{n:Nat}(h:k.natAbs<2 ^ n):Builtin.Int.intBits k<=n:=by
 unfold Builtin.Int.intBits;split
 ·exact zero_le _
 ·rename_i h0;have hk:k.natAbs≠0:=by
   intro z;apply h0;rw [Int.natAbs_eq_zero.mp z];rfl
  have:=(Nat.log2_lt hk).mpr h;omega
theorem zvN{i j:Int}(n m:Nat)(hi:i.natAbs<2 ^ n)(hj:j.natAbs<2 ^ m)(hn:n<=2 ^ 20:=by decide)(hm:m<=2 ^ 20:=by decide):IntMulOk i j :=
 .of_bits (le_trans (zo8 hi) hn) (le_trans (zo8 hj) hm)
theorem zd1{i j:Int}(h1:-(2 ^ 64)<i)(h2:i<2 ^ 64):IntMulOk i j:=.of_left (intBits_le_64 h1 h2)
theorem zot{i j:Int}(h1:-(2 ^ 64)<j)(h2:j<2 ^ 64):IntMulOk i j:=.of_right (intBits_le_64 h1 h2)
theorem zcs{n:Int}{k:Nat}(h0:0<n)(h:n<2 ^ k):n.natAbs.log2<k:=by
 refine(Nat.log2_lt (by omega)).mpr ?_;have e:((2 ^ k:Nat):Int)=(2:Int) ^ k:=by simp
 omega
end
def kD:Key->PyData
 | .inl i=>.int i
 | .inr x=>.str x
def DOf(H:Hp)(a:Addr)(ks:List PyData)(vs:List V):Prop :=
 (∃ (ob:Obj) (m:List (Key×V)),H a=some (.frz ob (.dK m))/\ks=m.map (fun p=>kD p.1)/\vs=m.map (·.2)) \/
 ∃ (ob:Obj) (p:List Key×V) (m:List (List Key×V)),H a=some (.frz ob (.dT (p :: m)))/\ks=(p :: m).map (fun p=>.tuple (p.1.map kD))/\vs=(p :: m).map (·.2)
mutual
def Has(H:Hp):PyData->V->Prop
 | .none,v=>v=.non
 | .bool b,v=>v=.bl b
 | .int i,v=>v=.int i
 | .str x,v=>v=.str x
 | .list ds,v=>∃ a vs,v=.ref a/\H a=some (.lst vs)/\HasL H ds vs
 | .tuple ds,v=>∃ a vs,v=.ref a/\H a=some (.tup vs)/\HasL H ds vs
 | .dict kvs,v=>∃ a vs,v=.ref a/\DOf H a (kvs.map (·.1)) vs/\HasV H kvs vs
def HasL(H:Hp):List PyData->List V->Prop
 | [],vs=>vs=[]
 | d :: ds,vs=>∃ v r,vs=v :: r/\Has H d v/\HasL H ds r
def HasV(H:Hp):List (PyData×PyData)->List V->Prop
 | [],vs=>vs=[]
 | p :: ps,vs=>∃ v r,vs=v :: r/\HasP H p v/\HasV H ps r
def HasP(H:Hp):PyData×PyData->V->Prop
 | (_,d),v=>Has H d v
end
mutual
theorem Has.mono{H H':Hp}(s:Same H H'):∀ (d:PyData) (v:V),Has H d v->Has H' d v
 | .none,_,h=>by simp only [Has] at h ⊢; exact h
 | .bool _,_,h=>by simp only [Has] at h ⊢; exact h
 | .int _,_,h=>by simp only [Has] at h ⊢; exact h
 | .str _,_,h=>by simp only [Has] at h ⊢; exact h
 | .list ds,v,h=>by
  simp only [Has] at h ⊢;obtain⟨a,vs,e,q,l⟩:=h;exact⟨a,vs,e,s _ _ q,HasL.mono s ds vs l⟩
 | .tuple ds,v,h=>by
  simp only [Has] at h ⊢;obtain⟨a,vs,e,q,l⟩:=h;exact⟨a,vs,e,s _ _ q,HasL.mono s ds vs l⟩
 | .dict kvs,v,h=>by
  simp only [Has] at h ⊢;obtain⟨a,vs,e,q,l⟩:=h;refine⟨a,vs,e,?_,HasV.mono s kvs vs l⟩;rcases q with ⟨ob,m,e1,e2⟩ | ⟨ob,p,m,e1,e2⟩
  ·exact .inl ⟨ob,m,s _ _ e1,e2⟩
  ·exact .inr ⟨ob,p,m,s _ _ e1,e2⟩
theorem HasL.mono{H H':Hp}(s:Same H H'):∀ (ds:List PyData) (vs:List V),HasL H ds vs->HasL H' ds vs
 | [],_,h=>by simp only [HasL] at h ⊢; exact h
 | d :: ds,vs,h=>by
  simp only [HasL] at h ⊢;obtain⟨v,r,e,q,l⟩:=h;exact⟨v,r,e,Has.mono s d v q,HasL.mono s ds r l⟩
theorem HasV.mono{H H':Hp}(s:Same H H'):∀ (ds:List (PyData×PyData)) (vs:List V),HasV H ds vs->HasV H' ds vs
 | [],_,h=>by simp only [HasV] at h ⊢; exact h
 | d :: ds,vs,h=>by
  simp only [HasV] at h ⊢;obtain⟨v,r,e,q,l⟩:=h;exact⟨v,r,e,HasP.mono s d v q,HasV.mono s ds r l⟩
theorem HasP.mono{H H':Hp}(s:Same H H'):∀ (p:PyData×PyData) (v:V),HasP H p v->HasP H' p v
 | (_,d),v,h=>by
  simp only [HasP] at h ⊢;exact Has.mono s d v h
end
section
variable {H:Hp} {v:V}
theorem zdd:Has H .none v↔v=.non:=by simp only [Has]
theorem zcP{b:Bool}:Has H (.bool b) v↔v=.bl b:=by simp only [Has]
theorem zcc{i:Int}:Has H (.int i) v↔v=.int i:=by simp only [Has]
theorem zdw{x:Str}:Has H (.str x) v↔v=.str x:=by simp only [Has]
theorem zbk{ds:List PyData}:Has H (.list ds) v↔∃ a vs,v=.ref a/\H a=some (.lst vs)/\HasL H ds vs:=by simp only [Has]
theorem zay{ds:List PyData}:Has H (.tuple ds) v↔∃ a vs,v=.ref a/\H a=some (.tup vs)/\HasL H ds vs:=by simp only [Has]
theorem zgh{kvs:List (PyData×PyData)}:Has H (.dict kvs) v↔∃ a vs,v=.ref a/\DOf H a (kvs.map (·.1)) vs/\HasV H kvs vs:=by simp only [Has]
theorem zqt{vs:List V}:HasV H [] vs↔vs=[]:=by simp only [HasV]
theorem zfa{p:PyData×PyData}{ds:List (PyData×PyData)}{vs:List V}:HasV H (p :: ds) vs↔∃ v r,vs=v :: r/\Has H p.2 v/\HasV H ds r:=by
 obtain⟨k,d⟩:=p;simp only [HasV,HasP]
theorem zM{vs:List V}:HasL H [] vs↔vs=[]:=by simp only [HasL]
theorem zD{d:PyData}{ds:List PyData}{vs:List V}:HasL H (d :: ds) vs↔∃ v r,vs=v :: r/\Has H d v/\HasL H ds r:=by simp only [HasL]
theorem HasL.length:∀ {ds:List PyData} {vs:List V},HasL H ds vs->vs.length=ds.length
 | [],_,h=>by rw [zM.mp h]; rfl
 | d :: ds,vs,h=>by
  obtain⟨v,r,e,_,l⟩:=zD.mp h;rw [e,length_cons,length_cons,HasL.length l]
theorem HasL.get:∀ {ds:List PyData} {vs:List V} {i:Nat} {d:PyData},HasL H ds vs->ds[i]? = some d->∃ v,vs[i]? = some v/\Has H d v
 | [],_,_,_,_,e=>by simp at e
 | c :: ds,vs,0,d,h,e=>by
  obtain⟨v,r,rfl,q,_⟩:=zD.mp h;simp at e;subst e;exact⟨v,rfl,q⟩
 | c :: ds,vs,i+1,d,h,e=>by
  obtain⟨v,r,rfl,_,l⟩:=zD.mp h;obtain⟨u,e1,e2⟩:=HasL.get (i:=i) (d:=d) l (by simpa using e);exact⟨u,by simpa using e1,e2⟩
theorem HasL.append:∀ {ds es:List PyData} {vs us:List V},HasL H ds vs->HasL H es us->HasL H (ds++es) (vs++us)
 | [],es,vs,us,h,h'=>by rw [zM.mp h]; exact h'
 | d :: ds,es,vs,us,h,h'=>by
  obtain⟨v,r,rfl,q,l⟩:=zD.mp h;exact zD.mpr ⟨v,r++us,rfl,q,HasL.append l h'⟩
theorem zgM:∀ (ns:List Int),HasL H (ns.map .int) (ns.map V.int)
 | []=>zM.mpr rfl
 | n :: ns=>zD.mpr ⟨_,_,rfl,zcc.mpr rfl,zgM ns⟩
end
def tyD:PyData->String
 | .none=>"NoneType" | .bool _=>"bool" | .int _=>"int" | .str _=>"str" | .list _=>"list" | .tuple _=>"tuple" | .dict _=>"dict"
theorem Has.ty{K:W.Frag}{H:Hp}{d:PyData}{v:V}(h:Has H d v):TyOf K H v (.type (tyD d)):=by
 cases d with
 | none=>rw [zdd.mp h]; exact .non
 | bool b=>rw [zcP.mp h]; exact .bl b
 | int i=>rw [zcc.mp h]; exact .int i
 | str x=>rw [zdw.mp h]; exact .str x
 | list ds=>obtain⟨a,vs,rfl,e,_⟩:=zbk.mp h; exact .lst e
 | tuple ds=>obtain⟨a,vs,rfl,e,_⟩:=zay.mp h; exact .tup e
 | dict kvs =>
  obtain⟨a,vs,rfl,e,_⟩:=zgh.mp h;rcases e with ⟨ob,m,e,_⟩ | ⟨ob,p,m,e,_⟩
  ·exact .dK (.inr ⟨ob,e⟩)
  ·exact .dT (.inr ⟨ob,e⟩)
def zvI:List String:=["NoneType","bool","int","str","list","tuple","dict"]
def zpK:List String:=["int","bool","str","list","tuple","dict"]
def znd(t c:String):Bool:=t == c || (t == "bool" && c == "int")
def zrz(d:PyData)(c:String):Bool:=znd (tyD d) c
theorem zss(d:PyData):tyD d∈zvI:=by cases d <;> simp [tyD,zvI]
theorem zts(K:W.Frag){t c:String}(ht:t∈zvI)(hc:c∈zpK):W.kitOne K (.type t) (.type c)=some (znd t c):=by
 simp only [zvI,zpK,mem_cons,not_mem_nil,or_false] at ht hc;rcases ht with rfl | rfl | rfl | rfl | rfl | rfl | rfl <;> rcases hc with rfl | rfl | rfl | rfl | rfl | rfl <;> rfl
def zvP:List V->Hp->VK->Prop
 | [x,.ty c],H,Q=>∃ d,Has H d x/\c∈zpK/\Q (.bl (zrz d c)) H
 | _,_,_=>False
theorem zsK{H:Hp}{d:PyData}{x:V}{c:String}{Q:VK}(h:Has H d x)(hc:c∈zpK)(q:Q (.bl (zrz d c)) H):zvP [x,.ty c] H Q:=⟨d,h,hc,q⟩
section
variable {X:Cx}
theorem za1:CallR X (.builtin "isinstance") zvP:=by
 intro zn s σ H xs us Q I r h
 match xs,h with
 | [x,.ty c],h =>
  obtain⟨d,hx,hc,q⟩:=h;obtain⟨u,w',rfl,ru,rw'⟩:=vals2 r;cases (show w'=Value.type c from rw');exact zov I ru hx.ty (zts X.K (zss d) hc) fun tk=>⟨.bl _,H,I.tok tk,rfl,q⟩
end
def sp1(p:V->Hp->VK->Prop):Sp:=fun vs H Q _=>match vs with | [x]=>p x H Q | _=>False
def sp2(p:V->V->Hp->VK->Prop):Sp:=fun vs H Q _=>match vs with | [x,y]=>p x y H Q | _=>False
theorem znh{p:V->Hp->VK->Prop}:∀ (vs:List V) (H:Hp) (Q:VK) (E:XK),sp1 p vs H Q E->∃ x,vs=[x]/\p x H Q:=by
 intro vs H Q E h
 match vs,h with
 | [x],h=>exact⟨x,rfl,h⟩
theorem zpw{p:V->V->Hp->VK->Prop}:∀ (vs:List V) (H:Hp) (Q:VK) (E:XK),sp2 p vs H Q E->∃ x y,vs=[x,y]/\p x y H Q:=by
 intro vs H Q E h
 match vs,h with
 | [x,y],h=>exact⟨x,y,rfl,h⟩
structure Dd(K:W.Frag)(mg:Str->Option Value)(x:Str)(st:Stmt)(ps:List Str):Prop where
 ex:∃ f fd,Fun K x x st f fd/\mg x=some (.ref f)/\Binds K fd ps []
structure Df(P:Program)(w:World)(K:W.Frag)(mg:Str->Option Value)(base:Heap)(x:Str)(ps:List Str)(k:Nat)(sp:Sp):Prop where
 ex:∃ f fd,FnOk P w K mg base CX0 k f fd ps sp/\mg x=some (.ref f)/\W.keepIn K (.ref f)=true/\Binds K fd ps []
section
variable {P:Program} {w:World} {K:W.Frag} {mg:Str->Option Value} {base:Heap} {x a b c d e:Str} {st:Stmt} {N:List Str} {k:Nat}
theorem Df.of{ps:List Str}{sp:Sp}(D:Dd K mg x st ps)(S:FnScope N ps (zi st))(len:∀ vs H Q E,sp vs H Q E->vs.length=ps.length)
  (hbody:∀ (f:Addr) (cdv:Value) (A:Around) (outer:List Env) (s:Shared) (H:Hp) (vs:List V) (Q:VK) (E:XK),Room k (A.deeper (envOfC x (zi st) s.heap.objs.size f cdv))->sp vs H Q E ->
   ∃ t,PSs (zk2 CX0 P w K mg base N x (zi st) f cdv A outer s H E).nox (zbL st) t/\t { nx:=fun _ H'=>Q .non H',rt:=Q } (start N vs) H):Df P w K mg base x ps (k+1) sp:=by
 obtain⟨f,fd,F,hm,hb⟩:=D.ex;exact⟨f,fd,F.ok S len (hbody f),hm,F.kp,hb⟩
theorem Df.of2{p:V->V->Hp->VK->Prop}(D:Dd K mg x st [a,b])(S:FnScope N [a,b] (zi st))(σ0:V->V->St)(hs:∀ v u,start N [v,u]=σ0 v u)
  (hbody:∀ (f:Addr) (cdv:Value) (A:Around) (outer:List Env) (s:Shared) (H:Hp) (v u:V) (Q:VK) (E:XK),Room k (A.deeper (envOfC x (zi st) s.heap.objs.size f cdv))->p v u H Q ->
   ∃ t,PSs (zk2 CX0 P w K mg base N x (zi st) f cdv A outer s H E).nox (zbL st) t/\t { nx:=fun _ H'=>Q .non H',rt:=Q } (σ0 v u) H):Df P w K mg base x [a,b] (k+1) (sp2 p):=by
 refine Df.of D S (fun vs H Q E h=>?_) fun f cdv A outer s H vs Q E hr h=>?_
 ·obtain⟨x,y,rfl,_⟩:=zpw vs H Q E h;rfl
 ·obtain⟨x,y,rfl,h⟩:=zpw vs H Q E h;rw [hs];exact hbody f cdv A outer s H x y Q E hr h
end
def tC2(p:V->V->Hp->VK->Prop)(ta tb:TE):TE:=fun σ H Q=>ta σ H fun x H1=>tb σ H1 fun y H2=>p x y H2 Q
section
variable {X:Cx} {x a b c d e':Str} {k j:Nat} {pos pos':Pos} {e1 e2 e3 e4 e5:Expr} {t1 t2 t3 t4 t5:TE}
theorem ztN{p:V->V->Hp->VK->Prop}(D:Df X.prog X.w X.K X.mg X.base x [a,b] k (sp2 p))(hr:Room j X.A)(hk:k<=j)(h1:PE X e1 t1)(h2:PE X e2 t2)(hg:Gl X x:=by rfl)(hdb:(x == ("__debug__":Str))=false:=by decide)
  (q1:starEach [e1,e2] X.env=(false,eval e1 X.env) :: starEach [e2] X.env:=by rfl) (q2:starEach [e2] X.env=(false,eval e2 X.env) :: starEach [] X.env:=by rfl)
  (hpl:(backTo pos (starEach [e2] X.env)).any (·.1)=false:=by rfl):PE X (.Call (.Name x pos') [e1,e2] [] pos) (tC2 p t1 t2):=by
 obtain⟨f,fd,F,hm,kp,hb⟩:=D.ex;intro zn s σ H Q I h;exact zoI (dvs:=[]) (ds:=[]) (E:=E0) F (hr.mono hk) hg hm kp hb .nil pass0 (za h1 (za h2 zd q2) q1) hdb q1 hpl zn s σ H Q I h
end
theorem Dd.mk'{K:W.Frag}{h:Heap}{mg:Str->Option Value}(X:K.In h)(G:h.Ns mainGlobals mg){x:Str}{st:Stmt}{ps:List Str}{f:Addr}{oc:Value}{od an:Option Addr}{osl:Array (Option Value)}{kV doc pm cdv ct:Value}
  (a:W.nsIn K mainGlobals x=some (some (.ref f))) (l:K.lookup f=some ⟨oc,od,.func (W.fnOf x x (zex st) (zbL st) (zi st) .none kV doc pm an cdv ct),osl⟩)
  (c:W.codeIn K cdv x=true) (k:W.keepIn K (.ref f)=true)
  (hb:∀ (kV doc pm:Value) (an:Option Addr) (cdv ct:Value) (us:List Value),us.length=ps.length->bindArgs (W.fnOf x x (zex st) (zbL st) (zi st) .none kV doc pm an cdv ct) ⟨us,[]⟩=pure (ps.zip us)):Dd K mg x st ps :=
 ⟨f,_,zra (st:=st) l c k,W.mg_of X G a,(zra (st:=st) l c k).binds hb⟩
theorem zal:bootBuiltins "len" = some (.builtin "len"):=by decide +kernel
theorem zR:bootBuiltins "isinstance" = some (.builtin "isinstance"):=by decide +kernel
theorem zjm:bootBuiltins "max" = some (.builtin "max"):=by decide +kernel
theorem zkp:bootBuiltins "min" = some (.builtin "min"):=by decide +kernel
theorem zop:bootBuiltins "sorted" = some (.builtin "sorted"):=by decide +kernel
theorem zos:bootBuiltins "int" = some (.type "int"):=by decide +kernel
theorem znq:bootBuiltins "bool" = some (.type "bool"):=by decide +kernel
theorem zvw:bootBuiltins "str" = some (.type "str"):=by decide +kernel
theorem zfA:bootBuiltins "list" = some (.type "list"):=by decide +kernel
theorem zaf:bootBuiltins "tuple" = some (.type "tuple"):=by decide +kernel
section
variable {H:Hp} {Q:VK}
theorem zqQ{i:Nat}{σ:St}:zn3 i σ H Q↔match σ[i]? with | some (some v)=>Q v H | _=>False:=by
 unfold zn3;constructor
 ·rintro⟨v,e,q⟩;rw [e];exact q
 ·intro h;split at h
  ·rename_i v e;exact⟨v,e,h⟩
  ·exact h.elim
theorem zny{g:Int->Int->V}{i j:Int}:rI0 g (.int i) (.int j) H Q↔Q (g i j) H :=
 ⟨fun⟨_,_,e1,e2,q⟩=>by cases e1; cases e2; exact q,fun q=>⟨i,j,rfl,rfl,q⟩⟩
theorem zv1{p:Bool->Prop}{b:Bool}:(∃ c,V.bl b=V.bl c/\p c)↔p b:=⟨fun⟨_,e,q⟩=>by cases e; exact q,fun q=>⟨b,rfl,q⟩⟩
end
section
variable {K:W.Frag} {H:Hp} {Q:VK} {x y:V} {d:PyData} {ds:List PyData}
def zvO(K:W.Frag):List V->Hp->VK->Prop:=fun xs H Q=>∃ p ys,xs=[.ref p]/\(SqL K H p ys\/SqT K H p ys)/\Q (.int ys.length) H
end
section
variable {X:Cx}
theorem znD:CallR X (.builtin "len") (zvO X.K):=zfO
end
def hid(a:Addr)(H:Hp):Hp:=fun b=>if b=a then none else H b
theorem ztK{a b:Addr}{H:Hp}(h:b≠a):hid a H b=H b:=if_neg h
theorem zqL{a:Addr}{H:Hp}:hid a H a=none:=if_pos rfl
theorem Same.laid{H:Hp}{p:Addr}{o:HO}(h:H p=none):Same H (upd H p o):=fun b u e=>by
 rw [zS (zY e h)];exact e
end
section
theorem zo1(d:PyData):zrz d "int" = match d with | .int _=>true | .bool _=>true | _=>false:=by cases d <;> first | rfl | (show znd _ _=_; simp [znd,tyD])
theorem zlo(d:PyData):zrz d "bool" = match d with | .bool _=>true | _=>false:=by cases d <;> first | rfl | (show znd _ _=_; simp [znd,tyD])
theorem zkj(d:PyData):zrz d "tuple" = match d with | .tuple _=>true | _=>false:=by cases d <;> first | rfl | (show znd _ _=_; simp [znd,tyD])
theorem zlZ(d:PyData):zrz d "list" = match d with | .list _=>true | _=>false:=by cases d <;> first | rfl | (show znd _ _=_; simp [znd,tyD])
theorem znO(d:PyData):zrz d "str" = match d with | .str _=>true | _=>false:=by cases d <;> first | rfl | (show znd _ _=_; simp [znd,tyD])
def vw:List Addr->Hp->Hp
 | [],H=>H
 | a :: r,H=>hid a (vw r H)
def zsX(K:W.Frag):V->V->Hp->VK->Prop:=fun x y H Q=>∃ (a:Addr) (ns:List Int) (i:Int),x=.ref a/\y=.int i/\SqL K H a (ns.map V.int)/\0<=i/\∀ n,Q (.int n) H
theorem zsT{ns:List Int}{i:Int}(h0:0<=i)(h1:i<((ns.map V.int).length:Int)):∃ n,atI (ns.map V.int) i=some (.int n):=by
 obtain⟨k,rfl⟩:=Int.eq_ofNat_of_zero_le h0;have hk:k<ns.length:=by rw [length_map] at h1; omega
 exact⟨ns[k],zdo (by rw [getElem?_map,getElem?_eq_getElem hk]; rfl)⟩
theorem zqV{ns:List Int}{lo hi:Option Int}{x:V}(h:x∈zlS (ns.map V.int) lo hi):∃ n,x=.int n:=by
 have h1:=mem_of_mem_drop (mem_of_mem_take h);obtain⟨n,_,e⟩:=mem_map.mp h1;exact⟨n,e.symm⟩
theorem Fun.bind1{K:W.Frag}{x a:Str}{st:Stmt}{f:Addr}{fd:FuncData}(F:Fun K x x st f fd)
  (h:∀ (kV doc pm:Value) (an:Option Addr) (cdv ct:Value) (u:Value),bindArgs (W.fnOf x x (zex st) (zbL st) (zi st) .none kV doc pm an cdv ct) ⟨[u],[]⟩=pure [(a,u)]):∀ (s:Shared) (u:Value),BindsTo s fd ⟨[u],[]⟩ [(a,u)]:=by
 obtain⟨oc,od,kV,doc,pm,an,cdv,ct,osl,rfl,lk,hcd⟩:=F.ex;exact fun s u=>.of_eq (h kV doc pm an cdv ct u)
def zvT(K:W.Frag):V->Hp->VK->Prop:=fun x H Q=>∃ (a:Addr) (ns:List Int),x=.ref a/\SqL K H a (ns.map V.int)/\ns.length<=63/\∀ H',Q (.bl true) H'
theorem walk_law{l:W.OpenLaw}{k:Nat}{q:Program}{loose:List Str}{XP:(Str->Option Value)->Heap->Prop}{YP:World->Heap->Prop}{d:DefRec}{K:Params->W.Frag}(hn:l.most=some 63)(hdf:d.params.defaults=[])
  (hr:Room k callerA) (hY:∀ (w:World) (h:Heap),YP w h->(K w.params).In h) (hT:∀ (w:World) (h:Heap),YP w h->TabsOk (K w.params) h)
  (F:∀ (w:World) (mg:Str->Option Value) (fa:Addr) (h:Heap),(K w.params).In h->h.Ns mainGlobals mg->mg d.name=some (.ref fa) ->
   ∃ fd:FuncData,(∀ (s:Shared) (u:Value),BindsTo s fd ⟨[u],[]⟩ [("script",u)])/\∀ base:Heap,(K w.params).In base->base.Ns mainGlobals mg->FnOk l.prog w (K w.params) mg base CX0 k fa fd ["script"] (sp1 (zvT (K w.params)))) :
  W.WalkO q loose XP YP l.row.toRowW d [] (fun f vs=>PySem.call f vs) :=
 L2.walk_of (n:=63) (k:=k) (x:="script") (CX:=fun _=>CX0) (sp:=fun w=>sp1 (zvT (K w.params))) hn dz hdf hr hY hT F (fun _ _ a ns hl _ hS=>⟨a,ns,rfl,hS,hl,fun _=>rfl⟩) fun _ _ _ _ _ z=>z
theorem Fun.ok1{P:Program}{w:World}{K:W.Frag}{mg:Str->Option Value}{base:Heap}{x a:Str}{st:Stmt}{f:Addr}{fd:FuncData}{N:List Str}{k:Nat}{p:V->Hp->VK->Prop}(F:Fun K x x st f fd)(S:FnScope N [a] (zi st))(σ0:V->St)(hs:∀ v,start N [v]=σ0 v)
  (hbody:∀ (cdv:Value) (A:Around) (outer:List Env) (s:Shared) (H:Hp) (v:V) (Q:VK) (E:XK),Room k (A.deeper (envOfC x (zi st) s.heap.objs.size f cdv))->p v H Q ->
   ∃ t,PSs (zk2 CX0 P w K mg base N x (zi st) f cdv A outer s H E).nox (zbL st) t/\t { nx:=fun _ H'=>Q .non H',rt:=Q } (σ0 v) H):FnOk P w K mg base CX0 (k+1) f fd [a] (sp1 p):=by
 refine F.ok S (fun vs H Q E h=>?_) fun cdv A outer s H vs Q E hr h=>?_
 ·obtain⟨x,rfl,_⟩:=znh vs H Q E h;rfl
 ·obtain⟨x,rfl,h⟩:=znh vs H Q E h;rw [hs];exact hbody cdv A outer s H x Q E hr h
end
section
mutual
theorem Has.reads{X:Cx}{zn:List (Addr×Obj)}{σ:St}{H:Hp}{s:Shared}(I:Inv X zn σ H s):∀ (d:PyData) (v:V) (u:Value),Has H d v->d.canLay0=true->RelV v u->∃ as,Reads s.heap u d as
 | .none,v,u,h,_,r=>by
  rw [zdd.mp h] at r;cases (show u=Value.none from r);exact⟨_,.none⟩
 | .bool b,v,u,h,_,r=>by
  rw [zcP.mp h] at r;cases (show u=Value.bool b from r);exact⟨_,.bool b⟩
 | .int i,v,u,h,_,r=>by
  rw [zcc.mp h] at r;obtain⟨t,q⟩:=(show ∃ t,u=Value.int i t from r);cases q;exact⟨_,.int i t⟩
 | .str x,v,u,h,_,r=>by
  rw [zdw.mp h] at r;obtain⟨t,q⟩:=(show ∃ t,u=Value.str x t from r);cases q;exact⟨_,.str x t⟩
 | .list ds,v,u,h,c,r=>by
  obtain⟨a,vs,rfl,e,l⟩:=zbk.mp h;cases (show u=Value.ref a from r);obtain⟨_,its,n,rv,e1⟩:=(show ObjOk X.prog X.w H s.heap a (.lst vs) from I.hok a _ e);obtain⟨as,q⟩:=HasL.reads I ds vs its l (by simpa only [PyData.canLay0] using c) rv;exact⟨_,.list e1 rfl rfl (by simpa using q)⟩
 | .tuple ds,v,u,h,c,r=>by
  obtain⟨a,vs,rfl,e,l⟩:=zay.mp h;cases (show u=Value.ref a from r);obtain⟨_,its,rv,o,e1,e2,n,e3⟩:=(show ObjOk X.prog X.w H s.heap a (.tup vs) from I.hok a _ e);obtain⟨as,q⟩:=HasL.reads I ds vs its l (by simpa only [PyData.canLay0] using c) rv;exact⟨_,.tuple e1 e2 e3 (by simpa using q)⟩
 | .dict _,_,_,_,c,_=>by simp [PyData.canLay0] at c
theorem HasL.reads{X:Cx}{zn:List (Addr×Obj)}{σ:St}{H:Hp}{s:Shared}(I:Inv X zn σ H s):∀ (ds:List PyData) (vs:List V) (us:List Value),HasL H ds vs->PyData.canLayAll0 ds=true->Vals vs us->∃ as,ReadsAll s.heap us ds as
 | [],vs,us,h,_,r=>by
  rw [zM.mp h] at r;cases r;exact⟨_,.nil⟩
 | d :: ds,vs,us,h,c,r=>by
  obtain⟨v,w',rfl,h1,h2⟩:=zD.mp h;have c':d.canLay0=true/\PyData.canLayAll0 ds=true:=by simpa [PyData.canLayAll0] using c
  cases r with
  | cons r1 r2 =>
   obtain⟨as,q1⟩:=Has.reads I d v _ h1 c'.1 r1;obtain⟨bs,q2⟩:=HasL.reads I ds w' _ h2 c'.2 r2;exact⟨_,.cons q1 q2⟩
end
def zwu:R2:=fun x y H Q=>∃ d e,Has H d x/\Has H e y/\SeqAt.shaped d=true/\SeqAt.shaped e=true/\Q (.bl (PyData.eqv d e)) H
def zwG:R2:=fun x y H Q=>∃ d e,Has H d x/\Has H e y/\SeqAt.shaped d=true/\SeqAt.shaped e=true/\Q (.bl (!PyData.eqv d e)) H
section
variable {X:Cx}
theorem zbF(hu:X.A.units+64<cLine):OpR X (compareOp .Eq) zwu:=by
 intro zn s σ H x y v u Q I rx ry h;obtain⟨d,e,hd,he,sd,se,q⟩:=h;obtain⟨as,q1⟩:=Has.reads I d x v hd (SeqAt.canLay_of_shaped sd) rx;obtain⟨bs,q2⟩:=Has.reads I e y u he (SeqAt.canLay_of_shaped se) ry;exact eq_dataH q1 q2 sd se hu ⟨.bl _,H,I,rfl,q⟩
theorem zem(hu:X.A.units+64<cLine):OpR X (compareOp .NotEq) zwG:=by
 intro zn s σ H x y v u Q I rx ry h;obtain⟨d,e,hd,he,sd,se,q⟩:=h;obtain⟨as,q1⟩:=Has.reads I d x v hd (SeqAt.canLay_of_shaped sd) rx;obtain⟨bs,q2⟩:=Has.reads I e y u he (SeqAt.canLay_of_shaped se) ry;exact ne_dataH q1 q2 sd se hu ⟨.bl _,H,I,rfl,q⟩
end
section
variable {prog:Program} {w:World} {A:Around} {E:Value->Shared->Prop} {s:Shared} {l:Addr}
theorem zmy{xs:Array (Int×Tok)}{Q:Value->Shared->Prop}(hh:A.handled=none)(hl:s.heap.IsTuple l (intItems xs))(hne:0<xs.size)
  (h:∀ v h' tk,(intItems xs)[argBest (fun i j=>decide (numAt xs i<numAt xs j)) (xs.size - 1)]? = some v->(∀ b o,s.heap.get? b=some o->h'.get? b=some o)->Q v { s with heap:=h',toks:=tk }) :
  wpAny (model prog w) A (call (.builtin "min") [.ref l]) Q E s:=by
 have hlt:l<s.heap.objs.size:=by obtain⟨o,e,_⟩:=hl; exact lt_size e
 refine call_min_walk (wpAny_pyIter_tuple hl ?_);refine⟨_,[_,l],[_],_,_,_,_,rfl,Walks.tuple (A:=A.in1) hh _ l (ne_of_lt hlt) (intItems xs),⟨⟨_,get?_push_size _ rfl,rfl,rfl⟩,hl.push _⟩,fun c hc=>?_,by simpa [intItems] using hne,CmpOf.ints_lt (numAt xs) (fun _ _=>intItems_at),fun v h' tk hP hk=>?_⟩
 ·show c<(s.heap.push _).objs.size;rw [size_push];rcases mem_cons.mp hc with rfl | hc
  ·exact Nat.lt_succ_self _
  ·rcases mem_cons.mp hc with rfl | hc
   ·exact lt_succ_of_lt hlt
   ·cases hc
 ·refine h v h' tk (by simpa [intItems] using hP) fun b o e=>hk b o (fun hm=>?_) (get?_push_of_some _ e);rcases mem_cons.mp hm with e1 | hm
  ·exact absurd (e1▸lt_size e) (lt_irrefl _)
  ·cases hm
theorem zmp{xs:Array (Int×Tok)}{Q:Value->Shared->Prop}(hh:A.handled=none)(hl:s.heap.IsTuple l (intItems xs))(hne:0<xs.size)
  (h:∀ v h' tk,(intItems xs)[argBest (fun i j=>decide (numAt xs i>numAt xs j)) (xs.size - 1)]? = some v->(∀ b o,s.heap.get? b=some o->h'.get? b=some o)->Q v { s with heap:=h',toks:=tk }) :
  wpAny (model prog w) A (call (.builtin "max") [.ref l]) Q E s:=by
 have hlt:l<s.heap.objs.size:=by obtain⟨o,e,_⟩:=hl; exact lt_size e
 refine call_max_walk (wpAny_pyIter_tuple hl ?_);refine⟨_,[_,l],[_],_,_,_,_,rfl,Walks.tuple (A:=A.in1) hh _ l (ne_of_lt hlt) (intItems xs),⟨⟨_,get?_push_size _ rfl,rfl,rfl⟩,hl.push _⟩,fun c hc=>?_,by simpa [intItems] using hne,CmpOf.ints_gt (numAt xs) (fun _ _=>intItems_at),fun v h' tk hP hk=>?_⟩
 ·show c<(s.heap.push _).objs.size;rw [size_push];rcases mem_cons.mp hc with rfl | hc
  ·exact Nat.lt_succ_self _
  ·rcases mem_cons.mp hc with rfl | hc
   ·exact lt_succ_of_lt hlt
   ·cases hc
 ·refine h v h' tk (by simpa [intItems] using hP) fun b o e=>hk b o (fun hm=>?_) (get?_push_of_some _ e);rcases mem_cons.mp hm with e1 | hm
  ·exact absurd (e1▸lt_size e) (lt_irrefl _)
  ·cases hm
theorem zgB{vs:List Value}{ns:List Int}(hi:IntsAre vs ns):∃ xs:Array (Int×Tok),vs.toArray=intItems xs/\ns=xs.toList.map (·.1):=by
 obtain⟨xs,e⟩:=hi.allInts.items;exact⟨xs,e,by rw [<- hi.numsOf,<- nums_intItems,<- e]⟩
end
def zv0(K:W.Frag):List V->Hp->VK->Prop:=fun xs H Q=>∃ p ns,xs=[.ref p]/\(SqL K H p (ns.map V.int)\/SqT K H p (ns.map V.int))/\ns≠[]/\∀ m,m∈ns->(∀ a,a∈ns->m<=a)->Q (.int m) H
def zwE(K:W.Frag):List V->Hp->VK->Prop:=fun xs H Q=>∃ p ns,xs=[.ref p]/\(SqL K H p (ns.map V.int)\/SqT K H p (ns.map V.int))/\ns≠[]/\∀ m,m∈ns->(∀ a,a∈ns->a<=m)->Q (.int m) H
section
variable {X:Cx}
theorem znf(hc:X.calm=true):CallR X (.builtin "min") (zv0 X.K):=by
 intro zn s σ H xs us Q I r h;obtain⟨p,ns,rfl,hq,hne,q⟩:=h;obtain⟨u,rfl,rx⟩:=vals1 r;cases (show u=Value.ref p from rx);have done:∀ (ys:Array (Int×Tok)) (v:Value) (h':Heap) (tk:Nat),ns=ys.toList.map (·.1)->0<ys.size->(intItems ys)[argBest (fun i j=>decide (numAt ys i<numAt ys j)) (ys.size - 1)]? = some v ->
   (∀ b o,s.heap.get? b=some o->h'.get? b=some o)->EP X zn σ Q v { s with heap:=h',toks:=tk }:=by
  intro ys v h' tk hns hsz hv hk;obtain⟨t,rfl⟩:=intItems_at hv;obtain⟨h1,h2⟩:=argBest_lt (numAt ys) (ys.size - 1);refine⟨.int _,H,I.kept (t':=tk) hk,⟨t,rfl⟩,q _ ?_ fun a ha=>?_⟩
  ·rw [hns,numAt_eq]; exact getD_mem (by rw [length_map,length_toList]; omega)
  ·rw [hns] at ha;obtain⟨j,hj,rfl⟩:=mem_getD ha;rw [length_map,length_toList] at hj;rw [<- numAt_eq]; exact h2 j (by omega)
 rcases hq with hq | hq
 ·obtain⟨its,rv,pl,_⟩:=I.list hq;obtain⟨ys,e,hns⟩:=zgB (za7 rv);have hsz:0<ys.size:=by
   cases ys with
   | mk l=>cases l with
    | nil=>exact absurd hns hne
    | cons _ _=>exact Nat.succ_pos _
  exact min_intList (I.ok.hd hc) (by rw [<- e]; exact pl.isList) hsz fun v h' tk hv hk=>done ys v h' tk hns hsz hv hk
 ·obtain⟨its,rv,pl,_⟩:=I.tuple hq;obtain⟨ys,e,hns⟩:=zgB (za7 rv);have hsz:0<ys.size:=by
   cases ys with
   | mk l=>cases l with
    | nil=>exact absurd hns hne
    | cons _ _=>exact Nat.succ_pos _
  exact zmy (I.ok.hd hc) (by rw [<- e]; exact pl) hsz fun v h' tk hv hk=>done ys v h' tk hns hsz hv hk
theorem zjT(hc:X.calm=true):CallR X (.builtin "max") (zwE X.K):=by
 intro zn s σ H xs us Q I r h;obtain⟨p,ns,rfl,hq,hne,q⟩:=h;obtain⟨u,rfl,rx⟩:=vals1 r;cases (show u=Value.ref p from rx);have done:∀ (ys:Array (Int×Tok)) (v:Value) (h':Heap) (tk:Nat),ns=ys.toList.map (·.1)->0<ys.size->(intItems ys)[argBest (fun i j=>decide (numAt ys i>numAt ys j)) (ys.size - 1)]? = some v ->
   (∀ b o,s.heap.get? b=some o->h'.get? b=some o)->EP X zn σ Q v { s with heap:=h',toks:=tk }:=by
  intro ys v h' tk hns hsz hv hk;obtain⟨t,rfl⟩:=intItems_at hv;obtain⟨h1,h2⟩:=argBest_gt (numAt ys) (ys.size - 1);refine⟨.int _,H,I.kept (t':=tk) hk,⟨t,rfl⟩,q _ ?_ fun a ha=>?_⟩
  ·rw [hns,numAt_eq]; exact getD_mem (by rw [length_map,length_toList]; omega)
  ·rw [hns] at ha;obtain⟨j,hj,rfl⟩:=mem_getD ha;rw [length_map,length_toList] at hj;rw [<- numAt_eq]; exact h2 j (by omega)
 rcases hq with hq | hq
 ·obtain⟨its,rv,pl,_⟩:=I.list hq;obtain⟨ys,e,hns⟩:=zgB (za7 rv);have hsz:0<ys.size:=by
   cases ys with
   | mk l=>cases l with
    | nil=>exact absurd hns hne
    | cons _ _=>exact Nat.succ_pos _
  exact max_intList (I.ok.hd hc) (by rw [<- e]; exact pl.isList) hsz fun v h' tk hv hk=>done ys v h' tk hns hsz hv hk
 ·obtain⟨its,rv,pl,_⟩:=I.tuple hq;obtain⟨ys,e,hns⟩:=zgB (za7 rv);have hsz:0<ys.size:=by
   cases ys with
   | mk l=>cases l with
    | nil=>exact absurd hns hne
    | cons _ _=>exact Nat.succ_pos _
  exact zmp (I.ok.hd hc) (by rw [<- e]; exact pl) hsz fun v h' tk hv hk=>done ys v h' tk hns hsz hv hk
end
section
variable {K:W.Frag} {o:List Addr} {σ:St} {H0:Hp} {t t1 t2 t3 t4 t5:TE} {ta:TA} {tt tu:TT} {d d1 d2 d3 d4 d5:PyData} {ds:List PyData} {b c:Bool}
def ziE:PyData->Bool
 | .none=>true
 | _=>false
theorem zeO{H:Hp}{v:V}(h:Has H d v):decide (v=.non)=ziE d:=by
 cases d with
 | none=>rw [zdd.mp h]; rfl
 | bool _=>rw [zcP.mp h]; rfl
 | int _=>rw [zcc.mp h]; rfl
 | str _=>rw [zdw.mp h]; rfl
 | list _=>obtain⟨a,vs,rfl,_⟩:=zbk.mp h; rfl
 | tuple _=>obtain⟨a,vs,rfl,_⟩:=zay.mp h; rfl
 | dict _=>obtain⟨a,vs,rfl,_⟩:=zgh.mp h; rfl
def zwk:R2:=fun x y H Q=>y=.non/\Q (.bl (decide (x=.non))) H
def zta:R2:=fun x y H Q=>y=.non/\Q (.bl (!decide (x=.non))) H
theorem zkI{X:Cx}:OpR X (compareOp .Is) zwk:=zus
theorem zgl{X:Cx}:OpR X (compareOp .IsNot) zta:=zsy
end
def spD(a b:Int):PyData:=.tuple [.int a,.int b]
end
section
theorem znP{K:W.Frag}{a:Addr}{ns:List Int}{N:Int}{j:Nat}{tb:TS}{D:Ends}{σ:St}{H:Hp}(P:St->Prop)(h0:σ[0]? = some (some (.ref a)))(hS:SqL K H a (ns.map V.int))(hlen:ns.length<=63)(hP:P σ)
  (turn:∀ (n:Int) (σ:St) (H1 H2:Hp),P σ->Same H H1->Same H1 H2->tb { D with nx:=fun σ' H'=>Same H1 H'/\P σ',ct:=fun σ' H'=>Same H1 H'/\P σ',bk:=D.nx } (σ.set j (some (.int n))) H2)
  (done:∀ (σ:St) (H1:Hp),P σ->Same H H1->D.nx σ H1) :
  zt9 (zs9 K (tOp ztw (ztx (zjJ (tC2 (zsX K) (zn3 0) (tC (.int 0))) zth)) (tSl (zuS K) (zn3 0) (zmW (tC (.int 1))) (zmW (tC (.int N)))))) (zkW j) tb D σ H:=by
 refine⟨_,h0,a,ns,0,rfl,rfl,hS,by decide,fun n0=>⟨by show 1<=sizeLine; decide,fun p hp=>?_⟩⟩;have s1:Same H (upd H p (.lst [.int n0])):=Same.laid hp;refine⟨_,h0,_,rfl,_,rfl,a,_,rfl,s1.seq hS,fun p2 hp2=>?_⟩;have s2:=s1.trans (Same.laid (o:=.lst (zlS (ns.map V.int) (some 1) (some N))) hp2);have np:p≠p2:=zY zaA hp2;have hz:(zlS (ns.map V.int) (some 1) (some N)).length<=63:=le_trans (zeD _ _ _) (by rw [length_map]; exact hlen);refine⟨p,p2,_,_,rfl,rfl,by rw [zS np,zaA],zaA,le_of_lt (small1000 (by simp only [length_cons,length_nil]; omega)),fun p3 hp3=>?_⟩;have s3:=s2.trans (Same.laid (o:=.lst ([V.int n0]++zlS (ns.map V.int) (some 1) (some N))) hp3);refine⟨p3,rfl,⟨_,.of zaA⟩,zpQ (K:=K) (a:=p3) (xs:=[V.int n0]++zlS (ns.map V.int) (some 1) (some N)) (fun i σ' H'=>Same _ H'/\P σ') ⟨Same.refl _,hP⟩ (fun i σ H4 _ ⟨s4,_⟩=>.of (s4 _ _ zaA)) ?_ ?_⟩
 ·rintro i x σ' H4 hi ⟨s4,p4⟩;obtain⟨n,rfl⟩:∃ n,x=.int n:=by
   rcases mem_append.mp (mem_of_getElem? hi) with m | m
   ·exact⟨n0,mem_singleton.mp m⟩
   ·exact zqV m
  exact turn n σ' _ H4 p4 s3 s4
 ·rintro σ' H4 ⟨s4,p4⟩;exact done σ' H4 p4 (s3.trans s4)
end
section
section
variable {prog:Program} {w:World} {A:Around} {E:Value->Shared->Prop} {R:Result->Shared->Prop} {s:Shared}
theorem zjG{elt target iter:Expr}{ifs:List Expr}{scope:Scope}{pos:Pos}{it acc:Value}{env:Env}(I:Nat->Shared->Prop)
  (turn:∀ n s,I n s->wpAny (model prog w) A (pyNext it) (fun r s₁=>match r with
   | none=>R (.ok .next) s₁
   | some v=>wpAny (model prog w) A (letOwnedTupleGo target it v) (fun _ s₀=>wpAny (model prog w) A (assign target env v) (fun _ s₂ =>
     wpAny (model prog w) A (forIn ifs true fun c r=>if r=true then do let ok <- isTrue c env (eval c env); pure (ForInStep.yield ok) else pure (ForInStep.yield r)) (fun ok s₃ =>
      if ok=true then wpAny (model prog w) A (eval elt env) (fun x s₄ =>
       wpAny (model prog w) A (call (.builtin "list.append") [acc,x]) (fun _ s₅=>∃ m,m<n/\I m s₅) (fun _ _=>False) s₄) (fun _ _=>False) s₃
      else ∃ m,m<n/\I m s₃) (fun _ _=>False) s₂) (fun _ _=>False) s₀) (fun _ _=>False) s₁) (fun _ _=>False) s)
  (n:Nat) (h:I n s) :
  codeAny (model prog w) A (.compLoop (.ListComp elt [⟨target,iter,ifs,0⟩] scope pos) 0 it acc env) R s:=by
 have up:∀ {α:Type} {t:Sem α} {Q:α->Shared->Prop} {E':Value->Shared->Prop} {s':Shared},wpAny (model prog w) A t Q (fun _ _=>False) s'->wpAny (model prog w) A t Q E' s':=fun h=>wpAny_mono h (fun _ _ q=>q) fun _ _ z=>z.elim;refine codeAny_loop rfl I (fun n s hI=>?_) n h;show wpAny _ A ((compTurn (.ListComp elt [⟨target,iter,ifs,0⟩] scope pos) 0 it acc env).onRaise (fun x=>do noteFrame x env; theTreesLotGoes x)) _ _ s;refine wpAny_noted ?_;rw [compTurn_list];refine wpAny_bind (wpAny_standAt (wpAny_bind (thn (up (turn n s hI)) fun r s₁ h₁=>?_)));cases r with
 | none=>exact wpAny_pure h₁
 | some v =>
  refine wpAny_bind (thn (up h₁) fun _ s₀ h₀=>?_);refine wpAny_bind (thn (up h₀) fun _ s₂ h₂=>wpAny_bind (thn (up h₂) fun ok s₃ h₃=>?_));cases ok with
  | false=>exact wpAny_pure ⟨rfl,h₃⟩
  | true =>
   exact wpAny_bind (wpAny_bind (thn (up h₃) fun x s₄ h₄=>wpAny_bind (thn (up h₄) fun _ s₅ h₅=>wpAny_pure (wpAny_pure ⟨rfl,h₅⟩))))
end
def zb7(X:Cx)(scope:Scope)(cl:List (Str×Addr))(C:Addr)(s₃:Shared)(H₃:Hp)(fp:List Addr)(N:List Str):Cx where
 prog:=X.prog
 w:=X.w
 K:=X.K
 mg:=X.mg
 base:=X.base
 A:=X.A
 N:=N
 s₀:=s₃
 H₀:=H₃
 env:=compEnvC scope cl C X.env
 outer:=X.stack
 stack:=X.stack
 ex:=fp
 fn:=fun _=>false
 calm:=X.calm
 pn:=[]
 xe:=fun _ _=>False
def PTs(X:Cx)(ifs:List Expr)(t:TT):Prop :=
 ∀ (zn:List (Addr×Obj)) (s:Shared) (σ:St) (H:Hp) (Q:Bool->Hp->Prop),Inv X zn σ H s->t σ H Q ->
  wpAny (model X.prog X.w) X.A (forIn ifs true fun c r=>if r=true then do let ok <- isTrue c X.env (eval c X.env); pure (ForInStep.yield ok) else pure (ForInStep.yield r)) (TP X zn σ Q) X.xe s
def zt6:TT:=fun _ H Q=>Q true H
theorem zV{X:Cx}:PTs X [] zt6:=fun _ _ _ H _ I h=>wpAny_tests_nil ⟨H,I,h⟩
theorem zpr{X:Cx}{c:Expr}{t:TT}(h:PT X c t):PTs X [c] t:=fun zn s σ H Q I hw=>wpAny_tests_one (h zn s σ H Q I hw)
def tau(caps:List (Option Nat))(σ:St):St:=caps.map fun o=>o.bind fun i=>(σ[i]?).join
def znm(caps:List (Option Nat))(wi:TI)(g:TG)(tt:TT)(te:TE):TE:=fun σ H Q=>wi σ H fun J H1=>∀ D,H1 D=none->∃ W:Nat->Nat->St->Hp->Prop,(∃ m,W 0 m (tau caps σ) (upd H1 D (.lst []))) /\
 ∀ i m τ H2,W i m τ H2->(J.stop i H2/\Q (.ref D) H2)\/(J.go i H2/\∀ x H3,J.yld i H2 x H3->g x τ H3 fun τ4 H4=>tt τ4 H4 fun b H5 =>
  if b=true then te τ4 H5 fun v H6=>∃ xs,H6 D=some (.lst xs)/\xs.length<sizeLine/\∃ m',m'<m/\W (i+1) m' τ4 (upd H6 D (.lst (xs++[v]))) else ∃ m',m'<m/\W (i+1) m' τ4 H5)
structure CompOk(X:Cx)(scope:Scope)(cl:List (Str×Addr))(N:List Str)(caps:List (Option Nat)):Prop where
 clos:closureFor scope X.env=pure cl
 sub:∀ x c,cl.lookup x=some c->X.env.cells.lookup x=some c
 kind:scope.kind=.function
 cell:∀ y∈scope.names,y.2≠.cell
 names:∀ y∈scope.names,y.2=.local->scope.names.lookup y.1=some .local
 has:∀ x,((relabel scope X.env).names.lookup x=some .cell\/(relabel scope X.env).names.lookup x=some .free)->∃ c,cl.lookup x=some c
 cap:∀ (j i:Nat) (x:Str),caps[j]? = some (some i)->N[j]? = some x->X.N[i]? = some x/\Vis X.env.scope x/\¬ X.env.kindOf x=some .local/\∃ c,cl.lookup x=some c/\((relabel scope X.env).names.lookup x=some .cell\/(relabel scope X.env).names.lookup x=some .free)
 len:caps.length=N.length
section
variable {X:Cx} {scope:Scope} {cl:List (Str×Addr)} {N:List Str} {caps:List (Option Nat)} {tg iter elt:Expr} {ifs:List Expr} {pos:Pos} {wi:TI} {g:TG} {tt:TT} {te:TE}
theorem zm5{zn:List (Addr×Obj)}{σ:St}{H:Hp}{s:Shared}{fp:List Addr}{h₁:Heap}{t':Nat}(c:CompOk X scope cl N caps)(I:Inv X zn σ H s)(f:∀ b∈fp,FpOk X zn H b)(fo:∀ b∈fp,∃ o,s.heap.get? b=some o)
  (hns:h₁.Ns s.heap.objs.size (fun _=>none)) (hk:∀ b o,s.heap.get? b=some o->h₁.get? b=some o) :
  Inv (zb7 X scope cl s.heap.objs.size s H fp N) [] (tau caps σ) H { s with heap:=h₁,toks:=t' }:=by
 have lt:∀ b∈fp,b<s.heap.objs.size:=fun b hb=>by obtain⟨o,e⟩:=fo b hb; exact lt_size e
 have cells:∀ x k,cl.lookup x=some k->∃ v,s.heap.IsCell k v:=fun x k e=>I.cell x k (c.sub x k e);refine⟨⟨I.ok.mod,c.kind,I.ok.glob,I.ok.blt,le_refl _,fun x y k h1 h2=>I.ok.inj x y k (c.sub x k h1) (c.sub y k h2),fun x hx=>c.has x hx,fun x k h _=>absurd (show false=true from h) dz,I.ok.hd,I.ok.frames,.inl rfl,
  fun b hb=>⟨ne_of_lt (lt b hb),fun x k e=>(f b hb).2.2.2.2.1 x k (c.sub x k e)⟩,I.bs,le_trans I.ok.bsz I.sz,fun b o e hb=>?_,fun b hb z=>?_,I.stack,I.stkFree⟩,
  rfl,I.bare,Un.kept hk,⟨_,hns,fun j x v h1 h2 h3=>?_⟩,fun x k e=>?_,I.hok.fresh (le_refl _),fun x k e=>I.freeC x k (c.sub x k e),fun p hp=>absurd (show p∈([]:List (Addr×Obj)) from hp) (by simp),I.hok.kept hk,?_⟩
 ·rcases(f b hb).2.2.2.1 with q | q
  ·exact I.ok.noex b o e q
  ·exact absurd (lt_of_lt_of_le (lt_size e) (le_trans I.ok.bsz q)) (lt_irrefl _)
 ·rcases mem_cons.mp (I.stkSub b z) with q | q
  ·exact(f b hb).2.1 q
  ·exact(f b hb).2.2.1 q
 ·have h2':(caps.map fun o=>o.bind fun i=>(σ[i]?).join)[j]? = some (some v):=h2;rw [getElem?_map] at h2';cases e:caps[j]? with
  | none=>rw [e] at h2'; cases h2'
  | some oi =>
   rw [e] at h2';have h2'':(oi.bind fun i=>(σ[i]?).join)=some v:=Option.some.inj h2';cases oi with
   | none=>cases h2''
   | some i =>
    have h4:(σ[i]?).join=some v:=h2'';have h5:σ[i]? = some (some v):=by
     cases q:σ[i]? with
     | none=>rw [q] at h4; cases h4
     | some w'=>rw [q] at h4; exact congrArg some h4
    obtain⟨k1,k2,k3,cc,k4,k5⟩:=c.cap j i x e h1;obtain⟨m,hn,hl⟩:=I.loc;obtain⟨u,r,l⟩:=hl i x v k1 h5 k2;refine⟨u,r,.inr ⟨k5,cc,k4,?_⟩⟩;rcases l with ⟨q,_⟩ | ⟨_,c',hc',hcell⟩
    ·exact(k3 q).elim
    ·rw [c.sub x cc k4] at hc';cases hc';exact hcell.keeps hk
 ·obtain⟨v,q⟩:=cells x k e;exact⟨v,q.keeps hk⟩
 ·show (caps.map _).length=N.length;rw [length_map];exact c.len
theorem zoc{zn:List (Addr×Obj)}{σ τ:St}{H H':Hp}{s s':Shared}{h':Heap}{fp:List Addr}(I:Inv X zn σ H s)(f:∀ b∈fp,FpOk X zn H b)(J:Inv (zb7 X scope cl s.heap.objs.size s H fp N) [] τ H' s')(hs:Heap.SameBut s.heap.objs.size s'.heap h'):
  Inv X zn σ H' { s' with heap:=h' }:=by
 have hC:H' s.heap.objs.size=none:=J.free;have keep:∀ b o,b≠s.heap.objs.size->s'.heap.get? b=some o->h'.get? b=some o:=fun b o nb e=>hs.extBut b o nb e;have u1:Un (frs X.stack) (s.heap.objs.size :: fp) H H' s.heap s'.heap:=Un.mono J.base (fun b hb=>hb) (fun b hb=>mem_cons_of_mem _ hb);have u2:Un (frs X.stack) (s.heap.objs.size :: fp) H' H' s'.heap h' :=
  ⟨fun b o e _ _ hx=>keep b o (fun z=>hx (by rw [z]; exact mem_cons_self)) e,fun b o e _ _ hx=>⟨o.slots,keep b o (fun z=>hx (by rw [z]; exact mem_cons_self)) e⟩,fun _ _ _ n _=>n,fun b o e hx=>⟨o,keep b o (fun z=>hx (by rw [z]; exact mem_cons_self)) e⟩,fun _ _ q=>q,fun _ _ _ q=>q,fun _ _ q=>q⟩
 have hok:HOk X.prog X.w H' h':=fun a o e=>(J.hok a o e).stay (fun b u hb q=>keep b u (fun z=>by
  rcases hb with hb | hb
  ·rw [<- hb,z,hC] at e; cases e
  ·rw [z,hC] at hb; cases hb) q) (fun b q=>q) fun b xs q=>q
 refine I.call' (s':={ s' with heap:=h' }) (ch:=s.heap.objs.size :: fp) J.os (u1.trans u2) hok J.bare fun b hb=>?_;rcases mem_cons.mp hb with rfl | hb
 ·refine⟨.inr I.sz,ne_of_gt I.lt,fun x k e z=>?_,fun p hp z=>?_⟩
  ·obtain⟨v,q⟩:=I.cell x k e;exact absurd q.lt (by rw [z]; exact lt_irrefl _)
  ·exact absurd (lt_size (I.pin p hp).1) (by rw [z]; exact lt_irrefl _)
 ·obtain⟨f0,f1,f2,f3,f4,f5⟩:=f b hb;exact⟨f3,f1,f4,f5⟩
theorem zh0{zn:List (Addr×Obj)}{σ:St}{H2:Hp}{s2:Shared}{it:Addr}{fp:List Addr}{tn:Nat->Heap->Prop}{J:It}{RR:Value->Addr->Result->Shared->Prop}{E:Value->Shared->Prop}(hc:X.calm=true)(c:CompOk X scope cl N caps)
  (I2:Inv X zn σ H2 s2) (T:Turn X.prog X.w X.K tg J fp it tn) (st2:tn 0 s2.heap) (f2:∀ b∈fp,FpOk X zn H2 b)
  (hg:∀ C s H fp,PG (zb7 X scope cl C s H fp N) tg g) (ht:∀ C s H fp,PTs (zb7 X scope cl C s H fp N) ifs tt) (he:∀ C s H fp,PE (zb7 X scope cl C s H fp N) elt te)
  (Q:VK) (hq:∀ D,H2 D=none->∃ W:Nat->Nat->St->Hp->Prop,(∃ m,W 0 m (tau caps σ) (upd H2 D (.lst []))) /\
   ∀ i m τ H2,W i m τ H2->(J.stop i H2/\Q (.ref D) H2)\/(J.go i H2/\∀ x H3,J.yld i H2 x H3->g x τ H3 fun τ4 H4=>tt τ4 H4 fun b H5 =>
    if b=true then te τ4 H5 fun v H6=>∃ xs,H6 D=some (.lst xs)/\xs.length<sizeLine/\∃ m',m'<m/\W (i+1) m' τ4 (upd H6 D (.lst (xs++[v]))) else ∃ m',m'<m/\W (i+1) m' τ4 H5))
  (hRR:∀ (D C:Addr) (H':Hp) (s':Shared) (m:Str->Option Value),s'.heap.Ns C m->FpOk X zn H' C->(∀ h',Heap.SameBut C s'.heap h'->Inv X zn σ H' { s' with heap:=h' })->Q (.ref D) H'->RR (.ref D) C (.ok .next) s') :
  wpAny (model X.prog X.w) X.A (newList []) (fun acc s₃=>wpAny (model X.prog X.w) X.A (newFunctionEnv scope X.env.globals cl [] X.env.qual none .none (some X.env)) (fun cenv s₄ =>
   codeAny (model X.prog X.w) X.A (.compStart (.ListComp elt [⟨tg,iter,ifs,0⟩] scope pos) 0 (.ref it) acc { cenv with scope:=relabel scope X.env }) (RR acc cenv.locals) s₄) E s₃) E s2:=by
 have hD:H2 s2.heap.objs.size=none:=I2.hok.fresh (le_refl _);obtain⟨W,⟨m0,w0⟩,turn⟩:=hq s2.heap.objs.size hD;have I3:Inv X zn σ (upd H2 s2.heap.objs.size (.lst [])) { s2 with heap:=s2.heap.push { cls:=.type "list",data:=.seq ([]:List Value).toArray } }:=I2.laid (t':=s2.toks) (fun b u e=>get?_push_of_some _ e) (le_refl _) ⟨zero_le _,[],0,.nil,get?_push_size _ rfl⟩;have fo:∀ b∈fp,∃ o,s2.heap.get? b=some o:=fun b hb=>by obtain⟨o,e,_⟩:=T.obj 0 _ st2 b hb; exact⟨o,e⟩
 have f3:∀ b∈fp,FpOk X zn (upd H2 s2.heap.objs.size (.lst [])) b:=fun b hb=>by
  obtain⟨o,e⟩:=fo b hb;refine⟨?_,(f2 b hb).2⟩;rw [zS (ne_of_lt (lt_size e))];exact(f2 b hb).1
 refine wpAny_newObj_type (wpAny_newFunctionEnv c.cell (by intro y hy; simp at hy) (fun h₁ hns₁ hsb₁=>?_) c.kind);have hk:∀ b o,(s2.heap.push { cls:=.type "list",data:=.seq ([]:List Value).toArray }).get? b=some o->h₁.get? b=some o:=fun b o e=>hsb₁.extBut b o (ne_of_lt (lt_size e)) (get?_push_of_some _ e);have st4:tn 0 h₁:=T.keep 0 _ _ st2 fun b _ o e=>hk b o (get?_push_of_some _ e);have I4:=zm5 (t':=s2.toks+([]:List (Str×Value)).length) c I3 f3 (fun b hb=>by obtain⟨o,e⟩:=fo b hb; exact⟨o,get?_push_of_some _ e⟩) hns₁ hk;have fpok:∀ {H':Hp},(∀ b∈fp,H' b=none)->∀ b∈fp,FpOk (zb7 X scope cl (s2.heap.push { cls:=.type "list",data:=.seq ([]:List Value).toArray }).objs.size { s2 with heap:=s2.heap.push { cls:=.type "list",data:=.seq ([]:List Value).toArray } } (upd H2 s2.heap.objs.size (.lst [])) fp N) [] H' b:=fun hn b hb =>
  ⟨hn b hb,(I4.ok.exf b hb).1,I4.ok.exfs b hb,.inl hb,(I4.ok.exf b hb).2,fun p hp=>absurd (show p∈([]:List (Addr×Obj)) from hp) (by simp)⟩
 have loop:codeAny (model X.prog X.w) X.A (.compLoop (.ListComp elt [⟨tg,iter,ifs,0⟩] scope pos) 0 (.ref it) (.ref s2.heap.objs.size) (compEnvC scope cl (s2.heap.push { cls:=.type "list",data:=.seq ([]:List Value).toArray }).objs.size X.env))
   (RR (.ref s2.heap.objs.size) (s2.heap.push { cls:=.type "list",data:=.seq ([]:List Value).toArray }).objs.size) { s2 with heap:=h₁,toks:=s2.toks+([]:List (Str×Value)).length }:=by
  refine zjG (fun n s'=>∃ i τ H',Inv (zb7 X scope cl (s2.heap.push { cls:=.type "list",data:=.seq ([]:List Value).toArray }).objs.size { s2 with heap:=s2.heap.push { cls:=.type "list",data:=.seq ([]:List Value).toArray } } (upd H2 s2.heap.objs.size (.lst [])) fp N) [] τ H' s'/\tn i s'.heap/\(∀ b∈fp,H' b=none)/\W i n τ H') ?_ m0 ⟨0,_,_,I4,st4,fun b hb=>(f3 b hb).1,w0⟩;rintro n s5 ⟨i,τ,H5,I5,st5,fr5,w5⟩;rcases turn i n τ H5 w5 with ⟨stop,qn⟩ | ⟨go,step⟩
  ·refine thn (T.done (zb7 X scope cl (s2.heap.push { cls:=.type "list",data:=.seq ([]:List Value).toArray }).objs.size { s2 with heap:=s2.heap.push { cls:=.type "list",data:=.seq ([]:List Value).toArray } } (upd H2 s2.heap.objs.size (.lst [])) fp N) rfl rfl rfl hc i [] s5 τ H5 (fun _ _=>False) I5 (fpok fr5) st5 stop) fun r s6 ⟨hr,I6⟩=>?_;subst hr;obtain⟨m,hn,_⟩:=id I6.loc;exact hRR _ _ H5 s6 m hn (I3.fpOk (le_refl _) I6.free) (fun h' hs=>zoc I3 f3 I6 hs) qn
  ·refine thn (T.item (zb7 X scope cl (s2.heap.push { cls:=.type "list",data:=.seq ([]:List Value).toArray }).objs.size { s2 with heap:=s2.heap.push { cls:=.type "list",data:=.seq ([]:List Value).toArray } } (upd H2 s2.heap.objs.size (.lst [])) fp N) rfl rfl rfl hc i [] s5 τ H5 (fun _ _=>False) I5 (fpok fr5) st5 go) fun r s6 ⟨u,hr,h6⟩=>?_;subst hr;refine thn h6 fun _ s7 ⟨x,H7,I7,r7,y7,st7,fr7⟩=>?_;have I7':=I7.pinned (fpok fr7) (T.obj _ _ st7);refine thn (hg _ _ _ _ _ s7 τ H7 x u _ I7' r7 (step x H7 y7)) fun _ s8 ⟨τ8,H8,I8,q8⟩=>?_;refine thn (ht _ _ _ _ _ s8 τ8 H8 _ I8 q8) fun ok s9 ⟨H9,I9,q9⟩=>?_;have again:∀ {H':Hp} {s':Shared} {m:Nat},Inv (zb7 X scope cl (s2.heap.push { cls:=.type "list",data:=.seq ([]:List Value).toArray }).objs.size { s2 with heap:=s2.heap.push { cls:=.type "list",data:=.seq ([]:List Value).toArray } } (upd H2 s2.heap.objs.size (.lst [])) fp N) ([]++zj2 fp s7.heap) τ8 H' s'->(m<n/\W (i+1) m τ8 H') ->
     ∃ m,m<n/\∃ i τ H',Inv (zb7 X scope cl (s2.heap.push { cls:=.type "list",data:=.seq ([]:List Value).toArray }).objs.size { s2 with heap:=s2.heap.push { cls:=.type "list",data:=.seq ([]:List Value).toArray } } (upd H2 s2.heap.objs.size (.lst [])) fp N) [] τ H' s'/\tn i s'.heap/\(∀ b∈fp,H' b=none)/\W i m τ H':=fun {H' s' m} I' q=>by
    refine⟨m,q.1,i+1,τ8,H',I'.unpinned,T.keep _ _ _ st7 fun b hb o e=>(I'.pin (b,o) (mem_append_right _ (mem_append_right _ (zej hb e)))).1,fun b hb=>?_,q.2⟩;obtain⟨o,e,d⟩:=T.obj _ _ st7 b hb;exact(I'.pin (b,o) (mem_append_right _ (mem_append_right _ (zej hb e)))).2.1
   cases ok with
   | false =>
    rw [if_neg Bool.false_ne_true] at q9 ⊢;obtain⟨m',hm,w9⟩:=q9;exact again I9 ⟨hm,w9⟩
   | true =>
    rw [if_pos rfl] at q9 ⊢;refine thn (he _ _ _ _ _ s9 τ8 H9 _ I9 q9) fun v s10 ⟨z,H10,I10,r10,xs,hx,hz,m',hm,w10⟩=>?_;refine thn (zbz _ s10 τ8 H10 (.ref s2.heap.objs.size) [z] (.ref s2.heap.objs.size) [v] (fun _ H11=>W (i+1) m' τ8 H11) I10 rfl (.cons r10 .nil) ⟨_,xs,z,rfl,rfl,hx,hz,w10⟩) fun _ s11 ⟨_,H11,I11,_,w11⟩=>?_;exact again I11 ⟨hm,w11⟩
 exact codeAny_compStart_list loop (T.self _ 0 _ _ _ st4 loop)
theorem zap(hx:∀ e s,X.xe e s->False)(hc:X.calm=true)(c:CompOk X scope cl N caps)(hi:PI X tg iter wi)(hg:∀ C s H fp,PG (zb7 X scope cl C s H fp N) tg g)(ht:∀ C s H fp,PTs (zb7 X scope cl C s H fp N) ifs tt)(he:∀ C s H fp,PE (zb7 X scope cl C s H fp N) elt te)
  (hs:∀ x,foldedSetIterable iter X.env x=pure x:=by intro _; rfl):PE X (.ListComp elt [⟨tg,iter,ifs,0⟩] scope pos) (znm caps wi g tt te):=by
 intro zn s σ H Q I h;rw [eval_ListComp];refine wpAny_comprehension_free (use:=none) rfl hs c.clos c.kind c.names (thn (hi zn s σ H _ I h) fun v s1 h1=>thn h1 fun itv s2 h2=>?_);obtain⟨it,fp,tn,J,H2,e,I2,T,st2,f2,q2⟩:=h2;subst e;exact zh0 (RR:=fun acc C=>compPost (model X.prog X.w) X.A X.xe none (EP X zn σ Q) acc C) hc c I2 T st2 f2 hg ht he Q q2 fun D C H' s' m hn _ hb q=>⟨m,hn,fun h' hs=>⟨.ref D,H',hb h' hs,rfl,q⟩⟩
theorem zdm{i:Nat}{y:Str}{py spos:Pos}(hx:∀ e s,X.xe e s->False)(hc:X.calm=true)(c:CompOk X scope cl N caps)(hN:X.N.Nodup)(hyi:X.N[i]? = some y)(hl:X.env.scope.names.lookup y=some .local)(hi:PI X tg iter wi)(hg:∀ C s H fp,PG (zb7 X scope cl C s H fp N) tg g)
  (ht:∀ C s H fp,PTs (zb7 X scope cl C s H fp N) ifs tt) (he:∀ C s H fp,PE (zb7 X scope cl C s H fp N) elt te)
  (hsw:swapsWith (.ListComp elt [⟨tg,iter,ifs,0⟩] scope pos) (some (.Name y py)) spos.line X.env=pure true:=by rfl)
  (hs:∀ x,foldedSetIterable iter X.env x=pure x:=by intro _; rfl):PS X (.Assign [.Name y py] (.ListComp elt [⟨tg,iter,ifs,0⟩] scope pos) spos) (zuy (znm caps wi g tt te) (zkW i)):=by
 intro zn s σ H D I h;rw [exec_Assign_Name_used _ _ _ _ hsw];refine wpAny_bind (wpAny_standAt (wpAny_bind ?_));show wpAny _ X.A (do let _ <- comprehension (.ListComp elt [⟨tg,iter,ifs,0⟩] scope pos) scope X.env _ (newList []) false (eval iter X.env) (some (assign (.Name y py) X.env))) _ _ s;refine wpAny_bind (wpAny_mono (wpAny_comprehension_free (use:=some (assign (.Name y py) X.env)) (Q:=fun _ s'=>SP X zn D .next s') rfl hs c.clos c.kind c.names (thn (hi zn s σ H _ I h) fun v s1 h1=>thn h1 fun itv s2 h2=>?_)) (fun _ s' hq=>wpAny_pure (wpAny_pure hq)) fun _ _ e=>e);obtain⟨it,fp,tn,J,H2,e,I2,T,st2,f2,q2⟩:=h2;subst e;refine zh0 (RR:=fun acc C=>compPost (model X.prog X.w) X.A X.xe (some (assign (.Name y py) X.env)) (fun _ s'=>SP X zn D .next s') acc C) hc c I2 T st2 f2 hg ht he (fun v H'=>D.nx (σ.set i (some v)) H') q2 fun Da C H' s' m hn f hb q=>?_;obtain⟨o,es,ep,ho,hd,r⟩:=hn;have I':Inv X zn σ H' s':=hb s'.heap (Heap.SameBut.refl _ _);have I'':Inv X (zn++[(C,o)]) σ H' s':=I'.pins_of fun p hp=>(mem_append.mp hp).elim (fun z=>I'.pin p (mem_append_right _ z)) fun z=>by
  cases mem_singleton.mp z;exact⟨ho,f.1,f.2.1,f.2.2.1,fun v e=>by rw [hd] at e; cases e⟩
 refine wpAny_assign_Name (ziF I'' hN hyi (.inl hl) (show RelV (V.ref Da) (Value.ref Da) from rfl) (fun s2 J2=>?_) (.inr hl));refine⟨m,⟨o,es,ep,(J2.pin (C,o) (mem_append_right _ (mem_append_right _ (mem_singleton.mpr rfl)))).1,hd,r⟩,fun h' hs=>?_⟩;exact⟨_,H',J2.unpinned.turned (t':=s2.toks) (fun b ob nb e=>hs.extBut b ob nb e) f.1 f.2.1 f.2.2.2.1 f.2.2.2.2.1 f.2.2.2.2.2,q⟩
end
def zkB(env:Env):List (Str×NameKind)->List (Str×Addr)->List (Str×Addr)
 | [],acc=>acc
 | (n,k) :: r,acc=>zkB env r (if k == .free then (n,(env.cells.lookup n).getD 0) :: acc else acc)
theorem zjd{env:Env}{x:Str}{c:Addr}:∀ {names:List (Str×NameKind)} {acc:List (Str×Addr)},(x,c)∈zkB env names acc->(x,c)∈acc\/((x,NameKind.free)∈names/\c=(env.cells.lookup x).getD 0)
 | [],_,h=>.inl h
 | (n,k) :: r,acc,h=>by
  rcases zjd (names:=r) h with h | ⟨h,e⟩
  ·by_cases hk:k == .free
   ·rw [if_pos hk] at h;rcases mem_cons.mp h with h | h
    ·cases h;have:k=.free:=by simpa using hk
     subst this;exact .inr ⟨mem_cons_self,rfl⟩
    ·exact .inl h
   ·rw [if_neg hk] at h;exact .inl h
  ·exact .inr ⟨mem_cons_of_mem _ h,e⟩
theorem zlV{env:Env}{p:Str×Addr}:∀ {names:List (Str×NameKind)} {acc:List (Str×Addr)},p∈acc->p∈zkB env names acc
 | [],_,h=>h
 | (n,k) :: r,acc,h=>zlV (names:=r) (by split <;> first | exact mem_cons_of_mem _ h | exact h)
theorem zgo{env:Env}{x:Str}:∀ {names:List (Str×NameKind)} {acc:List (Str×Addr)},(x,NameKind.free)∈names->∃ c,(x,c)∈zkB env names acc
 | (n,k) :: r,acc,h=>by
  rcases mem_cons.mp h with h | h
  ·cases h;exact⟨_,zlV (names:=r) (by rw [if_pos dz]; exact mem_cons_self)⟩
  ·exact zgo (names:=r) h
theorem zcm{β:Type}{x:Str}{c:β}:∀ {l:List (Str×β)},(x,c)∈l->∃ c',l.lookup x=some c'
 | (n,v) :: r,h=>by
  cases e:x == n with
  | true=>exact⟨v,by rw [lookup_cons,e]⟩
  | false =>
   rcases mem_cons.mp h with h | h
   ·cases h;simp at e
   ·obtain⟨c',q⟩:=zcm (l:=r) h;exact⟨c',by rw [lookup_cons,e]; exact q⟩
theorem zfe{env:Env}{scope:Scope}(h:∀ y∈scope.names,y.2=.free->(env.cells.lookup y.1).isSome=true):closureFor scope env=pure (zkB env scope.names []):=by
 have go:∀ (names:List (Str×NameKind)) (acc:List (Str×Addr)),(∀ y∈names,y.2=.free->(env.cells.lookup y.1).isSome=true) ->
   (forIn names acc (fun(x:Str×NameKind) (cs:List (Str×Addr))=>(if x.2 == .free then (do let c <- cellOf env x.1; pure (ForInStep.yield ((x.1,c) :: cs))) else pure (ForInStep.yield cs):Sem (ForInStep (List (Str×Addr))))))=(pure (zkB env names acc):Sem (List (Str×Addr))):=by
  intro names;induction names with
  | nil=>intro acc _; rfl
  | cons y r ih =>
   intro acc hy;obtain⟨n,k⟩:=y;rw [forIn_cons];by_cases hk:k == .free
   ·have hs:=hy (n,k) mem_cons_self (by simpa using hk);obtain⟨c,hc⟩:=isSome_iff_exists.mp hs;have hc':env.cells.lookup n=some c:=hc;simp only [hk,if_true,cellOf,hc',pure_bind,zkB,Option.getD_some];exact ih _ fun y hy'=>hy y (mem_cons_of_mem _ hy')
   ·simp only [hk,Bool.false_eq_true,if_false,pure_bind,zkB];exact ih _ fun y hy'=>hy y (mem_cons_of_mem _ hy')
 have g:=go scope.names [] h;exact(bind_pure _).trans g
def zak(DN:List Str)(dsc sc:List (Str×NameKind))(N:List Str)(caps:List (Option Nat)):Bool :=
 (caps.length == N.length) && sc.all (fun y=>y.2 != .cell && (y.2 != .free || dsc.lookup y.1 == some .cell) && (y.2 != .local || sc.lookup y.1 == some .local)) &&
 (caps.zip N).all fun p=>match p.1 with | none=>true | some i=>DN[i]? == some p.2 && dsc.lookup p.2 == some .cell && sc.lookup p.2 == some .free
theorem zdY{dsc:List (Str×NameKind)}{env:Env}{x:Str}{k:NameKind}:∀ {names:List (Str×NameKind)},(names.map fun(n,k)=>if (k == .free && env.scope.kind == .function && env.kindOf n == some .cell) then (n,.cell) else (n,k)).lookup x=some k ->
  ∃ k',names.lookup x=some k'/\(k'=k\/(k'=.free/\k=.cell))
 | [],h=>by simp at h
 | (n,k0) :: r,h=>by
  cases e:x == n with
  | true =>
   refine⟨k0,by rw [lookup_cons,e],?_⟩;rw [map_cons] at h;dsimp only at h;split at h
   ·rename_i hc;rw [lookup_cons,e] at h;have:k0=.free:=by simp at hc; exact hc.1.1
    cases h;exact .inr ⟨this,rfl⟩
   ·rw [lookup_cons,e] at h;cases h;exact .inl rfl
  | false =>
   rw [map_cons] at h;dsimp only at h;have h':(r.map fun(n,k)=>if (k == NameKind.free && env.scope.kind == .function && env.kindOf n == some .cell) then (n,NameKind.cell) else (n,k)).lookup x=some k:=by
    split at h <;> (rw [lookup_cons,e] at h; exact h)
   obtain⟨k',q,z⟩:=zdY (dsc:=dsc) h';exact⟨k',by rw [lookup_cons,e]; exact q,z⟩
theorem zif{env:Env}{x:Str}(h1:env.scope.kind=.function)(h2:env.kindOf x=some .cell):∀ {names:List (Str×NameKind)},names.lookup x=some .free ->
  (names.map fun(n,k)=>if (k == .free && env.scope.kind == .function && env.kindOf n == some .cell) then (n,.cell) else (n,k)).lookup x=some .cell
 | [],h=>by simp at h
 | (n,k0) :: r,h=>by
  rw [map_cons];cases e:x == n with
  | true =>
   rw [lookup_cons,e] at h;cases h;have en:x=n:=by simpa using e
   subst en;dsimp only;rw [if_pos (by rw [h1,h2]; decide),lookup_cons,e]
  | false =>
   rw [lookup_cons,e] at h;have ih:=zif h1 h2 (names:=r) h;dsimp only;split <;> (rw [lookup_cons,e]; exact ih)
theorem zF{X:Cx}{dsc:Scope}{L:Nat}{scope:Scope}{N:List Str}{caps:List (Option Nat)}(hd:X.env.scope=dsc)(hc:X.env.cells=cellsFrom L dsc.names [])(hdk:dsc.kind=.function)(hk:scope.kind=.function)(h:zak X.N dsc.names scope.names N caps=true):
  CompOk X scope (zkB X.env scope.names []) N caps:=by
 subst hd;simp only [zak,Bool.and_eq_true,all_eq_true,beq_iff_eq] at h;obtain⟨⟨hl,hs⟩,hz⟩:=h;have hfree:∀ y∈scope.names,y.2=.free->X.env.scope.names.lookup y.1=some .cell:=fun y hy e=>by
  have q:=(hs y hy).1.2;rw [e] at q;simpa using q
 have hcell:∀ y∈scope.names,y.2≠.cell:=fun y hy e=>by
  have q:=(hs y hy).1.1;rw [e] at q;simp at q
 have hsome:∀ x,X.env.scope.names.lookup x=some .cell->(X.env.cells.lookup x).isSome=true:=fun x e=>by
  rw [hc];exact W.cellsFrom_some _ _ _ (.inl e)
 have sub:∀ x c,(zkB X.env scope.names []).lookup x=some c->X.env.cells.lookup x=some c:=fun x c e=>by
  rcases zjd (PySem.mem_of_lookup e) with q | ⟨q,ec⟩
  ·cases q
  ·obtain⟨c',hc'⟩:=isSome_iff_exists.mp (hsome x (hfree _ q rfl));rw [ec,hc'];rfl
 refine⟨zfe fun y hy e=>hsome y.1 (hfree y hy e),sub,hk,hcell,fun y hy e=>?_,fun x hx=>?_,fun j i x h1 h2=>?_,hl⟩
 ·have q:=(hs y hy).2;rw [e] at q;simpa using q
 ·have fin:(x,NameKind.free)∈scope.names->∃ c,(zkB X.env scope.names []).lookup x=some c:=fun m=>by
   obtain⟨c,hm⟩:=zgo (env:=X.env) (acc:=[]) m;exact zcm hm
  rcases hx with hx | hx
  ·obtain⟨k',q,z⟩:=zdY (dsc:=[]) hx;rcases z with rfl | ⟨rfl,_⟩
   ·exact absurd rfl (hcell _ (PySem.mem_of_lookup q))
   ·exact fin (PySem.mem_of_lookup q)
  ·obtain⟨k',q,z⟩:=zdY (dsc:=[]) hx;rcases z with rfl | ⟨_,z⟩
   ·exact fin (PySem.mem_of_lookup q)
   ·cases z
 ·have hm:(some i,x)∈caps.zip N:=by
   have:(caps.zip N)[j]? = some (some i,x):=by rw [getElem?_zip_eq_some]; exact⟨h1,h2⟩
   exact mem_of_getElem? this
  have q:=hz _ hm;simp only [Bool.and_eq_true,beq_iff_eq] at q;obtain⟨⟨q1,q2⟩,q3⟩:=q;obtain⟨c,hmc⟩:=zgo (env:=X.env) (acc:=[]) (PySem.mem_of_lookup q3);obtain⟨c',hc'⟩:=zcm hmc;refine⟨q1,.inr (.inl q2),fun z=>?_,c',hc',.inl (zif hdk q2 q3)⟩;have z':X.env.scope.names.lookup x=some .local:=z;rw [q2] at z';cases z'
end
section
section
variable {X:Cx}
def zu9:R2:=fun x y H Q=>∃ z n,x=.str z/\y=.int n/\z.length<=1000/\n<=1000/\-1000<=n/\Q (.str (PySem.Txt.mul z n)) H
theorem zvm{z:Str}{n:Int}(h1:z.length<=1000)(h2:n<=1000)(h3:-1000<=n):PySem.MulOk z n:=by
 refine⟨by simp; omega,fun a _ b=>?_,fun a _=>?_⟩
 ·have e:(1000:Int)<=(2 ^ 63 - 1) / n:=by
   rw [Int.le_ediv_iff_mul_le (by omega)];have:=Int.mul_le_mul_of_nonneg_left h2 (show (0:Int)<=1000 by decide);omega
  omega
 ·have e:z.length*n.toNat<=1000*1000:=mul_le_mul h1 (by omega);unfold Builtin.Str.tooLong;simp only [decide_eq_false_iff_not,Nat.not_lt];exact le_trans e dz
theorem zsL:OpR X (binaryOp .Mult) zu9:=by
 intro zn s σ H x y v u Q I rx ry h;obtain⟨z,n,rfl,rfl,h1,h2,h3,q⟩:=h;obtain⟨t,rfl⟩:=rx;obtain⟨t',rfl⟩:=ry;exact PySem.SB.mul (zvm h1 h2 h3) fun _ k=>⟨.str _,H,I.tok _,⟨_,rfl⟩,q⟩
def zwy:V->Option Int->Option Int->Hp->VK->Prop:=fun x lo hi H Q=>∃ z,x=.str z/\z.length<=sizeLine/\Q (.str (PySem.Txt.slice z lo hi)) H
theorem zvx:SlR X zwy:=by
 intro zn s σ H x v vl vu lo hi sl Q I rx hs pl pu h;obtain⟨z,rfl,hz,q⟩:=h;obtain⟨t,rfl⟩:=rx;refine⟨"str",_,F.slot_str_getitem.lookup,typeIs_str _ _ _,?_⟩;have fin:∀ (a b:Option (Int×Tok)),a.map (·.1)=lo->b.map (·.1)=hi->s.heap.IsSlice sl a b none->wpAny (model X.prog X.w) X.A (getItem (.str z t) (.ref sl)) (EP X zn σ Q) X.xe s:=fun a b e1 e2 hsl=>by
  subst e1 e2;exact wpAny_getItem_str_slice (l:=a) (u:=b) (st:=none) hsl rfl (post_val_or_str ⟨le_trans (PySem.Txt.slice_le z _ _) hz,fun _ k=>⟨.str _,H,I.tok _,⟨_,rfl⟩,q⟩⟩)
 cases pl with
 | none =>
  cases pu with
  | none=>exact fin none none rfl rfl hs
  | int j tj=>exact fin none (some (j,tj)) rfl rfl hs
 | int i ti =>
  cases pu with
  | none=>exact fin (some (i,ti)) none rfl rfl hs
  | int j tj=>exact fin (some (i,ti)) (some (j,tj)) rfl rfl hs
theorem zhU:∀ {zs:List Str} {us:List Value},Vals (zs.map V.str) us->StrsAre us zs
 | [],_,.nil=>.nil
 | z :: zs,_,.cons r t=>by
  obtain⟨tk,rfl⟩:=r;exact .cons z tk (zhU t)
def zvp(K:W.Frag):V->List V->Hp->VK->Prop:=fun x vs H Q=>∃ z a zs,x=.str z/\vs=[.ref a]/\SqL K H a (zs.map V.str)/\z.length<=16/\zs.length<=1000/\(∀ y∈zs,y.length<=1000)/\Q (.str (PySem.Txt.join z zs)) H
theorem zkt{zs:List Str}(h:∀ y∈zs,y.length<=1000):(zs.map (·.length)).sum<=zs.length*1000:=by
 induction zs with
 | nil=>simp
 | cons z zs ih =>
  have h1:=h z mem_cons_self;have h2:=ih fun y hy=>h y (mem_cons_of_mem _ hy);simp only [map_cons,sum_cons,length_cons,Nat.add_mul,Nat.one_mul];omega
theorem zsi:MtR X "str.join" (zvp X.K):=by
 intro zn s σ H x vs v us Q I rx rv h;obtain⟨z,a,zs,rfl,rfl,hq,hz,hn,hl,q⟩:=h;obtain⟨t,rfl⟩:=rx;obtain⟨u,rfl,r1⟩:=rv.one;cases r1;obtain⟨its,r,pl,hsz⟩:=I.list hq;have hs:=zkt hl;refine join_listW pl.isList (by simpa using zhU r) hz (by omega) fun _ k=>⟨.str _,H,I.tok _,⟨_,rfl⟩,q⟩
end
section
variable {K:W.Frag} {o:List Addr} {σ:St} {H0:Hp} {t:TE} {ta:TA} {ds:List PyData}
def zhj(lo:Int)(n:Nat):List PyData:=(List.range n).map fun k:Nat=>.int (lo+k)
theorem zaC{lo:Int}{n:Nat}:(zhj lo n).length=n:=by simp [zhj]
theorem zcB{lo:Int}{n i:Nat}{d:PyData}(h:(zhj lo n)[i]? = some d):i<n/\d=.int (lo+i):=by
 have hi:i<n:=by
  have:=List.getElem?_eq_some_iff.mp h;obtain⟨hl,_⟩:=this
  rwa [zaC] at hl
 refine⟨hi,?_⟩;simp only [zhj,getElem?_map,getElem?_range hi,map_some,Option.some.injEq] at h;exact h.symm
end
theorem zqj{y:Str}{zs:List Str}(hy:y.length<=16)(hz:∀ z∈zs,z.length<=1000):(PySem.Txt.join y zs).length<=zs.length*1016:=by
 show (Builtin.Str.glued y zs).length<=_;rw [StrLaws.glued_eq_join];cases zs with
 | nil=>exact zero_le _
 | cons a r =>
  rw [len_join_cons];have h1:=zkt hz;have h2:r.length*y.length<=r.length*16:=Nat.mul_le_mul_left _ hy;simp only [length_cons] at h1 ⊢;omega
def zdl{α:Type}(xs:List α)(lo hi:Option Int):List α:=(xs.drop (HT.sIx xs.length 0 lo)).take (HT.sIx xs.length xs.length hi - HT.sIx xs.length 0 lo)
theorem HasL.drop{H:Hp}:∀ {ds:List PyData} {vs:List V} (n:Nat),HasL H ds vs->HasL H (ds.drop n) (vs.drop n)
 | ds,vs,0,h=>h
 | [],vs,n+1,h=>by rw [zM.mp h]; exact zM.mpr rfl
 | d :: ds,vs,n+1,h=>by
  obtain⟨v,r,rfl,_,l⟩:=zD.mp h;exact HasL.drop n l
theorem HasL.take{H:Hp}:∀ {ds:List PyData} {vs:List V} (n:Nat),HasL H ds vs->HasL H (ds.take n) (vs.take n)
 | ds,vs,0,h=>zM.mpr rfl
 | [],vs,n+1,h=>by rw [zM.mp h]; exact zM.mpr rfl
 | d :: ds,vs,n+1,h=>by
  obtain⟨v,r,rfl,q,l⟩:=zD.mp h;exact zD.mpr ⟨v,_,rfl,q,HasL.take n l⟩
theorem HasL.cut{H:Hp}{ds:List PyData}{vs:List V}(lo hi:Option Int)(h:HasL H ds vs):HasL H (zdl ds lo hi) (zlS vs lo hi):=by
 unfold zdl zlS;rw [h.length];exact(h.drop _).take _
theorem HasL.rev{H:Hp}:∀ {ds:List PyData} {vs:List V},HasL H ds vs->HasL H ds.reverse vs.reverse
 | [],vs,h=>by rw [zM.mp h]; exact zM.mpr rfl
 | d :: ds,vs,h=>by
  obtain⟨v,r,rfl,q,l⟩:=zD.mp h;rw [reverse_cons,reverse_cons];exact(HasL.rev l).append (zD.mpr ⟨v,[],rfl,q,zM.mpr rfl⟩)
end
section
theorem zsc:∀ {l:List Addr} {H:Hp} {b:Addr} {u:HO},vw l H b=some u↔b∉l/\H b=some u
 | [],H,b,u=>by simp [vw]
 | a :: r,H,b,u=>by
  show hid a (vw r H) b=some u↔_;by_cases h:b=a
  ·subst h; simp [zqL]
  ·rw [ztK h,zsc]; simp [h]
def vx(h o:List Addr)(H:Hp):Hp:=vw (h++o) H
theorem zaj{h o:List Addr}{H:Hp}{b:Addr}{u:HO}:vx h o H b=some u↔b∉h/\b∉o/\H b=some u:=by
 unfold vx;rw [zsc];simp [and_assoc]
theorem zao{h o:List Addr}{H:Hp}:Same (vx h o H) H:=fun b u e=>(zaj.mp e).2.2
theorem zfu{h o:List Addr}{H H':Hp}(s:Same H H'):Same (vx h o H) (vx h o H'):=fun b u e=>by
 obtain⟨h1,h2,h3⟩:=zaj.mp e;exact zaj.mpr ⟨h1,h2,s b u h3⟩
structure Ex(o:List Addr)(H:Hp)(o':List Addr)(H':Hp):Prop where
 pre:∃ r,o'=o++r
 kp:∀ b u,b∉o->H b=some u->b∉o'/\H' b=some u
section
variable {h o o' o'':List Addr} {H H' H'':Hp} {S:List (List PyData)} {p a:Addr}
theorem Ex.refl:Ex o H o H:=⟨⟨[],by simp⟩,fun _ _ a b=>⟨a,b⟩⟩
theorem Ex.trans(a:Ex o H o' H')(b:Ex o' H' o'' H''):Ex o H o'' H'':=by
 obtain⟨⟨r,e⟩,ka⟩:=a;obtain⟨⟨t,e'⟩,kb⟩:=b;refine⟨⟨r++t,by rw [e',e,append_assoc]⟩,fun b u h1 h2=>?_⟩;obtain⟨h3,h4⟩:=ka b u h1 h2;exact kb b u h3 h4
theorem Ex.vx(e:Ex o H o' H'):Same (L2.vx h o H) (L2.vx h o' H'):=fun b u q=>by
 obtain⟨h1,h2,h3⟩:=zaj.mp q;obtain⟨h4,h5⟩:=e.kp b u h2 h3;exact zaj.mpr ⟨h1,h4,h5⟩
structure ExH(h o:List Addr)(H:Hp)(o':List Addr)(H':Hp):Prop where
 pre:∃ r,o'=o++r
 kp:∀ b u,b∉h->b∉o->H b=some u->b∉o'/\H' b=some u
theorem Ex.hid(e:Ex o H o' H'):ExH h o H o' H':=⟨e.pre,fun b u _=>e.kp b u⟩
theorem ExH.refl:ExH h o H o H:=Ex.refl.hid
theorem ExH.trans(a:ExH h o H o' H')(b:ExH h o' H' o'' H''):ExH h o H o'' H'':=by
 obtain⟨⟨r,e⟩,ka⟩:=a;obtain⟨⟨t,e'⟩,kb⟩:=b;refine⟨⟨r++t,by rw [e',e,append_assoc]⟩,fun b u h0 h1 h2=>?_⟩;obtain⟨h3,h4⟩:=ka b u h0 h1 h2;exact kb b u h0 h3 h4
theorem ExH.vx(e:ExH h o H o' H'):Same (L2.vx h o H) (L2.vx h o' H'):=fun b u q=>by
 obtain⟨h1,h2,h3⟩:=zaj.mp q;obtain⟨h4,h5⟩:=e.kp b u h1 h2 h3;exact zaj.mpr ⟨h1,h4,h5⟩
theorem Ex.of_same(s:Same H H'):Ex o H o H':=⟨⟨[],by simp⟩,fun b u h e=>⟨h,s b u e⟩⟩
theorem zew{α:Type}{l t:List α}{k:Nat}{a:α}(q:l[k]? = some a):(l++t)[k]? = some a:=by
 obtain⟨hk,_⟩:=List.getElem?_eq_some_iff.mp q;rw [getElem?_append_left hk];exact q
def exO(a C:Addr)(d:Option Addr):HO:=.ext fun h=>∃ o,h.get? a=some o/\o.cls=.ref C/\o.dict=d/\∃ vs,o.data=.fields vs
def xw(dx:Addr)(fs:List (Str×V)):HO:=.ext fun h=>∃ mA,h.Ns1 dx mA/\(∀ f,RelO (fs.lookup f) (mA f))/\PySem.Within mA (fs.map (·.1))
def HasE(H:Hp)(C:Addr)(fs:List (Str×PyData))(v:V):Prop:=∃ a d,v=.ref a/\H a=some (exO a C d)/\∀ f dt,fs.lookup f=some dt->∃ dx vs u,d=some dx/\H dx=some (xw dx vs)/\vs.lookup f=some u/\Has H dt u
theorem HasE.mono{H H':Hp}{C:Addr}{fs:List (Str×PyData)}{v:V}(s:Same H H')(q:HasE H C fs v):HasE H' C fs v:=by
 obtain⟨a,d,e,ha,hf⟩:=q;refine⟨a,d,e,s _ _ ha,fun f dt l=>?_⟩;obtain⟨dx,vs,u,e1,e2,e3,e4⟩:=hf f dt l;exact⟨dx,vs,u,e1,s _ _ e2,e3,Has.mono s _ _ e4⟩
inductive XV where
 | d (d:PyData)
 | l (k:Nat)
 | o (v:V)
 | x (C:Addr) (fs:List (Str×PyData))
def HasX(h o:List Addr)(H:Hp):XV->V->Prop
 | .d d,v=>Has (vx h o H) d v
 | .l k,v=>∃ a,o[k]? = some a/\v=.ref a
 | .o w,v=>v=w
 | .x C fs,v=>HasE (vx h o H) C fs v
theorem HasX.mono(e:Ex o H o' H'):∀ {x:XV} {v:V},HasX h o H x v->HasX h o' H' x v
 | .d d,v,q=>Has.mono e.vx d v q
 | .l k,v,⟨a,q,r⟩=>by
  obtain⟨t,rfl⟩:=e.pre;exact⟨a,zew q,r⟩
 | .o w,v,q=>q
 | .x C fs,v,q=>HasE.mono e.vx q
def HasXs(h o:List Addr)(H:Hp):List XV->List V->Prop
 | [],vs=>vs=[]
 | x :: xs,vs=>∃ v r,vs=v :: r/\HasX h o H x v/\HasXs h o H xs r
abbrev Sto:=List (List PyData)
inductive MO where
 | l (vs:List V)
 | k (m:List (Key×V))
 | t (m:List (List Key×V))
def MO.ho:MO->HO
 | .l vs=>.lst vs
 | .k m=>.dK m
 | .t m=>.dT m
structure RepS(h o:List Addr)(H:Hp)(S:Sto):Prop where
 len:S.length=o.length
 nd:o.Nodup
 dis:∀ a∈o,a∉h
 hal:∀ b∈h,∃ u:MO,H b=some u.ho
 cont:∀ (k:Nat) (a:Addr) (ds:List PyData),o[k]? = some a->S[k]? = some ds->∃ vs,H a=some (.lst vs)/\HasL (vx h o H) ds vs
theorem zqS{α β:Type}{l:List α}{t:List β}{k:Nat}{a:α}(hl:t.length=l.length)(q:l[k]? = some a):∃ b,t[k]? = some b:=by
 obtain⟨hk,_⟩:=List.getElem?_eq_some_iff.mp q;exact⟨t[k]'(by omega),getElem?_eq_getElem _⟩
theorem RepS.oal(r:RepS h o H S):∀ a∈o,∃ u,H a=some (.lst u):=fun a ha=>by
 obtain⟨k,hk⟩:=mem_iff_getElem?.mp ha;obtain⟨ds,e⟩:=zqS r.len hk;obtain⟨vs,e',_⟩:=r.cont k a ds hk e;exact⟨_,e'⟩
theorem RepS.oam(r:RepS h o H S):∀ a∈o,∃ u:MO,H a=some u.ho:=fun a ha=>let ⟨u,e⟩:=r.oal a ha; ⟨.l u,e⟩
theorem RepS.fresh(r:RepS h o H S)(hp:H p=none):p∉h/\p∉o:=by
 constructor
 ·intro m;obtain⟨u,e⟩:=r.hal p m;rw [hp] at e;cases e
 ·intro m;obtain⟨u,e⟩:=r.oal p m;rw [hp] at e;cases e
theorem RepS.same(r:RepS h o H S)(s:Same H H'):RepS h o H' S where
 len:=r.len
 nd:=r.nd
 dis:=r.dis
 hal:=fun b m=>by obtain⟨u,e⟩:=r.hal b m; exact⟨u,s b _ e⟩
 cont:=fun k a ds e1 e2=>by
  obtain⟨vs,e3,l⟩:=r.cont k a ds e1 e2;exact⟨vs,s _ _ e3,HasL.mono (zfu s) _ _ l⟩
theorem RepS.laid{u:HO}(r:RepS h o H S)(hp:H p=none):vx h o (upd H p u) p=some u:=by
 obtain⟨h1,h2⟩:=r.fresh hp;exact zaj.mpr ⟨h1,h2,zaA⟩
theorem Ex.new{u:HO}(r:RepS h o H S)(hp:H p=none):Ex o H (o++[p]) (upd H p u):=by
 refine⟨⟨[p],rfl⟩,fun b w hb e=>?_⟩;have ne:b≠p:=zY e hp;exact⟨by simp [hb,ne],by rw [zS ne]; exact e⟩
theorem zc3{α:Type}{l:List α}{a:α}(h:l.Nodup)(n:a∉l):(l++[a]).Nodup:=by
 rw [nodup_append];refine⟨h,by simp,fun x hx y hy e=>?_⟩;rw [mem_singleton] at hy;subst hy;subst e;exact n hx
theorem RepS.new{ds:List PyData}{vs:List V}(r:RepS h o H S)(hp:H p=none)(l:HasL (vx h o H) ds vs):RepS h (o++[p]) (upd H p (.lst vs)) (S++[ds]):=by
 obtain⟨h1,h2⟩:=r.fresh hp;have ex:Ex o H (o++[p]) (upd H p (.lst vs)):=Ex.new r hp;refine⟨by simp [r.len],zc3 r.nd h2,fun a ha=>?_,fun b hb=>?_,fun k a es e1 e2=>?_⟩
 ·rcases mem_append.mp ha with ha | ha
  ·exact r.dis a ha
  ·rw [mem_singleton.mp ha]; exact h1
 ·obtain⟨u,e⟩:=r.hal b hb;exact⟨u,by rw [zS (zY e hp)]; exact e⟩
 ·by_cases hk:k<o.length
  ·rw [getElem?_append_left hk] at e1;rw [getElem?_append_left (by rw [r.len]; exact hk)] at e2;obtain⟨ws,e3,l3⟩:=r.cont k a es e1 e2;refine⟨ws,?_,l3.mono ex.vx⟩;rw [zS (zY e3 hp)];exact e3
  ·have hk':k=o.length:=by
    obtain⟨q,_⟩:=List.getElem?_eq_some_iff.mp e1;rw [length_append,length_singleton] at q;omega
   subst hk';rw [getElem?_concat_length] at e1;rw [<- r.len,getElem?_concat_length] at e2;cases e1;cases e2;exact⟨vs,zaA,l.mono ex.vx⟩
theorem Ex.upd{k:Nat}{u:HO}(e:o[k]? = some a):Ex o H o (L2.upd H a u) :=
 ⟨⟨[],by simp⟩,fun b w hb eb=>⟨hb,by rw [zS (fun z=>hb (by rw [z]; exact mem_of_getElem? e))]; exact eb⟩⟩
theorem ze1{l:List Addr}(h:l.Nodup){i j:Nat}{a:Addr}(e1:l[i]? = some a)(e2:l[j]? = some a):i=j:=by
 obtain⟨hi,e1⟩:=List.getElem?_eq_some_iff.mp e1;obtain⟨hj,e2⟩:=List.getElem?_eq_some_iff.mp e2;exact(List.getElem_inj h).mp (e1.trans e2.symm)
theorem RepS.upd{k:Nat}{ds:List PyData}{vs:List V}(r:RepS h o H S)(e:o[k]? = some a)(l:HasL (vx h o H) ds vs):RepS h o (L2.upd H a (.lst vs)) (S.set k ds):=by
 have ex:Ex o H o (L2.upd H a (.lst vs)):=Ex.upd e;refine⟨by simp [r.len],r.nd,r.dis,fun b hb=>?_,fun j b es e1 e2=>?_⟩
 ·obtain⟨u,eb⟩:=r.hal b hb;have ne:b≠a:=fun z=>r.dis a (mem_of_getElem? e) (z▸hb);exact⟨u,by rw [zS ne]; exact eb⟩
 ·by_cases hj:j=k
  ·subst hj;rw [e1] at e;cases e;obtain⟨hk,_⟩:=List.getElem?_eq_some_iff.mp e1;rw [getElem?_set_self (by rw [r.len]; exact hk)] at e2;cases e2;exact⟨vs,zaA,l.mono ex.vx⟩
  ·rw [getElem?_set_ne (Ne.symm hj)] at e2;obtain⟨ws,e3,l3⟩:=r.cont j b es e1 e2;have ne:b≠a:=fun z=>hj (ze1 r.nd e1 (z▸e));exact⟨ws,by rw [zS ne]; exact e3,l3.mono ex.vx⟩
abbrev XE:=List (Option XV)
structure RepE(h o:List Addr)(H:Hp)(δ:XE)(σ:St):Prop where
 len:δ.length=σ.length
 get:∀ (i:Nat) x,δ[i]? = some (some x)->∃ v,σ[i]? = some (some v)/\HasX h o H x v
variable {δ:XE} {σ:St}
theorem RepE.mono(r:RepE h o H δ σ)(e:Ex o H o' H'):RepE h o' H' δ σ:=⟨r.len,fun i x q=>by
 obtain⟨v,e1,e2⟩:=r.get i x q;exact⟨v,e1,e2.mono e⟩⟩
theorem RepE.set{i:Nat}{x:XV}{v:V}(r:RepE h o H δ σ)(q:HasX h o H x v):RepE h o H (δ.set i (some x)) (σ.set i (some v)):=by
 refine⟨by simp [r.len],fun j y e=>?_⟩;rw [List.getElem?_set] at e ⊢;by_cases hij:i=j
 ·rw [if_pos hij] at e ⊢;by_cases hl:i<δ.length
  ·rw [if_pos hl] at e;rw [if_pos (by rw [<- r.len]; exact hl)];cases e;exact⟨v,rfl,q⟩
  ·rw [if_neg hl] at e;cases e
 ·rw [if_neg hij] at e ⊢;exact r.get j y e
def zrd(caps:List (Option Nat))(δ:XE):XE:=caps.map fun o=>o.bind fun i=>(δ[i]?).join
theorem RepE.tau{caps:List (Option Nat)}(r:RepE h o H δ σ):RepE h o H (zrd caps δ) (L2.tau caps σ):=by
 refine⟨by simp [zrd,L2.tau],fun i x e=>?_⟩;unfold zrd at e;unfold L2.tau;rw [getElem?_map] at e ⊢;cases hc:caps[i]? with
 | none=>rw [hc] at e; cases e
 | some c =>
  rw [hc] at e;cases c with
  | none=>cases e
  | some j =>
   have e':(δ[j]?).join=some x:=by simpa using e
   have e2:δ[j]? = some (some x):=by
    cases hd:δ[j]? with
    | none=>rw [hd] at e'; cases e'
    | some y=>rw [hd] at e'; exact congrArg some (by simpa using e')
   obtain⟨v,e3,e4⟩:=r.get j x e2;exact⟨v,by simp [e3],e4⟩
end
abbrev RX:=XV->Sto->Prop
abbrev DE:=XE->Sto->RX->Prop
abbrev DT:=XE->Sto->(Bool->Sto->Prop)->Prop
abbrev DA:=XE->Sto->(List XV->Sto->Prop)->Prop
abbrev D2:=XV->XV->Sto->RX->Prop
def Cn(h o:List Addr)(H:Hp)(R:RX)(Q:VK):Prop:=∀ o' H' S' x v,Ex o H o' H'->RepS h o' H' S'->HasX h o' H' x v->R x S'->Q v H'
theorem Cn.pre{h o o':List Addr}{H H':Hp}{R:RX}{Q:VK}(c:Cn h o H R Q)(e:Ex o H o' H'):Cn h o' H' R Q:=fun o2 H2 S2 x v e2=>c o2 H2 S2 x v (e.trans e2)
def RE(t:TE)(dt:DE):Prop:=∀ (h o:List Addr) (H:Hp) (δ:XE) (σ:St) (S:Sto) (R:RX) (Q:VK),RepE h o H δ σ->RepS h o H S->dt δ S R->Cn h o H R Q->t σ H Q
def RT(t:TT)(dt:DT):Prop:=∀ (h o:List Addr) (H:Hp) (δ:XE) (σ:St) (S:Sto) (R:Bool->Sto->Prop) (Q:Bool->Hp->Prop),RepE h o H δ σ->RepS h o H S->dt δ S R ->
 (∀ o' H' S' b,Ex o H o' H'->RepS h o' H' S'->R b S'->Q b H')->t σ H Q
def RA(t:TA)(dt:DA):Prop:=∀ (h o:List Addr) (H:Hp) (δ:XE) (σ:St) (S:Sto) (R:List XV->Sto->Prop) (Q:List V->Hp->Prop),RepE h o H δ σ->RepS h o H S->dt δ S R ->
 (∀ o' H' S' xs vs,Ex o H o' H'->RepS h o' H' S'->HasXs h o' H' xs vs->R xs S'->Q vs H')->t σ H Q
def RO(r:R2)(rd:D2):Prop:=∀ (h o:List Addr) (H:Hp) (S:Sto) (x y:XV) (v u:V) (R:RX) (Q:VK),RepS h o H S->HasX h o H x v->HasX h o H y u->rd x y S R->Cn h o H R Q->r v u H Q
def RU(r:V->Hp->VK->Prop)(rd:XV->Sto->RX->Prop):Prop:=∀ (h o:List Addr) (H:Hp) (S:Sto) (x:XV) (v:V) (R:RX) (Q:VK),RepS h o H S->HasX h o H x v->rd x S R->Cn h o H R Q->r v H Q
def RC(r:List V->Hp->VK->Prop)(rd:List XV->Sto->RX->Prop):Prop:=∀ (h o:List Addr) (H:Hp) (S:Sto) (xs:List XV) (vs:List V) (R:RX) (Q:VK),RepS h o H S->HasXs h o H xs vs->rd xs S R->Cn h o H R Q->r vs H Q
def asI:XV->(Int->Prop)->Prop
 | .d (.int i),k=>k i
 | _,_=>False
def asB:XV->(Bool->Prop)->Prop
 | .d (.bool i),k=>k i
 | _,_=>False
def asS:XV->(Str->Prop)->Prop
 | .d (.str i),k=>k i
 | _,_=>False
def asT:XV->(List PyData->Prop)->Prop
 | .d (.tuple i),k=>k i
 | _,_=>False
def zm0(S:Sto):XV->Option (List PyData)
 | .d (.list ds)=>some ds
 | .l k=>S[k]?
 | _=>none
def asL(S:Sto)(x:XV)(k:List PyData->Prop):Prop:=∃ ds,zm0 S x=some ds/\k ds
def zdT(S:Sto):XV->Option PyData
 | .d d=>some d
 | .l k=>(S[k]?).map .list
 | .o _=>none
 | .x _ _=>none
def asD(x:XV)(k:PyData->Prop):Prop:=match x with
 | .d d=>k d
 | _=>False
theorem zbt{x:XV}{k:Int->Prop}(h:asI x k):∃ i,x=.d (.int i)/\k i:=by
 unfold asI at h;split at h
 ·exact⟨_,rfl,h⟩
 ·exact h.elim
theorem zhm{x:XV}{k:Bool->Prop}(h:asB x k):∃ i,x=.d (.bool i)/\k i:=by
 unfold asB at h;split at h
 ·exact⟨_,rfl,h⟩
 ·exact h.elim
theorem zn2{x:XV}{k:Str->Prop}(h:asS x k):∃ i,x=.d (.str i)/\k i:=by
 unfold asS at h;split at h
 ·exact⟨_,rfl,h⟩
 ·exact h.elim
theorem zf4{x:XV}{k:List PyData->Prop}(h:asT x k):∃ i,x=.d (.tuple i)/\k i:=by
 unfold asT at h;split at h
 ·exact⟨_,rfl,h⟩
 ·exact h.elim
theorem zd9{x:XV}{k:PyData->Prop}(h:asD x k):∃ i,x=.d i/\k i:=by
 unfold asD at h;split at h
 ·exact⟨_,rfl,h⟩
 ·exact h.elim
section
variable {h o:List Addr} {H:Hp} {S:Sto} {x:XV} {v:V} {i:Int} {b:Bool} {z:Str} {ds:List PyData} {d:PyData}
theorem zbd(q:HasX h o H (.d (.int i)) v):v=.int i:=(zcc (H:=vx h o H)).mp q
theorem zdj(q:HasX h o H (.d (.bool b)) v):v=.bl b:=(zcP (H:=vx h o H)).mp q
theorem zd2(q:HasX h o H (.d (.str z)) v):v=.str z:=(zdw (H:=vx h o H)).mp q
theorem zdJ(q:HasX h o H (.d (.tuple ds)) v):∃ a vs,v=.ref a/\H a=some (.tup vs)/\HasL (vx h o H) ds vs:=by
 obtain⟨a,vs,e,q,l⟩:=zay.mp (show Has _ _ _ from q);exact⟨a,vs,e,zao _ _ q,l⟩
theorem zbH(r:RepS h o H S)(e:zm0 S x=some ds)(q:HasX h o H x v):∃ a vs,v=.ref a/\H a=some (.lst vs)/\HasL (vx h o H) ds vs:=by
 unfold zm0 at e;split at e
 ·cases e;obtain⟨a,vs,e,q,l⟩:=zbk.mp (show Has _ _ _ from q);exact⟨a,vs,e,zao _ _ q,l⟩
 ·obtain⟨a,e1,rfl⟩:=q;obtain⟨vs,e2,l⟩:=r.cont _ a ds e1 e;exact⟨a,vs,rfl,e2,l⟩
 ·cases e
theorem zcx(r:RepS h o H S)(e:zdT S x=some d)(q:HasX h o H x v):Has H d v:=by
 unfold zdT at e;split at e
 ·cases e;exact Has.mono zao _ _ q
 ·rename_i k;obtain⟨a,e1,rfl⟩:=q;cases hs:S[k]? with
  | none=>rw [hs] at e; cases e
  | some es =>
   rw [hs] at e;cases e;obtain⟨vs,e2,l⟩:=r.cont k a es e1 hs;exact zbk.mpr ⟨a,vs,rfl,e2,HasL.mono zao _ _ l⟩
 ·cases e
 ·cases e
theorem xI(i:Int):HasX h o H (.d (.int i)) (.int i):=(zcc (H:=vx h o H)).mpr rfl
theorem xB(i:Bool):HasX h o H (.d (.bool i)) (.bl i):=(zcP (H:=vx h o H)).mpr rfl
theorem xS(i:Str):HasX h o H (.d (.str i)) (.str i):=(zdw (H:=vx h o H)).mpr rfl
theorem xN:HasX h o H (.d .none) .non:=(zdd (H:=vx h o H)).mpr rfl
theorem znM{vs:List V}{R:RX}{Q:VK}(r:RepS h o H S)(l:HasL (vx h o H) ds vs)(c:Cn h o H R Q)(q:R (.d (.tuple ds)) S):∀ p,H p=none->Q (.ref p) (upd H p (.tup vs)):=fun p hp =>
 c o _ S (.d (.tuple ds)) _ (Ex.of_same (Same.laid hp)) (r.same (Same.laid hp)) (zay.mpr ⟨p,vs,rfl,r.laid hp,l.mono (zfu (Same.laid hp))⟩) q
theorem zkH{vs:List V}{R:RX}{Q:VK}(r:RepS h o H S)(l:HasL (vx h o H) ds vs)(c:Cn h o H R Q)(q:R (.d (.list ds)) S):∀ p,H p=none->Q (.ref p) (upd H p (.lst vs)):=fun p hp =>
 c o _ S (.d (.list ds)) _ (Ex.of_same (Same.laid hp)) (r.same (Same.laid hp)) (zbk.mpr ⟨p,vs,rfl,r.laid hp,l.mono (zfu (Same.laid hp))⟩) q
theorem zsH{vs:List V}{R:RX}{Q:VK}(r:RepS h o H S)(l:HasL (vx h o H) ds vs)(c:Cn h o H R Q)(q:R (.l S.length) (S++[ds])):∀ p,H p=none->Q (.ref p) (upd H p (.lst vs)):=fun p hp =>
 c (o++[p]) _ (S++[ds]) (.l S.length) _ (Ex.new r hp) (r.new hp l) ⟨p,by rw [r.len,getElem?_concat_length],rfl⟩ q
theorem zgq:∀ {xs:List XV} {vs:List V} {ds:List PyData},HasXs h o H xs vs->xs=ds.map XV.d->HasL (vx h o H) ds vs
 | [],vs,[],q,_=>zM.mpr q
 | x :: xs,vs,d :: ds,⟨v,r,e,q,l⟩,e2=>by
  rw [map_cons] at e2;cases e2;exact zD.mpr ⟨v,r,e,q,zgq l rfl⟩
 | x :: xs,vs,[],_,e2=>by cases e2
 | [],vs,d :: ds,_,e2=>by cases e2
end
def datas:List XV->Option (List PyData)
 | []=>some []
 | .d d :: r=>(datas r).map (d :: ·)
 | _ :: _=>none
theorem zdv:∀ {xs:List XV} {ds:List PyData},datas xs=some ds->xs=ds.map XV.d
 | [],ds,e=>by cases e; rfl
 | .d d :: r,ds,e=>by
  unfold datas at e;cases hr:datas r with
  | none=>rw [hr] at e; cases e
  | some es =>
   rw [hr] at e;cases e;rw [zdv hr];rfl
 | .l _ :: _,_,e=>by cases e
 | .o _ :: _,_,e=>by cases e
 | .x _ _ :: _,_,e=>by cases e
def zh(i:Nat):DE:=fun δ S R=>∃ x,δ[i]? = some (some x)/\R x S
def dC(d:PyData):DE:=fun _ S R=>R (.d d) S
def dO(v:V):DE:=fun _ S R=>R (.o v) S
def dOp(rd:D2)(a b:DE):DE:=fun δ S R=>a δ S fun x S1=>b δ S1 fun y S2=>rd x y S2 R
def dUn(rd:XV->Sto->RX->Prop)(a:DE):DE:=fun δ S R=>a δ S fun x S1=>rd x S1 R
def zq:DA:=fun _ S R=>R [] S
def zc(a:DE)(b:DA):DA:=fun δ S R=>a δ S fun x S1=>b δ S1 fun xs S2=>R (x :: xs) S2
def dCB(rd:List XV->Sto->RX->Prop)(a:DA):DE:=fun δ S R=>a δ S fun xs S1=>rd xs S1 R
def zc0(a:DA):DE:=fun δ S R=>a δ S fun xs S1=>∃ ds,datas xs=some ds/\ds.length<=1000/\R (.d (.tuple ds)) S1
def zhr(a:DA):DE:=fun δ S R=>a δ S fun xs S1=>∃ ds,datas xs=some ds/\ds.length<=1000/\R (.d (.list ds)) S1
def zdb(a:DA):DE:=fun δ S R=>a δ S fun xs S1=>∃ ds,datas xs=some ds/\ds.length<=1000/\R (.l S1.length) (S1++[ds])
section
variable {t ta tb tc:TE} {da db dc:DE} {tl:TA} {dl:DA} {tt tu:TT} {dt du:DT}
theorem zj{i:Nat}:RE (zn3 i) (zh i):=fun h o H δ σ S R Q he hs ⟨x,e,q⟩ c=>by
 obtain⟨v,e1,e2⟩:=he.get i x e;exact⟨v,e1,c o H S x v Ex.refl hs e2 q⟩
theorem zQ{i:Int}:RE (tC (.int i)) (dC (.int i)):=fun h o H δ σ S R Q he hs q c=>c o H S _ _ Ex.refl hs (xI i) q
theorem zhJ{i:Bool}:RE (tC (.bl i)) (dC (.bool i)):=fun h o H δ σ S R Q he hs q c=>c o H S _ _ Ex.refl hs (xB i) q
theorem znT{i:Str}:RE (tC (.str i)) (dC (.str i)):=fun h o H δ σ S R Q he hs q c=>c o H S _ _ Ex.refl hs (xS i) q
theorem zuz:RE (tC .non) (dC .none):=fun h o H δ σ S R Q he hs q c=>c o H S _ _ Ex.refl hs xN q
theorem zwq{v:V}:RE (tC v) (dO v):=fun h o H δ σ S R Q he hs q c=>c o H S (.o v) v Ex.refl hs rfl q
theorem zW{r:R2}{rd:D2}(hr:RO r rd)(ha:RE ta da)(hb:RE tb db):RE (tOp r ta tb) (dOp rd da db):=fun h o H δ σ S R Q he hs q c =>
 ha h o H δ σ S _ _ he hs q fun o1 H1 S1 x v e1 s1 x1 d1=>hb h o1 H1 δ σ S1 _ _ (he.mono e1) s1 d1 fun o2 H2 S2 y u e2 s2 y2 d2 =>
  hr h o2 H2 S2 x y v u R Q s2 (x1.mono e2) y2 d2 (c.pre (e1.trans e2))
theorem zsG{r:V->Hp->VK->Prop}{rd:XV->Sto->RX->Prop}(hr:RU r rd)(ha:RE ta da):RE (tUn r ta) (dUn rd da):=fun h o H δ σ S R Q he hs q c =>
 ha h o H δ σ S _ _ he hs q fun o1 H1 S1 x v e1 s1 x1 d1=>hr h o1 H1 S1 x v R Q s1 x1 d1 (c.pre e1)
theorem zw:RA zth zq:=fun h o H δ σ S R Q he hs q c=>c o H S [] [] Ex.refl hs rfl q
theorem zg(ha:RE ta da)(hb:RA tl dl):RA (zjJ ta tl) (zc da dl):=fun h o H δ σ S R Q he hs q c =>
 ha h o H δ σ S _ _ he hs q fun o1 H1 S1 x v e1 s1 x1 d1=>hb h o1 H1 δ σ S1 _ _ (he.mono e1) s1 d1 fun o2 H2 S2 xs vs e2 s2 x2 d2 =>
  c o2 H2 S2 (x :: xs) (v :: vs) (e1.trans e2) s2 ⟨v,vs,rfl,x1.mono e2,x2⟩ d2
theorem zbf{r:List V->Hp->VK->Prop}{rd:List XV->Sto->RX->Prop}(hr:RC r rd)(ha:RA tl dl):RE (tCB r tl) (dCB rd dl):=fun h o H δ σ S R Q he hs q c =>
 ha h o H δ σ S _ _ he hs q fun o1 H1 S1 xs vs e1 s1 x1 d1=>hr h o1 H1 S1 xs vs R Q s1 x1 d1 (c.pre e1)
theorem zdN(ha:RA tl dl):RE (zwQ tl) (zc0 dl):=fun h o H δ σ S R Q he hs q c =>
 ha h o H δ σ S _ _ he hs q fun o1 H1 S1 xs vs e1 s1 x1 ⟨ds,e,hl,d1⟩=>by
  have l:=zgq x1 (zdv e);exact⟨by rw [l.length]; exact le_of_lt (small1000 hl),znM s1 l (c.pre e1) d1⟩
theorem zvs(ha:RA tl dl):RE (ztx tl) (zhr dl):=fun h o H δ σ S R Q he hs q c =>
 ha h o H δ σ S _ _ he hs q fun o1 H1 S1 xs vs e1 s1 x1 ⟨ds,e,hl,d1⟩=>by
  have l:=zgq x1 (zdv e);exact⟨by rw [l.length]; exact le_of_lt (small1000 hl),zkH s1 l (c.pre e1) d1⟩
theorem zs5(ha:RA tl dl):RE (ztx tl) (zdb dl):=fun h o H δ σ S R Q he hs q c =>
 ha h o H δ σ S _ _ he hs q fun o1 H1 S1 xs vs e1 s1 x1 ⟨ds,e,hl,d1⟩=>by
  have l:=zgq x1 (zdv e);exact⟨by rw [l.length]; exact le_of_lt (small1000 hl),zsH s1 l (c.pre e1) d1⟩
def dB(a:DE):DT:=fun δ S R=>a δ S fun x S1=>asB x fun b=>R b S1
def zga(a:DT):DT:=fun δ S R=>a δ S fun b S1=>R (!b) S1
def ztX(a b:DT):DT:=fun δ S R=>a δ S fun x S1=>if x=true then b δ S1 R else R false S1
def dOr(a b:DT):DT:=fun δ S R=>a δ S fun x S1=>if x=true then R true S1 else b δ S1 R
def zfi(a b:DE):DE:=fun δ S R=>a δ S fun x S1=>asB x fun c=>if c=true then b δ S1 R else R (.d (.bool false)) S1
def zvL(a b:DE):DE:=fun δ S R=>a δ S fun x S1=>asB x fun c=>if c=true then R (.d (.bool true)) S1 else b δ S1 R
def zmr(a:DE):DE:=fun δ S R=>a δ S fun x S1=>asB x fun c=>R (.d (.bool (!c))) S1
def dIf(c:DT)(a b:DE):DE:=fun δ S R=>c δ S fun x S1=>if x=true then a δ S1 R else b δ S1 R
theorem zqD(ha:RE ta da):RT (zod ta) (dB da):=fun h o H δ σ S R Q he hs q c =>
 ha h o H δ σ S _ _ he hs q fun o1 H1 S1 x v e1 s1 x1 d1=>by
  replace d1:=zhm d1;obtain⟨b,rfl,d1⟩:=d1;exact⟨b,zdj x1,c o1 H1 S1 b e1 s1 d1⟩
theorem zin(ha:RT tt dt):RT (zwR tt) (zga dt):=fun h o H δ σ S R Q he hs q c =>
 ha h o H δ σ S _ _ he hs q fun o1 H1 S1 b e1 s1 d1=>c o1 H1 S1 _ e1 s1 d1
theorem zuh(ha:RT tt dt)(hb:RT tu du):RT (zwP tt tu) (ztX dt du):=fun h o H δ σ S R Q he hs q c =>
 ha h o H δ σ S _ _ he hs q fun o1 H1 S1 b e1 s1 d1=>by
  cases b with
  | true=>exact zpG (hb h o1 H1 δ σ S1 R Q (he.mono e1) s1 (by simpa using d1) fun o2 H2 S2 b e2=>c o2 H2 S2 b (e1.trans e2))
  | false=>exact zpI (c o1 H1 S1 false e1 s1 (by simpa using d1))
theorem zwn(ha:RT tt dt)(hb:RT tu du):RT (tOr tt tu) (dOr dt du):=fun h o H δ σ S R Q he hs q c =>
 ha h o H δ σ S _ _ he hs q fun o1 H1 S1 b e1 s1 d1=>by
  cases b with
  | false=>exact zpI (hb h o1 H1 δ σ S1 R Q (he.mono e1) s1 (by simpa using d1) fun o2 H2 S2 b e2=>c o2 H2 S2 b (e1.trans e2))
  | true=>exact zpG (c o1 H1 S1 true e1 s1 (by simpa using d1))
theorem zhX(ha:RE ta da)(hb:RE tb db):RE (ztI ta tb) (zfi da db):=fun h o H δ σ S R Q he hs q c =>
 ha h o H δ σ S _ _ he hs q fun o1 H1 S1 x v e1 s1 x1 d1=>by
  replace d1:=zhm d1;obtain⟨b,rfl,d1⟩:=d1;refine⟨b,zdj x1,?_⟩;cases b with
  | true=>exact zpG (hb h o1 H1 δ σ S1 R Q (he.mono e1) s1 (by simpa using d1) (c.pre e1))
  | false=>exact zpI (c o1 H1 S1 _ _ e1 s1 (xB false) (by simpa using d1))
theorem zwd(ha:RE ta da)(hb:RE tb db):RE (zwD ta tb) (zvL da db):=fun h o H δ σ S R Q he hs q c =>
 ha h o H δ σ S _ _ he hs q fun o1 H1 S1 x v e1 s1 x1 d1=>by
  replace d1:=zhm d1;obtain⟨b,rfl,d1⟩:=d1;refine⟨b,zdj x1,?_⟩;cases b with
  | false=>exact zpI (hb h o1 H1 δ σ S1 R Q (he.mono e1) s1 (by simpa using d1) (c.pre e1))
  | true=>exact zpG (c o1 H1 S1 _ _ e1 s1 (xB true) (by simpa using d1))
theorem zt3(ha:RE ta da):RE (zuH ta) (zmr da):=fun h o H δ σ S R Q he hs q c =>
 ha h o H δ σ S _ _ he hs q fun o1 H1 S1 x v e1 s1 x1 d1=>by
  replace d1:=zhm d1;obtain⟨b,rfl,d1⟩:=d1;exact⟨b,zdj x1,c o1 H1 S1 _ _ e1 s1 (xB _) d1⟩
theorem zvy(hc:RT tt dt)(ha:RE ta da)(hb:RE tb db):RE (tIf tt ta tb) (dIf dt da db):=fun h o H δ σ S R Q he hs q c =>
 hc h o H δ σ S _ _ he hs q fun o1 H1 S1 b e1 s1 d1=>by
  cases b with
  | true=>exact zpG (ha h o1 H1 δ σ S1 R Q (he.mono e1) s1 (by simpa using d1) (c.pre e1))
  | false=>exact zpI (hb h o1 H1 δ σ S1 R Q (he.mono e1) s1 (by simpa using d1) (c.pre e1))
def zgY(rd rd':D2)(a b e:DE):DE:=fun δ S R=>a δ S fun x S1=>b δ S1 fun y S2=>rd x y S2 fun z S3=>asB z fun k=>if k=true then e δ S3 fun u S4=>rd' y u S4 R else R (.d (.bool false)) S3
theorem zje{r r':R2}{rd rd':D2}(hr:RO r rd)(hr':RO r' rd')(ha:RE ta da)(hb:RE tb db)(hc:RE tc dc):RE (zo0 r r' ta tb tc) (zgY rd rd' da db dc):=fun h o H δ σ S R Q he hs q c =>
 ha h o H δ σ S _ _ he hs q fun o1 H1 S1 x v e1 s1 x1 d1=>hb h o1 H1 δ σ S1 _ _ (he.mono e1) s1 d1 fun o2 H2 S2 y u e2 s2 y2 d2 =>
  hr h o2 H2 S2 x y v u _ _ s2 (x1.mono e2) y2 d2 fun o3 H3 S3 z w e3 s3 z3 d3=>by
   replace d3:=zhm d3;obtain⟨b,rfl,d3⟩:=d3;refine⟨b,zdj z3,?_⟩;cases b with
   | false=>exact zpI (c o3 H3 S3 _ _ ((e1.trans e2).trans e3) s3 (xB false) (by simpa using d3))
   | true=>exact zpG (hc h o3 H3 δ σ S3 _ _ (((he.mono e1).mono e2).mono e3) s3 (by simpa using d3) fun o4 H4 S4 k w' e4 s4 k4 d4=>hr' h o4 H4 S4 y k u w' R Q s4 ((y2.mono e3).mono e4) k4 d4 (c.pre (((e1.trans e2).trans e3).trans e4)))
end
def dI(C:Int->Int->Prop)(g:Int->Int->Int):D2:=fun x y S R=>asI x fun i=>asI y fun j=>C i j/\R (.d (.int (g i j))) S
def dI0(g:Int->Int->Int):D2:=fun x y S R=>asI x fun i=>asI y fun j=>R (.d (.int (g i j))) S
def dIb(g:Int->Int->Bool):D2:=fun x y S R=>asI x fun i=>asI y fun j=>R (.d (.bool (g i j))) S
def dUI(g:Int->Int):XV->Sto->RX->Prop:=fun x S R=>asI x fun i=>R (.d (.int (g i))) S
def zf3:D2:=fun x y S R=>∃ d,zdT S x=some d/\∃ e,zdT S y=some e/\SeqAt.shaped d=true/\SeqAt.shaped e=true/\R (.d (.bool (PyData.eqv d e))) S
def zmB:D2:=fun x y S R=>∃ d,zdT S x=some d/\∃ e,zdT S y=some e/\SeqAt.shaped d=true/\SeqAt.shaped e=true/\R (.d (.bool (!PyData.eqv d e))) S
def zvd:D2:=fun x _ S R=>asD x fun d=>R (.d (.bool (ziE d))) S
def zmG:D2:=fun x _ S R=>asD x fun d=>R (.d (.bool (!ziE d))) S
def zw5:D2:=fun x y S R=>asT x fun ds=>asI y fun i=>∃ d,atI ds i=some d/\R (.d d) S
def zwS:D2:=fun x y S R=>asL S x fun ds=>asI y fun i=>∃ d,atI ds i=some d/\R (.d d) S
def zxa:D2:=fun x y S R=>asL S x fun ds=>asL S y fun es=>ds.length+es.length<=1000/\R (.d (.list (ds++es))) S
def zv5:D2:=fun x y S R=>asT x fun ds=>asT y fun es=>ds≠[]/\ds.length+es.length<=1000/\R (.d (.tuple (ds++es))) S
section
theorem zsn{C:Int->Int->Prop}{g:Int->Int->Int}:RO (rI C fun i j=>.int (g i j)) (dI C g):=fun h o H S x y v u R Q hs hx hy q c=>by
 replace q:=zbt q;obtain⟨i,rfl,q⟩:=q;replace q:=zbt q;obtain⟨j,rfl,hc,q⟩:=q;exact⟨i,j,zbd hx,zbd hy,hc,c o H S _ _ Ex.refl hs (xI _) q⟩
theorem zpN{g:Int->Int->Int}:RO (rI0 fun i j=>.int (g i j)) (dI0 g):=fun h o H S x y v u R Q hs hx hy q c=>by
 replace q:=zbt q;obtain⟨i,rfl,q⟩:=q;replace q:=zbt q;obtain⟨j,rfl,q⟩:=q;exact⟨i,j,zbd hx,zbd hy,c o H S _ _ Ex.refl hs (xI _) q⟩
theorem zkV{g:Int->Int->Bool}:RO (rI0 fun i j=>.bl (g i j)) (dIb g):=fun h o H S x y v u R Q hs hx hy q c=>by
 replace q:=zbt q;obtain⟨i,rfl,q⟩:=q;replace q:=zbt q;obtain⟨j,rfl,q⟩:=q;exact⟨i,j,zbd hx,zbd hy,c o H S _ _ Ex.refl hs (xB _) q⟩
theorem zv6{g:Int->Int}:RU (rU fun i=>.int (g i)) (dUI g):=fun h o H S x v R Q hs hx q c=>by
 replace q:=zbt q;obtain⟨i,rfl,q⟩:=q;exact⟨i,zbd hx,c o H S _ _ Ex.refl hs (xI _) q⟩
theorem zhK:RO zwu zf3:=fun h o H S x y v u R Q hs hx hy q c=>by
 obtain⟨d,q1,e,q2,q3,q4,q⟩:=q;exact⟨d,e,zcx hs q1 hx,zcx hs q2 hy,q3,q4,c o H S _ _ Ex.refl hs (xB _) q⟩
theorem zlH:RO zwG zmB:=fun h o H S x y v u R Q hs hx hy q c=>by
 obtain⟨d,q1,e,q2,q3,q4,q⟩:=q;exact⟨d,e,zcx hs q1 hx,zcx hs q2 hy,q3,q4,c o H S _ _ Ex.refl hs (xB _) q⟩
theorem zua{ta:TE}{da:DE}(ha:RE ta da):RE (tOp zwk ta (tC .non)) (dOp zvd da (dC .none)):=fun h o H δ σ S R Q he hs q c =>
 ha h o H δ σ S _ _ he hs q fun o1 H1 S1 x v e1 s1 x1 d1=>by
  replace d1:=zd9 d1;obtain⟨d,rfl,d1⟩:=d1;have e:=zeO (show Has _ d v from x1);exact⟨rfl,by rw [e]; exact c o1 H1 S1 _ _ e1 s1 (xB _) d1⟩
theorem zkF{ta:TE}{da:DE}(ha:RE ta da):RE (tOp zta ta (tC .non)) (dOp zmG da (dC .none)):=fun h o H δ σ S R Q he hs q c =>
 ha h o H δ σ S _ _ he hs q fun o1 H1 S1 x v e1 s1 x1 d1=>by
  replace d1:=zd9 d1;obtain⟨d,rfl,d1⟩:=d1;have e:=zeO (show Has _ d v from x1);exact⟨rfl,by rw [e]; exact c o1 H1 S1 _ _ e1 s1 (xB _) d1⟩
theorem HasL.atI{H:Hp}{ds:List PyData}{vs:List V}{i:Int}{d:PyData}(l:HasL H ds vs)(e:L2.atI ds i=some d):∃ v,L2.atI vs i=some v/\Has H d v:=by
 unfold L2.atI at e ⊢;rw [l.length];cases hn:ixN ds.length i with
 | none=>rw [hn] at e; cases e
 | some j =>
  rw [hn] at e;exact l.get (show ds[j]? = some d from e)
theorem zu0{K:W.Frag}:RO (zv2 K) zw5:=fun h o H S x y v u R Q hs hx hy q c=>by
 replace q:=zf4 q;obtain⟨ds,rfl,q⟩:=q;replace q:=zbt q;obtain⟨i,rfl,d,e,q⟩:=q;obtain⟨a,vs,rfl,ea,l⟩:=zdJ hx;obtain⟨w,ew,hw⟩:=l.atI e;exact⟨a,vs,i,w,rfl,zbd hy,.of ea,ew,c o H S (.d d) w Ex.refl hs hw q⟩
theorem zrX{K:W.Frag}:RO (zwj K) zwS:=fun h o H S x y v u R Q hs hx hy q c=>by
 obtain⟨ds,e0,q⟩:=q;replace q:=zbt q;obtain⟨i,rfl,d,e,q⟩:=q;obtain⟨a,vs,rfl,ea,l⟩:=zbH hs e0 hx;obtain⟨w,ew,hw⟩:=l.atI e;exact⟨a,vs,i,w,rfl,zbd hy,.of ea,ew,c o H S (.d d) w Ex.refl hs hw q⟩
theorem zum:RO ztw zxa:=fun h o H S x y v u R Q hs hx hy q c=>by
 obtain⟨ds,e0,es,e1,hl,q⟩:=q;obtain⟨a,vs,rfl,ea,la⟩:=zbH hs e0 hx;obtain⟨b,us,rfl,eb,lb⟩:=zbH hs e1 hy;exact⟨a,b,vs,us,rfl,rfl,ea,eb,by rw [la.length,lb.length]; exact le_of_lt (small1000 hl),zkH hs (la.append lb) c q⟩
theorem zsQ{K:W.Frag}:RO (zsZ K) zv5:=fun h o H S x y v u R Q hs hx hy q c=>by
 replace q:=zf4 q;obtain⟨ds,rfl,q⟩:=q;replace q:=zf4 q;obtain⟨es,rfl,hn,hl,q⟩:=q;obtain⟨a,vs,rfl,ea,la⟩:=zdJ hx;obtain⟨b,us,rfl,eb,lb⟩:=zdJ hy;refine⟨a,b,vs,us,rfl,rfl,.of ea,.of eb,fun z=>?_,by rw [la.length,lb.length]; exact le_of_lt (small1000 hl),fun z=>?_,fun _=>znM hs (la.append lb) c q⟩
 ·subst z;have:=la.length;exact hn (eq_nil_of_length_eq_zero this.symm)
 ·subst z;have e:es=[]:=eq_nil_of_length_eq_zero lb.length.symm;subst e;rw [append_nil] at q;exact c o H S (.d (.tuple ds)) _ Ex.refl hs hx q
end
abbrev DO:=XE->Sto->(Option Int->Sto->Prop)->Prop
def RP(t:TO)(dt:DO):Prop:=∀ (h o:List Addr) (H:Hp) (δ:XE) (σ:St) (S:Sto) (R:Option Int->Sto->Prop) (Q:Option Int->Hp->Prop),RepE h o H δ σ->RepS h o H S->dt δ S R ->
 (∀ o' H' S' b,Ex o H o' H'->RepS h o' H' S'->R b S'->Q b H')->t σ H Q
def zbr:DO:=fun _ S R=>R none S
def zel(a:DE):DO:=fun δ S R=>a δ S fun x S1=>asI x fun i=>R (some i) S1
theorem zdh:RP znU zbr:=fun h o H δ σ S R Q he hs q c=>c o H S none Ex.refl hs q
theorem zdq{t:TE}{da:DE}(ha:RE t da):RP (zmW t) (zel da):=fun h o H δ σ S R Q he hs q c =>
 ha h o H δ σ S _ _ he hs q fun o1 H1 S1 x v e1 s1 x1 d1=>by
  replace d1:=zbt d1;obtain⟨i,rfl,d1⟩:=d1;exact⟨i,zbd x1,c o1 H1 S1 _ e1 s1 d1⟩
abbrev D3:=XV->Option Int->Option Int->Sto->RX->Prop
def RL(r:V->Option Int->Option Int->Hp->VK->Prop)(rd:D3):Prop:=∀ (h o:List Addr) (H:Hp) (S:Sto) (x:XV) (v:V) (a b:Option Int) (R:RX) (Q:VK),RepS h o H S->HasX h o H x v->rd x a b S R->Cn h o H R Q->r v a b H Q
def dSl(rd:D3)(e:DE)(a b:DO):DE:=fun δ S R=>e δ S fun x S1=>a δ S1 fun i S2=>b δ S2 fun j S3=>rd x i j S3 R
theorem zi9{r:V->Option Int->Option Int->Hp->VK->Prop}{rd:D3}{te:TE}{de:DE}{ta tb:TO}{da db:DO}(hr:RL r rd)(he':RE te de)(ha:RP ta da)(hb:RP tb db):RE (tSl r te ta tb) (dSl rd de da db):=fun h o H δ σ S R Q he hs q c =>
 he' h o H δ σ S _ _ he hs q fun o1 H1 S1 x v e1 s1 x1 d1=>ha h o1 H1 δ σ S1 _ _ (he.mono e1) s1 d1 fun o2 H2 S2 i e2 s2 d2=>hb h o2 H2 δ σ S2 _ _ ((he.mono e1).mono e2) s2 d2 fun o3 H3 S3 j e3 s3 d3 =>
  hr h o3 H3 S3 x v i j R Q s3 ((x1.mono e2).mono e3) d3 (c.pre ((e1.trans e2).trans e3))
def zw8:D3:=fun x i j S R=>asL S x fun ds=>R (.d (.list (zdl ds i j))) S
def zw7:D3:=fun x i j S R=>asT x fun ds=>¬ (HT.sIx ds.length 0 i=0/\HT.sIx ds.length ds.length j=ds.length)/\R (.d (.tuple (zdl ds i j))) S
theorem zoN{K:W.Frag}:RL (zuS K) zw8:=fun h o H S x v a b R Q hs hx q c=>by
 obtain⟨ds,e0,q⟩:=q;obtain⟨p,vs,rfl,ea,l⟩:=zbH hs e0 hx;exact⟨p,vs,rfl,.of ea,zkH hs (l.cut a b) c q⟩
theorem zud{K:W.Frag}:RL (zvV K) zw7:=fun h o H S x v a b R Q hs hx q c=>by
 replace q:=zf4 q;obtain⟨ds,rfl,hn,q⟩:=q;obtain⟨p,vs,rfl,ea,l⟩:=zdJ hx;exact⟨p,vs,rfl,.of ea,by rw [l.length]; exact hn,znM hs (l.cut a b) c q⟩
def asQ(S:Sto):XV->Option (List PyData)
 | .d (.tuple ds)=>some ds
 | .d (.list ds)=>some ds
 | .l k=>S[k]?
 | _=>none
theorem zim{h o:List Addr}{H:Hp}{S:Sto}{x:XV}{v:V}{ds:List PyData}(r:RepS h o H S)(e:asQ S x=some ds)(q:HasX h o H x v):∃ a vs,v=.ref a/\(H a=some (.tup vs)\/H a=some (.lst vs))/\HasL (vx h o H) ds vs:=by
 unfold asQ at e;split at e
 ·cases e;obtain⟨a,vs,e,q,l⟩:=zdJ q;exact⟨a,vs,e,.inl q,l⟩
 ·cases e;obtain⟨a,vs,e,q,l⟩:=zbH (x:=.d (.list ds)) (ds:=ds) r rfl q;exact⟨a,vs,e,.inr q,l⟩
 ·rename_i k;obtain⟨a,vs,e,q,l⟩:=zbH (x:=.l k) r e q;exact⟨a,vs,e,.inr q,l⟩
 ·cases e
def arg1:List XV->(XV->Prop)->Prop
 | [x],k=>k x
 | _,_=>False
def arg2:List XV->(XV->XV->Prop)->Prop
 | [x,y],k=>k x y
 | _,_=>False
theorem za0{xs:List XV}{k:XV->Prop}(h:arg1 xs k):∃ x,xs=[x]/\k x:=by
 unfold arg1 at h;split at h
 ·exact⟨_,rfl,h⟩
 ·exact h.elim
theorem zlc{xs:List XV}{k:XV->XV->Prop}(h:arg2 xs k):∃ x y,xs=[x,y]/\k x y:=by
 unfold arg2 at h;split at h
 ·exact⟨_,_,rfl,h⟩
 ·exact h.elim
theorem hxs1{h o:List Addr}{H:Hp}{x:XV}{vs:List V}(q:HasXs h o H [x] vs):∃ v,vs=[v]/\HasX h o H x v:=by
 obtain⟨v,r,e,hx,hr⟩:=q;cases hr;exact⟨v,e,hx⟩
theorem hxs2{h o:List Addr}{H:Hp}{x y:XV}{vs:List V}(q:HasXs h o H [x,y] vs):∃ v u,vs=[v,u]/\HasX h o H x v/\HasX h o H y u:=by
 obtain⟨v,r,e,hx,q⟩:=q;obtain⟨u,e',hy⟩:=hxs1 q;subst e';exact⟨v,u,e,hx,hy⟩
def zwe:XV->(String->Prop)->Prop
 | .o v,k=>∃ c,v=.ty c/\k c
 | _,_=>False
def zwc:XV->(Int->Prop)->Prop
 | .d d,k=>match d with
  | .int i=>k i
  | .bool b=>k (if b then 1 else 0)
  | _=>False
 | _,_=>False
theorem ztj{x:XV}{k:String->Prop}(h:zwe x k):∃ c,x=.o (.ty c)/\k c:=by
 cases x with
 | o v =>
  obtain⟨c,rfl,h⟩:=h;exact⟨c,rfl,h⟩
 | d d=>exact h.elim
 | l j=>exact h.elim
 | x _ _=>exact h.elim
theorem zsS{x:XV}{k:Int->Prop}(h:zwc x k):(∃ i,x=.d (.int i)/\k i)\/∃ b,x=.d (.bool b)/\k (if b then 1 else 0):=by
 cases x with
 | d d =>
  cases d with
  | int i=>exact .inl ⟨i,rfl,h⟩
  | bool b=>exact .inr ⟨b,rfl,h⟩
  | _=>exact h.elim
 | _=>exact h.elim
def zw1:List XV->Sto->RX->Prop:=fun xs S R=>arg1 xs fun x=>∃ ds,asQ S x=some ds/\R (.d (.int ds.length)) S
theorem zpf{K:W.Frag}:RC (zvO K) zw1:=fun h o H S xs vs R Q hs hx q c=>by
 obtain⟨x,rfl,ds,hd,q1⟩:=za0 q;obtain⟨v,rfl,hx1⟩:=hxs1 hx;obtain⟨a,ws,rfl,ea,l⟩:=zim hs hd hx1;refine⟨a,ws,rfl,ea.elim (fun z=>.inr (.of z)) (fun z=>.inl (.of z)),?_⟩;rw [l.length];exact c o H S _ _ Ex.refl hs (xI _) q1
def ziH:List XV->Sto->RX->Prop:=fun xs S R=>arg2 xs fun x y=>zwe y fun cl=>∃ d,zdT S x=some d/\cl∈zpK/\R (.d (.bool (zrz d cl))) S
theorem zre:RC zvP ziH:=fun h o H S xs vs R Q hs hx q c=>by
 obtain⟨x,y,rfl,q1⟩:=zlc q;obtain⟨cl,rfl,d,hd,hc,q2⟩:=ztj q1;obtain⟨v,u,rfl,hx1,hu⟩:=hxs2 hx;cases hu;exact zsK (zcx hs hd hx1) hc (c o H S _ _ Ex.refl hs (xB _) q2)
def zqv:List XV->Sto->RX->Prop:=fun xs S R=>arg1 xs fun x=>zwc x fun i=>R (.d (.int i)) S
theorem zsE:RC (fun xs H Q=>(∃ i,xs=[.int i]/\Q (.int i) H)\/∃ k,xs=[.bl k]/\Q (.int (if k then 1 else 0)) H) zqv:=fun h o H S xs vs R Q hs hx q c=>by
 obtain⟨x,rfl,q1⟩:=za0 q;obtain⟨v,rfl,hx1⟩:=hxs1 hx;rcases zsS q1 with ⟨i,rfl,q2⟩ | ⟨b,rfl,q2⟩
 ·exact .inl ⟨_,by rw [zbd hx1],c o H S _ _ Ex.refl hs (xI _) q2⟩
 ·exact .inr ⟨_,by rw [zdj hx1],c o H S _ _ Ex.refl hs (xI _) q2⟩
def dI2(g:Int->Int->Int):List XV->Sto->RX->Prop:=fun xs S R=>arg2 xs fun x y=>asI x fun i=>asI y fun j=>R (.d (.int (g i j))) S
theorem zwm{g:Int->Int->Int}:RC (fun xs H Q=>∃ i j,xs=[.int i,.int j]/\Q (.int (g i j)) H) (dI2 g):=fun h o H S xs vs R Q hs hx q c=>by
 obtain⟨x,y,rfl,q1⟩:=zlc q;obtain⟨v,u,rfl,hx1,hu⟩:=hxs2 hx;obtain⟨i,rfl,q2⟩:=zbt q1;obtain⟨j,rfl,q3⟩:=zbt q2;exact⟨i,j,by rw [zbd hx1,zbd hu],c o H S _ _ Ex.refl hs (xI _) q3⟩
def zby:List XV->Sto->RX->Prop:=fun xs S R=>arg1 xs fun x=>∃ ds,asQ S x=some ds/\R (.d (.tuple ds)) S
theorem zcM{K:W.Frag}:RC (fun xs H Q=>∃ p ys,xs=[.ref p]/\((SqL K H p ys/\∀ l,H l=none->Q (.ref l) (upd H l (.tup ys)))\/(SqT K H p ys/\Q (.ref p) H))) zby:=fun h o H S xs vs R Q hs hx q c=>by
 obtain⟨x,rfl,ds,hd,q1⟩:=za0 q;obtain⟨v,rfl,hx1⟩:=hxs1 hx;obtain⟨a,ws,rfl,ea,l⟩:=zim hs hd hx1;refine⟨a,ws,rfl,ea.elim (fun z=>.inr ⟨.of z,?_⟩) (fun z=>.inl ⟨.of z,znM hs l c q1⟩)⟩;have hh:HasX h o H (.d (.tuple ds)) (.ref a):=by
  unfold asQ at hd;split at hd
  ·cases hd;exact hx1
  ·obtain⟨a',us,e1,e2,_⟩:=zbH (x:=.d (.list _)) hs rfl hx1;cases e1;rw [z] at e2;cases e2
  ·rename_i k;obtain⟨a',us,e1,e2,_⟩:=zbH (x:=.l k) hs hd hx1;cases e1;rw [z] at e2;cases e2
  ·cases hd
 exact c o H S _ _ Ex.refl hs hh q1
def zlY:List XV->Sto->RX->Prop:=fun xs S R=>arg1 xs fun x=>∃ ds,asQ S x=some ds/\R (.d (.list ds)) S
def zgZ:List XV->Sto->RX->Prop:=fun xs S R=>arg1 xs fun x=>∃ ds,asQ S x=some ds/\R (.l S.length) (S++[ds])
theorem zlj{K:W.Frag}:RC (fun xs H Q=>∃ p ys,xs=[.ref p]/\(SqL K H p ys\/SqT K H p ys)/\∀ l,H l=none->Q (.ref l) (upd H l (.lst ys))) zlY:=fun h o H S xs vs R Q hs hx q c=>by
 obtain⟨x,rfl,ds,hd,q1⟩:=za0 q;obtain⟨v,rfl,hx1⟩:=hxs1 hx;obtain⟨a,ws,rfl,ea,l⟩:=zim hs hd hx1;exact⟨a,ws,rfl,ea.elim (fun z=>.inr (.of z)) (fun z=>.inl (.of z)),zkH hs l c q1⟩
theorem znn{K:W.Frag}:RC (fun xs H Q=>∃ p ys,xs=[.ref p]/\(SqL K H p ys\/SqT K H p ys)/\∀ l,H l=none->Q (.ref l) (upd H l (.lst ys))) zgZ:=fun h o H S xs vs R Q hs hx q c=>by
 obtain⟨x,rfl,ds,hd,q1⟩:=za0 q;obtain⟨v,rfl,hx1⟩:=hxs1 hx;obtain⟨a,ws,rfl,ea,l⟩:=zim hs hd hx1;exact⟨a,ws,rfl,ea.elim (fun z=>.inr (.of z)) (fun z=>.inl (.of z)),zsH hs l c q1⟩
theorem zbG{H:Hp}:∀ {ns:List Int} {vs:List V},HasL H (ns.map PyData.int) vs->vs=ns.map V.int
 | [],vs,h=>zM.mp h
 | n :: ns,vs,h=>by
  obtain⟨v,r,rfl,h1,h2⟩:=zD.mp h;rw [zcc.mp h1,zbG h2];rfl
def zwt:List XV->Sto->RX->Prop:=fun xs S R=>arg1 xs fun x=>∃ ds,asQ S x=some ds/\∃ ns,ds=ns.map PyData.int/\ns≠[]/\∀ m,m∈ns->(∀ a,a∈ns->m<=a)->R (.d (.int m)) S
def zvo:List XV->Sto->RX->Prop:=fun xs S R=>arg1 xs fun x=>∃ ds,asQ S x=some ds/\∃ ns,ds=ns.map PyData.int/\ns≠[]/\∀ m,m∈ns->(∀ a,a∈ns->a<=m)->R (.d (.int m)) S
theorem zvu{K:W.Frag}:RC (zv0 K) zwt:=fun h o H S xs vs R Q hs hx q c=>by
 obtain⟨x,rfl,ds,hd,ns,rfl,hn,q1⟩:=za0 q;obtain⟨v,rfl,hx1⟩:=hxs1 hx;obtain⟨a,ws,rfl,ea,l⟩:=zim hs hd hx1;rw [zbG l] at ea;exact⟨a,ns,rfl,ea.elim (fun z=>.inr (.of z)) (fun z=>.inl (.of z)),hn,fun m m1 m2=>c o H S _ _ Ex.refl hs (xI _) (q1 m m1 m2)⟩
theorem zuM{K:W.Frag}:RC (zwE K) zvo:=fun h o H S xs vs R Q hs hx q c=>by
 obtain⟨x,rfl,ds,hd,ns,rfl,hn,q1⟩:=za0 q;obtain⟨v,rfl,hx1⟩:=hxs1 hx;obtain⟨a,ws,rfl,ea,l⟩:=zim hs hd hx1;rw [zbG l] at ea;exact⟨a,ns,rfl,ea.elim (fun z=>.inr (.of z)) (fun z=>.inl (.of z)),hn,fun m m1 m2=>c o H S _ _ Ex.refl hs (xI _) (q1 m m1 m2)⟩
def dBM(rd:XV->List XV->Sto->RX->Prop)(e:DE)(a:DA):DE:=fun δ S R=>e δ S fun x S1=>∃ k,x=.l k/\k<S1.length/\a δ S1 fun xs S2=>rd x xs S2 R
def ztU(rd:XV->List XV->Sto->RX->Prop)(e:DE):DE:=fun δ S R=>e δ S fun x S1=>∃ k,x=.l k/\k<S1.length/\rd x [] S1 R
def RM(r:V->List V->Hp->VK->Prop)(rd:XV->List XV->Sto->RX->Prop):Prop:=∀ (h o:List Addr) (H:Hp) (S:Sto) (x:XV) (v:V) (xs:List XV) (vs:List V) (R:RX) (Q:VK),RepS h o H S->HasX h o H x v->HasXs h o H xs vs->rd x xs S R->Cn h o H R Q->r v vs H Q
theorem ziP{K:W.Frag}{H:Hp}{a:Addr}{vs:List V}(e:H a=some (.lst vs)):tyV K "list" (.ref a) H:=.inl ⟨rfl,vs,.of e⟩
theorem zrF{h o:List Addr}{H:Hp}{S:Sto}{k:Nat}{v:V}(hs:RepS h o H S)(hk:k<S.length)(hx:HasX h o H (.l k) v):∃ a vs,v=.ref a/\H a=some (.lst vs):=by
 obtain⟨a,e,rfl⟩:=hx;obtain⟨vs,e2,_⟩:=hs.cont k a _ e (getElem?_eq_getElem hk);exact⟨a,vs,rfl,e2⟩
theorem zof{K:W.Frag}{r:V->List V->Hp->VK->Prop}{rd:XV->List XV->Sto->RX->Prop}{te:TE}{de:DE}{tl:TA}{dl:DA}(hr:RM r rd)(he':RE te de)(ha:RA tl dl):RE (tBM K "list" r te tl) (dBM rd de dl):=fun h o H δ σ S R Q he hs q c =>
 he' h o H δ σ S _ _ he hs q fun o1 H1 S1 x v e1 s1 x1 ⟨k,ek,hk,d1⟩=>by
  subst ek;obtain⟨a,ws,rfl,ea⟩:=zrF s1 hk x1;exact⟨ziP ea,ha h o1 H1 δ σ S1 _ _ (he.mono e1) s1 d1 fun o2 H2 S2 xs vs e2 s2 x2 d2=>hr h o2 H2 S2 (.l k) _ xs vs R Q s2 (x1.mono e2) x2 d2 (c.pre (e1.trans e2))⟩
theorem zt4{K:W.Frag}{r:V->List V->Hp->VK->Prop}{rd:XV->List XV->Sto->RX->Prop}{te:TE}{de:DE}(hr:RM r rd)(he':RE te de):RE (zwx K "list" r te) (ztU rd de):=fun h o H δ σ S R Q he hs q c =>
 he' h o H δ σ S _ _ he hs q fun o1 H1 S1 x v e1 s1 x1 ⟨k,ek,hk,d1⟩=>by
  subst ek;obtain⟨a,ws,rfl,ea⟩:=zrF s1 hk x1;exact⟨ziP ea,hr h o1 H1 S1 (.l k) _ [] [] R Q s1 x1 rfl d1 (c.pre e1)⟩
def zbN:XV->List XV->Sto->RX->Prop:=fun x xs S R=>∃ k,x=.l k/\∃ ds,S[k]? = some ds/\arg1 xs fun y=>asD y fun d=>ds.length<1000/\R (.d .none) (S.set k (ds++[d]))
theorem zju:RM zn0 zbN:=fun h o H S x v xs vs R Q hs hx hxs q c=>by
 obtain⟨k,rfl,ds,e,q1⟩:=q;obtain⟨y,rfl,q2⟩:=za0 q1;obtain⟨d,rfl,hl,q3⟩:=zd9 q2;obtain⟨a,ea,rfl⟩:=hx;obtain⟨u,rfl,hu⟩:=hxs1 hxs;obtain⟨ws,ew,l⟩:=hs.cont k a ds ea e;exact⟨a,ws,u,rfl,rfl,ew,by rw [l.length]; exact small1000 (le_of_lt hl),c o _ _ (.d .none) _ (Ex.upd ea) (hs.upd ea (l.append (zD.mpr ⟨u,[],rfl,hu,zM.mpr rfl⟩))) xN q3⟩
def zgg:XV->List XV->Sto->RX->Prop:=fun x xs S R=>∃ k,x=.l k/\∃ ds,S[k]? = some ds/\xs=[]/\R (.d .none) (S.set k ds.reverse)
theorem zmE:RM zl5 zgg:=fun h o H S x v xs vs R Q hs hx hxs q c=>by
 obtain⟨k,rfl,ds,e,rfl,q1⟩:=q;obtain⟨a,ea,rfl⟩:=hx;obtain⟨ws,ew,l⟩:=hs.cont k a ds ea e;cases hxs;exact⟨a,ws,rfl,rfl,ew,c o _ _ (.d .none) _ (Ex.upd ea) (hs.upd ea l.rev) xN q1⟩
def zfw:XV->List XV->Sto->RX->Prop:=fun x xs S R=>∃ k,x=.l k/\∃ ds,S[k]? = some ds/\arg1 xs fun y=>∃ es,zm0 S y=some es/\ds.length+es.length<=1000/\R (.d .none) (S.set k (ds++es))
theorem zg3:RM zoX zfw:=fun h o H S x v xs vs R Q hs hx hxs q c=>by
 obtain⟨k,rfl,ds,e,q1⟩:=q;obtain⟨y,rfl,es,ey,hl,q3⟩:=za0 q1;obtain⟨a,ea,rfl⟩:=hx;obtain⟨u,rfl,hu⟩:=hxs1 hxs;obtain⟨ws,ew,l⟩:=hs.cont k a ds ea e;obtain⟨b,zs,rfl,eb,lb⟩:=zbH hs ey hu;exact⟨a,b,ws,zs,rfl,rfl,ew,eb,by rw [l.length,lb.length]; exact le_of_lt (small1000 hl),c o _ _ (.d .none) _ (Ex.upd ea) (hs.upd ea (l.append lb)) xN q3⟩
def ret0(S:Sto)(R:RX):RX:=fun y S'=>match y,S' with
 | .d d,[]=>R (.d d) S
 | .l 0,[ds]=>R (.l S.length) (S++[ds])
 | _,_=>False
def zvC(k:Nat)(S:Sto)(R:RX):RX:=fun y S'=>match y,S' with
 | .d d,[p]=>R (.d d) (S.set k p)
 | .l 1,[p,ds]=>R (.l S.length) (S.set k p++[ds])
 | _,_=>False
section
variable {h o:List Addr} {H:Hp} {S:Sto} {R:RX} {Q:VK}
theorem zkE{h o h' o':List Addr}{H:Hp}(e:∀ b,(b∈h'\/b∈o')↔(b∈h\/b∈o)):vx h' o' H=vx h o H:=by
 funext b;have iff:∀ u,vx h' o' H b=some u↔vx h o H b=some u:=fun u=>by
  rw [zaj,zaj];have:=e b;constructor
  ·rintro⟨a1,a2,a3⟩;exact⟨fun m=>(this.mpr (.inl m)).elim a1 a2,fun m=>(this.mpr (.inr m)).elim a1 a2,a3⟩
  ·rintro⟨a1,a2,a3⟩;exact⟨fun m=>(this.mp (.inl m)).elim a1 a2,fun m=>(this.mp (.inr m)).elim a1 a2,a3⟩
 cases e1:vx h' o' H b with
 | some u=>exact((iff u).mp e1).symm
 | none =>
  cases e2:vx h o H b with
  | none=>rfl
  | some u=>rw [(iff u).mpr e2] at e1; cases e1
theorem rep0(hs:RepS h o H S):RepS (h++o) [] H [] where
 len:=rfl
 nd:=nodup_nil
 dis:=fun a ha=>by cases ha
 hal:=fun b hb=>(mem_append.mp hb).elim (hs.hal b) (hs.oam b)
 cont:=fun k a ds e=>by simp at e
theorem hx0{d:PyData}{v:V}(hx:HasX h o H (.d d) v):HasX (h++o) [] H (.d d) v:=by
 show Has (vx (h++o) [] H) d v;rw [zkE (h:=h) (o:=o) fun b=>by simp];exact hx
theorem hx0'{d:PyData}{v:V}(hx:HasX (h++o) [] H (.d d) v):HasX h o H (.d d) v:=by
 show Has (vx h o H) d v;rw [<- zkE (h':=h++o) (o':=[]) (h:=h) (o:=o) fun b=>by simp];exact hx
theorem cn0(hs:RepS h o H S)(c:Cn h o H R Q):Cn (h++o) [] H (ret0 S R) Q:=fun o' H' S' y v e s' hy q=>by
 have sm:Same H (vx [] o' H'):=fun b u eb=>by
  obtain⟨a1,a2⟩:=e.kp b u (by simp) eb;exact zaj.mpr ⟨by simp,a1,a2⟩
 have sH:Same H H':=fun b u eb=>(zaj.mp (sm b u eb)).2.2;unfold ret0 at q;split at q
 ·have e0:o'=[]:=eq_nil_of_length_eq_zero s'.len.symm;subst e0;exact c o H' S _ v (Ex.of_same sH) (hs.same sH) (hx0' hy) q
 ·rename_i ds;obtain⟨a,rfl⟩:∃ a,o'=[a]:=List.length_eq_one_iff.mp s'.len.symm;obtain⟨a',ea,rfl⟩:=hy;cases ea;obtain⟨vs,ev,l⟩:=s'.cont 0 a ds rfl rfl;have na:a∉h++o:=s'.dis a (by simp);have hn:H a=none:=by
   cases eh:H a with
   | none=>rfl
   | some u=>exact absurd (e.kp a u (by simp) eh).1 (by simp)
  have e2:Ex o H (o++[a]) H':=⟨⟨[a],rfl⟩,fun b u hb eb=>by
   obtain⟨a1,a2⟩:=e.kp b u (by simp) eb;exact⟨by simp only [mem_append,not_or]; exact⟨hb,a1⟩,a2⟩⟩
  have ev':vx (h++o) [a] H'=vx h (o++[a]) H':=zkE fun b=>by simp [or_assoc]
  rw [ev'] at l;refine c (o++[a]) H' (S++[ds]) (.l S.length) _ e2 ⟨by simp [hs.len],zc3 hs.nd fun m=>na (mem_append_right _ m),fun b hb=>?_,fun b hb=>?_,fun k b es q1 q2=>?_⟩ ⟨a,by rw [hs.len,getElem?_concat_length],rfl⟩ q
  ·rcases mem_append.mp hb with hb | hb
   ·exact hs.dis b hb
   ·rw [mem_singleton.mp hb]; exact fun m=>na (mem_append_left _ m)
  ·obtain⟨u,eb⟩:=hs.hal b hb;exact⟨u,sH b _ eb⟩
  ·by_cases hk:k<o.length
   ·rw [getElem?_append_left hk] at q1;rw [getElem?_append_left (by rw [hs.len]; exact hk)] at q2;obtain⟨ws,e3,l3⟩:=hs.cont k b es q1 q2;exact⟨ws,sH _ _ e3,l3.mono e2.vx⟩
   ·have hk':k=o.length:=by
     obtain⟨q,_⟩:=List.getElem?_eq_some_iff.mp q1;rw [length_append,length_singleton] at q;omega
    subst hk';rw [getElem?_concat_length] at q1;rw [<- hs.len,getElem?_concat_length] at q2;cases q1;cases q2;exact⟨vs,ev,l⟩
 ·exact q.elim
theorem zvF{k:Nat}{a:Addr}{p:List PyData}(hs:RepS h o H S)(ea:o[k]? = some a)(ep:S[k]? = some p):RepS (h++o.filter (fun b=>b≠a)) [a] H [p] where
 len:=rfl
 nd:=by simp
 dis:=fun b hb=>by
  rw [mem_singleton.mp hb];intro m;rcases mem_append.mp m with m | m
  ·exact hs.dis a (mem_of_getElem? ea) m
  ·have:=(mem_filter.mp m).2;simp at this
 hal:=fun b hb=>(mem_append.mp hb).elim (hs.hal b) fun m=>hs.oam b (mem_filter.mp m).1
 cont:=fun j b ds e1 e2=>by
  cases j with
  | succ j=>simp at e1
  | zero =>
   cases e1;cases e2;obtain⟨vs,e3,l⟩:=hs.cont k a p ea ep;refine⟨vs,e3,?_⟩;rw [zkE (h:=h) (o:=o) (mem_pen ea)];exact l
where
 mem_pen {h o:List Addr} {k:Nat} {a:Addr} (ea:o[k]? = some a) (b:Addr):(b∈h++o.filter (fun b=>b≠a)\/b∈[a])↔(b∈h\/b∈o):=by
  have ma:=mem_of_getElem? ea;by_cases e:b=a
  ·subst e;simp [ma]
  ·simp [e]
theorem hxP{k:Nat}{a:Addr}{d:PyData}{v:V}(ea:o[k]? = some a)(hx:HasX h o H (.d d) v):HasX (h++o.filter (fun b=>b≠a)) [a] H (.d d) v:=by
 show Has (vx _ _ H) d v;rw [zkE (h:=h) (o:=o) (zvF.mem_pen ea)];exact hx
theorem cnP{k:Nat}{a:Addr}{p:List PyData}(hs:RepS h o H S)(ea:o[k]? = some a)(ep:S[k]? = some p)(c:Cn h o H R Q):Cn (h++o.filter (fun b=>b≠a)) [a] H (zvC k S R) Q:=fun o' H' S' y v e s' hy q=>by
 have ma:=mem_of_getElem? ea;have hk:k<o.length:=(List.getElem?_eq_some_iff.mp ea).1;unfold zvC at q;split at q
 ·rename_i d p';obtain⟨r,rfl⟩:=e.pre;have er:r=[]:=by
   have:=s'.len;simp at this;exact this
  subst er;have ex:Ex o H o H':=⟨⟨[],by simp⟩,fun b u hb eb=>⟨hb,(e.kp b u (fun m=>hb (by rw [mem_singleton.mp m]; exact ma)) eb).2⟩⟩;obtain⟨vs,ev,l⟩:=s'.cont 0 a p' rfl rfl;have ev':vx (h++o.filter (fun b=>b≠a)) ([a]++[]) H'=vx h o H':=zkE (zvF.mem_pen ea);rw [ev'] at l;refine c o H' (S.set k p') (.d d) v ex ⟨by simp [hs.len],hs.nd,hs.dis,fun b hb=>?_,fun j b es q1 q2=>?_⟩ (by
   have hy':Has (vx (h++o.filter (fun b=>b≠a)) ([a]++[]) H') d v:=hy;rw [ev'] at hy';exact hy') q
  ·obtain⟨u,eb⟩:=hs.hal b hb;exact⟨u,(e.kp b _ (fun m=>hs.dis a ma (by rw [<- mem_singleton.mp m]; exact hb)) eb).2⟩
  ·by_cases hj:j=k
   ·subst hj;rw [q1] at ea;cases ea;rw [getElem?_set_self (by rw [hs.len]; exact hk)] at q2;cases q2;exact⟨vs,ev,l⟩
   ·rw [getElem?_set_ne (Ne.symm hj)] at q2;obtain⟨ws,e3,l3⟩:=hs.cont j b es q1 q2;have ne:b≠a:=fun z=>hj (ze1 hs.nd q1 (z▸ea));exact⟨ws,(e.kp b _ (by simp [ne]) e3).2,l3.mono ex.vx⟩
 ·rename_i p' ds;obtain⟨r,rfl⟩:=e.pre;obtain⟨a2,rfl⟩:∃ a2,r=[a2]:=by
   have:=s'.len;simp at this;exact List.length_eq_one_iff.mp this
  obtain⟨b2,eb2,rfl⟩:=hy;cases eb2;obtain⟨vs,ev,l⟩:=s'.cont 0 a p' rfl rfl;obtain⟨vs2,ev2,l2⟩:=s'.cont 1 a2 ds rfl rfl;have n2:a2∉h++o.filter (fun b=>b≠a):=s'.dis a2 (by simp);have n3:a≠a2:=by
   have:=s'.nd;simp at this;exact this
  have n4:a2∉o:=fun m=>n2 (mem_append_right _ (mem_filter.mpr ⟨m,by simp [Ne.symm n3]⟩));have ex:Ex o H (o++[a2]) H':=⟨⟨[a2],rfl⟩,fun b u hb eb=>by
   obtain⟨z1,z2⟩:=e.kp b u (fun m=>hb (by rw [mem_singleton.mp m]; exact ma)) eb;refine⟨?_,z2⟩;simp only [mem_append,not_or];exact⟨hb,fun m=>z1 (by simp at m ⊢; exact .inr m)⟩⟩
  have ev':vx (h++o.filter (fun b=>b≠a)) ([a]++[a2]) H'=vx h (o++[a2]) H':=zkE fun b=>by
   have:=zvF.mem_pen (h:=h) ea b;simp only [mem_append] at this ⊢;rw [<- or_assoc,this,or_assoc]
  rw [ev'] at l l2;refine c (o++[a2]) H' (S.set k p'++[ds]) (.l S.length) _ ex ⟨by simp [hs.len],zc3 hs.nd n4,fun b hb=>?_,fun b hb=>?_,fun j b es q1 q2=>?_⟩ ⟨a2,by rw [hs.len,getElem?_concat_length],rfl⟩ q
  ·rcases mem_append.mp hb with hb | hb
   ·exact hs.dis b hb
   ·rw [mem_singleton.mp hb]; exact fun m=>n2 (mem_append_left _ m)
  ·obtain⟨u,eb⟩:=hs.hal b hb;exact⟨u,(e.kp b _ (fun m=>hs.dis a ma (by rw [<- mem_singleton.mp m]; exact hb)) eb).2⟩
  ·by_cases hjo:j<o.length
   ·rw [getElem?_append_left hjo] at q1;rw [getElem?_append_left (by rw [length_set,hs.len]; exact hjo)] at q2;by_cases hj:j=k
    ·subst hj;rw [q1] at ea;cases ea;rw [getElem?_set_self (by rw [hs.len]; exact hk)] at q2;cases q2;exact⟨vs,ev,l⟩
    ·rw [getElem?_set_ne (Ne.symm hj)] at q2;obtain⟨ws,e3,l3⟩:=hs.cont j b es q1 q2;have ne:b≠a:=fun z=>hj (ze1 hs.nd q1 (z▸ea));exact⟨ws,(e.kp b _ (by simp [ne]) e3).2,l3.mono ex.vx⟩
   ·have hk':j=o.length:=by
     obtain⟨q,_⟩:=List.getElem?_eq_some_iff.mp q1;rw [length_append,length_singleton] at q;omega
    subst hk';rw [getElem?_concat_length] at q1;rw [<- hs.len,<- length_set (i:=k) (a:=p'),getElem?_concat_length] at q2;cases q1;cases q2;exact⟨vs2,ev2,l2⟩
 ·exact q.elim
end
structure DEnds where
 nx:XE->Sto->Prop
 rt:RX
 bk:XE->Sto->Prop:=fun _ _=>False
 ct:XE->Sto->Prop:=fun _ _=>False
abbrev DS:=DEnds->XE->Sto->Prop
abbrev DG:=XV->XE->Sto->(XE->Sto->Prop)->Prop
abbrev DGs:=List PyData->XE->Sto->(XE->Sto->Prop)->Prop
def Nx(h o:List Addr)(H:Hp)(N:XE->Sto->Prop)(M:St->Hp->Prop):Prop:=∀ o' H' δ' S' σ',Ex o H o' H'->RepE h o' H' δ' σ'->RepS h o' H' S'->N δ' S'->M σ' H'
theorem Nx.pre{h o o':List Addr}{H H':Hp}{N:XE->Sto->Prop}{M:St->Hp->Prop}(c:Nx h o H N M)(e:Ex o H o' H'):Nx h o' H' N M:=fun o2 H2 δ2 S2 σ2 e2=>c o2 H2 δ2 S2 σ2 (e.trans e2)
structure EOk(h o:List Addr)(H:Hp)(E:DEnds)(D:Ends):Prop where
 nx:Nx h o H E.nx D.nx
 rt:Cn h o H E.rt D.rt
 bk:Nx h o H E.bk D.bk
 ct:Nx h o H E.ct D.ct
theorem EOk.pre{h o o':List Addr}{H H':Hp}{E:DEnds}{D:Ends}(c:EOk h o H E D)(e:Ex o H o' H'):EOk h o' H' E D:=⟨c.nx.pre e,c.rt.pre e,c.bk.pre e,c.ct.pre e⟩
def RS(t:TS)(dt:DS):Prop:=∀ (h o:List Addr) (H:Hp) (δ:XE) (σ:St) (S:Sto) (E:DEnds) (D:Ends),RepE h o H δ σ->RepS h o H S->dt E δ S->EOk h o H E D->t D σ H
def RG(t:TG)(dt:DG):Prop:=∀ (h o:List Addr) (H:Hp) (δ:XE) (σ:St) (S:Sto) (x:XV) (v:V) (N:XE->Sto->Prop) (M:St->Hp->Prop),RepE h o H δ σ->RepS h o H S->HasX h o H x v->dt x δ S N->Nx h o H N M->t v σ H M
def RGs(t:TGs)(dt:DGs):Prop:=∀ (h o:List Addr) (H:Hp) (δ:XE) (σ:St) (S:Sto) (ds:List PyData) (vs:List V) (N:XE->Sto->Prop) (M:St->Hp->Prop),RepE h o H δ σ->RepS h o H S->HasL (vx h o H) ds vs->dt ds δ S N->Nx h o H N M->t vs σ H M
def zk(i:Nat):DG:=fun x δ S N=>N (δ.set i (some x)) S
def zb8:DGs:=fun ds δ S N=>ds=[]/\N δ S
def hdD:List PyData->(PyData->List PyData->Prop)->Prop
 | d :: es,k=>k d es
 | [],_=>False
theorem zu2{ds:List PyData}{k:PyData->List PyData->Prop}(h:hdD ds k):∃ d es,ds=d :: es/\k d es:=by
 cases ds with
 | nil=>exact h.elim
 | cons d es=>exact⟨d,es,rfl,h⟩
theorem zt1{d:PyData}{es:List PyData}{k:PyData->List PyData->Prop}:hdD (d :: es) k=k d es:=rfl
def zT(g:DG)(r:DGs):DGs:=fun ds δ S N=>hdD ds fun d es=>g (.d d) δ S fun δ' S'=>r es δ' S' N
def zcd(n:Nat)(r:DGs):DG:=fun x δ S N=>asT x fun ds=>ds.length=n/\r ds δ S N
def zjC(a b:DE):DG:=fun x δ S N=>a δ S fun y S1=>b δ S1 fun z S2=>asD x fun d=>∃ k,y=.l k/\∃ ds,S2[k]? = some ds/\asI z fun i=>∃ j,ixN ds.length i=some j/\N δ (S2.set k (ds.set j d))
theorem zv{i:Nat}:RG (zkW i) (zk i):=fun h o H δ σ S x v N M he hs hx q c=>c o H _ S _ Ex.refl (he.set hx) hs q
theorem zcD:RGs zwJ zb8:=fun h o H δ σ S ds vs N M he hs l ⟨e,q⟩ c=>by
 subst e;exact⟨zM.mp l,c o H δ S σ Ex.refl he hs q⟩
theorem zat{t:TG}{u:TGs}{g:DG}{r:DGs}(h1:RG t g)(h2:RGs u r):RGs (zug t u) (zT g r):=fun h o H δ σ S ds vs N M he hs l q0 c=>by
 obtain⟨d,es,rfl,q⟩:=zu2 q0;obtain⟨v,ws,rfl,hv,l⟩:=zD.mp l;exact⟨v,ws,rfl,h1 h o H δ σ S (.d d) v _ _ he hs hv q fun o1 H1 δ1 S1 σ1 e1 he1 hs1 q1=>h2 h o1 H1 δ1 σ1 S1 es ws N M he1 hs1 (l.mono e1.vx) q1 (c.pre e1)⟩
theorem zd8{K:W.Frag}{n:Nat}{t:TGs}{r:DGs}(h1:RGs t r):RG (zwL K n t) (zcd n r):=fun h o H δ σ S x v N M he hs hx q c=>by
 replace q:=zf4 q;obtain⟨ds,rfl,hn,q⟩:=q;obtain⟨a,vs,rfl,ea,l⟩:=zdJ hx;exact⟨a,vs,rfl,.of ea,by rw [l.length]; exact hn,h1 h o H δ σ S ds vs N M he hs l q c⟩
theorem HasL.setAt{H:Hp}:∀ {ds:List PyData} {vs:List V} {j:Nat} {d:PyData} {v:V},HasL H ds vs->Has H d v->HasL H (ds.set j d) (vs.set j v)
 | [],vs,j,d,v,l,_=>by rw [zM.mp l]; exact zM.mpr rfl
 | c :: ds,vs,0,d,v,l,q=>by
  obtain⟨u,r,rfl,_,l⟩:=zD.mp l;exact zD.mpr ⟨v,r,rfl,q,l⟩
 | c :: ds,vs,j+1,d,v,l,q=>by
  obtain⟨u,r,rfl,hu,l⟩:=zD.mp l;exact zD.mpr ⟨u,r.set j v,rfl,hu,HasL.setAt l q⟩
theorem zu6{ta tb:TE}{da db:DE}(ha:RE ta da)(hb:RE tb db):RG (zwI ta tb zvk) (zjC da db):=fun h o H δ σ S x v N M he hs hx q c =>
 ha h o H δ σ S _ _ he hs q fun o1 H1 S1 y u e1 s1 y1 d1=>hb h o1 H1 δ σ S1 _ _ (he.mono e1) s1 d1 fun o2 H2 S2 z w e2 s2 z2 d0=>by
  obtain⟨d,rfl,k,rfl,ds,es,d2⟩:=zd9 d0;replace d2:=zbt d2;obtain⟨i,rfl,j,ej,d2⟩:=d2;obtain⟨a,ea,rfl⟩:=y1.mono e2;obtain⟨ws,ew,l⟩:=s2.cont k a ds ea es;refine⟨a,ws,i,j,rfl,zbd z2,ew,by rw [l.length]; exact ej,?_⟩;exact c o2 _ δ _ σ ((e1.trans e2).trans (Ex.upd ea)) (((he.mono e1).mono e2).mono (Ex.upd ea)) (s2.upd ea (l.setAt (hx.mono (e1.trans e2)))) d2
def zam:DS:=fun E δ S=>E.nx δ S
def zP(t u:DS):DS:=fun E δ S=>t { E with nx:=u E } δ S
def zan(e:DE)(g:DG):DS:=fun E δ S=>e δ S fun x S1=>g x δ S1 E.nx
def zdi(e:DE):DS:=fun E δ S=>e δ S fun _ S1=>E.nx δ S1
def zaD(e:DE):DS:=fun E δ S=>e δ S E.rt
def zbR(c:DT)(t u:DS):DS:=fun E δ S=>c δ S fun b S1=>if b=true then t E δ S1 else u E δ S1
section
variable {t u:TS} {dt du:DS} {te:TE} {de:DE}
theorem zbZ:RS ztm zam:=fun h o H δ σ S E D he hs q c=>c.nx o H δ S σ Ex.refl he hs q
theorem zK(ht:RS t dt)(hu:RS u du):RS (zoD t u) (zP dt du):=fun h o H δ σ S E D he hs q c =>
 ht h o H δ σ S _ _ he hs q ⟨fun o1 H1 δ1 S1 σ1 e1 he1 hs1 q1=>hu h o1 H1 δ1 σ1 S1 E D he1 hs1 q1 (c.pre e1),c.rt,c.bk,c.ct⟩
theorem zaS{g:TG}{dg:DG}(he':RE te de)(hg:RG g dg):RS (zuy te g) (zan de dg):=fun h o H δ σ S E D he hs q c =>
 he' h o H δ σ S _ _ he hs q fun o1 H1 S1 x v e1 s1 x1 d1=>hg h o1 H1 δ σ S1 x v _ _ (he.mono e1) s1 x1 d1 (c.nx.pre e1)
theorem zgJ(he':RE te de):RS (zuV te) (zdi de):=fun h o H δ σ S E D he hs q c =>
 he' h o H δ σ S _ _ he hs q fun o1 H1 S1 x v e1 s1 x1 d1=>c.nx o1 H1 δ S1 σ e1 (he.mono e1) s1 d1
theorem zaM(he':RE te de):RS (zvU te) (zaD de):=fun h o H δ σ S E D he hs q c=>he' h o H δ σ S _ _ he hs q c.rt
theorem ze8{tc:TT}{dc:DT}(hc:RT tc dc)(ht:RS t dt)(hu:RS u du):RS (zv7 tc t u) (zbR dc dt du):=fun h o H δ σ S E D he hs q c =>
 hc h o H δ σ S _ _ he hs q fun o1 H1 S1 b e1 s1 d1=>by
  cases b with
  | true=>exact zpG (ht h o1 H1 δ σ S1 E D (he.mono e1) s1 (by simpa using d1) (c.pre e1))
  | false=>exact zpI (hu h o1 H1 δ σ S1 E D (he.mono e1) s1 (by simpa using d1) (c.pre e1))
def frz(n:Nat)(ds:List PyData):Option XV->Option XV
 | some (.l k)=>if k=n then some (.d (.list ds)) else some (.l k)
 | y=>y
end
abbrev DI:=XE->Sto->(List PyData->Sto->Prop)->Prop
structure WalkX(h o:List Addr)(H:Hp)(J:It)(ds:List PyData):Prop where
 stop:∀ (i:Nat) o2 H2,ExH h o H o2 H2->ds.length<=i->J.stop i H2
 go:∀ (i:Nat) d o2 H2,ExH h o H o2 H2->ds[i]? = some d->J.go i H2
 yld:∀ (i:Nat) d o2 H2 x H3 S2,ExH h o H o2 H2->RepS h o2 H2 S2->ds[i]? = some d->J.yld i H2 x H3->Same H2 H3/\Has (vx h o2 H3) d x
def RI(w:TI)(di:DI):Prop:=∀ (h o:List Addr) (H:Hp) (δ:XE) (σ:St) (S:Sto) (R:List PyData->Sto->Prop) (Q:It->Hp->Prop),RepE h o H δ σ->RepS h o H S->di δ S R ->
 (∀ o' H' S' ds J,Ex o H o' H'->RepS h o' H' S'->WalkX h o' H' J ds->R ds S'->Q J H')->w σ H Q
theorem znC{h o:List Addr}{H:Hp}{lo:Int}{n:Nat}:WalkX h o H (Itr lo n) (zhj lo n) where
 stop:=fun i _ _ _ hi=>by rw [zaC] at hi; exact hi
 go:=fun i d _ _ _ hi=>(zcB hi).1
 yld:=fun i d o2 H2 x H3 S2 _ _ hi y=>by
  obtain⟨e,ex⟩:=y;subst e ex;rw [(zcB hi).2];exact⟨Same.refl _,zcc.mpr rfl⟩
def zm4(g:DG)(b:DS):List PyData->DS
 | [],E,δ,S=>E.nx δ S
 | d :: ds,E,δ,S=>g (.d d) δ S fun δ1 S1=>b { nx:=fun δ2 S2=>zm4 g b ds E δ2 S2,ct:=fun δ2 S2=>zm4 g b ds E δ2 S2,bk:=E.nx,rt:=E.rt } δ1 S1
def zgf(i:DI)(g:DG)(b:DS):DS:=fun E δ S=>i δ S fun ds S1=>zm4 g b ds E δ S1
theorem zil{wi:TI}{g:TG}{tb:TS}{di:DI}{dg:DG}{db:DS}(hi:RI wi di)(hg:RG g dg)(hb:RS tb db):RS (zt9 wi g tb) (zgf di dg db):=fun h o H δ σ S E D he hs q c =>
 hi h o H δ σ S _ _ he hs q fun o1 H1 S1 ds J e1 s1 wk d1=>by
  refine⟨fun i m σ2 H2=>m=ds.length - i/\i<=ds.length/\∃ o2 δ2 S2,Ex o1 H1 o2 H2/\RepE h o2 H2 δ2 σ2/\RepS h o2 H2 S2/\zm4 dg db (ds.drop i) E δ2 S2,⟨ds.length,by simp,zero_le _,o1,δ,S1,Ex.refl,he.mono e1,s1,d1⟩,?_⟩;rintro i m σ2 H2 ⟨rfl,hi,o2,δ2,S2,e2,he2,hs2,d2⟩;by_cases hlt:i<ds.length
  ·have ed:ds[i]? = some ds[i]:=getElem?_eq_getElem hlt;rw [drop_eq_getElem_cons hlt] at d2;refine .inr ⟨wk.go i _ o2 H2 e2.hid ed,fun σ3 H3=>∃ o3 δ3 S3,Ex o1 H1 o3 H3/\RepE h o3 H3 δ3 σ3/\RepS h o3 H3 S3/\zm4 dg db (ds.drop (i+1)) E δ3 S3,fun σ3 H3 n=>⟨ds.length - (i+1),by omega,rfl,hlt,n⟩,fun x H3 y=>?_⟩;obtain⟨s3,hx⟩:=wk.yld i _ o2 H2 x H3 S2 e2.hid hs2 ed y;have e23:Ex o2 H2 o2 H3:=Ex.of_same s3;refine hg h o2 H3 δ2 σ2 S2 (.d ds[i]) x _ _ (he2.mono e23) (hs2.same s3) hx d2 fun o4 H4 δ4 S4 σ4 e4 he4 hs4 d4=>?_;have e14:Ex o1 H1 o4 H4:=(e2.trans e23).trans e4;have ce:=(c.pre e1).pre e14;exact hb h o4 H4 δ4 σ4 S4 _ _ he4 hs4 d4 ⟨fun o5 H5 δ5 S5 σ5 e5 he5 hs5 d5=>⟨o5,δ5,S5,e14.trans e5,he5,hs5,d5⟩,ce.rt,ce.nx,fun o5 H5 δ5 S5 σ5 e5 he5 hs5 d5=>⟨o5,δ5,S5,e14.trans e5,he5,hs5,d5⟩⟩
  ·have ei:i=ds.length:=by omega
   subst ei;rw [drop_length] at d2;exact .inl ⟨wk.stop _ o2 H2 e2.hid (le_refl _),c.nx o2 H2 δ2 S2 σ2 (e1.trans e2) he2 hs2 d2⟩
def zrn(cd:DT)(b:DS):DS:=fun E δ S=>∃ W:Nat->XE->Sto->Prop,(∃ m,W m δ S)/\∀ m δ S,W m δ S ->
 cd δ S fun x S1=>if x=true then ∃ N:XE->Sto->Prop,(∀ δ' S',N δ' S'->∃ m',m'<m/\W m' δ' S')/\b { nx:=N,ct:=N,bk:=E.nx,rt:=E.rt } δ S1 else E.nx δ S1
theorem zqI{tc:TT}{tb:TS}{dc:DT}{db:DS}(hc:RT tc dc)(hb:RS tb db):RS (zrP tc tb) (zrn dc db):=fun h o H δ σ S E D he hs ⟨W,⟨m0,w0⟩,q⟩ c=>by
 refine⟨fun m σ2 H2=>∃ o2 δ2 S2,Ex o H o2 H2/\RepE h o2 H2 δ2 σ2/\RepS h o2 H2 S2/\W m δ2 S2,⟨m0,o,δ,S,Ex.refl,he,hs,w0⟩,?_⟩;rintro m σ2 H2 ⟨o2,δ2,S2,e2,he2,hs2,w2⟩;refine hc h o2 H2 δ2 σ2 S2 _ _ he2 hs2 (q m δ2 S2 w2) fun o3 H3 S3 b e3 s3 d3=>?_;cases b with
 | false=>exact zpI (c.nx o3 H3 δ2 S3 σ2 (e2.trans e3) (he2.mono e3) s3 (by simpa using d3))
 | true =>
  refine zpG ?_;obtain⟨N,n1,d3⟩:∃ N:XE->Sto->Prop,(∀ δ' S',N δ' S'->∃ m',m'<m/\W m' δ' S')/\db { nx:=N,ct:=N,bk:=E.nx,rt:=E.rt } δ2 S3:=by simpa using d3
  have e13:=e2.trans e3;have ce:=c.pre e13;refine⟨fun σ4 H4=>∃ o4 δ4 S4,Ex o H o4 H4/\RepE h o4 H4 δ4 σ4/\RepS h o4 H4 S4/\N δ4 S4,fun σ4 H4 ⟨o4,δ4,S4,e4,he4,hs4,n4⟩=>?_,?_⟩
  ·obtain⟨m',hm,w'⟩:=n1 δ4 S4 n4;exact⟨m',hm,o4,δ4,S4,e4,he4,hs4,w'⟩
  ·exact hb h o3 H3 δ2 σ2 S3 _ _ (he2.mono e3) s3 d3 ⟨fun o5 H5 δ5 S5 σ5 e5 he5 hs5 d5=>⟨o5,δ5,S5,e13.trans e5,he5,hs5,d5⟩,ce.rt,ce.nx,fun o5 H5 δ5 S5 σ5 e5 he5 hs5 d5=>⟨o5,δ5,S5,e13.trans e5,he5,hs5,d5⟩⟩
def zae:DT:=fun _ S R=>R true S
theorem zU:RT zt6 zae:=fun h o H δ σ S R Q he hs q c=>c o H S true Ex.refl hs q
def zeH(n:Nat)(g:DG)(tt:DT)(te:DE)(fin:Sto->Prop):List PyData->XE->Sto->Prop
 | [],_,S=>fin S
 | d :: ds,τ,S=>g (.d d) τ S fun τ1 S1=>tt τ1 S1 fun b S2=>if b=true then te τ1 S2 fun x S3=>asD x fun e=>∃ acc,S3[n]? = some acc/\acc.length<1000/\zeH n g tt te fin ds τ1 (S3.set n (acc++[e])) else zeH n g tt te fin ds τ1 S2
def zfU(caps:List (Option Nat))(i:DI)(g:DG)(tt:DT)(te:DE):DE:=fun δ S R=>i δ S fun ds S1=>zeH S1.length g tt te (fun S2=>R (.l S1.length) S2) ds (zrd caps δ) (S1++[[]])
def zbg(caps:List (Option Nat))(i:DI)(g:DG)(tt:DT)(te:DE):DE:=fun δ S R=>i δ S fun ds S1=>zeH S1.length g tt te (fun S2=>∃ S0 acc,S2=S0++[acc]/\S0.length=S1.length/\R (.d (.list acc)) S0) ds (zrd caps δ) (S1++[[]])
theorem RepS.pop{h o r:List Addr}{H:Hp}{S0 T:Sto}(hs:RepS h (o++r) H (S0++T))(hl:S0.length=o.length):RepS h o H S0 where
 len:=hl
 nd:=(nodup_append.mp hs.nd).1
 dis:=fun a ha=>hs.dis a (mem_append_left _ ha)
 hal:=hs.hal
 cont:=fun k a ds e1 e2=>by
  obtain⟨vs,e3,l⟩:=hs.cont k a ds (zew e1) (zew e2);exact⟨vs,e3,l.mono fun b u e=>by
   obtain⟨z1,z2,z3⟩:=zaj.mp e;exact zaj.mpr ⟨z1,fun m=>z2 (mem_append_left _ m),z3⟩⟩
theorem zgX{h o r:List Addr}{H:Hp}:Same (vx h (o++r) H) (vx h o H):=fun b u e=>by
 obtain⟨z1,z2,z3⟩:=zaj.mp e;exact zaj.mpr ⟨z1,fun m=>z2 (mem_append_left _ m),z3⟩
theorem Ex.pop{o o' r:List Addr}{H H':Hp}(e:Ex o H (o++r) H'):Ex o H o H':=⟨⟨[],by simp⟩,fun b u hb eb=>⟨hb,(e.kp b u hb eb).2⟩⟩
theorem zjD{caps:List (Option Nat)}{wi:TI}{g:TG}{tt:TT}{te:TE}{di:DI}{dg:DG}{dtt:DT}{dte:DE}(hi:RI wi di)(hg:RG g dg)(ht:RT tt dtt)(he':RE te dte)
  {h o:List Addr} {H:Hp} {δ:XE} {σ:St} {S:Sto} {Q:VK} {fin:Nat->Sto->Prop} (he:RepE h o H δ σ) (hs:RepS h o H S) (q:di δ S fun ds S1=>zeH S1.length dg dtt dte (fin S1.length) ds (zrd caps δ) (S1++[[]]))
  (c:∀ o1 H1 D o2 H2 S2,Ex o H o1 H1->H1 D=none->Ex (o1++[D]) (upd H1 D (.lst [])) o2 H2->RepS h o2 H2 S2->fin o1.length S2->Q (.ref D) H2):znm caps wi g tt te σ H Q:=by
 refine hi h o H δ σ S _ _ he hs q fun o1 H1 S1 ds J e1 s1 wk d1 D hD=>?_;have eN:Ex o1 H1 (o1++[D]) (upd H1 D (.lst [])):=Ex.new s1 hD;have sN:RepS h (o1++[D]) (upd H1 D (.lst [])) (S1++[[]]):=s1.new hD (zM.mpr rfl);have hn:S1.length=o1.length:=s1.len;refine⟨fun i m τ H2=>m=ds.length - i/\i<=ds.length/\∃ o2 δ2 S2,Ex (o1++[D]) (upd H1 D (.lst [])) o2 H2/\RepE h o2 H2 δ2 τ/\RepS h o2 H2 S2/\zeH S1.length dg dtt dte (fin S1.length) (ds.drop i) δ2 S2,⟨ds.length,by simp,zero_le _,_,_,_,Ex.refl,((he.mono e1).mono eN).tau,sN,d1⟩,?_⟩;rintro i m τ H2 ⟨rfl,hi,o2,δ2,S2,e2,he2,hs2,d2⟩;by_cases hlt:i<ds.length
 ·have ed:ds[i]? = some ds[i]:=getElem?_eq_getElem hlt;rw [drop_eq_getElem_cons hlt] at d2;refine .inr ⟨wk.go i _ o2 H2 (eN.trans e2).hid ed,fun x H3 y=>?_⟩;obtain⟨s3,hx⟩:=wk.yld i _ o2 H2 x H3 S2 (eN.trans e2).hid hs2 ed y;have e23:Ex o2 H2 o2 H3:=Ex.of_same s3;refine hg h o2 H3 δ2 τ S2 (.d ds[i]) x _ _ (he2.mono e23) (hs2.same s3) hx d2 fun o4 H4 δ4 S4 τ4 e4 he4 hs4 d4=>?_;refine ht h o4 H4 δ4 τ4 S4 _ _ he4 hs4 d4 fun o5 H5 S5 b e5 s5 d5=>?_;have e15:=((e2.trans e23).trans e4).trans e5;cases b with
  | false=>exact zpI ⟨ds.length - (i+1),by omega,rfl,hlt,o5,δ4,S5,e15,he4.mono e5,s5,by simpa using d5⟩
  | true =>
   refine zpG (he' h o5 H5 δ4 τ4 S5 _ _ (he4.mono e5) s5 (by simpa using d5) fun o6 H6 S6 z v e6 s6 z6 d6=>?_);replace d6:=zd9 d6;obtain⟨e,rfl,acc,ea,hl,d6⟩:=d6;have e16:=e15.trans e6;have eD:o6[S1.length]? = some D:=by
    obtain⟨r,rfl⟩:=e16.pre;rw [hn];exact zew (by rw [getElem?_concat_length])
   obtain⟨vs,ev,l⟩:=s6.cont _ D acc eD ea;refine⟨vs,ev,by rw [l.length]; exact small1000 (le_of_lt hl),ds.length - (i+1),by omega,rfl,hlt,o6,δ4,_,e16.trans (Ex.upd eD),((he4.mono e5).mono e6).mono (Ex.upd eD),s6.upd eD (l.append (zD.mpr ⟨v,[],rfl,z6,zM.mpr rfl⟩)),d6⟩
 ·have ei:i=ds.length:=by omega
  subst ei;rw [drop_length] at d2;exact .inl ⟨wk.stop _ o2 H2 (eN.trans e2).hid (le_refl _),c o1 H1 D o2 H2 S2 e1 hD e2 hs2 (hn▸d2)⟩
theorem zeY{caps:List (Option Nat)}{wi:TI}{g:TG}{tt:TT}{te:TE}{di:DI}{dg:DG}{dtt:DT}{dte:DE}(hi:RI wi di)(hg:RG g dg)(ht:RT tt dtt)(he':RE te dte):RE (znm caps wi g tt te) (zfU caps di dg dtt dte):=fun h o H δ σ S R Q he hs q c=>by
 refine zjD (fin:=fun n S2=>R (.l n) S2) hi hg ht he' he hs q fun o1 H1 D o2 H2 S2 e1 hD e2 s2 f=>?_;have eN:Ex o1 H1 (o1++[D]) (upd H1 D (.lst [])):=⟨⟨[D],rfl⟩,fun b w hb e=>by
  have ne:b≠D:=zY e hD;exact⟨by simp [hb,ne],by rw [zS ne]; exact e⟩⟩
 refine c o2 H2 S2 (.l o1.length) _ ((e1.trans eN).trans e2) s2 ⟨D,?_,rfl⟩ f;obtain⟨r,rfl⟩:=e2.pre;exact zew (by rw [getElem?_concat_length])
theorem zaa{caps:List (Option Nat)}{wi:TI}{g:TG}{tt:TT}{te:TE}{di:DI}{dg:DG}{dtt:DT}{dte:DE}(hi:RI wi di)(hg:RG g dg)(ht:RT tt dtt)(he':RE te dte):RE (znm caps wi g tt te) (zbg caps di dg dtt dte):=fun h o H δ σ S R Q he hs q c=>by
 refine zjD (fin:=fun n S2=>∃ (S0:Sto) (acc:List PyData),S2=S0++[acc]/\S0.length=n/\R (.d (.list acc)) S0) hi hg ht he' he hs q fun o1 H1 D o2 H2 S2 e1 hD e2 s2 ⟨S0,acc,eS,hl,f⟩=>?_;subst eS;have eN:Ex o1 H1 (o1++[D]) (upd H1 D (.lst [])):=⟨⟨[D],rfl⟩,fun b w hb e=>by
  have ne:b≠D:=zY e hD;exact⟨by simp [hb,ne],by rw [zS ne]; exact e⟩⟩
 have e12:=eN.trans e2;obtain⟨r,rfl⟩:=e2.pre;have er:r=[]:=by
  have:=s2.len;simp only [length_append,length_singleton,hl] at this;exact eq_nil_of_length_eq_zero (by omega)
 subst er;rw [append_nil] at s2 e12;have s0:RepS h o1 H2 S0:=s2.pop hl;refine c o1 H2 S0 (.d (.list acc)) _ (e1.trans (Ex.pop (o':=o1) e12)) s0 ?_ f;obtain⟨vs,ev,l⟩:=s2.cont o1.length D acc (by rw [getElem?_concat_length]) (by rw [<- hl,getElem?_concat_length]);have nD:D∉o1:=by
  have:=(nodup_append.mp s2.nd).2.2;intro m;exact this D m D (by simp) rfl
 exact zbk.mpr ⟨D,vs,rfl,zaj.mpr ⟨s2.dis D (by simp),nD,ev⟩,l.mono zgX⟩
def fin(n:Nat)(R:RX):RX:=fun y S'=>match y with
 | .l k=>if k<n then R (.l k) (S'.take n) else ∃ ds,S'[k]? = some ds/\(R (.d (.list ds)) (S'.take n)\/R (.l n) (S'.take n++[ds]))
 | y=>R y (S'.take n)
theorem zq9{h o:List Addr}{H:Hp}{S:Sto}{R:RX}{Q:VK}(hs:RepS h o H S)(c:Cn h o H R Q):Cn h o H (fin S.length R) Q:=fun o' H' S' y v e s' hy q=>by
 obtain⟨r,rfl⟩:=e.pre;have eS:S'=S'.take S.length++S'.drop S.length:=(List.take_append_drop _ _).symm;have hl:(S'.take S.length).length=o.length:=by
  have:=s'.len;rw [length_append] at this;rw [length_take,this,hs.len];omega
 have s0:RepS h o H' (S'.take S.length):=by
  rw [eS] at s';exact s'.pop hl
 have e0:Ex o H o H':=Ex.pop (o':=o) e;cases y with
 | d d=>exact c o H' _ (.d d) v e0 s0 (Has.mono zgX d v hy) q
 | o w=>exact c o H' _ (.o w) v e0 s0 hy q
 | x C fs=>exact c o H' _ (.x C fs) v e0 s0 (HasE.mono zgX hy) q
 | l k =>
  unfold fin at q;by_cases hk:k<S.length
  ·simp only [hk,↓reduceIte] at q;obtain⟨a,ea,rfl⟩:=hy;exact c o H' _ (.l k) _ e0 s0 ⟨a,by rw [getElem?_append_left (by rw [<- hs.len]; exact hk)] at ea; exact ea,rfl⟩ q
  ·simp only [hk,↓reduceIte] at q;obtain⟨ds,eds,q⟩:=q;obtain⟨a,ea,rfl⟩:=hy;obtain⟨vs,ev,l⟩:=s'.cont k a ds ea eds;have na:a∉o:=fun m=>by
    obtain⟨j,ej⟩:=mem_iff_getElem?.mp m;have hj:j<o.length:=(List.getElem?_eq_some_iff.mp ej).1;have:=ze1 s'.nd (zew (t:=r) ej) ea;rw [hs.len] at hk;omega
   have nh:a∉h:=s'.dis a (mem_of_getElem? ea);rcases q with q | q
   ·exact c o H' _ (.d (.list ds)) _ e0 s0 (zbk.mpr ⟨a,vs,rfl,zaj.mpr ⟨nh,na,ev⟩,l.mono zgX⟩) q
   ·have hn:H a=none:=by
     cases eh:H a with
     | none=>rfl
     | some u=>exact absurd (mem_of_getElem? ea) (e.kp a u na eh).1
    have e1:Ex o H (o++[a]) H':=⟨⟨[a],rfl⟩,fun b u hb eb=>⟨by simp only [mem_append,mem_singleton,not_or]; exact⟨hb,zY eb hn⟩,(e0.kp b u hb eb).2⟩⟩;have sub:Same (vx h (o++r) H') (vx h (o++[a]) H'):=fun b u eb=>by
     obtain⟨z1,z2,z3⟩:=zaj.mp eb;refine zaj.mpr ⟨z1,?_,z3⟩;simp only [mem_append,mem_singleton,not_or];exact⟨fun m=>z2 (mem_append_left _ m),fun z=>z2 (by rw [z]; exact mem_of_getElem? ea)⟩
    refine c (o++[a]) H' _ (.l S.length) _ e1 ⟨by rw [length_append,length_append,hl]; rfl,zc3 hs.nd na,fun b hb=>?_,s0.hal,fun j b es q1 q2=>?_⟩ ⟨a,by rw [hs.len,getElem?_concat_length],rfl⟩ q
    ·rcases mem_append.mp hb with hb | hb
     ·exact hs.dis b hb
     ·rw [mem_singleton.mp hb]; exact nh
    ·by_cases hj:j<o.length
     ·rw [getElem?_append_left hj] at q1;rw [getElem?_append_left (by rw [hl]; exact hj),List.getElem?_take_of_lt (by rw [hs.len]; exact hj)] at q2;obtain⟨ws,e3,l3⟩:=s'.cont j b es (zew q1) q2;exact⟨ws,e3,l3.mono sub⟩
     ·have hj':j=o.length:=by
       obtain⟨q,_⟩:=List.getElem?_eq_some_iff.mp q1;rw [length_append,length_singleton] at q;omega
      subst hj';rw [getElem?_concat_length] at q1;rw [<- hl,getElem?_concat_length] at q2;cases q1;cases q2;exact⟨vs,ev,l.mono sub⟩
def zbC(n:Nat)(R:RX):DEnds:={ nx:=fun _ S'=>fin n R (.d .none) S',rt:=fin n R }
theorem eok{h o:List Addr}{H:Hp}{S:Sto}{R:RX}{Q:VK}(hs:RepS h o H S)(c:Cn h o H R Q):EOk h o H (zbC S.length R) { nx:=fun _ H'=>Q .non H',rt:=Q } :=
 ⟨fun o' H' δ' S' σ' e he hs' q=>zq9 hs c o' H' S' _ _ e hs' xN q,zq9 hs c,fun _ _ _ _ _ _ _ _ q=>q.elim,fun _ _ _ _ _ _ _ _ q=>q.elim⟩
def zab(p:List PyData):Prop:=∃ l g s:Int,p=[.int l,.int g,.int s]/\0<=l
end
section
def zwK(K:W.Frag):List V->Hp->VK->Prop:=fun xs H Q=>∃ (p:Addr) (ns:List Int),xs=[.ref p]/\SqL K H p (ns.map V.int)/\Q (.int ns.sum) H
def zwO(K:W.Frag):List V->Hp->VK->Prop:=fun xs H Q=>∃ (p:Addr) (bs:List Bool),xs=[.ref p]/\SqL K H p (bs.map V.bl)/\Q (.bl (bs.all id)) H
theorem zhq:bootBuiltins "sum" = some (.builtin "sum"):=by decide +kernel
theorem zgQ:bootBuiltins "all" = some (.builtin "all"):=by decide +kernel
section
variable {X:Cx}
theorem zcw(hc:X.calm=true):CallR X (.builtin "sum") (zwK X.K):=by
 intro zn s σ H xs us Q I r h;obtain⟨p,ns,rfl,hq,q⟩:=h;obtain⟨u,rfl,rx⟩:=vals1 r;cases (show u=Value.ref p from rx);obtain⟨its,rv,pl,_⟩:=I.list hq;obtain⟨ys,e,hns⟩:=zgB (za7 rv);refine sum_intListG (I.ok.hd hc) (by rw [<- e]; exact pl.isList) fun h' tk t' hk=>⟨.int ns.sum,H,I.kept (t':=tk) hk,⟨t',?_⟩,q⟩;have es:preSum (numAt ys) ys.size=ns.sum:=by
  rw [preSum_eq,hns,take_of_length_le (by simp)]
 rw [es]
theorem zlU:∀ {bs:List Bool} {us:List Value} {i:Nat} {v:Value},Vals (bs.map V.bl) us->us[i]? = some v->∃ b,bs[i]? = some b/\v=.bool b
 | [],_,i,v,.nil,e=>by simp at e
 | b :: bs,_,0,v,.cons r _,e=>by
  rw [getElem?_cons_zero] at e;cases e;exact⟨b,rfl,r⟩
 | b :: bs,_,i+1,v,.cons _ t,e=>by
  obtain⟨c,e1,e2⟩:=zlU (i:=i) (v:=v) t (by simpa using e);exact⟨c,by simpa using e1,e2⟩
theorem zsW(bs:List Bool):((List.range bs.length).all fun i=>(bs[i]?).getD true)=bs.all id:=by
 rw [Bool.eq_iff_iff,all_eq_true,all_eq_true];constructor
 ·intro h b hb;obtain⟨i,hi⟩:=mem_iff_getElem?.mp hb;have hl:=(List.getElem?_eq_some_iff.mp hi).1;have:=h i (mem_range.mpr hl);rw [hi] at this;exact this
 ·intro h i hi;have hl:=mem_range.mp hi;rw [getElem?_eq_getElem hl];exact h _ (getElem_mem hl)
theorem zcv(hc:X.calm=true):CallR X (.builtin "all") (zwO X.K):=by
 intro zn s σ H xs us Q I r h;obtain⟨p,bs,rfl,hq,q⟩:=h;obtain⟨u,rfl,rx⟩:=vals1 r;cases (show u=Value.ref p from rx);obtain⟨its,rv,pl,_⟩:=I.list hq;have hl:=pl.isList;have hlt:p<s.heap.objs.size:=by
  obtain⟨_,e,_⟩:=hl;exact lt_size e
 refine call_all_walk (x:=Value.ref p) (wpAny_pyIter_list hl ?_);refine⟨s.heap.objs.size,[s.heap.objs.size,p],[s.heap.objs.size],its.toArray.size,_,_,fun i=>(bs[i]?).getD true,rfl,
  Walks.list (A:=X.A.in1) (I.ok.hd hc) _ p (ne_of_lt hlt) its.toArray,⟨⟨_,get?_push_size _ rfl,rfl,rfl⟩,hl.push _⟩,fun i v s' Q' E' hP hQ=>?_,fun h' tk hk=>?_⟩
 ·obtain⟨b,e,rfl⟩:=zlU (i:=i) (v:=v) rv (by simpa using hP);have hQ':Q' b s':=by simpa [e] using hQ
  exact wpAny_truthy_bool hQ'
 ·have hz:its.toArray.size=bs.length:=by
   have:=rv.length;rw [length_map] at this;simp [this]
  rw [hz,zsW];refine⟨.bl _,H,I.kept (t':=tk) fun b o e=>hk b o (fun hm=>?_) (get?_push_of_some _ e),rfl,q⟩;rw [mem_singleton.mp hm] at e;exact lt_irrefl _ (lt_size e)
end
def zpJ:List XV->Sto->RX->Prop:=fun xs S R=>arg1 xs fun x=>∃ ds,zm0 S x=some ds/\∃ ns:List Int,ds=ns.map PyData.int/\R (.d (.int ns.sum)) S
theorem zfS{K:W.Frag}:RC (zwK K) zpJ:=fun h o H S xs vs R Q hs hx q c=>by
 obtain⟨x,rfl,ds,hd,ns,rfl,q1⟩:=za0 q;obtain⟨v,rfl,hx1⟩:=hxs1 hx;obtain⟨a,ws,rfl,ea,l⟩:=zbH hs hd hx1;rw [zbG l] at ea;exact⟨a,ns,rfl,.of ea,c o H S _ _ Ex.refl hs (xI _) q1⟩
theorem zki{H:Hp}:∀ {ns:List Bool} {vs:List V},HasL H (ns.map PyData.bool) vs->vs=ns.map V.bl
 | [],vs,h=>zM.mp h
 | n :: ns,vs,h=>by
  obtain⟨v,r,rfl,h1,h2⟩:=zD.mp h;rw [zcP.mp h1,zki h2];rfl
def zpH:List XV->Sto->RX->Prop:=fun xs S R=>arg1 xs fun x=>∃ ds,zm0 S x=some ds/\∃ ns:List Bool,ds=ns.map PyData.bool/\R (.d (.bool (ns.all id))) S
theorem zfW{K:W.Frag}:RC (zwO K) zpH:=fun h o H S xs vs R Q hs hx q c=>by
 obtain⟨x,rfl,ds,hd,ns,rfl,q1⟩:=za0 q;obtain⟨v,rfl,hx1⟩:=hxs1 hx;obtain⟨a,ws,rfl,ea,l⟩:=zbH hs hd hx1;rw [zki l] at ea;exact⟨a,ns,rfl,.of ea,c o H S _ _ Ex.refl hs (xB _) q1⟩
section
variable {S:Sto} {i:Int} {b:Bool} {z:Str} {ds:List PyData} {d:PyData} {k:Nat} {x y:XV} {R:RX} {c:String} {p:List PyData} {n:Nat} {v:V}
theorem zvr{K:Int->Prop}:asI (.d (.int i)) K=K i:=rfl
theorem zuG{K:Bool->Prop}:asB (.d (.bool b)) K=K b:=rfl
theorem zuK{K:Str->Prop}:asS (.d (.str z)) K=K z:=rfl
theorem zuT{K:List PyData->Prop}:asT (.d (.tuple ds)) K=K ds:=rfl
theorem zu7{K:PyData->Prop}:asD (.d d) K=K d:=rfl
theorem zrv:zm0 S (.d (.list ds))=some ds:=rfl
theorem zuI:asQ S (.d (.list ds))=some ds:=rfl
theorem zuu:asQ S (.d (.tuple ds))=some ds:=rfl
theorem zui:asQ S (.l k)=S[k]?:=rfl
theorem zoW:zdT S (.d d)=some d:=rfl
theorem zoV:zdT S (.l k)=(S[k]?).map .list:=rfl
theorem zrO:ret0 S R (.d d) []=R (.d d) S:=rfl
theorem zrr:ret0 S R (.l 0) [ds]=R (.l S.length) (S++[ds]):=rfl
theorem zrU:zvC k S R (.d d) [p]=R (.d d) (S.set k p):=rfl
theorem zur:fin n R (.d d) S=R (.d d) (S.take n):=rfl
theorem zt5:fin n R (.l k) S=if k<n then R (.l k) (S.take n) else ∃ ds,S[k]? = some ds/\(R (.d (.list ds)) (S.take n)\/R (.l n) (S.take n++[ds])):=rfl
theorem zrT{K:XV->Prop}:arg1 [x] K=K x:=rfl
theorem zrA{K:XV->XV->Prop}:arg2 [x,y] K=K x y:=rfl
theorem zrK{K:String->Prop}:zwe (.o (.ty c)) K↔K c:=⟨fun⟨_,e,q⟩=>by cases e; exact q,fun q=>⟨c,rfl,q⟩⟩
theorem zr9{K:Int->Prop}:zwc (.d (.bool b)) K=K (if b then 1 else 0):=rfl
theorem zpm{δ:XE}:(zbC n R).nx δ S=fin n R (.d .none) S:=rfl
theorem zon:(zbC n R).rt x S=fin n R x S:=rfl
theorem zkm:datas []=some []:=rfl
theorem zhR{r:List XV}:datas (.d d :: r)=(datas r).map (d :: ·):=rfl
end
theorem zuU{α:Type}{a:α}{l:List α}:atI (a :: l) 0=some a:=zdo (j:=0) rfl
theorem ztR{α:Type}{a b:α}{l:List α}:atI (a :: b :: l) 1=some b:=zdo (j:=1) rfl
theorem zuk{α:Type}{a b c:α}{l:List α}:atI (a :: b :: c :: l) 2=some c:=zdo (j:=2) rfl
theorem ztE{α:Type}{a b c d:α}{l:List α}:atI (a :: b :: c :: d :: l) 3=some d:=zdo (j:=3) rfl
theorem zvq{α:Type}{a b c d e:α}{l:List α}:atI (a :: b :: c :: d :: e :: l) 4=some e:=zdo (j:=4) rfl
def Shp(n:Nat)(d:PyData):Prop:=d.canLay0=true/\d.depth<=n
theorem zeJ{n:Nat}{i:Int}:Shp n (.int i):=⟨rfl,zero_le _⟩
theorem zp0{n:Nat}{i:Bool}:Shp n (.bool i):=⟨rfl,zero_le _⟩
theorem zkX{n:Nat}:∀ {ds:List PyData},(∀ d∈ds,Shp n d)->PyData.canLayAll0 ds=true/\PyData.depthAll ds<=n
 | [],_=>⟨by simp only [PyData.canLayAll0],by simp only [PyData.depthAll]; exact zero_le _⟩
 | d :: ds,h=>by
  obtain⟨h1,h2⟩:=h d mem_cons_self;obtain⟨h3,h4⟩:=zkX (ds:=ds) fun e m=>h e (mem_cons_of_mem _ m);simp only [PyData.canLayAll0,PyData.depthAll,h1,h3,Bool.and_true,true_and];omega
theorem zfd{n:Nat}{ds:List PyData}(h:∀ d∈ds,Shp n d):Shp (n+1) (.list ds):=by
 obtain⟨h1,h2⟩:=zkX h;exact⟨by simp only [PyData.canLay0]; exact h1,by simp only [PyData.depth]; omega⟩
theorem zfF{n:Nat}{ds:List PyData}(h:∀ d∈ds,Shp n d):Shp (n+1) (.tuple ds):=by
 obtain⟨h1,h2⟩:=zkX h;exact⟨by simp only [PyData.canLay0]; exact h1,by simp only [PyData.depth]; omega⟩
theorem zhc{α:Type}{n:Nat}{f:α->PyData}{l:List α}(h:∀ x∈l,Shp n (f x)):∀ d∈l.map f,Shp n d:=fun d m=>by
 obtain⟨x,hx,rfl⟩:=mem_map.mp m;exact h x hx
theorem zs6{n:Nat}{a b:PyData}(h1:Shp n a)(h2:Shp n b):∀ d∈[a,b],Shp n d:=by
 intro d m;simp only [mem_cons,not_mem_nil,or_false] at m;rcases m with rfl | rfl
 ·exact h1
 ·exact h2
theorem Shp.ok{n:Nat}{d:PyData}(h:Shp n d)(hn:n<=64:=by decide):SeqAt.shaped d=true:=by
 unfold SeqAt.shaped;rw [h.1,decide_eq_true (le_trans h.2 hn)];rfl
theorem zav{g:DG}{b:DS}{E:DEnds}:∀ {ds:List PyData} {δ:XE} {S:Sto} (I:Nat->XE->Sto->Prop),I 0 δ S ->
  (∀ i d δ S (N:XE->Sto->Prop),ds[i]? = some d->I i δ S->(∀ δ' S',I (i+1) δ' S'->N δ' S')->g (.d d) δ S fun δ1 S1=>b { nx:=N,ct:=N,bk:=E.nx,rt:=E.rt } δ1 S1) ->
  (∀ δ S,I ds.length δ S->E.nx δ S)->zm4 g b ds E δ S
 | [],δ,S,I,h0,_,fin=>fin δ S h0
 | d :: ds,δ,S,I,h0,step,fin=>by
  show g (.d d) δ S fun δ1 S1=>b _ δ1 S1;refine step 0 d δ S _ rfl h0 fun δ' S' h1=>?_;exact zav (ds:=ds) (fun i=>I (i+1)) h1 (fun i e δ S N hi=>step (i+1) e δ S N (by simpa using hi)) fin
theorem zeS{α:Type}{l:List α}{a b:α}{n:Nat}(h:l.length=n):(l++[a]).set n b=l++[b]:=by
 subst h;rw [List.set_append_right _ _ (le_refl _),Nat.sub_self];rfl
theorem zsr{H:Hp}:RepS [] [] H []:=⟨rfl,nodup_nil,fun _ h=>(nomatch h),fun _ h=>(nomatch h),fun _ _ _ e=>(by simp at e)⟩
theorem Ex.same_nil{o':List Addr}{H H':Hp}(e:Ex [] H o' H'):Same H H':=fun b u q=>(e.kp b u (by simp) q).2
theorem zs1{K:W.Frag}{a:Addr}{ns:List Int}{N:Int}{j m:Nat}{tb:TS}{db:DS}{D:Ends}{σ:St}{H:Hp}(hb:RS tb db)(h0:σ[0]? = some (some (.ref a)))(hl:σ.length=m+1)(hS:SqL K H a (ns.map V.int))(hlen:ns.length<=63)
  (turn:∀ n:Int,db { nx:=fun δ _=>δ[0]? = some (some (.o (.ref a)))/\δ.length=m+1,ct:=fun δ _=>δ[0]? = some (some (.o (.ref a)))/\δ.length=m+1,rt:=fun _ _=>False } ((some (.o (.ref a)) :: List.replicate m none).set j (some (.d (.int n)))) [])
  (hj:j≠0) (done:∀ (σ:St) (H1:Hp),Same H H1->D.nx σ H1) :
  zt9 (zs9 K (tOp ztw (ztx (zjJ (tC2 (zsX K) (zn3 0) (tC (.int 0))) zth)) (tSl (zuS K) (zn3 0) (zmW (tC (.int 1))) (zmW (tC (.int N)))))) (zkW j) tb D σ H:=by
 refine znP (a:=a) (ns:=ns) (fun σ=>σ[0]? = some (some (.ref a))/\σ.length=m+1) h0 hS hlen ⟨h0,hl⟩ ?_ fun σ H1 _ s=>done σ H1 s;rintro n σ1 H1 H2 ⟨z0,z1⟩ s1 s2;refine hb [] [] H2 _ _ [] _ _ ⟨by simp [z1],fun i x e=>?_⟩ zsr (turn n) ⟨?_,fun _ _ _ _ _ _ _ _ q=>q.elim,fun _ _ _ _ _ _ _ _ q=>q.elim,?_⟩
 ·rw [List.getElem?_set] at e ⊢;by_cases hij:j=i
  ·rw [if_pos hij] at e ⊢;by_cases hjl:j<m+1
   ·rw [if_pos (by simpa using hjl)] at e;rw [if_pos (by rw [z1]; exact hjl)];cases e;exact⟨.int n,rfl,xI n⟩
   ·rw [if_neg (by simpa using hjl)] at e;cases e
  ·rw [if_neg hij] at e ⊢;cases i with
   | zero =>
    cases e;exact⟨.ref a,z0,rfl⟩
   | succ i =>
    rw [getElem?_cons_succ,List.getElem?_replicate] at e;split at e <;> cases e
 ·rintro o' H' δ' S' σ' e he hs ⟨q1,q2⟩;obtain⟨v,ev,hv⟩:=he.get 0 _ q1;cases hv;exact⟨s2.trans e.same_nil,ev,by rw [<- he.len]; exact q2⟩
 ·rintro o' H' δ' S' σ' e he hs ⟨q1,q2⟩;obtain⟨v,ev,hv⟩:=he.get 0 _ q1;cases hv;exact⟨s2.trans e.same_nil,ev,by rw [<- he.len]; exact q2⟩
end
section
theorem zoj{P:Program}{w:World}{K:W.Frag}{tg:Expr}(it:Addr)(lo:Int)(n:Nat):Turn P w K tg (Itr lo n) [it] it (fun i h=>IsLongIter h it (lo+(i:Nat)*1) ((n:Int) - (i:Nat)) 1) where
 mem:=by simp
 obj:=fun i h st b hb=>by
  have e:b=it:=by simpa using hb
  subst e;exact⟨_,st,fun v z=>by
   have z':Data.fields _=Data.cell v:=z;cases z'⟩
 keep:=fun i h h' st k=>k it (by simp) _ st
 item:=by
  intro X hP hw hK hc i zn s σ H E I hf st hg;subst hP hw hK;obtain⟨f0,f1,f2,f3,f4,f5⟩:=hf it (by simp);have W:=Walks.longrange (prog:=X.prog) (w:=X.w) (I.ok.hd hc) it lo 1 n;refine W.item i s _ _ hg st fun v h' tk hv st' kk=>?_;obtain⟨t,rfl⟩:=hv;have I1:Inv X zn σ H { s with heap:=h',toks:=tk }:=I.turned (fun b o hb e=>kk b o (by simpa using hb) e) f0 f1 f3 f4 f5;refine⟨_,rfl,zqE (s:={ s with heap:=h',toks:=tk }) (n:="longrange_iterator") st' rfl rfl dz ⟨.int (lo+i),H,I1,⟨t,?_⟩,⟨rfl,rfl⟩,st',fun b hb=>(hf b hb).1⟩⟩;rw [Int.mul_one]
 done:=by
  intro X hP hw hK hc i zn s σ H E I hf st hg;subst hP hw hK;obtain⟨f0,f1,f2,f3,f4,f5⟩:=hf it (by simp);exact wpAny_pyNext_long_end (I.ok.hd hc) st (by have:n<=i:=hg; omega) fun h' eb=>⟨rfl,I.turned (t':=s.toks) (fun b o hb e=>eb b o hb e) f0 f1 f3 f4 f5⟩
 self:=fun _ _ _ _ _ st h=>wpAny_pyIter_longiter st h
section
variable {X:Cx} {tg:Expr}
theorem zog{zn:List (Addr×Obj)}{σ:St}{H:Hp}{s:Shared}{R:It->Hp->Prop}{E:Value->Shared->Prop}{lo hi:Int}{t u v:Tok}{tk:Nat}(I:Inv X zn σ H s)
  (q:R (Itr lo (hi - lo).toNat) H):wpAny (model X.prog X.w) X.A (pyIter (.ref s.heap.objs.size)) (PIE X zn σ tg R) E { s with heap:=s.heap.push { cls:=.type "range",data:=.fields #[.int lo t,.int hi u,.int 1 v] },toks:=tk }:=by
 have I1:Inv X zn σ H { s with heap:=s.heap.push { cls:=.type "range",data:=.fields #[.int lo t,.int hi u,.int 1 v] },toks:=tk }:=I.kept fun b o e=>get?_push_of_some _ e;have e1:lo+((0:Nat):Int)*1=lo:=by simp
 have e2:(((hi - lo).toNat:Nat):Int) - ((0:Nat):Int)=Builtin.Range.rangeSize lo hi 1:=by rw [rangeSize_one]; split <;> omega
 cases hsm:Builtin.Range.small lo hi 1 with
 | true =>
  refine wpAny_pyIter_range (IsRange.new ..) hsm ?_;refine⟨(s.heap.push { cls:=.type "range",data:=.fields #[.int lo t,.int hi u,.int 1 v] }).objs.size,[(s.heap.push { cls:=.type "range",data:=.fields #[.int lo t,.int hi u,.int 1 v] }).objs.size],_,_,H,rfl,
   I1.kept (t':=tk) fun b o e=>get?_push_of_some _ e,zmD _ lo (hi - lo).toNat,?_,fun b hb=>?_,q⟩
  ·show IsRangeIter _ _ (lo+((0:Nat):Int)*1) ((((hi - lo).toNat:Nat):Int) - ((0:Nat):Int)) 1;rw [e1,e2];exact get?_push_size _ rfl
  ·have e:b=(s.heap.push { cls:=.type "range",data:=.fields #[.int lo t,.int hi u,.int 1 v] }).objs.size:=by simpa using hb
   subst e;exact I1.fpOk (le_refl _) (I1.hok.fresh (le_refl _))
 | false =>
  refine wpAny_pyIter_longrange (IsRange.new ..) hsm ?_;refine⟨(s.heap.push { cls:=.type "range",data:=.fields #[.int lo t,.int hi u,.int 1 v] }).objs.size,[(s.heap.push { cls:=.type "range",data:=.fields #[.int lo t,.int hi u,.int 1 v] }).objs.size],_,_,H,rfl,
   I1.kept (t':=tk) fun b o e=>get?_push_of_some _ e,zoj _ lo (hi - lo).toNat,?_,fun b hb=>?_,q⟩
  ·show IsLongIter _ _ (lo+((0:Nat):Int)*1) ((((hi - lo).toNat:Nat):Int) - ((0:Nat):Int)) 1;rw [e1,e2];exact get?_push_size _ rfl
  ·have e:b=(s.heap.push { cls:=.type "range",data:=.fields #[.int lo t,.int hi u,.int 1 v] }).objs.size:=by simpa using hb
   subst e;exact I1.fpOk (le_refl _) (I1.hok.fresh (le_refl _))
def zse(ta:TA):TI:=fun σ H R=>ta σ H fun vs H1=>∃ j:Int,vs=[.int j]/\R (Itr 0 j.toNat) H1
theorem zau{a:Expr}{ta:TA}{p pos:Pos}(hg:Gl X "range")(hm:X.mg "range" = none)(ha:PA X [a] ta)(hs:starEach [a] X.env=[(false,eval a X.env)]:=by rfl):PI X tg (.Call (.Name "range" p) [a] [] pos) (zse ta):=by
 intro zn s σ H R I h;refine Call_ (zfn I hg hm boot_range (PyProof.Rows.callWith_type1 (thn (ha pos zn s σ H _ I h) fun us s1 ⟨vs,H1,I1,r1,q1⟩=>?_) hs rfl));obtain⟨j,e,q⟩:=q1;subst e;cases r1 with
 | cons r rr =>
  cases rr;obtain⟨t,rfl⟩:=r;exact call_range_1 (zog I1 (by simpa using q))
end
def zaY(a:DA):DI:=fun δ S R=>a δ S fun xs S1=>arg1 xs fun x=>asI x fun j=>R (zhj 0 j.toNat) S1
def zpq(a:DA):DI:=fun δ S R=>a δ S fun xs S1=>arg2 xs fun x y=>asI x fun i=>asI y fun j=>R (zhj i (j - i).toNat) S1
theorem zb1{ta:TA}{da:DA}(ha:RA ta da):RI (zse ta) (zaY da):=fun h o H δ σ S R Q he hs q c =>
 ha h o H δ σ S _ _ he hs q fun o1 H1 S1 xs vs e1 s1 x1 d0=>by
  obtain⟨x,rfl,d2⟩:=za0 d0;obtain⟨j,rfl,d1⟩:=zbt d2;obtain⟨v,rfl,hv⟩:=hxs1 x1;rw [zbd hv];exact⟨j,rfl,c o1 H1 S1 _ _ e1 s1 znC d1⟩
end
section
open Sem (wp)
open AutoSeq1 (wpAny_loadPart')
section
variable {X:Cx} {zn:List (Addr×Obj)} {σ:St} {H:Hp} {s:Shared} {h':Heap}
theorem Inv.turnLaid{t':Nat}{ch:List Addr}{T:Addr}{o:HO}(I:Inv X zn σ H s)(k:∀ b u,b∉ch->s.heap.get? b=some u->h'.get? b=some u)(hf:∀ b∈ch,FpOk X zn H b)(hT:s.heap.objs.size<=T)
  (new:ObjOk X.prog X.w (upd H T o) h' T o):Inv X zn σ (upd H T o) { s with heap:=h',toks:=t' }:=by
 have hn:H T=none:=I.hok.fresh hT;have nch:∀ b u,H b=some u->b∉ch:=fun b u e m=>by rw [(hf b m).1] at e; cases e
 have neT:∀ b u,s.heap.get? b=some u->b≠T:=fun b u e z=>absurd (lt_of_lt_of_le (lt_size e) hT) (by rw [z]; exact lt_irrefl _);have up:∀ b u,H b=some u->upd H T o b=some u:=fun b u e=>(zS (zY e hn)).trans e;refine I.step (g':=s.gens) (d':=s.drawn) (ch:=ch) (fun b hb=>?_) (fun b u _ _ hc e _=>k b u hc e) (fun b u _ _ hc e _=>⟨u.slots,k b u hc e⟩) (fun b u _ e n=>(zS (neT b u e)).trans n)
  (fun b u hc e=>⟨u,k b u hc e⟩) (fun b xs e=>up b _ e) (fun b u v e=>up b _ e) (fun b ps e=>up b _ e) (fun m hm=>?_) (fun b u e=>?_) I.bare
 ·obtain⟨_,f1,_,f3,f4,f5⟩:=hf b hb;exact⟨f3,f1,f4,f5⟩
 ·obtain⟨ob,es,ep,ho,r⟩:=hm;exact⟨ob,es,ep,k _ ob (fun z=>(hf _ z).2.1 rfl) ho,r⟩
 ·by_cases hb:b=T
  ·subst hb;rw [zaA] at e;cases e;exact new
  ·rw [zS hb] at e;refine(I.hok b u e).stay (fun c v hc q=>k c v ?_ q) (fun c q=>up c _ q) (fun c xs q=>up c _ q) fun c o u q=>up c _ q;rcases hc with z | z
   ·rw [z]; exact nch b u e
   ·exact nch c _ z
theorem Inv.turnedN{t':Nat}{ch:List Addr}(I:Inv X zn σ H s)(k:∀ b u,b∉ch->s.heap.get? b=some u->h'.get? b=some u)(hf:∀ b∈ch,FpOk X zn H b):Inv X zn σ H { s with heap:=h',toks:=t' }:=by
 have nch:∀ b u,H b=some u->b∉ch:=fun b u e m=>by rw [(hf b m).1] at e; cases e
 refine I.step (g':=s.gens) (d':=s.drawn) (ch:=ch) (fun b hb=>?_) (fun b u _ _ hc e _=>k b u hc e) (fun b u _ _ hc e _=>⟨u.slots,k b u hc e⟩) (fun b u _ e n=>n)
  (fun b u hc e=>⟨u,k b u hc e⟩) (fun b xs e=>e) (fun b u v e=>e) (fun b ps e=>e) (fun m hm=>?_) (fun b u e=>?_) I.bare
 ·obtain⟨_,f1,_,f3,f4,f5⟩:=hf b hb;exact⟨f3,f1,f4,f5⟩
 ·obtain⟨ob,es,ep,ho,r⟩:=hm;exact⟨ob,es,ep,k _ ob (fun z=>(hf _ z).2.1 rfl) ho,r⟩
 ·refine(I.hok b u e).stay (fun c v hc q=>k c v ?_ q) (fun _ q=>q) fun _ _ q=>q;rcases hc with z | z
  ·rw [z]; exact nch b u e
  ·exact nch c _ z
end
section
variable {prog:Program} {w:World} {A:Around} {E:Value->Shared->Prop} {s:Shared}
theorem zio{j t:Addr}{i:Nat}{vs:Array Value}{x:Value}{Q:Value->Shared->Prop}(hj:s.heap.IsTupleIter j t i)(ht:s.heap.IsTuple t vs)(hx:vs[i]? = some x)
  (hQ:∀ g,g.IsTupleIter j t (i+1)->Heap.SameBut j s.heap g->Q x { s with heap:=g }):wpAny (model prog w) A (Builtin.SmallTypes.nextOf (.ref j)) Q E s:=by
 obtain⟨oj,ej,cj,dj⟩:=id hj;obtain⟨ot,et,_,nt,dt⟩:=ht;unfold Builtin.SmallTypes.nextOf;refine wpAny_bind (wpAny_callSpecial?_slot (name:=Str.ofString "__next__") hj.typeIs F.slot_tuple_iterator_next (wpAny_call_entry F.slot_tuple_iterator_next hj.typeIs F.entry_tuple_iterator_next ?_ (F.args_tuple_iterator_next_1 _)));show wpAny _ _ (field (.ref j) 0 >>= _) _ _ s;refine wpAny_bind (wpAny_field ej dj (x:=.ref t) rfl ?_);show wpAny _ _ (ite ((Value.ref t == Value.none)=true) _ _) _ _ s;refine(if_neg (show ¬ ((Value.ref t == Value.none)=true) from Bool.false_ne_true))▸?_;show wpAny _ _ (field (.ref j) 1 >>= _) _ _ s;refine wpAny_bind (wpAny_field ej dj (x:=.int i 0) rfl ?_);refine wpAny_bind (m:=seqItems? (.ref t)) (wpAny_seqItems et dt ?_);simp only [hx,Int.toNat_natCast];refine wpAny_bind (wpAny_setField ej dj (by simp) (wpAny_pure ⟨x,rfl,wpAny_pure (hQ _ ⟨_,get?_update_self _ ej (Obj.isFreed_of_fields (Obj.data_mapFields dj _)),(Obj.cls_mapFields ..).trans cj,?_⟩ (Heap.SameBut.update ..))⟩));rw [Obj.data_mapFields dj];simp [rawInt]
theorem zeo{j t:Addr}{i:Nat}{vs:Array Value}{Q:Value->Shared->Prop}(hh:A.handled=none)(hj:s.heap.IsTupleIter j t i)(ht:s.heap.IsTuple t vs)(hx:vs[i]? = none)
  (hE:∀ g e,Heap.ExtBut j s.heap g->(∃ o,g.get? e=some o/\o.cls=.type "StopIteration")->E (.ref e) { s with heap:=g }):wpAny (model prog w) A (Builtin.SmallTypes.nextOf (.ref j)) Q E s:=by
 obtain⟨oj,ej,cj,dj⟩:=id hj;obtain⟨ot,et,_,nt,dt⟩:=ht;unfold Builtin.SmallTypes.nextOf;refine wpAny_bind (wpAny_callSpecial?_slot (name:=Str.ofString "__next__") hj.typeIs F.slot_tuple_iterator_next (wpAny_call_entry F.slot_tuple_iterator_next hj.typeIs F.entry_tuple_iterator_next ?_ (F.args_tuple_iterator_next_1 _)));show wpAny _ _ (field (.ref j) 0 >>= _) _ _ s;refine wpAny_bind (wpAny_field ej dj (x:=.ref t) rfl ?_);show wpAny _ _ (ite ((Value.ref t == Value.none)=true) _ _) _ _ s;refine(if_neg (show ¬ ((Value.ref t == Value.none)=true) from Bool.false_ne_true))▸?_;show wpAny _ _ (field (.ref j) 1 >>= _) _ _ s;refine wpAny_bind (wpAny_field ej dj (x:=.int i 0) rfl ?_);refine wpAny_bind (m:=seqItems? (.ref t)) (wpAny_seqItems et dt ?_);simp only [hx,Int.toNat_natCast];refine wpAny_bind (wpAny_rule (wpAny_bind (wpAny_setField ej dj (by simp) ?_)));show wpAny _ _ (newExc (.type "StopIteration") [] >>= _) _ _ _;refine wpAny_bind ?_;simp only [newExc,newTuple];refine wpAny_bind (wpAny_newObj_type ?_ (by size_fits)); refine wpAny_bind (m:=firstArgMember _ _) (wpAny_of_eq (a:=Value.none) (by first | rfl | (simp only [firstArgMember]; rfl)) ?_);refine wpAny_newObj_type ?_ (by size_fits); simp only [raiseNew];refine wpAny_bind (wpAny_handled ?_)
 first | rw [show A.in1.handled=none from hh] | rw [hh]
 exact wpAny_bind (wpAny_pure (wpAny_throw (hE _ _ (((Heap.SameBut.update ..).extBut.push _).push _) ⟨_,get?_push_size _ rfl,rfl⟩)))
theorem zno{e j:Addr}{i:Nat}{x old:Value}{J:Heap->Prop}{Q:Value->Shared->Prop}(he:IsEnum s.heap e j i old)(hne:e≠j)
  (hn:∀ (Q':Value->Shared->Prop) (E':Value->Shared->Prop),(∀ g,J g->Heap.SameBut j s.heap g->Q' x { s with heap:=g })->wpAny (model prog w) A (Builtin.SmallTypes.nextOf (.ref j)) Q' E' s)
  (hJ:∀ g g',J g->(∀ o,g.get? j=some o->g'.get? j=some o)->J g')
  (hQ:∀ g,IsEnumOut g e j ((i:Int)+1) x s.heap.objs.size->J g->g.get? s.heap.objs.size=some { cls:=.type "tuple",data:=.seq #[.int i s.toks,x] } ->
   (∀ b o,b≠e->b≠j->s.heap.get? b=some o->g.get? b=some o)->Q (.ref s.heap.objs.size) { s with heap:=g,toks:=s.toks+1 }) :
  wpAny (model prog w) A (Builtin.«enumerate.__next__» ⟨[.ref e],[]⟩) (fun fin s'=>∃ v,fin=.done (.ret v)/\Q v s') E s:=by
 obtain⟨h0,gs,dr,tk,os⟩:=s;show wpAny _ _ (field (.ref e) 2 >>= _) _ _ _;refine wpAny_bind (wpAny_field he rfl (x:=.ref j) rfl (wpAny_bind (hn _ _ fun g1 J1 b1=>?_)));replace b1:Heap.SameBut j h0 g1:=b1;have e1:IsEnum g1 e j i old:=(b1.2 e hne).trans he;show wpAny _ _ (field (.ref e) 3 >>= _) _ _ ⟨g1,gs,dr,tk,os⟩;refine wpAny_bind (wpAny_field e1 rfl (x:=rawInt i) rfl ?_);show wpAny _ _ (field (.ref e) 4 >>= _) _ _ ⟨g1,gs,dr,tk,os⟩;refine wpAny_bind (wpAny_field e1 rfl (x:=.none) rfl ?_);show wpAny _ _ (mkInt i >>= _) _ _ ⟨g1,gs,dr,tk,os⟩;refine wpAny_bind (wpAny_mkInt ?_);show wpAny _ _ (setField (.ref e) 3 (rawInt ((i:Int)+1)) >>= _) _ _ ⟨g1,gs,dr,tk+1,os⟩;refine wpAny_bind (wpAny_setField_rec e1 (by simp) fun g2 e2 b2=>?_);replace b2:Heap.SameBut e g1 g2:=b2;replace e2:IsEnum g2 e j ((i:Int)+1) old:=e2;show wpAny _ _ (setField (.ref e) 4 .none >>= _) _ _ ⟨g2,gs,dr,tk+1,os⟩;refine wpAny_bind (wpAny_setField_rec e2 (by simp) fun g3 e3 b3=>?_);replace b3:Heap.SameBut e g2 g3:=b3;replace e3:IsEnum g3 e j ((i:Int)+1) old:=e3;show wpAny _ _ (newTuple [.int i tk,x] >>= _) _ _ ⟨g3,gs,dr,tk+1,os⟩;refine wpAny_bind (wpAny_newTuple ?_);have sz:g3.objs.size=h0.objs.size:=by rw [b3.1,b2.1,b1.1]
 have lt:e<h0.objs.size:=lt_size he;have e4:IsEnum (g3.push { cls:=.type "tuple",data:=.seq #[.int i tk,x] }) e j ((i:Int)+1) old:=get?_push_of_some _ e3;have J3:J g3:=hJ _ _ (hJ _ _ J1 fun o q=>b2.extBut j o (Ne.symm hne) q) fun o q=>b3.extBut j o (Ne.symm hne) q;have J4:J (g3.push { cls:=.type "tuple",data:=.seq #[.int i tk,x] }):=hJ _ _ J3 fun o q=>get?_push_of_some _ q;have t4:(g3.push { cls:=.type "tuple",data:=.seq #[.int i tk,x] }).get? h0.objs.size=some { cls:=.type "tuple",data:=.seq #[.int i tk,x] }:=by rw [<- sz]; exact get?_push_size _ rfl
 have k4:∀ b o,b≠e->b≠j->h0.get? b=some o->(g3.push { cls:=.type "tuple",data:=.seq #[.int i tk,x] }).get? b=some o:=fun b o n1 n2 q=>get?_push_of_some _ (b3.extBut b o n1 (b2.extBut b o n1 (b1.extBut b o n2 q)));generalize g3.push { cls:=.type "tuple",data:=.seq #[.int i tk,x] } = g4 at e4 J4 t4 k4 ⊢;show wpAny _ _ (Builtin.SmallTypes.ownedTupleIsFree (.ref e) >>= _) _ _ ⟨g4,gs,dr,tk+1,os⟩;rw [sz];refine wpAny_bind ?_;unfold Builtin.SmallTypes.ownedTupleIsFree;refine wpAny_bind (wpAny_field e4 rfl (x:=.none) rfl (wpAny_pure ?_));simp only [if_true];refine wpAny_bind (wpAny_rule (wpAny_bind (wpAny_field e4 rfl (x:=old) rfl (wpAny_bind (wpAny_setField_rec e4 (by simp) fun g5 e5 b5=>?_)))));replace b5:Heap.SameBut e g4 g5:=b5;replace e5:IsEnum g5 e j ((i:Int)+1) x:=e5;show wpAny _ _ (Builtin.SmallTypes.ownedTupleHandOut (.ref e) (.ref h0.objs.size) >>= _) _ _ ⟨g5,gs,dr,tk+1,os⟩;refine wpAny_bind ?_;unfold Builtin.SmallTypes.ownedTupleHandOut;refine wpAny_bind (wpAny_setField_rec e5 (by simp) fun g6 e6 b6=>?_);replace b6:Heap.SameBut e g5 g6:=b6;replace e6:IsEnumOut g6 e j ((i:Int)+1) x h0.objs.size:=e6;refine wpAny_setField_rec e6 (by simp) fun g7 e7 b7=>?_;replace b7:Heap.SameBut e g6 g7:=b7;replace e7:IsEnumOut g7 e j ((i:Int)+1) x h0.objs.size:=e7;have k7:∀ b o,b≠e->g4.get? b=some o->g7.get? b=some o:=fun b o n q=>b7.extBut b o n (b6.extBut b o n (b5.extBut b o n q));exact wpAny_bind (wpAny_letGo (wpAny_pure ⟨_,rfl,hQ g7 e7 (hJ _ _ J4 fun o q=>k7 j o (Ne.symm hne) q) (k7 _ _ (ne_of_gt lt) t4) fun b o n1 n2 q=>k7 b o n1 (k4 b o n1 n2 q)⟩))
theorem zjV{e j:Addr}{i:Nat}{x old:Value}{J:Heap->Prop}{Q:Option Value->Shared->Prop}(he:IsEnum s.heap e j i old)(hne:e≠j)
  (hn:∀ (A:Around) (Q':Value->Shared->Prop) (E':Value->Shared->Prop),(∀ g,J g->Heap.SameBut j s.heap g->Q' x { s with heap:=g })->wpAny (model prog w) A (Builtin.SmallTypes.nextOf (.ref j)) Q' E' s)
  (hJ:∀ g g',J g->(∀ o,g.get? j=some o->g'.get? j=some o)->J g')
  (hQ:∀ g,IsEnumOut g e j ((i:Int)+1) x s.heap.objs.size->J g->g.get? s.heap.objs.size=some { cls:=.type "tuple",data:=.seq #[.int i s.toks,x] } ->
   (∀ b o,b≠e->b≠j->s.heap.get? b=some o->g.get? b=some o)->Q (some (.ref s.heap.objs.size)) { s with heap:=g,toks:=s.toks+1 }):wpAny (model prog w) A (pyNext (.ref e)) Q E s:=by
 have ty:s.TypeIs (.ref e) "enumerate":=⟨_,he,rfl⟩;unfold pyNext;exact wpAny_bind (wpAny_attempt (wpAny_callSpecial?_slot (name:=Str.ofString "__next__") ty F.slot_enumerate_next (wpAny_call_entry F.slot_enumerate_next ty F.entry_enumerate_next (zno he hne (hn _) hJ fun g a b c k=>wpAny_pure (hQ g a b c k)) (F.args_enumerate_next_1 _))))
theorem zjQ{e j:Addr}{i:Nat}{old:Value}{Q:Option Value->Shared->Prop}(hh:A.handled=none)(he:IsEnum s.heap e j i old)
  (hn:∀ (A:Around) (Q':Value->Shared->Prop) (E':Value->Shared->Prop),A.handled=none->(∀ g x,Heap.ExtBut j s.heap g->(∃ o,g.get? x=some o/\o.cls=.type "StopIteration")->E' (.ref x) { s with heap:=g })->wpAny (model prog w) A (Builtin.SmallTypes.nextOf (.ref j)) Q' E' s)
  (hQ:∀ g,Heap.ExtBut j s.heap g->Q none { s with heap:=g }):wpAny (model prog w) A (pyNext (.ref e)) Q E s:=by
 have ty:s.TypeIs (.ref e) "enumerate":=⟨_,he,rfl⟩;unfold pyNext;refine wpAny_bind (wpAny_attempt (wpAny_callSpecial?_slot (name:=Str.ofString "__next__") ty F.slot_enumerate_next (wpAny_call_entry F.slot_enumerate_next ty F.entry_enumerate_next ?_ (F.args_enumerate_next_1 _))));show wpAny _ _ (field (.ref e) 2 >>= _) _ _ _;refine wpAny_bind (wpAny_field he rfl (x:=.ref j) rfl (wpAny_bind (hn _ _ _ hh fun g x b hx=>?_)));obtain⟨o,ho,hc⟩:=hx;exact wpAny_bind (wpAny_isInstance (T:="StopIteration") (b:=true) ⟨o,ho,hc⟩ isSubtype_stop (wpAny_pure (hQ _ b)))
theorem ztg(t:Addr)(vs:Array Value)(n:Nat)(dct:Option Addr)(sl:Array (Option Value)):Meets (Builtin.«enumerate.__new__» ⟨[.type "enumerate",.ref t],[]⟩) (fun _ R s=>s.heap.get? t=some { cls:=.type "tuple",dict:=dct,data:=.seq vs n,slots:=sl } /\
   R (.ok (.ret (.ref (s.heap.push { cls:=.type "tuple_iterator",data:=.fields #[.ref t,.int 0 0] }).objs.size)))
    { s with heap:=(s.heap.push { cls:=.type "tuple_iterator",data:=.fields #[.ref t,.int 0 0] }).push { cls:=.type "enumerate",data:=.fields #[.none,.bool false,.ref s.heap.objs.size,rawInt 0,.none,.none] } }) :=
 .of_wp fun prog w A R s hyp=>by
  obtain⟨g0,gs,dr,tk,os⟩:=s;obtain⟨ht,hyp⟩:=hyp;have sub:=sub_enumerate;have hT:Heap.IsTuple (Shared.heap ⟨g0,gs,dr,tk,os⟩) t vs:=⟨_,ht,rfl,n,rfl⟩
  wp_walk using wpAny_loadPart' ht
  refine wpAny_stack_any fun _=>wpAny_pure ?_;split
  ·rename_i c _ _ _ _ _;cases (c == Value.type "enumerate") <;> (wp_walk using wpAny_loadPart' ht,wpAny_pyIter_tuple hT; exact⟨_,rfl,hyp⟩)
  ·wp_walk using wpAny_loadPart' ht,wpAny_pyIter_tuple hT
   exact⟨_,rfl,hyp⟩
theorem ziZ{t:Addr}{vs:Array Value}{Q:Value->Shared->Prop}(hT:s.heap.IsTuple t vs)
  (hyp:∀ g,IsEnum g (s.heap.objs.size+1) s.heap.objs.size 0 .none->g.IsTupleIter s.heap.objs.size t 0->(∀ b o,s.heap.get? b=some o->g.get? b=some o)->Q (.ref (s.heap.objs.size+1)) { s with heap:=g }):wpAny (model prog w) A (call (.type "enumerate") [.ref t]) Q E s:=by
 obtain⟨⟨c,dct,dt,sl⟩,ht,hc,n,hd⟩:=hT;replace hc:c=.type "tuple":=hc;replace hd:dt=.seq vs n:=hd;subst hc hd;refine callType_new F.called_enumerate dz (F.typeCall_enumerate_1 _) (F.newCall_enumerate_1 _) (fun ob=>F.args_object_init_2 ob _) F.entry_enumerate_new (ztg t vs n dct sl) ⟨ht,?_⟩;have sz:(s.heap.push { cls:=.type "tuple_iterator",data:=.fields #[.ref t,.int 0 0] }).objs.size=s.heap.objs.size+1:=size_push ..;show _/\_;rw [sz];have he:=get?_push_size (s.heap.push { cls:=.type "tuple_iterator",data:=.fields #[.ref t,.int 0 0] }) (o:={ cls:=.type "enumerate",data:=.fields #[.none,.bool false,.ref s.heap.objs.size,rawInt 0,.none,.none] }) rfl;rw [sz] at he;exact⟨⟨_,he,rfl⟩,hyp _ he ⟨_,get?_push_of_some _ (get?_push_size _ rfl),rfl,rfl⟩ fun b o q=>get?_push_of_some _ (get?_push_of_some _ q)⟩
end
def Ite(Sq:Hp->Addr->List V->Prop)(a:Addr):It :=
 ⟨fun i H=>∃ xs x,Sq H a xs/\xs[i]? = some x,fun i H x H'=>∃ p v,H p=none/\x=.ref p/\H'=upd H p (.tup [.int i,v])/\∀ xs,Sq H a xs->xs[i]? = some v,fun i H=>∃ xs,Sq H a xs/\xs.length<=i⟩
theorem zmI{P:Program}{w:World}{K:W.Frag}{elts:List Expr}{n:Nat}{pos:Pos}(a e j:Addr)(hej:e≠j):Turn P w K (.Tuple elts n pos) (Ite (SqT K) a) [e,j] e (fun i h=>(∃ old,IsEnum h e j i old)/\h.IsTupleIter j a i) where
 mem:=by simp
 obj:=fun i h ⟨⟨old,he⟩,hj⟩ b hb=>by
  rcases mem_cons.mp hb with rfl | hb
  ·exact⟨_,he,fun v z=>by
    have z':Data.fields _=Data.cell v:=z;cases z'⟩
  ·rw [mem_singleton.mp hb];obtain⟨o,q,c,d⟩:=hj;exact⟨o,q,fun v z=>by rw [d] at z; cases z⟩
 keep:=fun i h h' ⟨⟨old,he⟩,hj⟩ k=>⟨⟨old,k e (by simp) _ he⟩,hj.at fun o q=>k j (by simp) o q⟩
 item:=by
  intro X hP hw hK hc i zn s σ H E I hf ⟨⟨old,he⟩,hj⟩ hg;subst hP hw hK;obtain⟨xs,x,hq,hx⟩:=hg;obtain⟨its,rv,p,hz⟩:=I.tuple hq;obtain⟨u,hu,ru⟩:=rv.get hx;have hT:s.heap.IsTuple a its.toArray:=p;refine zjV (J:=fun g=>g.IsTupleIter j a (i+1)) he hej (fun A' Q' E' k=>zio hj hT (x:=u) (by simpa using hu) k) (fun g g' z k=>z.at k) fun g e1 j1 t1 k1=>?_;refine⟨_,rfl,wpAny_letOwnedTupleGo_enum (s:={ s with heap:=g,toks:=s.toks+1 }) e1 fun g' e2 b2=>?_⟩;have lt:e<s.heap.objs.size:=lt_size he;have ltj:j<s.heap.objs.size:=by
   obtain⟨_,q,_⟩:=hj;exact lt_size q
  have t2:g'.get? s.heap.objs.size=some { cls:=.type "tuple",data:=.seq #[.int i s.toks,u] }:=(b2.2 _ (ne_of_gt lt)).trans t1;have neT:H s.heap.objs.size=none:=I.hok.fresh (le_refl _);refine⟨.ref s.heap.objs.size,upd H s.heap.objs.size (.tup [.int i,x]),I.turnLaid (ch:=[e,j]) (t':=s.toks+1) (fun b o nb q=>(b2.2 b fun z=>nb (by simp [z])).trans (k1 b o (fun z=>nb (by simp [z])) (fun z=>nb (by simp [z])) q)) hf (le_refl _) ?_,rfl,
   ⟨_,x,neT,rfl,rfl,fun ys hy=>by rw [I.tuple_inj hy hq]; exact hx⟩,⟨⟨u,by simpa using e2⟩,j1.at fun o q=>(b2.2 j (Ne.symm hej)).trans q⟩,fun b hb=>?_⟩
  ·refine⟨⟨by show 2<=sizeLine; decide,_,t2,rfl⟩,[.int i s.toks,u],.cons ⟨s.toks,rfl⟩ (.cons ru .nil),⟨_,t2,rfl,_,rfl⟩⟩
  ·rcases mem_cons.mp hb with rfl | hb
   ·rw [zS (ne_of_lt lt)];exact(hf _ (by simp)).1
   ·rw [mem_singleton.mp hb,zS (ne_of_lt ltj)];exact(hf _ (by simp)).1
 done:=by
  intro X hP hw hK hc i zn s σ H E I hf ⟨⟨old,he⟩,hj⟩ hg;subst hP hw hK;obtain⟨xs,hq,hx⟩:=hg;obtain⟨its,rv,p,hz⟩:=I.tuple hq;have hT:s.heap.IsTuple a its.toArray:=p;have hl:=rv.length;exact zjQ (I.ok.hd hc) he (fun A' Q' E' h0 k=>zeo h0 hj hT (by simp; omega) k) fun g b=>⟨rfl,I.turnedN (ch:=[e,j]) (t':=s.toks) (fun b' o nb q=>b b' o (fun z=>nb (by simp [z])) q) hf⟩
 self:=fun _ _ _ _ _ st h=>by
  obtain⟨⟨old,he⟩,_⟩:=st;exact wpAny_pyIter_enum he h
theorem zmC{P:Program}{w:World}{K:W.Frag}{elts:List Expr}{n:Nat}{pos:Pos}(a e j:Addr)(hej:e≠j):Turn P w K (.Tuple elts n pos) (Ite (SqL K) a) [e,j] e (fun i h=>(∃ old,IsEnum h e j i old)/\h.IsListIter j a i) where
 mem:=by simp
 obj:=fun i h ⟨⟨old,he⟩,hj⟩ b hb=>by
  rcases mem_cons.mp hb with rfl | hb
  ·exact⟨_,he,fun v z=>by
    have z':Data.fields _=Data.cell v:=z;cases z'⟩
  ·rw [mem_singleton.mp hb];obtain⟨o,q,c,d⟩:=hj;exact⟨o,q,fun v z=>by rw [d] at z; cases z⟩
 keep:=fun i h h' ⟨⟨old,he⟩,hj⟩ k=>⟨⟨old,k e (by simp) _ he⟩,hj.at fun o q=>k j (by simp) o q⟩
 item:=by
  intro X hP hw hK hc i zn s σ H E I hf ⟨⟨old,he⟩,hj⟩ hg;subst hP hw hK;obtain⟨xs,x,hq,hx⟩:=hg;obtain⟨its,rv,p,hz⟩:=I.list hq;obtain⟨u,hu,ru⟩:=rv.get hx;have hT:s.heap.IsList a its.toArray:=p.isList;refine zjV (J:=fun g=>g.IsListIter j a (i+1)) he hej (fun A' Q' E' k=>wpAny_nextOf_list_item hj hT (x:=u) (by simpa using hu) k) (fun g g' z k=>z.at k) fun g e1 j1 t1 k1=>?_;refine⟨_,rfl,wpAny_letOwnedTupleGo_enum (s:={ s with heap:=g,toks:=s.toks+1 }) e1 fun g' e2 b2=>?_⟩;have lt:e<s.heap.objs.size:=lt_size he;have ltj:j<s.heap.objs.size:=by
   obtain⟨_,q,_⟩:=hj;exact lt_size q
  have t2:g'.get? s.heap.objs.size=some { cls:=.type "tuple",data:=.seq #[.int i s.toks,u] }:=(b2.2 _ (ne_of_gt lt)).trans t1;have neT:H s.heap.objs.size=none:=I.hok.fresh (le_refl _);refine⟨.ref s.heap.objs.size,upd H s.heap.objs.size (.tup [.int i,x]),I.turnLaid (ch:=[e,j]) (t':=s.toks+1) (fun b o nb q=>(b2.2 b fun z=>nb (by simp [z])).trans (k1 b o (fun z=>nb (by simp [z])) (fun z=>nb (by simp [z])) q)) hf (le_refl _) ?_,rfl,
   ⟨_,x,neT,rfl,rfl,fun ys hy=>by rw [I.list_inj hy hq]; exact hx⟩,⟨⟨u,by simpa using e2⟩,j1.at fun o q=>(b2.2 j (Ne.symm hej)).trans q⟩,fun b hb=>?_⟩
  ·refine⟨⟨by show 2<=sizeLine; decide,_,t2,rfl⟩,[.int i s.toks,u],.cons ⟨s.toks,rfl⟩ (.cons ru .nil),⟨_,t2,rfl,_,rfl⟩⟩
  ·rcases mem_cons.mp hb with rfl | hb
   ·rw [zS (ne_of_lt lt)];exact(hf _ (by simp)).1
   ·rw [mem_singleton.mp hb,zS (ne_of_lt ltj)];exact(hf _ (by simp)).1
 done:=by
  intro X hP hw hK hc i zn s σ H E I hf ⟨⟨old,he⟩,hj⟩ hg;subst hP hw hK;obtain⟨xs,hq,hx⟩:=hg;obtain⟨its,rv,p,hz⟩:=I.list hq;have hT:s.heap.IsList a its.toArray:=p.isList;have hl:=rv.length;exact zjQ (I.ok.hd hc) he (fun A' Q' E' h0 k=>wpAny_nextOf_list_end h0 hj hT (by simp; omega) k) fun g b=>⟨rfl,I.turnedN (ch:=[e,j]) (t':=s.toks) (fun b' o nb q=>b b' o (fun z=>nb (by simp [z])) q) hf⟩
 self:=fun _ _ _ _ _ st h=>by
  obtain⟨⟨old,he⟩,_⟩:=st;exact wpAny_pyIter_enum he h
section
variable {X:Cx} {elts:List Expr} {n:Nat} {tpos:Pos}
theorem zhB:bootBuiltins "enumerate" = some (.type "enumerate"):=by decide +kernel
end
def zi4(i:Nat):List PyData->List PyData
 | []=>[]
 | d :: ds=>.tuple [.int i,d] :: zi4 (i+1) ds
theorem zcK:∀ (ds:List PyData) (i:Nat),(zi4 i ds).length=ds.length
 | [],_=>rfl
 | d :: ds,i=>by simp [zi4,zcK ds (i+1)]
theorem zeX:∀ (ds:List PyData) (i k:Nat) (d:PyData),(zi4 i ds)[k]? = some d->∃ e,ds[k]? = some e/\d=.tuple [.int ((i+k:Nat):Int),e]
 | [],_,_,_,h=>by simp [zi4] at h
 | c :: ds,i,0,d,h=>by
  have e:PyData.tuple [.int i,c]=d:=by simpa [zi4] using h
  exact⟨c,rfl,by rw [<- e]; rfl⟩
 | c :: ds,i,k+1,d,h=>by
  obtain⟨e,h1,h2⟩:=zeX ds (i+1) k d (by simpa [zi4] using h);exact⟨e,by simpa using h1,by rw [h2]; congr 3; omega⟩
theorem zp8{X:Cx}{x:Str}{i:Int}{pos:Pos}(hg:Gl X x)(hm:∃ t,X.mg x=some (.int i t))(hd:(x == ("__debug__":Str))=false:=by decide):PE X (.Name x pos) (tC (.int i)):=by
 obtain⟨t,e⟩:=hm;exact zsR hg e ⟨t,rfl⟩ hd
end
section
def dIx:D2:=fun x y S R=>asI y fun i=>match x with
 | .d (.tuple ds)=>∃ d,atI ds i=some d/\R (.d d) S
 | .d (.list ds)=>∃ d,atI ds i=some d/\R (.d d) S
 | .l k=>∃ ds,S[k]? = some ds/\∃ d,atI ds i=some d/\R (.d d) S
 | .d (.str z)=>z.length<=sizeLine/\∃ c,atI z.cps.toList i=some c/\R (.d (.str ⟨#[c]⟩)) S
 | _=>False
theorem zub:RO zvX (fun x y S R=>asS x fun z=>asI y fun i=>z.length<=sizeLine/\∃ c,atI z.cps.toList i=some c/\R (.d (.str ⟨#[c]⟩)) S):=fun h o H S x y v u R Q hs hx hy q c=>by
 replace q:=zn2 q;obtain⟨z,rfl,q⟩:=q;replace q:=zbt q;obtain⟨i,rfl,hz,k,ek,q⟩:=q;exact⟨z,i,k,zd2 hx,zbd hy,hz,ek,c o H S _ _ Ex.refl hs (xS _) q⟩
theorem zbJ{K:W.Frag}:RO (rIx K) dIx:=fun h o H S x y v u R Q hs hx hy q c=>by
 replace q:=zbt q;obtain⟨i,rfl,q⟩:=q;split at q
 ·exact .inr (.inl (zu0 h o H S _ _ v u R Q hs hx hy q c))
 ·exact .inl (zrX h o H S _ _ v u R Q hs hx hy ⟨_,rfl,q⟩ c)
 ·exact .inl (zrX h o H S _ _ v u R Q hs hx hy q c)
 ·exact .inr (.inr (zub h o H S _ _ v u R Q hs hx hy q c))
 ·exact q.elim
section
variable {S:Sto} {R:RX} {ds:List PyData} {i:Int} {k:Nat} {z:Str}
theorem zuL:dIx (.d (.tuple ds)) (.d (.int i)) S R=∃ d,atI ds i=some d/\R (.d d) S:=rfl
theorem ztL:dIx (.d (.list ds)) (.d (.int i)) S R=∃ d,atI ds i=some d/\R (.d d) S:=rfl
theorem zt7:dIx (.l k) (.d (.int i)) S R=∃ ds,S[k]? = some ds/\∃ d,atI ds i=some d/\R (.d d) S:=rfl
theorem zuq:dIx (.d (.str z)) (.d (.int i)) S R=(z.length<=sizeLine/\∃ c,atI z.cps.toList i=some c/\R (.d (.str ⟨#[c]⟩)) S):=rfl
end
def zwM(K:W.Frag):V->Option Int->Option Int->Hp->VK->Prop:=fun x a b H Q=>zuS K x a b H Q\/(zvV K x a b H Q\/zwy x a b H Q)
theorem zfP{X:Cx}:SlR X (zwM X.K):=zn4.or (zsb.or zvx)
def zlA:D3:=fun x i j S R=>match x with
 | .d (.tuple ds)=>¬ (HT.sIx ds.length 0 i=0/\HT.sIx ds.length ds.length j=ds.length)/\R (.d (.tuple (zdl ds i j))) S
 | .d (.list ds)=>R (.d (.list (zdl ds i j))) S
 | .l k=>∃ ds,S[k]? = some ds/\R (.d (.list (zdl ds i j))) S
 | .d (.str z)=>z.length<=sizeLine/\R (.d (.str (PySem.Txt.slice z i j))) S
 | _=>False
theorem zmg{K:W.Frag}:RL (zwM K) zlA:=fun h o H S x v a b R Q hs hx q c=>by
 unfold zlA at q;split at q
 ·exact .inr (.inl (zud h o H S _ v a b R Q hs hx q c))
 ·exact .inl (zoN h o H S _ v a b R Q hs hx ⟨_,rfl,q⟩ c)
 ·exact .inl (zoN h o H S _ v a b R Q hs hx q c)
 ·exact .inr (.inr ⟨_,zd2 hx,q.1,c o H S _ _ Ex.refl hs (xS _) q.2⟩)
 ·exact q.elim
section
variable {S:Sto} {R:RX} {ds:List PyData} {i j:Option Int} {k:Nat} {z:Str}
theorem zrZ:zlA (.d (.tuple ds)) i j S R=(¬ (HT.sIx ds.length 0 i=0/\HT.sIx ds.length ds.length j=ds.length)/\R (.d (.tuple (zdl ds i j))) S):=rfl
theorem zrx:zlA (.d (.list ds)) i j S R=R (.d (.list (zdl ds i j))) S:=rfl
theorem zrB:zlA (.l k) i j S R=∃ ds,S[k]? = some ds/\R (.d (.list (zdl ds i j))) S:=rfl
theorem zrs:zlA (.d (.str z)) i j S R=(z.length<=sizeLine/\R (.d (.str (PySem.Txt.slice z i j))) S):=rfl
end
def zrp(K:W.Frag):R2:=fun x y H Q=>∃ a b ys,x=.ref a/\y=.ref b/\SqT K H a []/\SqT K H b ys/\Q (.ref b) H
theorem zp5{X:Cx}:OpR X (binaryOp .Add) (zrp X.K):=by
 intro zn s σ H x y v u Q I rx ry h;obtain⟨a,b,ys,rfl,rfl,ha,hb,q⟩:=h;cases rx;cases ry;obtain⟨its,r1,p1,_⟩:=I.tuple ha;obtain⟨its2,r2,p2,_⟩:=I.tuple hb;cases r1;obtain⟨⟨c1,d1,e1,l1⟩,o1,w1,n1,k1⟩:=id p1;obtain⟨⟨c2,d2,e2,l2⟩,o2,w2,n2,k2⟩:=id p2;simp only at w1 k1 w2 k2;subst w1 k1 w2 k2;exact concat_meets ⟨_,o1,rfl⟩ ⟨_,o2,rfl⟩ noFill_tuple_add seq_tuple_add PySem.F.slot_tuple_add PySem.F.entry_tuple_add (PySem.F.args_tuple_add_2 _ _) (tuple_addW0 a b _ _ n1 n2 d1 d2 l1 l2 (by simp)) ⟨o1,o2,⟨.ref b,H,I,rfl,q⟩⟩
def zu8(K:W.Frag):R2:=fun x y H Q=>rI0 (fun i j=>.int (i+j)) x y H Q\/(ztw x y H Q\/(zsZ K x y H Q\/(zrp K x y H Q\/∃ i j,x=.str i/\y=.str j/\i.length+j.length<=sizeLine/\Q (.str (i++j)) H)))
theorem zN{X:Cx}:OpR X (binaryOp .Add) (zu8 X.K):=zuw.or (zn1.or (ztk.or (zp5.or zmM)))
def zb0:D2:=fun x y S R=>match x,y with
 | .d (.int i),.d (.int j)=>R (.d (.int (i+j))) S
 | .d (.tuple ds),.d (.tuple es)=>ds.length+es.length<=1000/\R (.d (.tuple (ds++es))) S
 | .d (.str a),.d (.str b)=>a.length+b.length<=sizeLine/\R (.d (.str (a++b))) S
 | x,y=>asL S x fun ds=>asL S y fun es=>ds.length+es.length<=1000/\R (.d (.list (ds++es))) S
theorem zcy{K:W.Frag}:RO (zu8 K) zb0:=fun h o H S x y v u R Q hs hx hy q c=>by
 unfold zb0 at q;split at q
 ·exact .inl (zpN h o H S _ _ v u R Q hs hx hy q c)
 ·rename_i ds es;cases ds with
  | cons d ds=>exact .inr (.inr (.inl (zsQ h o H S _ _ v u R Q hs hx hy ⟨by simp,q⟩ c)))
  | nil =>
   obtain⟨a,vs,rfl,ea,l⟩:=zdJ hx;obtain⟨b,us,rfl,eb,l'⟩:=zdJ hy;rw [zM.mp l] at ea;exact .inr (.inr (.inr (.inl ⟨a,b,us,rfl,rfl,.of ea,.of eb,c o H S (.d (.tuple es)) _ Ex.refl hs hy q.2⟩)))
 ·exact .inr (.inr (.inr (.inr ⟨_,_,zd2 hx,zd2 hy,q.1,c o H S _ _ Ex.refl hs (xS _) q.2⟩)))
 ·exact .inr (.inl (zum h o H S _ _ v u R Q hs hx hy q c))
section
variable {S:Sto} {R:RX} {ds es:List PyData} {i j:Int} {k l:Nat} {a b:Str}
theorem zsf:zb0 (.d (.int i)) (.d (.int j)) S R=R (.d (.int (i+j))) S:=rfl
theorem zrN:zb0 (.d (.tuple ds)) (.d (.tuple es)) S R=(ds.length+es.length<=1000/\R (.d (.tuple (ds++es))) S):=rfl
end
def zvt:R2:=fun x y H Q=>rI IntMulOk (fun i j=>.int (i*j)) x y H Q\/(zu9 x y H Q\/zwr x y H Q)
theorem zba{X:Cx}:OpR X (binaryOp .Mult) zvt:=zs4.or (zsL.or zvz)
def zfQ:D2:=fun x y S R=>asI y fun j=>match x with
 | .d (.int i)=>IntMulOk i j/\R (.d (.int (i*j))) S
 | .d (.str z)=>z.length<=1000/\j<=1000/\-1000<=j/\R (.d (.str (PySem.Txt.mul z j))) S
 | .d (.list ds)=>j<=1000/\-1000<=j/\ds.length*j.toNat<=1000/\R (.d (.list (List.replicate j.toNat ds).flatten)) S
 | _=>False
theorem HasL.rep{H:Hp}{ds:List PyData}{vs:List V}(l:HasL H ds vs):∀ n:Nat,HasL H (List.replicate n ds).flatten (List.replicate n vs).flatten
 | 0=>zM.mpr rfl
 | n+1=>by
  rw [replicate_succ,replicate_succ,flatten_cons,flatten_cons];exact l.append (HasL.rep l n)
theorem zhl:RO zvt zfQ:=fun h o H S x y v u R Q hs hx hy q c=>by
 replace q:=zbt q;obtain⟨j,rfl,q⟩:=q;split at q
 ·exact .inl (zsn h o H S _ _ v u R Q hs hx hy q c)
 ·exact .inr (.inl ⟨_,_,zd2 hx,zbd hy,q.1,q.2.1,q.2.2.1,c o H S _ _ Ex.refl hs (xS _) q.2.2.2⟩)
 ·obtain⟨a,vs,rfl,ea,l⟩:=zbH (x:=.d (.list _)) hs rfl hx;obtain⟨h1,h2,h3,q⟩:=q;exact .inr (.inr ⟨a,j,vs,rfl,zbd hy,ea,by omega,by omega,by rw [l.length]; exact le_of_lt (small1000 h3),zkH hs (l.rep j.toNat) c q⟩)
 ·exact q.elim
section
variable {S:Sto} {R:RX} {i j:Int} {z:Str} {ds:List PyData}
theorem zrH:zfQ (.d (.list ds)) (.d (.int j)) S R=(j<=1000/\-1000<=j/\ds.length*j.toNat<=1000/\R (.d (.list (List.replicate j.toNat ds).flatten)) S):=rfl
theorem zr5:zfQ (.d (.int i)) (.d (.int j)) S R=(IntMulOk i j/\R (.d (.int (i*j))) S):=rfl
theorem zrG:zfQ (.d (.str z)) (.d (.int j)) S R=(z.length<=1000/\j<=1000/\-1000<=j/\R (.d (.str (PySem.Txt.mul z j))) S):=rfl
end
def zwH:R2:=fun x y H Q=>rI CDivX (fun i j=>.int (i / j)) x y H Q\/rI CDivN (fun i j=>.int (i.fdiv j)) x y H Q
theorem zh9{X:Cx}:OpR X (binaryOp .FloorDiv) zwH:=zqG.or zp9
def dFd:D2:=fun x y S R=>asI x fun i=>asI y fun j=>(CDivX i j/\R (.d (.int (i / j))) S)\/(CDivN i j/\R (.d (.int (i.fdiv j))) S)
theorem zvY:RO zwH dFd:=fun h o H S x y v u R Q hs hx hy q c=>by
 replace q:=zbt q;obtain⟨i,rfl,q⟩:=q;replace q:=zbt q;obtain⟨j,rfl,q⟩:=q;rcases q with q | q
 ·exact .inl (zsn (C:=CDivX) (g:=fun i j=>i / j) h o H S _ _ v u R Q hs hx hy q c)
 ·exact .inr (zsn (C:=CDivN) (g:=fun i j=>i.fdiv j) h o H S _ _ v u R Q hs hx hy q c)
def zvh(S:Sto):XV->Option Bool
 | .d .none=>some false
 | .d (.bool b)=>some b
 | .d (.int i)=>some (i != 0)
 | .d (.str z)=>if z.length<=sizeLine then some ((z.length:Int) != 0) else none
 | .d (.list ds)=>some (!ds.isEmpty)
 | .d (.tuple ds)=>some (!ds.isEmpty)
 | .l k=>(S[k]?).map fun ds=>!ds.isEmpty
 | _=>none
def zfV(a:DE):DT:=fun δ S R=>a δ S fun x S1=>∃ k,zvh S1 x=some k/\R k S1
theorem zeI{H:Hp}{ds:List PyData}{vs:List V}(l:HasL H ds vs):(!ds.isEmpty) = !vs.isEmpty:=by
 have:=l.length;cases ds <;> cases vs <;> simp_all
theorem zgL{K:W.Frag}{ta:TE}{da:DE}(ha:RE ta da):RT (fun σ H Q=>ta σ H fun x H'=>∃ k,TruV K x H' k/\Q k H') (zfV da):=fun h o H δ σ S R Q he hs q c =>
 ha h o H δ σ S _ _ he hs q fun o1 H1 S1 x v e1 s1 x1 ⟨k,ek,d1⟩=>by
  refine⟨k,?_,c o1 H1 S1 k e1 s1 d1⟩;unfold zvh at ek;split at ek
  ·cases ek; rw [(zdd (H:=vx h o1 H1)).mp x1]; rfl
  ·cases ek; rw [zdj x1]; rfl
  ·cases ek; rw [zbd x1]; rfl
  ·split at ek
   ·rename_i hz;cases ek; rw [zd2 x1]; exact⟨hz,rfl⟩
   ·cases ek
  ·obtain⟨a,vs,rfl,ea,l⟩:=zbH (x:=.d (.list _)) s1 rfl x1;cases ek;exact .inl ⟨vs,.of ea,zeI l⟩
  ·obtain⟨a,vs,rfl,ea,l⟩:=zdJ x1;cases ek;exact .inr (.inl ⟨vs,.of ea,zeI l⟩)
  ·rename_i j _;cases hj:S1[j]? with
   | none=>rw [hj] at ek; cases ek
   | some ds =>
    rw [hj] at ek;cases ek;obtain⟨a,vs,rfl,ea,l⟩:=zbH (x:=.l j) s1 hj x1;exact .inl ⟨vs,.of ea,zeI l⟩
  ·cases ek
section
variable {S:Sto} {b:Bool} {i:Int} {ds:List PyData} {k:Nat}
theorem zrl:zvh S (.d (.bool b))=some b:=rfl
theorem zr4:zvh S (.d (.list ds))=some (!ds.isEmpty):=rfl
theorem zrW:zvh S (.l k)=(S[k]?).map fun ds=>!ds.isEmpty:=rfl
end
def zlx:DS:=fun _ _ _=>False
theorem zqO:RS zrt zlx:=fun h o H δ σ S E D he hs q c=>q.elim
def zwN(K:W.Frag)(tl:TE):TI:=fun σ H R=>tl σ H fun x H1=>∃ a,x=.ref a/\(((∃ xs,SqL K H1 a xs)/\R (Itl K a) H1)\/((∃ xs,SqT K H1 a xs)/\R (Itt K a) H1))
theorem zaz{X:Cx}{tg:Expr}{l:Expr}{tl:TE}(hl:PE X l tl):PI X tg l (zwN X.K tl):=by
 intro zn s σ H R I h;refine thn (hl zn s σ H _ I h) fun v s1 ⟨x,H1,I1,r1,q1⟩=>?_;obtain⟨a,e,⟨⟨xs,hq⟩,q⟩ | ⟨⟨xs,hq⟩,q⟩⟩:=q1
 ·subst e;cases r1;obtain⟨its,rv,p,hz⟩:=I1.list hq;refine wpAny_pyIter_list p.isList ?_;refine⟨s1.heap.objs.size,[s1.heap.objs.size],_,_,H1,rfl,I1.kept (t':=s1.toks) fun b o e=>get?_push_of_some _ e,zjp a _,⟨_,get?_push_size _ rfl,rfl,rfl⟩,fun b hb=>?_,q⟩;have e:b=s1.heap.objs.size:=by simpa using hb
  subst e;exact I1.fpOk (le_refl _) (I1.hok.fresh (le_refl _))
 ·subst e;cases r1;obtain⟨its,rv,p,hz⟩:=I1.tuple hq;refine wpAny_pyIter_tuple (show s1.heap.IsTuple a its.toArray from p) ?_;refine⟨s1.heap.objs.size,[s1.heap.objs.size],_,_,H1,rfl,I1.kept (t':=s1.toks) fun b o e=>get?_push_of_some _ e,zmY a _,⟨_,get?_push_size _ rfl,rfl,rfl⟩,fun b hb=>?_,q⟩;have e:b=s1.heap.objs.size:=by simpa using hb
  subst e;exact I1.fpOk (le_refl _) (I1.hok.fresh (le_refl _))
def zl3:XV->Option (List PyData)
 | .d (.list ds)=>some ds
 | .d (.tuple ds)=>some ds
 | _=>none
theorem zry{ds:List PyData}:zl3 (.d (.list ds))=some ds:=rfl
theorem zro{ds:List PyData}:zl3 (.d (.tuple ds))=some ds:=rfl
def za9(e:DE):DI:=fun δ S R=>e δ S fun x S1=>∃ ds,zl3 x=some ds/\R ds S1
theorem zaX{K:W.Frag}{te:TE}{de:DE}(he':RE te de):RI (zwN K te) (za9 de):=fun h o H δ σ S R Q he hs q c =>
 he' h o H δ σ S _ _ he hs q fun o1 H1 S1 x v e1 s1 x1 ⟨ds,ex,d1⟩=>by
  unfold zl3 at ex;split at ex
  ·cases ex;obtain⟨a,vs,rfl,ea,l⟩:=zbk.mp (show Has _ _ _ from x1);have hl:=l.length;refine⟨a,rfl,.inl ⟨⟨vs,.of (zao _ _ ea)⟩,c o1 H1 S1 ds _ e1 s1 ⟨fun i o2 H2 e2 hi=>⟨vs,.of (zao _ _ (e2.vx _ _ ea)),by omega⟩,fun i d o2 H2 e2 hi=>?_,fun i d o2 H2 x H3 S2 e2 s2 hi y=>?_⟩ d1⟩⟩
   ·obtain⟨v,ev,_⟩:=l.get hi;exact⟨vs,v,.of (zao _ _ (e2.vx _ _ ea)),ev⟩
   ·obtain⟨v,ev,hv⟩:=l.get hi;have e3:H3=H2:=y.1;subst e3;have ex:=y.2 vs (.of (zao _ _ (e2.vx _ _ ea)));rw [ev] at ex;cases ex;exact⟨Same.refl _,hv.mono e2.vx⟩
  ·cases ex;obtain⟨a,vs,rfl,ea,l⟩:=zay.mp (show Has _ _ _ from x1);have hl:=l.length;refine⟨a,rfl,.inr ⟨⟨vs,.of (zao _ _ ea)⟩,c o1 H1 S1 ds _ e1 s1 ⟨fun i o2 H2 e2 hi=>⟨vs,.of (zao _ _ (e2.vx _ _ ea)),by omega⟩,fun i d o2 H2 e2 hi=>?_,fun i d o2 H2 x H3 S2 e2 s2 hi y=>?_⟩ d1⟩⟩
   ·obtain⟨v,ev,_⟩:=l.get hi;exact⟨vs,v,.of (zao _ _ (e2.vx _ _ ea)),ev⟩
   ·obtain⟨v,ev,hv⟩:=l.get hi;have e3:H3=H2:=y.1;subst e3;have ex:=y.2 vs (.of (zao _ _ (e2.vx _ _ ea)));rw [ev] at ex;cases ex;exact⟨Same.refl _,hv.mono e2.vx⟩
  ·cases ex
def zvH(dt:DS):DS:=fun E δ S=>dt { E with nx:=fun δ' S'=>∃ S0 ds,S'=S0++[ds]/\S.length<=S0.length/\E.nx (δ'.map (frz S0.length ds)) S0 } δ S
theorem zue{t:TS}{dt:DS}(ht:RS t dt):RS t (zvH dt):=fun h o H δ σ S E D he hs q c=>by
 refine ht h o H δ σ S _ D he hs q ⟨fun o' H' δ' S' σ' e he' hs' ⟨S0,ds,eS,hl,n⟩=>?_,c.rt,c.bk,c.ct⟩;subst eS;obtain⟨r,rfl⟩:=e.pre;have hL:=hs'.len;simp only [length_append,length_singleton] at hL;have hS:=hs.len;have rne:r≠[]:=fun z=>by subst z; simp at hL; omega
 obtain⟨r0,a,rfl⟩:∃ r0 a,r=r0++[a]:=⟨r.dropLast,r.getLast rne,(List.dropLast_concat_getLast rne).symm⟩;have hS0:S0.length=(o++r0).length:=by simp at hL ⊢; omega
 rw [<- append_assoc] at hs' he' e;have nd:=nodup_append.mp hs'.nd;have na:a∉o++r0:=fun m=>nd.2.2 a m a (by simp) rfl;have nh:a∉h:=hs'.dis a (by simp);refine c.nx (o++r0) H' _ S0 σ' ⟨⟨r0,rfl⟩,fun b u hb eb=>?_⟩ ⟨by rw [length_map]; exact he'.len,fun i x ex=>?_⟩ (hs'.pop hS0) n
 ·obtain⟨z1,z2⟩:=e.kp b u hb eb;exact⟨fun m=>z1 (mem_append_left _ m),z2⟩
 ·rw [getElem?_map] at ex;obtain⟨y,ey,ex⟩:=map_eq_some_iff.mp ex
  match y,ey,ex with
  | none,ey,ex=>cases ex
  | some (.d d),ey,ex =>
   cases ex;obtain⟨v,e1,e2⟩:=he'.get i _ ey;exact⟨v,e1,Has.mono zgX d v e2⟩
  | some (.o w),ey,ex =>
   cases ex;exact he'.get i _ ey
  | some (.x C fs),ey,ex =>
   cases ex;obtain⟨v,e1,e2⟩:=he'.get i _ ey;exact⟨v,e1,HasE.mono zgX e2⟩
  | some (.l k),ey,ex =>
   obtain⟨v,e1,b,eb,rfl⟩:=he'.get i _ ey;unfold frz at ex;by_cases hk:k=S0.length
   ·simp only [hk,↓reduceIte] at ex;cases ex;rw [hk,hS0,getElem?_concat_length] at eb;cases eb;obtain⟨vs,ev,l⟩:=hs'.cont k a ds (by rw [hk,hS0,getElem?_concat_length]) (by rw [hk,getElem?_concat_length]);exact⟨_,e1,zbk.mpr ⟨a,vs,rfl,zaj.mpr ⟨nh,na,ev⟩,l.mono zgX⟩⟩
   ·simp only [hk,↓reduceIte] at ex;cases ex;have hlt:=(List.getElem?_eq_some_iff.mp eb).1;simp only [length_append,length_singleton] at hlt;simp only [length_append] at hS0;rw [getElem?_append_left (by simp only [length_append]; omega)] at eb;exact⟨_,e1,b,eb,rfl⟩
section
variable {t1 t2 t3 t4 t5 t6 t7 t8:TS} {d:DS}
theorem zvi(h:RS (zoD (zoD t1 t2) t3) d):RS (zoD t1 (zoD t2 t3)) d:=h
end
end
section
abbrev PN:=List XV->Sto->RX->Prop
def lfN(q:PN):List V->Hp->VK->Prop:=fun vs H Q=>∃ h o S xs R,RepS h o H S/\HasXs h o H xs vs/\q xs S R/\Cn h o H R Q
def spN(ps:List Str)(q:PN):Sp:=fun vs H Q _=>vs.length=ps.length/\lfN q vs H Q
theorem HasXs.len{h o:List Addr}{H:Hp}:∀ {xs:List XV} {vs:List V},HasXs h o H xs vs->vs.length=xs.length
 | [],vs,q=>by rw [show vs=[] from q]; rfl
 | x :: xs,vs,⟨v,r,e,_,l⟩=>by rw [e,length_cons,length_cons,HasXs.len l]
theorem HasXs.get{h o:List Addr}{H:Hp}:∀ {xs:List XV} {vs:List V} {i:Nat} {x:XV},HasXs h o H xs vs->xs[i]? = some x->∃ v,vs[i]? = some v/\HasX h o H x v
 | [],_,i,_,_,e=>by simp at e
 | y :: xs,vs,0,x,⟨v,r,e1,q,l⟩,e=>by
  rw [getElem?_cons_zero] at e;cases e;subst e1;exact⟨v,rfl,q⟩
 | y :: xs,vs,i+1,x,⟨v,r,e1,q,l⟩,e=>by
  subst e1;rw [getElem?_cons_succ] at e ⊢;exact HasXs.get l e
theorem zei{h o:List Addr}{H:Hp}{xs:List XV}{vs:List V}{n:Nat}(q:HasXs h o H xs vs):RepE h o H (xs.map some++List.replicate n none) (vs.map some++List.replicate n none):=by
 have hl:=q.len;refine⟨by simp [hl],fun i x e=>?_⟩;by_cases hi:i<xs.length
 ·rw [getElem?_append_left (by rw [length_map]; exact hi),getElem?_map] at e;obtain⟨y,ey,e⟩:=map_eq_some_iff.mp e;cases e;obtain⟨v,ev,hv⟩:=q.get ey;exact⟨v,by rw [getElem?_append_left (by rw [length_map,hl]; exact hi),getElem?_map,ev]; rfl,hv⟩
 ·rw [getElem?_append_right (by rw [length_map]; omega),List.getElem?_replicate] at e;split at e <;> cases e
section
variable {P:Program} {w:World} {K:W.Frag} {mg:Str->Option Value} {base:Heap} {x:Str} {st:Stmt} {N ps:List Str} {k:Nat}
theorem Df.dN{q:PN}(D:Dd K mg x st ps)(S:FnScope N ps (zi st))(n:Nat)(hn:N.length=ps.length+n)
  (hbody:∀ (f:Addr) (cdv:Value) (A:Around) (outer:List Env) (s:Shared) (H:Hp) (E:XK),Room k (A.deeper (envOfC x (zi st) s.heap.objs.size f cdv)) ->
   ∃ t dt,PSs (zk2 CX0 P w K mg base N x (zi st) f cdv A outer s H E).nox (zbL st) t/\RS t dt/\∀ xs S R,q xs S R->dt (zbC S.length R) (xs.map some++List.replicate n none) S):Df P w K mg base x ps (k+1) (spN ps q):=by
 refine Df.of D S (fun vs H Q E h=>h.1) fun f cdv A outer s H vs Q E hr ⟨hl,h,o,S',xs,R,hs',hx,hq,c⟩=>?_;obtain⟨t,dt,h1,h2,h3⟩:=hbody f cdv A outer s H E hr;refine⟨t,h1,h2 h o H _ _ S' _ _ ?_ hs' (h3 xs S' R hq) (eok hs' c)⟩;have e:N.length - vs.length=n:=by omega
 unfold start;rw [e];exact zei hx
end
section
variable {X:Cx} {x:Str} {ps:List Str} {k j:Nat} {pos pos':Pos} {e:Expr} {es:List Expr} {t:TA}
theorem zu{q:PN}(D:Df X.prog X.w X.K X.mg X.base x ps k (spN ps q))(hr:Room j X.A)(hk:k<=j)(ha:PA X (e :: es) t)(hg:Gl X x:=by rfl)(hdb:(x == ("__debug__":Str))=false:=by decide)
  (q1:starEach (e :: es) X.env=(false,eval e X.env) :: starEach es X.env:=by rfl) (q2:((backTo pos (starEach es X.env)).any fun x=>x.fst)=false:=by rfl):PE X (.Call (.Name x pos') (e :: es) [] pos) (zkP (spN ps q) [] E0 t):=by
 obtain⟨f,fd,F,hm,kp,hb⟩:=D.ex;exact zoI (dvs:=[]) (ds:=[]) (E:=E0) F (hr.mono hk) hg hm kp hb .nil pass0 ha hdb q1 q2
end
def zX(m:Nat)(q:PN)(da:DA):DE:=fun δ S R=>da δ S fun xs S1=>∃ ds,datas xs=some ds/\ds.length=m/\q (ds.map XV.d) [] (ret0 S1 R)
theorem hxs0{h o:List Addr}{H:Hp}:∀ {ds:List PyData} {vs:List V},HasXs h o H (ds.map XV.d) vs->HasXs (h++o) [] H (ds.map XV.d) vs
 | [],_,q=>q
 | d :: ds,vs,⟨v,r,e,q,l⟩=>⟨v,r,e,hx0 q,hxs0 l⟩
theorem zaE{ps:List Str}{q:PN}{m:Nat}{t:TA}{da:DA}(ha:RA t da)(hm:ps.length=m:=by rfl):RE (zkP (spN ps q) [] E0 t) (zX m q da):=fun h o H δ σ S R Q he hs w c =>
 ha h o H δ σ S _ _ he hs w fun o1 H1 S1 xs vs e1 s1 x1 ⟨ds,e,hl,d1⟩=>by
  have ex:=zdv e;subst ex;have hv:=x1.len;rw [append_nil];exact⟨by rw [hv,length_map,hl,hm],h++o1,[],[],_,_,rep0 s1,hxs0 x1,d1,cn0 s1 (c.pre e1)⟩
def zH(i m:Nat)(q:PN)(da:DA):DE:=fun δ S R=>da δ S fun xs S1=>∃ k,xs[i]? = some (.l k)/\∃ p,S1[k]? = some p/\∃ ds,datas (xs.set i (.d .none))=some ds/\ds.length=m/\q ((ds.map XV.d).set i (.l 0)) [p] (zvC k S1 R)
theorem zwB{h o:List Addr}{H:Hp}{k:Nat}{a:Addr}(ea:o[k]? = some a):∀ {xs:List XV} {vs:List V} {ds:List PyData} {i:Nat},HasXs h o H xs vs->xs[i]? = some (.l k)->datas (xs.set i (.d .none))=some ds->HasXs (h++o.filter (fun b=>b≠a)) [a] H ((ds.map XV.d).set i (.l 0)) vs
 | [],_,_,i,_,e,_=>by simp at e
 | x :: xs,vs,ds,0,⟨v,r,e1,q,l⟩,e,ed=>by
  rw [getElem?_cons_zero] at e;cases e;rw [set_cons_zero] at ed;obtain⟨ds',rfl⟩:∃ ds',ds=.none :: ds':=by
   unfold datas at ed;cases hd:datas xs with
   | none=>rw [hd] at ed; cases ed
   | some y=>rw [hd] at ed; cases ed; exact⟨y,rfl⟩
  have ed':datas xs=some ds':=by
   unfold datas at ed;cases hd:datas xs with
   | none=>rw [hd] at ed; cases ed
   | some y=>rw [hd] at ed; cases ed; rfl
  have ex:=zdv ed';subst ex;obtain⟨b,eb,rfl⟩:=q;rw [ea] at eb;cases eb;exact⟨_,r,e1,⟨a,rfl,rfl⟩,go (ea:=ea) l⟩
 | x :: xs,vs,ds,i+1,⟨v,r,e1,q,l⟩,e,ed=>by
  rw [getElem?_cons_succ] at e;rw [set_cons_succ] at ed
  match x,q,ed with
  | .d d,q,ed =>
   unfold datas at ed;cases hd:datas (xs.set i (.d .none)) with
   | none=>rw [hd] at ed; cases ed
   | some ds' =>
    rw [hd] at ed;cases ed;exact⟨v,r,e1,hxP ea q,zwB ea l e hd⟩
  | .l j,q,ed=>cases ed
  | .o w,q,ed=>cases ed
  | .x _ _,q,ed=>cases ed
where
 go {h o:List Addr} {H:Hp} {k:Nat} {a:Addr} {ea:o[k]? = some a}:∀ {ds:List PyData} {vs:List V},HasXs h o H (ds.map XV.d) vs->HasXs (h++o.filter (fun b=>b≠a)) [a] H (ds.map XV.d) vs
 | [],_,q=>q
 | d :: ds,vs,⟨v,r,e,q,l⟩=>⟨v,r,e,hxP ea q,go (ea:=ea) l⟩
theorem zpe:∀ {xs:List XV} {ds:List PyData},datas xs=some ds->xs.length=ds.length:=fun e=>by
 rw [zdv e,length_map]
theorem zbm{ps:List Str}{q:PN}{i m:Nat}{t:TA}{da:DA}(ha:RA t da)(hm:ps.length=m:=by rfl):RE (zkP (spN ps q) [] E0 t) (zH i m q da):=fun h o H δ σ S R Q he hs w c =>
 ha h o H δ σ S _ _ he hs w fun o1 H1 S1 xs vs e1 s1 x1 ⟨k,ek,p,ep,ds,e,hl,d1⟩=>by
  have hv:=x1.len;have hd:=zpe e;rw [length_set] at hd;obtain⟨v,_,a,ea,_⟩:=x1.get ek;rw [append_nil];exact⟨by rw [hv,hd,hl,hm],_,[a],[p],_,_,zvF s1 ea ep,zwB ea x1 ek e,d1,cnP s1 ea ep (c.pre e1)⟩
mutual
def zkU:PyData->Bool
 | .list _=>false
 | .dict _=>false
 | .tuple ds=>zjA ds
 | _=>true
def zjA:List PyData->Bool
 | []=>true
 | d :: ds=>zkU d && zjA ds
end
mutual
theorem zjK{h o:List Addr}{H G:Hp}(sm:Same G H)(hh:∀ b,b∈h\/b∈o->∃ u:MO,H b=some u.ho):∀ (d:PyData) (v:V),zkU d=true->Has G d v->Has (vx h o H) d v
 | .none,v,_,q=>zdd.mpr (zdd.mp q)
 | .bool b,v,_,q=>zcP.mpr (zcP.mp q)
 | .int i,v,_,q=>zcc.mpr (zcc.mp q)
 | .str z,v,_,q=>zdw.mpr (zdw.mp q)
 | .list ds,v,n,_=>by simp [zkU] at n
 | .dict ds,v,n,_=>by simp [zkU] at n
 | .tuple ds,v,n,q=>by
  obtain⟨a,vs,e,ea,l⟩:=zay.mp q;have n':zjA ds=true:=by simpa [zkU] using n
  have ea':=sm _ _ ea;refine zay.mpr ⟨a,vs,e,zaj.mpr ⟨fun m=>?_,fun m=>?_,ea'⟩,zii sm hh ds vs n' l⟩
  ·obtain⟨u,eu⟩:=hh a (.inl m);rw [ea'] at eu;cases u <;> cases eu
  ·obtain⟨u,eu⟩:=hh a (.inr m);rw [ea'] at eu;cases u <;> cases eu
theorem zii{h o:List Addr}{H G:Hp}(sm:Same G H)(hh:∀ b,b∈h\/b∈o->∃ u:MO,H b=some u.ho):∀ (ds:List PyData) (vs:List V),zjA ds=true->HasL G ds vs->HasL (vx h o H) ds vs
 | [],vs,_,q=>zM.mpr (zM.mp q)
 | d :: ds,vs,n,q=>by
  obtain⟨v,r,e,hv,l⟩:=zD.mp q;simp only [zjA,Bool.and_eq_true] at n;exact zD.mpr ⟨v,r,e,zjK sm hh d v n.1 hv,zii sm hh ds r n.2 l⟩
end
def zvG(S:Sto)(R:RX):RX:=fun y S'=>match y,S' with
 | .d d,[]=>zkU d=true/\R (.d d) S
 | _,_=>False
theorem zri{S:Sto}{R:RX}{d:PyData}:zvG S R (.d d) []=(zkU d=true/\R (.d d) S):=rfl
def views(S:Sto):List XV->Option (List PyData)
 | []=>some []
 | x :: r=>(zdT S x).bind fun d=>(views S r).map (d :: ·)
theorem zj8{S:Sto}:views S []=some []:=rfl
theorem zfC{S:Sto}{x:XV}{r:List XV}:views S (x :: r)=(zdT S x).bind fun d=>(views S r).map (d :: ·):=rfl
def zh6(m:Nat)(q:PN)(da:DA):DE:=fun δ S R=>da δ S fun xs S1=>∃ ds,views S1 xs=some ds/\ds.length=m/\q (ds.map XV.d) [] (zvG S1 R)
theorem zwV{h o:List Addr}{H:Hp}{S:Sto}(hs:RepS h o H S):RepS h [] H []:=⟨rfl,nodup_nil,(fun _ h=>(nomatch h)),hs.hal,(fun _ _ _ e=>(by simp at e))⟩
theorem hxV{h o:List Addr}{H:Hp}{S:Sto}{x:XV}{v:V}{d:PyData}(hs:RepS h o H S)(e:zdT S x=some d)(q:HasX h o H x v):HasX h [] H (.d d) v:=by
 have sub:Same (vx h o H) (vx h [] H):=fun b u eb=>by
  obtain⟨z1,z2,z3⟩:=zaj.mp eb;exact zaj.mpr ⟨z1,by simp,z3⟩
 unfold zdT at e;split at e
 ·cases e;exact Has.mono sub _ _ q
 ·rename_i k;obtain⟨a,ea,rfl⟩:=q;cases hk:S[k]? with
  | none=>rw [hk] at e; cases e
  | some ds =>
   rw [hk] at e;cases e;obtain⟨vs,ev,l⟩:=hs.cont k a ds ea hk;exact zbk.mpr ⟨a,vs,rfl,zaj.mpr ⟨hs.dis a (mem_of_getElem? ea),by simp,ev⟩,l.mono sub⟩
 ·cases e
 ·cases e
theorem zwC{h o:List Addr}{H:Hp}{S:Sto}(hs:RepS h o H S):∀ {xs:List XV} {vs:List V} {ds:List PyData},views S xs=some ds->HasXs h o H xs vs->HasXs h [] H (ds.map XV.d) vs/\vs.length=ds.length
 | [],vs,ds,e,q=>by cases e; exact⟨q,by rw [show vs=[] from q]; rfl⟩
 | x :: xs,vs,ds,e,⟨v,r,e1,q,l⟩=>by
  rw [zfC] at e;cases hd:zdT S x with
  | none=>rw [hd] at e; cases e
  | some d =>
   rw [hd,Option.bind_some] at e;cases hr:views S xs with
   | none=>rw [hr] at e; cases e
   | some es =>
    rw [hr] at e;cases e;obtain⟨z1,z2⟩:=zwC hs hr l;exact⟨⟨v,r,e1,hxV hs hd q,z1⟩,by rw [e1,length_cons,length_cons,z2]⟩
theorem cnV{h o:List Addr}{H:Hp}{S:Sto}{R:RX}{Q:VK}(hs:RepS h o H S)(c:Cn h o H R Q):Cn h [] H (zvG S R) Q:=fun o' H' S' y v e s' hy q=>by
 unfold zvG at q;split at q
 ·rename_i d;have sH:Same H H':=fun b u eb=>(e.kp b u (by simp) eb).2;have e0:o'=[]:=eq_nil_of_length_eq_zero s'.len.symm;subst e0;have hs2:=hs.same sH;refine c o H' S (.d d) v (Ex.of_same sH) hs2 (zjK (zao (h:=h) (o:=[])) (fun b m=>?_) d v q.1 hy) q.2;exact m.elim (hs2.hal b) (hs2.oam b)
 ·exact q.elim
theorem ziD{ps:List Str}{q:PN}{m:Nat}{t:TA}{da:DA}(ha:RA t da)(hm:ps.length=m:=by rfl):RE (zkP (spN ps q) [] E0 t) (zh6 m q da):=fun h o H δ σ S R Q he hs w c =>
 ha h o H δ σ S _ _ he hs w fun o1 H1 S1 xs vs e1 s1 x1 ⟨ds,e,hl,d1⟩=>by
  obtain⟨z1,z2⟩:=zwC s1 e x1;rw [append_nil];exact⟨by rw [z2,hl,hm],h,[],[],_,_,zwV s1,z1,d1,cnV s1 (c.pre e1)⟩
end
section
def zuC(K:W.Frag):List V->Hp->VK->Prop:=fun xs H Q=>zvO K xs H Q\/∃ z,xs=[.str z]/\z.length<=sizeLine/\Q (.int z.length) H
theorem zE{X:Cx}:CallR X (.builtin "len") (zuC X.K):=zfO.or zjF
def ztu(S:Sto):XV->Option Nat
 | .d (.tuple ds)=>some ds.length
 | .d (.list ds)=>some ds.length
 | .l k=>(S[k]?).map List.length
 | .d (.str z)=>if z.length<=sizeLine then some z.length else none
 | _=>none
def zaT:List XV->Sto->RX->Prop:=fun xs S R=>arg1 xs fun x=>∃ n,ztu S x=some n/\R (.d (.int n)) S
theorem zb9{K:W.Frag}:RC (zuC K) zaT:=fun h o H S xs vs R Q hs hx q c=>by
 obtain⟨x,rfl,n,hd,q1⟩:=za0 q;unfold ztu at hd;split at hd
 ·cases hd;exact .inl (zpf h o H S _ vs R Q hs hx ⟨_,rfl,q1⟩ c)
 ·cases hd;exact .inl (zpf h o H S _ vs R Q hs hx ⟨_,rfl,q1⟩ c)
 ·rename_i k;cases hk:S[k]? with
  | none=>rw [hk] at hd; cases hd
  | some ds =>
   rw [hk] at hd;cases hd;exact .inl (zpf h o H S _ vs R Q hs hx ⟨ds,hk,q1⟩ c)
 ·split at hd
  ·rename_i hz;cases hd;obtain⟨v,rfl,hx1⟩:=hxs1 hx;exact .inr ⟨_,by rw [zd2 hx1],hz,c o H S _ _ Ex.refl hs (xI _) q1⟩
  ·cases hd
 ·cases hd
section
variable {S:Sto} {ds:List PyData} {k:Nat} {z:Str}
theorem zpz:ztu S (.d (.tuple ds))=some ds.length:=rfl
theorem zr0:ztu S (.d (.list ds))=some ds.length:=rfl
theorem zrw:ztu S (.l k)=(S[k]?).map List.length:=rfl
end
def zwv(neg:Bool):R2:=fun x y H Q=>∃ d e ds,Has H d x/\Has H e y/\SeqAt.shaped d=true/\SeqAt.shaped (.list ds)=true/\(e=.list ds\/e=.tuple ds)/\Q (.bl (if neg then !ds.any (fun y=>PyData.eqv y d) else ds.any (fun y=>PyData.eqv y d))) H
theorem zhV{ds:List PyData}(h:SeqAt.shaped (.list ds)=true):PyData.canLayAll0 ds=true/\PyData.depthAll ds<=63:=by
 have h1:=SeqAt.canLay_of_shaped h;have h2:=SeqAt.depth_of_shaped h;simp only [PyData.canLay0,PyData.depth] at h1 h2;exact⟨h1,by omega⟩
theorem zo4{X:Cx}(hu:X.A.units+64<cLine):OpR X (compareOp .NotIn) (zwv true):=by
 intro zn s σ H x y v u Q I rx ry h;obtain⟨d,e,ds,hd,he,sd,se,ee,q⟩:=h;obtain⟨s1,s2⟩:=zhV se;obtain⟨as,q1⟩:=Has.reads I d x v hd (SeqAt.canLay_of_shaped sd) rx;have hm:X.A.units+1+min (PyData.depthAll ds) d.depth<cLine:=by
  have:=Nat.min_le_left (PyData.depthAll ds) d.depth;omega
 rcases ee with rfl | rfl
 ·obtain⟨bs,q2⟩:=Has.reads I (.list ds) y u he (by simpa only [PyData.canLay0] using s1) ry;exact SeqAt.notIn_list_reads q2 q1 s1 (SeqAt.canLay_of_shaped sd) hm ⟨.bl _,H,I,rfl,q⟩
 ·obtain⟨bs,q2⟩:=Has.reads I (.tuple ds) y u he (by simpa only [PyData.canLay0] using s1) ry;exact SeqAt.notIn_tuple_reads q2 q1 s1 (SeqAt.canLay_of_shaped sd) hm ⟨.bl _,H,I,rfl,q⟩
def zoO:R2:=fun x y H Q=>zwv true x y H Q\/∃ i j,x=.str i/\y=.str j/\Q (.bl (!(!(Builtin.Str.occurrences j i 0 j.length 1).isEmpty))) H
theorem zka{X:Cx}(hu:X.A.units+64<cLine):OpR X (compareOp .NotIn) zoO:=(zo4 hu).or zjo
def zkl:D2:=fun x y S R=>match y with
 | .d (.str b)=>asS x fun a=>R (.d (.bool (!(!(Builtin.Str.occurrences b a 0 b.length 1).isEmpty)))) S
 | y=>∃ d,zdT S x=some d/\∃ ds,asQ S y=some ds/\SeqAt.shaped d=true/\SeqAt.shaped (.list ds)=true/\R (.d (.bool (!ds.any fun y=>PyData.eqv y d))) S
theorem zsg{h o:List Addr}{H:Hp}{S:Sto}{x:XV}{v:V}{ds:List PyData}(hs:RepS h o H S)(e:asQ S x=some ds)(q:HasX h o H x v):∃ e,Has H e v/\(e=.list ds\/e=.tuple ds):=by
 unfold asQ at e;split at e
 ·cases e; exact⟨_,zcx (x:=.d _) hs rfl q,.inr rfl⟩
 ·cases e; exact⟨_,zcx (x:=.d _) hs rfl q,.inl rfl⟩
 ·rename_i k;exact⟨.list ds,zcx (x:=.l k) hs (by show (S[k]?).map PyData.list=_; rw [e]; rfl) q,.inl rfl⟩
 ·cases e
theorem zqX:RO zoO zkl:=fun h o H S x y v u R Q hs hx hy q c=>by
 unfold zkl at q;split at q
 ·replace q:=zn2 q;obtain⟨a,rfl,q⟩:=q;exact .inr ⟨_,_,zd2 hx,zd2 hy,c o H S _ _ Ex.refl hs (xB _) q⟩
 ·obtain⟨d,e1,ds,e2,s1,s2,q⟩:=q;obtain⟨e,he,ee⟩:=zsg hs e2 hy;exact .inl ⟨d,e,ds,zcx hs e1 hx,he,s1,s2,ee,c o H S _ _ Ex.refl hs (xB _) q⟩
section
variable {S:Sto} {ds:List PyData} {k:Nat} {a b:Str} {x:XV} {R:RX}
theorem zmo:zkl x (.d (.tuple ds)) S R↔∃ d,zdT S x=some d/\SeqAt.shaped d=true/\SeqAt.shaped (.list ds)=true/\R (.d (.bool (!ds.any fun y=>PyData.eqv y d))) S:=⟨fun⟨d,e,_,e',q⟩=>by cases e'; exact⟨d,e,q⟩,fun⟨d,e,q⟩=>⟨d,e,_,rfl,q⟩⟩
end
section
variable {X:Cx} {elts:List Expr} {n:Nat} {tpos:Pos}
def zrJ(K:W.Frag)(ta:TA):TI:=fun σ H R=>ta σ H fun vs H1=>∃ a,vs=[.ref a]/\(((∃ xs,SqT K H1 a xs)/\R (Ite (SqT K) a) H1)\/((∃ xs,SqL K H1 a xs)/\R (Ite (SqL K) a) H1))
theorem zqo{a:Expr}{ta:TA}{p pos:Pos}(hg:Gl X "enumerate")(hm:X.mg "enumerate" = none)(ha:PA X [a] ta)(hs:starEach [a] X.env=[(false,eval a X.env)]:=by rfl):PI X (.Tuple elts n tpos) (.Call (.Name "enumerate" p) [a] [] pos) (zrJ X.K ta):=by
 intro zn s σ H R I h;refine Call_ (zfn I hg hm zhB (PyProof.Rows.callWith_type1 (thn (ha pos zn s σ H _ I h) fun us s1 ⟨vs,H1,I1,r1,q1⟩=>?_) hs rfl));obtain⟨b,e,⟨⟨xs,hq⟩,q⟩ | ⟨⟨xs,hq⟩,q⟩⟩:=q1
 ·subst e;cases r1 with
  | cons r rr =>
   cases rr;cases r;obtain⟨its,rv,pl,hz⟩:=I1.tuple hq;refine ziZ (show s1.heap.IsTuple b its.toArray from pl) fun g he hj k=>?_;refine wpAny_pyIter_enum (s:={ s1 with heap:=g }) he ?_
   have I2:Inv X zn σ H1 { s1 with heap:=g }:=I1.kept (t':=s1.toks) k;refine⟨s1.heap.objs.size+1,[s1.heap.objs.size+1,s1.heap.objs.size],_,_,H1,rfl,I2,zmI b _ _ (Nat.succ_ne_self _),⟨⟨_,he⟩,hj⟩,fun c hc=>?_,q⟩;rcases mem_cons.mp hc with rfl | hc
   ·exact I1.fpOk (le_succ _) (I1.hok.fresh (le_succ _))
   ·rw [mem_singleton.mp hc];exact I1.fpOk (le_refl _) (I1.hok.fresh (le_refl _))
 ·subst e;cases r1 with
  | cons r rr =>
   cases rr;cases r;obtain⟨its,rv,pl,hz⟩:=I1.list hq;refine call_enumerate_list pl.isList fun g he hj _ k=>?_;refine wpAny_pyIter_enum (s:={ s1 with heap:=g }) he ?_
   have I2:Inv X zn σ H1 { s1 with heap:=g }:=I1.kept (t':=s1.toks) k;refine⟨s1.heap.objs.size+1,[s1.heap.objs.size+1,s1.heap.objs.size],_,_,H1,rfl,I2,zmC b _ _ (Nat.succ_ne_self _),⟨⟨_,he⟩,hj⟩,fun c hc=>?_,q⟩;rcases mem_cons.mp hc with rfl | hc
   ·exact I1.fpOk (le_succ _) (I1.hok.fresh (le_succ _))
   ·rw [mem_singleton.mp hc];exact I1.fpOk (le_refl _) (I1.hok.fresh (le_refl _))
end
def zja(a:DA):DI:=fun δ S R=>a δ S fun xs S1=>arg1 xs fun x=>∃ ds,zl3 x=some ds/\R (zi4 0 ds) S1
theorem zqH{K:W.Frag}{ta:TA}{da:DA}(ha:RA ta da):RI (zrJ K ta) (zja da):=fun h o H δ σ S R Q he hs q c =>
 ha h o H δ σ S _ _ he hs q fun o1 H1 S1 xs vs e1 s1 x1 d0=>by
  obtain⟨x,rfl,ds,hd,d1⟩:=za0 d0;obtain⟨v,rfl,hv⟩:=hxs1 x1;have core:∀ {Sq:Hp->Addr->List V->Prop} {a:Addr} {ws:List V},(∀ {o2 H2},ExH h o1 H1 o2 H2->Sq H2 a ws)->HasL (vx h o1 H1) ds ws->WalkX h o1 H1 (Ite Sq a) (zi4 0 ds):=by
   intro Sq a ws ea' l;have hl:=l.length;refine⟨fun i o2 H2 e2 hi=>⟨ws,ea' e2,by rw [zcK] at hi; omega⟩,fun i d o2 H2 e2 hi=>?_,fun i d o2 H2 x H3 S2 e2 s2 hi y=>?_⟩
   ·obtain⟨e,h1,rfl⟩:=zeX ds 0 i d hi;obtain⟨u,eu,_⟩:=l.get h1;exact⟨ws,u,ea' e2,eu⟩
   ·obtain⟨e,h1,rfl⟩:=zeX ds 0 i d hi;obtain⟨u,eu,hu⟩:=l.get h1;obtain⟨p,v,hp,rfl,rfl,hy⟩:=y;have ev:=hy ws (ea' e2);rw [eu] at ev;cases ev;refine⟨Same.laid hp,zay.mpr ⟨p,_,rfl,s2.laid hp,zD.mpr ⟨_,_,rfl,?_,zD.mpr ⟨_,_,rfl,(hu.mono e2.vx).mono (zfu (Same.laid hp)),zM.mpr rfl⟩⟩⟩⟩;rw [zero_add];exact zcc.mpr rfl
  unfold zl3 at hd;split at hd
  ·cases hd;obtain⟨a,ws,rfl,ea,l⟩:=zbk.mp (show Has (vx h o1 H1) (.list ds) v from hv);exact⟨a,rfl,.inr ⟨⟨ws,.of (zao _ _ ea)⟩,c o1 H1 S1 _ _ e1 s1 (core (fun e2=>.of (zao _ _ (e2.vx _ _ ea))) l) d1⟩⟩
  ·cases hd;obtain⟨a,ws,rfl,ea,l⟩:=zay.mp (show Has (vx h o1 H1) (.tuple ds) v from hv);exact⟨a,rfl,.inl ⟨⟨ws,.of (zao _ _ ea)⟩,c o1 H1 S1 _ _ e1 s1 (core (fun e2=>.of (zao _ _ (e2.vx _ _ ea))) l) d1⟩⟩
  ·cases hd
def zvB:XV->List XV->Sto->RX->Prop:=fun x xs S R=>∃ k,x=.l k/\∃ ds,S[k]? = some ds/\xs=[]/\∃ d,ds[ds.length - 1]? = some d/\R (.d d) (S.set k ds.dropLast)
theorem HasL.dropLast{H:Hp}:∀ {ds:List PyData} {vs:List V},HasL H ds vs->HasL H ds.dropLast vs.dropLast
 | [],vs,l=>by rw [zM.mp l]; exact zM.mpr rfl
 | [d],vs,l=>by
  obtain⟨v,r,rfl,_,l⟩:=zD.mp l;rw [zM.mp l];exact zM.mpr rfl
 | d :: e :: ds,vs,l=>by
  obtain⟨v,r,rfl,hv,l⟩:=zD.mp l;obtain⟨w,r,rfl,hw,l'⟩:=zD.mp l;rw [List.dropLast_cons₂,List.dropLast_cons₂];exact zD.mpr ⟨v,_,rfl,hv,HasL.dropLast l⟩
theorem zvn:RM zww zvB:=fun h o H S x v xs vs R Q hs hx hxs q c=>by
 obtain⟨k,rfl,ds,e,rfl,d,ed,q1⟩:=q;obtain⟨a,ea,rfl⟩:=hx;obtain⟨ws,ew,l⟩:=hs.cont k a ds ea e;cases hxs;obtain⟨y,ey,hy⟩:=l.get ed;exact⟨a,ws,y,rfl,rfl,ew,by rw [l.length]; exact ey,c o _ _ (.d d) _ (Ex.upd ea) (hs.upd ea l.dropLast) (HasX.mono (x:=.d d) (Ex.upd ea) hy) q1⟩
def zvE(rd:XV->List XV->Sto->RX->Prop)(e:DE)(a:DA):DE:=fun δ S R=>e δ S fun x S1=>∃ z,x=.d (.str z)/\a δ S1 fun xs S2=>rd x xs S2 R
theorem zrg{K:W.Frag}{r:V->List V->Hp->VK->Prop}{rd:XV->List XV->Sto->RX->Prop}{te:TE}{de:DE}{tl:TA}{dl:DA}(hr:RM r rd)(he':RE te de)(ha:RA tl dl):RE (tBM K "str" r te tl) (zvE rd de dl):=fun h o H δ σ S R Q he hs q c =>
 he' h o H δ σ S _ _ he hs q fun o1 H1 S1 x v e1 s1 x1 ⟨z,ez,d1⟩=>by
  subst ez;cases zd2 x1;exact⟨rfl,ha h o1 H1 δ σ S1 _ _ (he.mono e1) s1 d1 fun o2 H2 S2 xs vs e2 s2 x2 d2=>hr h o2 H2 S2 (.d (.str z)) _ xs vs R Q s2 (HasX.mono (x:=.d (.str z)) e2 x1) x2 d2 (c.pre (e1.trans e2))⟩
theorem zhW{H:Hp}:∀ {ns:List Str} {vs:List V},HasL H (ns.map PyData.str) vs->vs=ns.map V.str
 | [],vs,h=>zM.mp h
 | n :: ns,vs,h=>by
  obtain⟨v,r,rfl,h1,h2⟩:=zD.mp h;rw [zdw.mp h1,zhW h2];rfl
def zqR:XV->List XV->Sto->RX->Prop:=fun x xs S R=>asS x fun z=>arg1 xs fun y=>∃ ds,zm0 S y=some ds/\∃ zs:List Str,ds=zs.map PyData.str/\z.length<=16/\zs.length<=1000/\(∀ y∈zs,y.length<=1000)/\R (.d (.str (PySem.Txt.join z zs))) S
theorem zpL{K:W.Frag}:RM (zvp K) zqR:=fun h o H S x v xs vs R Q hs hx hxs q c=>by
 replace q:=zn2 q;obtain⟨z,rfl,q⟩:=q;obtain⟨y,rfl,ds,e,zs,rfl,h1,h2,h3,q1⟩:=za0 q;obtain⟨u,rfl,hu⟩:=hxs1 hxs;obtain⟨a,ws,rfl,ea,l⟩:=zbH hs e hu;rw [zhW l] at ea;exact⟨z,a,zs,zd2 hx,rfl,.of ea,h1,h2,h3,c o H S _ _ Ex.refl hs (xS _) q1⟩
def zq4:D2:=fun x y S R=>asL S x fun ds=>asL S y fun es=>ds.length+es.length<=1000/\R (.l S.length) (S++[ds++es])
theorem zso:RO ztw zq4:=fun h o H S x y v u R Q hs hx hy q c=>by
 obtain⟨ds,e0,es,e1,hl,q⟩:=q;obtain⟨a,vs,rfl,ea,la⟩:=zbH hs e0 hx;obtain⟨b,us,rfl,eb,lb⟩:=zbH hs e1 hy;exact⟨a,b,vs,us,rfl,rfl,ea,eb,by rw [la.length,lb.length]; exact le_of_lt (small1000 hl),zsH hs (la.append lb) c q⟩
def zpn:V->List V->Hp->VK->Prop:=fun x vs H Q=>∃ (d:PyData) (ds:List PyData) (j:Nat),Has H (.list ds) x/\(∃ v,vs=[v]/\Has H d v)/\SeqAt.shaped d=true/\SeqAt.shaped (.list ds)=true/\ds.length<=1000/\(∃ e,ds[j]? = some e/\PyData.eqv e d=true)/\(∀ m e,m<j->ds[m]? = some e->PyData.eqv e d=false)/\Q (.int j) H
theorem znL{X:Cx}(hu:X.A.units+64<cLine):MtR X "list.index" zpn:=by
 intro zn s σ H x vs v us Q I rx rv h;obtain⟨d,ds,j,hl,⟨y,rfl,hy⟩,sd,se,h1000,⟨e,ej,he⟩,hno,q⟩:=h;obtain⟨s1,s2⟩:=zhV se;obtain⟨u,rfl,r1⟩:=rv.one;obtain⟨as,q1⟩:=Has.reads I d y u hy (SeqAt.canLay_of_shaped sd) r1;obtain⟨bs,q2⟩:=Has.reads I (.list ds) x v hl (by simpa only [PyData.canLay0] using s1) rx;have hm:X.A.units+1+min (PyData.depthAll ds) d.depth<cLine:=by
  have:=Nat.min_le_left (PyData.depthAll ds) d.depth;omega
 cases q2 with
 | @list l o vs n xs as₁ h1 h2 h3 h4 =>
  have hn:vs.size=ds.length:=by simpa using SeqAt.ReadsAll.length _ _ _ h4
  have hmap:=SeqAt.readsAll_map _ _ _ s1 h4;have hget:∀ (m:Nat) (hm:m<vs.size) e,ds[m]? = some e->SeqAt.readOf s.heap vs[m]=e:=fun m hm e h=>by
   rw [<- hmap,getElem?_map] at h;have:vs.toList[m]? = some vs[m]:=by simp [hm]
   rw [this] at h;exact Option.some.inj h
  have hj:j<vs.size:=by rw [hn]; exact(List.getElem?_eq_some_iff.mp ej).1
  obtain⟨cls,dd,data,sl⟩:=o;simp only at h2 h3;subst h2 h3;refine call_meets PySem.F.slot_list_index ⟨_,h1,rfl⟩ PySem.F.entry_list_index (PySem.F.args_list_index_2 _ _)
   (SeqAt.list_indexAt l vs n dd sl u (fun y=>PyData.eqv (SeqAt.readOf s.heap y) d) j hj (by omega) ?_ ?_) ⟨h1,SeqAt.items_eqAt h4 q1 s1 (SeqAt.canLay_of_shaped sd) hm,⟨.int j,H,I.tok _,⟨_,rfl⟩,q⟩⟩
  ·show PyData.eqv (SeqAt.readOf s.heap vs[j]) d=true;rw [hget j hj e ej]; exact he
  ·intro m hm hlt;show PyData.eqv (SeqAt.readOf s.heap vs[m]) d=false;have em:ds[m]? = some ds[m]:=getElem?_eq_getElem (by omega);rw [hget m hm _ em]; exact hno m _ hlt em
def zmf:XV->List XV->Sto->RX->Prop:=fun x xs S R=>arg1 xs fun y=>∃ d,zdT S y=some d/\∃ ds,zm0 S x=some ds/\SeqAt.shaped d=true/\SeqAt.shaped (.list ds)=true/\ds.length<=1000/\∃ j,(∃ e,ds[j]? = some e/\PyData.eqv e d=true)/\(∀ m e,m<j->ds[m]? = some e->PyData.eqv e d=false)/\R (.d (.int (j:Nat))) S
theorem zoo:RM zpn zmf:=fun h o H S x v xs vs R Q hs hx hxs q c=>by
 obtain⟨y,rfl,d,e1,ds,e2,s1,s2,h1,j,h2,h3,q1⟩:=za0 q;obtain⟨u,rfl,hu⟩:=hxs1 hxs;have hl:Has H (.list ds) v:=zcx (x:=x) hs (by
  unfold zm0 at e2;split at e2
  ·cases e2; rfl
  ·rename_i k; show (S[k]?).map PyData.list=_; rw [e2]; rfl
  ·cases e2) hx
 exact⟨d,ds,j,hl,⟨u,rfl,zcx hs e1 hu⟩,s1,s2,h1,h2,h3,c o H S _ _ Ex.refl hs (xI _) q1⟩
def zvK(rd:XV->List XV->Sto->RX->Prop)(e:DE)(a:DA):DE:=fun δ S R=>e δ S fun x S1=>∃ ds,zm0 S1 x=some ds/\a δ S1 fun xs S2=>rd x xs S2 R
theorem zq8{K:W.Frag}{r:V->List V->Hp->VK->Prop}{rd:XV->List XV->Sto->RX->Prop}{te:TE}{de:DE}{tl:TA}{dl:DA}(hr:RM r rd)(he':RE te de)(ha:RA tl dl):RE (tBM K "list" r te tl) (zvK rd de dl):=fun h o H δ σ S R Q he hs q c =>
 he' h o H δ σ S _ _ he hs q fun o1 H1 S1 x v e1 s1 x1 ⟨ds,ez,d1⟩=>by
  obtain⟨a,ws,rfl,ea,_⟩:=zbH s1 ez x1;exact⟨ziP ea,ha h o1 H1 δ σ S1 _ _ (he.mono e1) s1 d1 fun o2 H2 S2 xs vs e2 s2 x2 d2=>hr h o2 H2 S2 x _ xs vs R Q s2 (x1.mono e2) x2 d2 (c.pre (e1.trans e2))⟩
abbrev zw9 (a:Addr) (m:Nat):DEnds:={ nx:=fun δ _=>δ[0]? = some (some (.o (.ref a)))/\δ.length=m+1,ct:=fun δ _=>δ[0]? = some (some (.o (.ref a)))/\δ.length=m+1,rt:=fun _ _=>False }
end
section
open Sem (wp)
def ItK(t:Bool)(h:Heap)(j a:Addr)(k:Nat):Prop:=match t with
 | true=>h.IsTupleIter j a k
 | false=>h.IsListIter j a k
def SqK(t:Bool)(h:Heap)(a:Addr)(xs:Array Value):Prop:=match t with
 | true=>h.IsTuple a xs
 | false=>h.IsList a xs
theorem ItK.at{t:Bool}{h g:Heap}{j a:Addr}{k:Nat}(q:ItK t h j a k)(f:∀ o,h.get? j=some o->g.get? j=some o):ItK t g j a k:=by
 cases t
 ·exact Heap.IsListIter.at (show h.IsListIter j a k from q) f
 ·exact Heap.IsTupleIter.at (show h.IsTupleIter j a k from q) f
theorem ItK.here{t:Bool}{h:Heap}{j a:Addr}{k:Nat}(q:ItK t h j a k):∃ o,h.get? j=some o/\∀ v,o.data≠.cell v:=by
 cases t <;> (obtain⟨o,e,c,d⟩:=q; exact⟨o,e,fun v z=>by rw [d] at z; cases z⟩)
theorem SqK.at{t:Bool}{h g:Heap}{a:Addr}{xs:Array Value}(q:SqK t h a xs)(f:∀ o,h.get? a=some o->g.get? a=some o):SqK t g a xs:=by
 cases t <;> (obtain⟨o,e,r⟩:=q; exact⟨o,f o e,r⟩)
theorem SqK.here{t:Bool}{h:Heap}{a:Addr}{xs:Array Value}(q:SqK t h a xs):∃ o,h.get? a=some o:=by
 cases t <;> (obtain⟨o,e,r⟩:=q; exact⟨o,e⟩)
section
variable {prog:Program} {w:World} {A:Around} {E:Value->Shared->Prop} {s:Shared}
theorem zsh{t:Bool}{j a:Addr}{k:Nat}{xs:Array Value}{x:Value}{Q:Value->Shared->Prop}(hj:ItK t s.heap j a k)(ha:SqK t s.heap a xs)(hx:xs[k]? = some x)
  (hQ:∀ g,ItK t g j a (k+1)->Heap.SameBut j s.heap g->Q x { s with heap:=g }):wpAny (model prog w) A (Builtin.SmallTypes.nextOf (.ref j)) Q E s:=by
 cases t
 ·exact wpAny_nextOf_list_item hj ha hx hQ
 ·exact zio hj ha hx hQ
theorem zjO{t:Bool}{j a:Addr}{k:Nat}{xs:Array Value}{Q:Value->Shared->Prop}(hh:A.handled=none)(hj:ItK t s.heap j a k)(ha:SqK t s.heap a xs)(hx:xs[k]? = none)
  (hE:∀ g e,Heap.ExtBut j s.heap g->(∃ o,g.get? e=some o/\o.cls=.type "StopIteration")->E (.ref e) { s with heap:=g }):wpAny (model prog w) A (Builtin.SmallTypes.nextOf (.ref j)) Q E s:=by
 cases t
 ·exact wpAny_nextOf_list_end hh hj ha hx hE
 ·exact zeo hh hj ha hx hE
theorem zuJ{t:Bool}{a:Addr}{xs:Array Value}{Q:Value->Shared->Prop}(ha:SqK t s.heap a xs)(hQ:Q (.ref s.heap.objs.size) { s with heap:=s.heap.push { cls:=.type (if t then "tuple_iterator" else "list_iterator"),data:=.fields #[.ref a,.int 0 0] } }):wpAny (model prog w) A (pyIter (.ref a)) Q E s:=by
 cases t
 ·exact wpAny_pyIter_list ha hQ
 ·exact wpAny_pyIter_tuple ha hQ
theorem zns{T:Addr}{c d x:Value}{k:Nat}{Q:Unit->Shared->Prop}(hT:IsPair s.heap T c d)(hQ:∀ g,g.get? T=some { cls:=.type "tuple",data:=.seq ((#[c,d]:Array Value).setIfInBounds k x) }->Heap.SameBut T s.heap g->Q () { s with heap:=g }):
  wpAny (model prog w) A (updateSeq T (·.setIfInBounds k x)) Q E s:=wpAny_updateSeq_pair hT hQ
structure ZAp(z p r i j a b:Addr):Prop where
 pz:p≠z
 rz:r≠z
 iz:i≠z
 jz:j≠z
 pr:p≠r
 pi:p≠i
 pj:p≠j
 ri:r≠i
 rj:r≠j
 ij:i≠j
 az:a≠z
 ar:a≠r
 ai:a≠i
 aj:a≠j
 bz:b≠z
 br:b≠r
 bi:b≠i
 bj:b≠j
theorem znY{t u:Bool}{z p r i j a b:Addr}{k m:Nat}{xs ys:Array Value}{x y c d:Value}{Q:Value->Shared->Prop}(D:ZAp z p r i j a b)(hz:IsZip s.heap z p r .none)(hp:IsPair s.heap p (.ref i) (.ref j))(hr:IsPair s.heap r c d)
  (hi:ItK t s.heap i a k) (hj:ItK u s.heap j b m) (ha:SqK t s.heap a xs) (hb:SqK u s.heap b ys) (hx:xs[k]? = some x) (hy:ys[m]? = some y)
  (hQ:∀ g,IsZip g z p r (rawInt s.heap.objs.size)->IsPair g r x y->ItK t g i a (k+1)->ItK u g j b (m+1)->IsPair g s.heap.objs.size x y ->
   (∀ q o,q≠z->q≠r->q≠i->q≠j->s.heap.get? q=some o->g.get? q=some o)->Q (.ref s.heap.objs.size) { s with heap:=g }) :
  wpAny (model prog w) A (Builtin.«zip.__next__» ⟨[.ref z],[]⟩) (fun fn s'=>∃ v,fn=.done (.ret v)/\Q v s') E s:=by
 obtain⟨h0,gs,dr,tk,os⟩:=s;show wpAny _ _ (field (.ref z) 2 >>= _) _ _ ⟨h0,gs,dr,tk,os⟩;refine wpAny_bind (wpAny_field hz rfl (x:=.bool false) rfl ?_);show wpAny _ _ (field (.ref z) 3 >>= _) _ _ ⟨h0,gs,dr,tk,os⟩;refine wpAny_bind (wpAny_field hz rfl (x:=.ref p) rfl (wpAny_bind (wpAny_seqItems hp rfl ?_)));show wpAny _ _ (Builtin.SmallTypes.ownedTupleIsFree (.ref z) >>= _) _ _ ⟨h0,gs,dr,tk,os⟩;refine wpAny_bind ?_;unfold Builtin.SmallTypes.ownedTupleIsFree;refine wpAny_bind (wpAny_field hz rfl (x:=.none) rfl (wpAny_pure ?_));simp only [if_true];refine wpAny_bind (wpAny_rule (wpAny_bind (wpAny_field hz rfl (x:=.ref r) rfl (wpAny_bind (wpAny_setField_rec hz (by simp) fun g1 z1 b1=>?_)))));replace z1:IsZip g1 z p r .ellipsis:=z1;replace b1:Heap.SameBut z h0 g1:=b1;refine wpAny_bind ?_;simp only [List.zipIdx_cons,List.zipIdx_nil,forIn_cons,List.forIn_nil];refine wpAny_bind (wpAny_bind (wpAny_onRaise ?_));show wpAny _ _ (Builtin.SmallTypes.nextOf (.ref i) >>= _) _ _ ⟨g1,gs,dr,tk,os⟩;refine wpAny_bind (zsh (s:=⟨g1,gs,dr,tk,os⟩) (hi.at fun o e=>b1.extBut i o D.iz e) (ha.at fun o e=>b1.extBut a o D.az e) hx fun g2 i2 b2=>wpAny_pure ?_);replace b2:Heap.SameBut i g1 g2:=b2;have r2:IsPair g2 r c d:=b2.extBut r _ D.ri (b1.extBut r _ D.rz hr);refine wpAny_bind (wpAny_seqItems (s:=⟨g2,gs,dr,tk,os⟩) r2 rfl (wpAny_bind (zns (s:=⟨g2,gs,dr,tk,os⟩) r2 fun g3 r3 b3=>?_)));replace r3:IsPair g3 r x d:=r3;replace b3:Heap.SameBut r g2 g3:=b3;refine wpAny_bind (wpAny_letGo (wpAny_pure (wpAny_bind (wpAny_bind (wpAny_onRaise ?_)))));show wpAny _ _ (Builtin.SmallTypes.nextOf (.ref j) >>= _) _ _ ⟨g3,gs,dr,tk,os⟩;have k13:∀ q o,q≠z->q≠r->q≠i->h0.get? q=some o->g3.get? q=some o:=fun q o n1 n2 n3 e=>b3.extBut q o n2 (b2.extBut q o n3 (b1.extBut q o n1 e));refine wpAny_bind (zsh (s:=⟨g3,gs,dr,tk,os⟩) (hj.at fun o e=>k13 j o D.jz (Ne.symm D.rj) (Ne.symm D.ij) e) (hb.at fun o e=>k13 b o D.bz D.br D.bi e) hy fun g4 j4 b4=>wpAny_pure ?_);replace b4:Heap.SameBut j g3 g4:=b4;have r4:IsPair g4 r x d:=b4.extBut r _ D.rj r3;refine wpAny_bind (wpAny_seqItems (s:=⟨g4,gs,dr,tk,os⟩) r4 rfl (wpAny_bind (zns (s:=⟨g4,gs,dr,tk,os⟩) r4 fun g5 r5 b5=>?_)));replace r5:IsPair g5 r x y:=r5;replace b5:Heap.SameBut r g4 g5:=b5;refine wpAny_bind (wpAny_letGo (wpAny_pure (wpAny_pure (wpAny_bind (wpAny_seqItems (s:=⟨g5,gs,dr,tk,os⟩) r5 rfl (wpAny_bind (wpAny_newTuple ?_)))))));have sz:g5.objs.size=h0.objs.size:=by rw [b5.1,b4.1,b3.1,b2.1,b1.1]
 have z5:IsZip g5 z p r .ellipsis:=b5.extBut z _ (Ne.symm D.rz) (b4.extBut z _ (Ne.symm D.jz) (b3.extBut z _ (Ne.symm D.rz) (b2.extBut z _ (Ne.symm D.iz) z1)));have k5:∀ q o,q≠z->q≠r->q≠i->q≠j->h0.get? q=some o->g5.get? q=some o:=fun q o n1 n2 n3 n4 e=>b5.extBut q o n2 (b4.extBut q o n4 (k13 q o n1 n2 n3 e));have i5:ItK t g5 i a (k+1):=ItK.at i2 fun o e=>b5.extBut i o (Ne.symm D.ri) (b4.extBut i o D.ij (b3.extBut i o (Ne.symm D.ri) e));have j5:ItK u g5 j b (m+1):=ItK.at j4 fun o e=>b5.extBut j o (Ne.symm D.rj) e;have zl:z<g5.objs.size:=lt_size z5;show wpAny _ _ (Builtin.SmallTypes.ownedTupleHandOut (.ref z) (.ref g5.objs.size) >>= _) _ _ _;refine wpAny_bind ?_;unfold Builtin.SmallTypes.ownedTupleHandOut;have z6:IsZip (g5.push { cls:=.type "tuple",data:=.seq #[x,y] }) z p r .ellipsis:=get?_push_of_some _ z5;refine wpAny_bind (wpAny_setField_rec z6 (by simp) fun g7 z7 b7=>?_);replace z7:IsZip g7 z p r (rawInt g5.objs.size):=z7;replace b7:Heap.SameBut z (g5.push { cls:=.type "tuple",data:=.seq #[x,y] }) g7:=b7;refine wpAny_setField_rec z7 (by simp) fun g8 z8 b8=>?_;replace z8:IsZip g8 z p r (rawInt g5.objs.size):=z8;replace b8:Heap.SameBut z g7 g8:=b8;have up:∀ q o,q≠z->g5.get? q=some o->g8.get? q=some o:=fun q o n e=>b8.extBut q o n (b7.extBut q o n (get?_push_of_some _ e));have t8:IsPair g8 g5.objs.size x y:=b8.extBut _ _ (ne_of_gt zl) (b7.extBut _ _ (ne_of_gt zl) (get?_push_size _ rfl));rw [sz] at z8 t8;refine wpAny_pure ⟨_,rfl,?_⟩;show Q (.ref g5.objs.size) _;rw [sz];exact hQ g8 z8 (up r _ D.rz r5) (i5.at fun o e=>up i o D.iz e) (j5.at fun o e=>up j o D.jz e) t8 fun q o n1 n2 n3 n4 e=>up q o n1 (k5 q o n1 n2 n3 n4 e)
theorem znI{t u:Bool}{z p r i j a b:Addr}{k m:Nat}{xs ys:Array Value}{c d:Value}{Q:Fin->Shared->Prop}(hh:A.handled=none)(D:ZAp z p r i j a b)(hz:IsZip s.heap z p r .none)(hp:IsPair s.heap p (.ref i) (.ref j))(hr:IsPair s.heap r c d)
  (hi:ItK t s.heap i a k) (hj:ItK u s.heap j b m) (ha:SqK t s.heap a xs) (hb:SqK u s.heap b ys) (hend:xs[k]? = none\/ys[m]? = none)
  (hE:∀ g e,(∀ q o,q≠z->q≠r->q≠i->q≠j->s.heap.get? q=some o->g.get? q=some o)->(∃ o,g.get? e=some o/\o.cls=.type "StopIteration")->E (.ref e) { s with heap:=g }) :
  wpAny (model prog w) A (Builtin.«zip.__next__» ⟨[.ref z],[]⟩) Q E s:=by
 obtain⟨h0,gs,dr,tk,os⟩:=s;show wpAny _ _ (field (.ref z) 2 >>= _) _ _ ⟨h0,gs,dr,tk,os⟩;refine wpAny_bind (wpAny_field hz rfl (x:=.bool false) rfl ?_);show wpAny _ _ (field (.ref z) 3 >>= _) _ _ ⟨h0,gs,dr,tk,os⟩;refine wpAny_bind (wpAny_field hz rfl (x:=.ref p) rfl (wpAny_bind (wpAny_seqItems hp rfl ?_)));show wpAny _ _ (Builtin.SmallTypes.ownedTupleIsFree (.ref z) >>= _) _ _ ⟨h0,gs,dr,tk,os⟩;refine wpAny_bind ?_;unfold Builtin.SmallTypes.ownedTupleIsFree;refine wpAny_bind (wpAny_field hz rfl (x:=.none) rfl (wpAny_pure ?_));simp only [if_true];refine wpAny_bind (wpAny_rule (wpAny_bind (wpAny_field hz rfl (x:=.ref r) rfl (wpAny_bind (wpAny_setField_rec hz (by simp) fun g1 z1 b1=>?_)))));replace z1:IsZip g1 z p r .ellipsis:=z1;replace b1:Heap.SameBut z h0 g1:=b1;refine wpAny_bind ?_;simp only [List.zipIdx_cons,List.zipIdx_nil,forIn_cons,List.forIn_nil];refine wpAny_bind (wpAny_bind (wpAny_onRaise ?_));show wpAny _ _ (Builtin.SmallTypes.nextOf (.ref i) >>= _) _ _ ⟨g1,gs,dr,tk,os⟩;have notz:∀ {g:Heap} {e:Addr} {o:Obj},IsZip g z p r .ellipsis->g.get? e=some o->o.cls=.type "StopIteration"->e≠z:=fun h1 h2 h3 w=>by
  subst w;rw [h1] at h2;cases h2;simp at h3
 cases hx:xs[k]? with
 | none =>
  refine wpAny_bind (zjO (s:=⟨g1,gs,dr,tk,os⟩) hh (hi.at fun o e=>b1.extBut i o D.iz e) (ha.at fun o e=>b1.extBut a o D.az e) hx fun g2 e b2 he=>?_);obtain⟨oe,e1,e2⟩:=he;have z2:IsZip g2 z p r .ellipsis:=b2 z _ (Ne.symm D.iz) z1;exact wpAny_setField_rec z2 (by simp) fun g3 _ b3=>hE g3 e (fun q o n1 _ n3 _ w=>b3.extBut q o n1 (b2 q o n3 (b1.extBut q o n1 w))) ⟨oe,b3.extBut e oe (notz z2 e1 e2) e1,e2⟩
 | some x =>
  have hy:ys[m]? = none:=hend.elim (fun w=>by rw [hx] at w; cases w) id;refine wpAny_bind (zsh (s:=⟨g1,gs,dr,tk,os⟩) (hi.at fun o e=>b1.extBut i o D.iz e) (ha.at fun o e=>b1.extBut a o D.az e) hx fun g2 i2 b2=>wpAny_pure ?_);replace b2:Heap.SameBut i g1 g2:=b2;have r2:IsPair g2 r c d:=b2.extBut r _ D.ri (b1.extBut r _ D.rz hr);refine wpAny_bind (wpAny_seqItems (s:=⟨g2,gs,dr,tk,os⟩) r2 rfl (wpAny_bind (zns (s:=⟨g2,gs,dr,tk,os⟩) r2 fun g3 r3 b3=>?_)));replace b3:Heap.SameBut r g2 g3:=b3;refine wpAny_bind (wpAny_letGo (wpAny_pure (wpAny_bind (wpAny_bind (wpAny_onRaise ?_)))));show wpAny _ _ (Builtin.SmallTypes.nextOf (.ref j) >>= _) _ _ ⟨g3,gs,dr,tk,os⟩;have k13:∀ q o,q≠z->q≠r->q≠i->h0.get? q=some o->g3.get? q=some o:=fun q o n1 n2 n3 e=>b3.extBut q o n2 (b2.extBut q o n3 (b1.extBut q o n1 e));refine wpAny_bind (zjO (s:=⟨g3,gs,dr,tk,os⟩) hh (hj.at fun o e=>k13 j o D.jz (Ne.symm D.rj) (Ne.symm D.ij) e) (hb.at fun o e=>k13 b o D.bz D.br D.bi e) hy fun g4 e b4 he=>?_);obtain⟨oe,e1,e2⟩:=he;have z4:IsZip g4 z p r .ellipsis:=b4 z _ (Ne.symm D.jz) (b3.extBut z _ (Ne.symm D.rz) (b2.extBut z _ (Ne.symm D.iz) z1));exact wpAny_setField_rec z4 (by simp) fun g5 _ b5=>hE g5 e (fun q o n1 n2 n3 n4 w=>b5.extBut q o n1 (b4 q o n4 (k13 q o n1 n2 n3 w))) ⟨oe,b5.extBut e oe (notz z4 e1 e2) e1,e2⟩
abbrev zpA (t:Bool) (h:Heap) (a:Addr):Heap:=h.push { cls:=.type (if t then "tuple_iterator" else "list_iterator"),data:=.fields #[.ref a,.int 0 0] }
abbrev zpB (t u:Bool) (h:Heap) (a b:Addr):Heap:=(zpA t h a).push { cls:=.type (if u then "tuple_iterator" else "list_iterator"),data:=.fields #[.ref b,.int 0 0] }
abbrev zpC (t u:Bool) (h:Heap) (a b:Addr):Heap:=(zpB t u h a b).push { cls:=.type "tuple",data:=.seq #[.ref h.objs.size,.ref (zpA t h a).objs.size] }
abbrev zpD (t u:Bool) (h:Heap) (a b:Addr):Heap:=(zpC t u h a b).push { cls:=.type "tuple",data:=.seq #[.none,.none] }
abbrev zpE (t u:Bool) (h:Heap) (a b:Addr):Heap:=(zpD t u h a b).push { cls:=.type "zip",data:=.fields #[.none,.bool false,.bool false,.ref (zpB t u h a b).objs.size,.ref (zpC t u h a b).objs.size] }
theorem zsu(t u:Bool)(a b:Addr)(xs ys:Array Value):Meets (Builtin.«zip.__new__» ⟨[.type "zip",.ref a,.ref b],[]⟩) (fun _ R s=>SqK t s.heap a xs/\SqK u s.heap b ys /\
   ∀ g,IsZip g (s.heap.objs.size+4) (s.heap.objs.size+2) (s.heap.objs.size+3) .none->IsPair g (s.heap.objs.size+2) (.ref s.heap.objs.size) (.ref (s.heap.objs.size+1))->IsPair g (s.heap.objs.size+3) .none .none ->
    ItK t g s.heap.objs.size a 0->ItK u g (s.heap.objs.size+1) b 0->(∀ q o,s.heap.get? q=some o->g.get? q=some o)->R (.ok (.ret (.ref (s.heap.objs.size+4)))) { s with heap:=g }) :=
 .of_wp fun prog w A R s hyp=>by
  obtain⟨g0,gs,dr,tk,os⟩:=s;obtain⟨ha,hb,hyp⟩:=hyp;have sub:=sub_zip;have hA:SqK t (Shared.heap ⟨g0,gs,dr,tk,os⟩) a xs:=ha;have hB:SqK u (Shared.heap ⟨g0.push { cls:=.type (if t then "tuple_iterator" else "list_iterator"),data:=.fields #[.ref a,.int 0 0] },gs,dr,tk,os⟩) b ys:=SqK.at hb fun o e=>get?_push_of_some _ e
  wp_walk using zuJ hA,zuJ hB
  refine⟨_,rfl,?_⟩;have z1:(zpA t g0 a).objs.size=g0.objs.size+1:=size_push ..;have z2:(zpB t u g0 a b).objs.size=g0.objs.size+2:=by rw [size_push,z1]
  have z3:(zpC t u g0 a b).objs.size=g0.objs.size+3:=by rw [size_push,z2]
  have z4:(zpD t u g0 a b).objs.size=g0.objs.size+4:=by rw [size_push,z3]
  have f1:=get?_push_size g0 (o:={ cls:=.type (if t then "tuple_iterator" else "list_iterator"),data:=.fields #[.ref a,.int 0 0] }) (by cases t <;> rfl);have f2:=get?_push_size (zpA t g0 a) (o:={ cls:=.type (if u then "tuple_iterator" else "list_iterator"),data:=.fields #[.ref b,.int 0 0] }) (by cases u <;> rfl);have f3:=get?_push_size (zpB t u g0 a b) (o:={ cls:=.type "tuple",data:=.seq #[.ref g0.objs.size,.ref (zpA t g0 a).objs.size] }) rfl;have f4:=get?_push_size (zpC t u g0 a b) (o:={ cls:=.type "tuple",data:=.seq #[.none,.none] }) rfl;have f5:=get?_push_size (zpD t u g0 a b) (o:={ cls:=.type "zip",data:=.fields #[.none,.bool false,.bool false,.ref (zpB t u g0 a b).objs.size,.ref (zpC t u g0 a b).objs.size] }) rfl;have c1:∀ q o,g0.get? q=some o->(zpA t g0 a).get? q=some o:=fun q o e=>get?_push_of_some _ e;have c2:∀ q o,(zpA t g0 a).get? q=some o->(zpB t u g0 a b).get? q=some o:=fun q o e=>get?_push_of_some _ e;have c3:∀ q o,(zpB t u g0 a b).get? q=some o->(zpC t u g0 a b).get? q=some o:=fun q o e=>get?_push_of_some _ e;have c4:∀ q o,(zpC t u g0 a b).get? q=some o->(zpD t u g0 a b).get? q=some o:=fun q o e=>get?_push_of_some _ e;have c5:∀ q o,(zpD t u g0 a b).get? q=some o->(zpE t u g0 a b).get? q=some o:=fun q o e=>get?_push_of_some _ e;have y1:=c5 _ _ (c4 _ _ (c3 _ _ (c2 _ _ f1)));have y2:=c5 _ _ (c4 _ _ (c3 _ _ f2));have y3:=c5 _ _ (c4 _ _ f3);have y4:=c5 _ _ f4;have y5:(zpE t u g0 a b).get? (zpD t u g0 a b).objs.size=some { cls:=.type "zip",data:=.fields #[.none,.bool false,.bool false,.ref (zpB t u g0 a b).objs.size,.ref (zpC t u g0 a b).objs.size] }:=f5;have fin:R (.ok (.ret (.ref (zpD t u g0 a b).objs.size))) ⟨zpE t u g0 a b,gs,dr,tk,os⟩:=by
   rw [z4,z2,z3] at y5;rw [z2,z1] at y3;rw [z3] at y4;rw [z1] at y2;rw [z4];refine hyp _ y5 y3 y4 ?_ ?_ fun q o e=>c5 q o (c4 q o (c3 q o (c2 q o (c1 q o e))))
   ·cases t <;> exact⟨_,y1,rfl,rfl⟩
   ·cases u <;> exact⟨_,y2,rfl,rfl⟩
  exact fin
theorem zpo{t u:Bool}{a b:Addr}{xs ys:Array Value}{Q:Value->Shared->Prop}(ha:SqK t s.heap a xs)(hb:SqK u s.heap b ys)
  (hyp:∀ g,IsZip g (s.heap.objs.size+4) (s.heap.objs.size+2) (s.heap.objs.size+3) .none->IsPair g (s.heap.objs.size+2) (.ref s.heap.objs.size) (.ref (s.heap.objs.size+1))->IsPair g (s.heap.objs.size+3) .none .none ->
    ItK t g s.heap.objs.size a 0->ItK u g (s.heap.objs.size+1) b 0->(∀ q o,s.heap.get? q=some o->g.get? q=some o)->Q (.ref (s.heap.objs.size+4)) { s with heap:=g }):wpAny (model prog w) A (call (.type "zip") [.ref a,.ref b]) Q E s:=by
 refine callType_new F.called_zip dz (F.typeCall_zip_2 _ _) (F.newCall_zip_2 _ _) (fun ob=>F.args_object_init_3 ob _ _) F.entry_zip_new (zsu t u a b xs ys) ⟨ha,hb,fun g h1 h2 h3 h4 h5 h6=>?_⟩;exact⟨⟨_,h1,rfl⟩,hyp g h1 h2 h3 h4 h5 h6⟩
end
def Itz(S1 S2:Hp->Addr->List V->Prop)(a b:Addr):It :=
 ⟨fun i H=>∃ xs ys x y,S1 H a xs/\S2 H b ys/\xs[i]? = some x/\ys[i]? = some y,fun i H x H'=>∃ p v u,H p=none/\x=.ref p/\H'=upd H p (.tup [v,u])/\(∀ xs,S1 H a xs->xs[i]? = some v)/\(∀ ys,S2 H b ys->ys[i]? = some u),fun i H=>∃ xs ys,S1 H a xs/\S2 H b ys/\(xs.length<=i\/ys.length<=i)⟩
def SqV(K:W.Frag)(t:Bool)(H:Hp)(a:Addr)(xs:List V):Prop:=match t with
 | true=>SqT K H a xs
 | false=>SqL K H a xs
theorem Inv.seqK{X:Cx}{zn:List (Addr×Obj)}{σ:St}{H:Hp}{s:Shared}{t:Bool}{a:Addr}{xs:List V}(I:Inv X zn σ H s)(h:SqV X.K t H a xs):∃ its:List Value,Vals xs its/\SqK t s.heap a its.toArray/\∀ ys,SqV X.K t H a ys->ys=xs:=by
 cases t
 ·obtain⟨its,rv,p,_⟩:=I.list h;exact⟨its,rv,p.isList,fun ys hy=>I.list_inj hy h⟩
 ·obtain⟨its,rv,p,_⟩:=I.tuple h;exact⟨its,rv,p,fun ys hy=>I.tuple_inj hy h⟩
theorem zqC{P:Program}{w:World}{K:W.Frag}{elts:List Expr}{n:Nat}{pos:Pos}(t u:Bool)(z p r i j a b:Addr)(D:ZAp z p r i j a b):Turn P w K (.Tuple elts n pos) (Itz (SqV K t) (SqV K u) a b) [z,p,r,i,j] z
  (fun k h=>IsZip h z p r .none/\IsPair h p (.ref i) (.ref j)/\(∃ c d,IsPair h r c d)/\ItK t h i a k/\ItK u h j b k) where
 mem:=by simp
 obj:=fun k h ⟨h1,h2,⟨c,d,h3⟩,h4,h5⟩ q hq=>by
  simp only [mem_cons,not_mem_nil,or_false] at hq;rcases hq with rfl | rfl | rfl | rfl | rfl
  ·exact⟨_,h1,fun v e=>by cases (show Data.fields _=Data.cell v from e)⟩
  ·exact⟨_,h2,fun v e=>by cases (show Data.seq _ _=Data.cell v from e)⟩
  ·exact⟨_,h3,fun v e=>by cases (show Data.seq _ _=Data.cell v from e)⟩
  ·exact h4.here
  ·exact h5.here
 keep:=fun k h h' ⟨h1,h2,⟨c,d,h3⟩,h4,h5⟩ f=>⟨f z (by simp) _ h1,f p (by simp) _ h2,⟨c,d,f r (by simp) _ h3⟩,h4.at fun o e=>f i (by simp) o e,h5.at fun o e=>f j (by simp) o e⟩
 item:=by
  intro X hP hw hK hc k zn s σ H E I hf st hg;subst hP hw hK;obtain⟨xs,ys,x,y,q1,q2,ex,ey⟩:=hg;obtain⟨its,rv,sq,inj⟩:=I.seqK q1;obtain⟨its2,rv2,sq2,inj2⟩:=I.seqK q2;obtain⟨v1,e1,r1⟩:=rv.get ex;obtain⟨v2,e2,r2⟩:=rv2.get ey;obtain⟨h1,h2,⟨c,d,h3⟩,h4,h5⟩:=st;have ty:s.TypeIs (.ref z) "zip":=⟨_,h1,rfl⟩;unfold pyNext;refine wpAny_bind (wpAny_attempt (wpAny_callSpecial?_slot (name:=Str.ofString "__next__") ty F.slot_zip_next (wpAny_call_entry F.slot_zip_next ty F.entry_zip_next
   (znY D h1 h2 h3 h4 h5 sq sq2 (by simpa using e1) (by simpa using e2) fun g a1 a2 a3 a4 a5 kk=>wpAny_pure ⟨_,rfl,?_⟩) (F.args_zip_next_1 _))))
  refine wpAny_letOwnedTupleGo_zip (s:={ s with heap:=g }) a1 fun g' z' b'=>?_;have lt:∀ {q o},s.heap.get? q=some o->s.heap.objs.size≠q:=fun e=>ne_of_gt (lt_size e);have b'':Heap.SameBut z g g':=b';have pT:IsPair g' s.heap.objs.size v1 v2:=b''.extBut _ _ (lt h1) a5;have hn:=I.hok.fresh (le_refl s.heap.objs.size);have kk':∀ q o,q∉[z,r,i,j]->s.heap.get? q=some o->g'.get? q=some o:=fun q o hq e=>by
   simp only [mem_cons,not_mem_nil,or_false,not_or] at hq;exact b''.extBut q o hq.1 (kk q o hq.1 hq.2.1 hq.2.2.1 hq.2.2.2 e)
  have I1:Inv X zn σ (upd H s.heap.objs.size (.tup [x,y])) { s with heap:=g' }:=I.turnLaid (t':=s.toks) (ch:=[z,r,i,j]) kk' (fun q hq=>hf q (by
   simp only [mem_cons,not_mem_nil,or_false] at hq ⊢;rcases hq with h | h | h | h
   ·exact .inl h
   ·exact .inr (.inr (.inl h))
   ·exact .inr (.inr (.inr (.inl h)))
   ·exact .inr (.inr (.inr (.inr h))))) (le_refl _) ⟨⟨by show 2<=sizeLine; decide,_,pT,rfl⟩,[v1,v2],.cons r1 (.cons r2 .nil),⟨_,pT,rfl,_,rfl⟩⟩
  have fresh:∀ q,q∈[z,p,r,i,j]->q≠s.heap.objs.size:=fun q hq w=>by
   simp only [mem_cons,not_mem_nil,or_false] at hq;obtain⟨o1,w1,_⟩:=h4.here;obtain⟨o2,w2,_⟩:=h5.here;rcases hq with h | h | h | h | h
   ·exact lt h1 (w.symm.trans h)
   ·exact lt h2 (w.symm.trans h)
   ·exact lt h3 (w.symm.trans h)
   ·exact lt w1 (w.symm.trans h)
   ·exact lt w2 (w.symm.trans h)
  refine⟨.ref s.heap.objs.size,_,I1,rfl,⟨_,x,y,hn,rfl,rfl,fun zs hz=>by rw [inj zs hz]; exact ex,fun zs hz=>by rw [inj2 zs hz]; exact ey⟩,⟨z',kk' p _ (by simp [D.pz,D.pr,D.pi,D.pj]) h2,⟨_,_,b''.extBut r _ D.rz a2⟩,a3.at fun o e=>b''.extBut i o D.iz e,a4.at fun o e=>b''.extBut j o D.jz e⟩,fun q hq=>?_⟩;rw [zS (fresh q hq)];exact(hf q hq).1
 done:=by
  intro X hP hw hK hc k zn s σ H E I hf st hg;subst hP hw hK;obtain⟨xs,ys,q1,q2,hl⟩:=hg;obtain⟨its,rv,sq,inj⟩:=I.seqK q1;obtain⟨its2,rv2,sq2,inj2⟩:=I.seqK q2;obtain⟨h1,h2,⟨c,d,h3⟩,h4,h5⟩:=st;have l1:=rv.length;have l2:=rv2.length;have ty:s.TypeIs (.ref z) "zip":=⟨_,h1,rfl⟩;unfold pyNext;refine wpAny_bind (wpAny_attempt (wpAny_callSpecial?_slot (name:=Str.ofString "__next__") ty F.slot_zip_next (wpAny_call_entry F.slot_zip_next ty F.entry_zip_next
   (znI (I.ok.hd hc) D h1 h2 h3 h4 h5 sq sq2 (hl.elim (fun h=>.inl (by simp; omega)) fun h=>.inr (by simp; omega)) fun g e kk he=>?_) (F.args_zip_next_1 _))))
  obtain⟨o,ho,hc'⟩:=he;refine wpAny_bind (wpAny_isInstance (T:="StopIteration") (b:=true) ⟨o,ho,hc'⟩ isSubtype_stop (wpAny_pure ⟨rfl,?_⟩));refine I.turnedN (t':=s.toks) (ch:=[z,r,i,j]) (fun q o hq e=>?_) fun q hq=>hf q (by
   simp only [mem_cons,not_mem_nil,or_false] at hq ⊢;rcases hq with h | h | h | h
   ·exact .inl h
   ·exact .inr (.inr (.inl h))
   ·exact .inr (.inr (.inr (.inl h)))
   ·exact .inr (.inr (.inr (.inr h))))
  simp only [mem_cons,not_mem_nil,or_false,not_or] at hq;exact kk q o hq.1 hq.2.1 hq.2.2.1 hq.2.2.2 e
 self:=fun _ _ _ _ _ st h=>wpAny_pyIter_zip st.1 h
theorem nne{a b:Nat}(h:a<b\/b<a):(show Addr from a)≠(show Addr from b):=fun e=>by
 have e':a=b:=e;omega
theorem zuj(N a b:Nat)(ha:a<N)(hb:b<N):ZAp (N+4) (N+2) (N+3) N (N+1) a b:=by
 constructor <;> exact nne (by omega)
theorem zsx(N q:Nat)(hq:q=N+4\/q=N+2\/q=N+3\/q=N\/q=N+1):N<=q:=by omega
section
variable {X:Cx} {elts:List Expr} {n:Nat} {tpos:Pos}
theorem zqq:bootBuiltins "zip" = some (.type "zip"):=by decide +kernel
def zuN(K:W.Frag)(ta:TA):TI:=fun σ H R=>ta σ H fun vs H1=>∃ a b t u,vs=[.ref a,.ref b]/\(∃ xs,SqV K t H1 a xs)/\(∃ ys,SqV K u H1 b ys)/\R (Itz (SqV K t) (SqV K u) a b) H1
theorem zdU{e1 e2:Expr}{ta:TA}{p pos:Pos}(hg:Gl X "zip")(hm:X.mg "zip" = none)(ha:PA X [e1,e2] ta)(hs:starEach [e1,e2] X.env=[(false,eval e1 X.env),(false,eval e2 X.env)]:=by rfl)(hs2:starEach [e2] X.env=[(false,eval e2 X.env)]:=by rfl):
  PI X (.Tuple elts n tpos) (.Call (.Name "zip" p) [e1,e2] [] pos) (zuN X.K ta):=by
 intro zn s σ H R I h;refine Call_ (zfn I hg hm zqq (PyProof.Rows.callWith_type1 (thn (ha pos zn s σ H _ I h) fun us s1 ⟨vs,H1,I1,r1,q1⟩=>?_) (by rw [hs,hs2]) (by rw [hs2]; rfl)));obtain⟨a,b,t,u,e,⟨xs,q1⟩,⟨ys,q2⟩,q⟩:=q1;subst e;cases r1 with
 | cons r rr =>
  cases rr with
  | cons r' rr =>
   cases rr;cases r;cases r';obtain⟨its,rv,sq,_⟩:=I1.seqK q1;obtain⟨its2,rv2,sq2,_⟩:=I1.seqK q2;refine zpo sq sq2 fun g h1 h2 h3 h4 h5 k=>?_;refine wpAny_pyIter_zip (s:={ s1 with heap:=g }) h1 ?_
   have I2:Inv X zn σ H1 { s1 with heap:=g }:=I1.kept (t':=s1.toks) k;obtain⟨oa,fa⟩:=sq.here;obtain⟨ob,fb⟩:=sq2.here;have la:=lt_size fa;have lb:=lt_size fb;have D:ZAp (s1.heap.objs.size+4) (s1.heap.objs.size+2) (s1.heap.objs.size+3) s1.heap.objs.size (s1.heap.objs.size+1) a b:=zuj _ _ _ la lb;refine⟨_,[s1.heap.objs.size+4,s1.heap.objs.size+2,s1.heap.objs.size+3,s1.heap.objs.size,s1.heap.objs.size+1],_,_,H1,rfl,I2,zqC t u _ _ _ _ _ a b D,⟨h1,h2,⟨_,_,h3⟩,h4,h5⟩,fun q hq=>?_,q⟩;have hl:s1.heap.objs.size<=q:=by
    simp only [mem_cons,not_mem_nil,or_false] at hq;exact zsx _ _ hq
   exact I1.fpOk hl (I1.hok.fresh hl)
end
def zi1:List PyData->List PyData->List PyData
 | d :: ds,e :: es=>.tuple [d,e] :: zi1 ds es
 | _,_=>[]
theorem ziC:∀ (ds es:List PyData) (k:Nat) (x:PyData),(zi1 ds es)[k]? = some x->∃ d e,ds[k]? = some d/\es[k]? = some e/\x=.tuple [d,e]
 | [],_,_,_,h=>by simp [zi1] at h
 | _ :: _,[],_,_,h=>by simp [zi1] at h
 | d :: ds,e :: es,0,x,h=>by
  have e':PyData.tuple [d,e]=x:=by simpa [zi1] using h
  exact⟨d,e,rfl,rfl,e'.symm⟩
 | d :: ds,e :: es,k+1,x,h=>by
  obtain⟨d',e',h1,h2,h3⟩:=ziC ds es k x (by simpa [zi1] using h);exact⟨d',e',by simpa using h1,by simpa using h2,h3⟩
theorem zlu:∀ (ds es:List PyData),(zi1 ds es).length=min ds.length es.length
 | [],_=>by simp [zi1]
 | _ :: _,[]=>by simp [zi1]
 | d :: ds,e :: es=>by simp [zi1,zlu ds es]; try omega
theorem zco{α β:Type}(f:α->PyData)(g:β->PyData):∀ (xs:List α) (ys:List β),zi1 (xs.map f) (ys.map g)=(xs.zip ys).map fun q=>.tuple [f q.1,g q.2]
 | [],_=>by simp [zi1]
 | _ :: _,[]=>by simp [zi1]
 | x :: xs,y :: ys=>by simp [zi1,zco f g xs ys]
def zdP(a:DA):DI:=fun δ S R=>a δ S fun xs S1=>arg2 xs fun x y=>∃ ds,zl3 x=some ds/\∃ es,zl3 y=some es/\R (zi1 ds es) S1
theorem zlF{K:W.Frag}{h o:List Addr}{H:Hp}{x:XV}{v:V}{ds:List PyData}(e:zl3 x=some ds)(q:HasX h o H x v):∃ t a ws,v=.ref a/\HasL (vx h o H) ds ws/\∀ {o2 H2},ExH h o H o2 H2->SqV K t H2 a ws:=by
 unfold zl3 at e;split at e
 ·cases e;obtain⟨a,ws,rfl,ea,l⟩:=zbk.mp (show Has (vx h o H) (.list ds) v from q);exact⟨false,a,ws,rfl,l,fun e2=>(SqL.of (zao _ _ (e2.vx _ _ ea)):SqL K _ a ws)⟩
 ·cases e;obtain⟨a,ws,rfl,ea,l⟩:=zay.mp (show Has (vx h o H) (.tuple ds) v from q);exact⟨true,a,ws,rfl,l,fun e2=>(SqT.of (zao _ _ (e2.vx _ _ ea)):SqT K _ a ws)⟩
 ·cases e
theorem zey{K:W.Frag}{ta:TA}{da:DA}(ha:RA ta da):RI (zuN K ta) (zdP da):=fun h o H δ σ S R Q he hs q c =>
 ha h o H δ σ S _ _ he hs q fun o1 H1 S1 xs vs e1 s1 x1 d0=>by
  obtain⟨x,y,rfl,ds,hd,es,hes,d1⟩:=zlc d0;obtain⟨v,u,rfl,hv,hu⟩:=hxs2 x1;obtain⟨t,a,ws,rfl,l,k1⟩:=zlF (K:=K) hd hv;obtain⟨t',b,zs,rfl,l',k2⟩:=zlF (K:=K) hes hu;have hl:=l.length;have hl':=l'.length;refine⟨a,b,t,t',rfl,⟨ws,k1 ExH.refl⟩,⟨zs,k2 ExH.refl⟩,c o1 H1 S1 _ _ e1 s1 ⟨fun i o2 H2 e2 hi=>⟨ws,zs,k1 e2,k2 e2,by rw [zlu] at hi; omega⟩,fun i d o2 H2 e2 hi=>?_,fun i d o2 H2 x H3 S2 e2 s2 hi y=>?_⟩ d1⟩
  ·obtain⟨d',e',h1,h2,rfl⟩:=ziC ds es i d hi;obtain⟨u1,eu1,_⟩:=l.get h1;obtain⟨u2,eu2,_⟩:=l'.get h2;exact⟨ws,zs,u1,u2,k1 e2,k2 e2,eu1,eu2⟩
  ·obtain⟨d',e',h1,h2,rfl⟩:=ziC ds es i d hi;obtain⟨u1,eu1,hu1⟩:=l.get h1;obtain⟨u2,eu2,hu2⟩:=l'.get h2;obtain⟨p,v,u,hp,rfl,rfl,y1,y2⟩:=y;have f1:=y1 ws (k1 e2);have f2:=y2 zs (k2 e2);rw [eu1] at f1;rw [eu2] at f2;cases f1;cases f2;exact⟨Same.laid hp,zay.mpr ⟨p,_,rfl,s2.laid hp,zD.mpr ⟨_,_,rfl,(hu1.mono e2.vx).mono (zfu (Same.laid hp)),zD.mpr ⟨_,_,rfl,(hu2.mono e2.vx).mono (zfu (Same.laid hp)),zM.mpr rfl⟩⟩⟩⟩
end
section
open Sem (wp)
section
variable {prog:Program} {w:World} {A:Around} {R:Result->Shared->Prop} {I:Addr} {fp wr:List Addr} {n:Nat} {P:Nat->Value->Prop} {St:Nat->Heap->Prop}
def CmpH(prog:Program)(w:World)(A:Around)(g:Heap)(own:List Addr)(P:Nat->Value->Prop)(bt:Nat->Nat->Bool):Prop :=
 ∀ i j x y (s:Shared) (Q:Value->Shared->Prop) (E:Value->Shared->Prop),(∀ b o,b∉own->g.get? b=some o->s.heap.get? b=some o)->P i x->P j y->Q (.bool (bt i j)) s->wpAny (model prog w) A (richCompare .Lt x y) Q E s
theorem zoR(W:Walks prog w A.in1 I fp wr n P St)(bt:Nat->Nat->Bool){g:Heap}(S:Addr)(cm:CmpH prog w A.in1 g (S :: wr) P bt)(nS:S∉fp):∀ (d j:Nat) (s:Shared) (best:Value) (c:Nat),n=j+1+d->(∀ b o,b∉S :: wr->g.get? b=some o->s.heap.get? b=some o)->St (j+1) s.heap->P (argBest bt j) best ->
   s.heap.get? S=some { cls:=.type "list",dict:=none,data:=.seq #[best,best] c,slots:=#[] } ->
   (∀ v h' tk,P (argBest bt (n - 1)) v->(∀ b o,b∉S :: wr->s.heap.get? b=some o->h'.get? b=some o)->R (.ok (.ret v)) { s with heap:=h',toks:=tk })->codeAny (model prog w) A (.builtin "min.loop" ⟨[.ref I,.none,.ref S],[]⟩) R s:=by
 have nw:S∉wr:=fun m=>nS (W.sub _ m);have nm:(toString "min" ++ toString ".loop":String) = "min.loop":=by decide
 intro d;induction d with
 | zero =>
  intro j s best c hd kg st hb hS fin;have hj:j+1=n:=by omega
  refine codeAny_builtin F.entry_min_loop ?_;rw [Around.under_plainId F.plain_min_loop _];show wpAny _ A.in1 (seqItems? (.ref S) >>= _) _ _ s;refine wpAny_bind (wpAny_seqItems hS rfl ?_);show wpAny _ A.in1 (tryCatch (pyNext (.ref I)) _ >>= _) _ _ s;refine wpAny_bind (wpAny_tryCatch (W.done s _ _ (by rw [<- hj]; exact st) fun h1 t1 k1=>?_));have hS1:=k1 S _ nw hS;show wpAny _ A.in1 (updateSeq S (fun _=>#[]) >>= _) _ _ _;refine wpAny_bind (wpAny_updateSeq hS1 rfl (wpAny_bind (wpAny_letGo (wpAny_pure (fin best _ t1 (by rw [<- hj]; exact hb) fun b o hn e=>?_)))));rw [mem_cons,not_or] at hn;exact(get?_update_other _ _ (Ne.symm hn.1)).trans (k1 b o hn.2 e)
 | succ d ih =>
  intro j s best c hd kg st hb hS fin;refine codeAny_builtin F.entry_min_loop ?_;rw [Around.under_plainId F.plain_min_loop _];show wpAny _ A.in1 (seqItems? (.ref S) >>= _) _ _ s;refine wpAny_bind (wpAny_seqItems hS rfl ?_);show wpAny _ A.in1 (tryCatch (pyNext (.ref I)) _ >>= _) _ _ s;refine wpAny_bind (wpAny_tryCatch (W.item (j+1) s _ _ (by omega) st fun x h1 t1 hx st1 k1=>?_));have hS1:=k1 S _ nw hS;have kg1:∀ b o,b∉S :: wr->g.get? b=some o->h1.get? b=some o:=fun b o hn e=>k1 b o (fun m=>hn (mem_cons_of_mem _ m)) (kg b o hn e);show wpAny _ A.in1 (tryCatch (holding [x,x] (richCompare .Lt x best >>= _)) _ >>= _) _ _ _;refine wpAny_bind (wpAny_tryCatch (wpAny_holding (wpAny_bind (cm (j+1) (argBest bt j) x best _ _ _ kg1 hx hb (wpAny_bind (wpAny_holding (wpAny_truthy_bool (wpAny_bind (wpAny_letGo (wpAny_pure ?_)))))))))) ;cases ht:bt (j+1) (argBest bt j) with
  | true =>
   simp only [if_true];refine wpAny_bind (wpAny_updateSeq hS1 rfl (wpAny_bind (wpAny_letGo ?_)));rw [nm];have keep:∀ b o,b∉S :: wr->s.heap.get? b=some o->(h1.update S (Obj.mapSeq fun _=>#[x,x])).get? b=some o:=fun b o hn e=>by
    rw [mem_cons,not_or] at hn;exact(get?_update_other _ _ (Ne.symm hn.1)).trans (k1 b o hn.2 e)
   refine wpAny_pure ⟨plainId_quiet F.plain_min_loop _,ih (j+1) _ x _ (by omega) (fun b o hn e=>keep b o hn (kg b o hn e)) (W.frame _ _ _ st1 fun b m o e=>?_) (by simp only [argBest,ht,if_true]; exact hx) (get?_update_self _ hS1 rfl) fun v h2 t2 hv k2=>fin v h2 t2 hv fun b o hn e=>k2 b o hn (keep b o hn e)⟩;exact(get?_update_other _ _ (fun z:S=b=>nS (by rw [z]; exact m))).trans e
  | false =>
   simp only [Bool.false_eq_true,if_false];refine wpAny_bind (wpAny_letGo ?_);rw [nm];exact wpAny_pure ⟨plainId_quiet F.plain_min_loop _,ih (j+1) _ best c (by omega) kg1 st1 (by simp only [argBest,ht,Bool.false_eq_true,if_false]; exact hb) hS1 fun v h2 t2 hv k2=>fin v h2 t2 hv fun b o hn e=>k2 b o hn (k1 b o (fun m=>hn (mem_cons_of_mem _ m)) e)⟩
theorem zmX(W:Walks prog w A.in1 I fp wr n P St)(bt:Nat->Nat->Bool)(S:Addr)(nS:S∉fp)(hn:0<n){s:Shared}{c:Nat}(cm:CmpH prog w A.in1 s.heap (S :: wr) P bt)(st:St 0 s.heap)(hS:s.heap.get? S=some { cls:=.type "list",dict:=none,data:=.seq #[] c,slots:=#[] })
  (fin:∀ v h' tk,P (argBest bt (n - 1)) v->(∀ b o,b∉S :: wr->s.heap.get? b=some o->h'.get? b=some o)->R (.ok (.ret v)) { s with heap:=h',toks:=tk }):codeAny (model prog w) A (.builtin "min.loop" ⟨[.ref I,.none,.ref S],[]⟩) R s:=by
 have nw:S∉wr:=fun m=>nS (W.sub _ m);have nm:(toString "min" ++ toString ".loop":String) = "min.loop":=by decide
 refine codeAny_builtin F.entry_min_loop ?_;rw [Around.under_plainId F.plain_min_loop _];show wpAny _ A.in1 (seqItems? (.ref S) >>= _) _ _ s;refine wpAny_bind (wpAny_seqItems hS rfl ?_);show wpAny _ A.in1 (tryCatch (pyNext (.ref I)) _ >>= _) _ _ s;refine wpAny_bind (wpAny_tryCatch (W.item 0 s _ _ hn st fun x h1 t1 hx st1 k1=>?_));have hS1:=k1 S _ nw hS;show wpAny _ A.in1 (updateSeq S (fun _=>#[x,x]) >>= _) _ _ _;refine wpAny_bind (wpAny_updateSeq hS1 rfl ?_);rw [nm];have keep:∀ b o,b∉S :: wr->s.heap.get? b=some o->(h1.update S (Obj.mapSeq fun _=>#[x,x])).get? b=some o:=fun b o hn e=>by
  rw [mem_cons,not_or] at hn;exact(get?_update_other _ _ (Ne.symm hn.1)).trans (k1 b o hn.2 e)
 refine wpAny_pure ⟨plainId_quiet F.plain_min_loop _,zoR W bt S cm nS (n - 1) 0 _ x _ (by omega) keep (W.frame _ _ _ st1 fun b m o e=>?_) hx (get?_update_self _ hS1 rfl) fun v h2 t2 hv k2=>fin v h2 t2 hv fun b o hn e=>k2 b o hn (keep b o hn e)⟩;exact(get?_update_other _ _ (fun z:S=b=>nS (by rw [z]; exact m))).trans e
end
section
variable {prog:Program} {w:World} {A:Around} {E:Value->Shared->Prop} {s:Shared}
theorem zoK{l:Addr}{its:Array Value}{Q:Value->Shared->Prop}(hh:A.handled=none)(hl:s.heap.IsList l its)(hne:0<its.size)(bt:Nat->Nat->Bool)
  (cm:∀ i j x y (s':Shared) (Q:Value->Shared->Prop) (E:Value->Shared->Prop),(∀ b o,s.heap.get? b=some o->s'.heap.get? b=some o)->its[i]? = some x->its[j]? = some y->Q (.bool (bt i j)) s'->wpAny (model prog w) A.in1 (richCompare .Lt x y) Q E s')
  (fin:∀ v h' tk,its[argBest bt (its.size - 1)]? = some v->(∀ b o,s.heap.get? b=some o->h'.get? b=some o)->Q v { s with heap:=h',toks:=tk }):wpAny (model prog w) A (call (.builtin "min") [.ref l]) Q E s:=by
 have nm:(toString "min" ++ toString ".loop":String) = "min.loop":=by decide
 have lt:l<s.heap.objs.size:=by obtain⟨o,e,_⟩:=hl; exact lt_size e
 refine call_function_tree F.kind_min F.plain_min F.entry_min (F.args_min1 _) ?_;show wpAny _ A.in1 (Builtin.Builtins.bindParams "min" ["key","default"] 0 ⟨[],[]⟩ >>= _) _ _ s;refine wpAny_bind (wpAny_of_eq (show Builtin.Builtins.bindParams "min" ["key","default"] 0 ⟨[],[]⟩=pure [none,none] from rfl) (wpAny_bind (wpAny_pure (wpAny_bind (wpAny_pyIter_list hl ?_)))));refine wpAny_bind (wpAny_newObj_type ?_);rw [nm];have z1:(s.heap.push { cls:=.type "list_iterator",data:=.fields #[.ref l,.int 0 0] }).objs.size=s.heap.objs.size+1:=size_push ..;have nS:(s.heap.push { cls:=.type "list_iterator",data:=.fields #[.ref l,.int 0 0] }).objs.size∉[s.heap.objs.size,l]:=by
  rw [z1];simp only [mem_cons,not_mem_nil,or_false,not_or];exact⟨Nat.succ_ne_self _,ne_of_gt (lt_succ_of_lt lt)⟩
 have up:∀ b o,s.heap.get? b=some o->((s.heap.push { cls:=.type "list_iterator",data:=.fields #[.ref l,.int 0 0] }).push { cls:=.type "list",data:=.seq #[] }).get? b=some o:=fun b o e=>get?_push_of_some _ (get?_push_of_some _ e);have old:∀ b o,s.heap.get? b=some o->b∉(s.heap.push { cls:=.type "list_iterator",data:=.fields #[.ref l,.int 0 0] }).objs.size :: [s.heap.objs.size]:=fun b o e=>by
  rw [z1];simp only [mem_cons,not_mem_nil,or_false,not_or];have:=lt_size e;exact⟨ne_of_lt (lt_succ_of_lt this),ne_of_lt this⟩
 refine wpAny_pure ⟨plainId_quiet F.plain_min_loop _,zmX (Walks.list (A:=A.in1) hh _ l (ne_of_lt lt) its) bt _ nS hne (fun i j x y s' Q' E' k hi hj q=>cm i j x y s' Q' E' (fun b o e=>k b o (old b o e) (up b o e)) hi hj q) ?_ (get?_push_size _ rfl) fun v h' tk hv k=>fin v h' tk hv fun b o e=>k b o (old b o e) (up b o e)⟩;exact⟨⟨_,get?_push_of_some _ (get?_push_size _ rfl),rfl,rfl⟩,(hl.push _).push _⟩
end
def zuF(K:W.Frag):List V->Hp->VK->Prop:=fun xs H Q=>∃ (p:Addr) (vs:List V) (nss:List (List Int)),xs=[.ref p]/\SqL K H p vs/\vs≠[]/\Paired (fun(v:V) (ns:List Int)=>∃ a,v=.ref a/\H a=some (.tup (ns.map V.int))) vs nss /\
 ∀ (i:Nat) v ns,vs[i]? = some v->nss[i]? = some ns->(∀ ms∈nss,HT.lexLt ms ns=false)->Q v H
theorem zgC{ns:Nat->List Int}(tr:∀ a b c:List Int,HT.lexLt a b=false->HT.lexLt b c=false->HT.lexLt a c=false)(as:∀ a b:List Int,HT.lexLt a b=true->HT.lexLt b a=false):∀ k,argBest (fun i j=>HT.lexLt (ns i) (ns j)) k<=k/\∀ j,j<=k->HT.lexLt (ns j) (ns (argBest (fun i j=>HT.lexLt (ns i) (ns j)) k))=false
 | 0=>⟨le_refl _,fun j hj=>by
   have:j=0:=by omega
   subst this;show HT.lexLt (ns 0) (ns 0)=false;cases h:HT.lexLt (ns 0) (ns 0) with
   | false=>rfl
   | true=>have:=as _ _ h; rw [h] at this; cases this⟩
 | k+1=>by
  obtain⟨h1,h2⟩:=zgC tr as (ns:=ns) k;simp only [argBest];by_cases hb:HT.lexLt (ns (k+1)) (ns (argBest (fun i j=>HT.lexLt (ns i) (ns j)) k))=true
  ·rw [if_pos hb];refine⟨le_refl _,fun j hj=>?_⟩;by_cases e:j=k+1
   ·subst e;cases h:HT.lexLt (ns (k+1)) (ns (k+1)) with
    | false=>rfl
    | true=>have:=as _ _ h; rw [h] at this; cases this
   ·exact tr _ _ _ (h2 j (by omega)) (as _ _ hb)
  ·rw [if_neg hb];refine⟨by omega,fun j hj=>?_⟩;by_cases e:j=k+1
   ·subst e; exact Bool.eq_false_iff.mpr hb
   ·exact h2 j (by omega)
theorem zlR:∀ a b:List Int,HT.lexLt a b=true->HT.lexLt b a=false
 | [],[],h=>by cases h
 | [],y :: ys,_=>rfl
 | x :: xs,[],h=>by cases h
 | x :: xs,y :: ys,h=>by
  rw [HT.lexLt_cons] at h ⊢;by_cases e:x=y
  ·subst e;rw [if_pos rfl] at h ⊢;exact zlR xs ys h
  ·rw [if_neg e] at h;rw [if_neg (Ne.symm e)];simp only [decide_eq_true_eq] at h;simp only [decide_eq_false_iff_not];omega
theorem zfB:∀ a b c:List Int,HT.lexLt a b=false->HT.lexLt b c=false->HT.lexLt a c=false
 | _,_,[],_,_=>by rename_i a b _ _; cases a <;> rfl
 | [],[],z :: zs,_,h=>by cases h
 | [],y :: ys,z :: zs,h,_=>by cases h
 | x :: xs,[],z :: zs,_,h=>by cases h
 | x :: xs,y :: ys,z :: zs,h,k=>by
  rw [HT.lexLt_cons] at h k ⊢;by_cases e:x=y
  ·subst e;rw [if_pos rfl] at h;by_cases e2:x=z
   ·subst e2;rw [if_pos rfl] at k ⊢;exact zfB xs ys zs h k
   ·rw [if_neg e2] at k ⊢;exact k
  ·rw [if_neg e] at h;by_cases e2:y=z
   ·subst e2;rw [if_neg e];exact h
   ·rw [if_neg e2] at k;simp only [decide_eq_false_iff_not] at h k;rw [if_neg (by omega)];simp only [decide_eq_false_iff_not];omega
theorem zoZ{X:Cx}(hc:X.calm=true)(hu:X.A.units+64<cLine):CallR X (.builtin "min") (zuF X.K):=by
 intro zn s σ H xs us Q I r h;obtain⟨p,vs,nss,rfl,hq,hne,pr,q⟩:=h;obtain⟨u,rfl,rx⟩:=vals1 r;cases (show u=Value.ref p from rx);obtain⟨its,rv,pl,_⟩:=I.list hq;have hl:=rv.length;have hl2:=Paired.length pr;have hsz:0<its.toArray.size:=by
  rw [size_toArray,<- hl];exact List.length_pos_iff.mpr hne
 have at_:∀ (i:Nat) x,its.toArray[i]? = some x->∃ (v:V) (ns:List Int),vs[i]? = some v/\nss[i]? = some ns/\RelV v x/\∃ a,v=.ref a/\H a=some (.tup (ns.map V.int)):=fun i x hx=>by
  have hi:i<its.length:=by
   have:=(Array.getElem?_eq_some_iff.mp hx).1;simpa using this
  have e1:vs[i]? = some vs[i]:=getElem?_eq_getElem (by omega);have e2:nss[i]? = some nss[i]:=getElem?_eq_getElem (by omega);obtain⟨x',hx',rr⟩:=rv.get e1;have:x=x':=by
   have h2:its[i]? = some x:=by simpa using hx
   rw [hx'] at h2;exact(Option.some.inj h2).symm
  subst this;have pg:∀ {a:List V} {b:List (List Int)} {i:Nat} {v:V} {ns:List Int},Paired (fun(v:V) (ns:List Int)=>∃ a,v=.ref a/\H a=some (.tup (ns.map V.int))) a b->a[i]? = some v->b[i]? = some ns->∃ a,v=.ref a/\H a=some (.tup (ns.map V.int)):=by
   intro a b i v ns pq;induction pq generalizing i with
   | nil=>intro h; simp at h
   | cons r0 _ ih =>
    cases i with
    | zero =>
     intro h1 h2;rw [getElem?_cons_zero] at h1 h2;cases h1;cases h2;exact r0
    | succ i =>
     intro h1 h2;rw [getElem?_cons_succ] at h1 h2;exact ih h1 h2
  exact⟨_,_,e1,e2,rr,pg pr e1 e2⟩
 refine zoK (I.ok.hd hc) pl.isList hsz (fun i j=>HT.lexLt (nss.getD i []) (nss.getD j [])) (fun i j x y s' Q' E' k hx hy q'=>?_) fun v h' tk hv k=>?_
 ·obtain⟨v1,n1,_,f1,r1,a1,rfl,e1⟩:=at_ i x hx;obtain⟨v2,n2,_,f2,r2,a2,rfl,e2⟩:=at_ j y hy;cases r1;cases r2;obtain⟨_,is1,w1,t1⟩:=(show ObjOk X.prog X.w H s.heap a1 (.tup (n1.map V.int)) from I.hok a1 _ e1);obtain⟨_,is2,w2,t2⟩:=(show ObjOk X.prog X.w H s.heap a2 (.tup (n2.map V.int)) from I.hok a2 _ e2);have g1:nss.getD i []=n1:=by rw [getD_eq_getElem?_getD,f1]; rfl
  have g2:nss.getD j []=n2:=by rw [getD_eq_getElem?_getD,f2]; rfl
  rw [g1,g2] at q';obtain⟨o1,b1,c1⟩:=t1;obtain⟨o2,b2,c2⟩:=t2;exact HT.lt_tupInts ⟨o1,k _ _ b1,c1⟩ ⟨o2,k _ _ b2,c2⟩ (za7 w1) (za7 w2) (by show X.A.units+1<cLine; omega) q'
 ·obtain⟨v1,n1,e1,f1,r1,_⟩:=at_ _ v hv;obtain⟨_,h2⟩:=zgC (ns:=fun i=>nss.getD i []) zfB zlR (its.toArray.size - 1);refine⟨v1,H,I.kept (t':=tk) k,r1,q _ v1 n1 e1 f1 fun ms hm=>?_⟩;obtain⟨j,hj⟩:=mem_iff_getElem?.mp hm;have hjl:=(List.getElem?_eq_some_iff.mp hj).1;have:=h2 j (by rw [size_toArray]; omega);rw [show nss.getD j []=ms by rw [getD_eq_getElem?_getD,hj]; rfl] at this;rw [show nss.getD (argBest (fun i j=>HT.lexLt (nss.getD i []) (nss.getD j [])) (its.toArray.size - 1)) []=n1 by rw [getD_eq_getElem?_getD,f1]; rfl] at this;exact this
def ztM(K:W.Frag):List V->Hp->VK->Prop:=fun xs H Q=>zv0 K xs H Q\/zuF K xs H Q
theorem zfc{X:Cx}(hc:X.calm=true)(hu:X.A.units+64<cLine):CallR X (.builtin "min") (ztM X.K):=(znf hc).or (zoZ hc hu)
def zlK(ns:List Int):PyData:=.tuple (ns.map PyData.int)
def zkO:List XV->Sto->RX->Prop:=fun xs S R=>zwt xs S R\/arg1 xs fun x=>∃ ds,zm0 S x=some ds/\∃ nss:List (List Int),ds=nss.map zlK/\nss≠[]/\∀ m,m∈nss->(∀ a,a∈nss->HT.lexLt a m=false)->R (.d (zlK m)) S
theorem zst{K:W.Frag}:RC (ztM K) zkO:=fun h o H S xs vs R Q hs hx q c=>by
 rcases q with q | q
 ·exact .inl (zvu h o H S xs vs R Q hs hx q c)
 ·obtain⟨x,rfl,ds,hd,nss,rfl,hn,q1⟩:=za0 q;obtain⟨v,rfl,hx1⟩:=hxs1 hx;obtain⟨a,ws,rfl,ea,l⟩:=zbH hs hd hx1;have hl:=l.length;refine .inr ⟨a,ws,nss,rfl,.of ea,fun z=>hn ?_,?_,fun i v ns e1 e2 hm=>?_⟩
  ·subst z;rw [length_map] at hl;exact eq_nil_of_length_eq_zero hl.symm
  ·have go:∀ {nss:List (List Int)} {ws:List V},HasL (vx h o H) (nss.map zlK) ws->Paired (fun(v:V) (ns:List Int)=>∃ a,v=.ref a/\H a=some (.tup (ns.map V.int))) ws nss:=by
    intro nss;induction nss with
    | nil=>intro ws l; rw [zM.mp l]; exact .nil
    | cons n nss ih =>
     intro ws l;obtain⟨v,r,rfl,h1,l2⟩:=zD.mp l;obtain⟨b,us,rfl,eb,lb⟩:=zay.mp h1;rw [zbG lb] at eb;exact .cons ⟨b,rfl,zao _ _ eb⟩ (ih l2)
   exact go l
  ·obtain⟨v',ev,hv⟩:=l.get (show (nss.map zlK)[i]? = some (zlK ns) by rw [getElem?_map,e2]; rfl);rw [e1] at ev;cases ev;exact c o H S (.d (zlK ns)) v Ex.refl hs hv (q1 ns (mem_of_getElem? e2) hm)
section
variable {S:Sto} {P:Sto->List PyData->Prop} {a b c d:List PyData} {x:List PyData}
theorem zgI{S0:Sto}:(∃ T ds,S0++[x]=T++[ds]/\P T ds)↔P S0 x:=by
 constructor
 ·rintro⟨T,ds,e,q⟩;obtain⟨rfl,e2⟩:=List.append_inj' e rfl;cases e2;exact q
 ·exact fun q=>⟨S0,x,rfl,q⟩
theorem zml:(∃ T ds,[a]=T++[ds]/\P T ds)↔P [] a:=zgI (S0:=[])
theorem zmd:(∃ T ds,[a,b]=T++[ds]/\P T ds)↔P [a] b:=zgI (S0:=[a])
theorem zlw:(∃ T ds,[a,b,c]=T++[ds]/\P T ds)↔P [a,b] c:=zgI (S0:=[a,b])
end
section
variable {α:Type} {n:Nat} {g:DG} {tt:DT} {te:DE} {fin:Sto->Prop} {S0:Sto} {caps:XE}
theorem zru{h:α->PyData}{f:α->PyData}(P:XE->Prop)(hn:S0.length=n)(l:List α)(τ:XE)(hP:P τ)(hl:l.length<=1000)
  (el:∀ x∈l,∀ τ acc (R:XE->RX),P τ->(∀ τ',P τ'->R τ' (.d (f x)) (S0++[acc]))->g (.d (h x)) τ (S0++[acc]) fun τ1 S1=>te τ1 S1 (R τ1)) (hf:fin (S0++[l.map f])):zeH n g zae te fin (l.map h) τ (S0++[[]]):=by
 have go:∀ (l:List α) (acc:List PyData) (τ:XE),P τ->acc.length+l.length<=1000->(∀ x∈l,∀ τ acc (R:XE->RX),P τ->(∀ τ',P τ'->R τ' (.d (f x)) (S0++[acc]))->g (.d (h x)) τ (S0++[acc]) fun τ1 S1=>te τ1 S1 (R τ1)) ->
   fin (S0++[acc++l.map f])->zeH n g zae te fin (l.map h) τ (S0++[acc]):=by
  intro l;induction l with
  | nil=>intro acc τ _ _ _ h; rw [map_nil,append_nil] at h; exact h
  | cons x l ih =>
   intro acc τ hP hl el hh;show g (.d (h x)) τ (S0++[acc]) fun τ1 S1=>zae τ1 S1 fun b S2=>if b=true then te τ1 S2 fun x S3=>asD x fun e=>∃ acc,S3[n]? = some acc/\acc.length<1000/\zeH n g zae te fin (l.map h) τ1 (S3.set n (acc++[e])) else zeH n g zae te fin (l.map h) τ1 S2
   simp only [zae,↓reduceIte];rw [length_cons] at hl;refine el x mem_cons_self τ acc (fun τ1 x S3=>asD x fun e=>∃ acc,S3[n]? = some acc/\acc.length<1000/\zeH n g zae te fin (l.map h) τ1 (S3.set n (acc++[e]))) hP fun τ' hP'=>?_;refine⟨acc,by rw [<- hn,getElem?_concat_length],by omega,?_⟩;rw [zeS hn];refine ih (acc++[f x]) τ' hP' (by rw [length_append,length_singleton]; omega) (fun e m=>el e (mem_cons_of_mem _ m)) ?_;rw [append_assoc];exact hh
 exact go l [] τ hP (by simpa using hl) el (by simpa using hf)
theorem cmp1{h:α->PyData}(f:α->PyData)(hn:S0.length=n)(l:List α){u:Option XV}(hl:l.length<=1000)
  (el:∀ x∈l,∀ (u:Option XV) acc (R:XE->RX),(∀ u',R (u' :: caps) (.d (f x)) (S0++[acc]))->g (.d (h x)) (u :: caps) (S0++[acc]) fun τ1 S1=>te τ1 S1 (R τ1)) (hf:fin (S0++[l.map f])):zeH n g zae te fin (l.map h) (u :: caps) (S0++[[]]) :=
 zru (fun τ=>∃ u,τ=u :: caps) hn l _ ⟨u,rfl⟩ hl (fun x m τ acc R ⟨u,e⟩ k=>by subst e; exact el x m u acc R fun u'=>k _ ⟨u',rfl⟩) hf
theorem cmp2{h:α->PyData}(f:α->PyData)(hn:S0.length=n)(l:List α){u v:Option XV}(hl:l.length<=1000)
  (el:∀ x∈l,∀ (u v:Option XV) acc (R:XE->RX),(∀ u' v',R (u' :: v' :: caps) (.d (f x)) (S0++[acc]))->g (.d (h x)) (u :: v :: caps) (S0++[acc]) fun τ1 S1=>te τ1 S1 (R τ1)) (hf:fin (S0++[l.map f])):zeH n g zae te fin (l.map h) (u :: v :: caps) (S0++[[]]) :=
 zru (fun τ=>∃ u v,τ=u :: v :: caps) hn l _ ⟨u,v,rfl⟩ hl (fun x m τ acc R ⟨u,v,e⟩ k=>by subst e; exact el x m u v acc R fun u' v'=>k _ ⟨u',v',rfl⟩) hf
theorem ztY{h:α->PyData}{f:α->PyData}{p:α->Bool}(P:XE->Prop)(hn:S0.length=n)(l:List α)(τ:XE)(hP:P τ)(hl:l.length<=1000)
  (el:∀ x∈l,∀ τ acc (R:XE->Bool->Sto->Prop),P τ->(∀ τ',P τ'->(p x=true->∀ T:RX,T (.d (f x)) (S0++[acc])->te τ' (S0++[acc]) T)->R τ' (p x) (S0++[acc]))->g (.d (h x)) τ (S0++[acc]) fun τ1 S1=>tt τ1 S1 (R τ1))
  (hf:fin (S0++[(l.filter p).map f])):zeH n g tt te fin (l.map h) τ (S0++[[]]):=by
 have go:∀ (l:List α) (acc:List PyData) (τ:XE),P τ->acc.length+l.length<=1000->(∀ x∈l,∀ τ acc (R:XE->Bool->Sto->Prop),P τ->(∀ τ',P τ'->(p x=true->∀ T:RX,T (.d (f x)) (S0++[acc])->te τ' (S0++[acc]) T)->R τ' (p x) (S0++[acc]))->g (.d (h x)) τ (S0++[acc]) fun τ1 S1=>tt τ1 S1 (R τ1)) ->
   fin (S0++[acc++(l.filter p).map f])->zeH n g tt te fin (l.map h) τ (S0++[acc]):=by
  intro l;induction l with
  | nil=>intro acc τ _ _ _ h; rw [List.filter_nil,map_nil,append_nil] at h; exact h
  | cons x l ih =>
   intro acc τ hP hl el hh;show g (.d (h x)) τ (S0++[acc]) fun τ1 S1=>tt τ1 S1 fun b S2=>if b=true then te τ1 S2 fun x S3=>asD x fun e=>∃ acc,S3[n]? = some acc/\acc.length<1000/\zeH n g tt te fin (l.map h) τ1 (S3.set n (acc++[e])) else zeH n g tt te fin (l.map h) τ1 S2
   rw [length_cons] at hl;refine el x mem_cons_self τ acc (fun τ1 b S2=>if b=true then te τ1 S2 fun x S3=>asD x fun e=>∃ acc,S3[n]? = some acc/\acc.length<1000/\zeH n g tt te fin (l.map h) τ1 (S3.set n (acc++[e])) else zeH n g tt te fin (l.map h) τ1 S2) hP fun τ' hP' ev=>?_;cases hp:p x with
   | false =>
    rw [List.filter_cons_of_neg (by rw [hp]; exact Bool.false_ne_true)] at hh;exact zpI (ih acc τ' hP' (by omega) (fun e m=>el e (mem_cons_of_mem _ m)) hh)
   | true =>
    rw [List.filter_cons_of_pos hp,map_cons] at hh;refine zpG (ev hp _ ⟨acc,by rw [<- hn,getElem?_concat_length],by omega,?_⟩);rw [zeS hn];exact ih (acc++[f x]) τ' hP' (by rw [length_append,length_singleton]; omega) (fun e m=>el e (mem_cons_of_mem _ m)) (by rw [append_assoc]; exact hh)
 exact go l [] τ hP (by simpa using hl) el (by simpa using hf)
theorem cmf1{h:α->PyData}(f:α->PyData)(p:α->Bool)(hn:S0.length=n)(l:List α){u:Option XV}(hl:l.length<=1000)
  (el:∀ x∈l,∀ (u:Option XV) acc (R:XE->Bool->Sto->Prop),(∀ u',(p x=true->∀ T:RX,T (.d (f x)) (S0++[acc])->te (u' :: caps) (S0++[acc]) T)->R (u' :: caps) (p x) (S0++[acc]))->g (.d (h x)) (u :: caps) (S0++[acc]) fun τ1 S1=>tt τ1 S1 (R τ1)) (hf:fin (S0++[(l.filter p).map f])):zeH n g tt te fin (l.map h) (u :: caps) (S0++[[]]) :=
 ztY (fun τ=>∃ u,τ=u :: caps) hn l _ ⟨u,rfl⟩ hl (fun x m τ acc R ⟨u,e⟩ k=>by subst e; exact el x m u acc R fun u' hh=>k _ ⟨u',rfl⟩ hh) hf
end
end
section
@[irreducible] def QSs (X:Cx) (st:List Stmt) (t:TS):Prop:=PSs X st t
theorem QSs.out{X:Cx}{st:List Stmt}{t:TS}(h:QSs X st t):PSs X st t:=by unfold QSs at h; exact h
@[irreducible] def QA (X:Cx) (es:List Expr) (t:TA):Prop:=PA X es t
theorem QA.out{X:Cx}{es:List Expr}{t:TA}(h:QA X es t):PA X es t:=by unfold QA at h; exact h
theorem QA.mk{X:Cx}{es:List Expr}{t:TA}(h:PA X es t):QA X es t:=by unfold QA; exact h
theorem zrc{X:Cx}:QA X [] zth:=QA.mk zd
theorem zcf{X:Cx}{e:Expr}{es:List Expr}{te:TE}{t:TA}(ha:PE X e te)(hr:QA X es t)(hs:starEach (e :: es) X.env=(false,eval e X.env) :: starEach es X.env:=by rfl):QA X (e :: es) (zjJ te t):=QA.mk (za ha hr.out hs)
theorem zpb{X:Cx}{es:List Expr}{t:TA}{pos:Pos}(h:QA X es t):PE X (.List es pos) (ztx t):=zaK h.out
@[irreducible] def QS (X:Cx) (st:Stmt) (t:TS):Prop:=PS X st t
theorem QS.out{X:Cx}{st:Stmt}{t:TS}(h:QS X st t):PS X st t:=by unfold QS at h; exact h
end
section
theorem zlL:∀ (xs:List V) (us:List Value),xs.length=us.length->(∀ (k:Nat) (x:V) (u:Value),xs[k]? = some x->us[k]? = some u->RelV x u)->Vals xs us
 | [],[],_,_=>.nil
 | x :: xs,u :: us,hl,h=>.cons (h 0 x u rfl rfl) (zlL xs us (by simpa using hl) fun k y v e1 e2=>h (k+1) y v e1 e2)
 | [],_ :: _,hl,_=>by simp at hl
 | _ :: _,[],hl,_=>by simp at hl
end
end L2
namespace HT
open PySem PyProof.Rows
section
variable {prog:Program} {w:World} {A:Around} {E:Value->Shared->Prop} {s:Shared}
theorem tup_whole{t sl:Addr}{items:Array Value}{vl vu:Value}{lo hi:Option Int}{Q:Value->Shared->Prop}(ht:IsTup s.heap t items)(hs:s.heap.IsSliceOf sl vl vu .none)(pl:IsPart vl lo)(pu:IsPart vu hi)
  (hw:sIx items.size 0 lo=0/\sIx items.size items.size hi=items.size) (h:Q (.ref t) s):wpAny (model prog w) A (getItem (.ref t) (.ref sl)) Q E s:=by
 obtain⟨os,hos,hcs,hds⟩:=id hs;have hTs:s.TypeIs (.ref sl) "slice":=⟨os,hos,hcs⟩;unfold getItem
 try with_reducible refine wpAny_holding ?_
 first | refine wpAny_bind (wpAny_pure ?_) | skip
 refine wpAny_bind (wpAny_sequenceKey ht.typeIs dz ?_);refine wpAny_bind (wpAny_callSpecial?_slot (name:=Str.ofString "__getitem__") ht.typeIs PyProof.Rows.slot_tuple_getitem
  (wpAny_call_entry PyProof.Rows.slot_tuple_getitem ht.typeIs entry_tuple_getitem ?_ (args_tuple_getitem _ _)))
 show wpAny _ _ (Builtin.Tuple.tupleItemsOf (.ref t) >>= _) _ _ s;refine wpAny_bind (tupleItemsOf_ ht (wpAny_bind (wpAny_typeOf hTs ?_)));rw [if_pos dz];refine wpAny_bind (zdF hs pl pu ?_);rw [hw.1,hw.2];show wpAny _ _ (if (((0:Nat):Int) == 0 && (1:Int) == 1 && (items.size - 0) == items.size)=true then _ else _) _ _ s;rw [if_pos (by simp)];unfold Builtin.Tuple.tupleIsExact;refine wpAny_bind (wpAny_bind (wpAny_typeOf ht.typeIs (wpAny_pure ?_)));rw [if_pos dz];exact wpAny_bind (wpAny_rule (wpAny_pure ⟨_,rfl,wpAny_pure h⟩))
end
end HT
namespace L2
open PySem PySem.Spec PyProof.Rows
section
section
variable {X:Cx} {e ek:Expr} {te tk:TE} {pos p2:Pos}
def zvZ(K:W.Frag):V->Option Int->Option Int->Hp->VK->Prop:=fun x lo hi H Q=>∃ a xs,x=.ref a/\SqT K H a xs /\
 ((HT.sIx xs.length 0 lo=0/\HT.sIx xs.length xs.length hi=xs.length)->Q (.ref a) H)/\∀ p,H p=none->Q (.ref p) (upd H p (.tup (zlS xs lo hi)))
theorem zg5:SlR X (zvZ X.K):=by
 intro zn s σ H x v vl vu lo hi sl Q I rx hs pl pu h;obtain⟨a,xs,rfl,hx,hw,q⟩:=h;by_cases z:HT.sIx xs.length 0 lo=0/\HT.sIx xs.length xs.length hi=xs.length
 ·cases rx;obtain⟨its,r,ht,hz⟩:=I.tuple hx;have hlen:its.toArray.size=xs.length:=by rw [size_toArray]; exact r.length.symm
  refine⟨"tuple",_,PyProof.Rows.slot_tuple_getitem.lookup,ht.typeIs,?_⟩;exact HT.tup_whole ht hs pl pu (by rw [hlen]; exact z) ⟨.ref a,H,I,rfl,hw z⟩
 ·exact zsb zn s σ H _ v vl vu lo hi sl Q I rx hs pl pu ⟨a,xs,rfl,hx,z,q⟩
end
def zrV:D3:=fun x i j S R=>asT x fun ds=>R (.d (.tuple (zdl ds i j))) S
theorem zmS{α:Type}(xs:List α)(lo hi:Option Int)(h:HT.sIx xs.length 0 lo=0/\HT.sIx xs.length xs.length hi=xs.length):zdl xs lo hi=xs:=by
 unfold zdl;rw [h.1,h.2];simp
theorem zfG{K:W.Frag}:RL (zvZ K) zrV:=fun h o H S x v a b R Q hs hx q c=>by
 replace q:=zf4 q;obtain⟨ds,rfl,q⟩:=q;obtain⟨p,vs,rfl,ea,l⟩:=zdJ hx;refine⟨p,vs,rfl,.of ea,fun z=>?_,znM hs (l.cut a b) c q⟩;rw [l.length] at z;rw [zmS ds a b z] at q;exact c o H S _ _ Ex.refl hs hx q
end
section
theorem zmk{r:Addr}{lo hi x:Int}{t u v tx:Tok}:Meets (Builtin.«range.__contains__» ⟨[.ref r,.int x tx],[]⟩) (fun _ R s=>IsRange s.heap r lo hi 1 t u v/\R (.ok (.ret (.bool (decide (lo<=x/\x<hi))))) s):=by
 rintro prog w A R s ⟨hr,q⟩;have e:(Builtin.Range.rangePlace? lo hi 1 x).isSome=decide (lo<=x/\x<hi):=by
  unfold Builtin.Range.rangePlace?;by_cases h:lo<=x/\x<hi
  ·simp [h]
  ·simp [h]
 rw [<- e] at q;obtain⟨hp,g,d,tk,os⟩:=s
 wp_walk using AutoSeq1.wpAny_loadPart' hr
 exact q
def zwb(k:Bool):CmpOp:=if k=true then .NotIn else .In
theorem ztf{prog:Program}{w:World}{A:Around}{E:Value->Shared->Prop}{s:Shared}{r:Addr}{lo hi x:Int}{t u v tx:Tok}{Q:Value->Shared->Prop}{k:Bool}(hr:IsRange s.heap r lo hi 1 t u v)
  (h:Q (.bool (if k=true then !decide (lo<=x/\x<hi) else decide (lo<=x/\x<hi))) s):wpAny (model prog w) A (compareOp (zwb k) (.int x tx) (.ref r)) Q E s:=by
 cases k with
 | false=>exact SeqRoads2.in_meets ⟨_,hr,rfl⟩ F.slot_range_contains F.entry_range_contains (F.args_range_contains_2 _ _) (zmk (t:=t) (u:=u) (v:=v)) ⟨hr,_,rfl,h⟩
 | true=>exact SeqRoads2.notIn_meets ⟨_,hr,rfl⟩ F.slot_range_contains F.entry_range_contains (F.args_range_contains_2 _ _) (zmk (t:=t) (u:=u) (v:=v)) ⟨hr,_,rfl,h⟩
def zor(vs:List V)(a b:Int):Prop:=(vs=[.int b]/\a=0)\/vs=[.int a,.int b]
def ztb(k:Bool)(ta:TE)(tb:TA):TE:=fun σ H Q=>ta σ H fun x H1=>tb σ H1 fun ys H2=>∃ i a b:Int,x=.int i/\zor ys a b/\Q (.bl (if k=true then !decide (a<=i/\i<b) else decide (a<=i/\i<b))) H2
section
variable {X:Cx} {l e e':Expr} {es:List Expr} {ta:TE} {tb:TA} {p pos pos':Pos} {k:Bool}
theorem zo7{zn:List (Addr×Obj)}{s:Shared}{σ:St}{H:Hp}{Q:Value->Shared->Prop}{vs:List V}{us:List Value}{a b:Int}(I:Inv X zn σ H s)(r:Vals vs us)(h:zor vs a b)
  (q:∀ (r:Addr) (t u v:Tok) (s':Shared),IsRange s'.heap r a b 1 t u v->Inv X zn σ H s'->Q (.ref r) s'):wpAny (model X.prog X.w) X.A (call (.type "range") us) Q X.xe s:=by
 rcases h with ⟨rfl,rfl⟩ | rfl
 ·cases r with
  | cons r rr =>
   cases rr;obtain⟨t,rfl⟩:=r;exact call_range_1 (q _ _ _ _ _ (IsRange.new ..) (I.kept fun b o e=>get?_push_of_some _ e))
 ·cases r with
  | cons r rr =>
   cases rr with
   | cons r' rr =>
    cases rr;obtain⟨t,rfl⟩:=r;obtain⟨t',rfl⟩:=r';exact call_range_2 (q _ _ _ _ _ (IsRange.new ..) (I.kept fun b o e=>get?_push_of_some _ e))
theorem zms{zn:List (Addr×Obj)}{s:Shared}{σ:St}{H:Hp}{Q:VK}(hg:Gl X "range")(hm:X.mg "range" = none)(ha:PE X l ta)(hb:PA X [e] tb)(hs:starEach [e] X.env=[(false,eval e X.env)])(I:Inv X zn σ H s)(h:ztb k ta tb σ H Q):
  wpAny (model X.prog X.w) X.A (eval l X.env) (fun a s1=>wpAny (model X.prog X.w) X.A (eval (.Call (.Name "range" p) [e] [] pos) X.env) (fun b s2=>wpAny (model X.prog X.w) X.A (compareOp (zwb k) a b) (EP X zn σ Q) X.xe s2) X.xe s1) X.xe s:=by
 refine thn (ha zn s σ H _ I h) fun a s1 ⟨x,H1,I1,r1,q1⟩=>?_;refine Call_ (zfn I1 hg hm boot_range (PyProof.Rows.callWith_type1 (thn (hb pos zn s1 σ H1 _ I1 q1) fun us s2 ⟨vs,H2,I2,r2,q2⟩=>?_) hs rfl));obtain⟨i,n,m,rfl,hv,q⟩:=q2;obtain⟨tx,rfl⟩:=r1;exact zo7 I2 r2 hv fun r t u v s' ir I3=>ztf ir ⟨.bl _,H2,I3,rfl,q⟩
theorem zlW(k:Bool){op:CmpOp}(hg:Gl X "range")(hm:X.mg "range" = none)(ha:PE X l ta)(hb:PA X [e] tb)(ho:op=zwb k:=by rfl)(hs:starEach [e] X.env=[(false,eval e X.env)]:=by rfl)(hk:behindInMarks op (.Call (.Name "range" p) [e] [] pos)=false:=by rfl):
  PT X (.Compare l [op] [.Call (.Name "range" p) [e] [] pos] pos') (zod (ztb k ta tb)):=by
 subst ho;intro zn s σ H Q I h;refine wpAny_isTrue_Compare1 (thn (zms (Q:=fun x H'=>∃ k,x=.bl k/\Q k H') hg hm ha hb hs I h) fun a s1 q1=>thn q1 fun b s2 q2=>thn q2 fun c s3 ⟨z,H3,I3,r3,k,e,q3⟩=>?_) hk;subst e;cases r3;exact wpAny_truthy_bool ⟨H3,I3,q3⟩
end
def zkx(k:Bool)(a:DE)(b:DA):DE:=fun δ S R=>a δ S fun x S1=>b δ S1 fun ys S2=>asI x fun i=>arg1 ys fun y=>asI y fun n=>R (.d (.bool (if k=true then !decide (0<=i/\i<n) else decide (0<=i/\i<n)))) S2
theorem zqi{k:Bool}{ta:TE}{da:DE}{tb:TA}{db:DA}(ha:RE ta da)(hb:RA tb db):RE (ztb k ta tb) (zkx k da db):=fun h o H δ σ S R Q he hs q c =>
 ha h o H δ σ S _ _ he hs q fun o1 H1 S1 x v e1 s1 x1 d1=>hb h o1 H1 δ σ S1 _ _ (he.mono e1) s1 d1 fun o2 H2 S2 ys us e2 s2 y2 d2=>by
  obtain⟨i,rfl,d3⟩:=zbt d2;obtain⟨y,rfl,d4⟩:=za0 d3;obtain⟨n,rfl,d5⟩:=zbt d4;obtain⟨u,rfl,hu⟩:=hxs1 y2;refine⟨i,0,n,zbd (x1.mono e2),.inl ⟨by rw [zbd hu],rfl⟩,c o2 H2 S2 _ _ (e1.trans e2) s2 (xB _) d5⟩
end
section
def zvl:R2:=fun x y H Q=>∃ a b,x=.bl a/\y=.bl b/\Q (.bl (!decide (a=b))) H
theorem zte{X:Cx}:OpR X (compareOp .IsNot) zvl:=by
 intro zn s σ H x y v u Q I rx ry h;obtain⟨a,b,rfl,rfl,q⟩:=h;cases rx;cases ry;exact wpAny_isNot_plain (by cases a <;> cases b <;> rfl) (zma I q (by cases a <;> cases b <;> rfl))
def zp6:D2:=fun x y S R=>asB x fun a=>asB y fun b=>R (.d (.bool (!decide (a=b)))) S
theorem zne:RO zvl zp6:=fun h o H S x y v u R Q hs hx hy q c=>by
 replace q:=zhm q;obtain⟨a,rfl,q⟩:=q;replace q:=zhm q;obtain⟨b,rfl,q⟩:=q;exact⟨a,b,zdj hx,zdj hy,c o H S _ _ Ex.refl hs (xB _) q⟩
end
section
@[irreducible] def QE (X:Cx) (e:Expr) (t:TE):Prop:=PE X e t
theorem QE.out{X:Cx}{e:Expr}{t:TE}(h:QE X e t):PE X e t:=by unfold QE at h; exact h
end
end L2
namespace L2
open PySem PySem.Spec PySem.Calls PyProof.Rows PySem.W
section
variable {prog:Program} {w:World} {A:Around} {E:Value->Shared->Prop} {s:Shared}
def KeptBut(a:Addr)(h h':Heap):Prop:=∀ b o,b≠a->h.get? b=some o->h'.get? b=some o
end
end L2
namespace L2
open PySem PySem.Spec PyProof.Rows
section
def zvA:D2:=fun x y S R=>asT x fun ds=>asT y fun es=>∃ ns,ds=ns.map PyData.int/\∃ ms,es=ms.map PyData.int/\R (.d (.bool (HT.lexLt ns ms))) S
theorem zuY{K:W.Frag}:RO (zws K) zvA:=fun h o H S x y v u R Q hs hx hy q c=>by
 replace q:=zf4 q;obtain⟨ds,rfl,q⟩:=q;replace q:=zf4 q;obtain⟨es,rfl,ns,rfl,ms,rfl,q⟩:=q;obtain⟨a,vs,rfl,ea,l1⟩:=zdJ hx;obtain⟨b,ws,rfl,eb,l2⟩:=zdJ hy;have e1:=zbG l1;have e2:=zbG l2;subst e1 e2;exact⟨a,b,ns,ms,rfl,rfl,.of ea,.of eb,c o H S _ _ Ex.refl hs (xB _) q⟩
end
section
open Sem (wp)
namespace F4
end F4
end
section
namespace F4
end F4
end
section
namespace F4
end F4
end
section
namespace F4
end F4
end
end L2
namespace L2
open PySem PySem.Spec PySem.Calls PyProof.Rows PySem.W PySem.Builtin PySem.Builtin.ObjectAttr PySem.Builtin.Getset_descriptor
end L2
namespace L2
open PySem PySem.Spec PySem.Calls PyProof.Rows
end L2
namespace L2
open PySem PySem.Spec PyProof.Rows
section
abbrev EXD:=Addr->List (Str×PyData)->Prop
abbrev PX:=List XV->Sto->RX->EXD->Prop
def CnX(h o:List Addr)(H:Hp)(EX:EXD)(E:XK):Prop:=∀ o' H' S' C a fs,Ex o H o' H'->RepS h o' H' S'->HasE (vx h o' H') C fs (.ref a)->EX C fs->E (.ref C) (some a) H'
theorem CnX.pre{h o o':List Addr}{H H':Hp}{EX:EXD}{E:XK}(c:CnX h o H EX E)(e:Ex o H o' H'):CnX h o' H' EX E:=fun o2 H2 S2 C a fs e2=>c o2 H2 S2 C a fs (e.trans e2)
def RSx(E:XK)(EX:EXD)(t:TS)(dt:DS):Prop:=∀ (h o:List Addr) (H:Hp) (δ:XE) (σ:St) (S:Sto) (En:DEnds) (D:Ends),RepE h o H δ σ->RepS h o H S->dt En δ S->EOk h o H En D->CnX h o H EX E->t D σ H
end
end L2
namespace L2
open PySem PySem.Spec PySem.Calls PyProof.Rows PySem.W PySem.Builtin PySem.Builtin.ObjectAttr
end L2
namespace L2
open PySem PySem.Spec PySem.Calls PyProof.Rows PySem.W
end L2
namespace L2
open PySem PySem.Spec PySem.Calls PyProof.Rows
end L2
namespace L2
open PySem PySem.Spec PySem.Calls PyProof.Rows
end L2
namespace L2
open PySem PySem.Spec PyProof.Rows
section
def zoY(EX:EXD)(C:Addr)(ns:List Str)(da:DA):DS:=fun _ δ S=>da δ S fun xs _=>∃ ds,datas xs=some ds/\ds.length=ns.length/\EX C (ns.zip ds)
end
end L2
namespace L2
open PySem PySem.Spec PySem.Calls PyProof.Rows
end L2
namespace L2
open PySem PySem.Spec PyProof.Rows
section
abbrev Phi:=List Addr->List Addr->Hp->Prop
class Stb (Φ:Phi):Prop where
 st:∀ {h o o':List Addr} {H H':Hp},Φ h o H->Ex o H o' H'->Φ h o' H'
def REp(Φ:Phi)(t:TE)(dt:DE):Prop:=∀ (h o:List Addr) (H:Hp) (δ:XE) (σ:St) (S:Sto) (R:RX) (Q:VK),RepE h o H δ σ->RepS h o H S->dt δ S R->Cn h o H R Q->Φ h o H->t σ H Q
def RIp(Φ:Phi)(w:TI)(di:DI):Prop:=∀ (h o:List Addr) (H:Hp) (δ:XE) (σ:St) (S:Sto) (R:List PyData->Sto->Prop) (Q:It->Hp->Prop),RepE h o H δ σ->RepS h o H S->di δ S R ->
 (∀ o' H' S' ds J,Ex o H o' H'->RepS h o' H' S'->WalkX h o' H' J ds->R ds S'->Q J H')->Φ h o H->w σ H Q
section
variable {Φ:Phi} [Stb Φ] {ta tb te:TE} {da db de:DE} {tl:TA} {dl:DA} {tt tu:TT} {dt du:DT}
theorem zfL(a:RE te de):REp Φ te de:=fun h o H δ σ S R Q he hs q c _=>a h o H δ σ S R Q he hs q c
theorem ztn{w:TI}{di:DI}(a:RI w di):RIp Φ w di:=fun h o H δ σ S R Q he hs q c _=>a h o H δ σ S R Q he hs q c
theorem zv8{r:R2}{rd:D2}(hr:RO r rd)(ha:REp Φ ta da)(hb:REp Φ tb db):REp Φ (tOp r ta tb) (dOp rd da db):=fun h o H δ σ S R Q he hs q c w =>
 ha h o H δ σ S _ _ he hs q (fun o1 H1 S1 x v e1 s1 x1 d1=>hb h o1 H1 δ σ S1 _ _ (he.mono e1) s1 d1 (fun o2 H2 S2 y u e2 s2 y2 d2 =>
  hr h o2 H2 S2 x y v u R Q s2 (x1.mono e2) y2 d2 (c.pre (e1.trans e2))) (Stb.st w e1)) w
end
section
variable {E:XK} {EX:EXD} {ta tb te:TE} {da db de:DE} {tl:TA} {dl:DA} {tt tu:TT} {dt du:DT}
def zq6(EX:EXD)(m:Nat)(q:PX)(da:DA):DE:=fun δ S R=>da δ S fun xs S1=>∃ ds,datas xs=some ds/\ds.length=m/\q (ds.map XV.d) [] (ret0 S1 R) EX
end
def zvW(N P:List Str)(sc:Scope):Bool:=decide (sc.kind=.function) && !sc.isCoroutine && !sc.isGenerator && decide N.Nodup && decide (N.take P.length=P) && P.all (fun x=>decide (sc.names.lookup x=some .local) || decide (sc.names.lookup x=some .cell)) && sc.names.all fun y=>decide (y.2≠.free)
theorem fsc{N P:List Str}{sc:Scope}(h:zvW N P sc=true):FnScope N P sc:=by
 simp only [zvW,Bool.and_eq_true,decide_eq_true_eq,Bool.not_eq_true',all_eq_true,Bool.or_eq_true] at h;obtain⟨⟨⟨⟨⟨⟨h1,h2⟩,h3⟩,h4⟩,h5⟩,h6⟩,h7⟩:=h;exact⟨h1,h2,h3,h4,h5,h6,h7⟩
end
section
section
variable {κ α:Type} [DecidableEq κ]
def lkA(m:List (κ×α))(k:κ):Option α:=(m.find? fun p=>decide (p.1=k)).map (·.2)
def ptA(m:List (κ×α))(k:κ)(v:α):List (κ×α):=if (m.any fun p=>decide (p.1=k))=true then m.map (fun p=>if p.1=k then (p.1,v) else p) else m++[(k,v)]
def HasM(H:Hp):List (κ×PyData)->List (κ×V)->Prop
 | [],m=>m=[]
 | p :: r,m=>∃ v m',m=(p.1,v) :: m'/\Has H p.2 v/\HasM H r m'
theorem HasM.mono{H H':Hp}(s:Same H H'):∀ {m:List (κ×PyData)} {m':List (κ×V)},HasM H m m'->HasM H' m m'
 | [],_,q=>q
 | p :: r,_,⟨v,t,e,q,l⟩=>⟨v,t,e,Has.mono s _ _ q,HasM.mono s l⟩
theorem HasM.length{H:Hp}:∀ {m:List (κ×PyData)} {m':List (κ×V)},HasM H m m'->m'.length=m.length
 | [],_,q=>by rw [show _=[] from q]; rfl
 | p :: r,_,⟨v,t,e,q,l⟩=>by rw [e,length_cons,length_cons,HasM.length l]
theorem HasM.val{H:Hp}(k:κ):∀ {m:List (κ×PyData)} {m':List (κ×V)},HasM H m m'->(lkA m k=none/\zlh m' k=none)\/∃ d v,lkA m k=some d/\zlh m' k=some v/\Has H d v
 | [],m',q=>by rw [show m'=[] from q]; exact .inl ⟨rfl,rfl⟩
 | p :: r,m',⟨v,t,e,q,l⟩=>by
  subst e;by_cases hk:p.1=k
  ·exact .inr ⟨p.2,v,by simp [lkA,hk],zgn hk,q⟩
  ·have e1:lkA (p :: r) k=lkA r k:=by simp [lkA,hk]
   rw [e1,zgk hk];exact HasM.val k l
theorem HasM.any{H:Hp}(k:κ):∀ {m:List (κ×PyData)} {m':List (κ×V)},HasM H m m'->(m'.any fun p=>decide (p.1=k))=m.any fun p=>decide (p.1=k)
 | [],m',q=>by rw [show m'=[] from q]; rfl
 | p :: r,m',⟨v,t,e,q,l⟩=>by
  subst e;rw [any_cons,any_cons,HasM.any k l]
theorem HasM.sets{H:Hp}{k:κ}{d:PyData}{v:V}(hv:Has H d v):∀ {m:List (κ×PyData)} {m':List (κ×V)},HasM H m m'->HasM H (m.map fun p=>if p.1=k then (p.1,d) else p) (m'.map fun p=>if p.1=k then (p.1,v) else p)
 | [],m',q=>by rw [show m'=[] from q]; rfl
 | p :: r,m',⟨u,t,e,q,l⟩=>by
  subst e;rw [map_cons,map_cons];by_cases hk:p.1=k
  ·exact⟨v,_,by simp [hk],by simpa [hk] using hv,HasM.sets hv l⟩
  ·exact⟨u,_,by simp [hk],by simpa [hk] using q,HasM.sets hv l⟩
theorem HasM.snoc{H:Hp}{k:κ}{d:PyData}{v:V}(hv:Has H d v):∀ {m:List (κ×PyData)} {m':List (κ×V)},HasM H m m'->HasM H (m++[(k,d)]) (m'++[(k,v)])
 | [],m',q=>by rw [show m'=[] from q]; exact⟨v,[],rfl,hv,rfl⟩
 | p :: r,m',⟨u,t,e,q,l⟩=>by subst e; exact⟨u,_,rfl,q,HasM.snoc hv l⟩
theorem HasM.put{H:Hp}{k:κ}{d:PyData}{v:V}{m:List (κ×PyData)}{m':List (κ×V)}(l:HasM H m m')(hv:Has H d v):HasM H (ptA m k d) (zkC m' k v):=by
 unfold ptA zkC;rw [l.any k];split
 ·exact l.sets hv
 ·exact l.snoc hv
end
inductive DD where
 | k (m:List (Key×PyData))
 | t (m:List (List Key×PyData))
def DD.pairs:DD->List (PyData×PyData)
 | .k m=>m.map fun p=>(kD p.1,p.2)
 | .t m=>m.map fun p=>(.tuple (p.1.map kD),p.2)
def DD.len:DD->Nat
 | .k m=>m.length
 | .t m=>m.length
def zoy:PyData->Option Key
 | .int i=>some (.inl i)
 | .str x=>some (.inr x)
 | _=>none
def zjR:List PyData->Option (List Key)
 | []=>some []
 | d :: ds=>(zoy d).bind fun k=>(zjR ds).map (k :: ·)
def znu:PyData->Option (List Key)
 | .tuple ds=>zjR ds
 | _=>none
def DD.get:DD->PyData->Option (Option PyData)
 | .k m,y=>(zoy y).map (lkA m)
 | .t m,y=>(znu y).map (lkA m)
def DD.put:DD->PyData->PyData->Option DD
 | .k m,y,d=>(zoy y).map fun k=>.k (ptA m k d)
 | .t m,y,d=>(znu y).map fun k=>.t (ptA m k d)
def RAt(G H:Hp)(a:Addr):DD->Prop
 | .k m=>∃ m',Rd H a (.dK m')/\HasM G m m'
 | .t m=>∃ m',Rd H a (.dT m')/\HasM G m m'
def DAt(G H:Hp)(a:Addr):DD->Prop
 | .k m=>∃ m',H a=some (.dK m')/\HasM G m m'
 | .t m=>∃ m',H a=some (.dT m')/\HasM G m m'
theorem zi3{H:Hp}{y:PyData}{v:V}{k:Key}(e:zoy y=some k)(q:Has H y v):v=kV k:=by
 cases y with
 | int i=>cases e; exact zcc.mp q
 | str x=>cases e; exact zdw.mp q
 | _=>cases e
theorem zjS{H:Hp}:∀ {ds:List PyData} {vs:List V} {ks:List Key},zjR ds=some ks->HasL H ds vs->vs=ks.map kV
 | [],vs,ks,e,l=>by cases e; exact zM.mp l
 | d :: ds,vs,ks,e,l=>by
  obtain⟨v,r,rfl,q,l⟩:=zD.mp l;unfold zjR at e;cases hk:zoy d with
  | none=>rw [hk] at e; cases e
  | some k =>
   rw [hk,Option.bind_some] at e;cases hs:zjR ds with
   | none=>rw [hs] at e; cases e
   | some ks' =>
    rw [hs] at e;cases e;rw [zi3 hk q,zjS hs l];rfl
theorem ziK{H:Hp}{y:PyData}{v:V}{ks:List Key}(e:znu y=some ks)(q:Has H y v):∃ b,v=.ref b/\H b=some (.tup (ks.map kV)):=by
 cases y with
 | tuple ds =>
  obtain⟨b,vs,rfl,eb,l⟩:=zay.mp q;exact⟨b,rfl,by rw [<- zjS (show zjR ds=some ks from e) l]; exact eb⟩
 | _=>cases e
theorem DAt.mono{G G' H H':Hp}{a:Addr}{D:DD}(s:Same G G')(e:∀ u,H a=some u->H' a=some u)(q:DAt G H a D):DAt G' H' a D:=by
 cases D with
 | k m=>obtain⟨m',e1,l⟩:=q; exact⟨m',e _ e1,l.mono s⟩
 | t m=>obtain⟨m',e1,l⟩:=q; exact⟨m',e _ e1,l.mono s⟩
theorem DAt.rd{G H:Hp}{a:Addr}{D:DD}(q:DAt G H a D):RAt G H a D:=by
 cases D with
 | k m=>obtain⟨m',e1,l⟩:=q; exact⟨m',.inl e1,l⟩
 | t m=>obtain⟨m',e1,l⟩:=q; exact⟨m',.inl e1,l⟩
theorem DAt.mo{G H:Hp}{a:Addr}{D:DD}(q:DAt G H a D):∃ u:MO,H a=some u.ho:=by
 cases D with
 | k m=>obtain⟨m',e1,l⟩:=q; exact⟨.k m',e1⟩
 | t m=>obtain⟨m',e1,l⟩:=q; exact⟨.t m',e1⟩
def RelD(G:Hp):Option PyData->Option V->Prop
 | none,r=>r=none
 | some d,r=>∃ u,r=some u/\Has G d u
theorem RAt.get{G H:Hp}{a:Addr}{D:DD}{y:PyData}{v:V}{o:Option PyData}(sv:Same G H)(q:RAt G H a D)(hy:Has G y v)(e:D.get y=some o):∃ r,DGet H a v r/\RelD G o r:=by
 cases D with
 | k m =>
  obtain⟨m',e1,l⟩:=q;replace e:(zoy y).map (lkA m)=some o:=e;cases hk:zoy y with
  | none=>rw [hk] at e; cases e
  | some k =>
   rw [hk] at e;cases e;rw [zi3 hk hy];refine⟨_,.inl ⟨m',k,e1,rfl,rfl⟩,?_⟩;rcases l.val k with ⟨z1,z2⟩ | ⟨d,u,z1,z2,z3⟩
   ·rw [z1]; exact z2
   ·rw [z1]; exact⟨u,z2,z3⟩
 | t m =>
  obtain⟨m',e1,l⟩:=q;replace e:(znu y).map (lkA m)=some o:=e;cases hk:znu y with
  | none=>rw [hk] at e; cases e
  | some k =>
   rw [hk] at e;cases e;obtain⟨b,rfl,eb⟩:=ziK hk hy;refine⟨_,.inr ⟨m',k,b,e1,rfl,sv _ _ eb,rfl⟩,?_⟩;rcases l.val k with ⟨z1,z2⟩ | ⟨d,u,z1,z2,z3⟩
   ·rw [z1]; exact z2
   ·rw [z1]; exact⟨u,z2,z3⟩
theorem RAt.isD{G H:Hp}{a:Addr}{D:DD}(q:RAt G H a D):IsD H a:=by
 cases D with
 | k m=>obtain⟨m',e1,_⟩:=q; exact .inl ⟨m',e1⟩
 | t m=>obtain⟨m',e1,_⟩:=q; exact .inr ⟨m',e1⟩
theorem DAt.put{G H:Hp}{a:Addr}{D D':DD}{y d:PyData}{v u:V}(sv:Same G H)(q:DAt G H a D)(hy:Has G y v)(hd:Has G d u)(e:D.put y d=some D')(hl:D.len<1000):
  ∃ x:MO,DPut H a v u (upd H a x.ho)/\∀ H',H' a=some x.ho->DAt G H' a D':=by
 cases D with
 | k m =>
  obtain⟨m',e1,l⟩:=q;replace e:((zoy y).map fun k=>DD.k (ptA m k d))=some D':=e;cases hk:zoy y with
  | none=>rw [hk] at e; cases e
  | some k =>
   rw [hk] at e;cases e;rw [zi3 hk hy];exact⟨.k (zkC m' k u),DPut.k e1 (by rw [l.length]; exact small1000 (le_of_lt hl)),fun H' z=>⟨_,z,l.put hd⟩⟩
 | t m =>
  obtain⟨m',e1,l⟩:=q;replace e:((znu y).map fun k=>DD.t (ptA m k d))=some D':=e;cases hk:znu y with
  | none=>rw [hk] at e; cases e
  | some k =>
   rw [hk] at e;cases e;obtain⟨b,rfl,eb⟩:=ziK hk hy;exact⟨.t (zkC m' k u),DPut.t e1 (sv _ _ eb) (by rw [l.length]; exact small1000 (le_of_lt hl)),fun H' z=>⟨_,z,l.put hd⟩⟩
theorem zr3{a b:Key}(e:kD a=kD b):a=b:=by
 cases a <;> cases b <;> cases e <;> rfl
theorem znN{H:Hp}:∀ {m:List (Key×PyData)} {m':List (Key×V)},HasM H m m'->HasV H (m.map fun p=>(kD p.1,p.2)) (m'.map (·.2))/\m'.map (fun p=>kD p.1)=m.map fun p=>kD p.1
 | [],m',q=>by rw [show m'=[] from q]; exact⟨zqt.mpr rfl,rfl⟩
 | p :: r,m',⟨v,t,e,q,l⟩=>by
  subst e;obtain⟨z1,z2⟩:=znN l;exact⟨zfa.mpr ⟨v,_,rfl,q,z1⟩,by rw [map_cons,map_cons,z2]⟩
theorem zpF{H:Hp}:∀ {m:List (Key×PyData)} {m':List (Key×V)},HasV H (m.map fun p=>(kD p.1,p.2)) (m'.map (·.2))->m.map (fun p=>kD p.1)=m'.map (fun p=>kD p.1)->HasM H m m'
 | [],[],_,_=>rfl
 | [],_ :: _,_,e=>by simp at e
 | _ :: _,[],_,e=>by simp at e
 | p :: r,q :: t,h,e=>by
  rw [map_cons,map_cons] at h;obtain⟨v,s,e1,e2,e3⟩:=zfa.mp h;rw [List.cons.injEq] at e1;rw [map_cons,map_cons,List.cons.injEq] at e;have z:=zr3 e.1;obtain⟨q1,q2⟩:=q;refine⟨q2,t,by rw [z],?_,zpF (by rw [e1.2]; exact e3) e.2⟩;have z1:q2=v:=e1.1;rw [z1];exact e2
theorem zt2{H:Hp}{m:List (Key×PyData)}{v:V}:Has H (.dict (DD.pairs (.k m))) v↔∃ a ob m',v=.ref a/\H a=some (.frz ob (.dK m'))/\HasM H m m':=by
 rw [zgh];constructor
 ·rintro⟨a,vs,rfl,⟨ob,m',e,e1,e2⟩ | ⟨ob,p,m',e,e1,e2⟩,l⟩
  rotate_left
  ·cases m with
   | nil=>cases e1
   | cons q r =>
    have z:=congrArg List.head? e1;simp only [DD.pairs,map_cons,List.head?_cons,Option.some.injEq] at z;cases h:q.1 <;> rw [h] at z <;> cases z
  subst e2;refine⟨a,ob,m',rfl,e,zpF l ?_⟩;rw [<- e1];simp [DD.pairs]
 ·rintro⟨a,ob,m',rfl,e,l⟩;obtain⟨z1,z2⟩:=znN l;exact⟨a,_,rfl,.inl ⟨ob,m',e,by rw [z2]; simp [DD.pairs],rfl⟩,z1⟩
abbrev DM:=List (Addr×DD)
def ad(M:DM):List Addr:=M.map (·.1)
structure RepM(h o:List Addr)(H:Hp)(M:DM):Prop where
 nd:(ad M).Nodup
 nh:∀ a∈ad M,a∉h/\a∉o
 ct:∀ a D,(a,D)∈M->DAt (vx (h++ad M) o H) H a D
section
variable {h o o':List Addr} {H H':Hp} {M:DM} {S:Sto}
theorem RepM.at(r:RepM h o H M){a:Addr}(m:a∈ad M):∃ D,(a,D)∈M/\DAt (vx (h++ad M) o H) H a D:=by
 obtain⟨p,mp,e⟩:=mem_map.mp m;obtain⟨b,D⟩:=p;cases e;exact⟨D,mp,r.ct _ D mp⟩
theorem RepM.mono(r:RepM h o H M)(e:Ex o H o' H'):RepM h o' H' M:=by
 have k1:∀ a∈ad M,∀ u,H a=some u->a∉o'/\H' a=some u:=fun a m u z=>e.kp a u (r.nh a m).2 z;refine⟨r.nd,fun a m=>⟨(r.nh a m).1,?_⟩,fun a D m=>?_⟩
 ·obtain⟨D,_,q⟩:=r.at m;obtain⟨u,z⟩:=q.mo;exact(k1 a m _ z).1
 ·exact(r.ct a D m).mono e.vx fun u z=>(k1 a (mem_map.mpr ⟨_,m,rfl⟩) u z).2
theorem RepM.nil:RepM h o H []:=⟨nodup_nil,fun a m=>(by cases m),fun a D m=>(by cases m)⟩
def zsm(M:DM)(a:Addr)(D:DD):DM:=M.map fun p=>if p.1=a then (a,D) else p
theorem zgu{a:Addr}{D:DD}:∀ {M:DM},ad (zsm M a D)=ad M
 | []=>rfl
 | p :: r=>by
  have z:=zgu (a:=a) (D:=D) (M:=r);unfold ad zsm at z ⊢;rw [map_cons,map_cons,map_cons,z];by_cases e:p.1=a <;> simp [e]
theorem zg7{a:Addr}{u:HO}(m:a∈h):Same (vx h o H) (vx h o (upd H a u)):=fun b w e=>by
 obtain⟨z1,z2,z3⟩:=zaj.mp e;exact zaj.mpr ⟨z1,z2,by rw [zS (fun z=>z1 (by rw [z]; exact m))]; exact z3⟩
theorem HasX.view(s:Same (vx h o H) (vx h o H')):∀ {x:XV} {v:V},HasX h o H x v->HasX h o H' x v
 | .d d,v,q=>Has.mono s d v q
 | .l k,v,q=>q
 | .o w,v,q=>q
 | .x C fs,v,q=>HasE.mono s q
theorem RepE.view{δ:XE}{σ:St}(s:Same (vx h o H) (vx h o H'))(r:RepE h o H δ σ):RepE h o H' δ σ:=⟨r.len,fun i x e=>let ⟨v,e1,e2⟩:=r.get i x e; ⟨v,e1,e2.view s⟩⟩
theorem RepS.hidden{a:Addr}{u:MO}(r:RepS h o H S)(m:a∈h):RepS h o (L2.upd H a u.ho) S where
 len:=r.len
 nd:=r.nd
 dis:=r.dis
 hal:=fun b mb=>by
  by_cases e:b=a
  ·subst e; exact⟨u,zaA⟩
  ·obtain⟨w,z⟩:=r.hal b mb;exact⟨w,by rw [zS e]; exact z⟩
 cont:=fun k b ds e1 e2=>by
  obtain⟨vs,e3,l⟩:=r.cont k b ds e1 e2;have ne:b≠a:=fun z=>r.dis b (mem_of_getElem? e1) (z▸m);exact⟨vs,by rw [zS ne]; exact e3,HasL.mono (zg7 m) _ _ l⟩
theorem RepM.put{a:Addr}{D D':DD}{u:MO}(r:RepM h o H M)(m:(a,D)∈M)(q:∀ H',H' a=some u.ho->DAt (vx (h++ad M) o H) H' a D'):RepM h o (L2.upd H a u.ho) (zsm M a D'):=by
 have ma:a∈ad M:=mem_map.mpr ⟨_,m,rfl⟩;refine⟨by rw [zgu]; exact r.nd,by rw [zgu]; exact r.nh,fun b D2 mb=>?_⟩;rw [zgu];have sv:Same (vx (h++ad M) o H) (vx (h++ad M) o (L2.upd H a u.ho)):=zg7 (mem_append_right _ ma);obtain⟨p,mp,ep⟩:=mem_map.mp mb;by_cases e:p.1=a
 ·rw [if_pos e] at ep;cases ep;exact(q _ zaA).mono sv fun _ z=>z
 ·rw [if_neg e] at ep;subst ep;exact(r.ct _ _ mp).mono sv fun w z=>by rw [zS e]; exact z
theorem RepS.less{l:List Addr}(r:RepS (h++l) o H S):RepS h o H S where
 len:=r.len
 nd:=r.nd
 dis:=fun a ma z=>r.dis a ma (mem_append_left _ z)
 hal:=fun b mb=>r.hal b (mem_append_left _ mb)
 cont:=fun k b ds e1 e2=>by
  obtain⟨vs,e3,q⟩:=r.cont k b ds e1 e2;exact⟨vs,e3,HasL.mono (fun c u z=>let ⟨z1,z2,z3⟩:=zaj.mp z; zaj.mpr ⟨fun mm=>z1 (mem_append_left _ mm),z2,z3⟩) _ _ q⟩
theorem zix{l:List Addr}:Same (vx (h++l) o H) (vx h o H):=fun c u z=>let ⟨z1,z2,z3⟩:=zaj.mp z; zaj.mpr ⟨fun mm=>z1 (mem_append_left _ mm),z2,z3⟩
theorem HasX.less{l:List Addr}:∀ {x:XV} {v:V},HasX (h++l) o H x v->HasX h o H x v
 | .d d,v,q=>Has.mono zix d v q
 | .l k,v,q=>q
 | .o w,v,q=>q
 | .x C fs,v,q=>HasE.mono zix q
end
end
section
structure DEndsM where
 nx:XE->Sto->DM->Prop
 rt:XV->Sto->DM->Prop
 bk:XE->Sto->DM->Prop:=fun _ _ _=>False
 ct:XE->Sto->DM->Prop:=fun _ _ _=>False
abbrev DSm:=DEndsM->XE->Sto->DM->Prop
def Fr(H:Hp)(M:DM):Prop:=∀ a∈ad M,H a=none
def NxM(h o:List Addr)(H:Hp)(A:List Addr)(N:XE->Sto->DM->Prop)(Y:St->Hp->Prop):Prop:=∀ o' H' δ' S' M' σ',Ex o H o' H'->ad M'=A->RepE (h++ad M') o' H' δ' σ'->RepS (h++ad M') o' H' S'->RepM h o' H' M'->N δ' S' M'->Y σ' H'
structure EOkM(h o:List Addr)(H:Hp)(A:List Addr)(E:DEndsM)(D:Ends):Prop where
 nx:NxM h o H A E.nx D.nx
 rt:∀ o' H' S' M' x v,Ex o H o' H'->ad M'=A->RepS (h++ad M') o' H' S'->RepM h o' H' M'->HasX (h++ad M') o' H' x v->E.rt x S' M'->D.rt v H'
 bk:NxM h o H A E.bk D.bk
 ct:NxM h o H A E.ct D.ct
def RSm(E:XK)(EX:EXD)(t:TS)(dt:DSm):Prop:=∀ (h o0:List Addr) (H0:Hp) (o:List Addr) (H:Hp) (δ:XE) (σ:St) (S:Sto) (M:DM) (En:DEndsM) (D:Ends),Ex o0 H0 o H->Fr H0 M->RepE (h++ad M) o H δ σ->RepS (h++ad M) o H S->RepM h o H M->dt En δ S M ->
 EOkM h o0 H0 (ad M) En D->CnX h o0 H0 EX E->t D σ H
def zr1(dt:DS):DSm:=fun En δ S M=>dt { nx:=fun δ' S'=>En.nx δ' S' M,rt:=fun x S'=>En.rt x S' M,bk:=fun δ' S'=>En.bk δ' S' M,ct:=fun δ' S'=>En.ct δ' S' M } δ S
def zwF(c:DM->DT)(t u:DSm):DSm:=fun En δ S M=>c M δ S fun b S1=>if b=true then t En δ S1 M else u En δ S1 M
def zfY(g:DG)(b:DSm):List PyData->DSm
 | [],E,δ,S,M=>E.nx δ S M
 | d :: ds,E,δ,S,M=>g (.d d) δ S fun δ1 S1=>b { nx:=fun δ2 S2 M2=>zfY g b ds E δ2 S2 M2,ct:=fun δ2 S2 M2=>zfY g b ds E δ2 S2 M2,bk:=E.nx,rt:=E.rt } δ1 S1 M
def zql(i:DM->DI)(g:DG)(b:DSm):DSm:=fun En δ S M=>i M δ S fun ds S1=>zfY g b ds En δ S1 M
def PhM(M:DM):Phi:=fun h' o H=>∃ h,h'=h++ad M/\RepM h o H M
instance {M:DM}:Stb (PhM M):=⟨fun⟨h,e,r⟩ x=>⟨h,e,r.mono x⟩⟩
section
variable {E:XK} {EX:EXD} {t u:TS} {dt du:DSm}
theorem ztP{wi:TI}{g:TG}{tb:TS}{di:DM->DI}{dg:DG}{db:DSm}(hi:∀ M,RIp (PhM M) wi (di M))(hg:RG g dg)(hb:RSm E EX tb db):RSm E EX (zt9 wi g tb) (zql di dg db):=fun h o0 H0 o H δ σ S M En D e0 fr he hs rm q c x =>
 hi M (h++ad M) o H δ σ S _ _ he hs q (fun o1 H1 S1 ds J e1 s1 wk d1=>by
  refine⟨fun i m σ2 H2=>m=ds.length - i/\i<=ds.length/\∃ o2 δ2 S2 M2,Ex o0 H0 o2 H2/\ExH (h++ad M) o1 H1 o2 H2/\ad M2=ad M/\RepE (h++ad M) o2 H2 δ2 σ2/\RepS (h++ad M) o2 H2 S2/\RepM h o2 H2 M2/\zfY dg db (ds.drop i) En δ2 S2 M2,
   ⟨ds.length,by simp,zero_le _,o1,δ,S1,M,e0.trans e1,ExH.refl,rfl,he.mono e1,s1,rm.mono e1,d1⟩,?_⟩
  rintro i m σ2 H2 ⟨rfl,hi,o2,δ2,S2,M2,e2,x2,ea,he2,hs2,rm2,d2⟩;by_cases hlt:i<ds.length
  ·have ed:ds[i]? = some ds[i]:=getElem?_eq_getElem hlt;rw [drop_eq_getElem_cons hlt] at d2;refine .inr ⟨wk.go i _ o2 H2 x2 ed,fun σ3 H3=>∃ o3 δ3 S3 M3,Ex o0 H0 o3 H3/\ExH (h++ad M) o1 H1 o3 H3/\ad M3=ad M/\RepE (h++ad M) o3 H3 δ3 σ3/\RepS (h++ad M) o3 H3 S3/\RepM h o3 H3 M3/\zfY dg db (ds.drop (i+1)) En δ3 S3 M3,fun σ3 H3 n=>⟨ds.length - (i+1),by omega,rfl,hlt,n⟩,fun y H3 yy=>?_⟩;obtain⟨s3,hx⟩:=wk.yld i _ o2 H2 y H3 S2 x2 hs2 ed yy;have e23:Ex o2 H2 o2 H3:=Ex.of_same s3;refine hg (h++ad M) o2 H3 δ2 σ2 S2 (.d ds[i]) y _ _ (he2.mono e23) (hs2.same s3) hx d2 fun o4 H4 δ4 S4 σ4 e4 he4 hs4 d4=>?_;have e24:Ex o2 H2 o4 H4:=e23.trans e4;have nM:∀ b u,H0 b=some u->b∉ad M:=fun b u z mb=>by
    rw [fr b mb] at z;cases z
   have e04:Ex o0 H0 o4 (fun b=>if b∈ad M then none else H4 b):=⟨(e2.trans e24).pre,fun b u nb z=>by
    obtain⟨z1,z2⟩:=(e2.trans e24).kp b u nb z;exact⟨z1,by show (if b∈ad M then none else H4 b)=some u; rw [if_neg (nM b u z)]; exact z2⟩⟩
   have exh:∀ {o5 H5},Ex o4 (fun b=>if b∈ad M then none else H4 b) o5 H5->ExH (h++ad M) o4 H4 o5 H5:=fun e5=>⟨e5.pre,fun b u n1 n2 z=>e5.kp b u n2 (by show (if b∈ad M then none else H4 b)=some u; rw [if_neg (fun mb=>n1 (mem_append_right _ mb))]; exact z)⟩;have again:∀ o5 H5 δ5 S5 M5 σ5,Ex o4 (fun b=>if b∈ad M then none else H4 b) o5 H5->ad M5=ad M2->RepE (h++ad M5) o5 H5 δ5 σ5->RepS (h++ad M5) o5 H5 S5->RepM h o5 H5 M5->zfY dg db (ds.drop (i+1)) En δ5 S5 M5 ->
     ∃ o3 δ3 S3 M3,Ex o0 H0 o3 H5/\ExH (h++ad M) o1 H1 o3 H5/\ad M3=ad M/\RepE (h++ad M) o3 H5 δ3 σ5/\RepS (h++ad M) o3 H5 S3/\RepM h o3 H5 M3/\zfY dg db (ds.drop (i+1)) En δ3 S3 M3:=fun o5 H5 δ5 S5 M5 σ5 e5 a5 he5 hs5 rm5 d5 =>
    ⟨o5,δ5,S5,M5,e04.trans e5,(x2.trans e24.hid).trans (exh e5),a5.trans ea,by rw [<- ea,<- a5]; exact he5,by rw [<- ea,<- a5]; exact hs5,rm5,d5⟩
   refine hb h o4 (fun b=>if b∈ad M then none else H4 b) o4 H4 δ4 σ4 S4 M2 _ _ ⟨⟨[],by simp⟩,fun b u nb eb=>?_⟩ (fun a ma=>by show (if a∈ad M then none else H4 a)=none; rw [if_pos (by rw [<- ea]; exact ma)]) (by rw [ea]; exact he4) (by rw [ea]; exact hs4) (rm2.mono e24) d4
    ⟨again,fun o5 H5 S5 M5 y5 v5 e5 a5 hs5 rm5 hx5 q5=>c.rt o5 H5 S5 M5 y5 v5 (e04.trans e5) (a5.trans ea) hs5 rm5 hx5 q5,fun o5 H5 δ5 S5 M5 σ5 e5 a5 he5 hs5 rm5 q5=>c.nx o5 H5 δ5 S5 M5 σ5 (e04.trans e5) (a5.trans ea) he5 hs5 rm5 q5,again⟩ (x.pre e04)
   refine⟨nb,?_⟩;by_cases mb:b∈ad M
   ·simp [mb] at eb
   ·simpa [mb] using eb
  ·have ei:i=ds.length:=by omega
   subst ei;rw [drop_length] at d2;exact .inl ⟨wk.stop _ o2 H2 x2 (le_refl _),c.nx o2 H2 δ2 S2 M2 σ2 e2 ea (by rw [ea]; exact he2) (by rw [ea]; exact hs2) rm2 d2⟩) ⟨h,rfl,rm⟩
end
end
section
section
variable {h h' o:List Addr} {H H':Hp}
theorem HasX.to(s:Same (vx h o H) (vx h' o H')):∀ {x:XV} {v:V},HasX h o H x v->HasX h' o H' x v
 | .d d,v,q=>Has.mono s d v q
 | .l k,v,q=>q
 | .o w,v,q=>q
 | .x C fs,v,q=>HasE.mono s q
theorem RepE.to{δ:XE}{σ:St}(s:Same (vx h o H) (vx h' o H'))(r:RepE h o H δ σ):RepE h' o H' δ σ:=⟨r.len,fun i x e=>let ⟨v,e1,e2⟩:=r.get i x e; ⟨v,e1,e2.to s⟩⟩
end
def zw6(a:Addr)(m:List (Key×PyData)):XV->XV
 | .o (.ref b)=>if b=a then .d (.dict (DD.pairs (.k m))) else .o (.ref b)
 | x=>x
theorem zaH{M:DM}{a:Addr}{D:DD}:ad (M++[(a,D)])=ad M++[a]:=by simp [ad]
theorem RepM.init{h o:List Addr}{H:Hp}{M:DM}{a:Addr}{D:DD}(r:RepM h o H (M++[(a,D)])):RepM h o H M:=by
 have nd:=r.nd;rw [zaH] at nd;refine⟨(nodup_append.mp nd).1,fun b m=>r.nh b (by rw [zaH]; exact mem_append_left _ m),fun b D2 m=>?_⟩;have z:=r.ct b D2 (mem_append_left _ m);rw [zaH,<- append_assoc] at z;exact z.mono zix fun _ z=>z
def zuQ(f:Bool)(i:Nat)(D0:DD)(b:DSm):DSm:=fun En δ S M=>∀ a,a∉ad M->b { nx:=(fun δ' S' M'=>if f=true then (∃ M1 m,M'=M1++[(a,.k m)]/\δ'[i]? = some (some (.o (.ref a)))/\En.nx (δ'.map (Option.map (zw6 a m))) S' M1) else (∃ M1 D,M'=M1++[(a,D)]/\En.nx δ' S' M1)),rt:=(fun x S' M'=>∃ M1 D,M'=M1++[(a,D)]/\En.rt x S' M1),bk:=(fun δ' S' M'=>∃ M1 D,M'=M1++[(a,D)]/\En.bk δ' S' M1),ct:=(fun δ' S' M'=>∃ M1 D,M'=M1++[(a,D)]/\En.ct δ' S' M1) } (δ.set i (some (.o (.ref a)))) S (M++[(a,D0)])
section
variable {E:XK} {EX:EXD} {tb:TS} {db:DSm} {i:Nat}
def ztv(dt:DSm):DS:=fun En δ S=>dt { nx:=fun δ' S' _=>En.nx δ' S',rt:=fun x S' _=>En.rt x S',bk:=fun δ' S' _=>En.bk δ' S',ct:=fun δ' S' _=>En.ct δ' S' } δ S []
theorem zti{t:TS}{dt:DSm}(ht:RSm E EX t dt):RSx E EX t (ztv dt):=fun h o H δ σ S En D he hs q c x=>by
 have z:h++ad []=h:=append_nil _;have nx:∀ {N:XE->Sto->Prop} {Y:St->Hp->Prop},Nx h o H N Y->NxM h o H (ad []) (fun δ' S' _=>N δ' S') Y:=fun {N Y} n o' H' δ' S' M' σ' ex ea he' hs' _ q'=>by
  rw [ea,z] at he' hs';exact n o' H' δ' S' σ' ex he' hs' q'
 refine ht h o H o H δ σ S [] _ D Ex.refl (fun a m=>by cases m) (by rw [z]; exact he) (by rw [z]; exact hs) RepM.nil q ⟨nx c.nx,?_,nx c.bk,nx c.ct⟩ x;rintro o' H' S' M' y v ex ea hs' _ hx' q';rw [ea,z] at hs' hx';exact c.rt o' H' S' y v ex hs' hx' q'
theorem zsI{t:TS}{dt:DSm}(ht:RSm E0 (fun _ _=>False) t dt):RS t (ztv dt):=fun h o H δ σ S En D he hs q c=>zti ht h o H δ σ S En D he hs q c fun _ _ _ _ _ _ _ _ _ z=>z.elim
end
end
section
theorem zvR{t:TE}{de:DE}(a:REp (PhM []) t de):RE t de:=fun h o H δ σ S R Q he hs q c=>a h o H δ σ S R Q he hs q c ⟨h,(append_nil _).symm,RepM.nil⟩
def IsDD(M:DM)(x:XV)(D:DD):Prop:=(∃ a,x=.o (.ref a)/\(a,D)∈M)\/∃ m,D=.k m/\x=.d (.dict (DD.pairs (.k m)))
theorem zo2{M:DM}{h o:List Addr}{H:Hp}{x:XV}{D:DD}{v:V}(φ:PhM M h o H)(q:IsDD M x D)(hx:HasX h o H x v):∃ a,v=.ref a/\RAt (vx h o H) H a D:=by
 rcases q with ⟨a,rfl,m⟩ | ⟨m,rfl,rfl⟩
 ·obtain⟨h0,rfl,rm⟩:=φ;exact⟨a,hx,(rm.ct a D m).rd⟩
 ·obtain⟨a,ob,m',rfl,e,l⟩:=zt2.mp (show Has _ _ v from hx);exact⟨a,rfl,m',.inr ⟨ob,zao _ _ e⟩,l⟩
def zmj(M:DM)(dd dy dx:DE):DE:=fun δ S R=>dd δ S fun x S1=>∃ D,IsDD M x D/\dy δ S1 fun y S2=>dx δ S2 fun z S3=>asD y fun k=>asD z fun dz=>∃ o,D.get k=some o/\R (.d (o.getD dz)) S3
theorem zqr{M:DM}{td ty tx:TE}{dd dy dx:DE}(hd:REp (PhM M) td dd)(hy:REp (PhM M) ty dy)(hx:REp (PhM M) tx dx):REp (PhM M) (zrj td ty tx) (zmj M dd dy dx):=fun h o H δ σ S R Q he hs q c w =>
 hd h o H δ σ S _ _ he hs q (fun o1 H1 S1 x v e1 s1 x1 ⟨D,hD,d1⟩=>by
  obtain⟨a,rfl,da⟩:=zo2 (Stb.st w e1) hD x1;refine⟨a,rfl,da.isD,hy h o1 H1 δ σ S1 _ _ (he.mono e1) s1 d1 (fun o2 H2 S2 y u e2 s2 y2 d2=>hx h o2 H2 δ σ S2 _ _ ((he.mono e1).mono e2) s2 d2 (fun o3 H3 S3 z t e3 s3 z3 d3=>?_) (Stb.st w (e1.trans e2))) (Stb.st w e1)⟩;replace d3:=zd9 d3;obtain⟨k,rfl,d3⟩:=d3;obtain⟨dz,rfl,r,e,q⟩:=zd9 d3;obtain⟨a',ea,da'⟩:=zo2 (Stb.st w ((e1.trans e2).trans e3)) hD (x1.mono (e2.trans e3));cases ea;obtain⟨r',g,rr⟩:=da'.get zao (y2.mono e3) e;refine⟨r',g,?_⟩;cases r with
  | none =>
   rw [show r'=none from rr];exact c o3 H3 S3 (.d dz) t ((e1.trans e2).trans e3) s3 z3 q
  | some d =>
   obtain⟨r2,rfl,h2⟩:=rr;exact c o3 H3 S3 (.d d) r2 ((e1.trans e2).trans e3) s3 h2 q) w
def zp4(j:Nat)(dk dv:DM->DE):DSm:=fun En δ S M=>dv M δ S fun x S1=>asD x fun d=>zh j δ S1 fun y S2=>∃ a,y=.o (.ref a)/\dk M δ S2 fun z S3=>asD z fun k=>∃ D D',(a,D)∈M/\D.put k d=some D'/\D.len<1000/\En.nx δ S3 (zsm M a D')
theorem zuo{E:XK}{EX:EXD}{j:Nat}{ty tv:TE}{dk dv:DM->DE}(hk:∀ M,REp (PhM M) ty (dk M))(hv:∀ M,REp (PhM M) tv (dv M)):RSm E EX (zu4 (zn3 j) ty tv) (zp4 j dk dv):=fun h o0 H0 o H δ σ S M En D e0 fr he hs rm q c x =>
 hv M (h++ad M) o H δ σ S _ _ he hs q (fun o1 H1 S1 y v e1 s1 x1 d1=>by
  obtain⟨d,rfl,y1,ey,a,rfl,d2⟩:=zd9 d1;have he1:=he.mono e1;obtain⟨v1,ev,hv1⟩:=he1.get j _ ey;have ev1:v1=.ref a:=hv1;subst ev1;refine⟨_,ev,hk M (h++ad M) o1 H1 δ σ S1 _ _ he1 s1 d2 (fun o2 H2 S2 z u e2 s2 z2 d3=>?_) ⟨h,rfl,rm.mono e1⟩⟩;obtain⟨k,rfl,D1,D2,mD,eD,hl,n⟩:=zd9 d3;have e12:=e1.trans e2;have rm2:=rm.mono e12;have ma:a∈ad M:=mem_map.mpr ⟨_,mD,rfl⟩;obtain⟨w,pt,fin⟩:=(rm2.ct a D1 mD).put zao z2 (x1.mono e2) eD hl;have mh:a∈h++ad M:=mem_append_right _ ma;refine⟨a,_,rfl,pt,c.nx o2 _ δ S2 (zsm M a D2) σ ⟨(e0.trans e12).pre,fun b w' nb zb=>?_⟩ zgu ?_ ?_ (rm2.put mD fin) n⟩
  ·obtain⟨z1,z3⟩:=(e0.trans e12).kp b w' nb zb;exact⟨z1,by rw [zS (fun z=>by rw [z,fr a ma] at zb; cases zb)]; exact z3⟩
  ·rw [zgu];exact(he1.mono e2).view (zg7 mh)
  ·rw [zgu];exact s2.hidden mh) ⟨h,rfl,rm⟩
theorem zsk{t t':TS}{d:DS}(h:RS t d)(e:t'=t:=by rfl):RS t' d:=e▸h
end
end L2
namespace L2
open PySem PySem.Spec PySem.Calls PyProof.Rows
def DD.itemsD(m:List (Key×PyData)):List PyData:=m.map fun p=>.tuple [kD p.1,p.2]
def zou(e:DE):DI:=fun δ S R=>e δ S fun x S1=>∃ m,x=.d (.dict (DD.pairs (.k m)))/\R (DD.itemsD m) S1
end L2
namespace L2
open PySem PySem.Spec PyProof.Rows
section
section
variable {E:XK} {EX:EXD} {a b c d e f u:TS} {dt du:DS} {i:Nat}
theorem znx(h:RS (zoD a b) dt)(hu:RS u du):RS (zoD a (zoD b u)) (zP dt du):=zsk (zK h hu)
end
end
section
structure FnAt(P:Program)(w:World)(K:W.Frag)(mg:Str->Option Value)(base:Heap)(F:Addr)(ps:List Str)(k:Nat)(sp:Sp):Prop where
 ex:∃ fd,FnOk P w K mg base CX0 k F fd ps sp/\W.keepIn K (.ref F)=true/\Binds K fd ps []
def zq7(i:Nat)(F:Addr)(sp:Sp)(ta:TA):TE:=fun σ H Q=>σ[i]? = some (some (.ref F))/\zkP sp [] E0 ta σ H Q
def zlM(i:Nat)(F:Addr)(m:Nat)(q:PN)(da:DA):DE:=fun δ S R=>δ[i]? = some (some (.o (.ref F)))/\zX m q da δ S R
theorem zq2{F:Addr}{i:Nat}{ps:List Str}{q:PN}{m:Nat}{t:TA}{da:DA}(ha:RA t da)(hm:ps.length=m:=by rfl):RE (zq7 i F (spN ps q) t) (zlM i F m q da):=fun h o H δ σ S R Q he hs ⟨e,w⟩ c=>by
 obtain⟨v,e1,e2⟩:=he.get i _ e;have ev:v=.ref F:=e2;subst ev;exact⟨e1,zaE ha hm h o H δ σ S R Q he hs w c⟩
end
end L2
namespace HT
open PySem PyProof.Rows
section
open PySem.SeqAt
open PySem.AutoSeq1 (wpAny_loadPart')
open PySem.MeetsSeq PySem.MeetsSeq2 PySem.MeetsSeq3
theorem lexLt_self:∀ ns:List Int,lexLt ns ns=false
 | []=>rfl
 | x :: xs=>by rw [lexLt_cons,if_pos rfl,lexLt_self xs]
end
end HT
namespace L2
open PySem PySem.Spec PyProof.Rows
end L2
namespace L2
open PySem PySem.Spec PySem.Calls PyProof.Rows
end L2
namespace HT
open PySem PyProof.Rows
end HT
namespace L2
open PySem PySem.Spec PySem.Calls PyProof.Rows
end L2
namespace HT
open PySem PyProof.Rows
end HT
namespace L2
open PySem PySem.Spec PySem.Calls PyProof.Rows
end L2
namespace L2
open PySem PySem.Spec PyProof.Rows
section
def zpj(lo:Int)(n:Nat):List PyData:=(List.range n).map fun k:Nat=>.int (lo - k)
end
end L2
namespace L2
open PySem PyProof.Rows
structure LtOk(prog:Program)(w:World)(A:Around)(E:Value->Shared->Prop)(s:Shared)(kd:SortKind)(D:Keyed->Prop)(lt:Keyed->Keyed->Bool):Prop where
 ask:∀ x y (st:SortSt) (Q:Option Bool->SortSt->Prop),D x->D y->kindOf st=kd->Q (some (lt x y)) st->wpS (model prog w) A E s (lt' x y) Q st
 asym:∀ x y,D x->D y->lt x y=true->lt y x=false
 tr:∀ x y z,D x->D y->D z->lt y x=false->lt z y=false->lt z x=false
section
variable {prog:Program} {w:World} {A:Around} {E:Value->Shared->Prop} {s:Shared} {kd:SortKind} {D:Keyed->Prop} {lt:Keyed->Keyed->Bool}
theorem zl4{arr:Array Keyed}{i:Nat}{x:Keyed}{Q:Keyed->SortSt->Prop}{st:SortSt}(h:arr[i]? = some x)(q:Q x st):wpS (model prog w) A E s (elem' arr i) Q st:=by
 rw [elem'_eq,h];exact wpS_pure q
theorem zu3{a:Array Keyed}{i:Nat}{x:Keyed}:a[i]? = some x↔a.toList[i]? = some x:=by simp
def flt(lt:Keyed->Keyed->Bool):Keyed->Keyed->Bool:=fun x y=>lt y x
def G(xs:Array Keyed)(i:Nat):Keyed:=(xs[i]?).getD (.none,.none)
theorem zwU{xs:Array Keyed}{i:Nat}(h:i<xs.size):xs[i]? = some (G xs i):=by unfold G; simp [h]
structure Tb(kd:SortKind)(D:Keyed->Prop)(a₀:Array Keyed)(lo:Nat)(st0 st:SortSt):Prop where
 kd:kindOf st=kd
 fl:failedOf st=none
 pm:(arrOf st).Perm a₀
 pe:pendingOf st=pendingOf st0
 lo:∀ i,i<lo->G (arrOf st) i=G (arrOf st0) i
 d:∀ x∈a₀.toList,D x
section
variable {a₀:Array Keyed} {lo:Nat} {st0 st st':SortSt}
theorem Tb.size(h:Tb kd D a₀ lo st0 st):(arrOf st).size=a₀.size:=h.pm.size_eq
theorem Tb.at(h:Tb kd D a₀ lo st0 st){i:Nat}(hi:i<a₀.size):(arrOf st)[i]? = some (G (arrOf st) i):=zwU (by rw [h.size]; exact hi)
theorem Tb.dd(h:Tb kd D a₀ lo st0 st){i:Nat}(hi:i<a₀.size):D (G (arrOf st) i):=by
 have e:=h.at hi;have m:G (arrOf st) i∈(arrOf st).toList:=mem_of_getElem? (by rw [<- zu3]; exact e);exact h.d _ ((Array.perm_iff_toList_perm.mp h.pm).mem_iff.mp m)
theorem zs7(O:LtOk prog w A E s kd D lt)(h:Tb kd D a₀ lo st0 st){i j:Nat}{Q:Option Bool->SortSt->Prop}(hi:i<a₀.size)(hj:j<a₀.size)(q:Q (some (lt (G (arrOf st) i) (G (arrOf st) j))) st):wpS (model prog w) A E s (ltAt' i j) Q st:=by
 rw [ltAt'_eq];refine wpS_bind (wpS_get ?_);refine wpS_bind (zl4 (h.at hi) (wpS_bind (zl4 (h.at hj) ?_)));exact O.ask _ _ _ _ (h.dd hi) (h.dd hj) h.kd q
end
structure Ts(kd:SortKind)(D:Keyed->Prop)(a₀:Array Keyed)(st:SortSt):Prop where
 kd:kindOf st=kd
 fl:failedOf st=none
 pm:(arrOf st).Perm a₀
 d:∀ x∈a₀.toList,D x
section
variable {a₀:Array Keyed} {st:SortSt}
theorem Ts.size(h:Ts kd D a₀ st):(arrOf st).size=a₀.size:=h.pm.size_eq
theorem Ts.tb(h:Ts kd D a₀ st)(lo:Nat):Tb kd D a₀ lo st st:=⟨h.kd,h.fl,h.pm,rfl,fun _ _=>rfl,h.d⟩
end
end
end L2
namespace L2
open PySem PySem.Spec PySem.Calls PyProof.Rows PySem.W
theorem zd5:∀ {a b c:List Int},HT.lexLt a b=true->HT.lexLt b c=true->HT.lexLt a c=true
 | [],[],_,h,_=>by cases h
 | [],_ :: _,[],_,h=>by cases h
 | [],_ :: _,_ :: _,_,_=>rfl
 | _ :: _,[],_,h,_=>by cases h
 | _ :: _,_ :: _,[],_,h=>by cases h
 | x :: xs,y :: ys,z :: zs,h,k=>by
  rw [HT.lexLt_cons] at h k ⊢;split at h
  ·rename_i e;subst e;split at k
   ·rename_i e;subst e;rw [if_pos rfl];exact zd5 h k
   ·rename_i e;rw [if_neg e];exact k
  ·rename_i e;have h':=of_decide_eq_true h;split at k
   ·rename_i e2;subst e2;rw [if_neg e];exact h
   ·have k':=of_decide_eq_true k;rw [if_neg (by omega)];exact decide_eq_true (by omega)
theorem zhL:∀ (a b:List Int),HT.lexLt a b=true\/a=b\/HT.lexLt b a=true
 | [],[]=>.inr (.inl rfl)
 | [],_ :: _=>.inl rfl
 | _ :: _,[]=>.inr (.inr rfl)
 | x :: xs,y :: ys=>by
  rw [HT.lexLt_cons,HT.lexLt_cons];by_cases e:x=y
  ·subst e;rw [if_pos rfl,if_pos rfl];rcases zhL xs ys with h | h | h
   ·exact .inl h
   ·exact .inr (.inl (by rw [h]))
   ·exact .inr (.inr h)
  ·rw [if_neg e,if_neg (Ne.symm e)];by_cases hl:x<y
   ·exact .inl (decide_eq_true hl)
   ·exact .inr (.inr (decide_eq_true (by omega)))
section
variable {prog:Program} {w:World} {A:Around} {E:Value->Shared->Prop} {s:Shared}
theorem ztA{kd:SortKind}{x y:Keyed}{b:Bool}{st:SortSt}{Q:Option Bool->SortSt->Prop}(hk:kindOf st=kd)(h:wpAny (model prog w) A (keyLt' kd x.1 y.1) (fun c s'=>s'=s/\c=b) (fun _ _=>False) s)(q:Q (some b) st):wpS (model prog w) A E s (lt' x y) Q st:=by
 rw [lt'_eq];refine wpS_bind (wpS_get ?_);rw [hk];refine wpS_bind (wpS_lift (wpAny_attempt (wpAny_mono h (fun c s' hc=>?_) fun _ _ e=>e.elim)));obtain⟨rfl,rfl⟩:=hc;exact⟨rfl,wpS_pure q⟩
theorem zmm{Q:Bool->Shared->Prop}:∀ {xs ys:List Value} {ns ms:List Int} (i k:Nat),IntsAre xs ns->IntsAre ys ms->Q (HT.lexLt ns ms) s->KatLex prog w A true (decide (k+xs.length<k+ys.length)) Q (xs.zip ys) i s
 | [],ys,ns,ms,i,k,h1,h2,q=>by
  cases h1;rw [List.zip_nil_left];refine kat_nil ?_;cases h2 with
  | nil =>
   rw [decide_eq_false (by simp)];exact q
  | cons n t h2 =>
   rw [decide_eq_true (by simp)];exact q
 | x :: xs,[],ns,ms,i,k,h1,h2,q=>by
  cases h2;cases h1 with
  | cons n t h1 =>
   rw [List.zip_nil_right];refine kat_nil ?_;rw [decide_eq_false (by simp)];exact q
 | x :: xs,y :: ys,ns,ms,i,k,h1,h2,q=>by
  cases h1 with
  | cons n t h1 =>
   cases h2 with
   | cons m u h2 =>
    rw [zip_cons_cons];refine kat_cons (wpAny_eqBool_int ?_);rw [HT.lexLt_cons] at q;refine kat_go (fun e=>?_) fun e=>?_
    ·have e1:n=m:=by simpa using e
     rw [if_pos e1] at q;refine kat_yes ?_;have:=zmm (Q:=Q) (i+1) (k+1) h1 h2 q;have ed:decide (k+((Value.int n t) :: xs).length<k+((Value.int m u) :: ys).length)=decide (k+1+xs.length<k+1+ys.length):=by
      rw [decide_eq_decide,length_cons,length_cons]; omega
     rw [ed];exact this
    ·have e1:n≠m:=by simpa using e
     rw [if_neg e1] at q;refine kat_no ?_;cases hb:(true && i == 0) with
     | true=>exact oneLt_int q
     | false=>exact kat_one _ _ (lt_int q)
def TupI(h:Heap)(v:Value)(ns:List Int):Prop:=ns≠[]/\∃ a o xs n,v=.ref a/\h.get? a=some o/\o.cls=.type "tuple"/\o.data=.seq xs n/\IntsAre xs.toList ns
theorem zn8{vs:List Value}(nums:Value->List Int)(hT:∀ v∈vs,TupI s.heap v (nums v)):LtOk prog w A E s (tuples' true) (fun x=>x.1=x.2/\x.1∈vs) (fun x y=>HT.lexLt (nums x.1) (nums y.1)) where
 ask:=fun x y st Q hx hy hk q=>by
  obtain⟨_,a,o,xs,n,ex,g1,c1,d1,i1⟩:=hT _ hx.2;obtain⟨_,b,o',ys,m,ey,g2,c2,d2,i2⟩:=hT _ hy.2;refine ztA hk ?_ q;rw [ex,ey];refine kat_lt g1 d1 g2 d2 ?_;have:=zmm (prog:=prog) (w:=w) (A:=A) (s:=s) (Q:=fun c s'=>s'=s/\c=HT.lexLt (nums (.ref a)) (nums (.ref b))) 0 0 (by rw [ex] at i1; exact i1) (by rw [ey] at i2; exact i2) ⟨rfl,rfl⟩;simpa using this
 asym:=fun x y _ _ h=>by
  cases e:HT.lexLt (nums y.1) (nums x.1) with
  | false=>rfl
  | true =>
   have:=zd5 h e;rw [HT.lexLt_self] at this;cases this
 tr:=fun x y z _ _ _ h1 h2=>by
  cases e:HT.lexLt (nums z.1) (nums x.1) with
  | false=>rfl
  | true =>
   rcases zhL (nums y.1) (nums x.1) with h | h | h
   ·rw [h] at h1; cases h1
   ·rw [h] at h2; rw [h2] at e; cases e
   ·have:=zd5 e h;rw [this] at h2;cases h2
theorem zoP{vs:List Value}(nums:Value->List Int)(hT:∀ v∈vs,TupI s.heap v (nums v))(h2:2<=vs.length){Q:SortKind->Shared->Prop}(h:Q (tuples' true) s):wpAny (model prog w) A (keyKind' vs.toArray) Q E s:=by
 have fs:∀ l:List Value,(∀ v∈l,TupI s.heap v (nums v))->∃ fs:List Value,KatTups s.heap l fs/\fs.length=l.length/\∀ f∈fs,∃ n t,f=Value.int n t:=by
  intro l;induction l with
  | nil=>intro _; exact⟨[],KatTups.nil,rfl,(fun f m=>by cases m)⟩
  | cons v l ih =>
   intro hl;obtain⟨fs,k,e,fi⟩:=ih fun x m=>hl x (mem_cons_of_mem _ m);obtain⟨hne,a,o,xs,n,ev,g1,c1,d1,i1⟩:=hl v mem_cons_self;subst ev;obtain⟨f,t,hf⟩:∃ n t,xs[0]? = some (Value.int n t):=by
    cases hx:xs.toList with
    | nil=>rw [hx] at i1; cases hn:nums (.ref a) with
     | nil=>exact absurd hn hne
     | cons x y=>rw [hn] at i1; cases i1
    | cons x r =>
     rw [hx] at i1;obtain⟨n,t,rfl⟩:=i1.all x mem_cons_self;exact⟨n,t,by rw [<- Array.getElem?_toList,hx]; rfl⟩
   refine⟨.int f t :: fs,KatTups.cons g1 c1 d1 hf k,by simp [e],fun z m=>?_⟩;rcases mem_cons.mp m with rfl | m
   ·exact⟨f,t,rfl⟩
   ·exact fi z m
 obtain⟨fs,k,e,fi⟩:=fs vs hT;refine kat_kind (T:=.type "int") k (by omega) (fun v m=>?_) rfl ?_
 ·obtain⟨n,t,rfl⟩:=fi v m;exact .now
 ·rw [show (Value.type "int" != Value.type "tuple")=true by decide];exact h
end
def zrb:List XV->Sto->RX->Prop:=fun xs S R=>arg1 xs fun x=>∃ m:List (Key×PyData),x=.d (.dict (DD.pairs (.k m)))/\∃ ns:List Int,m.map (·.1)=ns.map Sum.inl/\ns.length<=10000000/\∀ ms:List Int,ms.Perm ns->ms.Pairwise (· <= ·)->R (.d (.list (ms.map PyData.int))) S
def zwp:V->Int
 | .int n=>n
 | _=>0
def zjW(H:Hp):Value->List Int
 | .ref a=>match H a with
  | some (.tup xs)=>xs.map zwp
  | _=>[]
 | _=>[]
theorem zl1:∀ ns:List Int,(ns.map V.int).map zwp=ns
 | []=>rfl
 | n :: r=>by rw [map_cons,map_cons,zl1 r]; rfl
theorem ziL{H:Hp}{a:Addr}{ns:List Int}(e:H a=some (.tup (ns.map V.int))):zjW H (.ref a)=ns:=by
 show (match H a with | some (.tup xs)=>xs.map zwp | _=>[])=ns;rw [e];exact zl1 ns
theorem zjz:∀ {as:List Addr} {us:List Value},Vals (as.map V.ref) us->us=as.map Value.ref
 | [],_,.nil=>rfl
 | a :: r,_,.cons e h=>by rw [zjz h,show _=Value.ref a from e]; rfl
theorem zvg{P:Program}{w:World}{H:Hp}{h:Heap}{a:Addr}{ns:List Int}(ok:HOk P w H h)(e:H a=some (.tup (ns.map V.int)))(hn:ns≠[]):TupI h (.ref a) ns:=by
 obtain⟨_,us,rv,ob,hb,cb,n,db⟩:=(show ObjOk P w H h a (.tup (ns.map V.int)) from ok a _ e);exact⟨hn,a,ob,us.toArray,n,rfl,hb,cb,db,by simpa using za7 rv⟩
theorem TupI.keep{h h':Heap}{v:Value}{ns:List Int}(x:TupI h v ns)(k:∀ b o,h.get? b=some o->h'.get? b=some o):TupI h' v ns:=by
 obtain⟨hn,a,o,xs,n,e,g,r⟩:=x;exact⟨hn,a,o,xs,n,e,k _ _ g,r⟩
theorem zj6{H:Hp}:∀ {nss:List (List Int)} {ws:List V},HasL H (nss.map zlK) ws->∃ zs:List (Addr×List Int),ws=zs.map (fun z=>V.ref z.1)/\zs.map (·.2)=nss/\∀ z∈zs,H z.1=some (.tup (z.2.map V.int))
 | [],ws,l=>⟨[],zM.mp l,rfl,fun z m=>by cases m⟩
 | ns :: r,ws,l=>by
  obtain⟨v,t,rfl,h1,h2⟩:=zD.mp l;obtain⟨a,us,rfl,ea,la⟩:=zay.mp h1;rw [zbG la] at ea;obtain⟨zs,rfl,e2,hz⟩:=zj6 h2;refine⟨(a,ns) :: zs,rfl,by rw [map_cons,e2],fun z m=>?_⟩;rcases mem_cons.mp m with rfl | m
  ·exact ea
  ·exact hz z m
theorem zkd{H:Hp}:∀ {zs:List (Addr×List Int)},(∀ z∈zs,H z.1=some (.tup (z.2.map V.int)))->HasL H ((zs.map (·.2)).map zlK) (zs.map fun z=>V.ref z.1)
 | [],_=>zM.mpr rfl
 | z :: r,h=>zD.mpr ⟨_,_,rfl,zay.mpr ⟨z.1,_,rfl,h z mem_cons_self,zgM z.2⟩,zkd fun x m=>h x (mem_cons_of_mem _ m)⟩
end L2
namespace L2
open PySem PySem.Spec PyProof.Rows
end L2
namespace L2
open PySem PySem.Spec PySem.Calls PyProof.Rows
end L2
namespace L2
open PySem PySem.Spec PySem.Calls PyProof.Rows
def ztV(j:Nat)(dk dv:DM->DE):DSm:=fun En δ S M=>zh j δ S fun y S1=>∃ a m,y=.o (.ref a)/\(a,DD.k m)∈M/\dk M δ S1 fun z S2=>dv M δ S2 fun x S3=>asD z fun k=>asD x fun d=>∃ kk,zoy k=some kk/\m.length<1000/\if (lkA m kk).isSome=true then En.nx δ S3 M else En.nx δ S3 (zsm M a (.k (ptA m kk d)))
def zr2(k:Int)(e:DE):DE:=fun δ S R=>e δ S fun x S1=>asD x fun d=>R (.d (.dict [(.int k,d)])) S1
end L2
namespace L2
open PySem PySem.Spec PySem.Calls PyProof.Rows
end L2
namespace L2
open PySem PySem.Spec PyProof.Rows
end L2
namespace L2
theorem len0{α:Type}{l:List α}(h:l.length=0):l=[]:=eq_nil_of_length_eq_zero h
theorem len1{α:Type}{l:List α}(h:l.length=1):∃ a0,l=[a0]:=by
 cases l with
 | nil=>cases h
 | cons x r =>
  obtain rfl:=len0 (Nat.succ.inj h);exact⟨x,rfl⟩
theorem len2{α:Type}{l:List α}(h:l.length=2):∃ a0 a1,l=[a0,a1]:=by
 cases l with
 | nil=>cases h
 | cons x r =>
  obtain⟨a1,rfl⟩:=len1 (Nat.succ.inj h);exact⟨x,a1,rfl⟩
theorem len3{α:Type}{l:List α}(h:l.length=3):∃ a0 a1 a2,l=[a0,a1,a2]:=by
 cases l with
 | nil=>cases h
 | cons x r =>
  obtain⟨a1,a2,rfl⟩:=len2 (Nat.succ.inj h);exact⟨x,a1,a2,rfl⟩
theorem len4{α:Type}{l:List α}(h:l.length=4):∃ a0 a1 a2 a3,l=[a0,a1,a2,a3]:=by
 cases l with
 | nil=>cases h
 | cons x r =>
  obtain⟨a1,a2,a3,rfl⟩:=len3 (Nat.succ.inj h);exact⟨x,a1,a2,a3,rfl⟩
theorem len5{α:Type}{l:List α}(h:l.length=5):∃ a0 a1 a2 a3 a4,l=[a0,a1,a2,a3,a4]:=by
 cases l with
 | nil=>cases h
 | cons x r =>
  obtain⟨a1,a2,a3,a4,rfl⟩:=len4 (Nat.succ.inj h);exact⟨x,a1,a2,a3,a4,rfl⟩
theorem len6{α:Type}{l:List α}(h:l.length=6):∃ a0 a1 a2 a3 a4 a5,l=[a0,a1,a2,a3,a4,a5]:=by
 cases l with
 | nil=>cases h
 | cons x r =>
  obtain⟨a1,a2,a3,a4,a5,rfl⟩:=len5 (Nat.succ.inj h);exact⟨x,a1,a2,a3,a4,a5,rfl⟩
end L2
namespace L2
open PySem PySem.Spec PyProof.Rows
end L2
namespace L2
open PySem PySem.Spec PySem.Calls PyProof.Rows
open Sem (wp)
def ztF(a:DA):DE:=fun δ S R=>a δ S fun xs S1=>arg2 xs fun x y=>∃ ds,zl3 x=some ds/\∃ es,zl3 y=some es/\min ds.length es.length<=1000/\R (.d (.list (zi1 ds es))) S1
end L2
namespace L2
open PySem PySem.Spec PyProof.Rows
section
theorem zqw{X:Cx}{K:W.Frag}(hK:X.K=K):SlR X (zvZ K):=by
 subst hK;exact zg5
end
end L2
namespace L2
open PySem PySem.Spec PySem.Calls PyProof.Rows
open Sem (wp)
structure LamScope(ps caps:List Str)(sc:Scope):Prop where
 kind:sc.kind=.function
 co:sc.isCoroutine=false
 gen:sc.isGenerator=false
 nd:(ps++caps).Nodup
 par:∀ x∈ps,sc.names.lookup x=some .local
 cap:∀ x∈caps,sc.names.lookup x=some .free
 nocell:∀ y∈sc.names,y.2≠.cell
 free:∀ x,sc.names.lookup x=some .free->x∈caps
def cxL(P:Program)(w:World)(K:W.Frag)(mg:Str->Option Value)(base:Heap)(N:List Str)(qual:Str)(scope:Scope)(cl:List (Str×Addr))(f:Addr)(cd:Value)(A:Around)(outer:List Env)(s:Shared)(H:Hp):Cx where
 prog:=P
 w:=w
 K:=K
 mg:=mg
 base:=base
 A:=A.deeper (W.envX qual scope s.heap.objs.size f cd cl)
 N:=N
 s₀:=s
 H₀:=H
 env:=W.envX qual scope s.heap.objs.size f cd cl
 outer:=outer
 stack:=W.envX qual scope s.heap.objs.size f cd cl :: outer
 ex:=[]
 calm:=true
 fn:=fun _=>false
 pn:=[]
 xe:=fun _ _=>False
theorem zig:∀ {ps:List Str} {us:List Value} {i:Nat} {y:Str} {u:Value},ps.Nodup->ps[i]? = some y->us[i]? = some u->((ps.zip us).reverse).lookup y=some u
 | [],_,_,_,_,_,e,_=>by simp at e
 | _ :: _,[],_,_,_,_,_,e=>by simp at e
 | p :: ps,v :: us,0,y,u,nd,e1,e2=>by
  simp at e1 e2;subst e1 e2;rw [nodup_cons] at nd;rw [zip_cons_cons,reverse_cons,List.lookup_append];have:((ps.zip us).reverse).lookup p=none:=by
   rw [List.lookup_eq_none_iff];intro q mq;have:=(of_mem_zip (mem_reverse.mp mq)).1;have ne:p≠q.1:=fun e=>nd.1 (by rw [e]; exact this);simpa using ne
  rw [this];simp [List.lookup]
 | p :: ps,v :: us,i+1,y,u,nd,e1,e2=>by
  rw [nodup_cons] at nd;rw [zip_cons_cons,reverse_cons,List.lookup_append,zig nd.2 (by simpa using e1) (by simpa using e2)];rfl
section
variable {P:Program} {w:World} {K:W.Frag} {mg:Str->Option Value} {base:Heap} {A:Around} {outer:List Env} {s:Shared} {H:Hp}
structure Caps(H:Hp)(h:Heap)(cl:List (Str×Addr))(caps:List Str)(cs:List V):Prop where
 len:cs.length=caps.length
 inj:∀ x y c,cl.lookup x=some c->cl.lookup y=some c->x=y
 has:∀ x,x∈caps↔∃ c,cl.lookup x=some c
 at_:∀ (i:Nat) x v,caps[i]? = some x->cs[i]? = some v->∃ c u,cl.lookup x=some c/\RelV v u/\h.IsCell c (some u)
 free:∀ x c,cl.lookup x=some c->H c=none/\∃ v,h.IsCell c v
theorem zs0{k:Nat}{ps caps:List Str}{name qual:Str}{params:Arguments}{body:Expr}{scope:Scope}{cl:List (Str×Addr)}{pm ctv:Value}{c' f:Addr}{us:List Value}{vs cs:List V}{Q:VK}{t:TE}
  (S:LamScope ps caps scope) (hr:Room (k+1) A) (e0:Env0 P w K mg base A outer s H) (ho:s.heap.get? f=some (W.kla_obj name qual params body scope cl pm c' ctv)) (hcd:s.heap.CodeRec (.ref c') qual)
  (hbind:bindArgs (W.kla_fn name qual params body scope cl pm (.ref c') ctv) ⟨us,[]⟩=pure (ps.zip us)) (hl:vs.length=ps.length) (r:Vals vs us) (C:Caps H s.heap cl caps cs)
  (hb:PE (cxL P w K mg base (ps++caps) qual scope cl f (.ref c') A outer s H) body t) (q:t (vs.map some++cs.map some) H Q) :
  codeAny (model P w) A (.call (.ref f) ⟨us,[]⟩) (fun r' s'=>match r' with | .ok (.ret u)=>CE outer P w H s Q u s' | _=>False) s:=by
 have KX:K.In s.heap:=e0.mod.kin.keeps fun b o e=>(e0.bs b o e).1;have lim:s.heap.NoLimit:=e0.mod.nolimit.keeps fun b o e=>(e0.bs b o e).1;refine W.kla_callFunE hr.depth ho rfl S.co S.gen rfl hcd ?_;rw [hbind];refine wpAny_pure (wpAny_newFunctionEnv S.nocell (fun y hy=>S.par y.1 (of_mem_zip hy).1) (fun h₁ hns hsb=>⟨lim.fresh _ hsb,?_⟩) S.kind);show codeAny _ _ (.expr body (W.envX qual scope s.heap.objs.size f (.ref c') cl)) _ _;have hk:∀ b o,s.heap.get? b=some o->h₁.get? b=some o:=fun b o e=>hsb.extBut b o (ne_of_lt (lt_size e)) (get?_push_of_some _ e);have noA:∀ b:Addr,b∉(cxL P w K mg base (ps++caps) qual scope cl f (.ref c') A outer s H).ex:=fun b z=>absurd (show b∈([]:List Addr) from z) (by simp);have ul:us.length=ps.length:=by rw [<- r.length]; exact hl
 have I:Inv (cxL P w K mg base (ps++caps) qual scope cl f (.ref c') A outer s H) [] (vs.map some++cs.map some) H { s with heap:=h₁,toks:=s.toks+(ps.zip us).length }:=by
  refine⟨⟨e0.mod,S.kind,rfl,rfl,le_refl _,fun x y c h1 h2=>C.inj x y c h1 h2,fun y hy=>?_,fun y c h _=>absurd (show false=true from h) dz,fun _=>hr.hd,Around.frames_deeper e0.frames,.inr ⟨rfl,rfl⟩,fun b z=>absurd z (noA b),e0.bs,e0.bsz,fun b _ _=>noA b,fun b z=>absurd z (noA b),e0.funs,e0.frf⟩,
   rfl,e0.bare,Un.kept hk,⟨_,hns,fun i y v h1 h2 h3=>?_⟩,fun y c h=>?_,e0.hok.fresh (le_refl _),fun y c h=>(C.free y c h).1,fun p hp=>absurd (show p∈([]:List (Addr×Obj)) from hp) (by simp),e0.hok.kept hk,?_⟩
  ·have hy:scope.names.lookup y=some .cell\/scope.names.lookup y=some .free:=hy;rcases hy with hy | hy
   ·exact absurd rfl (S.nocell _ (PySem.mem_of_lookup hy))
   ·exact(C.has y).mp (S.free y hy)
  ·by_cases hi:i<ps.length
   ·have h1':ps[i]? = some y:=by
     have h1:(ps++caps)[i]? = some y:=h1
     rwa [getElem?_append_left hi] at h1
    have h2':vs[i]? = some v:=by
     rw [getElem?_append_left (by rw [length_map]; omega),getElem?_map] at h2;cases e:vs[i]? with
     | none=>rw [e] at h2; cases h2
     | some a=>rw [e] at h2; cases h2; rfl
    obtain⟨u,hu,rv⟩:=r.get h2';exact⟨u,rv,.inl ⟨S.par y (mem_of_getElem? h1'),zig (nodup_append.mp S.nd).1 h1' hu⟩⟩
   ·have h1':caps[i - ps.length]? = some y:=by
     have h1:(ps++caps)[i]? = some y:=h1
     rwa [getElem?_append_right (by omega)] at h1
    have h2':cs[i - ps.length]? = some v:=by
     rw [getElem?_append_right (by rw [length_map]; omega),length_map,hl,getElem?_map] at h2;cases e:cs[i - ps.length]? with
     | none=>rw [e] at h2; cases h2
     | some a=>rw [e] at h2; cases h2; rfl
    obtain⟨c,u,e1,rv,cl'⟩:=C.at_ _ y v h1' h2';exact⟨u,rv,.inr ⟨.inr (S.cap y (mem_of_getElem? h1')),c,e1,cl'.keeps hk⟩⟩
  ·obtain⟨v,q⟩:=(C.free y c h).2;exact⟨v,q.keeps hk⟩
  ·show (vs.map some++cs.map some).length=(ps++caps).length;simp [hl,C.len]
 refine W.kla_codeExpr (wpAny_mono (hb [] _ _ H _ I q) (fun u s' hs=>?_) fun e s' z=>z.elim);obtain⟨v,H',J,rv,q'⟩:=hs;exact⟨v,H',J.os,J.bare,J.base,J.hok,rv,q'⟩
end
abbrev lamKey (qual:Str) (pos:Pos):Array Value:=#[rawInt pos.line,rawInt pos.col,.str qual 0]
abbrev zjr (qual:Str) (params:Arguments) (body:Expr) (scope:Scope) (cl:List (Str×Addr)) (pm:Value) (c':Addr) (ctv:Value):Obj:=W.kla_obj "<lambda>" qual params body scope cl pm c' ctv
section
variable {X:Cx} {zn:List (Addr×Obj)} {σ:St} {H:Hp} {s:Shared} {M:Model} {A:Around} {E:Value->Shared->Prop} {Q:Value->Shared->Prop} {c P:Addr} {qual:Str} {params:Arguments} {body:Expr} {scope:Scope} {pos:Pos} {cl:List (Str×Addr)}
theorem zqP(I:Inv X zn σ H s)(hcode:X.env.code=.ref c)(hT:((c,P),lamKey qual pos)∈tabsG)(hcl:closureFor scope X.env=pure cl)
  (h:∀ (f c':Addr) (ctv pm:Value) (H':Hp) (s':Shared),Inv X zn σ H' s'->Same H H'->H f=none->H' f=some (.frz (zjr qual params body scope cl pm c' ctv) (.own 0))->(∃ oc vs t',H' c'=some (.frz oc (.own 0))/\oc.data=.fields vs/\vs[1]? = some (.str qual t'))->Q (.ref f) s') :
  wpAny M A (makeFunction "<lambda>" qual params (.expr body) scope X.env [] [] [] pos pos.line) Q E s:=by
 have hH:H P=some (.tbl (lamKey qual pos)):=I.stkFree.tab _ hT;have C:W.CodeHd X.base c P:=I.mod.hd _ hT;have B:BltAt X.base X.mg:=I.mod.bm;obtain⟨qs,hP,hq⟩:=(show ObjOk X.prog X.w H s.heap P (.tbl (lamKey qual pos)) from I.hok P _ hH);have neP:∀ b o,X.base.get? b=some o->b≠P:=fun b o e z=>by
  have:=(I.bs b o e).2;rw [z,hH] at this;cases this
 have hg:s.heap.Ns mainGlobals X.mg:=I.mod.glob.keeps I.bk;have hgP:mainGlobals≠P:=by
  obtain⟨o,es,ep,e,_⟩:=I.mod.glob;exact neP _ o e
 have hB:s.heap.BuiltinsAt X.mg P:=by
  obtain⟨bm,ob,b1,b2,b3,b4,b5,b6⟩:=B;refine⟨bm,ob,b1,b2,fun z=>?_,neP _ _ b3,I.bk _ _ b3,b4,b5,b6⟩;obtain⟨o,es,ep,e,d,_⟩:=I.mod.glob;rw [z,e] at b3;cases b3;rw [d] at b6;cases b6
 have hC:=C.keeps I.bk;rcases hq with rfl | ⟨l,k,q,t,c',oc,vs,t',e1,rfl,e3,e4,e5⟩
 ·refine W.kla_makeFunction (mg:=X.mg) hcl I.ok.glob hg hcode hC hP trivial rfl hgP hB fun c' ctv h' tk hx hge hlt hrec htb=>?_;obtain⟨c₂,oc,vs,t',e2,hoc,hd,hv⟩:=hrec;cases e2;have hsz:s.heap.objs.size<=h'.objs.size:=le_of_lt (Nat.lt_of_le_of_lt hge hlt);have nc:H c'=none:=I.hok.fresh hge;have nf:H h'.objs.size=none:=I.hok.fresh hsz;have cf:c'≠h'.objs.size:=ne_of_lt hlt
  let fo:Obj:=zjr qual params body scope cl ((X.mg "__name__").getD .none) c' ctv
  let H':Hp:=upd (upd H c' (.frz oc (.own 0))) h'.objs.size (.frz fo (.own 0))
  have gr:Same H H':=(Same.laid nc).trans (Same.laid (by rw [zS (Ne.symm cf)]; exact nf));have hpc:P≠c':=zY hH nc;have hpf:P≠h'.objs.size:=zY hH nf;have kp:∀ b o,b≠P->s.heap.get? b=some o->(h'.push fo).get? b=some o:=fun b o nb e=>get?_push_of_some _ (hx b o nb e);have eH:∀ b,b≠c'->b≠h'.objs.size->H' b=H b:=fun b n1 n2=>by show upd _ _ _ b=_; rw [zS n2,zS n1]
  have hc':H' c'=some (.frz oc (.own 0)):=by show upd _ _ _ c'=_; rw [zS cf,zaA]
  have hf':H' h'.objs.size=some (.frz fo (.own 0)):=zaA;refine h h'.objs.size c' ctv _ H' _ (I.un ⟨fun b o e n _ _=>kp b o (fun z=>by rw [z,hH] at n; cases n) e,fun b o e n _ _=>⟨o.slots,kp b o (fun z=>by rw [z,hH] at n; cases n) e⟩,fun b o e n _=>?_,fun b o e _=>?_,fun b xs e=>gr b _ e,fun b o u e=>gr b _ e,fun b ps e=>gr b _ e⟩ fun b u e=>?_) gr nf hf' ⟨oc,vs,t',hc',hd,hv⟩
  ·have lb:=lt_size e;rw [eH b (ne_of_lt (lt_of_lt_of_le lb hge)) (ne_of_lt (lt_of_lt_of_le lb hsz))];exact n
  ·by_cases hb:b=P
   ·subst hb;exact⟨_,get?_push_of_some _ htb⟩
   ·exact⟨o,kp b o hb e⟩
  ·by_cases h1:b=h'.objs.size
   ·subst h1;rw [hf'] at e;cases e;have g:=get?_push_size h' (o:=fo) rfl;exact⟨g,_,g⟩
   ·by_cases h2:b=c'
    ·subst h2;rw [hc'] at e;cases e;have g:=get?_push_of_some fo hoc;exact⟨g,_,g⟩
    ·rw [eH b h2 h1] at e;by_cases h3:b=P
     ·subst h3;rw [hH] at e;cases e;exact⟨_,get?_push_of_some _ htb,.inr ⟨_,_,qual,0,c',oc,vs,t',rfl,rfl,hc',hd,hv⟩⟩
     ·refine(I.hok b u e).stay (fun d v hd' q1=>kp d v (fun z=>?_) q1) (fun d q1=>gr d _ q1) (fun d xs q1=>gr d _ q1) fun d o u q1=>gr d _ q1;subst z;rcases hd' with z | z
      ·exact h3 z.symm
      ·rw [hH] at z; cases z
 ·have el:rawInt pos.line=l:=congrArg (fun a:Array Value=>a.getD 0 .none) e1;have ek:rawInt pos.col=k:=congrArg (fun a:Array Value=>a.getD 1 .none) e1;have eq:qual=q:=by
   have:=congrArg (fun a:Array Value=>a.getD 2 .none) e1;have z:Value.str qual 0=Value.str q t:=this;cases z;rfl
  subst eq;rw [<- el,<- ek] at hP;have hca:codeAmong pos (#[rawInt pos.line,rawInt pos.col,Value.ref c']:Array Value).toList=some (.ref c'):=by
   simp [codeAmong,rawInt]
  refine W.kla_makeFunctionHit (mg:=X.mg) hcl I.ok.glob hg hcode hC hP trivial hca hB fun ctv h' tk kp hsz=>?_;have nf:H h'.objs.size=none:=I.hok.fresh hsz
  let fo:Obj:=zjr qual params body scope cl ((X.mg "__name__").getD .none) c' ctv
  have gr:Same H (upd H h'.objs.size (.frz fo (.own 0))):=Same.laid nf;have g:=get?_push_size h' (o:=fo) rfl;exact h h'.objs.size c' ctv _ _ _ (I.laid (t':=tk) (o:=.frz fo (.own 0)) (fun b o e=>get?_push_of_some _ (kp b o e)) hsz ⟨g,_,g⟩) gr nf zaA ⟨oc,vs,t',gr _ _ e3,e4,e5⟩
end
end L2
namespace L2
open PySem PySem.Spec PySem.Calls PyProof.Rows
open Sem (wp)
section
variable {P:Program} {w:World} {K:W.Frag} {mg:Str->Option Value} {base:Heap} {A:Around} {outer:List Env} {s s':Shared} {H H' H0:Hp} {fs:List Addr} {h0 h h':Heap}
theorem Caps.after{cl:List (Str×Addr)}{caps:List Str}{cs:List V}(C:Caps H h cl caps cs)(U:Un fs [] H H' h h'):Caps H' h' cl caps cs:=by
 have kp:∀ c v,H c=none->h.IsCell c v->h'.IsCell c v:=fun c v n ⟨o,e,d⟩=>by
  obtain⟨sl,q⟩:=U.any e n (by simp);exact⟨_,q,d⟩
 refine⟨C.len,C.inj,C.has,fun i x v e1 e2=>?_,fun x c e=>?_⟩
 ·obtain⟨c,u,q1,q2,q3⟩:=C.at_ i x v e1 e2;exact⟨c,u,q1,q2,kp c _ (C.free x c q1).1 q3⟩
 ·obtain⟨n,v,q⟩:=C.free x c e;obtain⟨o,eo,_⟩:=id q;exact⟨U.free c o eo n (by simp),v,kp c v n q⟩
def CodeFz(H:Hp)(c':Addr)(qual:Str):Prop:=∃ oc vs t',H c'=some (.frz oc (.own 0))/\oc.data=.fields vs/\vs[1]? = some (.str qual t')
theorem CodeFz.rec{c':Addr}{qual:Str}(c:CodeFz H c' qual)(hok:HOk P w H h):h.CodeRec (.ref c') qual:=by
 obtain⟨oc,vs,t',e,d,q⟩:=c;obtain⟨g,_⟩:=(show ObjOk P w H h c' (.frz oc (.own 0)) from hok _ _ e);exact⟨c',oc,vs,t',rfl,g,d,q⟩
theorem CodeFz.un{c':Addr}{qual:Str}(c:CodeFz H c' qual)(U:Un fs [] H H' h h'):CodeFz H' c' qual:=by
 obtain⟨oc,vs,t',e,r⟩:=c;exact⟨oc,vs,t',U.frzs _ _ _ e,r⟩
end
end L2
namespace L2
open PySem PySem.Spec PySem.Calls PyProof.Rows
open Sem (wp)
end L2
namespace L2
open PySem PySem.Spec PySem.Calls PyProof.Rows
open Sem (wp)
def zhy(DN:List Str)(dsc:List (Str×NameKind))(sc:Scope)(ps caps:List Str)(ks:List Nat):Bool :=
 (ks.length == caps.length) && decide ((ps++caps).Nodup) && ps.all (fun x=>sc.names.lookup x == some .local) && caps.all (fun x=>sc.names.lookup x == some .free && dsc.lookup x == some .cell) &&
 sc.names.all (fun y=>y.2 != .cell && (y.2 != .free || caps.contains y.1)) && (ks.zip caps).all (fun p=>DN[p.1]? == some p.2)
section
variable {X:Cx} {zn:List (Addr×Obj)} {σ:St} {H:Hp} {s:Shared} {dsc scope:Scope} {L:Nat} {ps caps:List Str} {ks:List Nat}
theorem zk0(hk:scope.kind=.function)(hco:scope.isCoroutine=false)(hg:scope.isGenerator=false)(h:zhy X.N dsc.names scope ps caps ks=true):LamScope ps caps scope:=by
 simp only [zhy,Bool.and_eq_true,all_eq_true,beq_iff_eq,decide_eq_true_eq] at h;obtain⟨⟨⟨⟨⟨_,nd⟩,hp⟩,hc⟩,hn⟩,_⟩:=h;refine⟨hk,hco,hg,nd,hp,fun x hx=>(hc x hx).1,fun y hy e=>?_,fun x e=>?_⟩
 ·have:=(hn y hy).1;rw [e] at this;simp at this
 ·have:=(hn _ (PySem.mem_of_lookup e)).2;simpa using this
theorem zlt(hd:X.env.scope=dsc)(hc:X.env.cells=cellsFrom L dsc.names [])(h:zhy X.N dsc.names scope ps caps ks=true):closureFor scope X.env=pure (zkB X.env scope.names []):=by
 subst hd;simp only [zhy,Bool.and_eq_true,all_eq_true,beq_iff_eq,decide_eq_true_eq] at h;obtain⟨⟨⟨⟨⟨_,nd⟩,hp⟩,hcp⟩,hn⟩,_⟩:=h;refine zfe fun y hy e=>?_;have:=(hn y hy).2;rw [e] at this;rw [hc];exact W.cellsFrom_some _ _ _ (.inl (hcp _ (by simpa using this)).2)
theorem zqa{cs:List V}(I:Inv X zn σ H s)(hd:X.env.scope=dsc)(hc:X.env.cells=cellsFrom L dsc.names [])(h:zhy X.N dsc.names scope ps caps ks=true)(hσ:ks.map (fun i=>(σ[i]?).join)=cs.map some):Caps H s.heap (zkB X.env scope.names []) caps cs:=by
 have hcl:=zlt hd hc h;subst hd;simp only [zhy,Bool.and_eq_true,all_eq_true,beq_iff_eq,decide_eq_true_eq] at h;obtain⟨⟨⟨⟨⟨hl,nd⟩,hp⟩,hcp⟩,hn⟩,hz⟩:=h;have hsome:∀ x,X.env.scope.names.lookup x=some .cell->(X.env.cells.lookup x).isSome=true:=fun x e=>by
  rw [hc];exact W.cellsFrom_some _ _ _ (.inl e)
 have sub:∀ x c,(zkB X.env scope.names []).lookup x=some c->X.env.cells.lookup x=some c/\x∈caps:=fun x c e=>by
  rcases zjd (PySem.mem_of_lookup e) with q | ⟨q,ec⟩
  ·cases q
  ·have hx:x∈caps:=by have:=(hn _ q).2; simpa using this
   obtain⟨c',hc'⟩:=isSome_iff_exists.mp (hsome x (hcp x hx).2);refine⟨?_,hx⟩;rw [ec,hc'];rfl
 have has:∀ x∈caps,∃ c,(zkB X.env scope.names []).lookup x=some c:=fun x hx=>by
  obtain⟨c,hm⟩:=zgo (env:=X.env) (acc:=[]) (PySem.mem_of_lookup (hcp x hx).1);exact zcm hm
 have lc:cs.length=caps.length:=by
  have:=congrArg List.length hσ;simp only [length_map] at this;omega
 refine⟨lc,fun x y c h1 h2=>I.ok.inj x y c (sub x c h1).1 (sub y c h2).1,fun x=>⟨has x,fun⟨c,e⟩=>(sub x c e).2⟩,fun i x v e1 e2=>?_,fun x c e=>⟨I.freeC x c (sub x c e).1,I.cell x c (sub x c e).1⟩⟩;obtain⟨c,ec⟩:=has x (mem_of_getElem? e1);have hi:i<ks.length:=by
  have:=(List.getElem?_eq_some_iff.mp e1).1;omega
 have ek:=getElem?_eq_getElem hi;have hsl:(σ[ks[i]]?).join=some v:=by
  have:=congrArg (fun l=>l[i]?) hσ;simp only [getElem?_map,e2,ek,map_some] at this;exact Option.some.inj this
 have hsv:σ[ks[i]]? = some (some v):=by
  cases q:σ[ks[i]]? with
  | none=>rw [q] at hsl; cases hsl
  | some a=>rw [q] at hsl; rw [show a=some v from hsl]
 have hN:X.N[ks[i]]? = some x:=hz (ks[i],x) (mem_of_getElem? (i:=i) (by rw [getElem?_zip_eq_some]; exact⟨ek,e1⟩));have hcell:=(hcp x (mem_of_getElem? e1)).2;obtain⟨m,_,hl'⟩:=I.loc;obtain⟨u,rv,lk⟩:=hl' _ x v hN hsv (.inr (.inl hcell));rcases lk with ⟨k1,_⟩ | ⟨_,c',q1,q2⟩
 ·exact absurd ((show X.env.kindOf x=some .cell from hcell).symm.trans k1) dz
 ·rw [(sub x c ec).1] at q1;cases q1;exact⟨c,u,ec,rv,q2⟩
end
theorem zjv{h o:List Addr}{H:Hp}{δ:XE}{σ:St}(r:RepE h o H δ σ):∀ {ks:List Nat} {cs:List XV},ks.map (fun i=>(δ[i]?).join)=cs.map some->∃ vs:List V,ks.map (fun i=>(σ[i]?).join)=vs.map some/\HasXs h o H cs vs
 | [],[],_=>⟨[],rfl,rfl⟩
 | [],_ :: _,e=>by simp at e
 | _ :: _,[],e=>by simp at e
 | k :: ks,x :: cs,e=>by
  simp only [map_cons,List.cons.injEq] at e;obtain⟨e1,e2⟩:=e;have e3:δ[k]? = some (some x):=by
   cases q:δ[k]? with
   | none=>rw [q] at e1; cases e1
   | some a=>rw [q] at e1; rw [show a=some x from e1]
  obtain⟨v,e4,hv⟩:=r.get k x e3;obtain⟨vs,e5,hl⟩:=zjv r e2;refine⟨v :: vs,?_,v,vs,rfl,hv,hl⟩;simp only [map_cons,e4,e5];rfl
end L2
namespace L2
open PySem PySem.Spec PySem.Calls PyProof.Rows
structure CodeAt(K:W.Frag)(mg:Str->Option Value)(x:Str)(c:Addr):Prop where
 ex:∀ f oc od fd osl,mg x=some (.ref f)->K.lookup f=some ⟨oc,od,.func fd,osl⟩->fd.code=.ref c
theorem CodeAt.of{K:W.Frag}{h:Heap}{mg:Str->Option Value}{x:Str}{c P:Addr}(X:K.In h)(G:h.Ns mainGlobals mg)(ht:W.tabIn K x=some (c,P)):CodeAt K mg x c :=
 ⟨fun f oc od fd osl hm hl=>W.law_code X G ht hm (X _ _ hl) rfl⟩
section
variable {P:Program} {w:World} {K:W.Frag} {mg:Str->Option Value} {base:Heap} {x:Str} {st:Stmt} {N ps:List Str} {k:Nat} {c:Addr}
theorem ztC{q:PN}(D:Dd K mg x st ps)(C:CodeAt K mg x c)(S:FnScope N ps (zi st))(n:Nat)(hn:N.length=ps.length+n)
  (hbody:∀ (f:Addr) (A:Around) (outer:List Env) (s:Shared) (H:Hp) (E:XK),Room k (A.deeper (envOfC x (zi st) s.heap.objs.size f (.ref c))) ->
   ∃ t dt,PSs (zk2 CX0 P w K mg base N x (zi st) f (.ref c) A outer s H E).nox (zbL st) t/\RS t dt/\∀ xs S R,q xs S R->dt (zbC S.length R) (xs.map some++List.replicate n none) S):Df P w K mg base x ps (k+1) (spN ps q):=by
 obtain⟨f,fd,F,hm,hb⟩:=D.ex;have kp:=F.kp;obtain⟨oc,od,kV,doc,pm,an,cdv,ct,osl,rfl,lk,hcd⟩:=F.ex;obtain rfl:cdv=.ref c:=C.ex f _ _ _ _ hm lk;refine⟨f,_,ztZ lk hcd S (fun vs H Q E h=>h.1) fun A outer s H vs Q E hr ⟨hl,h,o,S',xs,R,hs',hx,hq,c⟩=>?_,hm,kp,hb⟩;obtain⟨t,dt,h1,h2,h3⟩:=hbody f A outer s H E hr;refine⟨t,h1.nox,h2 h o H _ _ S' _ _ ?_ hs' (h3 xs S' R hq) (eok hs' c)⟩;have e:N.length - vs.length=n:=by omega
 unfold start;rw [e];exact zei hx
end
end L2
namespace L2
open PySem PySem.Spec PySem.Calls PyProof.Rows
def zrM(ta:TA):TE:=fun σ H Q=>ta σ H fun vs H1=>∃ i j:Int,vs=[.int i,.int j,.int (-1)]/\(-1000<=i/\i<=1000)/\(-1000<=j/\j<=1000)/\∀ l,H1 l=none->Q (.ref l) (upd H1 l (.lst ((List.range (i - j).toNat).map fun k:Nat=>V.int (i - k))))
theorem zm1{i j:Int}(h1:-1000<=i/\i<=1000)(h2:-1000<=j/\j<=1000):Builtin.Range.rangeSize i j (-1)=(((i - j).toNat:Nat):Int)/\Builtin.Range.small i j (-1)=true:=by
 have e2:Builtin.Range.rangeSize i j (-1)=(((i - j).toNat:Nat):Int):=by
  unfold Builtin.Range.rangeSize;rw [if_neg dz];split
  ·rw [show (- -1:Int)=1 by decide,Int.ediv_one];omega
  ·omega
 refine⟨e2,?_⟩;unfold Builtin.Range.small;rw [e2,if_neg dz];simp only [Builtin.Range.rangeFitsLong,Bool.and_eq_true,Bool.or_eq_true,decide_eq_true_eq,beq_iff_eq];omega
theorem znR{i:Int}{n:Nat}{acc:Array Value}(h:ItemsOf (fun k v=>∃ t,v=.int (i+(k:Int)*(-1)) t) acc n):Vals ((List.range n).map fun k:Nat=>V.int (i - k)) acc.toList:=by
 obtain⟨hz,hv⟩:=h;refine zlL _ _ (by simp [hz]) fun k x u ex eu=>?_;rw [getElem?_map] at ex;have hk:k<n:=by
  have:=(List.getElem?_eq_some_iff.mp eu).1;simpa [hz] using this
 rw [getElem?_range hk] at ex;cases ex;obtain⟨tk,rfl⟩:=hv k u (by simpa using eu);exact⟨tk,by rw [show i+(k:Int)*(-1)=i - k by omega]⟩
theorem zq1{X:Cx}{a b c:Expr}{ta:TA}{p p' pos pos':Pos}(hc:X.calm=true)(hgl:Gl X "list")(hml:X.mg "list" = none)(hg:Gl X "range")(hm:X.mg "range" = none)(ha:PA X [a,b,c] ta)
  (hs:starEach [a,b,c] X.env=[(false,eval a X.env),(false,eval b X.env),(false,eval c X.env)]:=by rfl) (hs2:starEach [b,c] X.env=[(false,eval b X.env),(false,eval c X.env)]:=by rfl)
  (hs3:starEach [.Call (.Name "range" p) [a,b,c] [] pos] X.env=[(false,eval (.Call (.Name "range" p) [a,b,c] [] pos) X.env)]:=by rfl) :
  PE X (.Call (.Name "list" p') [.Call (.Name "range" p) [a,b,c] [] pos] [] pos') (zrM ta):=by
 intro zn s σ H Q I h;refine wpAny_Call_Name_kw (zfn I hgl hml zfA ?_ dz dz);refine PyProof.Rows.callWith_type1 ?_ (by rw [hs3]; rfl) rfl;rw [hs3];show wpAny _ _ (spliced ((false,eval (.Call (.Name "range" p) [a,b,c] [] pos) X.env) :: [])) _ _ s;refine Calls.spliced_cons (Call_ (zfn I hg hm boot_range (PyProof.Rows.callWith_type1 (thn (ha pos zn s σ H _ I h) fun us s1 ⟨vs,H1,I1,r1,q1⟩=>?_) (by rw [hs,hs2]) (by rw [hs2]; rfl))));obtain⟨i,j,e,h1,h2,q⟩:=q1;subst e;cases r1 with
 | cons r rr =>
  cases rr with
  | cons r' rr =>
   cases rr with
   | cons r'' rr =>
    cases rr;obtain⟨t,rfl⟩:=r;obtain⟨t',rfl⟩:=r';obtain⟨t'',rfl⟩:=r'';refine call_range_3 dz (Calls.spliced_nil ?_) (.inl (PyProof.noPylong_small (by omega)));have I2:=I1.kept (h':=s1.heap.push { cls:=.type "range",data:=.fields #[.int i t,.int j t',.int (-1) t''] }) (t':=s1.toks) fun b o e=>get?_push_of_some _ e;obtain⟨en,sm⟩:=zm1 h1 h2;refine call_list_range (I2.ok.hd hc) (IsRange.new ..) sm en (by omega) fun h' tk acc c kp e it=>?_;have hv:=znR it;refine⟨.ref _,_,I2.laid (t':=tk) kp (le_refl _) (show ObjOk X.prog X.w _ h' _ (.lst _) from⟨?_,acc.toList,c,hv,?_⟩),rfl,q _ (I2.hok.fresh (le_refl _))⟩
    ·rw [length_map,List.length_range,sizeLine_eq];omega
    ·simpa using e
def zlC(a:DA):DE:=fun δ S R=>a δ S fun xs S1=>∃ i j:Int,xs=[.d (.int i),.d (.int j),.d (.int (-1))]/\(-1000<=i/\i<=1000)/\(-1000<=j/\j<=1000)/\R (.d (.list (zpj i (i - j).toNat))) S1
theorem zpM{ta:TA}{da:DA}(ha:RA ta da):RE (zrM ta) (zlC da):=fun h o H δ σ S R Q he hs q c =>
 ha h o H δ σ S _ _ he hs q fun o1 H1 S1 xs vs e1 s1 x1 d0=>by
  obtain⟨i,j,rfl,h1,h2,d1⟩:=d0;obtain⟨v1,r1,rfl,hv1,l1⟩:=x1;obtain⟨v2,r2,rfl,hv2,l2⟩:=l1;obtain⟨v3,r3,rfl,hv3,l3⟩:=l2;have l4:r3=[]:=l3;subst l4;rw [zbd hv1,zbd hv2,zbd hv3];have l:=zgM (H:=vx h o1 H1) ((List.range (i - j).toNat).map fun k:Nat=>i - (k:Int));rw [map_map,map_map] at l;exact⟨i,j,rfl,h1,h2,zkH s1 l (c.pre e1) d1⟩
end L2
namespace L2
open PySem PySem.Spec PySem.Calls PyProof.Rows
open Sem (wp)
def vi(H:Hp):Hp:=fun a=>match H a with
 | some (.tup xs)=>some (.tup xs)
 | some (.frz o u)=>some (.frz o u)
 | _=>none
theorem ztD{H:Hp}{b:Addr}{u:HO}:vi H b=some u->H b=some u/\((∃ xs,u=.tup xs)\/∃ o w,u=.frz o w):=by
 intro e;unfold vi at e;cases q:H b with
 | none=>rw [q] at e; cases e
 | some z =>
  rw [q] at e;cases z <;> first | (cases e; exact⟨rfl,.inl ⟨_,rfl⟩⟩) | (cases e; exact⟨rfl,.inr ⟨_,_,rfl⟩⟩) | cases e
theorem zwa{fs ex h o:List Addr}{H0 H:Hp}{g g':Heap}{S:Sto}(U:Un fs ex H0 H g g')(r:RepS h o H S):Same (vi H0) (vx h o H):=fun b u e=>by
 obtain⟨e1,e2⟩:=ztD e;have eH:H b=some u:=by
  rcases e2 with ⟨xs,rfl⟩ | ⟨ob,w,rfl⟩
  ·exact U.tups _ _ e1
  ·exact U.frzs _ _ _ e1
 refine zaj.mpr ⟨fun m=>?_,fun m=>?_,eH⟩
 ·obtain⟨z,ez⟩:=r.hal b m;rw [eH] at ez;rcases e2 with ⟨xs,rfl⟩ | ⟨ob,w,rfl⟩ <;> cases z <;> cases ez
 ·obtain⟨z,ez⟩:=r.oal b m;rw [eH] at ez;rcases e2 with ⟨xs,rfl⟩ | ⟨ob,w,rfl⟩ <;> cases ez
mutual
def ImD:PyData->Bool
 | .list _=>false
 | .dict _=>false
 | .tuple ds=>ImL ds
 | .none=>true
 | .bool _=>true
 | .int _=>true
 | .str _=>true
def ImL:List PyData->Bool
 | []=>true
 | d :: ds=>ImD d && ImL ds
end
theorem zli{ds:List PyData}:ImD (.tuple ds)=ImL ds:=by simp only [ImD]
theorem ztG{i:Int}:ImD (.int i)=true:=by simp only [ImD]
theorem zib:∀ {ds:List PyData},(∀ d∈ds,ImD d=true)->ImL ds=true
 | [],_=>by simp only [ImL]
 | d :: ds,h=>by simp only [ImL,Bool.and_eq_true]; exact⟨h d mem_cons_self,zib fun e m=>h e (mem_cons_of_mem _ m)⟩
section
variable {H:Hp}
mutual
theorem Has.im{g o:List Addr}:∀ (d:PyData) (v:V),ImD d=true->Has (vx g o H) d v->Has (vi H) d v
 | .none,_,_,h=>by simp only [Has] at h ⊢; exact h
 | .bool _,_,_,h=>by simp only [Has] at h ⊢; exact h
 | .int _,_,_,h=>by simp only [Has] at h ⊢; exact h
 | .str _,_,_,h=>by simp only [Has] at h ⊢; exact h
 | .list ds,v,i,h=>by simp only [ImD,Bool.false_eq_true] at i
 | .dict ds,v,i,h=>by simp only [ImD,Bool.false_eq_true] at i
 | .tuple ds,v,i,h=>by
  simp only [Has] at h ⊢;simp only [ImD] at i;obtain⟨a,vs,e,q,l⟩:=h;have q':H a=some (.tup vs):=(zaj.mp q).2.2;exact⟨a,vs,e,by unfold vi; rw [q'],HasL.im ds vs i l⟩
theorem HasL.im{g o:List Addr}:∀ (ds:List PyData) (vs:List V),ImL ds=true->HasL (vx g o H) ds vs->HasL (vi H) ds vs
 | [],_,_,h=>by simp only [HasL] at h ⊢; exact h
 | d :: ds,vs,i,h=>by
  simp only [HasL] at h ⊢;simp only [ImL,Bool.and_eq_true] at i;obtain⟨v,r,e,q,l⟩:=h;exact⟨v,r,e,Has.im d v i.1 q,HasL.im ds r i.2 l⟩
end
end
theorem zlz{h o:List Addr}{H:Hp}:∀ {ds:List PyData} {vs:List V},HasL (vx h o H) ds vs->HasXs h o H (ds.map XV.d) vs
 | [],vs,q=>by simp only [HasL] at q; exact q
 | d :: ds,vs,q=>by
  simp only [HasL] at q;obtain⟨v,r,e,hv,l⟩:=q;exact⟨v,r,e,hv,zlz l⟩
theorem znk{h o:List Addr}{H:Hp}:∀ {ds:List PyData} {vs:List V},HasXs h o H (ds.map XV.d) vs->HasL (vx h o H) ds vs
 | [],vs,q=>by simp only [HasL]; exact q
 | d :: ds,vs,q=>by
  obtain⟨v,r,e,hv,l⟩:=q;simp only [HasL];exact⟨v,r,e,hv,znk l⟩
theorem zj4{h o:List Addr}{H:Hp}:∀ {xs ys:List XV} {vs ws:List V},HasXs h o H xs vs->HasXs h o H ys ws->HasXs h o H (xs++ys) (vs++ws)
 | [],ys,vs,ws,q,r=>by rw [show vs=[] from q]; exact r
 | x :: xs,ys,vs,ws,⟨v,r',e,hv,l⟩,r=>by subst e; exact⟨v,r'++ws,rfl,hv,zj4 l r⟩
structure LamOk(P:Program)(w:World)(K:W.Frag)(mg:Str->Option Value)(base:Heap)(k:Nat)(ps:List Str)(F:Addr)(q:PN)(s0:Shared)(H0:Hp):Prop where
 at_:∃ oc od fd sl,H0 F=some (.frz ⟨oc,od,.func fd,sl⟩ (.own 0))
 run:∀ (A:Around) (outer:List Env) (s:Shared) (H:Hp) (us:List Value) (vs:List V) (Q:VK),Room k A->Env0 P w K mg base A outer s H->(∃ fs,Un fs [] H0 H s0.heap s.heap)->Vals vs us->spN ps q vs H Q E0 ->
  codeAny (model P w) A (.call (.ref F) ⟨us,[]⟩) (fun r' s'=>match r' with | .ok (.ret u)=>CE outer P w H s Q u s' | _=>False) s
def zty(db:DE)(cds:List PyData):PN:=fun xs S R=>db (xs.map some++cds.map (fun d=>some (XV.d d))) S R
section
variable {P:Program} {w:World} {K:W.Frag} {mg:Str->Option Value} {base:Heap} {s0:Shared} {H0:Hp}
theorem zqZ{k:Nat}{ps caps:List Str}{qual:Str}{params:Arguments}{body:Expr}{scope:Scope}{cl:List (Str×Addr)}{pm ctv:Value}{c' F:Addr}{cs:List V}{cds:List PyData}{t:TE}{db:DE}
  (S:LamScope ps caps scope) (hf:H0 F=some (.frz (zjr qual params body scope cl pm c' ctv) (.own 0))) (hc:CodeFz H0 c' qual)
  (hbind:∀ us:List Value,us.length=ps.length->bindArgs (W.kla_fn "<lambda>" qual params body scope cl pm (.ref c') ctv) ⟨us,[]⟩=pure (ps.zip us)) (C:Caps H0 s0.heap cl caps cs)
  (hb:∀ A outer s H,Room k (A.deeper (W.envX qual scope s.heap.objs.size F (.ref c') cl))->PE (cxL P w K mg base (ps++caps) qual scope cl F (.ref c') A outer s H) body t) (hd:RE t db) (him:HasL (vi H0) cds cs) :
  LamOk P w K mg base (k+1) ps F (zty db cds) s0 H0:=by
 refine⟨⟨_,_,_,_,hf⟩,fun A outer s H us vs Q hr e0 ⟨fs,U⟩ r ⟨hl,h,o,S',xs,R,hs,hx,hq,c⟩=>?_⟩;have hf':=U.frzs _ _ _ hf;have hc':=hc.un U;have C':=C.after U;obtain⟨g,_⟩:=(show ObjOk P w H s.heap F (.frz _ (.own 0)) from e0.hok _ _ hf');refine zs0 S hr e0 g (hc'.rec e0.hok) (hbind us (by rw [<- r.length]; exact hl)) hl r C' (hb A outer s H (hr.deeper _)) ?_;refine hd h o H _ _ S' R Q ?_ hs hq c;have hcs:HasXs h o H (cds.map XV.d) cs:=zlz (HasL.mono (zwa U hs) _ _ him);have:=zei (n:=0) (zj4 hx hcs);simpa [Function.comp_def] using this
end
section
variable {X:Cx}
theorem zm2{F:Addr}{i:Nat}{x:Str}{ps:List Str}{k j:Nat}{pos pos':Pos}{e:Expr}{es:List Expr}{t:TA}{q:PN}(L:LamOk X.prog X.w X.K X.mg X.base k ps F q X.s₀ X.H₀)(hr:Room j X.A)(hk:k<=j)(hv:PE X (.Name x pos') (zn3 i))(ha:PA X (e :: es) t)
  (hex:X.ex=[]:=by rfl) (q1:starEach (e :: es) X.env=(false,eval e X.env) :: starEach es X.env:=by rfl) (q2:((backTo pos (starEach es X.env)).any fun x=>x.fst)=false:=by rfl):PE X (.Call (.Name x pos') (e :: es) [] pos) (zq7 i F (spN ps q) t):=by
 obtain⟨oc,od,fd,sl,hF⟩:=L.at_;have hat:∀ {zn σ H s},Inv X zn σ H s->W.FnAt F s.heap:=fun {zn σ H s} I=>by
  have e1:=I.base.frzs _ _ _ hF;obtain⟨g,_⟩:=(show ObjOk X.prog X.w H s.heap F (.frz _ (.own 0)) from I.hok _ _ e1);exact⟨oc,od,fd,sl,g⟩
 intro zn s σ H Q I h;obtain⟨hs,h⟩:=h;refine wpAny_Call_Name_kw (thn (hv zn s σ H (fun v H1=>v=.ref F/\zkP (spN ps q) [] E0 t σ H1 Q) I ⟨_,hs,rfl,h⟩) fun u s1 ⟨v,H1,I1,rx,ex,q⟩=>?_);subst ex;obtain rfl:u=Value.ref F:=rx;refine W.callWith_F (hat I1) (thn (ha pos zn s1 σ H1 _ I1 q) fun us s2 ⟨vs,H2,I2,r,q3⟩=>⟨hat I2,?_⟩) q1 q2;replace q3:spN ps _ (vs++[]) H2 Q E0:=q3;rw [append_nil] at q3;have U:=I2.base;rw [hex] at U;refine wpAny_call (codeAny_mono (L.run X.A X.stack s2 H2 us vs Q (hr.mono hk) I2.env0 ⟨_,U⟩ r q3) fun r' s' z=>?_);cases r' with
 | error e=>exact z.elim
 | ok fl =>
  cases fl with
  | ret u'=>exact I2.after z
  | next=>exact z.elim
  | brk=>exact z.elim
  | cont=>exact z.elim
end
structure FnOkG(P:Program)(w:World)(K:W.Frag)(mg:Str->Option Value)(base:Heap)(k:Nat)(f:Addr)(fd:FuncData)(ps:List Str)(G:Shared->Hp->Prop)(sp:Sp):Prop where
 len:∀ vs H Q E,sp vs H Q E->vs.length=ps.length
 run:∀ (A:Around) (outer:List Env) (s:Shared) (H:Hp) (args:Args) (us:List Value) (vs:List V) (Q:VK) (E:XK),Room k A->Env0 P w K mg base A outer s H->BindsTo s fd args (ps.zip us)->Vals vs us->G s H->sp vs H Q E ->
  codeAny (model P w) A (.call (.ref f) args) (CR CX0 outer P w H s Q E) s
structure DfH(P:Program)(w:World)(K:W.Frag)(mg:Str->Option Value)(base:Heap)(x:Str)(ps:List Str)(k kl:Nat)(pl:List Str)(qc:Addr->PN->PN):Prop where
 ex:∃ f fd,(∀ F q,FnOkG P w K mg base k f fd ps (LamOk P w K mg base kl pl F q) (spN ps (qc F q)))/\mg x=some (.ref f)/\W.keepIn K (.ref f)=true/\Binds K fd ps []
theorem ztW{P:Program}{w:World}{K:W.Frag}{mg:Str->Option Value}{base:Heap}{k:Nat}{f:Addr}{name qual:Str}{params:Arguments}{body:List Stmt}{scope:Scope}{dV kV doc pm cdv ct oc:Value}{an od:Option Addr}{G:Shared->Hp->Prop}
  {osl:Array (Option Value)} {N ps:List Str} {sp:Sp} (lk:K.lookup f=some ⟨oc,od,.func (W.fnOf name qual params body scope dV kV doc pm an cdv ct),osl⟩) (hcd:W.codeIn K cdv qual=true) (S:FnScope N ps scope)
  (len:∀ vs H Q E,sp vs H Q E->vs.length=ps.length)
  (hbody:∀ (A:Around) (outer:List Env) (s:Shared) (H:Hp) (vs:List V) (Q:VK) (E:XK),Room k (A.deeper (envOfC qual scope s.heap.objs.size f cdv))->G s H->sp vs H Q E ->
   ∃ t,PSs (zk2 CX0 P w K mg base N qual scope f cdv A outer s H E) body t/\t { nx:=fun _ H'=>Q .non H',rt:=Q } (start N vs) H) :
  FnOkG P w K mg base (k+1) f (W.fnOf name qual params body scope dV kV doc pm an cdv ct) ps G sp:=by
 refine⟨len,fun A outer s H args us vs Q E hr e0 hb r hG hsp=>?_⟩;have hl:=len _ _ _ _ hsp;have KX:K.In s.heap:=e0.mod.kin.keeps fun b o e=>(e0.bs b o e).1;have lim:s.heap.NoLimit:=e0.mod.nolimit.keeps fun b o e=>(e0.bs b o e).1;have hkind:∀ y∈ps.zip us,scope.names.lookup y.1=some .local\/(scope.names.lookup y.1=some .cell/\((cellsFrom (s.heap.objs.size+1) scope.names []).lookup y.1).isSome=true):=fun⟨n,v⟩ hy=>by
  rcases S.par n (of_mem_zip hy).1 with q | q
  ·exact .inl q
  ·exact .inr ⟨q,W.cellsFrom_some _ _ _ (.inl q)⟩
 refine codeAny_call_function hr.depth (KX _ _ lk) rfl S.co S.gen rfl (W.codeRec_of KX hcd) (hb _ _ _ _ ?_);refine wpAny_newFunctionEnv_cells S.kind hkind fun env he s1 x=>?_;subst he;refine⟨lim.keeps x.toInCall.keep,codeAny_func ?_⟩;obtain⟨t,ht,hq⟩:=hbody A outer s H vs Q E (hr.deeper _) hG hsp;have I:Inv (zk2 CX0 P w K mg base N qual scope f cdv A outer s H E) [] (start N vs) H s1:=zkf S hr.hd e0 hl r x;refine wpAny_mono (ht [] s1 (start N vs) H _ I hq) (fun fl s' hs=>?_) fun e s' hs=>hs;have fin:∀ {σ':St} {H':Hp} {v:V} {u:Value},Inv (zk2 CX0 P w K mg base N qual scope f cdv A outer s H E) [] σ' H' s'->RelV v u->Q v H'->CE outer P w H s Q u s' :=
  fun {σ' H' v u} J rv q=>⟨v,H',J.os,J.bare,J.base,J.hok,rv,q⟩
 cases fl with
 | ret u =>
  obtain⟨v,σ',H',J,rv,q⟩:=hs;exact fin J rv q
 | next =>
  obtain⟨σ',H',J,q⟩:=hs;exact fin (v:=V.non) (u:=Value.none) J rfl q
 | brk =>
  obtain⟨_,_,_,q⟩:=hs;exact False.elim q
 | cont =>
  obtain⟨_,_,_,q⟩:=hs;exact False.elim q
section
variable {P:Program} {w:World} {K:W.Frag} {mg:Str->Option Value} {base:Heap} {x:Str} {st:Stmt} {N ps pl:List Str} {k kl:Nat}
theorem zuP{qc:Addr->PN->PN}(D:Dd K mg x st ps)(S:FnScope N ps (zi st))(n:Nat)(hn:N.length=ps.length+n)
  (hbody:∀ (F:Addr) (ql:PN) (f:Addr) (cdv:Value) (A:Around) (outer:List Env) (s:Shared) (H:Hp) (E:XK),Room k (A.deeper (envOfC x (zi st) s.heap.objs.size f cdv))->LamOk P w K mg base kl pl F ql s H ->
   ∃ t dt,PSs (zk2 CX0 P w K mg base N x (zi st) f cdv A outer s H E).nox (zbL st) t/\RS t dt/\∀ xs S R,qc F ql xs S R->dt (zbC S.length R) (xs.map some++List.replicate n none) S):DfH P w K mg base x ps (k+1) kl pl qc:=by
 obtain⟨f,fd,F,hm,hb⟩:=D.ex;have kp:=F.kp;obtain⟨oc,od,kV,doc,pm,an,cdv,ct,osl,rfl,lk,hcd⟩:=F.ex;refine⟨f,_,fun Fl ql=>ztW lk hcd S (fun vs H Q E h=>h.1) fun A outer s H vs Q E hr hG ⟨hl,h,o,S',xs,R,hs',hx,hq,c⟩=>?_,hm,kp,hb⟩;obtain⟨t,dt,h1,h2,h3⟩:=hbody Fl ql f cdv A outer s H E hr hG;refine⟨t,h1.nox,h2 h o H _ _ S' _ _ ?_ hs' (h3 xs S' R hq) (eok hs' c)⟩;have e:N.length - vs.length=n:=by omega
 unfold start;rw [e];exact zei hx
end
def LamFz(X:Cx)(params:Arguments)(body:Expr)(scope:Scope)(H:Hp)(F:Addr):Prop:=∃ pm c' ctv,H F=some (.frz (zjr (X.env.qual ++ "<lambda>") params body scope (zkB X.env scope.names []) pm c' ctv) (.own 0))/\CodeFz H c' (X.env.qual ++ "<lambda>")
def zwA(X:Cx)(params:Arguments)(body:Expr)(scope:Scope):TE:=fun σ H Q=>∀ F H',Same H H'->LamFz X params body scope H' F->Q (.ref F) H'
def zrR(X:Cx)(params:Arguments)(body:Expr)(scope:Scope)(ks:List Nat)(qc:Addr->PN->PN)(db:DE)(ps:List Str)(t:TA):TE:=fun σ H Q=>t σ H fun vs H1 =>
 ∃ F cds cs,LamFz X params body scope H1 F/\ks.map (fun i=>(σ[i]?).join)=cs.map some/\HasL (vi H1) cds cs/\spN ps (qc F (zty db cds)) vs H1 Q E0
section
variable {X:Cx} {dsc scope:Scope} {L kl k j:Nat} {pl caps ps:List Str} {ks:List Nat} {params:Arguments} {body:Expr} {c P:Addr} {lp pos pos':Pos} {x:Str} {qc:Addr->PN->PN} {e:Expr} {es:List Expr} {t:TA} {tb:TE} {db:DE}
theorem ztB(hT:((c,P),lamKey (X.env.qual ++ "<lambda>") lp)∈tabsG)(hcode:X.env.code=.ref c)(hd:X.env.scope=dsc)(hc:X.env.cells=cellsFrom L dsc.names [])(hl:zhy X.N dsc.names scope pl caps ks=true)(hdf:defaultsOf params X.env=([],[])):
  PE X (.Lambda params body scope lp) (zwA X params body scope):=by
 intro zn s σ H Q I h;exact W.kla_eval hdf (zqP I hcode hT (zlt hd hc hl) fun f c' ctv pm H2 s2 I2 sm nf hf hcf=>⟨.ref f,H2,I2,rfl,h f H2 sm ⟨pm,c',ctv,hf,hcf⟩⟩)
theorem zpS(D:DfH X.prog X.w X.K X.mg X.base x ps k (kl+1) pl qc)(hr:Room j X.A)(hk:k<=j)(hd:X.env.scope=dsc)(hc:X.env.cells=cellsFrom L dsc.names [])(hk1:scope.kind=.function)(hco:scope.isCoroutine=false)(hgn:scope.isGenerator=false)(hl:zhy X.N dsc.names scope pl caps ks=true)
  (hbind:∀ cl pm c' ctv (us:List Value),us.length=pl.length->bindArgs (W.kla_fn "<lambda>" (X.env.qual ++ "<lambda>") params body scope cl pm (.ref c') ctv) ⟨us,[]⟩=pure (pl.zip us))
  (hb:∀ cl f c' A outer s H,Room kl (A.deeper (W.envX (X.env.qual ++ "<lambda>") scope s.heap.objs.size f (.ref c') cl))->PE (cxL X.prog X.w X.K X.mg X.base (pl++caps) (X.env.qual ++ "<lambda>") scope cl f (.ref c') A outer s H) body tb) (hdb:RE tb db)
  (ha:PA X (e :: es) t) (hg:Gl X x:=by rfl) (hdg:(x == ("__debug__":Str))=false:=by decide)
  (q1:starEach (e :: es) X.env=(false,eval e X.env) :: starEach es X.env:=by rfl) (q2:((backTo pos (starEach es X.env)).any fun x=>x.fst)=false:=by rfl) :
  PE X (.Call (.Name x pos') (e :: es) [] pos) (zrR X params body scope ks qc db ps t):=by
 obtain⟨f,fd,Fo,hm,kp,hbi⟩:=D.ex;intro zn s σ H Q I h;refine wpAny_Call_Name_kw (zle I hg hm ?_ hdg);refine W.callWith_K (h₀:=X.base) I.ok.mod.kin kp (thn (ha pos zn s σ H _ I h) fun us s1 ⟨vs,H1,I1,r,F,cds,cs,⟨pm,c',ctv,hf,hcf⟩,hcs,him,hq⟩=>⟨I1.kIn,?_⟩) q1 q2;have hlen:us.length=ps.length:=by rw [<- r.length]; exact hq.1
 have bd:=hbi s1 us I1.kIn (by rw [append_nil]; exact hlen);rw [append_nil] at bd;have LO:LamOk X.prog X.w X.K X.mg X.base (kl+1) pl F (zty db cds) s1 H1:=zqZ (zk0 (X:=X) hk1 hco hgn hl) hf hcf (fun us hu=>hbind _ _ _ _ us hu) (zqa I1 hd hc hl hcs) (fun A outer s H hr=>hb _ _ _ A outer s H hr) hdb him;refine wpAny_call (codeAny_mono ((Fo F _).run X.A X.stack s1 H1 ⟨us,[]⟩ us vs Q E0 (hr.mono hk) I1.env0 bd r LO hq) fun r' s' z=>?_);cases r' with
 | error e=>exact False.elim z
 | ok fl =>
  cases fl with
  | ret u=>exact I1.after z
  | next=>exact False.elim z
  | brk=>exact False.elim z
  | cont=>exact False.elim z
end
def ziz(ks:List Nat)(qc:Addr->PN->PN)(db de:DE):DE:=fun δ S R=>de δ S fun x S1=>∃ (d:PyData) (cds:List PyData),x=.d d/\ks.map (fun i=>(δ[i]?).join)=cds.map (fun d=>some (XV.d d))/\ImL cds=true /\
 ∀ F,qc F (zty db cds) [.d d,.o (.ref F)] [] (ret0 S1 R)
theorem zpy{X:Cx}{params:Arguments}{body:Expr}{scope:Scope}{ks:List Nat}{qc:Addr->PN->PN}{db de:DE}{te:TE}{a b:Str}(h1:RE te de):RE (zrR X params body scope ks qc db [a,b] (zjJ te (zjJ (zwA X params body scope) zth))) (ziz ks qc db de):=fun h o H δ σ S R Q he hs q c =>
 h1 h o H δ σ S _ _ he hs q fun o1 H1 S1 x v e1 s1 x1 ⟨d,cds,ex,hcs,him,hq⟩=>by
  subst ex;intro F H2 sm hfz;have ex2:Ex o1 H1 o1 H2:=Ex.of_same sm;have s2:=s1.same sm;have hcs':ks.map (fun i=>(δ[i]?).join)=(cds.map XV.d).map some:=by rw [hcs,map_map]; rfl
  obtain⟨cvs,hcv,hx⟩:=zjv ((he.mono e1).mono ex2) hcs';refine⟨F,cds,cvs,hfz,hcv,HasL.im _ _ him (znk hx),rfl,h++o1,[],[],[.d d,.o (.ref F)],_,rep0 s2,⟨v,[.ref F],rfl,hx0 (x1.mono ex2),.ref F,[],rfl,rfl,rfl⟩,hq F,cn0 s2 (c.pre (e1.trans ex2))⟩
end L2
namespace L2
open PySem PySem.Spec PySem.Calls PyProof.Rows
end L2
namespace HT
open PySem PyProof.Rows
end HT
namespace L2
open PySem PySem.Spec PyProof.Rows
section
theorem lo{sc:Scope}{x:Str}(h:sc.names.lookup x=some .local:=by rfl):Loc sc x:=Or.inl h
theorem fsd{N P:List Str}{sc:Scope}(h:zvW N P sc=true:=by decide +kernel):FnScope N P sc:=fsc h
end
end L2
namespace L2
open PySem PySem.Spec PySem.Calls PyProof.Rows
end L2
namespace L2
open PySem PySem.Spec PyProof.Rows
section
def frT:List (List Key×V)->HO
 | []=>.dK []
 | p :: m=>.dT (p :: m)
section
variable {X:Cx} {zn:List (Addr×Obj)} {σ:St} {H:Hp} {s:Shared} {a:Addr} {m:List (List Key×V)}
theorem zuE{P:Program}{w:World}{H H':Hp}{h:Heap}{a:Addr}(q:ObjOk P w H h a (.dT [])):ObjOk P w H' h a (.dK []):=by
 obtain⟨z,y,xs,r,o,es,ep,h1,h2,h3,h4,h5⟩:=q;cases r;have he:es = #[]:=by
  apply Array.toList_inj.mp;rw [h4];rfl
 subst he;exact⟨z,y,[],.nil,o,_,ep,h1,h2,h3,fun e m=>(by simp at m),.nil,nodup_nil⟩
theorem Inv.fzT(I:Inv X zn σ H s)(e:H a=some (.dT m)):∃ ob,Inv X zn σ (upd H a (.frz ob (frT m))) s:=by
 have q:=(show ObjOk X.prog X.w H s.heap a (.dT m) from I.hok a _ e);obtain⟨_,_,xs,_,ob,es,ep,h1,_⟩:=id q;refine⟨ob,I.write (x:=a) (e:=a) (o:=.frz ob (frT m)) (h':=s.heap) (t':=s.toks) (by rw [e]; exact True.intro) (.inl rfl) (fun b v _ z=>z) ⟨ob,h1⟩ ?_⟩;cases m with
 | nil=>exact⟨h1,zuE q⟩
 | cons p m =>
  refine⟨h1,?_⟩;obtain⟨z,y,xs,r,rest⟩:=q;exact⟨z,y,xs,KT.keeps r fun b ys eb=>by rw [zS (fun z=>by rw [z,e] at eb; cases eb)]; exact eb,rest⟩
def zsv(i:Nat)(t:TS):TS:=fun D σ H=>t { D with nx:=fun σ' H'=>∃ a m,σ'[i]? = some (some (.ref a))/\H' a=some (.dT m)/\∀ ob,D.nx σ' (upd H' a (.frz ob (frT m))) } σ H
theorem zuR{i:Nat}{st:Stmt}{t:TS}(h:PS X st t):PS X st (zsv i t):=fun zn s σ H D I hw =>
 thn (h zn s σ H _ I hw) fun f s1 q=>by
  cases f with
  | next =>
   obtain⟨σ1,H1,I1,a,m,e1,e2,q⟩:=q;obtain⟨ob,J⟩:=I1.fzT e2;exact⟨σ1,_,J,q ob⟩
  | brk=>exact q
  | cont=>exact q
  | ret v=>exact q
end
def FzT(H:Hp)(a:Addr)(m:List (List Key×V)):Prop:=∃ ob,H a=some (.frz ob (frT m))
theorem zq5:∀ {a b:List Key},a.map kD=b.map kD->a=b
 | [],[],_=>rfl
 | [],_ :: _,e=>by cases e
 | _ :: _,[],e=>by cases e
 | x :: a,y :: b,e=>by
  rw [map_cons,map_cons] at e;injection e with e1 e2
  rw [zr3 e1,zq5 e2]
theorem zlO{H:Hp}:∀ {m:List (List Key×PyData)} {m':List (List Key×V)},HasM H m m'->HasV H (m.map fun p=>(.tuple (p.1.map kD),p.2)) (m'.map (·.2))/\m'.map (fun p=>PyData.tuple (p.1.map kD))=m.map (fun p=>PyData.tuple (p.1.map kD))
 | [],m',h=>by
  rw [show m'=[] from h];exact⟨rfl,rfl⟩
 | p :: r,m',h=>by
  obtain⟨v,t,rfl,q,l⟩:=h;obtain⟨z1,z2⟩:=zlO l;exact⟨zfa.mpr ⟨v,_,rfl,q,z1⟩,by rw [map_cons,map_cons,z2]⟩
theorem zlq{H:Hp}:∀ {m:List (List Key×PyData)} {m':List (List Key×V)},HasV H (m.map fun p=>(.tuple (p.1.map kD),p.2)) (m'.map (·.2))->m.map (fun p=>PyData.tuple (p.1.map kD))=m'.map (fun p=>PyData.tuple (p.1.map kD))->HasM H m m'
 | [],[],_,_=>rfl
 | [],_ :: _,_,e=>by simp at e
 | _ :: _,[],_,e=>by simp at e
 | p :: r,q :: t,h,e=>by
  rw [map_cons,map_cons] at h;obtain⟨v,s,e1,e2,e3⟩:=zfa.mp h;rw [List.cons.injEq] at e1;rw [map_cons,map_cons,List.cons.injEq] at e;have z:=zq5 (PyData.tuple.inj e.1);obtain⟨q1,q2⟩:=q;refine⟨q2,t,by rw [z],?_,zlq (by rw [e1.2]; exact e3) e.2⟩;have z1:q2=v:=e1.1;rw [z1];exact e2
theorem zpk{H:Hp}{m:List (List Key×PyData)}{v:V}:Has H (.dict (DD.pairs (.t m))) v↔∃ a m',v=.ref a/\FzT H a m'/\HasM H m m':=by
 rw [zgh];constructor
 ·rintro⟨a,vs,rfl,⟨ob,m',e,e1,e2⟩ | ⟨ob,p,m',e,e1,e2⟩,l⟩
  ·cases m with
   | nil =>
    cases m' with
    | nil=>exact⟨a,[],rfl,⟨ob,e⟩,rfl⟩
    | cons p m'=>cases e1
   | cons q r =>
    cases m' with
    | nil=>cases e1
    | cons p m' =>
     have z:=congrArg List.head? e1;simp only [DD.pairs,map_cons,List.head?_cons,Option.some.injEq] at z;cases h:p.1 <;> rw [h] at z <;> cases z
  ·subst e2;refine⟨a,p :: m',rfl,⟨ob,e⟩,zlq l ?_⟩;rw [<- e1];simp [DD.pairs]
 ·rintro⟨a,m',rfl,⟨ob,e⟩,l⟩;obtain⟨z1,z2⟩:=zlO l;cases m' with
  | nil =>
   cases m with
   | nil=>exact⟨a,[],rfl,.inl ⟨ob,[],e,rfl,rfl⟩,z1⟩
   | cons p m=>simp at z2
  | cons p m'=>exact⟨a,_,rfl,.inr ⟨ob,p,m',e,by rw [z2]; simp [DD.pairs],rfl⟩,z1⟩
def zol(a:Addr)(m:List (List Key×PyData)):XV->XV
 | .o (.ref b)=>if b=a then .d (.dict (DD.pairs (.t m))) else .o (.ref b)
 | x=>x
theorem zsj{h h' o:List Addr}{H H':Hp}{a:Addr}{m:List (List Key×PyData)}{m':List (List Key×V)}{ob:Obj}(s:Same (vx h o H) (vx h' o H'))(e:vx h' o H' a=some (.frz ob (frT m')))(l:HasM (vx h o H) m m'):∀ {x:XV} {v:V},HasX h o H x v->HasX h' o H' (zol a m x) v
 | .d d,v,z=>Has.mono s d v z
 | .l k,v,z=>z
 | .x C fs,v,z=>HasE.mono s z
 | .o w,v,z=>by
  cases w with
  | ref b =>
   unfold zol;dsimp only;split
   ·rename_i eb;subst eb;rw [show v=.ref b from z];exact zpk.mpr ⟨b,m',rfl,⟨ob,e⟩,l.mono s⟩
   ·exact z
  | _=>exact z
theorem zpu{h h' o:List Addr}{H H':Hp}{a:Addr}{m:List (List Key×PyData)}{m':List (List Key×V)}{ob:Obj}{δ:XE}{σ:St}(s:Same (vx h o H) (vx h' o H'))(e:vx h' o H' a=some (.frz ob (frT m')))(l:HasM (vx h o H) m m')(r:RepE h o H δ σ):RepE h' o H' (δ.map (Option.map (zol a m))) σ:=by
 refine⟨by rw [length_map]; exact r.len,fun i x ex=>?_⟩;rw [getElem?_map] at ex;cases hd:δ[i]? with
 | none=>rw [hd] at ex; cases ex
 | some y =>
  rw [hd] at ex;cases y with
  | none=>cases ex
  | some y =>
   cases ex;obtain⟨v,e1,e2⟩:=r.get i y hd;exact⟨v,e1,zsj s e l e2⟩
def zmn(i:Nat)(b:DSm):DSm:=fun En δ S M=>∀ a,a∉ad M->b { nx:=(fun δ' S' M'=>∃ M1 m,M'=M1++[(a,.t m)]/\δ'[i]? = some (some (.o (.ref a)))/\En.nx (δ'.map (Option.map (zol a m))) S' M1),rt:=(fun x S' M'=>∃ M1 D,M'=M1++[(a,D)]/\En.rt x S' M1),bk:=(fun δ' S' M'=>∃ M1 D,M'=M1++[(a,D)]/\En.bk δ' S' M1),ct:=(fun δ' S' M'=>∃ M1 D,M'=M1++[(a,D)]/\En.ct δ' S' M1) } (δ.set i (some (.o (.ref a)))) S (M++[(a,.t [])])
section
variable {E:XK} {EX:EXD} {tb:TS} {db:DSm} {i:Nat}
theorem zpt(hb:RSm E EX tb db){h o0:List Addr}{H0:Hp}{o:List Addr}{H:Hp}{δ:XE}{σ:St}{S:Sto}{M:DM}{En:DEndsM}{D:Ends}(e0:Ex o0 H0 o H)(fr:Fr H0 M)(he:RepE (h++ad M) o H δ σ)(hs:RepS (h++ad M) o H S)(rm:RepM h o H M)
  (q:zmn i db En δ S M) (c:EOkM h o0 H0 (ad M) En D) (x:CnX h o0 H0 EX E) (p:Addr) (hp:H p=none):zsv i tb D (σ.set i (some (.ref p))) (upd H p (.dT [])):=by
 have nM:p∉ad M:=fun m=>by
  obtain⟨D2,_,z⟩:=rm.at m;obtain⟨w,ew⟩:=z.mo;rw [hp] at ew;cases ew
 have f1:=hs.fresh hp;have nh:p∉h:=fun m=>f1.1 (mem_append_left _ m);have sH:Same H (upd H p (.dT [])):=Same.laid hp;have e1:Ex o0 H0 o (upd H p (.dT [])):=e0.trans (Ex.of_same sH);have H0p:H0 p=none:=by
  cases z:H0 p with
  | none=>rfl
  | some w =>
   by_cases m:p∈o0
   ·obtain⟨r,er⟩:=e0.pre;exact absurd (show p∈o by rw [er]; exact mem_append_left _ m) f1.2
   ·have:=(e0.kp p w m z).2;rw [hp] at this;cases this
 have sv:Same (vx (h++ad M) o H) (vx (h++(ad M++[p])) o (upd H p (.dT []))):=fun b w z=>by
  obtain⟨z1,z2,z3⟩:=zaj.mp z;have ne:b≠p:=zY z3 hp;refine zaj.mpr ⟨fun m=>?_,z2,by rw [zS ne]; exact z3⟩;rw [<- append_assoc] at m;rcases mem_append.mp m with m | m
  ·exact z1 m
  ·exact ne (mem_singleton.mp m)
 have sM:RepS (h++ad (M++[(p,(.t []))])) o (upd H p (.dT [])) S:=by
  rw [zaH];refine⟨hs.len,hs.nd,fun a ma z=>?_,fun b mb=>?_,fun k b ds e1 e2=>?_⟩
  ·rw [<- append_assoc] at z;rcases mem_append.mp z with z | z
   ·exact hs.dis a ma z
   ·rw [mem_singleton.mp z] at ma;exact f1.2 ma
  ·rw [<- append_assoc] at mb;rcases mem_append.mp mb with m | m
   ·obtain⟨w,ew⟩:=hs.hal b m;exact⟨w,sH _ _ ew⟩
   ·rw [mem_singleton.mp m];exact⟨.t [],zaA⟩
  ·obtain⟨vs,e3,l⟩:=hs.cont k b ds e1 e2;exact⟨vs,sH _ _ e3,HasL.mono sv _ _ l⟩
 have mM:RepM h o (upd H p (.dT [])) (M++[(p,(.t []))]):=by
  refine⟨by rw [zaH]; exact zc3 rm.nd nM,fun a ma=>?_,fun a D2 m=>?_⟩
  ·rw [zaH] at ma;rcases mem_append.mp ma with m | m
   ·exact rm.nh a m
   ·rw [mem_singleton.mp m];exact⟨nh,f1.2⟩
  ·rw [zaH];rcases mem_append.mp m with m | m
   ·exact(rm.ct a D2 m).mono sv fun w z=>sH _ _ z
   ·have:=mem_singleton.mp m;cases this;exact⟨[],zaA,rfl⟩
 have hE:RepE (h++ad (M++[(p,(.t []))])) o (upd H p (.dT [])) (δ.set i (some (.o (.ref p)))) (σ.set i (some (.ref p))):=by
  rw [zaH];exact(he.to sv).set (show HasX _ _ _ (.o (.ref p)) (.ref p) from rfl)
 have fr1:Fr H0 (M++[(p,(.t []))]):=fun a ma=>by
  rw [zaH] at ma;rcases mem_append.mp ma with m | m
  ·exact fr a m
  ·rw [mem_singleton.mp m]; exact H0p
 have back:∀ {N:XE->Sto->DM->Prop} {Y:St->Hp->Prop},NxM h o0 H0 (ad M) N Y->NxM h o0 H0 (ad (M++[(p,(.t []))])) (fun δ' S' M'=>∃ M1 D,M'=M1++[(p,D)]/\N δ' S' M1) Y:=fun {N Y} nx o' H' δ' S' M' σ' ex ea hE' hS' hM' ⟨M1,D2,eM,n⟩=>by
  subst eM;rw [zaH,zaH] at ea;rw [zaH,<- append_assoc] at hE' hS';exact nx o' H' _ S' M1 σ' ex (List.append_inj_left' ea rfl) (hE'.to zix) hS'.less hM'.init n
 have ret:∀ o' H' S' M' y v,Ex o0 H0 o' H'->ad M'=ad (M++[(p,(.t []))])->RepS (h++ad M') o' H' S'->RepM h o' H' M'->HasX (h++ad M') o' H' y v->(∃ M1 D,M'=M1++[(p,D)]/\En.rt y S' M1)->D.rt v H':=by
  rintro o' H' S' M' y v ex ea hS' hM' hx' ⟨M1,D2,eM,n⟩;subst eM;rw [zaH,zaH] at ea;rw [zaH,<- append_assoc] at hx' hS';exact c.rt o' H' S' M1 _ v ex (List.append_inj_left' ea rfl) hS'.less hM'.init hx'.less n
 have qq:=q p nM;refine hb h o0 H0 o _ _ _ S (M++[(p,(.t []))]) _ { D with nx:=fun σ' H'=>∃ a m,σ'[i]? = some (some (.ref a))/\H' a=some (.dT m)/\∀ ob,D.nx σ' (upd H' a (.frz ob (frT m))) } e1 fr1 hE sM mM qq ⟨?_,ret,back c.bk,back c.ct⟩ x;intro o' H' δ' S' M' σ' ex ea hE' hS' hM' n;obtain⟨M1,m,eM,ei,n2⟩:=n;subst eM;obtain⟨v,ev,hv⟩:=hE'.get i _ ei;have evp:v=.ref p:=hv;subst evp;have nn:=hM'.nh p (by rw [zaH]; simp);have nd:=hM'.nd;rw [zaH,zaH] at ea;rw [zaH] at nd;have pn:p∉ad M1:=fun m=>(nodup_append.mp nd).2.2 p m p (by simp) rfl;obtain⟨m',em,l⟩:=hM'.ct p (.t m) (by simp);refine⟨p,m',ev,em,fun ob=>?_⟩;have np:p∉h++ad M1:=fun z=>(mem_append.mp z).elim nn.1 pn;have s2:Same (vx (h++ad (M1++[(p,DD.t m)])) o' H') (vx (h++ad M1) o' (upd H' p (.frz ob (frT m')))):=fun b w z=>by
  obtain⟨z1,z2,z3⟩:=zaj.mp z;rw [zaH,<- append_assoc] at z1;have ne:b≠p:=fun z=>z1 (by rw [z]; simp);exact zaj.mpr ⟨fun mm=>z1 (mem_append_left _ mm),z2,by rw [zS ne]; exact z3⟩
 refine c.nx o' _ _ S' M1 σ' ⟨ex.pre,fun b w nb zb=>?_⟩ (List.append_inj_left' ea rfl) (zpu s2 (zaj.mpr ⟨np,nn.2,zaA⟩) l hE') ?_ ?_ n2
 ·obtain⟨z1,z3⟩:=ex.kp b w nb zb;exact⟨z1,by rw [zS (fun z=>by rw [z,H0p] at zb; cases zb)]; exact z3⟩
 ·refine⟨hS'.len,hS'.nd,fun a ma z=>hS'.dis a ma (by rw [zaH,<- append_assoc]; exact mem_append_left _ z),fun b mb=>?_,fun k b ds q1 q2=>?_⟩
  ·obtain⟨w,ew⟩:=hS'.hal b (by rw [zaH,<- append_assoc]; exact mem_append_left _ mb);exact⟨w,by rw [zS (fun z=>np (by rw [<- z]; exact mb))]; exact ew⟩
  ·obtain⟨vs,q3,l3⟩:=hS'.cont k b ds q1 q2;exact⟨vs,by rw [zS (fun z=>nn.2 (by rw [<- z]; exact mem_of_getElem? q1))]; exact q3,HasL.mono s2 _ _ l3⟩
 ·have r1:=hM'.init;refine⟨r1.nd,r1.nh,fun b D3 mb=>?_⟩;have nb:b≠p:=fun z=>pn (by rw [<- z]; exact mem_map.mpr ⟨_,mb,rfl⟩);exact(hM'.ct b D3 (mem_append_left _ mb)).mono s2 fun w z=>by rw [zS nb]; exact z
theorem zlp(hb:RSm E EX tb db):RSm E EX (zoD (zuy zsd (zkW i)) (zsv i tb)) (zmn i db):=fun h o0 H0 o H δ σ S M En D e0 fr he hs rm q c x p hp =>
 zpt hb e0 fr he hs rm q c x p hp
end
def RdT(H:Hp)(a:Addr)(m:List (List Key×V)):Prop:=Rd H a (frT m)
theorem zt0{P:Program}{w:World}{H:Hp}{h:Heap}{a:Addr}{kvs:List (List Key×V)}(ok:HOk P w H h)(e:RdT H a kvs):(a == sysModules)=false/\∃ xs,KT H kvs xs/\h.DictOfH (tupleKind (zbb P w)) a xs:=by
 cases kvs with
 | nil =>
  obtain⟨_,y,vs,r,o,es,ep,h1,h2,h3,h4,h5,_⟩:=zqc ok e;cases r;have he:es.toList=[]:=by
   cases hq:es.toList with
   | nil=>rfl
   | cons x r=>rw [hq] at h5; cases h5
  exact⟨y,[],.nil,o,es,ep,h1,h2,h3,by rw [he]; rfl,fun x m=>(by cases m),nodup_nil⟩
 | cons p m =>
  obtain⟨_,y,r⟩:=zqK ok e;exact⟨y,r⟩
theorem zwf{H:Hp}{a:Addr}{m:List (List Key×V)}(e:RdT H a m):IsD H a:=by
 cases m with
 | nil=>exact .inl ⟨_,e⟩
 | cons p m=>exact .inr ⟨_,e⟩
def znG(td ty tx:TE):TE:=fun σ H Q=>td σ H fun x H1=>∃ a,x=.ref a/\(∃ m,RdT H1 a m)/\ty σ H1 fun y H2=>tx σ H2 fun z H3=>∃ m k b,RdT H3 a m/\y=.ref b/\H3 b=some (.tup (k.map kV))/\Q ((zlh m k).getD z) H3
section
variable {X:Cx} {o e f:Expr} {apos cpos:Pos} {td ty tx:TE}
theorem znE(hu:X.A.units+1<cLine)(ho:PE X o td)(he:PE X e ty)(hf:PE X f tx)(m:M2 X o "get" apos e f cpos):PE X (.Call (.Attribute o "get" apos) [e,f] [] cpos) (znG td ty tx):=by
 intro zn s σ H Q I h;refine wpAny_Call_method m.base m.few m.line PySem.F.plainAttrs_dict PySem.F.slot_dict_get PySem.F.type_dict_get (thn (ho zn s σ H _ I h) fun u s1 ⟨x,H1,I1,rx,a,ex,⟨mm,d⟩,q1⟩=>?_);subst ex;obtain rfl:u=Value.ref a:=rx;obtain⟨t1,t2,_⟩:=zr6 I1 (zwf d);refine⟨t1,t2,?_⟩;rw [m.trees];refine Calls.callWith_builtin rfl (Calls.evalArgs_plain (Calls.spliced_cons (thn (he zn s1 σ H1 _ I1 q1) fun iv s2 ⟨y,H2,I2,ry,q2⟩ =>
  Calls.spliced_cons (thn (hf zn s2 σ H2 _ I2 q2) fun fv s3 ⟨z,H3,I3,rz,kvs,k,b,e3,ey,eb,q3⟩=>Calls.spliced_nil ?_))))
 subst ey;cases (show iv=Value.ref b from ry);obtain⟨hd,xs,rel,dd⟩:=zt0 I3.hok e3;exact call_meetsIn PySem.F.slot_dict_get dd.typeIs PySem.F.entry_dict_get (PySem.F.args_dict_get_3 _ _ _) (meetsH_dict_get_default (tupleKind (zbb X.prog X.w)) a b hd fv) ⟨tupleKind_room_in1 hu,k,xs,zlX I3.hok eb,dd,⟨_,H3,I3.tok _,(rel.val k).getD rz,q3⟩⟩
end
def ziN(dd dy dx:DE):DE:=fun δ S R=>dd δ S fun x S1=>∃ m,x=.d (.dict (DD.pairs (.t m)))/\dy δ S1 fun y S2=>dx δ S2 fun z S3=>asD y fun k=>asD z fun dz=>∃ ks,znu k=some ks/\R (.d ((lkA m ks).getD dz)) S3
theorem zpO{H:Hp}:∀ {m:List (List Key×PyData)} {m':List (List Key×V)} (k:List Key),HasM H m m'->RelD H (lkA m k) (zlh m' k):=fun k l=>by
 rcases l.val k with ⟨z1,z2⟩ | ⟨d,u,z1,z2,z3⟩
 ·rw [z1]; exact z2
 ·rw [z1]; exact⟨u,z2,z3⟩
theorem zob{td ty tx:TE}{dd dy dx:DE}(hd:RE td dd)(hy:RE ty dy)(hx:RE tx dx):RE (znG td ty tx) (ziN dd dy dx):=fun h o H δ σ S R Q he hs q c =>
 hd h o H δ σ S _ _ he hs q fun o1 H1 S1 x v e1 s1 x1 ⟨m,ex,d1⟩=>by
  subst ex;obtain⟨a,m',rfl,⟨ob,fz⟩,l⟩:=zpk.mp (show Has _ _ v from x1);refine⟨a,rfl,⟨m',.inr ⟨ob,zao _ _ fz⟩⟩,hy h o1 H1 δ σ S1 _ _ (he.mono e1) s1 d1 fun o2 H2 S2 y u e2 s2 y2 d2=>hx h o2 H2 δ σ S2 _ _ ((he.mono e1).mono e2) s2 d2 fun o3 H3 S3 z t e3 s3 z3 d3=>?_⟩;replace d3:=zd9 d3;obtain⟨k,rfl,d3⟩:=d3;obtain⟨dz,rfl,ks,e,q⟩:=zd9 d3;obtain⟨a',m2,ea,⟨ob2,fz2⟩,l2⟩:=zpk.mp (show Has _ _ _ from x1.mono (e2.trans e3));cases ea;obtain⟨b,rfl,eb⟩:=ziK e (show Has _ _ _ from y2.mono e3);refine⟨m2,ks,b,.inr ⟨ob2,zao _ _ fz2⟩,rfl,zao _ _ eb,?_⟩;have rr:=zpO ks l2;cases hl:lkA m ks with
  | none =>
   rw [hl] at rr q;rw [show zlh m2 ks=none from rr];exact c o3 H3 S3 (.d dz) t ((e1.trans e2).trans e3) s3 z3 q
  | some d =>
   rw [hl] at rr q;obtain⟨r2,er,h2⟩:=rr;rw [er];exact c o3 H3 S3 (.d d) r2 ((e1.trans e2).trans e3) s3 h2 q
end
section
section
variable {prog:Program} {w:World} {A:Around} {E:Value->Shared->Prop} {s:Shared} {kd:SortKind} {D:Keyed->Prop} {lt:Keyed->Keyed->Bool}
open PySem.W
theorem zku:∀ (f n r M:Nat),r<=1->(n+1<=M\/r=0/\n<=M)->minRun' f n r<=M
 | 0,n,r,M,h,k=>by show n+r<=M; omega
 | f+1,n,r,M,h,k=>by
  rw [minRun'_succ];split
  ·omega
  ·exact zku f _ _ M (by omega) (.inl (by omega))
theorem zmu(O:LtOk prog w A E s kd D lt){a₀:Array Keyed}{lo:Nat}{st0 st:SortSt}{Q:Option Nat->SortSt->Prop}(h:Tb kd D a₀ lo st0 st)(h2:2<=a₀.size)(ha:∀ i,i+1<a₀.size->lt (G (arrOf st) (i+1)) (G (arrOf st) i)=false)(q:Q (some a₀.size) st):wpS (model prog w) A E s (countRun' 0 (a₀.size - 0)) Q st:=by
 rw [Nat.sub_zero];refine wpS_bind (wpS_mono (wpS_forRange (a:=1)
  (I:=fun k c st'=>st'=st/\c=(none,k))
  (Q:=fun c st'=>st'=st/\c=(none,a₀.size)) ?step ?fin ⟨rfl,rfl⟩) ?post)
 case fin =>
  rintro c st' ⟨rfl,rfl⟩;exact⟨rfl,by rw [Nat.max_eq_right (by omega)]⟩
 case step =>
  rintro k c st' hk1 hk2 ⟨rfl,rfl⟩;refine wpS_bind (zs7 O h (i:=0+k) (j:=0+k - 1) (by omega) (by omega) ?_);have e:=ha (k - 1) (by omega);rw [show k - 1+1=0+k by omega,show k - 1=0+k - 1 by omega] at e;rw [e];simp only [Bool.false_eq_true,if_false];exact wpS_pure ⟨rfl,rfl⟩
 case post =>
  rintro c st' ⟨rfl,rfl⟩;dsimp only;rw [if_pos (by simp)];exact wpS_pure q
theorem zoS(O:LtOk prog w A E s kd D lt){a₀:Array Keyed}{st:SortSt}{Q:Unit->SortSt->Prop}(h:Ts kd D a₀ st)(hp0:pendingOf st = #[])(h2:2<=a₀.size)(ha:∀ i,i+1<a₀.size->lt (G (arrOf st) (i+1)) (G (arrOf st) i)=false)
  (q:∀ st',Ts kd D a₀ st'->arrOf st'=arrOf st->Q () st'):wpS (model prog w) A E s sortRuns' Q st:=by
 rw [sortRuns'_eq];refine wpS_bind (wpS_get ?_);dsimp only;rw [h.size];have hmr:=zku a₀.size a₀.size 0 a₀.size (by omega) (.inr ⟨rfl,le_refl _⟩);generalize minRun' a₀.size a₀.size 0=mr at hmr;refine wpS_bind (wpS_mono (wpS_forRange (a:=0)
  (I:=fun k c st'=>k=0/\c=(none,0)/\st'=st\/c=(none,a₀.size)/\Ts kd D a₀ st'/\arrOf st'=arrOf st/\(pendingOf st').size=1)
  (Q:=fun c st'=>c=(none,a₀.size)/\Ts kd D a₀ st'/\arrOf st'=arrOf st/\(pendingOf st').size=1) ?step ?fin (.inl ⟨rfl,rfl,rfl⟩)) ?post)
 case fin =>
  rintro c st' (⟨hk,_⟩ | hh)
  ·omega
  ·exact hh
 case post =>
  rintro c st' ⟨rfl,hT,hA,hP⟩;dsimp only;refine wpS_bind (wpS_mono (wpS_forRange (a:=0)
   (I:=fun k c st2=>c=(none,())/\st2=st')
   (Q:=fun c st2=>c=(none,())/\st2=st') ?stepF (fun _ _ hh=>hh) ⟨rfl,rfl⟩) ?postF)
  case stepF =>
   rintro k c st2 _ hk ⟨rfl,rfl⟩;refine wpS_bind (wpS_get ?_)
   try dsimp only
   rw [if_pos (by omega)];exact wpS_pure ⟨rfl,rfl⟩
  case postF =>
   rintro c st2 ⟨rfl,rfl⟩;dsimp only;exact wpS_pure (q st2 hT hA)
 case step =>
  rintro k c st' _ hk (⟨rfl,rfl,rfl⟩ | ⟨rfl,hT,hA,hP⟩)
  ·dsimp only;rw [if_neg (by omega)];refine wpS_bind (zmu O (h.tb 0) h2 ha ?_);dsimp only;rw [if_neg (by omega)];refine wpS_bind (wpS_get ?_);rw [hp0]
   try dsimp only
   refine wpS_bind (wpS_modify (wpS_pure (.inr ⟨by rw [zero_add],⟨h.kd,h.fl,h.pm,h.d⟩,rfl,?_⟩)));show ((pendingOf st').push _).size=1;rw [hp0];rfl
  ·dsimp only;rw [if_pos (by omega)];exact wpS_pure ⟨rfl,hT,hA,hP⟩
theorem zi0{a:Addr}{vs:List Value}{n:Nat}{kd:SortKind}{lt:Keyed->Keyed->Bool}{P:PySem.Fin->Shared->Prop}(ho:s.heap.get? a=some (seqObj "list" vs.toArray n))(hz:vs.length<=10000000)
  (hkd:∀ h3,KeptBut a s.heap h3->∀ (Q:SortKind->Shared->Prop),2<=vs.length->Q kd { s with heap:=h3 }->wpAny (model prog w) A (keyKind' vs.toArray) Q E { s with heap:=h3 })
  (hO:∀ h3,KeptBut a s.heap h3->2<=vs.length->LtOk prog w A E { s with heap:=h3 } kd (fun x=>x.1=x.2/\x.1∈vs) lt) (hasc:vs.Pairwise fun x y=>lt (y,y) (x,x)=false)
  (h:∀ h' c,KeptBut a s.heap h'->h'.get? a=some (seqObj "list" vs.toArray c)->P (.done (.ret .none)) { s with heap:=h' }) :
  wpAny (model prog w) A (Builtin.«list.sort» ⟨[.ref a],[]⟩) P E s:=by
 have ha:a<s.heap.objs.size:=lt_size ho;have s1:=Heap.SameBut.update s.heap a (Obj.mapSeq fun _=>(#[]:Array Value));obtain⟨e1,ho1⟩:∃ e1,(s.heap.update a (Obj.mapSeq fun _=>(#[]:Array Value))).get? a=some (seqObj "list" #[] e1):=⟨_,get?_update_seq ho fun _=>#[]⟩;have keep:KeptBut a s.heap (((s.heap.update a (Obj.mapSeq fun _=>(#[]:Array Value))).push (seqObj "tuple" vs.toArray 0)).push (seqObj "list" #[] 0)):=fun b o nb e =>
  get?_push_of_some _ (get?_push_of_some _ ((s1.2 b nb).trans e))
 have ha3:(((s.heap.update a (Obj.mapSeq fun _=>(#[]:Array Value))).push (seqObj "tuple" vs.toArray 0)).push (seqObj "list" #[] 0)).get? a=some (seqObj "list" #[] e1):=get?_push_of_some _ (get?_push_of_some _ ho1);have eo:(vs.toArray.zip vs.toArray).map (·.2)=List.toArray vs:=by
  apply Array.toList_inj.mp;rw [Array.toList_map,Array.toList_zip,List.map_snd_zip (le_refl _)]
 rw [list_sort_plain];refine wpAny_bind (listItems_at ho rfl ?_);refine wpAny_bind (listUpdate_at ho rfl ?_ (by rw [size_toArray,sizeLine_eq]; omega) (zero_le _));refine wpAny_bind (seqEpoch_at ho1 rfl ?_);refine wpAny_bind (wpAny_newTuple ?_ (by show vs.length<=_; rw [sizeLine_eq]; omega));refine wpAny_bind (wpAny_newList ?_ (zero_le _));refine wpAny_holding ?_;show wpAny (model prog w) A _ P E { s with heap:=((s.heap.update a (Obj.mapSeq fun _=>(#[]:Array Value))).push (seqObj "tuple" vs.toArray 0)).push (seqObj "list" #[] 0) };generalize ((s.heap.update a (Obj.mapSeq fun _=>(#[]:Array Value))).push (seqObj "tuple" vs.toArray 0)).push (seqObj "list" #[] 0)=h3 at keep ha3 ⊢;dsimp only;have s2:=Heap.SameBut.update h3 a (Obj.mapSeq fun _=>List.toArray vs);obtain⟨c2,hc2⟩:∃ c2,(h3.update a (Obj.mapSeq fun _=>List.toArray vs)).get? a=some (seqObj "list" (List.toArray vs) c2):=⟨_,get?_update_seq ha3 fun _=>List.toArray vs⟩;have fin:=h _ c2 (fun b o nb e=>(s2.2 b nb).trans (keep b o nb e)) hc2;by_cases hn2:vs.toArray.size<2
 ·rw [if_pos hn2,if_pos hn2];refine wpAny_bind (wpAny_pure ?_);rw [StateT.run_pure];refine wpAny_bind (wpAny_pure ?_);dsimp only;rw [show (arrOf (SortSt.mk' general' (vs.toArray.zip vs.toArray) #[] 7 none)).map (·.2)=List.toArray vs from eo];refine wpAny_bind (seqEpoch_at ha3 rfl ?_);refine wpAny_bind (listUpdate_at ha3 rfl ?_ (zero_le _) (by show (List.toArray vs).size<=_; rw [size_toArray,sizeLine_eq]; omega));simp only [bne_self_eq_false,Bool.false_eq_true,if_false];exact wpAny_pure fin
 ·rw [if_neg hn2,if_neg hn2];rw [size_toArray] at hn2;refine wpAny_bind (hkd h3 keep _ (by omega) ?_);have O:=hO h3 keep (by omega);have hT:Ts kd (fun x:Keyed=>x.1=x.2/\x.1∈vs) (pairsOf vs) (SortSt.mk' kd (vs.toArray.zip vs.toArray) #[] 7 none):=⟨rfl,rfl,Array.Perm.refl _,fun x m=>by
   rw [pairsOf_toList] at m;exact mem_zip_self m⟩
  have hasc2:∀ i,i+1<(pairsOf vs).size->lt (G (arrOf (SortSt.mk' kd (vs.toArray.zip vs.toArray) #[] 7 none)) (i+1)) (G (arrOf (SortSt.mk' kd (vs.toArray.zip vs.toArray) #[] 7 none)) i)=false:=fun i hi=>by
   rw [pairsOf_size] at hi;have g:∀ j (hj:j<vs.length),G (vs.toArray.zip vs.toArray) j=(vs[j],vs[j]):=fun j hj=>by
    unfold G;rw [<- Array.getElem?_toList,Array.toList_zip,(getElem?_zip_eq_some (z:=(vs[j],vs[j]))).mpr ⟨by simp [hj],by simp [hj]⟩];rfl
   show lt (G (vs.toArray.zip vs.toArray) (i+1)) (G (vs.toArray.zip vs.toArray) i)=false;rw [g (i+1) hi,g i (by omega)];exact List.pairwise_iff_getElem.mp hasc i (i+1) (by omega) hi (by omega)
  refine wpAny_bind (wpAny_mono (zoS O (Q:=fun _ st'=>Ts kd (fun x:Keyed=>x.1=x.2/\x.1∈vs) (pairsOf vs) st'/\arrOf st'=vs.toArray.zip vs.toArray) hT rfl (by rw [pairsOf_size]; omega) hasc2 fun st' a1 a2=>⟨a1,a2⟩) ?_ fun _ _ e=>e);rintro⟨⟨⟩,st'⟩ s' ⟨rfl,hT',hS'⟩;dsimp only;rw [hS',eo];refine wpAny_bind (seqEpoch_at ha3 rfl ?_);refine wpAny_bind (listUpdate_at ha3 rfl ?_ (zero_le _) (by show (List.toArray vs).size<=_; rw [size_toArray,sizeLine_eq]; omega));rw [hT'.fl];simp only [bne_self_eq_false,Bool.false_eq_true,if_false];exact wpAny_pure fin
theorem zmZ{l:Addr}{vs:List Value}{kd:SortKind}{lt:Keyed->Keyed->Bool}{Q:Value->Shared->Prop}(hl:s.heap.IsList l vs.toArray)(hz:vs.length<=10000000)
  (hkd:∀ (A':Around) (E':Value->Shared->Prop) h3,(∀ b o,s.heap.get? b=some o->h3.get? b=some o)->∀ (Q:SortKind->Shared->Prop),2<=vs.length->Q kd { s with heap:=h3 }->wpAny (model prog w) A' (keyKind' vs.toArray) Q E' { s with heap:=h3 })
  (hO:∀ (A':Around) (E':Value->Shared->Prop) h3,(∀ b o,s.heap.get? b=some o->h3.get? b=some o)->2<=vs.length->LtOk prog w A' E' { s with heap:=h3 } kd (fun x=>x.1=x.2/\x.1∈vs) lt) (hasc:vs.Pairwise fun x y=>lt (y,y) (x,x)=false)
  (h:∀ D h' c,s.heap.objs.size<=D->(∀ b o,s.heap.get? b=some o->h'.get? b=some o)->h'.get? D=some (seqObj "list" vs.toArray c)->Q (.ref D) { s with heap:=h' }) :
  wpAny (model prog w) A (call (.builtin "sorted") [.ref l]) Q E s:=by
 refine Calls.call_function_entry kind_sorted plain_sorted entry_sorted (args_sorted1 _) ?_;unfold Builtin.«sorted»;refine wpAny_bind (m:=checkCount "sorted" 1 1 _) (wpAny_pure ?_);refine wpAny_bind (collect_list (vs:=vs) hl ?_ (by rw [sizeLine_eq]; omega));refine wpAny_bind (wpAny_newList ?_ (by show vs.length<=_; rw [sizeLine_eq]; omega));have hsz:((s.heap.push (seqObj "list" #[] 0)).update s.heap.objs.size (Obj.mapSeq (· ++ (vs.toArray:Array Value)))).objs.size=s.heap.objs.size+1:=by
  rw [Heap.size_update,size_push']
 have hoL:(((s.heap.push (seqObj "list" #[] 0)).update s.heap.objs.size (Obj.mapSeq (· ++ (vs.toArray:Array Value)))).push (seqObj "list" vs.toArray 0)).get? (s.heap.objs.size+1)=some (seqObj "list" vs.toArray 0):=by
  rw [<- hsz]; exact get?_push_size _ rfl
 have keep:∀ b o,s.heap.get? b=some o->(((s.heap.push (seqObj "list" #[] 0)).update s.heap.objs.size (Obj.mapSeq (· ++ (vs.toArray:Array Value)))).push (seqObj "list" vs.toArray 0)).get? b=some o:=fun b o q=>by
  have hlt:b<s.heap.objs.size:=lt_size q;rw [Heap.get?_push_ne _ _ _ (by rw [hsz]; exact ne_of_lt (lt_succ_of_lt hlt)),Heap.get?_update_ne _ _ _ _ (ne_of_lt hlt),Heap.get?_push_ne _ _ _ (ne_of_lt hlt)];exact q
 show wpAny _ _ _ _ _ { s with heap:=((s.heap.push (seqObj "list" #[] 0)).update s.heap.objs.size (Obj.mapSeq (· ++ (vs.toArray:Array Value)))).push (seqObj "list" vs.toArray 0) };rw [hsz];refine wpAny_bind (wpAny_holding (wpAny_call_entry slot_list_sort ⟨_,hoL,rfl⟩ entry_list_sort ?body (args_list_sort _)))
 case body =>
  refine zi0 (s:={ s with heap:=((s.heap.push (seqObj "list" #[] 0)).update s.heap.objs.size (Obj.mapSeq (· ++ (vs.toArray:Array Value)))).push (seqObj "list" vs.toArray 0) }) (kd:=kd) (lt:=lt) hoL hz (fun h3 k=>hkd _ _ h3 fun b o e=>k b o (ne_of_lt (lt_succ_of_lt (lt_size e))) (keep b o e)) (fun h3 k=>hO _ _ h3 fun b o e=>k b o (ne_of_lt (lt_succ_of_lt (lt_size e))) (keep b o e)) hasc fun h' c k1 k2=>?_;exact⟨_,rfl,wpAny_pure ⟨_,rfl,h _ h' c (le_succ _) (fun b o e=>k1 b o (ne_of_lt (lt_succ_of_lt (lt_size e))) (keep b o e)) k2⟩⟩
end
def zrE(K:W.Frag):List V->Hp->VK->Prop:=fun xs H Q=>∃ (p:Addr) (zs:List (Addr×List Int)),xs=[.ref p]/\SqL K H p (zs.map fun z=>V.ref z.1)/\(∀ z∈zs,H z.1=some (.tup (z.2.map V.int)))/\(2<=zs.length->∀ z∈zs,z.2≠[])/\zs.length<=10000000 /\
 zs.Pairwise (fun x y=>HT.lexLt y.2 x.2=false)/\∀ l:Addr,H l=none->Q (.ref l) (upd H l (.lst (zs.map fun z=>V.ref z.1)))
theorem zmx{X:Cx}:CallR X (.builtin "sorted") (zrE X.K):=by
 intro zn s σ H xs us Q I r h;obtain⟨p,zs,rfl,hq,hz,hne,hn,hpw,q⟩:=h;obtain⟨u,rfl,rx⟩:=vals1 r;cases (show u=Value.ref p from rx);obtain⟨its,rv,pl,_⟩:=I.list hq;have ei:its=zs.map fun z=>Value.ref z.1:=by
  have:=zjz (as:=zs.map (·.1)) (by rw [map_map]; exact rv);rw [this,map_map];rfl
 subst ei;have hT:2<=(zs.map fun z=>Value.ref z.1).length->∀ v∈zs.map (fun z=>Value.ref z.1),TupI s.heap v (zjW H v):=fun h2 v m=>by
  obtain⟨z,mz,rfl⟩:=mem_map.mp m;rw [ziL (hz z mz)];exact zvg I.hok (hz z mz) (hne (by simpa using h2) z mz)
 refine zmZ (kd:=tuples' true) (lt:=fun x y=>HT.lexLt (zjW H x.1) (zjW H y.1)) pl.isList (by rw [length_map]; exact hn) (fun A' E' h3 k Q h2 z=>zoP (s:={ s with heap:=h3 }) (zjW H) (fun v m=>(hT h2 v m).keep k) h2 z) (fun A' E' h3 k h2=>zn8 (s:={ s with heap:=h3 }) (zjW H) fun v m=>(hT h2 v m).keep k) ?_ fun D h' c hD kp hg=>?_
 ·rw [pairwise_map];refine hpw.imp_of_mem fun {x y} mx my h=>?_;show HT.lexLt (zjW H (.ref y.1)) (zjW H (.ref x.1))=false;rw [ziL (hz x mx),ziL (hz y my)];exact h
 ·refine⟨.ref D,_,I.laid (t':=s.toks) kp hD (show ObjOk X.prog X.w _ h' D (.lst (zs.map fun z=>V.ref z.1)) from⟨?_,_,c,rv,hg⟩),rfl,q _ (I.hok.fresh hD)⟩;rw [length_map,sizeLine_eq];omega
def zlI:List XV->Sto->RX->Prop:=fun xs S R=>arg1 xs fun x=>∃ ds,zm0 S x=some ds/\∃ nss:List (List Int),ds=nss.map zlK/\nss.length<=10000000/\(2<=nss.length->∀ ns∈nss,ns≠[])/\nss.Pairwise (fun x y=>HT.lexLt y x=false)/\R (.d (.list (nss.map zlK))) S
theorem zqn{K:W.Frag}:RC (zrE K) zlI:=fun h o H S xs vs R Q hs hx q c=>by
 obtain⟨x,rfl,ds,hd,nss,rfl,hn,hne,hpw,q1⟩:=za0 q;obtain⟨v,rfl,hx1⟩:=hxs1 hx;obtain⟨a,ws,rfl,ea,l⟩:=zbH hs hd hx1;obtain⟨zs,rfl,e2,hz⟩:=zj6 l;subst e2;refine⟨a,zs,rfl,.of ea,fun z m=>zao _ _ (hz z m),fun h2 z m=>hne (by simpa using h2) _ (mem_map_of_mem m),by simpa using hn,by rwa [pairwise_map] at hpw,fun l hl=>?_⟩;exact zkH hs (zkd (zs:=zs) hz) c q1 l hl
def zqJ:D2:=fun x _ S R=>match x with
 | .d d=>R (.d (.bool (ziE d))) S
 | .l _=>R (.d (.bool false)) S
 | _=>False
def zl7:D2:=fun x _ S R=>match x with
 | .d d=>R (.d (.bool (!ziE d))) S
 | .l _=>R (.d (.bool true)) S
 | _=>False
theorem znX{d:PyData}{y:XV}{S:Sto}{R:RX}:zqJ (.d d) y S R=R (.d (.bool (ziE d))) S:=rfl
theorem zo5{k:Nat}{y:XV}{S:Sto}{R:RX}:zqJ (.l k) y S R=R (.d (.bool false)) S:=rfl
theorem zl6{d:PyData}{y:XV}{S:Sto}{R:RX}:zl7 (.d d) y S R=R (.d (.bool (!ziE d))) S:=rfl
theorem zl0{k:Nat}{y:XV}{S:Sto}{R:RX}:zl7 (.l k) y S R=R (.d (.bool true)) S:=rfl
theorem zpc{ta:TE}{da:DE}(ha:RE ta da):RE (tOp zwk ta (tC .non)) (dOp zqJ da (dC .none)):=fun h o H δ σ S R Q he hs q c =>
 ha h o H δ σ S _ _ he hs q fun o1 H1 S1 x v e1 s1 x1 d1=>by
  cases x with
  | d d =>
   have e:=zeO (show Has _ d v from x1);exact⟨rfl,by rw [e]; exact c o1 H1 S1 _ _ e1 s1 (xB _) d1⟩
  | l k =>
   obtain⟨a,_,rfl⟩:=x1;exact⟨rfl,c o1 H1 S1 _ _ e1 s1 (xB _) d1⟩
  | o w=>exact absurd d1 id
  | x C fs=>exact absurd d1 id
theorem zlD{ta:TE}{da:DE}(ha:RE ta da):RE (tOp zta ta (tC .non)) (dOp zl7 da (dC .none)):=fun h o H δ σ S R Q he hs q c =>
 ha h o H δ σ S _ _ he hs q fun o1 H1 S1 x v e1 s1 x1 d1=>by
  cases x with
  | d d =>
   have e:=zeO (show Has _ d v from x1);exact⟨rfl,by rw [e]; exact c o1 H1 S1 _ _ e1 s1 (xB _) d1⟩
  | l k =>
   obtain⟨a,_,rfl⟩:=x1;exact⟨rfl,c o1 H1 S1 _ _ e1 s1 (xB _) d1⟩
  | o w=>exact absurd d1 id
  | x C fs=>exact absurd d1 id
end
end L2
namespace My
open PySem L2
def zbI:PN:=fun xs S R=>(zaD (zfi (dCB ziH (zc (zh 0) (zc (dO (.ty "int")) zq))) (zmr (dCB ziH (zc (zh 0) (zc (dO (.ty "bool")) zq)))))) (zbC S.length R) (xs.map some++List.replicate 0 none) S
def zc6:PN:=fun xs S R=>(zP (zan (dOp (dI (fun _ j=>0<j) fun i j=>i % j) (dOp zb0 (zh 0) (dC (.int 7919))) (dC (.int 2147483647))) (zk 0)) (zaD (dOp (dI (fun _ j=>0<j) fun i j=>i % j) (dOp zb0 (dOp zb0 (dOp zfQ (zh 0) (zh 0)) (dOp zfQ (dC (.int 48271)) (zh 0))) (dC (.int 12345))) (dC (.int 2147483629))))) (zbC S.length R) (xs.map some++List.replicate 0 none) S
def zcT:PN:=fun xs S R=>(zP (zan (dCB (dI2 fun i j=>if j>i then j else i) (zc (zh 0) (zc (dOp (dI0 fun i j=>i - j) (dC (.int 0)) (zh 0)) zq))) (zk 1)) (zaD (zdb (zc (zh 1) (zc (dCB zqv (zc (dOp (dIb fun i j=>decide (j<=i)) (zh 1) (dOp (dI CPow fun i j=>i ^ j.toNat) (dC (.int 10)) (dC (.int 18)))) zq)) (zc (dOp (dI (fun _ j=>0<j) fun i j=>i % j) (zh 1) (dC (.int 1000003))) zq)))))) (zbC S.length R) (xs.map some++List.replicate 1 none) S
def zbX:PN:=fun xs S R=>(zaD (zfi (dCB ziH (zc (zh 0) (zc (dO (.ty "int")) zq))) (zmr (dCB ziH (zc (zh 0) (zc (dO (.ty "bool")) zq)))))) (zbC S.length R) (xs.map some++List.replicate 0 none) S
def zp:PN:=fun xs S R=>(zP (zbR (dB (dOp zf3 (dOp dIx (zh 0) (dC (.int 1))) (dC (.int 1)))) (zP (zan (dOp (dI (fun _ j=>0<j) fun i j=>i % j) (dOp dIx (zh 0) (dC (.int 0))) (zh 1)) (zk 2)) (zP (zan (dOp dFd (dOp dIx (zh 0) (dC (.int 0))) (zh 1)) (zjC (zh 0) (dC (.int 0)))) (zaD (zh 2)))) zam) (zP (zan (zX 1 zc6 (zc (dOp zb0 (zX 1 zc6 (zc (dOp dIx (zh 0) (dC (.int 2))) zq)) (dC (.int 7))) zq)) (zjC (zh 0) (dC (.int 2)))) (zaD (dOp (dI (fun _ j=>0<j) fun i j=>i % j) (dOp dFd (dOp dIx (zh 0) (dC (.int 2))) (dC (.int 64))) (zh 1))))) (zbC S.length R) (xs.map some++List.replicate 1 none) S
def zfT:PN:=fun xs S R=>(zP (zan (zH 0 2 zp (zc (zh 0) (zc (dC (.int 8)) zq))) (zk 1)) (zP (zbR (dB (dOp (dIb fun i j=>decide (i<j)) (zh 1) (dC (.int 5)))) (zaD (dOp (dI0 fun i j=>i - j) (zH 0 2 zp (zc (zh 0) (zc (dC (.int 13)) zq))) (dC (.int 6)))) zam) (zP (zbR (dB (dOp (dIb fun i j=>decide (i<j)) (zh 1) (dC (.int 7)))) (zaD (dOp (dI0 fun i j=>i - j) (zH 0 2 zp (zc (zh 0) (zc (dC (.int 2001)) zq))) (dC (.int 1000)))) zam) (zaD (dOp zfQ (dOp (dI0 fun i j=>i - j) (zH 0 2 zp (zc (zh 0) (zc (dOp zfQ (dC (.int 2)) (dOp (dI CPow fun i j=>i ^ j.toNat) (dC (.int 10)) (dC (.int 30)))) zq))) (dOp (dI CPow fun i j=>i ^ j.toNat) (dC (.int 10)) (dC (.int 30)))) (dOp (dI CPow fun i j=>i ^ j.toNat) (dC (.int 10)) (dC (.int 28)))))))) (zbC S.length R) (xs.map some++List.replicate 1 none) S
def zlr:PN:=fun xs S R=>(zaD (zc0 (zc (dOp zb0 (dOp dIx (zh 0) (dC (.int 0))) (dOp dIx (zh 1) (dC (.int 0)))) (zc (dOp zb0 (dOp dIx (zh 0) (dC (.int 1))) (dOp dIx (zh 1) (dC (.int 1)))) zq)))) (zbC S.length R) (xs.map some++List.replicate 0 none) S
def zcH:PN:=fun xs S R=>(zP (zan (zc0 (zc (dOp zfQ (dOp dIx (zh 0) (dC (.int 0))) (zh 1)) (zc (dOp zfQ (dOp dIx (zh 0) (dC (.int 1))) (zh 1)) zq))) (zk 2)) (zaD (zc0 (zc (dCB zkO (zc (zh 2) zq)) (zc (dCB zvo (zc (zh 2) zq)) zq))))) (zbC S.length R) (xs.map some++List.replicate 1 none) S
def zaU:PN:=fun xs S R=>(zP (zan (zH 0 2 zp (zc (zh 0) (zc (dC (.int 8)) zq))) (zk 1)) (zP (zbR (dB (dOp (dIb fun i j=>decide (i<j)) (zh 1) (dC (.int 5)))) (zaD (dOp (dI0 fun i j=>i - j) (zH 0 2 zp (zc (zh 0) (zc (dC (.int 13)) zq))) (dC (.int 6)))) zam) (zP (zbR (dB (dOp (dIb fun i j=>decide (i<j)) (zh 1) (dC (.int 7)))) (zaD (dOp (dI0 fun i j=>i - j) (zH 0 2 zp (zc (zh 0) (zc (dC (.int 2001)) zq))) (dC (.int 1000)))) zam) (zaD (dOp zfQ (dOp (dI0 fun i j=>i - j) (zH 0 2 zp (zc (zh 0) (zc (dOp zfQ (dC (.int 2)) (dOp (dI CPow fun i j=>i ^ j.toNat) (dC (.int 10)) (dC (.int 30)))) zq))) (dOp (dI CPow fun i j=>i ^ j.toNat) (dC (.int 10)) (dC (.int 30)))) (dOp (dI CPow fun i j=>i ^ j.toNat) (dC (.int 10)) (dC (.int 28)))))))) (zbC S.length R) (xs.map some++List.replicate 1 none) S
def zhY:PN:=fun xs S R=>(zP (zan (zH 0 1 zfT (zc (zh 0) zq)) (zk 1)) (zP (zan (zH 0 2 zp (zc (zh 0) (zc (dC (.int 5)) zq))) (zk 2)) (zP (zbR (dB (dOp zf3 (zH 0 2 zp (zc (zh 0) (zc (dC (.int 8)) zq))) (dC (.int 7)))) (zan (zH 0 2 zp (zc (zh 0) (zc (dOp (dI CPow fun i j=>i ^ j.toNat) (dC (.int 10)) (dC (.int 40))) zq))) (zk 2)) zam) (zaD (zc0 (zc (zh 1) (zc (dOp zb0 (zh 1) (zh 2)) zq))))))) (zbC S.length R) (xs.map some++List.replicate 2 none) S
def zaP:PN:=fun xs S R=>(zP (zan (dC (.str "abcdefghijklmnopqrstuvwxyz")) (zk 1)) (zP (zan (zH 0 2 zp (zc (zh 0) (zc (dC (.int 3)) zq))) (zk 2)) (zP (zan (zH 0 2 zp (zc (zh 0) (zc (dC (.int 26)) zq))) (zk 3)) (zP (zan (zfU [none,some 1,some 3] (zaY (zc (dC (.int 8)) zq)) (zk 0) zae (dOp zfQ (dOp dIx (zh 1) (dOp (dI (fun _ j=>0<j) fun i j=>i % j) (dOp zb0 (zh 2) (dOp zfQ (dC (.int 5)) (zh 0))) (dC (.int 26)))) (dOp zb0 (dC (.int 1)) (dOp (dI (fun _ j=>0<j) fun i j=>i % j) (dOp zb0 (zh 2) (dOp zfQ (dC (.int 3)) (zh 0))) (dC (.int 8)))))) (zk 4)) (zP (zbR (dB (dOp zf3 (zh 2) (dC (.int 0)))) (zP (zan (zvE zqR (dC (.str "")) (zc (zbg [none,some 1,some 3] (zaY (zc (dC (.int 8)) zq)) (zk 0) zae (dOp dIx (zh 1) (dOp (dI (fun _ j=>0<j) fun i j=>i % j) (dOp zb0 (zh 2) (dOp zfQ (dC (.int 7)) (zh 0))) (dC (.int 26))))) zq)) (zk 5)) (zan (zfU [none,some 5] (zaY (zc (dC (.int 8)) zq)) (zk 0) zae (dSl zlA (zh 1) zbr (zel (dOp zb0 (zh 0) (dC (.int 1)))))) (zk 4))) zam) (zP (zbR (dB (dOp zf3 (zh 2) (dC (.int 1)))) (zan (zdb (zc (dC (.str "part")) (zc (dC (.str "gap")) (zc (dC (.str "cut")) (zc (dC (.str "a")) (zc (dC (.str "aa")) (zc (dC (.str "dear")) (zc (dC (.str "b")) (zc (dC (.str "keeps")) zq))))))))) (zk 4)) zam) (zP (zan (zH 0 2 zp (zc (zh 0) (zc (dC (.int 8)) zq))) (zk 6)) (zP (zan (dOp zq4 (dSl zlA (zh 4) (zel (zh 6)) zbr) (dSl zlA (zh 4) zbr (zel (zh 6)))) (zk 4)) (zP (zbR (dB (dOp zf3 (zH 0 2 zp (zc (zh 0) (zc (dC (.int 2)) zq))) (dC (.int 1)))) (zdi (ztU zgg (zh 4))) zam) (zaD (zh 4))))))))))) (zbC S.length R) (xs.map some++List.replicate 6 none) S
def zds:PN:=fun xs S R=>(zaD (dCB zby (zc (zbg [none] (za9 (zh 0)) (zk 0) zae (dOp dIx (zh 0) (dC (.int 1)))) zq))) (zbC S.length R) (xs.map some++List.replicate 0 none) S
def zgs:PN:=fun xs S R=>(zP (zbR (dOr (zga (zfV (dCB ziH (zc (zh 1) (zc (dO (.ty "tuple")) zq))))) (dB (dOp zmB (dCB zaT (zc (zh 1) zq)) (dCB zaT (zc (zh 0) zq))))) (zaD (dC (.bool false))) zam) (zaD (dCB zpH (zc (zbg [none,none] (zdP (zc (zh 1) (zc (zh 0) zq))) (zcd 2 (zT (zk 0) (zT (zk 1) zb8))) zae (zfi (zX 1 zbI (zc (zh 0) zq)) (zgY (dIb fun i j=>decide (i<=j)) (dIb fun i j=>decide (i<=j)) (dOp dIx (zh 1) (dC (.int 1))) (zh 0) (dOp dIx (zh 1) (dC (.int 2)))))) zq)))) (zbC S.length R) (xs.map some++List.replicate 0 none) S
def ze2:PN:=fun xs S R=>(zaD (zc0 (zc (dOp dIx (zh 0) (dC (.int 1))) (zc (dOp dIx (zh 0) (dC (.int 2))) zq)))) (zbC S.length R) (xs.map some++List.replicate 0 none) S
def zck:PN:=fun xs S R=>(zP (zan (zdb zq) (zk 2)) (zP (zgf (za9 (zh 0)) (zk 3) (zdi (dBM zfw (zh 2) (zc (zbg [none,some 3] (za9 (zh 1)) (zk 0) zae (dOp zb0 (zh 1) (zc0 (zc (zh 0) zq)))) zq)))) (zaD (zh 2)))) (zbC S.length R) (xs.map some++List.replicate 2 none) S
def zeh:PN:=fun xs S R=>(zaD (dCB zpJ (zc (zbg [none,none,some 1] (za9 (dOp dIx (zh 0) (dC (.int 0)))) (zcd 2 (zT (zk 0) (zT (zk 1) zb8))) zae (dOp zfQ (zh 1) (dOp dIx (zh 2) (zh 0)))) zq))) (zbC S.length R) (xs.map some++List.replicate 0 none) S
def zha:PN:=fun xs S R=>(zaD (zgY (dIb fun i j=>decide (i<=j)) (dIb fun i j=>decide (i<=j)) (dOp dIx (zh 0) (dC (.int 1))) (zX 2 zeh (zc (zh 0) (zc (zh 1) zq))) (dOp dIx (zh 0) (dC (.int 2))))) (zbC S.length R) (xs.map some++List.replicate 0 none) S
def zcl:PN:=fun xs S R=>(zaD (dUn (dUI fun i=>-i) (dOp dFd (dUn (dUI fun i=>-i) (zh 0)) (zh 1)))) (zbC S.length R) (xs.map some++List.replicate 0 none) S
def za6:PN:=fun xs S R=>(zP (zan (zc0 (zc (dC (.int 0)) (zc (dC (.int 0)) zq))) (zk 2)) (zP (zgf (za9 (zh 1)) (zcd 2 (zT (zk 3) (zT (zk 4) zb8))) (zan (zX 2 zlr (zc (zh 2) (zc (zX 2 zcH (zc (zX 1 ze2 (zc (dOp dIx (zh 0) (zh 3)) zq)) (zc (zh 4) zq))) zq))) (zk 2))) (zaD (zh 2)))) (zbC S.length R) (xs.map some++List.replicate 3 none) S
def zef:PN:=fun xs S R=>(zaD (dCB zby (zc (zbg [none,none] (za9 (zh 0)) (zcd 2 (zT (zk 0) (zT (zk 1) zb8))) zae (zc0 (zc (zh 0) (zc (dUn (dUI fun i=>-i) (zh 1)) zq)))) zq))) (zbC S.length R) (xs.map some++List.replicate 0 none) S
def za2:PN:=fun xs S R=>(zP (zan (dC (.int 0)) (zk 2)) (zP (zan (dC (.int 0)) (zk 3)) (zP (zgf (za9 (zh 1)) (zcd 2 (zT (zk 4) (zT (zk 5) zb8))) (zP (zan (zhr (zc (dOp zfQ (zh 5) (dOp dIx (dOp dIx (zh 0) (zh 4)) (dC (.int 1)))) (zc (dOp zfQ (zh 5) (dOp dIx (dOp dIx (zh 0) (zh 4)) (dC (.int 2)))) zq))) (zk 6)) (zP (zan (dOp zb0 (zh 2) (dCB zkO (zc (zh 6) zq))) (zk 2)) (zan (dOp zb0 (zh 3) (dCB zvo (zc (zh 6) zq))) (zk 3))))) (zaD (zc0 (zc (zh 2) (zc (zh 3) zq))))))) (zbC S.length R) (xs.map some++List.replicate 5 none) S
def zaJ:PN:=fun xs S R=>(zP (zbR (dB (dOp (dIb fun i j=>decide (j<i)) (dOp dIx (zX 2 za6 (zc (zh 0) (zc (zh 1) zq))) (dC (.int 0))) (zh 2))) (zaD (dC .none)) zam) (zP (zan (dCB zgZ (zc (zX 1 zds (zc (zh 0) zq)) zq)) (zk 3)) (zP (zan (zh 2) (zk 4)) (zP (zgf (zja (zc (zh 1) zq)) (zcd 2 (zT (zk 5) (zT (zk 6) zb8))) (zP (zbR (dB (dOp (dIb fun i j=>decide (i<j)) (dOp dIx (zh 6) (dC (.int 1))) (dC (.int 0)))) (zP (zan (dOp dIx (zX 2 za6 (zc (zh 0) (zc (dSl zlA (zh 1) (zel (dOp zb0 (zh 5) (dC (.int 1)))) zbr) zq))) (dC (.int 0))) (zk 7)) (zan (dCB (dI2 fun i j=>if j>i then j else i) (zc (dOp dIx (zh 3) (dOp dIx (zh 6) (dC (.int 0)))) (zc (zX 2 zcl (zc (dOp (dI0 fun i j=>i - j) (zh 4) (zh 7)) (zc (dOp dIx (zh 6) (dC (.int 1))) zq))) zq))) (zjC (zh 3) (dOp dIx (zh 6) (dC (.int 0)))))) zam) (zan (dOp (dI0 fun i j=>i - j) (zh 4) (dOp zfQ (dOp dIx (zh 6) (dC (.int 1))) (dOp dIx (zh 3) (dOp dIx (zh 6) (dC (.int 0)))))) (zk 4)))) (zaD (dCB zby (zc (zh 3) zq))))))) (zbC S.length R) (xs.map some++List.replicate 5 none) S
def zdr:PN:=fun xs S R=>(zaD (zfU [none,some 1] (za9 (zh 0)) (zk 0) zae (zX 2 zha (zc (zh 0) (zc (zh 1) zq))))) (zbC S.length R) (xs.map some++List.replicate 0 none) S
def zcL:PN:=fun xs S R=>(zP (zan (zdb zq) (zk 2)) (zP (zgf (zaY (zc (dCB zaT (zc (zh 1) zq)) zq)) (zk 3) (zP (zan (dOp (dI0 fun i j=>i - j) (zH 0 2 zp (zc (zh 0) (zc (dC (.int 9)) zq))) (dC (.int 4))) (zk 4)) (zbR (dB (dOp zkl (zh 4) (zc0 (zc (dUn (dUI fun i=>-i) (dC (.int 4))) (zc (dC (.int 0)) (zc (dC (.int 4)) zq)))))) (zdi (dBM zbN (zh 2) (zc (zc0 (zc (zh 3) (zc (zh 4) zq))) zq))) zam))) (zP (zbR (dB (dOp zf3 (zh 2) (zhr zq))) (zan (zdb (zc (zc0 (zc (zH 0 2 zp (zc (zh 0) (zc (dCB zaT (zc (zh 1) zq)) zq))) (zc (dOp dIx (zhr (zc (dC (.int 1)) (zc (dUn (dUI fun i=>-i) (dC (.int 1))) (zc (dC (.int 2)) (zc (dUn (dUI fun i=>-i) (dC (.int 3))) zq))))) (zH 0 2 zp (zc (zh 0) (zc (dC (.int 4)) zq)))) zq))) zq)) (zk 2)) zam) (zP (zan (zh6 2 za2 (zc (zh 1) (zc (zh 2) zq))) (zcd 2 (zT (zk 5) (zT (zk 6) zb8)))) (zP (zan (dOp (dI0 fun i j=>i - j) (zh 6) (zh 5)) (zk 7)) (zP (zan (dOp zb0 (zh 5) (dOp dIx (zhr (zc (dC (.int 0)) (zc (dC (.int 1)) (zc (dUn (dUI fun i=>-i) (dC (.int 1))) (zc (dOp dFd (zh 7) (dC (.int 2))) (zc (dOp dFd (zh 7) (dC (.int 3))) (zc (dOp zb0 (zh 7) (dC (.int 1))) zq))))))) (zH 0 2 zp (zc (zh 0) (zc (dC (.int 6)) zq))))) (zk 8)) (zP (zan (dOp zb0 (zh 8) (dOp dIx (zhr (zc (dC (.int 0)) (zc (dC (.int 1)) (zc (dC (.int 2)) (zc (dOp dFd (zh 7) (dC (.int 2))) (zc (zh 7) (zc (dOp zb0 (zh 7) (dC (.int 2))) zq))))))) (zH 0 2 zp (zc (zh 0) (zc (dC (.int 6)) zq))))) (zk 9)) (zaD (zc0 (zc (dCB zby (zc (zh 2) zq)) (zc (zh 8) (zc (zh 9) zq)))))))))))) (zbC S.length R) (xs.map some++List.replicate 8 none) S
def zbB:PN:=fun xs S R=>(zP (zan (zdb zq) (zk 1)) (zP (zgf (za9 (dOp dIx (zh 0) (dC (.int 1)))) (zcd 3 (zT (zk 2) (zT (zk 3) (zT (zk 4) zb8)))) (zP (zdi (dBM zbN (zh 1) (zc (zX 3 zaJ (zc (dOp dIx (zh 0) (dC (.int 0))) (zc (zh 2) (zc (dOp (dI0 fun i j=>i - j) (zh 3) (dC (.int 1))) zq)))) zq))) (zdi (dBM zbN (zh 1) (zc (zX 3 zaJ (zc (dOp dIx (zh 0) (dC (.int 0))) (zc (zX 1 zef (zc (zh 2) zq)) (zc (dOp (dI0 fun i j=>i - j) (dUn (dUI fun i=>-i) (zh 4)) (dC (.int 1))) zq)))) zq))))) (zaD (zh 1)))) (zbC S.length R) (xs.map some++List.replicate 4 none) S
def zcj:PN:=fun xs S R=>(zP (zan (zH 0 1 zaU (zc (zh 0) zq)) (zk 1)) (zP (zan (zH 0 2 zp (zc (zh 0) (zc (dC (.int 5)) zq))) (zk 2)) (zP (zbR (dB (dOp zf3 (zH 0 2 zp (zc (zh 0) (zc (dC (.int 8)) zq))) (dC (.int 7)))) (zan (zH 0 2 zp (zc (zh 0) (zc (dOp (dI CPow fun i j=>i ^ j.toNat) (dC (.int 10)) (dC (.int 40))) zq))) (zk 2)) zam) (zaD (zc0 (zc (zh 1) (zc (dOp zb0 (zh 1) (zh 2)) zq))))))) (zbC S.length R) (xs.map some++List.replicate 2 none) S
def zdV:PN:=fun xs S R=>(zP (zan (zH 0 1 zaP (zc (zh 0) zq)) (zk 2)) (zP (zan (zbg [none,some 0] (zaY (zc (dOp zb0 (dC (.int 1)) (zH 0 2 zp (zc (zh 0) (zc (zh 1) zq)))) zq)) (zk 0) zae (dOp zb0 (dC (.int 1)) (zH 0 2 zp (zc (zh 1) (zc (dC (.int 3)) zq))))) (zk 3)) (zP (zbR (dB (dOp zf3 (zH 0 2 zp (zc (zh 0) (zc (dC (.int 12)) zq))) (dC (.int 0)))) (zan (dOp dIx (zhr (zc (dOp zfQ (zhr (zc (dC (.int 2)) zq)) (dC (.int 8))) (zc (zhr (zc (dC (.int 17)) (zc (dC (.int 17)) zq))) (zc (zhr (zc (dC (.int 300)) zq)) (zc (dOp zfQ (zhr (zc (dC (.int 1)) zq)) (dC (.int 8))) zq))))) (zH 0 2 zp (zc (zh 0) (zc (dC (.int 4)) zq)))) (zk 3)) zam) (zP (zan (zdb zq) (zk 4)) (zP (zgf (zaY (zc (dCB zaT (zc (zh 3) zq)) zq)) (zk 5) (zP (zan (zH 0 1 zaU (zc (zh 0) zq)) (zk 6)) (zdi (dBM zbN (zh 4) (zc (zc0 (zc (dOp dIx (zh 2) (zh 5)) (zc (zh 6) (zc (dOp (dI0 fun i j=>i - j) (dOp zb0 (zh 6) (dOp dIx (zh 3) (zh 5))) (dC (.int 1))) zq)))) zq))))) (zaD (dCB zby (zc (zh 4) zq)))))))) (zbC S.length R) (xs.map some++List.replicate 5 none) S
def zci:PN:=fun xs S R=>(zP (zan (zfU [none,some 0,some 1] (zaY (zc (dOp zb0 (dC (.int 1)) (zH 0 2 zp (zc (zh 0) (zc (zh 2) zq)))) zq)) (zk 0) zae (zH 0 2 zcL (zc (zh 1) (zc (zh 2) zq)))) (zk 3)) (zP (zbR (ztX (dB (dOp zf3 (zH 0 2 zp (zc (zh 0) (zc (dC (.int 3)) zq))) (dC (.int 0)))) (dB (dOp (dIb fun i j=>decide (j<i)) (dCB zaT (zc (zh 3) zq)) (dC (.int 1))))) (zan (zc0 (zc (dOp dIx (dOp dIx (zh 3) (dC (.int 0))) (dC (.int 0))) (zc (dOp zb0 (dOp dIx (dOp dIx (zh 3) (dC (.int 0))) (dC (.int 2))) (dC (.int 1))) (zc (dOp zb0 (dOp zb0 (dOp dIx (dOp dIx (zh 3) (dC (.int 0))) (dC (.int 2))) (dC (.int 1))) (zH 0 2 zp (zc (zh 0) (zc (dC (.int 3)) zq)))) zq)))) (zjC (zh 3) (dUn (dUI fun i=>-i) (dC (.int 1))))) zam) (zaD (dCB zby (zc (zh 3) zq))))) (zbC S.length R) (xs.map some++List.replicate 1 none) S
def zfl:PN:=fun xs S R=>(zP (zan (zbg [none] (za9 (zX 1 zbB (zc (zh 0) zq))) (zk 0) (dB (dOp zmG (zh 0) (dC .none))) (zh 0)) (zk 1)) (zP (zbR (zga (zfV (zh 1))) (zaD (dC .none)) zam) (zP (zan (dCB zkO (zc (zh 1) zq)) (zk 2)) (zaD (zc0 (zc (zh 2) (zc (zvK zmf (zX 2 zdr (zc (dOp dIx (zh 0) (dC (.int 1))) (zc (zh 2) zq))) (zc (dC (.bool false)) zq)) zq))))))) (zbC S.length R) (xs.map some++List.replicate 2 none) S
def za3:PN:=fun xs S R=>(zP (zan (zH 0 1 zaP (zc (zh 0) zq)) (zk 2)) (zP (zan (zdb zq) (zk 3)) (zP (zgf (zaY (zc (dOp zb0 (dC (.int 1)) (zH 0 2 zp (zc (zh 0) (zc (zh 1) zq)))) zq)) (zk 4) (zdi (dBM zbN (zh 3) (zc (dOp zb0 (zc0 (zc (dOp dIx (zh 2) (zh 4)) zq)) (zH 0 1 zcj (zc (zh 0) zq))) zq)))) (zaD (dCB zby (zc (zh 3) zq)))))) (zbC S.length R) (xs.map some++List.replicate 3 none) S
def zct:PN:=fun xs S R=>(zaD (zfU [none] (za9 (zh 0)) (zk 0) zae (dCB zaT (zc (zh 0) zq)))) (zbC S.length R) (xs.map some++List.replicate 0 none) S
def zc2:PN:=fun xs S R=>(zaD (dCB zpJ (zc (zbg [none,none] (zdP (zc (zh 0) (zc (zh 1) zq))) (zcd 2 (zT (zk 0) (zT (zk 1) zb8))) zae (dOp dIx (dOp dIx (zh 0) (zh 1)) (dC (.int 2)))) zq))) (zbC S.length R) (xs.map some++List.replicate 0 none) S
def zcq:PN:=fun xs S R=>(zP (zan (zbg [none,none] (zdP (zc (zh 1) (zc (zh 2) zq))) (zcd 2 (zT (zk 0) (zT (zk 1) zb8))) zae (dOp dIx (zh 0) (zh 1))) (zk 3)) (zaD (dCB zby (zc (zbg [none,none] (zdP (zc (zh 0) (zc (zh 3) zq))) (zcd 2 (zT (zk 0) (zT (zk 1) zb8))) zae (zc0 (zc (dOp dIx (zh 0) (dC (.int 0))) (zc (dOp dIx (zh 1) (dC (.int 0))) (zc (dOp dIx (zh 1) (dC (.int 1))) zq))))) zq)))) (zbC S.length R) (xs.map some++List.replicate 1 none) S
def zb3:PN:=fun xs S R=>(zP (zbR (dOr (zga (zfV (dCB ziH (zc (zh 1) (zc (dO (.ty "tuple")) zq))))) (dB (dOp (dIb fun i j=>decide (j<i)) (dCB zaT (zc (zh 1) zq)) (dCB zaT (zc (zh 0) zq))))) (zaD (dC (.bool false))) zam) (zaD (dCB zpH (zc (zbg [none,none] (zdP (zc (zh 1) (zc (zh 0) zq))) (zcd 2 (zT (zk 0) (zT (zk 1) zb8))) zae (zfi (zX 1 zbI (zc (zh 0) zq)) (zgY (dIb fun i j=>decide (i<=j)) (dIb fun i j=>decide (i<j)) (dC (.int 0)) (zh 0) (zh 1)))) zq)))) (zbC S.length R) (xs.map some++List.replicate 0 none) S
def zbK:PN:=fun xs S R=>(zP (zan (zdb zq) (zk 2)) (zP (zan (dOp dIx (zhr (zc (dC (.int 4)) (zc (dC (.int 4)) (zc (dC (.int 4)) (zc (dOp (dI CPow fun i j=>i ^ j.toNat) (dC (.int 10)) (dC (.int 50))) zq))))) (zH 0 2 zp (zc (zh 0) (zc (dC (.int 4)) zq)))) (zk 3)) (zP (zgf (za9 (zh 1)) (zcd 3 (zT (zk 4) (zT (zk 5) (zT (zk 6) zb8)))) (zP (zan (zdb (zc (zc0 (zc (zh 5) (zc (zh 6) (zc (dC (.int 0)) zq)))) zq)) (zk 7)) (zP (zgf (zaY (zc (zH 0 2 zp (zc (zh 0) (zc (dC (.int 4)) zq))) zq)) (zk 8) (zP (zan (dOp dIx (zh 7) (dUn (dUI fun i=>-i) (dC (.int 1)))) (zcd 3 (zT (zk 9) (zT (zk 10) (zT (zk 11) zb8))))) (zbR (dB (dOp (dIb fun i j=>decide (i<j)) (zh 9) (zh 10))) (zP (zan (dOp zb0 (zh 9) (zH 0 2 zp (zc (zh 0) (zc (dOp zb0 (dCB (dI2 fun i j=>if j<i then j else i) (zc (dOp (dI0 fun i j=>i - j) (zh 10) (zh 9)) (zc (dC (.int 3)) zq))) (dC (.int 1))) zq)))) (zk 12)) (zP (zan (dCB (dI2 fun i j=>if j>i then j else i) (zc (zh 12) (zc (dOp (dI0 fun i j=>i - j) (zh 10) (zH 0 2 zp (zc (zh 0) (zc (dC (.int 3)) zq)))) zq))) (zk 13)) (zP (zbR (ztX (dB (dOp zf3 (zh 12) (zh 9))) (dB (dOp zf3 (zh 13) (zh 10)))) (zan (dOp zb0 (zh 9) (dC (.int 1))) (zk 12)) zam) (zdi (dBM zbN (zh 7) (zc (zc0 (zc (zh 12) (zc (zh 13) (zc (dOp zb0 (dOp zb0 (zh 11) (dC (.int 1))) (zH 0 2 zp (zc (zh 0) (zc (zh 3) zq)))) zq)))) zq)))))) zam))) (zdi (dBM zbN (zh 2) (zc (dCB zby (zc (zh 7) zq)) zq)))))) (zaD (dCB zby (zc (zh 2) zq)))))) (zbC S.length R) (xs.map some++List.replicate 12 none) S
def zbM:PN:=fun xs S R=>(zP (zan (zhr (zc (zc0 zq) zq)) (zk 1)) (zP (zgf (za9 (zh 0)) (zk 2) (zP (zvH (zP (zan (zdb zq) (zk 3)) (zgf (za9 (zh 1)) (zk 4) (zdi (dBM zfw (zh 3) (zc (zbg [none,some 4] (zaY (zc (dCB zaT (zc (zh 2) zq)) zq)) (zk 0) zae (dOp zb0 (zh 1) (zc0 (zc (zh 0) zq)))) zq)))))) (zan (zh 3) (zk 1)))) (zaD (zh 1)))) (zbC S.length R) (xs.map some++List.replicate 4 none) S
def zaR:PN:=fun xs S R=>(zaD (dCB zpJ (zc (zbg [none,some 0,some 1] (zaY (zc (dCB zaT (zc (zh 1) zq)) zq)) (zk 0) zae (dOp dIx (dOp dIx (dOp dIx (zh 1) (zh 0)) (dOp dIx (zh 2) (zh 0))) (dC (.int 2)))) zq))) (zbC S.length R) (xs.map some++List.replicate 0 none) S
def zaF:PN:=fun xs S R=>(zaD (dCB zby (zc (zbg [none,some 0,some 1,some 2] (zaY (zc (dCB zaT (zc (zh 0) zq)) zq)) (zk 0) zae (dOp zb0 (zc0 (zc (dOp dIx (dOp dIx (zh 1) (zh 0)) (dC (.int 0))) zq)) (dSl zlA (dOp dIx (dOp dIx (zh 2) (zh 0)) (dOp dIx (zh 3) (zh 0))) zbr (zel (dC (.int 2)))))) zq))) (zbC S.length R) (xs.map some++List.replicate 0 none) S
def zdk:PN:=fun xs S R=>(zP (zan (zX 3 zaF (zc (zh 0) (zc (zh 2) (zc (zh 3) zq)))) (zk 4)) (zP (zgf (za9 (zh 1)) (zk 5) (zP (zan (zX 2 za2 (zc (zh 4) (zc (dOp dIx (zh 5) (dC (.int 0))) zq))) (zcd 2 (zT (zk 6) (zT (zk 7) zb8)))) (zbR (dOr (dB (dOp (dIb fun i j=>decide (i<j)) (zh 6) (dOp dIx (zh 5) (dC (.int 1))))) (dB (dOp (dIb fun i j=>decide (j<i)) (zh 7) (dOp dIx (zh 5) (dC (.int 2)))))) (zaD (dC (.bool false))) zam))) (zaD (dC (.bool true))))) (zbC S.length R) (xs.map some++List.replicate 4 none) S
def zbP:PN:=fun xs S R=>(zP (zan (dCB zgZ (zc (zH 0 3 zci (zc (zh 0) (zc (zh 1) (zc (zh 3) zq)))) zq)) (zk 4)) (zP (zbR (dB (dOp (dIb fun i j=>decide (j<i)) (zH 0 2 zp (zc (zh 0) (zc (dC (.int 3)) zq))) (dC (.int 0)))) (zP (zan (dCB zby (zc (zbg [none,some 0] (za9 (zh 2)) (zk 0) zae (zH 0 2 zp (zc (zh 1) (zc (dCB zaT (zc (zh 0) zq)) zq)))) zq)) (zk 5)) (zP (zan (zX 3 zaF (zc (zh 1) (zc (zh 2) (zc (zh 5) zq)))) (zk 6)) (zgf (zaY (zc (dCB zaT (zc (zh 4) zq)) zq)) (zk 7) (zP (zan (zX 2 za2 (zc (zh 6) (zc (dOp dIx (dOp dIx (zh 4) (zh 7)) (dC (.int 0))) zq))) (zcd 2 (zT (zk 8) (zT (zk 9) zb8)))) (zan (zc0 (zc (dOp dIx (dOp dIx (zh 4) (zh 7)) (dC (.int 0))) (zc (dOp (dI0 fun i j=>i - j) (zh 8) (zH 0 2 zp (zc (zh 0) (zc (dC (.int 2)) zq)))) (zc (dOp zb0 (zh 9) (zH 0 2 zp (zc (zh 0) (zc (dC (.int 2)) zq)))) zq)))) (zjC (zh 4) (zh 7))))))) zam) (zaD (dCB zby (zc (zh 4) zq))))) (zbC S.length R) (xs.map some++List.replicate 6 none) S
def zaI:PN:=fun xs S R=>(zP (zan (dC (.int 1)) (zk 2)) (zP (zgf (za9 (dSl zlA (zh 0) (zel (dCB zaT (zc (zh 1) zq))) zbr)) (zk 3) (zan (dOp zfQ (zh 2) (zh 3)) (zk 2))) (zaD (zh 2)))) (zbC S.length R) (xs.map some++List.replicate 2 none) S
def zcC:PN:=fun xs S R=>(zP (zan (zbg [none] (za9 (zX 1 zct (zc (zh 1) zq))) (zk 0) zae (dOp (dI0 fun i j=>i - j) (zh 0) (dC (.int 1)))) (zk 3)) (zaD (zX 3 zcq (zc (zh 0) (zc (zh 1) (zc (dOp zb0 (zh 2) (dCB zby (zc (dSl zlA (zh 3) (zel (dCB zaT (zc (zh 2) zq))) zbr) zq))) zq)))))) (zbC S.length R) (xs.map some++List.replicate 1 none) S
def zft:PN:=fun xs S R=>(zP (zan (zX 3 zaF (zc (zh 0) (zc (zh 2) (zc (zh 3) zq)))) (zk 4)) (zP (zgf (za9 (zh 1)) (zk 5) (zP (zan (zX 2 za2 (zc (zh 4) (zc (dOp dIx (zh 5) (dC (.int 0))) zq))) (zcd 2 (zT (zk 6) (zT (zk 7) zb8)))) (zbR (dOr (dB (dOp (dIb fun i j=>decide (i<j)) (zh 6) (dOp dIx (zh 5) (dC (.int 1))))) (dB (dOp (dIb fun i j=>decide (j<i)) (zh 7) (dOp dIx (zh 5) (dC (.int 2)))))) (zaD (dC (.bool false))) zam))) (zaD (dC (.bool true))))) (zbC S.length R) (xs.map some++List.replicate 4 none) S
def zbi:PN:=fun xs S R=>(zP (zan (zX 2 zaI (zc (zh 0) (zc (zc0 zq) zq))) (zk 1)) (zbR (dB (dOp (dIb fun i j=>decide (j<i)) (zh 1) (dC (.int 300)))) zlx zam)) (zbC S.length R) (xs.map some++List.replicate 1 none) S
def zfj:PN:=fun xs S R=>(zP (zbR (dB (dOp (dIb fun i j=>decide (j<=i)) (zX 2 zc2 (zc (zh 1) (zc (zh 3) zq))) (zh 2))) (zaD (zc0 (zc (dC (.str "dear")) zq))) zam) (zP (zan (zX 1 zfl (zc (zc0 (zc (zX 3 zcC (zc (dOp dIx (zh 0) (dC (.int 0))) (zc (zh 1) (zc (zh 3) zq)))) (zc (dOp dIx (zh 0) (dC (.int 1))) zq))) zq)) (zk 4)) (zaD (dIf (dB (dOp zvd (zh 4) (dC .none))) (dC .none) (zc0 (zc (dC (.str "breaks")) (zc (dOp dIx (zh 4) (dC (.int 1))) (zc (dOp dIx (zh 4) (dC (.int 0))) zq)))))))) (zbC S.length R) (xs.map some++List.replicate 1 none) S
def zbA(F:Addr)(ql:PN):PN:=fun xs S R=>(zP (zan (zdb zq) (zk 2)) (zP (zan (zdb (zc (zc0 zq) zq)) (zk 3)) (zP (zrn (zfV (zh 3)) (zP (zan (ztU zvB (zh 3)) (zk 4)) (zP (zan (zlM 1 F 1 ql (zc (zh 4) zq)) (zk 5)) (zbR (dB (dOp zmG (zh 5) (dC .none))) (zdi (dBM zbN (zh 2) (zc (zc0 (zc (zh 4) (zc (zh 5) zq))) zq))) (zbR (dB (dOp zf3 (dCB zaT (zc (zh 4) zq)) (dCB zaT (zc (zh 0) zq)))) (zaD (dC .none)) (zdi (dBM zfw (zh 3) (zc (zX 2 zck (zc (zhr (zc (zh 4) zq)) (zc (zlC (zc (dOp (dI0 fun i j=>i - j) (dOp dIx (zh 0) (dCB zaT (zc (zh 4) zq))) (dC (.int 1))) (zc (dUn (dUI fun i=>-i) (dC (.int 1))) (zc (dUn (dUI fun i=>-i) (dC (.int 1))) zq)))) zq))) zq)))))))) (zaD (zh 2))))) (zbC S.length R) (xs.map some++List.replicate 4 none) S
def zc1:PN:=fun xs S R=>(zP (zan (zX 1 zct (zc (zh 1) zq)) (zk 3)) (zP (zdi (zX 1 zbi (zc (zh 3) zq))) (zaD (ziz [0,1,2] zbA (zX 4 zfj (zc (zh 1) (zc (zh 2) (zc (zh 3) (zc (zh 0) zq))))) (zh 3))))) (zbC S.length R) (xs.map some++List.replicate 1 none) S
def zcS:PN:=fun xs S R=>(zaD (dCB zpJ (zc (zbg [none,some 1,some 0] (zaY (zc (dOp zb0 (dCB zaT (zc (zh 0) zq)) (dC (.int 1))) zq)) (zk 0) zae (ziN (zh 1) (dSl zrV (zh 2) zbr (zel (zh 0))) (dC (.int 0)))) zq))) (zbC S.length R) (xs.map some++List.replicate 0 none) S
def zcQ:PN:=fun xs S R=>(zP (zan (dCB zpJ (zc (zbg [none] (za9 (zh 0)) (zk 0) zae (dOp dIx (dOp dIx (zh 0) (dUn (dUI fun i=>-i) (dC (.int 1)))) (dC (.int 2)))) zq)) (zk 2)) (zP (zbR (dB (dOp zvd (zh 1) (dC .none))) (zaD (zdb (zc (dC (.int 0)) (zc (dUn (dUI fun i=>-i) (dC (.int 3))) (zc (zh 2) (zc (dOp zb0 (zh 2) (dC (.int 1))) (zc (dOp (dI CPow fun i j=>i ^ j.toNat) (dC (.int 10)) (dC (.int 59))) zq))))))) zam) (zaD (zdb (zc (dC (.int 0)) (zc (zh 1) (zc (dOp zb0 (zh 1) (dC (.int 1))) (zc (dOp (dI0 fun i j=>i - j) (zh 1) (dC (.int 1))) (zc (dOp zb0 (zh 2) (dC (.int 1))) zq))))))))) (zbC S.length R) (xs.map some++List.replicate 1 none) S
def zcI:PN:=fun xs S R=>(zP (zbR (dOr (zga (zfV (dCB ziH (zc (zh 5) (zc (dO (.ty "tuple")) zq))))) (dOr (dB (dOp zkl (dCB zaT (zc (zh 5) zq)) (zc0 (zc (dC (.int 1)) (zc (dC (.int 3)) zq))))) (zga (zfV (dCB ziH (zc (dOp dIx (zh 5) (dC (.int 0))) (zc (dO (.ty "str")) zq))))))) (zaD (dC (.bool false))) zam) (zP (zbR (dB (dOp zf3 (dCB zaT (zc (zh 5) zq)) (dC (.int 1)))) (zaD (zfi (dOp zf3 (dOp dIx (zh 5) (dC (.int 0))) (dC (.str "dear"))) (dOp (dIb fun i j=>decide (j<=i)) (zX 2 zaR (zc (zh 2) (zc (zh 4) zq))) (zh 3)))) zam) (zP (zbR (dOr (dB (dOp zmB (dOp dIx (zh 5) (dC (.int 0))) (dC (.str "breaks")))) (dOr (zga (zfV (zX 1 zbX (zc (dOp dIx (zh 5) (dC (.int 1))) zq)))) (dB (zkx true (dOp dIx (zh 5) (dC (.int 1))) (zc (dCB zaT (zc (zh 1) zq)) zq))))) (zaD (dC (.bool false))) zam) (zP (zan (dOp zb0 (zh 4) (dCB zby (zc (zbg [none] (za9 (dSl zrV (zh 2) (zel (dCB zaT (zc (zh 4) zq))) zbr)) (zk 0) zae (dOp (dI0 fun i j=>i - j) (dCB zaT (zc (zh 0) zq)) (dC (.int 1)))) zq))) (zk 6)) (zP (zan (zX 3 zaF (zc (zh 0) (zc (zh 2) (zc (zh 6) zq)))) (zk 7)) (zP (zan (dOp dIx (zh 5) (dC (.int 2))) (zk 8)) (zP (zbR (dOr (zga (zfV (dCB ziH (zc (zh 8) (zc (dO (.ty "tuple")) zq))))) (dB (dOp zmB (dCB zaT (zc (zh 8) zq)) (dCB zaT (zc (zh 7) zq))))) (zaD (dC (.bool false))) zam) (zP (zgf (zdP (zc (zh 8) (zc (zh 7) zq))) (zcd 2 (zT (zk 9) (zT (zk 10) zb8))) (zbR (dOr (zga (zfV (zX 1 zbX (zc (zh 9) zq)))) (dOr (dB (dOp (dIb fun i j=>decide (i<j)) (zh 9) (dOp dIx (zh 10) (dC (.int 1))))) (dB (dOp (dIb fun i j=>decide (j<i)) (zh 9) (dOp dIx (zh 10) (dC (.int 2))))))) (zaD (dC (.bool false))) zam)) (zP (zan (dOp dIx (zh 1) (dOp dIx (zh 5) (dC (.int 1)))) (zk 11)) (zP (zan (dCB zpJ (zc (zbg [none,none,some 8] (za9 (dOp dIx (zh 11) (dC (.int 0)))) (zcd 2 (zT (zk 0) (zT (zk 1) zb8))) zae (dOp zfQ (zh 1) (dOp dIx (zh 2) (zh 0)))) zq)) (zk 12)) (zaD (zvL (dOp (dIb fun i j=>decide (i<j)) (zh 12) (dOp dIx (zh 11) (dC (.int 1)))) (dOp (dIb fun i j=>decide (j<i)) (zh 12) (dOp dIx (zh 11) (dC (.int 2)))))))))))))))) (zbC S.length R) (xs.map some++List.replicate 7 none) S
def zbe:PN:=fun xs S R=>(zP (zbR (zga (zfV (dCB zpH (zc (zbg [none,some 0] (za9 (zh 1)) (zk 0) zae (zX 2 zb3 (zc (zh 1) (zc (zh 0) zq)))) zq)))) (zaD (dC (.bool false))) zam) (zP (zbR (zga (zfV (dCB zpH (zc (zbg [none,none] (zdP (zc (zh 1) (zc (dSl zlA (zh 1) (zel (dC (.int 1))) zbr) zq))) (zcd 2 (zT (zk 0) (zT (zk 1) zb8))) zae (zfi (dOp zvA (zh 0) (zh 1)) (dOp zmB (dSl zrV (zh 1) zbr (zel (dCB zaT (zc (zh 0) zq)))) (zh 0)))) zq)))) (zaD (dC (.bool false))) zam) (zaD (dOp zf3 (dCB zpJ (zc (zbg [none,some 0] (za9 (zh 1)) (zk 0) zae (zX 2 zaI (zc (zh 1) (zc (zh 0) zq)))) zq)) (zX 2 zaI (zc (zh 0) (zc (zc0 zq) zq))))))) (zbC S.length R) (xs.map some++List.replicate 0 none) S
def zcU:PN:=fun xs S R=>(zP (zbR (dB (dOp zf3 (zh 4) (zc0 (zc (dC (.str "dear")) zq)))) (zaD (dOp (dIb fun i j=>decide (j<=i)) (zX 2 zc2 (zc (zh 1) (zc (zh 3) zq))) (zh 2))) zam) (zP (zbR (dOr (zga (zfV (dCB ziH (zc (zh 4) (zc (dO (.ty "tuple")) zq))))) (dOr (dB (dOp zmB (dCB zaT (zc (zh 4) zq)) (dC (.int 3)))) (dB (dOp zmB (dOp dIx (zh 4) (dC (.int 0))) (dC (.str "breaks")))))) (zaD (dC (.bool false))) zam) (zP (zbR (dOr (zga (zfV (zX 1 zbI (zc (dOp dIx (zh 4) (dC (.int 1))) zq)))) (zga (dB (zgY (dIb fun i j=>decide (i<=j)) (dIb fun i j=>decide (i<j)) (dC (.int 0)) (dOp dIx (zh 4) (dC (.int 1))) (dCB zaT (zc (dOp dIx (zh 0) (dC (.int 1))) zq)))))) (zaD (dC (.bool false))) zam) (zaD (zfi (zX 2 zgs (zc (zX 3 zcC (zc (dOp dIx (zh 0) (dC (.int 0))) (zc (zh 1) (zc (zh 3) zq)))) (zc (dOp dIx (zh 4) (dC (.int 2))) zq))) (zmr (zX 2 zha (zc (dOp dIx (dOp dIx (zh 0) (dC (.int 1))) (dOp dIx (zh 4) (dC (.int 1)))) (zc (dOp dIx (zh 4) (dC (.int 2))) zq))))))))) (zbC S.length R) (xs.map some++List.replicate 0 none) S
def zb4:PN:=fun xs S R=>(zP (zbR (zga (zfV (dCB ziH (zc (zh 4) (zc (dO (.ty "list")) zq))))) (zaD (dC (.bool false))) zam) (zP (zgf (za9 (zh 4)) (zk 5) (zP (zbR (dOr (zga (zfV (dCB ziH (zc (zh 5) (zc (dO (.ty "tuple")) zq))))) (dOr (dB (dOp zmB (dCB zaT (zc (zh 5) zq)) (dC (.int 2)))) (dOr (zga (zfV (dCB ziH (zc (dOp dIx (zh 5) (dC (.int 0))) (zc (dO (.ty "tuple")) zq))))) (dB (dOp (dIb fun i j=>decide (j<i)) (dCB zaT (zc (dOp dIx (zh 5) (dC (.int 0))) zq)) (dCB zaT (zc (zh 2) zq))))))) (zaD (dC (.bool false))) zam) (zP (zgf (zdP (zc (dOp dIx (zh 5) (dC (.int 0))) (zc (zh 2) zq))) (zcd 2 (zT (zk 6) (zT (zk 7) zb8))) (zbR (dOr (zga (zfV (zX 1 zbX (zc (zh 6) zq)))) (dB (zkx true (zh 6) (zc (dCB zaT (zc (zh 7) zq)) zq)))) (zaD (dC (.bool false))) zam)) (zbR (zga (zfV (zX 6 zcI (zc (zh 0) (zc (zh 1) (zc (zh 2) (zc (zh 3) (zc (dOp dIx (zh 5) (dC (.int 0))) (zc (dOp dIx (zh 5) (dC (.int 1))) zq))))))))) (zaD (dC (.bool false))) zam)))) (zP (zan (zbg [none] (za9 (zh 4)) (zk 0) zae (dOp dIx (zh 0) (dC (.int 0)))) (zk 8)) (zP (zbR (dB (dOp zmB (zh 8) (dCB zlI (zc (zh 8) zq)))) (zaD (dC (.bool false))) zam) (zP (ztv (zmn 9 (zql (fun M=>(za9 (zh 8))) (zk 10) (zp4 9 (fun M=>(zh 10)) (fun M=>(dOp zb0 (zmj M (zh 9) (zh 10) (dC (.int 0))) (dC (.int 1)))))))) (zaD (dCB zpH (zc (zbg [none,some 9] (za9 (zX 1 zbM (zc (zh 2) zq))) (zk 0) zae (dOp zf3 (zX 2 zcS (zc (zh 0) (zc (zh 1) zq))) (dC (.int 1)))) zq)))))))) (zbC S.length R) (xs.map some++List.replicate 6 none) S
def zb2:PN:=fun xs S R=>(zP (zan (zbg [none,some 2,some 0,some 1] (za9 (zX 1 zbM (zc (zh 2) zq))) (zk 0) (zfV (zX 4 zft (zc (zh 2) (zc (zh 3) (zc (zh 1) (zc (zh 0) zq)))))) (zX 2 zaR (zc (zh 1) (zc (zh 0) zq)))) (zk 3)) (zaD (dIf (dB (dOp zf3 (zh 3) (zhr zq))) (dC .none) (dCB zkO (zc (zh 3) zq))))) (zbC S.length R) (xs.map some++List.replicate 1 none) S
def zek:PN:=fun xs S R=>(zP (zbR (zga (zfV (dCB ziH (zc (zh 1) (zc (dO (.ty "list")) zq))))) (zaD (dC (.bool false))) zam) (zP (zbR (zga (zfV (dCB zpH (zc (zbg [none] (za9 (zh 1)) (zk 0) zae (zfi (dCB ziH (zc (zh 0) (zc (dO (.ty "tuple")) zq))) (dOp zf3 (dCB zaT (zc (zh 0) zq)) (dC (.int 2))))) zq)))) (zaD (dC (.bool false))) zam) (zaD (zX 2 zbe (zc (zh 0) (zc (zbg [none] (za9 (zh 1)) (zk 0) zae (dOp dIx (zh 0) (dC (.int 0)))) zq)))))) (zbC S.length R) (xs.map some++List.replicate 0 none) S
def zcp:PN:=fun xs S R=>(zP (zbR (zga (zfV (zX 2 zek (zc (zX 1 zct (zc (zh 1) zq)) (zc (zh 3) zq))))) (zaD (dC (.bool false))) zam) (zaD (dCB zpH (zc (zbg [none,none,some 0,some 1,some 2] (za9 (zh 3)) (zcd 2 (zT (zk 0) (zT (zk 1) zb8))) zae (zX 5 zcU (zc (zh 2) (zc (zh 3) (zc (zh 4) (zc (zh 0) (zc (zh 1) zq))))))) zq)))) (zbC S.length R) (xs.map some++List.replicate 0 none) S
def zsY:DS:=(zP (zan (zX 1 zcT (zc (zh 1) zq)) (zk 2)) (zP (zan (dIf (dB (dOp zf3 (zH 0 2 zp (zc (zh 2) (zc (dC (.int 2)) zq))) (dC (.int 0)))) (zH 0 2 zdV (zc (zh 2) (zc (dC (.int 4)) zq))) (zH 0 2 za3 (zc (zh 2) (zc (dC (.int 4)) zq)))) (zk 3)) (zP (zan (dSl zrV (zh 3) zbr (zel (dC (.int 4)))) (zk 3)) (zP (zbR (dB (dOp zf3 (zH 0 2 zp (zc (zh 2) (zc (dC (.int 6)) zq))) (dC (.int 0)))) (zan (zH 0 2 za3 (zc (zh 2) (zc (dC (.int 8)) zq))) (zk 3)) zam) (zP (zan (zH 0 2 zbK (zc (zh 2) (zc (zh 3) zq))) (zk 4)) (zP (zbR (dB (dOp (dIb fun i j=>decide (j<i)) (dCB zaT (zc (zh 3) zq)) (dC (.int 4)))) (zan (dCB zby (zc (zbg [none] (za9 (zh 4)) (zk 0) zae (dSl zrV (zh 0) zbr (zel (dC (.int 2))))) zq)) (zk 4)) zam) (zP (zan (zH 0 4 zbP (zc (zh 2) (zc (zh 3) (zc (zh 4) (zc (dC (.int 3)) zq))))) (zk 5)) (zP (zan (zX 3 zb2 (zc (zh 3) (zc (zh 5) (zc (zh 4) zq)))) (zk 6)) (zgf (za9 (zX 2 zcQ (zc (zh 4) (zc (zh 6) zq)))) (zk 7) (zP (zan (zX 3 zc1 (zc (zc0 (zc (zh 3) (zc (zh 5) zq))) (zc (zh 4) (zc (zh 7) zq)))) (zk 8)) (zP (zbR (dB (dOp zmB (dOp zqJ (zh 8) (dC .none)) (zfi (dOp zmG (zh 6) (dC .none)) (dOp (dIb fun i j=>decide (i<j)) (zh 6) (zh 7))))) (zaD (dC (.bool false))) zam) (zbR (dB (dOp zl7 (zh 8) (dC .none))) (zP (zbR (zga (zfV (zh6 5 zb4 (zc (zh 3) (zc (zh 5) (zc (zh 4) (zc (zh 7) (zc (zh 8) zq)))))))) (zaD (dC (.bool false))) zam) (zP (zbR (dB (dOp zp6 (zh6 4 zcp (zc (zc0 (zc (zh 3) (zc (zh 5) zq))) (zc (zh 4) (zc (zh 7) (zc (zh 8) zq))))) (dC (.bool true)))) (zaD (dC (.bool false))) zam) (zP (zan (dCB zlY (zc (zh 8) zq)) (zk 9)) (zP (zdi (dBM zbN (zh 8) (zc (dC (.int 0)) zq))) (zbR (dB (dOp zmB (zX 3 zc1 (zc (zc0 (zc (zh 3) (zc (zh 5) zq))) (zc (zh 4) (zc (zh 7) zq)))) (zh 9))) (zaD (dC (.bool false))) zam))))) zam))))))))))))
end My
namespace My
open PySem L2
theorem seq1{t u:DS}{E:DEnds}{δ:XE}{S:Sto}(h:t { E with nx:=u E } δ S):zP t u E δ S:=h
theorem cut{t u:DS}{E:DEnds}{δ:XE}{S:Sto}(I:XE->Sto->Prop)(h1:∀ N:XE->Sto->Prop,(∀ δ' S',I δ' S'->N δ' S')->t { E with nx:=N } δ S)(h2:∀ δ' S',I δ' S'->u E δ' S'):zP t u E δ S:=h1 _ h2
theorem zgP(i j:Int):PyData.eqv (.int i) (.int j)=decide (i=j):=rfl
theorem zlk(i j:Bool):PyData.eqv (.bool i) (.bool j)=decide (i=j):=by cases i <;> cases j <;> rfl
theorem zup(i:Int):SeqAt.shaped (.int i)=true:=rfl
theorem ztS(i:Bool):SeqAt.shaped (.bool i)=true:=rfl
theorem zom:("int" ∈ zpK)=True:=eq_true dz
theorem zlT:("bool" ∈ zpK)=True:=eq_true dz
theorem zkv:("tuple" ∈ zpK)=True:=eq_true dz
theorem zmc:("list" ∈ zpK)=True:=eq_true dz
theorem zok:("str" ∈ zpK)=True:=eq_true dz
end My
namespace My
open PySem L2
local macro_rules | `(tactic| walk_at "d")=>`(tactic| (try simp only [zan,ziz,zlI,znX,zo5,zl6,zl0,ziN,zty,ztF,zlC,zlM,all_cons,List.all_nil,Bool.and_self,zoY,zq6,ztv,zuQ,zr1,zwF,zql,zp4,zmj,zou,zkx,zp6,zrb,ztV,zr2,zvA,zrV,zk,zh,dC,dO,dOp,dUn,zq,zc,dCB,zc0,zhr,zdb,dB,zga,ztX,dOr,zfi,zvL,zmr,dIf,zgY,dI,dI0,dIb,dUI,zf3,zmB,zvd,zmG,zuL,ztL,zt7,zuq,zrZ,zrx,zrB,zrs,zsf,zrN,zr5,zrG,zrH,dFd,zfV,zrl,zr4,zrW,zbr,zel,dSl,zaT,zpz,zr0,zrw,ziH,zqv,dI2,zby,zlY,zgZ,dBM,ztU,zvE,zvK,zbN,zgg,zfw,zvB,zqR,zmf,zq4,zpJ,zpH,zX,zH,zh6,zri,zj8,zfC,zmo,zvr,zuG,zuT,zuK,asL,zrv,zuI,zuu,zui,zu7,zoW,zoV,zrO,zrr,zrU,zur,zt5,zpm,zon,zrT,zrA,zrK,zr9,zaD,zbR,zdi,zam,zlx,zgf,za9,zry,zro,zaY,zpq,zja,zdP,zcd,zT,zt1,zuU,ztR,zuk,ztE,zvq,zb8,zjC,zbg,zfU,zae,zrd,zvH,zgI,zml,zmd,zlw,zkm,zhR,List.replicate,map_cons,map_nil,map_some,Option.bind_some,Option.bind_none,Option.join_some,getElem?_cons_zero,getElem?_cons_succ,set_cons_zero,set_cons_succ,List.take_succ_cons,take_zero,List.take_nil,length_cons,length_nil,nil_append,cons_append,Option.some.injEq,exists_eq_left',exists_eq_left,List.cons.injEq,XV.d.injEq,XV.l.injEq,XV.o.injEq,PyData.int.injEq,PyData.list.injEq,PyData.tuple.injEq,PyData.bool.injEq,PyData.str.injEq,and_true,true_and,decide_eq_true_eq,Bool.not_true,Bool.not_false,Bool.false_eq_true,Bool.true_eq_false,not_true_eq_false,not_false_eq_true,↓reduceIte,decide_true,decide_false,Bool.not_eq_true',ziE,decide_eq_false_iff_not,Nat.reduceAdd,Nat.reduceMul,zero_add,Nat.reduceLT,Nat.reduceLeDiff,Nat.reduceEqDiff,Int.reduceLT,Int.reduceLE,Int.reduceNeg,Int.reducePow,Int.reduceToNat,Int.reduceEq,Int.reduceAdd,Int.reduceSub,Int.reduceMul,le_refl,zero_le,length_append,length_map,zgP,zlk,zup,ztS,List.isEmpty_nil,List.isEmpty_cons,Int.cast_ofNat_Int,Int.natCast_zero,Int.natCast_one,zom,zlT,zkv,zmc,zok,zo1,zlo,zkj,zlZ,znO]))
local macro_rules | `(tactic| walk_at "n")=>`(tactic| (refine seq1 ?_; walk_at "d"))
local macro_rules | `(tactic| walk_at "dX")=>`(tactic| (try simp -implicitDefEqProofs only [zan,ziz,zlI,znX,zo5,zl6,zl0,ziN,zty,ztF,zlC,zlM,all_cons,List.all_nil,Bool.and_self,zoY,zq6,ztv,zuQ,zr1,zwF,zql,zp4,zmj,zou,zkx,zp6,zrb,ztV,zr2,zvA,zrV,zk,zh,dC,dO,dOp,dUn,zq,zc,dCB,zc0,zhr,zdb,dB,zga,ztX,dOr,zfi,zvL,zmr,dIf,zgY,dI,dI0,dIb,dUI,zf3,zmB,zvd,zmG,zuL,ztL,zt7,zuq,zrZ,zrx,zrB,zrs,zsf,zrN,zr5,zrG,zrH,dFd,zfV,zrl,zr4,zrW,zbr,zel,dSl,zaT,zpz,zr0,zrw,ziH,zqv,dI2,zby,zlY,zgZ,dBM,ztU,zvE,zvK,zbN,zgg,zfw,zvB,zqR,zmf,zq4,zpJ,zpH,zX,zH,zh6,zri,zj8,zfC,zmo,zvr,zuG,zuT,zuK,asL,zrv,zuI,zuu,zui,zu7,zoW,zoV,zrO,zrr,zrU,zur,zt5,zpm,zon,zrT,zrA,zrK,zr9,zaD,zbR,zdi,zam,zlx,zgf,za9,zry,zro,zaY,zpq,zja,zdP,zcd,zT,zt1,zuU,ztR,zuk,ztE,zvq,zb8,zjC,zbg,zfU,zae,zrd,zvH,zgI,zml,zmd,zlw,zkm,zhR,List.replicate,map_cons,map_nil,map_some,Option.bind_some,Option.bind_none,Option.join_some,getElem?_cons_zero,getElem?_cons_succ,set_cons_zero,set_cons_succ,List.take_succ_cons,take_zero,List.take_nil,length_cons,length_nil,nil_append,cons_append,Option.some.injEq,exists_eq_left',exists_eq_left,List.cons.injEq,XV.d.injEq,XV.l.injEq,XV.o.injEq,PyData.int.injEq,PyData.list.injEq,PyData.tuple.injEq,PyData.bool.injEq,PyData.str.injEq,and_true,true_and,decide_eq_true_eq,Bool.not_true,Bool.not_false,Bool.false_eq_true,Bool.true_eq_false,not_true_eq_false,not_false_eq_true,↓reduceIte,decide_true,decide_false,Bool.not_eq_true',ziE,decide_eq_false_iff_not,Nat.reduceAdd,Nat.reduceMul,zero_add,Nat.reduceLT,Nat.reduceLeDiff,Nat.reduceEqDiff,Int.reduceLT,Int.reduceLE,Int.reduceNeg,Int.reducePow,Int.reduceToNat,Int.reduceEq,Int.reduceAdd,Int.reduceSub,Int.reduceMul,le_refl,zero_le,length_append,length_map,zgP,zlk,zup,ztS,List.isEmpty_nil,List.isEmpty_cons,Int.cast_ofNat_Int,Int.natCast_zero,Int.natCast_one,zom,zlT,zkv,zmc,zok,zo1,zlo,zkj,zlZ,znO]))
local macro_rules | `(tactic| walk_at "e")=>`(tactic| (try simp only [zP,zan,ziz,zlI,znX,zo5,zl6,zl0,ziN,zty,ztF,zlC,zlM,all_cons,List.all_nil,Bool.and_self,zoY,zq6,ztv,zuQ,zr1,zwF,zql,zp4,zmj,zou,zkx,zp6,zrb,ztV,zr2,zvA,zrV,zk,zh,dC,dO,dOp,dUn,zq,zc,dCB,zc0,zhr,zdb,dB,zga,ztX,dOr,zfi,zvL,zmr,dIf,zgY,dI,dI0,dIb,dUI,zf3,zmB,zvd,zmG,zuL,ztL,zt7,zuq,zrZ,zrx,zrB,zrs,zsf,zrN,zr5,zrG,zrH,dFd,zfV,zrl,zr4,zrW,zbr,zel,dSl,zaT,zpz,zr0,zrw,ziH,zqv,dI2,zby,zlY,zgZ,dBM,ztU,zvE,zvK,zbN,zgg,zfw,zvB,zqR,zmf,zq4,zpJ,zpH,zX,zH,zh6,zri,zj8,zfC,zmo,zvr,zuG,zuT,zuK,asL,zrv,zuI,zuu,zui,zu7,zoW,zoV,zrO,zrr,zrU,zur,zt5,zpm,zon,zrT,zrA,zrK,zr9,zaD,zbR,zdi,zam,zlx,zgf,za9,zry,zro,zaY,zpq,zja,zdP,zcd,zT,zt1,zuU,ztR,zuk,ztE,zvq,zb8,zjC,zbg,zfU,zae,zrd,zvH,zgI,zml,zmd,zlw,zkm,zhR,List.replicate,map_cons,map_nil,map_some,Option.bind_some,Option.bind_none,Option.join_some,getElem?_cons_zero,getElem?_cons_succ,set_cons_zero,set_cons_succ,List.take_succ_cons,take_zero,List.take_nil,length_cons,length_nil,nil_append,cons_append,Option.some.injEq,exists_eq_left',exists_eq_left,List.cons.injEq,XV.d.injEq,XV.l.injEq,XV.o.injEq,PyData.int.injEq,PyData.list.injEq,PyData.tuple.injEq,PyData.bool.injEq,PyData.str.injEq,and_true,true_and,decide_eq_true_eq,Bool.not_true,Bool.not_false,Bool.false_eq_true,Bool.true_eq_false,not_true_eq_false,not_false_eq_true,↓reduceIte,decide_true,decide_false,Bool.not_eq_true',ziE,decide_eq_false_iff_not,Nat.reduceAdd,Nat.reduceMul,zero_add,Nat.reduceLT,Nat.reduceLeDiff,Nat.reduceEqDiff,Int.reduceLT,Int.reduceLE,Int.reduceNeg,Int.reducePow,Int.reduceToNat,Int.reduceEq,Int.reduceAdd,Int.reduceSub,Int.reduceMul,le_refl,zero_le,length_append,length_map,zgP,zlk,zup,ztS,List.isEmpty_nil,List.isEmpty_cons,Int.cast_ofNat_Int,Int.natCast_zero,Int.natCast_one,zom,zlT,zkv,zmc,zok,zo1,zlo,zkj,zlZ,znO]))
section
variable {R:RX}
theorem zgW{n:Int}(q:∀ m,0<=m->R (.d (.int m)) []):zc6 [.d (.int n)] [] R:=by
 unfold zc6;walk_at "e";have h1:=Int.emod_nonneg (n+7919) (show (2147483647:Int)≠0 by decide);have h2:=Int.emod_lt_of_pos (n+7919) (show (0:Int)<2147483647 by decide);exact⟨zd1 (by omega) (by omega),zd1 dz dz,q _ (Int.emod_nonneg _ dz)⟩
theorem zx{p:List PyData}{n:Int}(hp:zab p)(hn:0<n)(hb:n.natAbs.log2<9000)(q:∀ r p',0<=r->r<n->zab p'->R (.d (.int r)) [p']):zp [.l 0,.d (.int n)] [p] R:=by
 obtain⟨l,g,sd,rfl,hl⟩:=hp;unfold zp;walk_at "e";split
 ·refine⟨hn,.inl ⟨⟨hn,hb⟩,0,rfl,?_⟩⟩;walk_at "e";exact q _ _ (Int.emod_nonneg _ (by omega)) (Int.emod_lt_of_pos _ hn) ⟨_,_,_,rfl,Int.ediv_nonneg hl (by omega)⟩
 ·refine zgW fun m _=>?_;walk_at "e";refine zgW fun m' h'=>?_;walk_at "e";refine⟨2,rfl,?_⟩;walk_at "e";exact .inl ⟨⟨by decide,by decide +kernel⟩,hn,q _ _ (Int.emod_nonneg _ (by omega)) (Int.emod_lt_of_pos _ hn) ⟨_,_,_,rfl,hl⟩⟩
theorem ziw{n:Int}(q:∀ p,zab p->R (.l 0) [p]):zcT [.d (.int n)] [] R:=by
 unfold zcT;walk_at "e";refine⟨⟨by decide,by decide,by decide⟩,?_⟩;refine .inr (q _ ⟨_,_,_,rfl,?_⟩);split <;> omega
theorem zdB{p:List PyData}(hp:zab p)(q:∀ r p',-10 ^ 58<=r->r<=10 ^ 58->zab p'->R (.d (.int r)) [p']):zaU [.l 0] [p] R:=by
 unfold zaU;walk_at "e";refine zx hp dz (by decide +kernel) fun r p1 r0 r1 hp1=>?_;walk_at "e";split
 ·refine zx hp1 dz (by decide +kernel) fun r p2 r0 r1 hp2=>?_;walk_at "e";exact q _ _ (by omega) (by omega) hp2
 ·split
  ·refine zx hp1 dz (by decide +kernel) fun r p2 r0 r1 hp2=>?_;walk_at "e";exact q _ _ (by omega) (by omega) hp2
  ·refine⟨⟨by decide,by decide,by decide⟩,zd1 dz dz,?_⟩;have k1:(10:Int) ^ 30=1000000000000000000000000000000:=by decide +kernel
   have k2:(10:Int) ^ 28=10000000000000000000000000000:=by decide +kernel
   refine zx hp1 (by decide +kernel) (by decide +kernel) fun r p2 r0 r1 hp2=>?_;walk_at "e"
   try simp only [k1,k2] at r1 ⊢
   refine⟨⟨by decide,by decide,by decide⟩,⟨by decide,by decide,by decide⟩,zvN 128 128 (by omega) (by decide +kernel),q _ _ (by omega) (by omega) hp2⟩
theorem ziX{p:List PyData}(hp:zab p)(q:∀ r p',-10 ^ 58<=r->r<=10 ^ 58->zab p'->R (.d (.int r)) [p']):zfT [.l 0] [p] R:=zdB hp q
theorem zkM{p:List PyData}(hp:zab p)(q:∀ lo hi p',lo<=hi->-10 ^ 58<=lo->hi<=10 ^ 59->zab p'->R (.d (spD lo hi)) [p']):zhY [.l 0] [p] R:=by
 unfold zhY;walk_at "e";refine ziX hp fun lo p1 l0 l1 hp1=>?_;walk_at "e";refine zx hp1 dz (by decide +kernel) fun wd p2 w0 w1 hp2=>?_;walk_at "e";refine zx hp2 dz (by decide +kernel) fun t p3 t0 t1 hp3=>?_;walk_at "e";split
 ·refine⟨⟨by decide,by decide,by decide⟩,?_⟩;refine zx hp3 (by decide +kernel) (by decide +kernel) fun wd p4 w0 w1 hp4=>?_;walk_at "e";have k1:(10:Int) ^ 40=10000000000000000000000000000000000000000:=by decide +kernel
  try rw [k1] at w1
  exact q lo (lo+wd) _ (by omega) l0 (by omega) hp4
 ·exact q lo (lo+wd) _ (by omega) l0 (by omega) hp3
theorem zhx{p:List PyData}(hp:zab p)(q:∀ lo hi p',lo<=hi->-10 ^ 58<=lo->hi<=10 ^ 59->zab p'->R (.d (spD lo hi)) [p']):zcj [.l 0] [p] R:=zkM hp q
end
section
variable {R:RX}
theorem zuD{α:Type}[Inhabited α]{l:List α}{i:Int}(h0:0<=i)(h1:i<l.length)(d:α):atI l i=some (l.getD i.toNat d):=by
 obtain⟨k,rfl⟩:=Int.eq_ofNat_of_zero_le h0;have hk:k<l.length:=by omega
 rw [zdo (getElem?_eq_getElem hk)];simp [getD_eq_getElem?_getD,hk]
theorem zlv:("abcdefghijklmnopqrstuvwxyz":Str).length=26:=by decide
theorem zqs:("abcdefghijklmnopqrstuvwxyz":Str).cps.toList.length=26:=by rw [<- zlv]; simp [Str.length]
theorem zjX:("abcdefghijklmnopqrstuvwxyz":Str).length<=sizeLine:=le_of_lt (small1000 (by rw [zlv]; decide))
theorem len1(c:Nat):(⟨#[c]⟩:Str).length=1:=rfl
abbrev lsgn (i:Int):Str:=⟨#[("abcdefghijklmnopqrstuvwxyz":Str).cps.toList.getD i.toNat 0]⟩
theorem zoH{i:Int}(h0:0<=i)(h1:i<26):atI ("abcdefghijklmnopqrstuvwxyz":Str).cps.toList i=some (("abcdefghijklmnopqrstuvwxyz":Str).cps.toList.getD i.toNat 0):=zuD h0 (by rw [zqs]; exact h1) 0
theorem znF{ds:List PyData}{a b:Option Int}{d:PyData}(m:d∈zdl ds a b):d∈ds:=by
 unfold zdl at m;exact mem_of_mem_drop (mem_of_mem_take m)
def zfb(z:Str):Bool:=decide (z.length<=100) && PyData.strOk z && !decide (z = "zy")
theorem ztO:∀ f<26,∀ k<8,zfb (PySem.Txt.mul (lsgn (((f:Nat)+5*(0+((k:Nat):Int))) % 26)) (1+((f:Nat)+3*(0+((k:Nat):Int))) % 8))=true:=by decide +kernel
theorem zu1:∀ f<26,∀ k<8,zfb (PySem.Txt.slice (PySem.Txt.join "" ((List.range 8).map fun k:Nat=>lsgn (((f:Nat)+7*(0+(k:Int))) % 26))) none (some (0+((k:Nat):Int)+1)))=true:=by decide +kernel
theorem zsq{ds:List PyData}(h:∀ d∈ds,∃ z:Str,d=.str z/\zfb z=true):∃ zs:List Str,ds=zs.map PyData.str/\zs.length=ds.length/\∀ z∈zs,zfb z=true:=by
 induction ds with
 | nil=>exact⟨[],rfl,rfl,by simp⟩
 | cons d ds ih =>
  obtain⟨z,rfl,hz⟩:=h d mem_cons_self;obtain⟨zs,rfl,hl,hzs⟩:=ih fun d m=>h d (mem_cons_of_mem _ m);refine⟨z :: zs,rfl,by simp,fun y m=>?_⟩;rcases mem_cons.mp m with rfl | m
  ·exact hz
  ·exact hzs y m
theorem zpp(a b:Str):(a++b).length=a.length+b.length:=strLen_append a b
theorem zj1:∀ zs:List Str,(∀ z∈zs,z.length<=1)->(Str.join "" zs).length<=zs.length
 | [],_=>le_refl 0
 | [a],h=>h a mem_cons_self
 | a :: b :: r,h=>by
  show (a ++ "" ++ Str.join "" (b :: r)).length<=_;rw [zpp,zpp];have e:("":Str).length=0:=rfl;have h1:=h a mem_cons_self;have h2:=zj1 (b :: r) fun z m=>h z (mem_cons_of_mem _ m);rw [e];simp only [length_cons] at h2 ⊢;omega
def zkz(ds:List PyData):Prop:=∀ d∈ds,∃ z:Str,d=.str z/\zfb z=true
theorem zkZ{ds:List PyData}{a:Int}(h0:0<=a)(h1:a<=ds.length):(zdl ds (some a) none++zdl ds none (some a)).length=ds.length:=by
 obtain⟨k,rfl⟩:=Int.eq_ofNat_of_zero_le h0;have e1:HT.sIx ds.length 0 (some (k:Int))=k:=by rw [HT.sIx_nat]; omega
 have e2:HT.sIx ds.length ds.length (some (k:Int))=k:=by rw [HT.sIx_nat]; omega
 have e3:HT.sIx ds.length ds.length none=ds.length:=rfl;have e4:HT.sIx ds.length 0 none=0:=rfl;unfold zdl;rw [e1,e2,e3,e4,length_append,length_take,length_take,length_drop,length_drop];omega
def znW:List Str:=["part","gap","cut","a","aa","dear","b","keeps"]
set_option maxHeartbeats 8000000 in
theorem zdQ{p:List PyData}(hp:zab p)(q:∀ (ns:List Str) p',ns.length=8->(∀ z∈ns,zfb z=true)->zab p'->R (.d (.list (ns.map PyData.str))) [p']):zaP [.l 0] [p] R:=by
 unfold zaP;walk_at "dX"
 (refine seq1 ?_; walk_at "dX")
 (refine seq1 ?_; walk_at "dX")
 refine zx hp dz (by decide +kernel) fun way p1 w0 w1 hp1=>?_;walk_at "dX"
 (refine seq1 ?_; walk_at "dX")
 refine zx hp1 dz (by decide +kernel) fun fst p2 f0 f1 hp2=>?_;walk_at "dX";refine cut (fun δ' S'=>∃ (ds:List PyData),zkz ds/\ds.length=8/\S'=[p2,ds]/\δ'=[some (.l 0),some (.d (.str ("abcdefghijklmnopqrstuvwxyz":Str))),some (.d (.int way)),some (.d (.int fst)),some (.l 1),none,none]) (fun N hN=>?_) ?_
 ·walk_at "dX";refine cmp1 (S0:=[p2]) (fun k:Nat=>.str (PySem.Txt.mul (lsgn ((fst+5*(0+k)) % 26)) (1+(fst+3*(0+k)) % 8))) rfl (List.range 8) (by simp) ?_ ?_
  ·intro k mk u acc R' hk;have b1:=Int.emod_nonneg (fst+5*(0+(k:Int))) (show (26:Int)≠0 by decide);have b2:=Int.emod_lt_of_pos (fst+5*(0+(k:Int))) (show (0:Int)<26 by decide);have b3:=Int.emod_nonneg (fst+3*(0+(k:Int))) (show (8:Int)≠0 by decide);have b4:=Int.emod_lt_of_pos (fst+3*(0+(k:Int))) (show (0:Int)<8 by decide);walk_at "dX";refine⟨zd1 dz dz,zjX,_,zoH b1 b2,?_⟩;walk_at "dX";refine⟨zd1 dz dz,?_⟩;walk_at "dX";exact⟨by rw [len1]; decide,by omega,by omega,hk _⟩
  ·refine hN _ _ ⟨_,?_,by simp,rfl,rfl⟩;intro d m;obtain⟨k,mk,rfl⟩:=mem_map.mp m;obtain⟨f,rfl⟩:=Int.eq_ofNat_of_zero_le f0;exact⟨_,rfl,ztO f (by omega) k (mem_range.mp mk)⟩
 rintro _ _ ⟨ds,hds,hl,rfl,rfl⟩;refine cut (fun δ' S'=>∃ (ds:List PyData) (T:Sto) (k:Nat) (u:Option XV),zkz ds/\ds.length=8/\T[k]? = some ds/\S'=p2 :: T/\δ'=[some (.l 0),some (.d (.str ("abcdefghijklmnopqrstuvwxyz":Str))),some (.d (.int way)),some (.d (.int fst)),some (.l (k+1)),u,none]) (fun N hN=>?_) ?_
 ·walk_at "dX";split
  ·refine seq1 ?_;walk_at "dX";refine cmp1 (S0:=[p2,ds]) (fun k:Nat=>.str (lsgn ((fst+7*(0+k)) % 26))) rfl (List.range 8) (by simp) ?_ ?_
   ·intro k mk u acc R' hk;have b1:=Int.emod_nonneg (fst+7*(0+(k:Int))) (show (26:Int)≠0 by decide);have b2:=Int.emod_lt_of_pos (fst+7*(0+(k:Int))) (show (0:Int)<26 by decide);walk_at "dX";refine⟨zd1 dz dz,zjX,_,zoH b1 b2,?_⟩;exact hk _
   ·walk_at "dX";refine⟨(List.range 8).map fun k:Nat=>lsgn ((fst+7*(0+k)) % 26),by rw [map_map]; rfl,by decide,by simp,fun y m=>?_,?_⟩
    ·obtain⟨k,_,rfl⟩:=mem_map.mp m;show 1<=1000;decide
    ·have wl:(PySem.Txt.join "" ((List.range 8).map fun k:Nat=>lsgn ((fst+7*(0+k)) % 26))).length<=8*1016:=by
      have:=zqj (y:=("":Str)) (zs:=(List.range 8).map fun k:Nat=>lsgn ((fst+7*(0+k)) % 26)) dz (fun y m=>by
       obtain⟨k,_,rfl⟩:=mem_map.mp m;show 1<=1000;decide)
      simpa using this
     have wl':(PySem.Txt.join "" ((List.range 8).map fun k:Nat=>lsgn ((fst+7*(0+k)) % 26))).length<=8:=by
      show (Builtin.Str.glued _ _).length<=_;rw [StrLaws.glued_eq_join];have:=zj1 ((List.range 8).map fun k:Nat=>lsgn ((fst+7*(0+k)) % 26)) (fun y m=>by
       obtain⟨k,_,rfl⟩:=mem_map.mp m;exact le_refl 1)
      simpa using this
     walk_at "dX";refine cmp1 (S0:=[p2,ds]) (fun k:Nat=>.str (PySem.Txt.slice (PySem.Txt.join "" ((List.range 8).map fun k:Nat=>lsgn ((fst+7*(0+k)) % 26))) none (some (0+k+1)))) rfl (List.range 8) (by simp) ?_ ?_
     ·intro k mk u acc R' hk;walk_at "dX";exact⟨le_trans wl (by rw [sizeLine_eq]; decide),hk _⟩
     ·refine hN _ _ ⟨_,[ds,_],1,_,?_,?_,rfl,rfl,rfl⟩
      ·intro d m;obtain⟨k,mk,rfl⟩:=mem_map.mp m;obtain⟨f,rfl⟩:=Int.eq_ofNat_of_zero_le f0;exact⟨_,rfl,zu1 f (by omega) k (mem_range.mp mk)⟩
      ·simp
  ·exact hN _ _ ⟨ds,[ds],0,none,hds,hl,rfl,rfl,rfl⟩
 rintro _ _ ⟨ds,T,k,u,hds,hl,hk,rfl,rfl⟩;refine cut (fun δ' S'=>∃ (ds:List PyData) (T:Sto) (k:Nat),zkz ds/\ds.length=8/\T[k]? = some ds/\S'=p2 :: T/\δ'=[some (.l 0),some (.d (.str ("abcdefghijklmnopqrstuvwxyz":Str))),some (.d (.int way)),some (.d (.int fst)),some (.l (k+1)),u,none]) (fun N hN=>?_) ?_
 ·walk_at "dX";split
  ·refine hN _ _ ⟨znW.map PyData.str,T++[znW.map PyData.str],T.length,?_,rfl,by rw [getElem?_concat_length],rfl,rfl⟩;intro d m;obtain⟨z,hz,rfl⟩:=mem_map.mp m;refine⟨z,rfl,?_⟩;simp only [znW,mem_cons,not_mem_nil,or_false] at hz;rcases hz with rfl | rfl | rfl | rfl | rfl | rfl | rfl | rfl <;> decide +kernel
  ·exact hN _ _ ⟨ds,T,k,hds,hl,hk,rfl,rfl⟩
 rintro _ _ ⟨ds,T,k,hds,hl,hk,rfl,rfl⟩
 (refine seq1 ?_; walk_at "dX")
 refine zx hp2 dz (by decide +kernel) fun at' p3 a0 a1 hp3=>?_;walk_at "dX"
 (refine seq1 ?_; walk_at "dX")
 refine⟨ds,hk,ds,hk,?_⟩;have hc:=zkZ (ds:=ds) a0 (by omega);rw [length_append] at hc;refine⟨by omega,?_⟩;have hk2:(T++[zdl ds (some at') none++zdl ds none (some at')])[T.length]? = some (zdl ds (some at') none++zdl ds none (some at')):=by rw [getElem?_concat_length]
 have hs2:zkz (zdl ds (some at') none++zdl ds none (some at')):=fun d m=>(mem_append.mp m).elim (fun m=>hds d (znF m)) fun m=>hds d (znF m);have hl2:(zdl ds (some at') none++zdl ds none (some at')).length=8:=by rw [length_append]; omega
 generalize zdl ds (some at') none++zdl ds none (some at')=es at hk2 hs2 hl2 ⊢;refine seq1 ?_;walk_at "dX";refine zx hp3 dz (by decide +kernel) fun r p4 r0 r1 hp4=>?_;walk_at "dX";have fin':∀ (fs:List PyData),zkz fs->fs.length=8->R (.d (.list fs)) [p4]:=by
  intro fs h1 h2;obtain⟨zs,rfl,z1,z2⟩:=zsq h1;exact q zs p4 (by omega) z2 hp4
 split
 ·refine⟨by simp,es,hk2,?_⟩;walk_at "dX";rw [if_neg (by omega)];refine⟨es.reverse,by simp [zeS],.inl (fin' _ (fun d m=>hs2 d (mem_reverse.mp m)) (by simpa using hl2))⟩
 ·rw [if_neg (by omega)];exact⟨es,hk2,.inl (fin' _ hs2 hl2)⟩
abbrev Part:=Str×Int×Int
def zdL(p:Part):PyData:=.tuple [.str p.1,.int p.2.1,.int p.2.2]
def zbn(ps:List Part):PyData:=.tuple (ps.map zdL)
structure Prt(p:Part):Prop where
 nm:zfb p.1=true
 le:p.2.1<=p.2.2
 lo:-10 ^ 58<=p.2.1
 hi:p.2.2<=10 ^ 59
structure Drw(ps:List Part):Prop where
 l1:1<=ps.length
 l8:ps.length<=8
 all:∀ p∈ps,Prt p
theorem za5{α:Type}{f:α->PyData}{l:List α}{k:Nat}{x:α}(e:l[k]? = some x):atI (l.map f) (k:Int)=some (f x):=zdo (by rw [getElem?_map,e]; rfl)
theorem zgF{Q:PN}{p:List PyData}{m:Int}{span:PN}{names:PN}(hQ:Q=fun xs S R=>(zP (zan (zH 0 1 names (zc (zh 0) zq)) (zk 2)) (zP (zan (zdb zq) (zk 3)) (zP (zgf (zaY (zc (dOp zb0 (dC (.int 1)) (zH 0 2 zp (zc (zh 0) (zc (zh 1) zq)))) zq)) (zk 4) (zdi (dBM zbN (zh 3) (zc (dOp zb0 (zc0 (zc (dOp dIx (zh 2) (zh 4)) zq)) (zH 0 1 span (zc (zh 0) zq))) zq)))) (zaD (dCB zby (zc (zh 3) zq)))))) (zbC S.length R) (xs.map some++List.replicate 3 none) S)
  (hnames:∀ {p:List PyData} {R:RX},zab p->(∀ (ns:List Str) p',ns.length=8->(∀ z∈ns,zfb z=true)->zab p'->R (.d (.list (ns.map PyData.str))) [p'])->names [.l 0] [p] R)
  (hspan:∀ {p:List PyData} {R:RX},zab p->(∀ lo hi p',lo<=hi->-10 ^ 58<=lo->hi<=10 ^ 59->zab p'->R (.d (spD lo hi)) [p'])->span [.l 0] [p] R)
  (hp:zab p) (m1:0<m) (m8:m<=8) (q:∀ (ps:List Part) p',Drw ps->zab p'->R (.d (zbn ps)) [p']):Q [.l 0,.d (.int m)] [p] R:=by
 subst hQ;walk_at "d"
 walk_at "n"
 refine hnames hp fun ns p1 hn hz hp1=>?_;walk_at "d"
 walk_at "n"
 walk_at "n";refine zx hp1 m1 (zcs m1 (by omega)) fun r p2 r0 r1 hp2=>?_;walk_at "d";refine zav (fun i δ S=>∃ (p:List PyData) (ps:List Part) (u:Option XV),zab p/\ps.length=i/\(∀ p∈ps,Prt p)/\S=[p,ps.map zdL]/\δ=[some (.l 0),some (.d (.int m)),some (.d (.list (ns.map PyData.str))),some (.l 1),u]) ⟨p2,[],_,hp2,rfl,by simp,rfl,rfl⟩ ?_ ?_
 ·rintro i d _ _ N hi ⟨p,ps,u,hp,hl,ha,rfl,rfl⟩ hN;obtain⟨hi',rfl⟩:=zcB hi;have i8:i<ns.length:=by omega
  have e:=za5 (f:=PyData.str) (getElem?_eq_getElem i8);walk_at "d";simp only [Int.zero_add];refine⟨_,e,?_⟩;walk_at "d";refine hspan hp fun lo hi p3 h1 h2 h3 hp3=>?_;simp only [spD];walk_at "d";refine⟨by omega,hN _ _ ⟨p3,ps++[(ns[i],lo,hi)],_,hp3,by simp [hl],fun x hx=>?_,by simp [zdL],rfl⟩⟩;rcases mem_append.mp hx with hx | hx
  ·exact ha x hx
  ·rw [mem_singleton.mp hx];exact⟨hz _ (getElem_mem i8),h1,h2,h3⟩
 ·rintro _ _ ⟨p,ps,u,hp,hl,ha,rfl,rfl⟩;rw [zaC] at hl;walk_at "d";exact q ps p ⟨by omega,by omega,ha⟩ hp
theorem zcg{p:List PyData}{m:Int}(hp:zab p)(m1:0<m)(m8:m<=8)(q:∀ (ps:List Part) p',Drw ps->zab p'->R (.d (zbn ps)) [p']):za3 [.l 0,.d (.int m)] [p] R :=
 zgF (span:=zcj) (names:=zaP) rfl zdQ zhx hp m1 m8 q
end
section
variable {R:RX} {S:Sto}
theorem zr7{a b m:Int}(h1:m∈[a,b])(h2:∀ x,x∈[a,b]->m<=x):m=min a b:=by
 have ha:=h2 a (by simp);have hb:=h2 b (by simp);simp only [mem_cons,not_mem_nil,or_false] at h1;omega
theorem zrS{a b m:Int}(h1:m∈[a,b])(h2:∀ x,x∈[a,b]->x<=m):m=max a b:=by
 have ha:=h2 a (by simp);have hb:=h2 b (by simp);simp only [mem_cons,not_mem_nil,or_false] at h1;omega
theorem zw0{a b:Int}(q:R (.d (.int (min a b))) S):zkO [.d (.list [.int a,.int b])] S R:=.inl ⟨_,rfl,[a,b],rfl,by simp,fun m h1 h2=>by rw [zr7 h1 h2]; exact q⟩
theorem zw3{a b:Int}(q:R (.d (.int (min a b))) S):zkO [.d (.tuple [.int a,.int b])] S R:=.inl ⟨_,rfl,[a,b],rfl,by simp,fun m h1 h2=>by rw [zr7 h1 h2]; exact q⟩
theorem zw4{a b:Int}(q:R (.d (.int (max a b))) S):zvo [.d (.list [.int a,.int b])] S R:=⟨_,rfl,[a,b],rfl,by simp,fun m h1 h2=>by rw [zrS h1 h2]; exact q⟩
theorem zwW{a b:Int}(q:R (.d (.int (max a b))) S):zvo [.d (.tuple [.int a,.int b])] S R:=⟨_,rfl,[a,b],rfl,by simp,fun m h1 h2=>by rw [zrS h1 h2]; exact q⟩
abbrev Term:=Nat×Int
def tmD(t:Term):PyData:=.tuple [.int t.1,.int t.2]
def znb(ts:List Term):PyData:=.tuple (ts.map tmD)
structure Gap where
 ts:List Term
 lo:Int
 hi:Int
def zhT(g:Gap):PyData:=.tuple [znb g.ts,.int g.lo,.int g.hi]
theorem zce(g:Gap):zhT g=.tuple [znb g.ts,.int g.lo,.int g.hi]:=rfl
theorem zky(t:Term):tmD t=.tuple [.int t.1,.int t.2]:=rfl
theorem zfq(p:Part):zdL p=.tuple [.str p.1,.int p.2.1,.int p.2.2]:=rfl
def zaG(ns:List Int):PyData:=.tuple (ns.map PyData.int)
structure Tms(n:Nat)(ts:List Term):Prop where
 ne:ts≠[]
 len:ts.length<=n
 ok:∀ t∈ts,t.1<n/\t.2≠0/\-3<=t.2/\t.2<=3
 srt:ts.Pairwise fun t u=>t.1<u.1
structure Tm3(n:Nat)(ts:List Term):Prop where
 len:ts.length<=100
 ok:∀ t∈ts,t.1<n/\-3<=t.2/\t.2<=3
theorem Tms.tm3{n:Nat}{ts:List Term}(h:Tms n ts)(hn:n<=8):Tm3 n ts:=⟨by have:=h.len; omega,fun t m=>⟨(h.ok t m).1,(h.ok t m).2.2⟩⟩
theorem Tm3.of_cons{n:Nat}{t:Term}{ts:List Term}(h:Tm3 n (t :: ts)):Tm3 n ts:=⟨by have:=h.len; rw [length_cons] at this; omega,fun u m=>h.ok u (mem_cons_of_mem _ m)⟩
theorem Tm3.drop{n:Nat}{ts:List Term}(h:Tm3 n ts)(i:Nat):Tm3 n (ts.drop i):=⟨by have:=h.len; rw [length_drop]; omega,fun u m=>h.ok u (mem_of_mem_drop m)⟩
def worth(ts:List Term)(ns:List Int):Int:=(ts.map fun t=>t.2*ns.getD t.1 0).sum
theorem zhn{ns:List Int}{k:Nat}(h:k<ns.length):ns[k]? = some (ns.getD k 0):=by
 rw [getElem?_eq_getElem h,getD_eq_getElem?_getD,getElem?_eq_getElem h];rfl
def part(ps:List Part)(k:Nat):Part:=ps.getD k ("",0,0)
theorem zbq{ps:List Part}{k:Nat}(h:k<ps.length):ps[k]? = some (part ps k):=by
 unfold part;rw [getElem?_eq_getElem h,getD_eq_getElem?_getD,getElem?_eq_getElem h];rfl
theorem zp3{ps:List Part}{k:Nat}(h:k<ps.length):part ps k∈ps:=mem_of_getElem? (zbq h)
def plo(ps:List Part)(k:Nat):Int:=(part ps k).2.1
def phi(ps:List Part)(k:Nat):Int:=(part ps k).2.2
def tLo(ps:List Part)(t:Term):Int:=min (t.2*plo ps t.1) (t.2*phi ps t.1)
def tHi(ps:List Part)(t:Term):Int:=max (t.2*plo ps t.1) (t.2*phi ps t.1)
def zag(ps:List Part)(ts:List Term):Int:=(ts.map (tLo ps)).sum
def zb6(ps:List Part)(ts:List Term):Int:=(ts.map (tHi ps)).sum
theorem zeC{ps:List Part}{t:Term}{ts:List Term}:zag ps (t :: ts)=tLo ps t+zag ps ts:=by simp [zag]
theorem zh1{ps:List Part}{t:Term}{ts:List Term}:zb6 ps (t :: ts)=tHi ps t+zb6 ps ts:=by simp [zb6]
theorem zc8{ns:List Int}{t:Term}{ts:List Term}:worth (t :: ts) ns=t.2*ns.getD t.1 0+worth ts ns:=by simp [worth]
theorem zgy{ps:List Part}{ts:List Term}{i:Nat}{t:Term}(h:ts[i]? = some t):zag ps (ts.take (i+1))=zag ps (ts.take i)+tLo ps t:=by
 unfold zag;rw [take_add_one,h];simp
theorem zhQ{ps:List Part}{ts:List Term}{i:Nat}{t:Term}(h:ts[i]? = some t):zb6 ps (ts.take (i+1))=zb6 ps (ts.take i)+tHi ps t:=by
 unfold zb6;rw [take_add_one,h];simp
theorem zde(ps:List Part):∀ ts:List Term,zag ps ts<=zb6 ps ts
 | []=>by simp [zag,zb6]
 | t :: ts=>by
  have:=zde ps ts;rw [zeC,zh1];unfold tLo tHi;omega
theorem zbs{α:Type}{f:α->PyData}{l:List α}{i:Nat}{d:PyData}(h:(l.map f)[i]? = some d):∃ x,l[i]? = some x/\d=f x:=by
 rw [getElem?_map] at h;obtain⟨x,e,rfl⟩:=map_eq_some_iff.mp h;exact⟨x,e,rfl⟩
theorem zcX{ps:List Part}{ts:List Term}{t:PyData}(ht:zl3 (.d t)=some (ts.map tmD))(h3:Tm3 ps.length ts)(q:R (.d (spD (zag ps ts) (zb6 ps ts))) []):za2 [.d (zbn ps),.d t] [] R:=by
 unfold za2 zbn;walk_at "d"
 walk_at "n"
 walk_at "n"
 walk_at "n";refine⟨_,ht,?_⟩;refine zav (fun i δ S=>∃ (u1 u2 u3:Option XV),S=[]/\δ=[some (.d (.tuple (ps.map zdL))),some (.d t),some (.d (.int (zag ps (ts.take i)))),some (.d (.int (zb6 ps (ts.take i)))),u1,u2,u3]) ⟨_,_,_,rfl,rfl⟩ ?_ ?_
 ·rintro i d _ _ N hi ⟨u1,u2,u3,rfl,rfl⟩ hN;obtain⟨t,ht,rfl⟩:=zbs hi;obtain⟨t1,t2,t3⟩:=h3.ok t (mem_of_getElem? ht);have ep:=za5 (f:=zdL) (zbq t1);unfold tmD;walk_at "d"
  walk_at "n"
  refine⟨_,ep,?_⟩;unfold zdL;walk_at "d";refine⟨zd1 (by omega) (by omega),_,ep,?_⟩;unfold zdL;walk_at "d";refine⟨zd1 (by omega) (by omega),?_⟩
  walk_at "n"
  refine zw0 ?_;walk_at "d";refine zw4 ?_;walk_at "d";exact hN _ _ ⟨_,_,_,rfl,by rw [zgy ht,zhQ ht]; rfl⟩
 ·rintro _ _ ⟨u1,u2,u3,rfl,rfl⟩;rw [length_map,take_length];walk_at "d";exact q
theorem zpl{ds:List PyData}{r:Int}{P:PyData->Prop}(h0:0<=r)(h1:r<ds.length)(hP:∀ d∈ds,P d):∃ d,atI ds r=some d/\P d:=by
 obtain⟨k,rfl⟩:=Int.eq_ofNat_of_zero_le h0;have hk:k<ds.length:=by omega
 exact⟨ds[k],zdo (getElem?_eq_getElem hk),hP _ (getElem_mem hk)⟩
theorem zoQ(ds:List PyData):PyData.eqv (.list ds) (.list [])=decide (ds=[]):=by
 cases ds with
 | nil=>rfl
 | cons d ds=>rfl
theorem zuW(t:Term):Shp 1 (tmD t):=zfF (zs6 zeJ zeJ)
theorem zmF(ts:List Term):SeqAt.shaped (.list (ts.map tmD))=true:=(zfd (zhc fun t _=>zuW t)).ok
structure GapOk(n:Nat)(g:Gap):Prop where
 ts:Tms n g.ts
 le:g.lo<=g.hi
theorem ziV{p:List PyData}{ps:List Part}(hp:zab p)(hd:Drw ps)(q:∀ g p',GapOk ps.length g->zab p'->R (.d (zhT g)) [p']):zcL [.l 0,.d (zbn ps)] [p] R:=by
 have h8:=hd.l8;have h1:=hd.l1;unfold zcL;walk_at "d"
 walk_at "n"
 refine cut (fun δ S=>∃ (p:List PyData) (ts:List Term) (u1 u2:Option XV),zab p/\ts.length<=ps.length/\(∀ t∈ts,t.1<ps.length/\t.2≠0/\-3<=t.2/\t.2<=3)/\(ts.Pairwise fun t u=>t.1<u.1)/\S=[p,ts.map tmD]/\δ=[some (.l 0),some (.d (zbn ps)),some (.l 1),u1,u2,none,none,none,none,none]) (fun N hN=>?_) ?_
 ·walk_at "d";refine⟨ps.length,by unfold zbn; walk_at "d",?_⟩;refine zav (fun i δ S=>∃ (p:List PyData) (ts:List Term) (u1 u2:Option XV),zab p/\ts.length<=i/\(∀ t∈ts,t.1<i/\t.2≠0/\-3<=t.2/\t.2<=3)/\(ts.Pairwise fun t u=>t.1<u.1)/\S=[p,ts.map tmD]/\δ=[some (.l 0),some (.d (zbn ps)),some (.l 1),u1,u2,none,none,none,none,none]) ⟨p,[],_,_,hp,le_refl _,by simp,.nil,rfl,rfl⟩ ?_ ?_
  ·rintro i d _ _ N hi ⟨p,ts,u1,u2,hp,hl,ht,hw,rfl,rfl⟩ hN;obtain⟨hi',rfl⟩:=zcB hi;have hi8:i<ps.length:=by simpa using hi'
   walk_at "d"
   walk_at "n"
   refine zx hp dz (by decide +kernel) fun r p2 r0 r1 hp2=>?_;walk_at "d";refine⟨rfl,?_⟩;simp only [any_cons,List.any_nil,Bool.or_false,zgP];have low:=hN [some (.l 0),some (.d (zbn ps)),some (.l 1),some (.d (.int (0+(i:Int)))),some (.d (.int (r - 4))),none,none,none,none,none] [p2,ts.map tmD] ⟨p2,ts,_,_,hp2,by omega,fun t m=>⟨by have:=(ht t m).1; omega,(ht t m).2⟩,hw,rfl,rfl⟩;by_cases hz:r - 4 = -4\/r - 4=0\/r - 4=4
   ·have e:(decide ((-4:Int)=r - 4) || (decide ((0:Int)=r - 4) || decide ((4:Int)=r - 4)))=true:=by
     rcases hz with h | h | h <;> simp [h]
    rw [e];walk_at "d";exact low
   ·have e:(decide ((-4:Int)=r - 4) || (decide ((0:Int)=r - 4) || decide ((4:Int)=r - 4)))=false:=by
     simp;omega
    rw [e];walk_at "d";refine⟨by omega,hN _ _ ⟨p2,ts++[(i,r - 4)],_,_,hp2,by simp; omega,fun t m=>?_,?_,by simp [tmD],rfl⟩⟩
    ·rcases mem_append.mp m with m | m
     ·exact⟨by have:=(ht t m).1; omega,(ht t m).2⟩
     ·rw [mem_singleton.mp m];exact⟨by simp,by simp only; omega,by simp only; omega,by simp only; omega⟩
    ·rw [List.pairwise_append];exact⟨hw,by simp,fun t m u m'=>by rw [mem_singleton.mp m']; exact(ht t m).1⟩
  ·rintro _ _ ⟨p,ts,u1,u2,hp,hl,ht,hw,rfl,rfl⟩;rw [zaC] at hl ht;have hz:(ps.length:Int).toNat=ps.length:=by simp
   rw [hz] at hl ht;exact hN _ _ ⟨p,ts,u1,u2,hp,hl,ht,hw,rfl,rfl⟩
 rintro _ _ ⟨p,ts,u1,u2,hp,hl,ht,hw,rfl,rfl⟩;refine cut (fun δ S=>∃ (p:List PyData) (ts:List Term) (T:Sto) (k:Nat),zab p/\Tms ps.length ts/\T[k]? = some (ts.map tmD)/\S=p :: T/\δ=[some (.l 0),some (.d (zbn ps)),some (.l (k+1)),u1,u2,none,none,none,none,none]) (fun N hN=>?_) ?_
 ·walk_at "d";refine⟨zmF ts,rfl,?_⟩;rw [zoQ];walk_at "d";split
  ·refine⟨ps.length,by unfold zbn; walk_at "d",?_⟩;refine zx hp (by omega) (zcs (by omega) (by omega)) fun r p2 r0 r1 hp2=>?_;walk_at "d";refine zx hp2 dz (by decide +kernel) fun r3 p3 r2 r4 hp3=>?_;obtain⟨d,ed,n,rfl,hn⟩:=zpl (ds:=[PyData.int 1,PyData.int (-1),PyData.int 2,PyData.int (-3)]) (P:=fun d=>∃ n,d=.int n/\n≠0/\-3<=n/\n<=3) r2 r4 (by
    intro d m;simp only [mem_cons,not_mem_nil,or_false] at m;rcases m with rfl | rfl | rfl | rfl <;> exact⟨_,rfl,by decide,by decide,by decide⟩)
   obtain⟨k,rfl⟩:=Int.eq_ofNat_of_zero_le r0;walk_at "d";refine⟨_,ed,?_⟩;walk_at "d";refine hN _ _ ⟨p3,[(k,n)],[ts.map tmD,[tmD (k,n)]],1,hp3,⟨by simp,by simpa using h1,fun t m=>by rw [mem_singleton.mp m]; exact⟨by simp only; omega,hn⟩,by simp⟩,rfl,rfl,rfl⟩
  ·rename_i hne;exact hN _ _ ⟨p,ts,[ts.map tmD],0,hp,⟨fun z=>hne (by rw [z]; rfl),hl,ht,hw⟩,rfl,rfl,rfl⟩
 rintro _ _ ⟨p,ts,T,k,hp,hts,hk,rfl,rfl⟩
 walk_at "n"
 rw [hk];walk_at "d";refine zcX rfl (hts.tm3 h8) ?_;have lm:=zde ps ts;unfold spD;walk_at "d";refine⟨rfl,?_⟩;walk_at "d"
 walk_at "n"
 walk_at "n"
 refine .inl ⟨⟨by decide,by decide +kernel⟩,.inl ⟨⟨by decide,by decide +kernel⟩,?_⟩⟩;walk_at "d";refine zx hp dz (by decide +kernel) fun r p2 r0 r1 hp2=>?_;obtain⟨d,ed,n,rfl⟩:=zpl (P:=fun d=>∃ n,d=.int n) (ds:=[PyData.int 0,PyData.int 1,PyData.int (-1),PyData.int ((zb6 ps ts - zag ps ts) / 2),PyData.int ((zb6 ps ts - zag ps ts) / 3),PyData.int (zb6 ps ts - zag ps ts+1)]) r0 r1 (by simp);walk_at "d";refine⟨_,ed,?_⟩;walk_at "d"
 walk_at "n"
 refine .inl ⟨⟨by decide,by decide +kernel⟩,?_⟩;walk_at "d";refine zx hp2 dz (by decide +kernel) fun r' p3 r2 r3 hp3=>?_;obtain⟨d,ed,n',rfl,h0⟩:=zpl (P:=fun d=>∃ n,d=.int n/\0<=n) (ds:=[PyData.int 0,PyData.int 1,PyData.int 2,PyData.int ((zb6 ps ts - zag ps ts) / 2),PyData.int (zb6 ps ts - zag ps ts),PyData.int (zb6 ps ts - zag ps ts+2)]) r2 r3 (by simp; omega);walk_at "d";refine⟨_,ed,?_⟩;walk_at "d";refine⟨_,hk,?_⟩;walk_at "d";exact q ⟨ts,_,_⟩ p3 ⟨hts,by simp only; omega⟩ hp3
def zb5(gs:List Gap):PyData:=.tuple (gs.map zhT)
structure Gaps(n:Nat)(gs:List Gap):Prop where
 l1:1<=gs.length
 l6:gs.length<=6
 all:∀ g∈gs,GapOk n g
theorem zwo{g:DG}{te:DE}{fin:Sto->Prop}{α:Type}(F:α->Prop)(f:α->PyData)(P:XE->Prop):∀ (ds:List PyData) (acc:List α) (p:List PyData) (τ:XE),P τ->zab p->acc.length+ds.length<=1000 ->
  (∀ d∈ds,∀ τ p acc (R:XE->RX),P τ->zab p->(∀ τ' x p',P τ'->zab p'->F x->R τ' (.d (f x)) [p',acc])->g (.d d) τ [p,acc] fun τ1 S1=>te τ1 S1 (R τ1)) ->
  (∀ xs p',zab p'->(∀ x∈xs,F x)->xs.length=ds.length->fin [p',(acc++xs).map f])->zeH 1 g zae te fin ds τ [p,acc.map f]
 | [],acc,p,τ,_,hp,_,_,h=>by
  have:=h [] p hp (by simp) rfl;rw [append_nil] at this;exact this
 | d :: ds,acc,p,τ,hP,hp,hl,el,h=>by
  show g (.d d) τ [p,acc.map f] fun τ1 S1=>zae τ1 S1 fun b S2=>if b=true then te τ1 S2 fun x S3=>asD x fun e=>∃ acc,S3[1]? = some acc/\acc.length<1000/\zeH 1 g zae te fin ds τ1 (S3.set 1 (acc++[e])) else zeH 1 g zae te fin ds τ1 S2
  simp only [zae,↓reduceIte];rw [length_cons] at hl;refine el d mem_cons_self τ p (acc.map f) (fun τ1 x S3=>asD x fun e=>∃ acc,S3[1]? = some acc/\acc.length<1000/\zeH 1 g zae te fin ds τ1 (S3.set 1 (acc++[e]))) hP hp fun τ' x p' hP' hp' hF=>?_;refine⟨acc.map f,rfl,by rw [length_map]; omega,?_⟩;have e:([p',acc.map f]:Sto).set 1 (acc.map f++[f x])=[p',(acc++[x]).map f]:=by simp
  rw [e];refine zwo F f P ds (acc++[x]) p' τ' hP' hp' (by rw [length_append,length_singleton]; omega) (fun e m=>el e (mem_cons_of_mem _ m)) fun xs p'' hp'' fs hl=>?_;rw [append_assoc];exact h (x :: xs) p'' hp'' (fun y m=>(mem_cons.mp m).elim (fun e=>e▸hF) (fs y)) (by simp [hl])
theorem zhD{p:List PyData}{ps:List Part}{m:Int}(hp:zab p)(hd:Drw ps)(m1:0<m)(m6:m<=6)(q:∀ gs p',Gaps ps.length gs->(gs.length:Int)<=m->zab p'->R (.d (zb5 gs)) [p']):zci [.l 0,.d (zbn ps),.d (.int m)] [p] R:=by
 unfold zci;walk_at "d"
 walk_at "n"
 refine zx hp m1 (zcs m1 (by omega)) fun r p1 r0 r1 hp1=>?_;walk_at "d";refine zwo (α:=Gap) (GapOk ps.length) zhT (fun τ=>∃ u,τ=[u,some (.l 0),some (.d (zbn ps))]) _ [] p1 _ ⟨_,rfl⟩ hp1 (by rw [zaC]; simp; omega) ?_ ?_
 ·rintro d md _ p acc R' ⟨u,rfl⟩ hp hk;walk_at "d";refine ziV hp hd fun g p' hg hp'=>?_;walk_at "d";exact hk _ g p' ⟨_,rfl⟩ hp' hg
 ·intro gs p2 hp2 hg hl;rw [zaC] at hl;rw [nil_append];have l1:1<=gs.length:=by omega
  have l6:(gs.length:Int)<=m:=by omega
  walk_at "d";refine cut (fun δ S=>∃ (p:List PyData) (gs:List Gap),zab p/\Gaps ps.length gs/\(gs.length:Int)<=m/\S=[p,gs.map zhT]/\δ=[some (.l 0),some (.d (zbn ps)),some (.d (.int m)),some (.l 1)]) (fun N hN=>?_) ?_
  ·walk_at "d";refine zx hp2 dz (by decide +kernel) fun r2 p3 r3 r4 hp3=>?_;walk_at "d";have no:=hN [some (.l 0),some (.d (zbn ps)),some (.d (.int m)),some (.l 1)] [p3,gs.map zhT] ⟨p3,gs,hp3,⟨l1,by omega,hg⟩,l6,rfl,rfl⟩;split
   ·split
    ·obtain⟨g0,hg0⟩:∃ g0,gs[0]? = some g0:=⟨gs[0],getElem?_eq_getElem (by omega)⟩;have e0:=za5 (f:=zhT) hg0;have ok0:=hg g0 (mem_of_getElem? hg0);refine⟨_,e0,?_⟩;rw [zce];walk_at "d";refine⟨_,e0,?_⟩;rw [zce];walk_at "d";refine⟨_,e0,?_⟩;rw [zce];walk_at "d";refine zx hp3 dz (by decide +kernel) fun r5 p4 r6 r7 hp4=>?_;walk_at "d";obtain⟨j,hj⟩:∃ j,ixN gs.length (-1)=some j/\j<gs.length:=⟨gs.length - 1,by unfold ixN; rw [if_neg (by omega),if_pos (by omega)]; congr 1; omega,by omega⟩;refine⟨j,hj.1,hN _ _ ⟨p4,gs.set j ⟨g0.ts,g0.hi+1,g0.hi+1+r5⟩,hp4,⟨by simp; omega,by simp; omega,fun g mg=>?_⟩,by simp; omega,by simp only [map_set,zhT],rfl⟩⟩;rcases List.mem_or_eq_of_mem_set mg with h | rfl
     ·exact hg g h
     ·exact⟨ok0.ts,by simp only; omega⟩
    ·exact no
   ·exact no
  ·rintro _ _ ⟨p,gs,hp,hgs,hm,rfl,rfl⟩;walk_at "d";exact q gs p hgs hm hp
end
section
variable {R:RX} {S:Sto}
theorem zs3{a b c d:Int}(q:R (.d (spD (a+c) (b+d))) []):zlr [.d (spD a b),.d (spD c d)] [] R:=by
 unfold zlr spD;walk_at "e";exact q
theorem ziA{a b n:Int}(h1:-3<=n)(h2:n<=3)(q:R (.d (spD (min (a*n) (b*n)) (max (a*n) (b*n)))) []):zcH [.d (spD a b),.d (.int n)] [] R:=by
 unfold zcH spD;walk_at "e";refine⟨zot (by omega) (by omega),zot (by omega) (by omega),?_⟩;refine zw3 ?_;walk_at "e";refine zwW ?_;walk_at "e";exact q
theorem zm3{p:Part}(q:R (.d (spD p.2.1 p.2.2)) []):ze2 [.d (zdL p)] [] R:=by
 unfold ze2 zdL;walk_at "e";exact q
theorem zwh{ps:List Part}{t:Term}:min ((part ps t.1).2.1*t.2) ((part ps t.1).2.2*t.2)=tLo ps t:=by
 unfold tLo plo phi;rw [Int.mul_comm t.2,Int.mul_comm t.2]
theorem zv9{ps:List Part}{t:Term}:max ((part ps t.1).2.1*t.2) ((part ps t.1).2.2*t.2)=tHi ps t:=by
 unfold tHi plo phi;rw [Int.mul_comm t.2,Int.mul_comm t.2]
theorem zc5{ps:List Part}{ts:List Term}{t:PyData}(ht:zl3 (.d t)=some (ts.map tmD))(h3:Tm3 ps.length ts)(q:R (.d (spD (zag ps ts) (zb6 ps ts))) []):za6 [.d (zbn ps),.d t] [] R:=by
 unfold za6 zbn;walk_at "d"
 walk_at "n"
 walk_at "n";refine⟨_,ht,?_⟩;refine zav (fun i δ S=>∃ (u1 u2:Option XV),S=[]/\δ=[some (.d (.tuple (ps.map zdL))),some (.d t),some (.d (spD (zag ps (ts.take i)) (zb6 ps (ts.take i)))),u1,u2]) ⟨_,_,rfl,rfl⟩ ?_ ?_
 ·rintro i d _ _ N hi ⟨u1,u2,rfl,rfl⟩ hN;obtain⟨t,ht,rfl⟩:=zbs hi;obtain⟨t1,t2,t3⟩:=h3.ok t (mem_of_getElem? ht);have ep:=za5 (f:=zdL) (zbq t1);rw [zky];walk_at "d";refine⟨_,ep,?_⟩;refine zm3 ?_;walk_at "d";refine ziA t2 t3 ?_;walk_at "d";refine zs3 ?_;walk_at "d";exact hN _ _ ⟨_,_,rfl,by rw [zgy ht,zhQ ht,<- zwh,<- zv9]⟩
 ·rintro _ _ ⟨u1,u2,rfl,rfl⟩;rw [length_map,take_length];walk_at "d";exact q
def zgT(ps:List Part):List Int:=ps.map fun p=>p.2.1
theorem zmQ{ps:List Part}{k:Nat}(h:k<ps.length):(zgT ps).getD k 0=plo ps k:=by
 unfold zgT plo;rw [getD_eq_getElem?_getD,getElem?_map,zbq h];rfl
theorem zjx{ps:List Part}(hl:ps.length<=100)(q:R (.d (zaG (zgT ps))) []):zds [.d (zbn ps)] [] R:=by
 unfold zds zbn;walk_at "e";refine cmp1 (S0:=[]) (fun p:Part=>.int p.2.1) rfl ps (by omega) ?_ ?_
 ·intro p mp u acc R' hk;rw [zfq];walk_at "e";exact hk _
 ·walk_at "e";have e:zaG (zgT ps)=.tuple (ps.map fun p:Part=>PyData.int p.2.1):=by
   unfold zaG zgT;rw [map_map];rfl
  rw [e] at q;exact q
theorem zkJ{g:Gap}{ns:List Int}(h3:Tm3 ns.length g.ts)(q:R (.d (.int (worth g.ts ns))) []):zeh [.d (zhT g),.d (zaG ns)] [] R:=by
 unfold zeh zaG;rw [zce,znb];walk_at "e";refine cmp2 (S0:=[]) (fun t:Term=>.int (t.2*ns.getD t.1 0)) rfl g.ts (by have:=h3.len; omega) ?_ ?_
 ·intro t mt u v acc R' hk;obtain⟨t1,t2,t3⟩:=h3.ok t mt;have e:=za5 (f:=PyData.int) (zhn t1);rw [zky];walk_at "e";refine⟨_,e,?_⟩;walk_at "e";exact⟨zd1 (by omega) (by omega),hk _ _⟩
 ·walk_at "e";refine⟨g.ts.map fun t:Term=>t.2*ns.getD t.1 0,by rw [map_map]; rfl,q⟩
def zbo(g:Gap)(ns:List Int):Bool:=decide (g.lo<=worth g.ts ns/\worth g.ts ns<=g.hi)
theorem zmi{g:Gap}{ns:List Int}(h3:Tm3 ns.length g.ts)(q:R (.d (.bool (zbo g ns))) []):zha [.d (zhT g),.d (zaG ns)] [] R:=by
 unfold zha;walk_at "e";rw [zce];walk_at "e";rw [<- zce];refine zkJ h3 ?_;walk_at "e";unfold zbo at q;by_cases h:g.lo<=worth g.ts ns
 ·simp only [h,true_and] at q;rw [if_pos h];exact q
 ·simp only [h,false_and,decide_false] at q;rw [if_neg h];exact q
def zqy(a t:Int):Int:=-(a / (-t))
theorem zhF{a t:Int}(h1:-3<=t)(h2:t<0)(q:R (.d (.int (zqy a t))) []):zcl [.d (.int a),.d (.int t)] [] R:=by
 unfold zcl;walk_at "e";refine .inr ⟨⟨by omega,by omega⟩,?_⟩;have e:(-a).fdiv t=a / (-t):=by
  have h:=Int.neg_fdiv_neg a (-t);rw [Int.neg_neg] at h;rw [h,Int.fdiv_eq_ediv_of_nonneg _ (by omega)]
 rw [e];exact q
theorem zkG{a t x:Int}(h2:t<0):zqy a t<=x↔t*x<=a:=by
 unfold zqy;have e:t*x = -(x*(-t)):=by rw [Int.mul_neg,Int.neg_neg,Int.mul_comm]
 have k:-x<=a / (-t) ↔ -x*(-t)<=a:=Int.le_ediv_iff_mul_le (by omega);rw [Int.neg_mul] at k;rw [e];omega
def pick(ps:List Part)(t:Term)(ts:List Term)(left:Int):Int:=if t.2<0 then max (plo ps t.1) (zqy (left - zag ps ts) t.2) else plo ps t.1
def GR(ps:List Part):List Term->Int->List Int->Prop
 | [],_,_=>True
 | t :: ts,left,res=>res.getD t.1 0=pick ps t ts left/\GR ps ts (left - t.2*pick ps t ts left) res
structure InBox(ps:List Part)(ns:List Int):Prop where
 len:ns.length=ps.length
 ok:∀ k,k<ps.length->plo ps k<=ns.getD k 0/\ns.getD k 0<=phi ps k
def Ord(ps:List Part):Prop:=∀ p∈ps,p.2.1<=p.2.2
theorem Drw.ord{ps:List Part}(h:Drw ps):Ord ps:=fun p m=>(h.all p m).le
theorem Ord.at{ps:List Part}(h:Ord ps){k:Nat}(hk:k<ps.length):plo ps k<=phi ps k:=h _ (zp3 hk)
theorem zox{ps:List Part}{t:Term}(o:plo ps t.1<=phi ps t.1)(h1:-3<=t.2)(h2:t.2<0):tLo ps t=t.2*phi ps t.1:=by
 unfold tLo;have:t.2 = -3\/t.2 = -2\/t.2 = -1:=by omega
 rcases this with e | e | e <;> rw [e] <;> omega
theorem zoG{ps:List Part}{t:Term}(o:plo ps t.1<=phi ps t.1)(h1:t.2<=3)(h2:0<=t.2):tLo ps t=t.2*plo ps t.1:=by
 unfold tLo;have:t.2=0\/t.2=1\/t.2=2\/t.2=3:=by omega
 rcases this with e | e | e | e <;> rw [e] <;> omega
theorem zn7{ps:List Part}{t:Term}{ts:List Term}{left:Int}(o:plo ps t.1<=phi ps t.1)(h1:-3<=t.2)(h2:t.2<=3)(hl:zag ps (t :: ts)<=left):
  plo ps t.1<=pick ps t ts left/\pick ps t ts left<=phi ps t.1/\zag ps ts<=left - t.2*pick ps t ts left:=by
 rw [zeC] at hl;unfold pick;by_cases hn:t.2<0
 ·rw [if_pos hn];rw [zox o h1 hn] at hl;have a1:=(zkG (a:=left - zag ps ts) (x:=phi ps t.1) hn).mpr (by omega);have a2:=(zkG (a:=left - zag ps ts) (x:=max (plo ps t.1) (zqy (left - zag ps ts) t.2)) hn).mp (by omega);omega
 ·rw [if_neg hn];rw [zoG o h2 (by omega)] at hl;omega
theorem GR.worth_le{ps:List Part}(ho:Ord ps){res:List Int}:∀ {ts:List Term} {left:Int},Tm3 ps.length ts->zag ps ts<=left->GR ps ts left res->worth ts res<=left
 | [],left,_,hl,_=>by simpa [worth,zag] using hl
 | t :: ts,left,h3,hl,⟨h1,h2⟩=>by
  obtain⟨t1,t2,t3⟩:=h3.ok t mem_cons_self;obtain⟨_,_,a3⟩:=zn7 (ho.at t1) t2 t3 hl;have:=GR.worth_le ho h3.of_cons a3 h2;rw [zc8,h1];omega
theorem GR.box{ps:List Part}(ho:Ord ps){res:List Int}:∀ {ts:List Term} {left:Int},Tm3 ps.length ts->zag ps ts<=left->GR ps ts left res->∀ t∈ts,plo ps t.1<=res.getD t.1 0/\res.getD t.1 0<=phi ps t.1
 | [],left,_,hl,_=>by simp
 | t :: ts,left,h3,hl,⟨h1,h2⟩=>by
  obtain⟨t1,t2,t3⟩:=h3.ok t mem_cons_self;obtain⟨a1,a2,a3⟩:=zn7 (ho.at t1) t2 t3 hl;have:=GR.box ho h3.of_cons a3 h2;intro u m;rcases mem_cons.mp m with rfl | m
  ·rw [h1]; exact⟨a1,a2⟩
  ·exact this u m
theorem zgi{ps:List Part}{ms:List Int}(hb:InBox ps ms):∀ {ts:List Term},Tm3 ps.length ts->zag ps ts<=worth ts ms/\worth ts ms<=zb6 ps ts
 | [],_=>by simp [zag,zb6,worth]
 | t :: ts,h3=>by
  obtain⟨t1,t2,t3⟩:=h3.ok t mem_cons_self;obtain⟨b1,b2⟩:=hb.ok t.1 t1;have ih:=zgi hb h3.of_cons;rw [zeC,zh1,zc8];have k:tLo ps t<=t.2*ms.getD t.1 0/\t.2*ms.getD t.1 0<=tHi ps t:=by
   unfold tLo tHi;generalize plo ps t.1=lo at b1 b2 ⊢;generalize phi ps t.1=hi at b1 b2 ⊢;generalize ms.getD t.1 0=x at b1 b2 ⊢;have:t.2 = -3\/t.2 = -2\/t.2 = -1\/t.2=0\/t.2=1\/t.2=2\/t.2=3:=by omega
   rcases this with e | e | e | e | e | e | e <;> rw [e] <;> omega
  omega
theorem GR.first{ps:List Part}{res ms:List Int}(hb:InBox ps ms){k:Nat}(heq:∀ j,j<k->ms.getD j 0=res.getD j 0)(hlt:ms.getD k 0<res.getD k 0):∀ {ts:List Term} {left:Int},Tm3 ps.length ts->(ts.Pairwise fun t u=>t.1<u.1)->GR ps ts left res->(∃ t∈ts,t.1=k)->left<worth ts ms
 | [],left,_,_,_,⟨t,m,_⟩=>by cases m
 | t :: ts,left,h3,hw,⟨h1,h2⟩,⟨u,mu,eu⟩=>by
  obtain⟨t1,t2,t3⟩:=h3.ok t mem_cons_self;rw [pairwise_cons] at hw;rw [zc8];rcases mem_cons.mp mu with rfl | mu
  ·have b:=(hb.ok u.1 t1).1;subst eu;rw [h1] at hlt;have lw:=(zgi hb h3.of_cons).1;unfold pick at hlt;by_cases hn:u.2<0
   ·rw [if_pos hn] at hlt;have:¬ zqy (left - zag ps ts) u.2<=ms.getD u.1 0:=by omega
    rw [zkG hn] at this;omega
   ·rw [if_neg hn] at hlt;omega
  ·have hk:t.1<k:=by rw [<- eu]; exact hw.1 u mu
   have:=GR.first hb heq hlt h3.of_cons hw.2 h2 ⟨u,mu,eu⟩
   rw [heq t.1 hk,h1];omega
theorem zmb:∀ {a b:List Int},a.length=b.length->HT.lexLt a b=true->∃ k,k<a.length/\(∀ j,j<k->a.getD j 0=b.getD j 0)/\a.getD k 0<b.getD k 0
 | [],[],_,h=>by cases h
 | [],_ :: _,h,_=>by simp at h
 | _ :: _,[],h,_=>by simp at h
 | x :: xs,y :: ys,hl,h=>by
  rw [HT.lexLt_cons] at h;by_cases e:x=y
  ·subst e;rw [if_pos rfl] at h;obtain⟨k,h1,h2,h3⟩:=zmb (by simpa using hl) h;refine⟨k+1,by simp; omega,fun j hj=>?_,by simpa using h3⟩;cases j with
   | zero=>rfl
   | succ j=>simpa using h2 j (by omega)
  ·rw [if_neg e] at h;exact⟨0,by simp,fun j hj=>by omega,by simpa using h⟩
def FirstNG(ps:List Part)(ts:List Term)(most:Int):Option (List Int)->Prop
 | none=>∀ ms,InBox ps ms->most<worth ts ms
 | some ns=>InBox ps ns/\worth ts ns<=most/\∀ ms,InBox ps ms->worth ts ms<=most->HT.lexLt ms ns=false
theorem zmq{ps:List Part}{ts:List Term}{most:Int}{res:List Int}(ho:Ord ps)(hn:ps.length<=100)(ht:Tms ps.length ts)(hl:zag ps ts<=most)(hr:res.length=ps.length)(hout:∀ j,j<ps.length->(∀ t∈ts,t.1≠j)->res.getD j 0=plo ps j)(hg:GR ps ts most res):FirstNG ps ts most (some res):=by
 have h3:Tm3 ps.length ts:=⟨by have:=ht.len; omega,fun t m=>⟨(ht.ok t m).1,(ht.ok t m).2.2⟩⟩;refine⟨⟨hr,fun k hk=>?_⟩,hg.worth_le ho h3 hl,fun ms hb hw=>?_⟩
 ·by_cases hx:∃ t∈ts,t.1=k
  ·obtain⟨t,m,rfl⟩:=hx;exact hg.box ho h3 hl t m
  ·rw [hout k hk fun t m e=>hx ⟨t,m,e⟩];exact⟨Int.le_refl _,ho.at hk⟩
 ·cases hlt:HT.lexLt ms res with
  | false=>rfl
  | true =>
   obtain⟨k,k1,k2,k3⟩:=zmb (by rw [hb.len,hr]) hlt;rw [hb.len] at k1;by_cases hx:∃ t∈ts,t.1=k
   ·have:=hg.first hb k2 k3 h3 ht.srt hx
    omega
   ·rw [hout k k1 fun t m e=>hx ⟨t,m,e⟩] at k3;have:=(hb.ok k k1).1;omega
def zvf:Option (List Int)->PyData
 | none=>.none
 | some ns=>zaG ns
theorem zoz{n k:Nat}(h:k<n):ixN n (k:Int)=some k:=by
 unfold ixN;rw [if_pos (by omega),if_pos (by omega)];simp
theorem zp2{α:Type}{f:α->PyData}{ts:List α}{i:Nat}(il:i<ts.length):zdl (ts.map f) (some ((i:Int)+1)) none=(ts.drop (i+1)).map f:=by
 have ei:(i:Int)+1=((i+1:Nat):Int):=by omega
 unfold zdl;have e1:HT.sIx ts.length ts.length none=ts.length:=rfl;rw [length_map,ei,e1,HT.sIx_nat,Nat.min_eq_left il,take_of_length_le (by simp),map_drop]
theorem zni{n i:Nat}(il:i<n):¬ (HT.sIx n 0 (some ((i:Int)+1))=0/\HT.sIx n n none=n):=fun z=>by
 have ei:(i:Int)+1=((i+1:Nat):Int):=by omega
 have:=z.1;rw [ei,HT.sIx_nat] at this;omega
theorem zfg{l:List Int}{k:Nat}{x:Int}(h:k<l.length):(l.set k x).getD k 0=x:=by
 rw [getD_eq_getElem?_getD,getElem?_set_self h];rfl
theorem zg0{l:List Int}{k j:Nat}{x:Int}(h:k≠j):(l.set k x).getD j 0=l.getD j 0:=by
 rw [getD_eq_getElem?_getD,getD_eq_getElem?_getD,getElem?_set_ne h]
theorem zcE{ps:List Part}{ts:List Term}{most:Int}(ho:Ord ps)(hn:ps.length<=100)(ht:Tms ps.length ts)(q:∀ r,FirstNG ps ts most r->R (.d (zvf r)) []):zaJ [.d (zbn ps),.d (znb ts),.d (.int most)] [] R:=by
 have h3:Tm3 ps.length ts:=⟨by have:=ht.len; omega,fun t m=>⟨(ht.ok t m).1,(ht.ok t m).2.2⟩⟩;unfold zaJ;walk_at "d";walk_at "n";refine zc5 rfl h3 ?_;unfold spD;walk_at "d";split
 ·rename_i hgt;exact q none fun ms hb=>by have:=(zgi hb h3).1; omega
 rename_i hle
 walk_at "n"
 refine zjx hn ?_;unfold zaG;walk_at "d"
 walk_at "n"
 walk_at "n";unfold znb;walk_at "d";refine zav (fun i δ S=>∃ (ns:List Int) (left:Int) (u1 u2 u3:Option XV),ns.length=ps.length/\(∀ j,j<ps.length->(∀ t∈ts.take i,t.1≠j)->ns.getD j 0=plo ps j) /\
   (∀ res:List Int,(∀ t∈ts.take i,res.getD t.1 0=ns.getD t.1 0)->GR ps (ts.drop i) left res->GR ps ts most res)/\S=[ns.map PyData.int] /\
   δ=[some (.d (zbn ps)),some (.d (.tuple (ts.map tmD))),some (.d (.int most)),some (.l 0),some (.d (.int left)),u1,u2,u3]) ⟨zgT ps,most,_,_,_,by simp [zgT],fun j hj _=>zmQ hj,fun res _ h=>h,rfl,rfl⟩ ?_ ?_
 ·rintro i d _ _ N hi ⟨ns,left,u1,u2,u3,hl,hout,hg,rfl,rfl⟩ hN;obtain⟨e,he,rfl⟩:=zeX _ 0 i d hi;obtain⟨t,ht',rfl⟩:=zbs he;have mt:=mem_of_getElem? ht';have il:i<ts.length:=(List.getElem?_eq_some_iff.mp ht').1;obtain⟨t1,t2,t3,t4⟩:=ht.ok t mt;have ed:ts.drop i=t :: ts.drop (i+1):=by
   rw [drop_eq_getElem_cons il];rw [getElem?_eq_getElem il] at ht';rw [Option.some.inj ht']
  have notin:∀ u∈ts.take i,u.1≠t.1:=by
   intro u mu;have hs:=ht.srt;rw [<- List.take_append_drop i ts,ed,List.pairwise_append] at hs;have:=hs.2.2 u mu t mem_cons_self;omega
  have et:ns.getD t.1 0=plo ps t.1:=hout t.1 t1 notin;have eget:=za5 (f:=PyData.int) (zhn (show t.1<ns.length by rw [hl]; exact t1));have tk:ts.take (i+1)=ts.take i++[t]:=by rw [take_add_one,ht']; rfl
  rw [zky];walk_at "d";have fin:∀ x,x=pick ps t (ts.drop (i+1)) left->(t.2<0->x=max (plo ps t.1) (zqy (left - zag ps (ts.drop (i+1))) t.2))->∀ u1 u2 u3,N [some (.d (zbn ps)),some (.d (.tuple (ts.map tmD))),some (.d (.int most)),some (.l 0),some (.d (.int (left - t.2*x))),u1,u2,u3] [(ns.set t.1 x).map PyData.int]:=by
   intro x ex _ u1 u2 u3;refine hN _ _ ⟨ns.set t.1 x,left - t.2*x,u1,u2,u3,by simp [hl],fun j hj hj'=>?_,fun res hr hgr=>?_,rfl,rfl⟩
   ·rw [tk] at hj';have n1:t.1≠j:=hj' t (by simp);rw [zg0 n1];exact hout j hj fun u mu=>hj' u (mem_append_left _ mu)
   ·rw [tk] at hr;refine hg res (fun u mu=>?_) ?_
    ·rw [hr u (mem_append_left _ mu),zg0 (Ne.symm (notin u mu))]
    ·rw [ed];refine⟨?_,by rw [<- ex]; exact hgr⟩;rw [hr t (by simp),zfg (by rw [hl]; exact t1),ex]
  refine cut (fun δ S=>∃ x u,x=pick ps t (ts.drop (i+1)) left/\S=[(ns.set t.1 x).map PyData.int]/\δ=[some (.d (zbn ps)),some (.d (.tuple (ts.map tmD))),some (.d (.int most)),some (.l 0),some (.d (.int left)),some (.d (.int (i:Int))),some (.d (.tuple [.int t.1,.int t.2])),u]) (fun N' hN'=>?_) ?_
  ·walk_at "d";by_cases hneg:t.2<0
   ·rw [if_pos hneg]
    walk_at "n"
    rw [zp2 il];refine⟨by simpa using zni il,?_⟩;refine zc5 rfl (h3.drop _) ?_;unfold spD;walk_at "d";refine⟨_,eget,?_⟩;walk_at "d";refine zhF t3 hneg ?_;walk_at "d";refine⟨_,zoz (by rw [hl]; exact t1),?_⟩;have ep:(if zqy (left - zag ps (ts.drop (i+1))) t.2>ns.getD t.1 0 then zqy (left - zag ps (ts.drop (i+1))) t.2 else ns.getD t.1 0)=pick ps t (ts.drop (i+1)) left:=by
     unfold pick;rw [if_pos hneg,et];split <;> omega
    rw [ep];exact hN' _ _ ⟨_,_,rfl,by rw [map_set],rfl⟩
   ·rw [if_neg hneg];have ep:pick ps t (ts.drop (i+1)) left=ns.getD t.1 0:=by
     unfold pick;rw [if_neg hneg,et]
    refine hN' _ _ ⟨_,_,rfl,?_,rfl⟩;rw [ep];congr 1;congr 1;apply List.ext_getElem?;intro j;by_cases hj:t.1=j
    ·subst hj;rw [getElem?_set_self (by rw [hl]; exact t1),zhn (by rw [hl]; exact t1)]
    ·rw [getElem?_set_ne hj]
  ·rintro _ _ ⟨x,u,ex,rfl,rfl⟩;have eget2:=za5 (f:=PyData.int) (zhn (ns:=ns.set t.1 x) (k:=t.1) (by simp [hl]; exact t1));rw [zfg (by rw [hl]; exact t1)] at eget2;walk_at "d";refine⟨_,eget2,?_⟩;walk_at "d";refine⟨zd1 (by omega) (by omega),fin x ex (fun hneg=>by rw [ex]; unfold pick; rw [if_pos hneg]) _ _ _⟩
 ·rintro _ _ ⟨ns,left,u1,u2,u3,hl,hout,hg,rfl,rfl⟩;rw [zcK,length_map,take_length] at hout;rw [zcK,length_map,take_length,drop_length] at hg;walk_at "d";exact q (some ns) (zmq ho hn ht (by omega) hl hout (hg ns (fun _ _=>rfl) trivial))
def opp(ts:List Term):List Term:=ts.map fun t=>(t.1,-t.2)
theorem ztt{n:Nat}{ts:List Term}(h:Tms n ts):Tms n (opp ts) where
 ne:=by unfold opp; simp [h.ne]
 len:=by unfold opp; rw [length_map]; exact h.len
 ok:=fun t m=>by
  obtain⟨u,mu,rfl⟩:=mem_map.mp m;obtain⟨a,b,c,d⟩:=h.ok u mu;exact⟨a,by simp only; omega,by simp only; omega,by simp only; omega⟩
 srt:=by
  unfold opp;rw [pairwise_map];exact h.srt
theorem zgE{ns:List Int}:∀ ts:List Term,worth (opp ts) ns = - worth ts ns
 | []=>rfl
 | t :: ts=>by
  have e:opp (t :: ts)=(t.1,-t.2) :: opp ts:=rfl;rw [e,zc8,zc8,zgE ts];simp only [Int.neg_mul];omega
theorem zla{ts:List Term}(hl:ts.length<=100)(q:R (.d (znb (opp ts))) []):zef [.d (znb ts)] [] R:=by
 unfold zef;rw [znb];walk_at "e";refine cmp2 (S0:=[]) (fun t:Term=>tmD (t.1,-t.2)) rfl ts (by omega) ?_ ?_
 ·intro t mt u v acc R' hk;rw [zky];walk_at "e";exact hk _ _
 ·walk_at "e";have e:znb (opp ts)=.tuple (ts.map fun t:Term=>tmD (t.1,-t.2)):=by
   unfold znb opp;rw [map_map];rfl
  rw [e] at q;exact q
def zvJ(ps:List Part)(gs:List Gap):PyData:=.tuple [zbn ps,zb5 gs]
def Brk(ps:List Part)(g:Gap):Option (List Int)×Option (List Int)->Prop:=fun r=>FirstNG ps g.ts (g.lo - 1) r.1/\FirstNG ps (opp g.ts) (-g.hi - 1) r.2
def flat2(rs:List (Option (List Int)×Option (List Int))):List (Option (List Int)):=rs.flatMap fun r=>[r.1,r.2]
theorem zgN:∀ rs,(flat2 rs).length=2*rs.length
 | []=>rfl
 | r :: rs=>by
  have:=zgN rs;simp only [flat2,List.flatMap_cons,length_append,length_cons,length_nil] at this ⊢;omega
theorem zfK{ps:List Part}{gs:List Gap}(ho:Ord ps)(hn:ps.length<=100)(hl:gs.length<=100)(hg:∀ g∈gs,Tms ps.length g.ts)
  (q:∀ rs,Paired (Brk ps) gs rs->R (.d (.list ((flat2 rs).map zvf))) []):zbB [.d (zvJ ps gs)] [] R:=by
 unfold zbB;rw [zvJ,zb5];walk_at "d"
 walk_at "n"
 walk_at "n";refine zav (fun i δ S=>∃ (rs:List (Option (List Int)×Option (List Int))) (u1 u2 u3:Option XV),Paired (Brk ps) (gs.take i) rs/\S=[(flat2 rs).map zvf]/\δ=[some (.d (.tuple [zbn ps,.tuple (gs.map zhT)])),some (.l 0),u1,u2,u3]) ⟨[],_,_,_,.nil,rfl,rfl⟩ ?_ ?_
 ·rintro i d _ _ N hi ⟨rs,u1,u2,u3,pr,rfl,rfl⟩ hN;obtain⟨g,hg',rfl⟩:=zbs hi;have mg:=mem_of_getElem? hg';have ht:=hg g mg;have il:i<gs.length:=(List.getElem?_eq_some_iff.mp hg').1;have pl:=Paired.length pr;rw [length_take] at pl;have fl:=zgN rs;rw [zce];walk_at "d"
  walk_at "n"
  refine zcE ho hn ht fun r1 hr1=>?_;walk_at "d";refine⟨by omega,?_⟩;walk_at "d";refine zla (by have:=ht.len; omega) ?_;walk_at "d";refine zcE ho hn (ztt ht) fun r2 hr2=>?_;walk_at "d";refine⟨by omega,hN _ _ ⟨rs++[(r1,r2)],_,_,_,?_,?_,rfl⟩⟩
  ·have tk:gs.take (i+1)=gs.take i++[g]:=by rw [take_add_one,hg']; rfl
   rw [tk];have app:∀ {a:List Gap} {b:List (Option (List Int)×Option (List Int))},Paired (Brk ps) a b->Paired (Brk ps) (a++[g]) (b++[(r1,r2)]):=by
    intro a b h;induction h with
    | nil=>exact .cons ⟨hr1,hr2⟩ .nil
    | cons h _ ih=>exact .cons h ih
   exact app pr
  ·simp [flat2]
 ·rintro _ _ ⟨rs,u1,u2,u3,pr,rfl,rfl⟩;rw [length_map,take_length] at pr;walk_at "d";exact .inl (q rs pr)
theorem zjM{gs:List Gap}{ns:List Int}(hl:gs.length<=100)(h3:∀ g∈gs,Tm3 ns.length g.ts)(q:R (.d (.list (gs.map fun g=>.bool (zbo g ns)))) []):zdr [.d (zb5 gs),.d (zaG ns)] [] R:=by
 unfold zdr;rw [zb5];walk_at "e";refine cmp1 (S0:=[]) (fun g:Gap=>.bool (zbo g ns)) rfl gs (by omega) ?_ ?_
 ·intro g mg u acc R' hk;walk_at "e";refine zmi (h3 g mg) ?_;walk_at "e";exact hk _
 ·walk_at "e";exact .inl q
def BrkS(gs:List Gap)(ms:List Int):Prop:=∃ g∈gs,zbo g ms=false
theorem zeB:∀ (bs:List Bool),false∈bs->∃ j:Nat,bs[j]? = some false/\∀ m:Nat,m<j->bs[m]? = some true
 | [],h=>by cases h
 | false :: bs,_=>⟨0,rfl,fun m hm=>by omega⟩
 | true :: bs,h=>by
  obtain⟨j,h1,h2⟩:=zeB bs (by simpa using h);refine⟨j+1,by simpa using h1,fun m hm=>?_⟩;cases m with
  | zero=>rfl
  | succ m=>simpa using h2 m (by omega)
theorem zhM{α β:Type}{r:α->β->Prop}:∀ {a:List α} {b:List β},Paired r a b->(∀ x∈a,∃ y∈b,r x y)/\(∀ y∈b,∃ x∈a,r x y)
 | _,_,.nil=>⟨by simp,by simp⟩
 | _,_,.cons h t=>by
  obtain⟨h1,h2⟩:=zhM t;refine⟨fun x m=>?_,fun y m=>?_⟩
  ·rcases mem_cons.mp m with rfl | m
   ·exact⟨_,mem_cons_self,h⟩
   ·obtain⟨y,my,hy⟩:=h1 x m;exact⟨y,mem_cons_of_mem _ my,hy⟩
  ·rcases mem_cons.mp m with rfl | m
   ·exact⟨_,mem_cons_self,h⟩
   ·obtain⟨x,mx,hx⟩:=h2 y m;exact⟨x,mem_cons_of_mem _ mx,hx⟩
theorem zmV{ps:List Part}{gs:List Gap}(ho:Ord ps)(hn:ps.length<=100)(hl:gs.length<=100)(hg:∀ g∈gs,Tms ps.length g.ts)
  (no:(∀ ms,InBox ps ms->¬ BrkS gs ms)->R (.d .none) [])
  (yes:∀ (one:List Int) (j:Nat) (g:Gap),InBox ps one->gs[j]? = some g->zbo g one=false->(∀ (m:Nat) (g':Gap),m<j->gs[m]? = some g'->zbo g' one=true)->(∀ ms,InBox ps ms->BrkS gs ms->HT.lexLt ms one=false)->R (.d (.tuple [zaG one,.int (j:Nat)])) []):zfl [.d (zvJ ps gs)] [] R:=by
 unfold zfl;walk_at "d"
 walk_at "n"
 refine zfK ho hn hl hg fun rs pr=>?_;have pl:=Paired.length pr;have fl:=zgN rs;obtain⟨pm1,pm2⟩:=zhM pr;walk_at "d";refine cmf1 (S0:=[]) zvf (fun r:Option (List Int)=>r.isSome) rfl (flat2 rs) (by omega) ?_ ?_
 ·intro r mr u acc R' hk;walk_at "d";cases r with
  | none =>
   refine hk _ fun h=>?_;cases h
  | some ns =>
   refine hk _ fun _ T hT=>?_;walk_at "d";exact hT
 ·obtain⟨nss,en⟩:∃ nss:List (List Int),(flat2 rs).filter (fun r=>r.isSome)=nss.map some:=by
   have:∀ l:List (Option (List Int)),∃ nss:List (List Int),l.filter (fun r=>r.isSome)=nss.map some:=by
    intro l;induction l with
    | nil=>exact⟨[],rfl⟩
    | cons r l ih =>
     obtain⟨nss,e⟩:=ih;cases r with
     | none=>exact⟨nss,by simpa using e⟩
     | some ns=>exact⟨ns :: nss,by simp [e]⟩
   exact this _
  have memN:∀ ns,ns∈nss↔some ns∈flat2 rs:=fun ns=>by
   have:some ns∈(flat2 rs).filter (fun r=>r.isSome)↔some ns∈flat2 rs:=by simp [mem_filter]
   rw [<- this,en];simp
  have mem2:∀ r,r∈flat2 rs↔∃ x∈rs,r=x.1\/r=x.2:=fun r=>by
   unfold flat2;rw [mem_flatMap];simp
  rw [en,map_map];have em:nss.map (zvf∘some)=nss.map zlK:=rfl;rw [em];walk_at "d"
  -- whoever breaks comes behind one of them
  have behind:∀ ms,InBox ps ms->BrkS gs ms->∃ ns∈nss,HT.lexLt ms ns=false:=by
   rintro ms hb ⟨g,mg,hk⟩;obtain⟨x,mx,x1,x2⟩:=pm1 g mg;have hk':¬ (g.lo<=worth g.ts ms/\worth g.ts ms<=g.hi):=by simpa [zbo] using hk
   by_cases h1:worth g.ts ms<=g.lo - 1
   ·cases e:x.1 with
    | none =>
     rw [e] at x1;have:=x1 ms hb;omega
    | some ns =>
     rw [e] at x1;exact⟨ns,(memN ns).mpr ((mem2 _).mpr ⟨x,mx,.inl e.symm⟩),x1.2.2 ms hb h1⟩
   ·have h2:worth (opp g.ts) ms <= -g.hi - 1:=by rw [zgE]; omega
    cases e:x.2 with
    | none =>
     rw [e] at x2;have:=x2 ms hb;omega
    | some ns =>
     rw [e] at x2;exact⟨ns,(memN ns).mpr ((mem2 _).mpr ⟨x,mx,.inr e.symm⟩),x2.2.2 ms hb h2⟩
  have each:∀ ns∈nss,InBox ps ns/\BrkS gs ns:=by
   intro ns mn;obtain⟨x,mx,hx⟩:=(mem2 _).mp ((memN ns).mp mn);obtain⟨g,mg,x1,x2⟩:=pm2 x mx;rcases hx with hx | hx
   ·rw [<- hx] at x1;exact⟨x1.1,g,mg,by have:=x1.2.1; simp [zbo]; omega⟩
   ·rw [<- hx] at x2;refine⟨x2.1,g,mg,?_⟩;have:=x2.2.1;rw [zgE] at this;simp [zbo];omega
  cases hne:nss with
  | nil =>
   walk_at "n";refine no fun ms hb hbr=>?_;obtain⟨ns,mn,_⟩:=behind ms hb hbr;rw [hne] at mn;cases mn
  | cons n0 nr =>
   rw [<- hne];have nn:nss≠[]:=by rw [hne]; simp
   have ie:(nss.map zlK).isEmpty=false:=by rw [hne]; rfl
   walk_at "n";rw [ie];walk_at "d"
   walk_at "n"
   refine .inr ⟨_,rfl,nss,rfl,nn,fun one mo hmin=>?_⟩;obtain⟨ob,g0,mg0,hb0⟩:=each one mo;walk_at "d";rw [show zlK one=zaG one from rfl];rw [zvJ];walk_at "d";refine zjM hl (fun g mg=>by rw [ob.len]; exact⟨by have:=(hg g mg).len; omega,fun t m=>⟨((hg g mg).ok t m).1,((hg g mg).ok t m).2.2⟩⟩) ?_;obtain⟨j,j1,j2⟩:=zeB (gs.map fun g=>zbo g one) (mem_map.mpr ⟨g0,mg0,hb0⟩);rw [getElem?_map] at j1;obtain⟨gj,e1,e2⟩:=map_eq_some_iff.mp j1;walk_at "d";refine⟨(zfd (n:=0) fun d m=>by obtain⟨g,_,rfl⟩:=mem_map.mp m; exact zp0).ok,by omega,j,⟨.bool false,by rw [getElem?_map,e1]; simp [e2],rfl⟩,fun m e hm he=>?_,?_⟩
   ·obtain⟨g',hg1,rfl⟩:=zbs he;have:=j2 m hm;rw [getElem?_map,hg1] at this;have t:zbo g' one=true:=by simpa using this
    rw [t];rfl
   ·walk_at "d";refine yes one j gj ob e1 e2 (fun m g' hm hg'=>?_) fun ms hb hbr=>?_
    ·have:=j2 m hm;rw [getElem?_map,hg'] at this;simpa using this
    ·obtain⟨ns,mn,hn⟩:=behind ms hb hbr;exact zfB ms ns one hn (hmin ns mn)
end
section
variable {R:RX} {S:Sto}
def zbv:PyData->Bool
 | .int _=>true
 | _=>false
theorem zhh:∀ {ts:List Term},(ts.Pairwise fun t u=>t.1<u.1)->∀ {t:Term},t∈ts->ts.find? (fun u=>u.1 == t.1)=some t
 | [],_,t,m=>by cases m
 | u :: ts,hs,t,m=>by
  rw [pairwise_cons] at hs;rcases mem_cons.mp m with rfl | m
  ·simp
  ·have:=hs.1 t m;rw [List.find?_cons_of_neg (by simp; omega)];exact zhh hs.2 m
def corner(ps:List Part)(ts:List Term)(up:Bool):List Int:=(List.range ps.length).map fun j=>match ts.find? (fun u=>u.1 == j) with
 | some t=>if decide (t.2<0)=up then plo ps j else phi ps j
 | none=>plo ps j
theorem zfM{ps:List Part}{ts:List Term}{up:Bool}{j:Nat}(h:j<ps.length):(corner ps ts up).getD j 0=match ts.find? (fun u=>u.1 == j) with
  | some t=>if decide (t.2<0)=up then plo ps j else phi ps j
  | none=>plo ps j:=by
 unfold corner;rw [getD_eq_getElem?_getD,getElem?_map,getElem?_range h];rfl
theorem zhS{ps:List Part}{ts:List Term}{up:Bool}(ho:Ord ps):InBox ps (corner ps ts up):=by
 refine⟨by simp [corner],fun k hk=>?_⟩;rw [zfM hk];have:=ho.at hk;split
 ·split <;> omega
 ·omega
theorem zjZ{ps:List Part}{ts:List Term}(ho:Ord ps)(h3:Tm3 ps.length ts)(hs:ts.Pairwise fun t u=>t.1<u.1):worth ts (corner ps ts false)=zag ps ts:=by
 unfold worth zag;congr 1;apply map_congr_left;intro t m;obtain⟨t1,t2,t3⟩:=h3.ok t m;rw [zfM t1,zhh hs m];simp only;by_cases hn:t.2<0
 ·rw [if_neg (by simp [hn]),zox (ho.at t1) t2 hn]
 ·rw [if_pos (by simp [hn]),zoG (ho.at t1) t3 (by omega)]
theorem zlb{ps:List Part}{ts:List Term}(ho:Ord ps)(h3:Tm3 ps.length ts)(hs:ts.Pairwise fun t u=>t.1<u.1):worth ts (corner ps ts true)=zb6 ps ts:=by
 unfold worth zb6;congr 1;apply map_congr_left;intro t m;obtain⟨t1,t2,t3⟩:=h3.ok t m;rw [zfM t1,zhh hs m];simp only;have o:=ho.at t1;unfold tHi;generalize plo ps t.1=lo at o ⊢;generalize phi ps t.1=hi at o ⊢;have:t.2 = -3\/t.2 = -2\/t.2 = -1\/t.2=0\/t.2=1\/t.2=2\/t.2=3:=by omega
 rcases this with e | e | e | e | e | e | e <;> rw [e] <;> simp <;> omega
theorem Tms.tm3'{n:Nat}{ts:List Term}(h:Tms n ts)(hn:n<=100):Tm3 n ts:=⟨by have:=h.len; omega,fun t m=>⟨(h.ok t m).1,(h.ok t m).2.2⟩⟩
theorem zj0{ps:List Part}{g:Gap}(ho:Ord ps)(hn:ps.length<=100)(ht:Tms ps.length g.ts):(∀ ms,InBox ps ms->zbo g ms=true)↔g.lo<=zag ps g.ts/\zb6 ps g.ts<=g.hi:=by
 have h3:=ht.tm3' hn;constructor
 ·intro h;have h1:=h _ (zhS (ts:=g.ts) (up:=false) ho);have h2:=h _ (zhS (ts:=g.ts) (up:=true) ho);unfold zbo at h1 h2;rw [zjZ ho h3 ht.srt,decide_eq_true_eq] at h1;rw [zlb ho h3 ht.srt,decide_eq_true_eq] at h2;exact⟨h1.1,h2.2⟩
 ·rintro⟨h1,h2⟩ ms hb;have:=zgi hb h3;unfold zbo;rw [decide_eq_true_eq];omega
def zko(ps:List Part)(g:Gap):Bool:=decide (g.lo<=zag ps g.ts/\zb6 ps g.ts<=g.hi)
end
section
variable {R:RX} {S:Sto}
def rng(lo:Int)(n:Nat):List Int:=(List.range n).map fun k:Nat=>lo+k
def zw2(p:Part):List Int:=rng p.2.1 (p.2.2 - p.2.1+1).toNat
def ext(found:List (List Int))(p:Part):List (List Int):=found.flatMap fun a=>(zw2 p).map fun x=>a++[x]
theorem zeM{ms:List Int}:InBox [] ms↔ms=[]:=⟨fun h=>eq_nil_of_length_eq_zero h.len,fun h=>by subst h; exact⟨rfl,fun k hk=>by simp at hk⟩⟩
theorem zjn{p:Part}{ps:List Part}{k:Nat}:part (p :: ps) (k+1)=part ps k:=by simp [part]
theorem zcr{p:Part}{ps:List Part}{ms:List Int}:InBox (p :: ps) ms↔∃ x t,ms=x :: t/\p.2.1<=x/\x<=p.2.2/\InBox ps t:=by
 constructor
 ·intro h;cases ms with
  | nil=>have:=h.len; simp at this
  | cons x t =>
   have h0:=h.ok 0 (by simp);refine⟨x,t,rfl,h0.1,h0.2,by have:=h.len; simpa using this,fun k hk=>?_⟩;have:=h.ok (k+1) (by simpa using hk);unfold plo phi at this ⊢;rw [zjn] at this;simpa using this
 ·rintro⟨x,t,rfl,h1,h2,h3⟩;refine⟨by simp [h3.len],fun k hk=>?_⟩;cases k with
  | zero=>exact⟨h1,h2⟩
  | succ k =>
   have:=h3.ok k (by simpa using hk);unfold plo phi at this ⊢;rw [zjn];simpa using this
def zar:List Nat->Nat
 | []=>1
 | x :: xs=>x*zar xs
def zsA(ps:List Part):Nat:=zar (ps.map fun p=>(p.2.2 - p.2.1+1).toNat)
theorem zgw{α β:Type}{f:α->List β}{n:Nat}:∀ {l:List α},(∀ x∈l,(f x).length=n)->(l.flatMap f).length=l.length*n
 | [],_=>by simp
 | x :: l,h=>by
  rw [List.flatMap_cons,length_append,h x mem_cons_self,zgw fun y m=>h y (mem_cons_of_mem _ m),length_cons,succ_mul,Nat.add_comm]
theorem zdW:∀ {l:List Nat},(∀ x∈l,1<=x)->1<=zar l
 | [],_=>le_refl _
 | x :: l,h=>mul_le_mul (h x mem_cons_self) (zdW fun y m=>h y (mem_cons_of_mem _ m))
theorem zdR:∀ (a b:List Nat),zar (a++b)=zar a*zar b
 | [],b=>by simp [zar]
 | x :: a,b=>by simp [zar,zdR a b,Nat.mul_assoc]
theorem zi5{α:Type}{l:List α}{i:Nat}{x:α}(h:l[i]? = some x):l.take (i+1)=l.take i++[x]:=by rw [take_add_one,h]; rfl
theorem zo6(a:List Int)(x:Int):PyData.tuple (a.map PyData.int++[.int x])=zaG (a++[x]):=by simp [zaG]
end
section
variable {R:RX} {S:Sto}
structure Wds(ws:List Int):Prop where
 l1:1<=ws.length
 l8:ws.length<=8
 pos:∀ x∈ws,1<=x
 le:∀ x∈ws,x<=300
 prod:zar (ws.map Int.toNat)<=300
theorem prod3:∀ {ws:List Int},(∀ x∈ws,1<=x/\x<=3)->zar (ws.map Int.toNat)<=3 ^ ws.length
 | [],_=>by simp [zar]
 | x :: ws,h=>by
  have h1:=h x mem_cons_self;have h2:=prod3 fun y m=>h y (mem_cons_of_mem _ m);rw [map_cons,zar,length_cons,Nat.pow_succ,mul_comm];exact mul_le_mul h2 (by omega)
theorem wds3{ws:List Int}(l1:1<=ws.length)(l4:ws.length<=4)(h:∀ x∈ws,1<=x/\x<=3):Wds ws:=by
 refine⟨l1,by omega,fun x m=>(h x m).1,fun x m=>by have:=(h x m).2; omega,le_trans (prod3 h) ?_⟩;have:ws.length=1\/ws.length=2\/ws.length=3\/ws.length=4:=by omega
 rcases this with e | e | e | e <;> rw [e] <;> decide
theorem zqW{Q names number:PN}{p:List PyData}{m:Int}(hQ:Q=fun xs S R=>(zP (zan (zH 0 1 names (zc (zh 0) zq)) (zk 2)) (zP (zan (zbg [none,some 0] (zaY (zc (dOp zb0 (dC (.int 1)) (zH 0 2 zp (zc (zh 0) (zc (zh 1) zq)))) zq)) (zk 0) zae (dOp zb0 (dC (.int 1)) (zH 0 2 zp (zc (zh 1) (zc (dC (.int 3)) zq))))) (zk 3)) (zP (zbR (dB (dOp zf3 (zH 0 2 zp (zc (zh 0) (zc (dC (.int 12)) zq))) (dC (.int 0)))) (zan (dOp dIx (zhr (zc (dOp zfQ (zhr (zc (dC (.int 2)) zq)) (dC (.int 8))) (zc (zhr (zc (dC (.int 17)) (zc (dC (.int 17)) zq))) (zc (zhr (zc (dC (.int 300)) zq)) (zc (dOp zfQ (zhr (zc (dC (.int 1)) zq)) (dC (.int 8))) zq))))) (zH 0 2 zp (zc (zh 0) (zc (dC (.int 4)) zq)))) (zk 3)) zam) (zP (zan (zdb zq) (zk 4)) (zP (zgf (zaY (zc (dCB zaT (zc (zh 3) zq)) zq)) (zk 5) (zP (zan (zH 0 1 number (zc (zh 0) zq)) (zk 6)) (zdi (dBM zbN (zh 4) (zc (zc0 (zc (dOp dIx (zh 2) (zh 5)) (zc (zh 6) (zc (dOp (dI0 fun i j=>i - j) (dOp zb0 (zh 6) (dOp dIx (zh 3) (zh 5))) (dC (.int 1))) zq)))) zq))))) (zaD (dCB zby (zc (zh 4) zq)))))))) (zbC S.length R) (xs.map some++List.replicate 5 none) S)
  (hnames:∀ {p:List PyData} {R:RX},zab p->(∀ (ns:List Str) p',ns.length=8->(∀ z∈ns,zfb z=true)->zab p'->R (.d (.list (ns.map PyData.str))) [p'])->names [.l 0] [p] R)
  (hnumber:∀ {p:List PyData} {R:RX},zab p->(∀ r p',-10 ^ 58<=r->r<=10 ^ 58->zab p'->R (.d (.int r)) [p'])->number [.l 0] [p] R)
  (hp:zab p) (m1:0<m) (m4:m<=4) (q:∀ (ps:List Part) p',Drw ps->zsA ps<=300->zab p'->R (.d (zbn ps)) [p']):Q [.l 0,.d (.int m)] [p] R:=by
 subst hQ;walk_at "d"
 walk_at "n"
 refine hnames hp fun ns p1 hn hz hp1=>?_;walk_at "d"
 walk_at "n"
 refine zx hp1 m1 (zcs m1 (by omega)) fun r p2 r0 r1 hp2=>?_;walk_at "d";refine zwo (α:=Int) (fun x=>1<=x/\x<=3) PyData.int (fun τ=>∃ u,τ=[u,some (.l 0)]) _ [] p2 _ ⟨_,rfl⟩ hp2 (by rw [zaC]; simp; omega) ?_ ?_
 ·rintro d md _ p acc R' ⟨u,rfl⟩ hp hk;walk_at "d";refine zx hp dz (by decide +kernel) fun r p' r0 r1 hp'=>?_;walk_at "d";exact hk _ _ p' ⟨_,rfl⟩ hp' ⟨by omega,by omega⟩
 ·intro ws p3 hp3 hw hl;rw [zaC] at hl;have hws:Wds ws:=wds3 (by omega) (by omega) hw;rw [nil_append];walk_at "d";refine cut (fun δ S=>∃ (p:List PyData) (ws:List Int),zab p/\Wds ws/\S=[p]/\δ=[some (.l 0),some (.d (.int m)),some (.d (.list (ns.map PyData.str))),some (.d (.list (ws.map PyData.int))),none,none,none]) (fun N hN=>?_) ?_
  ·walk_at "d";refine zx hp3 dz (by decide +kernel) fun r2 p4 r3 r4 hp4=>?_;walk_at "d";split
   ·refine zx hp4 dz (by decide +kernel) fun r5 p5 r6 r7 hp5=>?_;obtain⟨d,ed,ws',rfl,hw'⟩:=zpl (P:=fun d=>∃ ws:List Int,d=.list (ws.map PyData.int)/\Wds ws) (ds:=[PyData.list (List.replicate 8 [PyData.int 2]).flatten,.list [.int 17,.int 17],.list [.int 300],.list (List.replicate 8 [PyData.int 1]).flatten]) r6 r7 (by
     intro d m;simp only [mem_cons,not_mem_nil,or_false] at m;rcases m with rfl | rfl | rfl | rfl
     ·exact⟨[2,2,2,2,2,2,2,2],rfl,by decide,by decide,by decide,by decide,by decide⟩
     ·exact⟨[17,17],rfl,by decide,by decide,by decide,by decide,by decide⟩
     ·exact⟨[300],rfl,by decide,by decide,by decide,by decide,by decide⟩
     ·exact⟨[1,1,1,1,1,1,1,1],rfl,by decide,by decide,by decide,by decide,by decide⟩)
    walk_at "d";refine⟨_,ed,hN _ _ ⟨p5,ws',hp5,hw',rfl,rfl⟩⟩
   ·exact hN _ _ ⟨p4,ws,hp4,hws,rfl,rfl⟩
  rintro _ _ ⟨p,ws,hp,hws,rfl,rfl⟩;have w8:=hws.l8
  walk_at "n"
  walk_at "n";refine zav (fun i δ S=>∃ (p:List PyData) (ps:List Part) (u1 u2:Option XV),zab p/\ps.length=i/\(∀ p∈ps,Prt p)/\ps.map (fun p=>(p.2.2 - p.2.1+1).toNat)=(ws.take i).map Int.toNat/\S=[p,ps.map zdL]/\δ=[some (.l 0),some (.d (.int m)),some (.d (.list (ns.map PyData.str))),some (.d (.list (ws.map PyData.int))),some (.l 1),u1,u2]) ⟨p,[],_,_,hp,rfl,by simp,rfl,rfl,rfl⟩ ?_ ?_
  ·rintro i d _ _ N hi ⟨p,ps,u1,u2,hp,hl,ha,hs,rfl,rfl⟩ hN;obtain⟨hi',rfl⟩:=zcB hi;have iw:i<ws.length:=by simpa using hi'
   have i8:i<ns.length:=by omega
   have e:=za5 (f:=PyData.str) (getElem?_eq_getElem i8);have ew:=za5 (f:=PyData.int) (getElem?_eq_getElem iw);have w1:=hws.pos _ (getElem_mem iw);have w300:=hws.le _ (getElem_mem iw);have e0:(0:Int)+(i:Int)=(i:Int):=by omega
   walk_at "d"
   walk_at "n"
   refine hnumber hp fun lo p3 h1 h2 hp3=>?_;walk_at "d";rw [e0];refine⟨_,e,?_⟩;walk_at "d";refine⟨_,ew,?_⟩;walk_at "d";refine⟨by omega,hN _ _ ⟨p3,ps++[(ns[i],lo,lo+ws[i] - 1)],_,_,hp3,by simp [hl],fun x hx=>?_,?_,by simp [zdL],rfl⟩⟩
   ·rcases mem_append.mp hx with hx | hx
    ·exact ha x hx
    ·rw [mem_singleton.mp hx];exact⟨hz _ (getElem_mem i8),by simp only; omega,h1,by simp only; omega⟩
   ·rw [map_append,hs,zi5 (getElem?_eq_getElem iw),map_append];congr 1;simp only [map_cons,map_nil,List.cons.injEq,and_true];omega
  ·rintro _ _ ⟨p,ps,u1,u2,hp,hl,ha,hs,rfl,rfl⟩;rw [zaC] at hl hs;have hz':(ws.length:Int).toNat=ws.length:=by simp
   rw [hz'] at hl hs;rw [take_length] at hs;walk_at "d";have hw1:=hws.l1;exact q ps p ⟨by omega,by omega,ha⟩ (by unfold zsA; rw [hs]; exact hws.prod) hp
theorem zji{p:List PyData}{m:Int}(hp:zab p)(m1:0<m)(m4:m<=4)(q:∀ (ps:List Part) p',Drw ps->zsA ps<=300->zab p'->R (.d (zbn ps)) [p']):zdV [.l 0,.d (.int m)] [p] R :=
 zqW (names:=zaP) (number:=zaU) rfl zdQ zdB hp m1 m4 q
theorem zhe:∀ (a b:List Int),PyData.eqvAll (a.map PyData.int) (b.map PyData.int)=decide (a=b)
 | [],[]=>rfl
 | [],_ :: _=>rfl
 | _ :: _,[]=>rfl
 | x :: a,y :: b=>by
  show (PyData.eqv (.int x) (.int y) && PyData.eqvAll (a.map PyData.int) (b.map PyData.int))=_;rw [zgP,zhe a b];by_cases h1:x=y <;> by_cases h2:a=b <;> simp [h1,h2]
theorem znH(a b:List Int):PyData.eqv (zaG a) (zaG b)=decide (a=b):=zhe a b
theorem zho{n:Nat}(a:List Int):Shp (n+1) (zaG a):=zfF (zhc fun _ _=>zeJ)
theorem zia(a:List Int):SeqAt.shaped (zaG a)=true:=(zho (n:=0) a).ok
end
section
variable {R:RX} {S:Sto}
abbrev Off:=Int×Int×Int
def zed(o:Off):PyData:=.tuple [.int o.1,.int o.2.1,.int o.2.2]
theorem zdX(o:Off):zed o=.tuple [.int o.1,.int o.2.1,.int o.2.2]:=rfl
def zfp(l:List Off):PyData:=.tuple (l.map zed)
theorem zbT(l:List Off):zfp l=.tuple (l.map zed):=rfl
def zaN(os:List (List Off)):PyData:=.tuple (os.map zfp)
structure Ofp(p:Part)(l:List Off):Prop where
 l1:1<=l.length
 l4:l.length<=4
 ok:∀ o∈l,p.2.1<=o.1/\o.1<=o.2.1/\o.2.1<=p.2.2
structure Offs(ps:List Part)(os:List (List Off)):Prop where
 len:os.length=ps.length
 ok:∀ (i:Nat) p l,ps[i]? = some p->os[i]? = some l->Ofp p l
theorem zoC{α:Type}{l:List α}(h:1<=l.length):∃ m x,l=m++[x]:=⟨l.dropLast,l.getLast (by intro z; subst z; simp at h),(List.dropLast_concat_getLast _).symm⟩
theorem gD{α:Type}{l:List α}{k:Nat}{d:α}(h:k<l.length):l[k]? = some (l.getD k d):=by
 rw [getD_eq_getElem?_getD];rw [getElem?_eq_getElem h];rfl
def offer(os:List (List Off))(ks:List Nat)(i:Nat):Off:=(os.getD i []).getD (ks.getD i 0) (0,0,0)
structure Chs(os:List (List Off))(ks:List Nat):Prop where
 len:ks.length=os.length
 ok:∀ i,i<os.length->ks.getD i 0<(os.getD i []).length
def chosen(ps:List Part)(os:List (List Off))(ks:List Nat):List Part:=(List.range ps.length).map fun i=>((part ps i).1,(offer os ks i).1,(offer os ks i).2.1)
def zhw(ks:List Nat):PyData:=.tuple (ks.map fun k:Nat=>.int k)
theorem zai{ps:List Part}{os:List (List Off)}{ks:List Nat}:(chosen ps os ks).length=ps.length:=by simp [chosen]
theorem zkA{ps:List Part}{os:List (List Off)}{ks:List Nat}{i:Nat}(h:i<ps.length):part (chosen ps os ks) i=((part ps i).1,(offer os ks i).1,(offer os ks i).2.1):=by
 have:=zbq (ps:=chosen ps os ks) (k:=i) (by rw [zai]; exact h);unfold chosen at this ⊢;rw [getElem?_map,getElem?_range h] at this;exact(Option.some.inj this).symm
theorem zeV{os:List (List Off)}{i:Nat}(h:i<os.length):os[i]? = some (os.getD i []):=by rw [getElem?_eq_getElem h,getD_eq_getElem?_getD,getElem?_eq_getElem h]; rfl
theorem ze6{os:List (List Off)}{ks:List Nat}(hc:Chs os ks){i:Nat}(h:i<os.length):(os.getD i [])[ks.getD i 0]? = some (offer os ks i):=by
 have:=hc.ok i h;exact gD this
theorem zqp{ps:List Part}{os:List (List Off)}{ks:List Nat}(ho:Offs ps os)(hc:Chs os ks){i:Nat}(h:i<ps.length):plo ps i<=(offer os ks i).1/\(offer os ks i).1<=(offer os ks i).2.1/\(offer os ks i).2.1<=phi ps i:=by
 have hi:i<os.length:=by rw [ho.len]; exact h
 exact(ho.ok i _ _ (zbq h) (zeV hi)).ok _ (mem_of_getElem? (ze6 hc hi))
theorem zuA{ps:List Part}(h:∀ i,i<ps.length->plo ps i<=phi ps i):Ord ps:=fun p m=>by
 obtain⟨i,hi⟩:=mem_iff_getElem?.mp m;have hl:=(List.getElem?_eq_some_iff.mp hi).1;have:=h i hl;rw [zbq hl] at hi;cases hi;exact this
theorem zc9{ps:List Part}{os:List (List Off)}{ks:List Nat}(ho:Offs ps os)(hc:Chs os ks):Ord (chosen ps os ks):=by
 refine zuA fun i hi=>?_;rw [zai] at hi;unfold plo phi;rw [zkA hi];exact(zqp ho hc hi).2.1
theorem zpi{g:DG}{te:DE}{fin:Sto->Prop}{ps:List Part}{os:List (List Off)}{p:List PyData}{u0:Option XV}{caps:XE}{n:Nat}(S0:Sto)(hn:S0.length+1=n)(ho:Offs ps os)(h8:ps.length<=8)(hp:zab p)
  (el:∀ (l:List Off) (u:Option XV) p acc (R:XE->RX),1<=l.length->l.length<=4->zab p->(∀ u' (k:Nat) p',zab p'->k<l.length->R (u' :: caps) (.d (.int (k:Nat))) (p' :: (S0++[acc])))->g (.d (zfp l)) (u :: caps) (p :: (S0++[acc])) fun τ1 S1=>te τ1 S1 (R τ1))
  (hf:∀ ks p',zab p'->Chs os ks->fin (p' :: (S0++[ks.map fun k:Nat=>.int k]))):zeH n g zae te fin (os.map zfp) (u0 :: caps) (p :: (S0++[[]])):=by
 subst hn;have go:∀ (os:List (List Off)) (u:Option XV) (acc:List Nat) (p:List PyData),zab p->acc.length+os.length<=1000->(∀ l∈os,1<=l.length/\l.length<=4) ->
   (∀ ks p',zab p'->Chs os ks->fin (p' :: (S0++[(acc++ks).map fun k:Nat=>.int k])))->zeH (S0.length+1) g zae te fin (os.map zfp) (u :: caps) (p :: (S0++[acc.map fun k:Nat=>.int k])):=by
  intro os;induction os with
  | nil =>
   intro u acc p hp _ _ h;have:=h [] p hp ⟨rfl,fun i hi=>by simp at hi⟩;rw [append_nil] at this;exact this
  | cons l os ih =>
   intro u acc p hp hl h4 h;show g (.d (zfp l)) (u :: caps) (p :: (S0++[acc.map fun k:Nat=>.int k])) fun τ1 S1=>zae τ1 S1 fun b S2=>if b=true then te τ1 S2 fun x S3=>asD x fun e=>∃ acc,S3[S0.length+1]? = some acc/\acc.length<1000/\zeH (S0.length+1) g zae te fin (os.map zfp) τ1 (S3.set (S0.length+1) (acc++[e])) else zeH (S0.length+1) g zae te fin (os.map zfp) τ1 S2
   simp only [zae,↓reduceIte];rw [length_cons] at hl;have hl4:=h4 l mem_cons_self;refine el l u p _ (fun τ1 x S3=>asD x fun e=>∃ acc,S3[S0.length+1]? = some acc/\acc.length<1000/\zeH (S0.length+1) g zae te fin (os.map zfp) τ1 (S3.set (S0.length+1) (acc++[e]))) hl4.1 hl4.2 hp fun u' k p' hp' hk=>?_;refine⟨acc.map fun k:Nat=>.int k,by simp,by rw [length_map]; omega,?_⟩;have e:(p' :: (S0++[acc.map fun k:Nat=>PyData.int k]):Sto).set (S0.length+1) ((acc.map fun k:Nat=>PyData.int k)++[.int (k:Nat)])=p' :: (S0++[(acc++[k]).map fun k:Nat=>PyData.int k]):=by
    rw [set_cons_succ,zeS rfl];simp
   rw [e];refine ih u' (acc++[k]) p' hp' (by rw [length_append,length_singleton]; omega) (fun l m=>h4 l (mem_cons_of_mem _ m)) fun ks p'' hp'' hc=>?_;rw [append_assoc];refine h (k :: ks) p'' hp'' ⟨by simp [hc.len],fun i hi=>?_⟩;cases i with
   | zero=>exact hk
   | succ i=>exact hc.ok i (by simpa using hi)
 refine go os u0 [] p hp (by have:=ho.len; simp; omega) (fun l m=>?_) fun ks p' hp' hc=>hf ks p' hp' hc;obtain⟨i,hi⟩:=mem_iff_getElem?.mp m;have hl:=(List.getElem?_eq_some_iff.mp hi).1;have:=ho.ok i _ l (zbq (by rw [<- ho.len]; exact hl)) hi;exact⟨this.l1,this.l4⟩
theorem zca{ps:List Part}{os:List (List Off)}{ks:List Nat}(ho:Offs ps os)(hc:Chs os ks)(h8:ps.length<=8)(q:R (.d (zbn (chosen ps os ks))) []):zaF [.d (zbn ps),.d (zaN os),.d (zhw ks)] [] R:=by
 unfold zaF zbn zaN zhw;walk_at "d";refine cmp1 (S0:=[]) (fun i:Nat=>zdL ((part ps i).1,(offer os ks i).1,(offer os ks i).2.1)) rfl (List.range ps.length) (by simp; omega) ?_ ?_
 ·intro i mi u acc R' hk;have hi:=mem_range.mp mi;have hi2:i<os.length:=by rw [ho.len]; exact hi
  have hi3:i<ks.length:=by rw [hc.len]; exact hi2
  have e1:=za5 (f:=zdL) (zbq hi);have e2:=za5 (f:=zfp) (zeV hi2);have e3:=za5 (f:=fun k:Nat=>PyData.int k) (show ks[i]? = some (ks.getD i 0) by rw [getElem?_eq_getElem hi3,getD_eq_getElem?_getD,getElem?_eq_getElem hi3]; rfl);have e4:=za5 (f:=zed) (ze6 hc hi2);walk_at "d";simp only [Int.zero_add];refine⟨_,e1,?_⟩;rw [zfq];walk_at "d";refine⟨_,e2,?_⟩;rw [zbT];walk_at "d";refine⟨_,e3,?_⟩;walk_at "d";refine⟨_,e4,?_⟩;rw [zdX];walk_at "d";have ec:zdl [PyData.int (offer os ks i).1,.int (offer os ks i).2.1,.int (offer os ks i).2.2] none (some 2)=[PyData.int (offer os ks i).1,.int (offer os ks i).2.1]:=rfl;rw [ec];walk_at "d";exact⟨by decide,hk _⟩
 ·walk_at "d";have e:(List.range ps.length).map (fun i:Nat=>zdL ((part ps i).1,(offer os ks i).1,(offer os ks i).2.1))=(chosen ps os ks).map zdL:=by
   unfold chosen;rw [map_map];rfl
  rw [e];exact q
theorem zm8{ps:List Part}{os:List (List Off)}{ks:List Nat}(ho:Offs ps os)(hc:Chs os ks):(ps.zip ((os.zip ks).map fun q=>q.1.getD q.2 (0,0,0))).map (fun q=>zdL (q.1.1,q.2.1,q.2.2.1))=(chosen ps os ks).map zdL:=by
 have hl:=ho.len;have hk:=hc.len;refine List.ext_getElem (by simp [zai]; omega) fun i h1 h2=>?_;have hi:i<ps.length:=by simpa [zai] using h2
 have hi2:i<os.length:=by omega
 have hi3:i<ks.length:=by omega
 simp only [List.getElem_map,List.getElem_zip,chosen,List.getElem_range];have e1:part ps i=ps[i]:=by simp [part,hi]
 have e2:os.getD i []=os[i]:=by simp [hi2]
 have e3:ks.getD i 0=ks[i]:=by simp [hi3]
 unfold offer;rw [e1,e2,e3]
theorem zhH{ps:List Part}{os:List (List Off)}{ks:List Nat}(ho:Offs ps os)(hc:Chs os ks)(h8:ps.length<=8)(q:R (.d (zbn (chosen ps os ks))) []):zcq [.d (zbn ps),.d (zaN os),.d (zhw ks)] [] R:=by
 have hl:=ho.len;have hk:=hc.len;unfold zcq zbn zaN zhw;walk_at "d"
 walk_at "n"
 rw [zco];refine cmp2 (S0:=[]) (fun q:List Off×Nat=>zed (q.1.getD q.2 (0,0,0))) rfl (os.zip ks) (by simp; omega) ?_ ?_
 ·intro x mx u v acc R' hk';obtain⟨i,hi⟩:=mem_iff_getElem?.mp mx;rw [getElem?_zip_eq_some] at hi;obtain⟨h1,h2⟩:=hi;have il:i<os.length:=(List.getElem?_eq_some_iff.mp h1).1;have e1:os.getD i []=x.1:=by rw [zeV il] at h1; exact Option.some.inj h1
  have e2:ks.getD i 0=x.2:=by rw [gD (d:=0) (by omega)] at h2; exact Option.some.inj h2
  have kb:=hc.ok i il;rw [e1,e2] at kb;have e3:=za5 (f:=zed) (gD (d:=((0,0,0):Off)) kb);rw [zbT];walk_at "d";refine⟨_,e3,?_⟩;exact hk' _ _
 ·walk_at "d";have em:(os.zip ks).map (fun q:List Off×Nat=>zed (q.1.getD q.2 (0,0,0)))=((os.zip ks).map fun q:List Off×Nat=>q.1.getD q.2 (0,0,0)).map zed:=by rw [map_map]; rfl
  rw [em,zco];refine cmp2 (S0:=[]) (fun q:Part×Off=>zdL (q.1.1,q.2.1,q.2.2.1)) rfl _ (by simp; omega) ?_ ?_
  ·intro x mx u v acc R' hk';rw [zfq,zdX];walk_at "d";exact hk' _ _
  ·walk_at "d";rw [zm8 ho hc];exact q
def ze5(ps:List Part)(gs:List Gap):Bool:=gs.all fun g=>zko ps g
theorem zeZ{ps:List Part}{gs:List Gap}(ho:Ord ps)(hn:ps.length<=100)(hg:∀ g∈gs,Tms ps.length g.ts):ze5 ps gs=true↔∀ ms,InBox ps ms->¬ BrkS gs ms:=by
 unfold ze5;rw [all_eq_true];constructor
 ·rintro h ms hb ⟨g,mg,hk⟩;have:=h g mg;unfold zko at this;rw [decide_eq_true_eq] at this;have:=(zj0 ho hn (hg g mg)).mpr this ms hb;rw [hk] at this;cases this
 ·intro h g mg;unfold zko;rw [decide_eq_true_eq];refine(zj0 ho hn (hg g mg)).mp fun ms hb=>?_;cases hk:zbo g ms with
  | true=>rfl
  | false=>exact absurd ⟨g,mg,hk⟩ (h ms hb)
theorem zhz{ps:List Part}{os:List (List Off)}{ks:List Nat}{gs:List Gap}(ho:Offs ps os)(hc:Chs os ks)(h8:ps.length<=8)(hg:∀ g∈gs,Tms ps.length g.ts)(q:R (.d (.bool (ze5 (chosen ps os ks) gs))) []):zdk [.d (zbn ps),.d (zb5 gs),.d (zaN os),.d (zhw ks)] [] R:=by
 have cl:=zai (ps:=ps) (os:=os) (ks:=ks);unfold zdk;rw [zb5];walk_at "d"
 walk_at "n"
 refine zca ho hc h8 ?_;walk_at "d";walk_at "n";refine zav (fun i δ S=>∃ (u1 u2 u3:Option XV),(∀ (m:Nat) g,m<i->gs[m]? = some g->zko (chosen ps os ks) g=true)/\S=[]/\δ=[some (.d (zbn ps)),some (.d (.tuple (gs.map zhT))),some (.d (zaN os)),some (.d (zhw ks)),some (.d (zbn (chosen ps os ks))),u1,u2,u3]) ⟨_,_,_,fun m g hm=>by omega,rfl,rfl⟩ ?_ ?_
 ·rintro i d _ _ N hi ⟨u1,u2,u3,hb,rfl,rfl⟩ hN;obtain⟨g,hgi,rfl⟩:=zbs hi;have mg:=mem_of_getElem? hgi;rw [zce];walk_at "d"
  walk_at "n"
  refine zcX rfl (by rw [cl]; exact(hg g mg).tm3 h8) ?_;unfold spD;walk_at "d";have bad:zko (chosen ps os ks) g=false->R (.d (.bool false)) []:=by
   intro hk;have:ze5 (chosen ps os ks) gs=false:=by
    rw [Bool.eq_false_iff];intro h;unfold ze5 at h;rw [all_eq_true] at h;have:=h g mg;rw [hk] at this;cases this
   rw [this] at q;exact q
  by_cases h1:zag (chosen ps os ks) g.ts<g.lo
  ·rw [if_pos h1];exact bad (by simp [zko]; omega)
  ·rw [if_neg h1];by_cases h2:g.hi<zb6 (chosen ps os ks) g.ts
   ·simp only [h2,↓reduceIte];exact bad (by simp [zko]; omega)
   ·simp only [h2,↓reduceIte];refine hN _ _ ⟨_,_,_,fun m g' hm hm'=>?_,rfl,rfl⟩;by_cases e:m=i
    ·subst e;rw [hgi] at hm';cases hm';simp [zko];omega
    ·exact hb m g' (by omega) hm'
 ·rintro _ _ ⟨u1,u2,u3,hb,rfl,rfl⟩;rw [length_map] at hb;have:ze5 (chosen ps os ks) gs=true:=by
   unfold ze5;rw [all_eq_true];intro g mg;obtain⟨i,hi⟩:=mem_iff_getElem?.mp mg;exact hb i g (List.getElem?_eq_some_iff.mp hi).1 hi
  rw [this] at q;walk_at "d";exact q
theorem zgc{p:List PyData}{ps:List Part}{os:List (List Off)}{m:Int}(hp:zab p)(hd:Drw ps)(ho:Offs ps os)(m1:0<m)(m6:m<=6)(q:∀ gs p',Gaps ps.length gs->zab p'->R (.d (zb5 gs)) [p']):zbP [.l 0,.d (zbn ps),.d (zaN os),.d (.int m)] [p] R:=by
 have h8:=hd.l8;unfold zbP;walk_at "d"
 walk_at "n"
 refine zhD hp hd m1 m6 fun gs p1 hgs gm hp1=>?_;rw [zb5];walk_at "d";refine cut (fun δ S=>∃ (p:List PyData) (gs:List Gap) (u1 u2 u3 u4 u5:Option XV),zab p/\Gaps ps.length gs/\S=[p,gs.map zhT]/\δ=[some (.l 0),some (.d (zbn ps)),some (.d (zaN os)),some (.d (.int m)),some (.l 1),u1,u2,u3,u4,u5]) (fun N hN=>?_) ?_
 ·walk_at "d";refine zx hp1 dz (by decide +kernel) fun r p2 r0 r1 hp2=>?_;walk_at "d";split
  ·walk_at "n"
   rw [zaN];walk_at "d";refine zpi (ps:=ps) (os:=os) [gs.map zhT] rfl ho h8 hp2 ?_ ?_
   ·intro l u p acc R' l1 l4 hp hk;rw [zbT];walk_at "d";refine zx hp (by omega) (zcs (by omega) (by omega)) fun r p2 r0 r1 hp2=>?_;obtain⟨k,rfl⟩:=Int.eq_ofNat_of_zero_le r0;walk_at "d";exact hk _ k p2 hp2 (by omega)
   ·intro ks p3 hp3 hc;walk_at "d"
    walk_at "n"
    have ec:PyData.tuple (ks.map fun k:Nat=>PyData.int k)=zhw ks:=rfl;have eo:PyData.tuple (os.map zfp)=zaN os:=rfl;rw [ec,eo];refine zca ho hc h8 ?_;walk_at "d";have cl:=zai (ps:=ps) (os:=os) (ks:=ks);refine zav (fun i δ S=>∃ (p:List PyData) (gs':List Gap) (u3 u4 u5:Option XV),zab p/\Gaps ps.length gs'/\gs'.length=gs.length/\S=[p,gs'.map zhT]/\δ=[some (.l 0),some (.d (zbn ps)),some (.d (zaN os)),some (.d (.int m)),some (.l 1),some (.d (zhw ks)),some (.d (zbn (chosen ps os ks))),u3,u4,u5]) ⟨p3,gs,_,_,_,hp3,hgs,rfl,rfl,rfl⟩ ?_ ?_
    ·rintro i d _ _ N' hi ⟨p,gs',u3,u4,u5,hp,hgs',hl,rfl,rfl⟩ hN';obtain⟨hi',rfl⟩:=zcB hi;have il:i<gs'.length:=by
      have:i<gs.length:=by simpa using hi'
      omega
     have hg:=getElem?_eq_getElem il;have e:=za5 (f:=zhT) hg;have gok:=hgs'.all _ (mem_of_getElem? hg);generalize gs'[i]=g at hg e gok;walk_at "d"
     walk_at "n"
     simp only [Int.zero_add];refine⟨_,e,?_⟩;rw [zce];walk_at "d";refine zcX rfl (by rw [cl]; exact gok.ts.tm3 h8) ?_;unfold spD;walk_at "d";refine⟨_,e,?_⟩;rw [zce];walk_at "d";refine zx hp dz (by decide +kernel) fun r2 p4 r3 r4 hp4=>?_;walk_at "d";refine zx hp4 dz (by decide +kernel) fun r5 p5 r6 r7 hp5=>?_;walk_at "d";have lm:=zde (chosen ps os ks) g.ts;refine⟨i,zoz il,hN' _ _ ⟨p5,gs'.set i ⟨g.ts,zag (chosen ps os ks) g.ts - r2,zb6 (chosen ps os ks) g.ts+r5⟩,_,_,_,hp5,⟨by have:=hgs'.l1; simpa using this,by have:=hgs'.l6; simpa using this,fun x mx=>?_⟩,by simpa using hl,by simp only [map_set,zhT],rfl⟩⟩;rcases List.mem_or_eq_of_mem_set mx with h | rfl
     ·exact hgs'.all x h
     ·exact⟨gok.ts,by simp only; omega⟩
    ·rintro _ _ ⟨p,gs',u3,u4,u5,hp,hgs',hl,rfl,rfl⟩;exact hN _ _ ⟨p,gs',_,_,_,_,_,hp,hgs',rfl,rfl⟩
  ·exact hN _ _ ⟨p2,gs,_,_,_,_,_,hp2,hgs,rfl,rfl⟩
 ·rintro _ _ ⟨p,gs,u1,u2,u3,u4,u5,hp,hgs,rfl,rfl⟩;walk_at "d";exact q gs p hgs hp
end
section
variable {R:RX} {S:Sto}
theorem zeE{os:List (List Off)}(h8:os.length<=8)(q:R (.d (.list (os.map fun l=>.int l.length))) []):zct [.d (zaN os)] [] R:=by
 unfold zct zaN;walk_at "d";refine cmp1 (S0:=[]) (fun l:List Off=>.int l.length) rfl os (by omega) ?_ ?_
 ·intro l ml u acc R' hk;rw [zbT];walk_at "d";exact hk _
 ·walk_at "d";exact .inl q
end
section
variable {R:RX}
def blk(n i:Nat):List (List Nat):=(List.range (n - (i+1))).map fun k=>[i,i+1+k]
end
section
variable {R:RX}
theorem len2{ds:List PyData}(h:ds.length=2):∃ x y,ds=[x,y]:=by
 match ds,h with
 | [x,y],_=>exact⟨x,y,rfl⟩
end
section
variable {R:RX} {S:Sto}
inductive Hs:PyData->Prop
 | tup {ds:List PyData}:(∀ x r,ds=x :: r->SeqAt.shaped x=true)->(∀ y∈ds,Hs y)->Hs (.tuple ds)
 | oth {d:PyData}:(∀ ds,d≠.tuple ds)->Hs d
theorem Hs.hd{x:PyData}{r:List PyData}(h:Hs (.tuple (x :: r))):SeqAt.shaped x=true:=by
 cases h with
 | tup h1 h2=>exact h1 x r rfl
 | oth h=>exact absurd rfl (h _)
theorem Hs.item{ds:List PyData}(h:Hs (.tuple ds)):∀ y∈ds,Hs y:=by
 cases h with
 | tup h1 h2=>exact h2
 | oth h=>exact absurd rfl (h _)
theorem len5{ds:List PyData}(h:ds.length=5):∃ x y z u v,ds=[x,y,z,u,v]:=by
 match ds,h with
 | [x,y,z,u,v],_=>exact⟨x,y,z,u,v,rfl⟩
end
section
theorem zdy(a b:Int)(x y:List Int):HT.lexLt (a :: x) (b :: y)=true↔a<b\/a=b/\HT.lexLt x y=true:=by
 rw [HT.lexLt_cons];split
 ·rename_i h;exact⟨fun z=>.inr ⟨h,z⟩,fun z=>z.elim (fun z=>by omega) fun z=>z.2⟩
 ·rename_i h;rw [decide_eq_true_eq];exact⟨fun z=>.inl z,fun z=>z.elim id fun z=>absurd z.1 h⟩
theorem zkg(x:List Int):HT.lexLt x []=false:=by cases x <;> rfl
theorem zrh:∀ x:List Int,HT.lexLt x x=false
 | []=>rfl
 | a :: x=>by
  cases h:HT.lexLt (a :: x) (a :: x) with
  | false=>rfl
  | true =>
   rcases(zdy a a x x).mp h with z | ⟨_,z⟩
   ·omega
   ·rw [zrh x] at z; cases z
theorem zsO:∀ {x y z:List Int},HT.lexLt x y=true->HT.lexLt y z=true->HT.lexLt x z=true
 | x,y,[],_,h=>by rw [zkg] at h; cases h
 | x,[],_,h,_=>by rw [zkg] at h; cases h
 | [],_ :: _,_ :: _,_,_=>rfl
 | a :: x,b :: y,c :: z,h,k=>by
  rw [zdy] at h k ⊢;rcases h with h | ⟨h,h'⟩ <;> rcases k with k | ⟨k,k'⟩
  ·exact .inl (by omega)
  ·exact .inl (by omega)
  ·exact .inl (by omega)
  ·exact .inr ⟨by omega,zsO h' k'⟩
theorem zoq:∀ {x y z:List Int},HT.lexLt x y=true->HT.lexLt y z=true->x <+: z->x <+: y
 | [],y,_,_,_,_=>List.nil_prefix
 | a :: x,[],_,h,_,_=>by rw [zkg] at h; cases h
 | a :: x,b :: y,[],_,h,_=>by rw [zkg] at h; cases h
 | a :: x,b :: y,c :: z,h,k,p=>by
  rw [zdy] at h k;rw [List.cons_prefix_cons] at p ⊢;obtain⟨rfl,p⟩:=p;rcases h with h | ⟨h,h'⟩ <;> rcases k with k | ⟨k,k'⟩
  ·omega
  ·omega
  ·omega
  ·exact⟨h,zoq h' k' p⟩
theorem zrY:∀ {x y:List Int},x <+: y->HT.lexLt y x=false
 | [],y,_=>zkg y
 | a :: x,[],p=>by simp at p
 | a :: x,b :: y,p=>by
  rw [List.cons_prefix_cons] at p;obtain⟨rfl,p⟩:=p;cases h:HT.lexLt (a :: y) (a :: x) with
  | false=>rfl
  | true =>
   rcases(zdy a a y x).mp h with z | ⟨_,z⟩
   ·omega
   ·rw [zrY p] at z; cases z
def zjj:List (List Int)->Bool
 | x :: y :: r=>HT.lexLt x y && !(x.isPrefixOf y) && zjj (y :: r)
 | _=>true
def Free(x y:List Int):Prop:=¬ x <+: y/\¬ y <+: x
theorem zgr:∀ {x:List Int} {B:List (List Int)},zjj (x :: B)=true->∀ y∈B,HT.lexLt x y=true/\¬ x <+: y
 | x,[],_,y,m=>by cases m
 | x,z :: r,h,y,m=>by
  simp only [zjj,Bool.and_eq_true,Bool.not_eq_true'] at h;obtain⟨⟨h1,h2⟩,h3⟩:=h;have n:¬ x <+: z:=fun p=>by rw [isPrefixOf_iff_prefix.mpr p] at h2; cases h2
  rcases mem_cons.mp m with rfl | m
  ·exact⟨h1,n⟩
  ·have k:=zgr h3 y m;exact⟨zsO h1 k.1,fun p=>n (zoq h1 k.1 p)⟩
theorem zgm:∀ {B:List (List Int)},zjj B=true->B.Pairwise Free
 | [],_=>.nil
 | x :: B,h=>by
  refine .cons (fun y m=>⟨(zgr h y m).2,fun p=>?_⟩) (zgm ?_)
  ·have:=zrY p;rw [(zgr h y m).1] at this;cases this
  ·cases B with
   | nil=>rfl
   | cons z r =>
    simp only [zjj,Bool.and_eq_true] at h;exact h.2
def fil:List Nat->List (List Int)
 | []=>[[]]
 | s :: r=>(List.range s).flatMap fun k:Nat=>(fil r).map fun z=>(k:Int) :: z
theorem zfz:∀ sz:List Nat,(fil sz).length=zar sz
 | []=>rfl
 | s :: r=>by
  have:∀ (n:Nat),((List.range n).flatMap fun k:Nat=>(fil r).map fun z=>(k:Int) :: z).length=n*zar r:=by
   intro n;induction n with
   | zero=>simp
   | succ n ih =>
    rw [range_succ,List.flatMap_append,length_append,ih];simp [zfz r,succ_mul]
  exact this s
def Bgn:List Nat->List Int->Prop
 | _,[]=>True
 | [],_ :: _=>False
 | s :: r,k :: b=>(0<=k/\k<s)/\Bgn r b
theorem zdO:∀ {sz:List Nat} {z:List Int},z∈fil sz↔z.length=sz.length/\Bgn sz z
 | [],z=>by
  cases z with
  | nil=>simp [fil,Bgn]
  | cons a z=>simp [fil,Bgn]
 | s :: r,z=>by
  simp only [fil,mem_flatMap,mem_range,mem_map];constructor
  ·rintro⟨k,hk,y,hy,rfl⟩;have:=(zdO (sz:=r)).mp hy;exact⟨by simp [this.1],⟨by omega,by omega⟩,this.2⟩
  ·rintro⟨h1,h2⟩;cases z with
   | nil=>simp at h1
   | cons k z =>
    obtain⟨⟨a,b⟩,c⟩:=h2;exact⟨k.toNat,by omega,z,(zdO (sz:=r)).mpr ⟨by simpa using h1,c⟩,by rw [Int.toNat_of_nonneg a]⟩
theorem zhi:∀ {sz:List Nat} {b:List Int},Bgn sz b->((fil sz).filter fun z=>b.isPrefixOf z).length=zar (sz.drop b.length)
 | sz,[],_=>by
  rw [List.filter_eq_self.mpr (fun _ _=>by simp [List.isPrefixOf])];simp [zfz]
 | s :: r,k :: b,h=>by
  obtain⟨⟨h0,h1⟩,hb⟩:=h;have ih:=zhi (sz:=r) hb;have blk:∀ j:Nat,(((fil r).map fun z=>(j:Int) :: z).filter fun z=>(k :: b).isPrefixOf z).length=if (j:Int)=k then zar (r.drop b.length) else 0:=by
   intro j;rw [List.filter_map,length_map];by_cases e:(j:Int)=k
   ·rw [if_pos e,<- ih];congr 1;apply List.filter_congr;intro z _;simp [List.isPrefixOf,e]
   ·rw [if_neg e];rw [List.length_eq_zero_iff,List.filter_eq_nil_iff];intro z _;simp [List.isPrefixOf,Ne.symm e]
  have all:∀ n:Nat,(((List.range n).flatMap fun j:Nat=>(fil r).map fun z=>(j:Int) :: z).filter fun z=>(k :: b).isPrefixOf z).length=if k<n then zar (r.drop b.length) else 0:=by
   intro n;induction n with
   | zero=>rw [if_neg (by omega)]; rfl
   | succ n ih2 =>
    rw [range_succ,List.flatMap_append,List.filter_append,length_append,ih2];have:=blk n;simp only [List.flatMap_cons,List.flatMap_nil,append_nil];rw [this];by_cases e1:k<n
    ·rw [if_pos e1,if_neg (by omega),if_pos (by omega)]; rfl
    ·by_cases e2:(n:Int)=k
     ·rw [if_neg e1,if_pos e2,if_pos (by omega)]; omega
     ·rw [if_neg e1,if_neg e2,if_neg (by omega)]
  have:=all s;rw [if_pos h1] at this;exact this
theorem zgp{α β:Type}(p:α->β->Bool):∀ (A:List α) (B:List β),(A.map fun a=>(B.filter fun b=>p a b).length).sum=(B.map fun b=>(A.filter fun a=>p a b).length).sum
 | [],B=>by
  induction B with
  | nil=>rfl
  | cons b B ih=>simpa using ih
 | a :: A,B=>by
  have ih:=zgp p A B;rw [map_cons,sum_cons,ih];induction B with
  | nil=>rfl
  | cons b B ihB =>
   have ih':(B.filter fun b=>p a b).length+(B.map fun b=>(A.filter fun a=>p a b).length).sum=(B.map fun b=>((a :: A).filter fun a=>p a b).length).sum:=ihB (zgp p A B);rw [map_cons,map_cons,sum_cons,sum_cons,<- ih'];by_cases h:p a b=true
   ·simp only [filter_cons,h,if_true,length_cons];omega
   ·simp only [filter_cons,h,if_false,Bool.false_eq_true];omega
theorem zih:∀ {l:List Nat},(∀ x∈l,x<=1)->(l.sum=l.length↔∀ x∈l,x=1)
 | [],_=>by simp
 | a :: l,h=>by
  have h1:=h a mem_cons_self;have ih:=zih (l:=l) fun x m=>h x (mem_cons_of_mem _ m);have le:l.sum<=l.length:=by
   have:∀ {l:List Nat},(∀ x∈l,x<=1)->l.sum<=l.length:=by
    intro l;induction l with
    | nil=>simp
    | cons b l ih=>intro h; have:=h b mem_cons_self; have:=ih fun x m=>h x (mem_cons_of_mem _ m); simp; omega
   exact this fun x m=>h x (mem_cons_of_mem _ m)
  rw [sum_cons,length_cons];constructor
  ·intro e x m;rcases mem_cons.mp m with rfl | m
   ·omega
   ·exact ih.mp (by omega) x m
  ·intro e;have:=e a mem_cons_self;have:=ih.mpr fun x m=>e x (mem_cons_of_mem _ m);omega
theorem zgj:∀ {B:List (List Int)} (z:List Int),B.Pairwise Free->(B.filter fun b=>b.isPrefixOf z).length<=1
 | [],_,_=>by simp
 | b :: B,z,h=>by
  rw [pairwise_cons] at h;by_cases p:b.isPrefixOf z=true
  ·have:B.filter (fun b=>b.isPrefixOf z)=[]:=by
    rw [List.filter_eq_nil_iff];intro c mc pc;have p1:=isPrefixOf_iff_prefix.mp p;have p2:=isPrefixOf_iff_prefix.mp pc;have fr:=h.1 c mc;rcases Nat.le_total b.length c.length with w | w
    ·exact fr.1 (List.prefix_of_prefix_length_le p1 p2 w)
    ·exact fr.2 (List.prefix_of_prefix_length_le p2 p1 w)
   simp [filter_cons,p,this]
  ·simp only [filter_cons,p,if_false,Bool.false_eq_true];exact zgj z h.2
def zrL(sz:List Nat)(B:List (List Int)):Nat:=(B.map fun b=>zar (sz.drop b.length)).sum
theorem zeL{sz:List Nat}{B:List (List Int)}(hB:∀ b∈B,Bgn sz b)(ha:zjj B=true):zrL sz B=zar sz↔∀ z∈fil sz,∃ b∈B,b <+: z:=by
 have e1:zrL sz B=((fil sz).map fun z=>(B.filter fun b=>b.isPrefixOf z).length).sum:=by
  rw [<- zgp (fun(b:List Int) (z:List Int)=>b.isPrefixOf z) B (fil sz)];unfold zrL;congr 1;apply map_congr_left;intro b mb;exact(zhi (hB b mb)).symm
 have fr:=zgm ha;have one:∀ x∈(fil sz).map fun z=>(B.filter fun b=>b.isPrefixOf z).length,x<=1:=by
  intro x m;obtain⟨z,_,rfl⟩:=mem_map.mp m;exact zgj z fr
 have:=zih one;rw [length_map,zfz] at this;rw [e1,this];constructor
 ·intro h z mz;have:=h _ (mem_map_of_mem mz);cases hf:B.filter fun b=>b.isPrefixOf z with
  | nil=>rw [hf] at this; cases this
  | cons b r =>
   have mb:b∈B.filter fun b=>b.isPrefixOf z:=by rw [hf]; exact mem_cons_self
   obtain⟨m1,m2⟩:=mem_filter.mp mb;exact⟨b,m1,isPrefixOf_iff_prefix.mp m2⟩
 ·intro h x m;obtain⟨z,mz,rfl⟩:=mem_map.mp m;obtain⟨b,mb,p⟩:=h z mz;have le:=zgj z fr;have:0<(B.filter fun b=>b.isPrefixOf z).length:=List.length_pos_of_mem (mem_filter.mpr ⟨mb,isPrefixOf_iff_prefix.mpr p⟩);omega
end
section
variable {R:RX} {S:Sto}
abbrev Trm:=Int×Int
def wys(l:List Trm):List Trm:=(0,0) :: l
def szD(sz:List Nat):PyData:=.list (sz.map fun n:Nat=>.int n)
def way(l:List Trm)(k:Int):Trm:=(wys l).getD k.toNat (0,0)
theorem znw:∀ {sz:List Nat} {b:List Int} {i:Nat} {k:Int} {s:Nat},Bgn sz b->b[i]? = some k->sz[i]? = some s->0<=k/\k<s
 | _,[],_,_,_,_,e,_=>by simp at e
 | [],_ :: _,_,_,_,h,_,_=>by cases h
 | s0 :: sz,k0 :: b,0,k,s,h,e1,e2=>by
  simp at e1 e2;subst e1 e2;exact h.1
 | s0 :: sz,k0 :: b,i+1,k,s,h,e1,e2=>znw h.2 (by simpa using e1) (by simpa using e2)
theorem ziM:∀ {sz:List Nat} {b:List Int},Bgn sz b->b.length<=sz.length
 | _,[],_=>zero_le _
 | [],_ :: _,h=>by cases h
 | s :: sz,k :: b,h=>by have:=ziM h.2; simp; omega
theorem ziT{α:Type}{ds:List α}{k:Nat}(h:k<=ds.length):zdl ds (some (k:Int)) none=ds.drop k:=by
 have e1:HT.sIx ds.length 0 (some (k:Int))=k:=by rw [HT.sIx_nat]; omega
 have e2:HT.sIx ds.length ds.length none=ds.length:=rfl;unfold zdl;rw [e1,e2,take_of_length_le (by simp)]
def Sz(sz:List Nat):Prop:=sz.length<=8/\∀ s∈sz,s<=4
theorem zh4(l:List Nat)(x:Nat):zar (l++[x])=zar l*x:=by
 rw [zdR];simp [zar]
theorem zbV{sz:List Nat}{ds:List PyData}(hz:Sz sz)(hl:ds.length<=sz.length)(q:R (.d (.int (zar (sz.drop ds.length)))) []):zaI [.d (szD sz),.d (.tuple ds)] [] R:=by
 obtain⟨h8,h4⟩:=hz;unfold zaI szD;walk_at "d"
 walk_at "n"
 walk_at "n"
 rw [ziT (by simpa using hl),<- map_drop];refine zav (fun i δ S=>∃ (u:Option XV),S=[]/\δ=[some (.d (.list (sz.map fun n:Nat=>PyData.int n))),some (.d (.tuple ds)),some (.d (.int (zar ((sz.drop ds.length).take i):Nat))),u]) ⟨none,rfl,by simp [zar]⟩ ?_ ?_
 ·rintro i d _ _ N hi ⟨u,rfl,rfl⟩ hN;obtain⟨x,hx,rfl⟩:=zbs hi;walk_at "d";have mx:x∈sz:=mem_of_mem_drop (mem_of_getElem? hx);have x4:=h4 x mx;refine⟨zot (by omega) (by omega),hN _ _ ⟨some (.d (.int x)),rfl,?_⟩⟩;rw [take_add_one,hx];simp [zh4]
 ·rintro _ _ ⟨u,rfl,rfl⟩;rw [length_map,take_length];walk_at "d";exact q
def chN(n:Nat):PyData->Bool
 | .int k=>decide (0<=k/\k<n)
 | _=>false
def bgN(sz:List Nat):PyData->Bool
 | .tuple ds=>decide (ds.length<=sz.length) && ((ds.zip sz).map fun q=>chN q.2 q.1).all id
 | _=>false
theorem zlJ{sz:List Nat}{ds:List PyData}:bgN sz (.tuple ds)=(decide (ds.length<=sz.length) && ((ds.zip sz).map fun q=>chN q.2 q.1).all id):=rfl
theorem zf6{d:PyData}(q:R (.d (.bool (zbv d))) []):zbI [.d d] [] R:=by
 unfold zbI;cases d <;> (walk_at "e"; exact q)
theorem zf9{sz:List Nat}{d:PyData}(hz:Sz sz)(q:R (.d (.bool (bgN sz d))) []):zb3 [.d (szD sz),.d d] [] R:=by
 obtain⟨h8,h4⟩:=hz;unfold zb3 szD;cases d with
 | tuple ds =>
  walk_at "d"
  walk_at "n"
  by_cases h:ds.length<=sz.length
  ·rw [if_neg (by omega)];walk_at "d";rw [zlJ,decide_eq_true h] at q;have ez:zi1 ds (sz.map fun n:Nat=>PyData.int n)=(ds.zip sz).map fun q=>.tuple [q.1,.int (q.2:Nat)]:=by
    have:=zco (fun d:PyData=>d) (fun n:Nat=>PyData.int n) ds sz
    rwa [map_id'] at this
   rw [ez];refine cmp2 (S0:=[]) (fun q:PyData×Nat=>.bool (chN q.2 q.1)) rfl (ds.zip sz) (by simp; omega) ?_ ?_
   ·intro x mx u v acc R' hk;obtain⟨d,l⟩:=x;walk_at "d";refine zf6 ?_;cases d with
    | int k =>
     simp only [zbv];walk_at "d";have e0:chN l (.int k)=decide (0<=k/\k<l):=rfl;by_cases h0:0<=k
     ·rw [if_pos h0];have:=hk (some (.d (.int k))) (some (.d (.int l)));rw [e0] at this;simpa [h0] using this
     ·rw [if_neg h0];have:=hk (some (.d (.int k))) (some (.d (.int l)));rw [e0] at this;simpa [h0] using this
    | none=>exact hk _ _
    | bool b=>exact hk _ _
    | str b=>exact hk _ _
    | list b=>exact hk _ _
    | dict b=>exact hk _ _
    | tuple b=>exact hk _ _
   ·walk_at "d";refine⟨(ds.zip sz).map fun q=>chN q.2 q.1,by rw [map_map]; rfl,?_⟩;exact q
  ·rw [if_pos (by omega)];rw [zlJ,decide_eq_false h] at q;exact q
 | none=>(walk_at "d"; walk_at "n"; exact q)
 | bool b=>(walk_at "d"; walk_at "n"; exact q)
 | int b=>(walk_at "d"; walk_at "n"; exact q)
 | str b=>(walk_at "d"; walk_at "n"; exact q)
 | list b=>(walk_at "d"; walk_at "n"; exact q)
 | dict b=>(walk_at "d"; walk_at "n"; exact q)
def bgO:PyData->List Int
 | .tuple ds=>ds.map fun d=>match d with | .int k=>k | _=>0
 | _=>[]
theorem zoh:∀ {sz:List Nat} {ds:List PyData},ds.length<=sz.length->((ds.zip sz).map fun q=>chN q.2 q.1).all id=true->∃ b:List Int,ds=b.map PyData.int/\Bgn sz b
 | sz,[],_,_=>⟨[],rfl,by cases sz <;> trivial⟩
 | [],_ :: _,h,_=>by simp at h
 | s :: sz,d :: ds,h,k=>by
  simp only [zip_cons_cons,map_cons,all_cons,Bool.and_eq_true,id] at k;obtain⟨b,rfl,hb⟩:=zoh (by simpa using h) k.2;cases d with
  | int i=>exact⟨i :: b,rfl,of_decide_eq_true k.1,hb⟩
  | _=>cases k.1
theorem zkL{sz:List Nat}{d:PyData}:bgN sz d=true↔∃ b,d=zaG b/\Bgn sz b:=by
 constructor
 ·intro h;cases d with
  | tuple ds =>
   rw [zlJ,Bool.and_eq_true,decide_eq_true_eq] at h;obtain⟨b,rfl,hb⟩:=zoh h.1 h.2;exact⟨b,rfl,hb⟩
  | _=>cases h
 ·rintro⟨b,rfl,hb⟩;have hl:=ziM hb;unfold zaG;rw [zlJ,Bool.and_eq_true,decide_eq_true_eq];refine⟨by simpa using hl,?_⟩;rw [all_eq_true];intro x m;obtain⟨q,mq,rfl⟩:=mem_map.mp m;obtain⟨i,hi⟩:=mem_iff_getElem?.mp mq;rw [getElem?_zip_eq_some] at hi;obtain⟨k,hk,e⟩:=zbs hi.1;rw [e];exact decide_eq_true (znw hb hk hi.2)
theorem zeG(b:List Int):bgO (zaG b)=b:=by
 show (b.map PyData.int).map _=b;rw [map_map];exact map_id' b
def zsJ(sz:List Nat)(ds:List PyData):Bool:=ds.all (bgN sz) && (zjj (ds.map bgO) && decide (zrL sz (ds.map bgO)=zar sz))
theorem zoM:∀ B:List (List Int),zjj B=((B.zip B.tail).map fun q=>HT.lexLt q.1 q.2 && !(q.1.isPrefixOf q.2)).all id
 | []=>rfl
 | [x]=>rfl
 | x :: y :: r=>by
  have:=zoM (y :: r);simp only [zjj,this,List.tail_cons,zip_cons_cons,map_cons,all_cons,id]
theorem zqe{x y:List Int}:x.isPrefixOf y=decide (y.take x.length=x):=by
 have:x.isPrefixOf y=true↔y.take x.length=x:=by
  rw [isPrefixOf_iff_prefix,List.prefix_iff_eq_take];exact eq_comm
 cases h:x.isPrefixOf y with
 | true=>rw [decide_eq_true (this.mp h)]
 | false =>
  rw [decide_eq_false];intro e;rw [this.mpr e] at h;cases h
theorem zir{α:Type}{ds:List α}{k:Nat}:zdl ds none (some (k:Int))=ds.take k:=by
 have e1:HT.sIx ds.length ds.length (some (k:Int))=min k ds.length:=by rw [HT.sIx_nat]
 have e2:HT.sIx ds.length 0 none=0:=rfl;unfold zdl;rw [e1,e2];rcases Nat.le_total k ds.length with h | h
 ·rw [Nat.min_eq_left h];simp
 ·rw [Nat.min_eq_right h,take_of_length_le (by simp),take_of_length_le h];simp
theorem cmp1dT{n:Nat}{S0:Sto}{g:DG}{te:DE}{fin:Sto->Prop}{caps:XE}(f:PyData->PyData)(hn:S0.length=n)(l:List PyData){u:Option XV}(hl:l.length<=1000)
  (el:∀ x∈l,∀ (u:Option XV) acc (R:XE->RX),(∀ u',R (u' :: caps) (.d (f x)) (S0++[acc]))->g (.d x) (u :: caps) (S0++[acc]) fun τ1 S1=>te τ1 S1 (R τ1)) (hf:fin (S0++[l.map f])):zeH n g zae te fin l (u :: caps) (S0++[[]]):=by
 have:=cmp1 (h:=fun d:PyData=>d) (g:=g) (te:=te) (fin:=fin) (caps:=caps) (u:=u) f hn l hl el hf
 rwa [map_id'] at this
theorem cmp2dT{n:Nat}{S0:Sto}{g:DG}{te:DE}{fin:Sto->Prop}{caps:XE}(f:PyData->PyData)(hn:S0.length=n)(l:List PyData){u v:Option XV}(hl:l.length<=1000)
  (el:∀ x∈l,∀ (u v:Option XV) acc (R:XE->RX),(∀ u' v',R (u' :: v' :: caps) (.d (f x)) (S0++[acc]))->g (.d x) (u :: v :: caps) (S0++[acc]) fun τ1 S1=>te τ1 S1 (R τ1)) (hf:fin (S0++[l.map f])):zeH n g zae te fin l (u :: v :: caps) (S0++[[]]):=by
 have:=cmp2 (h:=fun d:PyData=>d) (g:=g) (te:=te) (fin:=fin) (caps:=caps) (u:=u) (v:=v) f hn l hl el hf
 rwa [map_id'] at this
theorem zp1{α:Type}:∀ ds:List α,zdl ds (some 1) none=ds.tail
 | []=>by
  unfold zdl;simp
 | x :: r=>by
  have:=ziT (ds:=x :: r) (k:=1) (by simp);rw [List.drop_one] at this;exact this
theorem Rb'{b c:Bool}{S:Sto}(q:R (.d (.bool b)) S)(e:b=c):R (.d (.bool c)) S:=e▸q
theorem zkK{sz:List Nat}{ds:List PyData}(hz:Sz sz)(hl:ds.length<=900)(q:R (.d (.bool (zsJ sz ds))) []):zbe [.d (szD sz),.d (.list ds)] [] R:=by
 unfold zbe;walk_at "d"
 walk_at "n"
 refine cmp1dT (S0:=[]) (fun d=>.bool (bgN sz d)) rfl ds (by omega) ?_ ?_
 ·intro x mx u acc R' hk;walk_at "d";refine zf9 hz ?_;walk_at "d";exact hk _
 walk_at "d";refine⟨ds.map (bgN sz),by rw [map_map]; rfl,?_⟩;have ea:(ds.map (bgN sz)).all id=ds.all (bgN sz):=by rw [all_map]; rfl
 rw [ea];cases h:ds.all (bgN sz) with
 | false =>
  walk_at "d";unfold zsJ at q;rw [h] at q;exact q
 | true =>
  have hB:∃ B:List (List Int),ds=B.map zaG/\∀ b∈B,Bgn sz b:=by
   rw [all_eq_true] at h
   clear ea q hl
   induction ds with
   | nil=>exact⟨[],rfl,fun b m=>by cases m⟩
   | cons d ds ih =>
    obtain⟨b,rfl,hb⟩:=zkL.mp (h d mem_cons_self);obtain⟨B,rfl,hB⟩:=ih fun x m=>h x (mem_cons_of_mem _ m);exact⟨b :: B,rfl,fun x m=>(mem_cons.mp m).elim (fun e=>e▸hb) (hB x)⟩
  obtain⟨B,rfl,hB⟩:=hB;have eo:(B.map zaG).map bgO=B:=by
   rw [map_map]
   conv=>rhs; rw [<- map_id B]
   exact map_congr_left fun b _=>zeG b
  unfold zsJ at q;rw [h,eo,Bool.true_and] at q;rw [length_map] at hl;walk_at "d"
  walk_at "n"
  rw [zp1,<- List.map_tail,zco];refine cmp2 (S0:=[]) (fun q:List Int×List Int=>.bool (HT.lexLt q.1 q.2 && !(q.1.isPrefixOf q.2))) rfl (B.zip B.tail) (by simp; omega) ?_ ?_
  ·intro x mx u v acc R' hk;unfold zaG;walk_at "d";refine⟨x.1,rfl,x.2,rfl,?_⟩;cases hx:HT.lexLt x.1 x.2 with
   | false =>
    have:=hk (some (.d (.tuple (x.1.map PyData.int)))) (some (.d (.tuple (x.2.map PyData.int))));rw [hx] at this;exact this
   | true =>
    have:=hk (some (.d (.tuple (x.1.map PyData.int)))) (some (.d (.tuple (x.2.map PyData.int))));rw [hx,Bool.true_and,zqe] at this;walk_at "d";rw [zir,<- map_take];have e:=znH (x.2.take x.1.length) x.1;unfold zaG at e;rw [e];exact⟨zia _,zia _,this⟩
  walk_at "d";refine⟨(B.zip B.tail).map fun q=>HT.lexLt q.1 q.2 && !(q.1.isPrefixOf q.2),by rw [map_map]; rfl,?_⟩;rw [<- zoM];cases ha:zjj B with
  | false =>
   rw [ha] at q;walk_at "d";exact q
  | true =>
   rw [ha,Bool.true_and] at q;walk_at "d";refine cmp1 (S0:=[]) (fun b:List Int=>.int (zar (sz.drop b.length):Nat)) rfl B (by omega) ?_ ?_
   ·intro b mb u acc R' hk;have bl:=ziM (hB b mb);unfold zaG;walk_at "d";refine zbV hz (by simpa using bl) ?_;rw [length_map];walk_at "d";exact hk _
   walk_at "d";refine⟨B.map fun b=>((zar (sz.drop b.length):Nat):Int),by rw [map_map]; rfl,?_⟩;refine zbV (ds:=[]) hz (zero_le _) ?_;walk_at "d";rw [drop_zero];have e:(B.map fun b=>((zar (sz.drop b.length):Nat):Int)).sum=((zrL sz B:Nat):Int):=by
    unfold zrL
    clear q hB hl ea h eo ha
    induction B with
    | nil=>rfl
    | cons b B ih=>simp [ih]
   rw [e];refine Rb' q ?_;simp only [decide_eq_decide];omega
def t2:PyData->Bool
 | .tuple [_,_]=>true
 | _=>false
def fs1:PyData->PyData
 | .tuple (a :: _)=>a
 | _=>.none
def sn1:PyData->PyData
 | .tuple [_,b]=>b
 | _=>.none
theorem zuv{d:PyData}(h:t2 d=true):d=.tuple [fs1 d,sn1 d]:=by
 unfold t2 at h;split at h
 ·rfl
 ·cases h
def arB(sz:List Nat):PyData->Bool
 | .list rows=>rows.all t2 && zsJ sz (rows.map fs1)
 | _=>false
theorem zlQ{sz:List Nat}{rows:List PyData}:arB sz (.list rows)=(rows.all t2 && zsJ sz (rows.map fs1)):=rfl
theorem zwg{d:PyData}{T:RX}(q:T (.d (.bool (t2 d))) S):zfi (dCB ziH (zc (zh 0) (zc (dO (.ty "tuple")) zq))) (dOp zf3 (dCB zaT (zc (zh 0) zq)) (dC (.int 2))) [some (.d d)] S T:=by
 cases d with
 | tuple ds =>
  walk_at "d"
  match ds,q with
  | [],q=>exact q
  | [_],q=>exact q
  | [_,_],q=>exact q
  | _ :: _ :: _ :: r,q =>
   rw [decide_eq_false (by simp; omega)];exact q
 | none=>(walk_at "d"; exact q)
 | bool b=>(walk_at "d"; exact q)
 | int b=>(walk_at "d"; exact q)
 | str b=>(walk_at "d"; exact q)
 | list b=>(walk_at "d"; exact q)
 | dict b=>(walk_at "d"; exact q)
theorem zlf{sz:List Nat}{d:PyData}(hz:Sz sz)(hl:∀ rows,d=.list rows->rows.length<=900)(q:R (.d (.bool (arB sz d))) []):zek [.d (szD sz),.d d] [] R:=by
 unfold zek;cases d with
 | list rows =>
  have hl:=hl rows rfl;walk_at "d"
  walk_at "n"
  walk_at "n"
  refine cmp1dT (S0:=[]) (fun d=>.bool (t2 d)) rfl rows (by omega) ?_ ?_
  ·intro x mx u acc R' hk;show zfi _ _ [some (.d x)] _ _;exact zwg (hk _)
  walk_at "d";refine⟨rows.map t2,by rw [map_map]; rfl,?_⟩;have ea:(rows.map t2).all id=rows.all t2:=by rw [all_map]; rfl
  rw [ea];cases h:rows.all t2 with
  | false =>
   walk_at "d";rw [zlQ,h] at q;exact q
  | true =>
   rw [zlQ,h,Bool.true_and] at q;rw [all_eq_true] at h;walk_at "d";refine cmp1dT (S0:=[]) fs1 rfl rows (by omega) ?_ ?_
   ·intro x mx u acc R' hk;have:=hk (some (.d x));rw [zuv (h x mx)] at this ⊢;walk_at "d";exact this
   walk_at "d";refine zkK hz (by simpa using hl) ?_;walk_at "d";exact q
 | none=>(walk_at "d"; walk_at "n"; exact q)
 | bool b=>(walk_at "d"; walk_at "n"; exact q)
 | int b=>(walk_at "d"; walk_at "n"; exact q)
 | str b=>(walk_at "d"; walk_at "n"; exact q)
 | tuple b=>(walk_at "d"; walk_at "n"; exact q)
 | dict b=>(walk_at "d"; walk_at "n"; exact q)
def zf7:PyData->Bool
 | .tuple [.str x]=>decide (x = "dear")
 | _=>false
theorem zpV(w:PyData):PyData.eqv w (.tuple [.str "dear"])=zf7 w:=by
 cases w with
 | tuple ds =>
  match ds with
  | []=>rfl
  | [x] =>
   show (PyData.eqv x (.str "dear") && true)=_;rw [Bool.and_true];cases x <;> rfl
  | x :: y :: r =>
   show (PyData.eqv x (.str "dear") && false)=_;rw [Bool.and_false];cases x <;> rfl
 | _=>rfl
def zkD(gs:List Gap)(k:Int):Gap:=gs.getD k.toNat ⟨[],0,0⟩
structure WT(w:PyData):Prop where
 sh:SeqAt.shaped w=true
 el:∀ ds,w=.tuple ds->∀ x∈ds,SeqAt.shaped x=true
theorem zr8{gs:List Gap}{k:Int}(h0:0<=k)(h1:k<gs.length):atI (gs.map zhT) k=some (zhT (zkD gs k))/\zkD gs k∈gs:=by
 obtain⟨n,rfl⟩:=Int.eq_ofNat_of_zero_le h0;have hn:n<gs.length:=by omega
 have e:zkD gs (n:Int)=gs[n]:=by simp [zkD,getD_eq_getElem?_getD,getElem?_eq_getElem hn]
 rw [e];exact⟨za5 (getElem?_eq_getElem hn),getElem_mem hn⟩
structure ThB(d:PyData):Prop where
 len:∀ rows,d=.list rows->rows.length<=900
 why:∀ rows,d=.list rows->∀ r∈rows,∀ b w,r=.tuple [b,w]->WT w
end
section
variable {R:RX} {S:Sto}
theorem zdt{d:PyData}(q:R (.d (.bool (zbv d))) []):zbX [.d d] [] R:=by
 unfold zbX;cases d <;> (walk_at "e"; exact q)
theorem zrq{α β:Type}:∀ (a:List α) (b:List β) (j:Nat),a.zip (b.take j)=(a.zip b).take j
 | [],b,j=>by simp
 | x :: a,[],j=>by simp
 | x :: a,y :: b,0=>by simp
 | x :: a,y :: b,j+1=>by simp [zrq a b j]
theorem zly:∀ (sz:List Nat) (F:List (List Int)),sz.foldl (fun F s=>F.flatMap fun a=>(List.range s).map fun k:Nat=>a++[(k:Int)]) F=F.flatMap fun a=>(fil sz).map fun z=>a++z
 | [],F=>by simp [fil]
 | s :: sz,F=>by
  rw [List.foldl_cons,zly sz,List.flatMap_assoc];congr 1;funext a;simp only [fil,List.flatMap_map,List.map_flatMap,map_map];congr 1;funext k;congr 1;funext z;simp
theorem zgt(sz:List Nat):sz.foldl (fun F s=>F.flatMap fun a=>(List.range s).map fun k:Nat=>a++[(k:Int)]) [[]]=fil sz:=by
 rw [zly];simp
def stp(F:List (List Int))(s:Nat):List (List Int):=F.flatMap fun a=>(List.range s).map fun k:Nat=>a++[(k:Int)]
theorem zoi(l:List Nat)(x:Nat):(l++[x]).foldl stp [[]]=stp (l.foldl stp [[]]) x:=by simp
theorem zqg(l:List Nat):(l.foldl stp [[]]).length=zar l:=by
 have:=zgt l;rw [<- zfz,<- this];rfl
theorem zsD{sz:List Nat}(h:∀ s∈sz,1<=s)(i:Nat):zar (sz.take i)<=zar sz:=by
 have:=zdR (sz.take i) (sz.drop i);rw [List.take_append_drop] at this;rw [this];exact Nat.le_mul_of_pos_right _ (zdW fun x m=>h x (mem_of_mem_drop m))
theorem zie{g:DG}{b:DSm}{E:DEndsM}:∀ {ds:List PyData} {δ:XE} {S:Sto} {M:DM} (I:Nat->XE->Sto->DM->Prop),I 0 δ S M ->
  (∀ i d δ S M (N:XE->Sto->DM->Prop),ds[i]? = some d->I i δ S M->(∀ δ' S' M',I (i+1) δ' S' M'->N δ' S' M')->g (.d d) δ S fun δ1 S1=>b { nx:=N,ct:=N,bk:=E.nx,rt:=E.rt } δ1 S1 M) ->
  (∀ δ S M,I ds.length δ S M->E.nx δ S M)->zfY g b ds E δ S M
 | [],δ,S,M,I,h0,_,fin=>fin δ S M h0
 | d :: ds,δ,S,M,I,h0,step,fin=>by
  show g (.d d) δ S fun δ1 S1=>b _ δ1 S1 M;refine step 0 d δ S M _ rfl h0 fun δ' S' M' h1=>?_;exact zie (ds:=ds) (fun i=>I (i+1)) h1 (fun i e δ S M N hi=>step (i+1) e δ S M N (by simpa using hi)) fin
theorem zuO{m:List (List Key×PyData)}{k:List Key}{v:PyData}:(ptA m k v).length<=m.length+1:=by
 unfold ptA;split <;> simp
theorem zi7(b:List Int):znu (zaG b)=some (b.map Sum.inl):=by
 show zjR (b.map PyData.int)=_;induction b with
 | nil=>rfl
 | cons x b ih=>simp [zjR,zoy,ih]
def whG(w:PyData):Prop:=w=.tuple [.str "dear"]\/∃ k:Int,w=.tuple [.str "off",.int k]
theorem zl8:∀ {sz:List Nat} {b:List Int} {s:Nat} {k:Int},Bgn sz b->sz[b.length]? = some s->0<=k->k<s->Bgn sz (b++[k])
 | [],[],_,_,_,e,_,_=>by simp at e
 | s0 :: sz,[],s,k,_,e,k0,k1=>by
  simp at e;subst e;exact⟨⟨k0,k1⟩,by cases sz <;> trivial⟩
 | [],_ :: _,_,_,h,_,_,_=>by cases h
 | s0 :: sz,x :: b,s,k,h,e,k0,k1=>⟨h.1,zl8 h.2 (by simpa using e) k0 k1⟩
def RT(d:PyData):Prop:=∀ b w,d=.tuple [b,w]->WT w
theorem zvb{w:PyData}(h:whG w):WT w:=by
 rcases h with rfl | ⟨k,rfl⟩
 ·exact⟨by decide +kernel,fun ds e x m=>by cases e; rw [mem_singleton.mp m]; decide +kernel⟩
 ·exact⟨(zfF (zs6 (n:=0) ⟨by decide +kernel,by decide +kernel⟩ zeJ)).ok,fun ds e x m=>by
   cases e;simp only [mem_cons,not_mem_nil,or_false] at m;rcases m with rfl | rfl
   ·decide +kernel
   ·rfl⟩
theorem zva{b w:PyData}(h:WT w):RT (.tuple [b,w]):=fun b' w' e=>by cases e; exact h
theorem zqu{rows:List PyData}(hl:rows.length<=900)(h:∀ r∈rows,RT r):ThB (.list rows):=⟨fun _ e=>by cases e; exact hl,fun _ e r m b w eq=>by cases e; exact h r m b w eq⟩
end
section
variable {R:RX} {S:Sto}
def szO(os:List (List Off)):List Nat:=os.map (·.length)
def kN(ks:List Int):List Nat:=ks.map Int.toNat
theorem zkT:∀ {sz:List Nat} {z:List Int},Bgn sz z->(kN z).map (fun k:Nat=>(k:Int))=z/\z.length<=sz.length/\∀ (i:Nat) k s,z[i]? = some k->sz[i]? = some s->k.toNat<s
 | _,[],_=>⟨rfl,zero_le _,fun i k s e=>by simp at e⟩
 | [],_ :: _,h=>h.elim
 | s :: sz,k :: z,h=>by
  obtain⟨⟨h0,h1⟩,h2⟩:=h;obtain⟨e1,e2,e3⟩:=zkT h2;refine⟨?_,by simp; omega,fun i k' s' q1 q2=>?_⟩
  ·show ((k.toNat:Nat):Int) :: (kN z).map (fun k:Nat=>(k:Int))=k :: z;rw [e1,Int.toNat_of_nonneg h0]
  ·cases i with
   | zero =>
    cases q1;cases q2;omega
   | succ i=>exact e3 i k' s' q1 q2
theorem znJ{ks:List Int}(h:(kN ks).map (fun k:Nat=>(k:Int))=ks):zaG ks=zhw (kN ks):=by
 unfold zaG zhw
 conv=>lhs; rw [<- h]
 rw [map_map];rfl
theorem zk1{os:List (List Off)}{ks:List Int}(h:ks∈fil (szO os)):Chs os (kN ks)/\zaG ks=zhw (kN ks):=by
 obtain⟨h1,h2⟩:=zdO.mp h;obtain⟨e1,e2,e3⟩:=zkT h2;have hl:ks.length=os.length:=by simpa [szO] using h1
 refine⟨⟨by simpa [kN] using hl,fun i hi=>?_⟩,znJ e1⟩;have hk:i<ks.length:=by omega
 have:=e3 i ks[i] (os.getD i []).length (getElem?_eq_getElem hk) (by unfold szO; rw [getElem?_map,zeV hi]; rfl);have e:(kN ks).getD i 0=ks[i].toNat:=by simp [kN,hk]
 rw [e];exact this
structure OC(ps:List Part)(os:List (List Off)):Prop extends Offs ps os where
 h8:ps.length<=8
 few:zar (szO os)<=256
 nest:∀ (i:Nat) l,os[i]? = some l->∀ (j:Nat) o o',l[j]? = some o->l[j+1]? = some o'->o.1<=o'.1/\o'.2.1<=o.2.1
theorem OC.sz{ps:List Part}{os:List (List Off)}(h:OC ps os):Sz (szO os)/\∀ s∈szO os,1<=s:=by
 have hl:=h.len;have h8:=h.h8;have ok:∀ l∈os,1<=l.length/\l.length<=4:=fun l m=>by
  obtain⟨i,hi⟩:=mem_iff_getElem?.mp m;have il:=(List.getElem?_eq_some_iff.mp hi).1;have:=h.ok i _ l (zbq (by omega)) hi;exact⟨this.l1,this.l4⟩
 refine⟨⟨by simp [szO]; omega,fun s m=>?_⟩,fun s m=>?_⟩
 ·obtain⟨l,ml,rfl⟩:=mem_map.mp m;exact(ok l ml).2
 ·obtain⟨l,ml,rfl⟩:=mem_map.mp m;exact(ok l ml).1
theorem zlN(os:List (List Off)):(os.map fun l=>PyData.int (l.length:Nat))=(szO os).map fun n:Nat=>.int n:=by
 unfold szO;rw [map_map];rfl
theorem zna{sz:List Nat}(hz:Sz sz)(hf:zar sz<=300)(q:R (.d .none) []):zbi [.d (szD sz)] [] R:=by
 unfold zbi;walk_at "d"
 walk_at "n"
 refine zbV hz (by simp) ?_;walk_at "d";rw [drop_zero,if_neg (by omega)];exact q
theorem zer{ps:List Part}{os:List (List Off)}(h:OC ps os)(q:R (.d (.list ((fil (szO os)).map zaG))) []):zbM [.d (zaN os)] [] R:=by
 obtain⟨⟨h8,h4⟩,h1⟩:=h.sz;have l8:os.length<=8:=by have:=h.len; have:=h.h8; omega
 unfold zbM zaN;walk_at "d"
 walk_at "n"
 walk_at "n"
 refine zav (fun i δ S=>∃ (u1 u2 u3:Option XV),S=[]/\δ=[some (.d (.tuple (os.map zfp))),some (.d (.list ((((szO os).take i).foldl stp [[]]).map zaG))),u1,u2,u3]) ⟨_,_,_,rfl,rfl⟩ ?_ ?_
 ·rintro i d _ _ N hi ⟨u1,u2,u3,rfl,rfl⟩ hN;obtain⟨l,hl,rfl⟩:=zbs hi;have es:(szO os)[i]? = some l.length:=by unfold szO; rw [getElem?_map,hl]; rfl
  have n4:=h4 _ (mem_of_getElem? es);have pl:=zsD (sz:=szO os) h1 (i+1);have pf:=h.few;rw [take_add_one,es] at pl;simp only [Option.toList_some] at pl;rw [zh4] at pl;generalize hF:((szO os).take i).foldl stp [[]]=F;have lF:F.length=zar ((szO os).take i):=by rw [<- hF,zqg]
  rw [zbT];walk_at "d"
  walk_at "n"
  walk_at "n"
  refine zav (fun j δ S=>∃ (u3:Option XV),S=[(stp (F.take j) l.length).map zaG]/\δ=[some (.d (.tuple (os.map zfp))),some (.d (.list (F.map zaG))),some (.d (.tuple (l.map zed))),some (.l 0),u3]) ⟨_,by simp [stp],rfl⟩ ?_ ?_
  ·rintro j d _ _ N hj ⟨u3,rfl,rfl⟩ hN;obtain⟨a,ha,rfl⟩:=zbs hj;have jl:j<F.length:=(List.getElem?_eq_some_iff.mp ha).1;have e1:stp (F.take (j+1)) l.length=stp (F.take j) l.length++(List.range l.length).map fun k:Nat=>a++[(k:Int)]:=by
    rw [take_add_one,ha];simp [stp]
   have e2:(stp (F.take j) l.length).length=j*l.length:=by
    unfold stp;rw [zgw (n:=l.length) (fun x _=>by simp),length_take];rw [Nat.min_eq_left (by omega)]
   have e3:j*l.length<=256:=le_trans (Nat.mul_le_mul_right _ (by omega)) (le_trans pl pf);have ei:zhj 0 ((l.length:Int)).toNat=(List.range l.length).map fun k:Nat=>PyData.int (0+(k:Int)):=by
    rw [show ((l.length:Int)).toNat=l.length by omega];simp [zhj]
   unfold zaG;walk_at "d";rw [ei];refine cmp1 (S0:=[_]) (fun k:Nat=>zaG (a++[(k:Int)])) rfl (List.range l.length) (by simp; omega) ?_ ?_
   ·intro k mk u acc R' hk;have:=hk (some (.d (.int (0+(k:Int)))));unfold zaG at this;walk_at "d";have al:a.length<=8:=by
     have ea:F=fil ((szO os).take i):=by rw [<- hF]; exact zgt _
     have ma:a∈fil ((szO os).take i):=by rw [<- ea]; exact mem_of_getElem? ha
     have:=(zdO.mp ma).1;simp [szO] at this;omega
    refine⟨by omega,?_⟩;simpa using this
   ·walk_at "d";rw [e2,List.length_range];refine⟨by omega,hN _ _ ⟨_,?_,rfl⟩⟩;rw [e1,map_append,map_map];rfl
  ·rintro _ _ ⟨u3,rfl,rfl⟩;rw [length_map,take_length];refine⟨[],_,rfl,_,rfl,?_⟩;have e5:((szO os).take (i+1)).foldl stp [[]]=stp F l.length:=by
    rw [take_add_one,es,<- hF];exact zoi _ _
   exact hN _ _ ⟨_,_,_,rfl,by rw [e5]; rfl⟩
 ·rintro _ _ ⟨u1,u2,u3,rfl,rfl⟩;rw [length_map,show os.length=(szO os).length by simp [szO],take_length];walk_at "d";have:=zgt (szO os);rw [<- this] at q;exact q
def pcO(os:List (List Off))(ks:List Nat):Int:=((os.zip ks).map fun q=>(q.1.getD q.2 (0,0,0)).2.2).sum
def zgb(ps:List Part)(os:List (List Off))(gs:List Gap):List (List Int):=(fil (szO os)).filter fun ks=>ze5 (chosen ps os (kN ks)) gs
theorem znS{l:List Off}(h:∀ (j:Nat) o o',l[j]? = some o->l[j+1]? = some o'->o.1<=o'.1/\o'.2.1<=o.2.1):∀ (d j:Nat) (o o':Off),l[j]? = some o->l[j+d]? = some o'->o.1<=o'.1/\o'.2.1<=o.2.1
 | 0,j,o,o',e1,e2=>by
  rw [Nat.add_zero,e1] at e2;cases e2;exact⟨Int.le_refl _,Int.le_refl _⟩
 | d+1,j,o,o',e1,e2=>by
  have hl:=(List.getElem?_eq_some_iff.mp e2).1;have e3:=getElem?_eq_getElem (show j+d<l.length by omega);have h1:=znS h d j o _ e1 e3;have h2:=h (j+d) _ o' e3 (by rw [Nat.add_assoc]; exact e2);omega
theorem zsU{ps:List Part}{os:List (List Off)}{gs:List Gap}{ks ks':List Nat}(h:OC ps os)(hg:∀ g∈gs,Tms ps.length g.ts)(hc:Chs os ks)(hc':Chs os ks')(le:∀ i,i<os.length->ks.getD i 0<=ks'.getD i 0)(hs:ze5 (chosen ps os ks) gs=true):ze5 (chosen ps os ks') gs=true:=by
 have h8:=h.h8;have hl:=h.len;have hg1:∀ k:List Nat,∀ g∈gs,Tms (chosen ps os k).length g.ts:=fun k=>by rw [zai]; exact hg
 refine(zeZ (zc9 h.toOffs hc') (by rw [zai]; omega) (hg1 _)).mpr fun ms hb=>?_;refine(zeZ (zc9 h.toOffs hc) (by rw [zai]; omega) (hg1 _)).mp hs ms ?_;refine⟨by rw [hb.len,zai,zai],fun k hk=>?_⟩;rw [zai] at hk;have hb':=hb.ok k (by rw [zai]; exact hk);unfold plo phi at hb' ⊢;rw [zkA hk] at hb' ⊢;have hk2:k<os.length:=by omega
 have lk:=le k hk2;have:=znS (h.nest k _ (zeV hk2)) (ks'.getD k 0 - ks.getD k 0) (ks.getD k 0) _ _ (ze6 hc hk2) (by rw [show ks.getD k 0+(ks'.getD k 0 - ks.getD k 0)=ks'.getD k 0 by omega]; exact ze6 hc' hk2);simp only at hb' ⊢;omega
theorem zvS(ks:List Int)(i:Nat):(kN ks).getD i 0=(ks.getD i 0).toNat:=by
 unfold kN;simp only [getD_eq_getElem?_getD,getElem?_map];cases ks[i]? <;> simp
def Nst(l:List Off):Prop:=∀ (j:Nat) o o',l[j]? = some o->l[j+1]? = some o'->o.1<=o'.1/\o'.2.1<=o.2.1
theorem zsF{o:Off}:Nst [o]:=fun j a b e1 e2=>by simp at e2
theorem Nst.snoc{front:List Off}{o n:Off}(h:Nst (front++[o]))(hn:o.1<=n.1/\n.2.1<=o.2.1):Nst (front++[o]++[n]):=fun j a b e1 e2=>by
 have hl:=(List.getElem?_eq_some_iff.mp e2).1;simp only [length_append,length_singleton] at hl;by_cases hj:j+1<(front++[o]).length
 ·rw [getElem?_append_left (by omega)] at e1;rw [getElem?_append_left hj] at e2;exact h j a b e1 e2
 ·simp only [length_append,length_singleton] at hj;have ej:j=front.length:=by omega
  subst ej;simp at e1 e2;subst e1 e2;exact hn
theorem Nst.take{l:List Off}(h:Nst l)(n:Nat):Nst (l.take n):=fun j a b e1 e2=>by
 rw [List.getElem?_take] at e1 e2;split at e1
 ·split at e2
  ·exact h j a b e1 e2
  ·cases e2
 ·cases e1
structure Ofn(p:Part)(l:List Off):Prop extends Ofp p l where
 nst:Nst l
 pos:∀ o∈l,0<=o.2.2
structure OffN(ps:List Part)(os:List (List Off)):Prop where
 len:os.length=ps.length
 ok:∀ (i:Nat) p l,ps[i]? = some p->os[i]? = some l->Ofn p l
theorem OffN.offs{ps:List Part}{os:List (List Off)}(h:OffN ps os):Offs ps os:=⟨h.len,fun i p l e1 e2=>(h.ok i p l e1 e2).toOfp⟩
theorem OffN.oc{ps:List Part}{os:List (List Off)}(h:OffN ps os)(h8:ps.length<=8)(few:zar (szO os)<=256):OC ps os :=
 ⟨h.offs,h8,few,fun i l e=>(h.ok i _ l (zbq (by have:=(List.getElem?_eq_some_iff.mp e).1; have:=h.len; omega)) e).nst⟩
theorem zmK{p:List PyData}{ps:List Part}(hp:zab p)(hd:Drw ps)(q:∀ os p',OffN ps os->zab p'->R (.d (zaN os)) [p']):zbK [.l 0,.d (zbn ps)] [p] R:=by
 have h8:=hd.l8;unfold zbK;walk_at "d"
 walk_at "n"
 walk_at "n"
 refine⟨⟨by decide,by decide,by decide⟩,?_⟩;refine zx hp dz (by decide +kernel) fun r p1 r0 r1 hp1=>?_;obtain⟨d,ed,great,rfl,g0,gb⟩:=zpl (P:=fun d=>∃ n:Int,d=.int n/\0<n/\n.natAbs.log2<9000) (ds:=[PyData.int 4,PyData.int 4,PyData.int 4,PyData.int (10 ^ 50)]) r0 r1 (by
  intro d m;simp only [mem_cons,not_mem_nil,or_false] at m;rcases m with rfl | rfl | rfl | rfl <;> exact⟨_,rfl,by decide +kernel,by decide +kernel⟩)
 walk_at "d";refine⟨_,ed,?_⟩;walk_at "d";refine seq1 ?_;rw [zbn];walk_at "d";refine zav (fun i δ S=>∃ (p:List PyData) (os:List (List Off)) (T:Sto) (u1 u2 u3 u4 u5 u6 u7 u8 u9 u10:Option XV),zab p/\os.length=i/\(∀ (j:Nat) p l,ps[j]? = some p->os[j]? = some l->Ofn p l)/\S=p :: os.map zfp :: T/\δ=[some (.l 0),some (.d (.tuple (ps.map zdL))),some (.l 1),some (.d (.int great)),u1,u2,u3,u4,u5,u6,u7,u8,u9,u10]) ⟨p1,[],[],_,_,_,_,_,_,_,_,_,_,hp1,rfl,by simp,rfl,rfl⟩ ?_ ?_
 ·rintro i d _ _ N hi ⟨p,os,T,u1,u2,u3,u4,u5,u6,u7,u8,u9,u10,hp,hl,ha,rfl,rfl⟩ hN;obtain⟨pt,hpt,rfl⟩:=zbs hi;have op:=hd.ord pt (mem_of_getElem? hpt);have il:i<ps.length:=(List.getElem?_eq_some_iff.mp hpt).1;rw [zfq];walk_at "d"
  walk_at "n"
  refine cut (fun δ S=>∃ (p:List PyData) (some_:List Off) (u5 u6 u7 u8 u9 u10:Option XV),zab p/\Ofn pt some_/\S=p :: os.map zfp :: (T++[some_.map zed])/\δ=[some (.l 0),some (.d (.tuple (ps.map zdL))),some (.l 1),some (.d (.int great)),some (.d (.str pt.1)),some (.d (.int pt.2.1)),some (.d (.int pt.2.2)),some (.l (T.length+1+1)),u5,u6,u7,u8,u9,u10]) (fun N' hN'=>?_) ?_
  ·walk_at "d";refine zx hp dz (by decide +kernel) fun r p1 r0 r1 hp1=>?_;walk_at "d";refine zav (fun j δ S=>∃ (p:List PyData) (some_:List Off) (u5 u6 u7 u8 u9 u10:Option XV),zab p/\some_.length<=j+1/\1<=some_.length/\((∀ o∈some_,pt.2.1<=o.1/\o.1<=o.2.1/\o.2.1<=pt.2.2)/\Nst some_/\∀ o∈some_,0<=o.2.2)/\S=p :: os.map zfp :: (T++[some_.map zed])/\δ=[some (.l 0),some (.d (.tuple (ps.map zdL))),some (.l 1),some (.d (.int great)),some (.d (.str pt.1)),some (.d (.int pt.2.1)),some (.d (.int pt.2.2)),some (.l (T.length+1+1)),u5,u6,u7,u8,u9,u10]) ⟨p1,[(pt.2.1,pt.2.2,0)],_,_,_,_,_,_,hp1,by simp,by simp,⟨fun o m=>by rw [mem_singleton.mp m]; exact⟨Int.le_refl _,op,Int.le_refl _⟩,zsF,fun o m=>by rw [mem_singleton.mp m]; exact Int.le_refl _⟩,rfl,rfl⟩ ?_ ?_
   ·rintro j d _ _ N2 hj ⟨p,some_,u5,u6,u7,u8,u9,u10,hp,hl2,hl1,hso,rfl,rfl⟩ hN2;obtain⟨hj',rfl⟩:=zcB hj;obtain⟨front,o,rfl⟩:=zoC hl1;have oo:=hso.1 o (by simp);walk_at "d";walk_at "n";have gl:(T++[(front++[o]).map zed])[T.length]? = some (front.map zed++[zed o]):=by simp
    have al:=zlm (front.map zed) (zed o);refine⟨_,gl,_,al,?_⟩;rw [zdX];walk_at "d";have low:=fun(p:List PyData) (hp:zab p) (u5 u6 u7 u8 u9 u10:Option XV)=>hN2 [some (.l 0),some (.d (.tuple (ps.map zdL))),some (.l 1),some (.d (.int great)),some (.d (.str pt.1)),some (.d (.int pt.2.1)),some (.d (.int pt.2.2)),some (.l (T.length+1+1)),u5,u6,u7,u8,u9,u10] (p :: os.map zfp :: (T++[(front++[o]).map zed])) ⟨p,front++[o],u5,u6,u7,u8,u9,u10,hp,by omega,hl1,hso,rfl,rfl⟩;split
    ·rename_i hlt;have add:=fun(p:List PyData) (hp:zab p) (u5 u6 u7 u8 u9 u10:Option XV) (n:Off) (hn:pt.2.1<=n.1/\n.1<=n.2.1/\n.2.1<=pt.2.2) (hn2:o.1<=n.1/\n.2.1<=o.2.1) (hn3:0<=n.2.2)=>hN2 [some (.l 0),some (.d (.tuple (ps.map zdL))),some (.l 1),some (.d (.int great)),some (.d (.str pt.1)),some (.d (.int pt.2.1)),some (.d (.int pt.2.2)),some (.l (T.length+1+1)),u5,u6,u7,u8,u9,u10] (p :: os.map zfp :: (T++[front.map zed++[zed o]++[zed n]])) ⟨p,front++[o]++[n],u5,u6,u7,u8,u9,u10,hp,by simp at hl2 ⊢; omega,by simp,⟨fun x m=>by
      rcases mem_append.mp m with m | m
      ·exact hso.1 x m
      ·rw [mem_singleton.mp m]; exact hn,hso.2.1.snoc hn2,fun x m=>by
      rcases mem_append.mp m with m | m
      ·exact hso.2.2 x m
      ·rw [mem_singleton.mp m]; exact hn3⟩,by simp,rfl⟩
     walk_at "n"
     refine zx hp (by split <;> omega) (zcs (by split <;> omega) (by split <;> omega)) fun r2 p2 r20 r21 hp2=>?_;walk_at "d"
     walk_at "n"
     refine zx hp2 dz (by decide +kernel) fun r3 p3 r30 r31 hp3=>?_;walk_at "d";have rb:r2<=o.2.1 - o.1:=by split at r21 <;> omega
     have eb:o.1+r2<=(if o.2.1 - r3>o.1+r2 then o.2.1 - r3 else o.1+r2)/\(if o.2.1 - r3>o.1+r2 then o.2.1 - r3 else o.1+r2)<=o.2.1:=by split <;> omega
     generalize (if o.2.1 - r3>o.1+r2 then o.2.1 - r3 else o.1+r2)=e at eb ⊢;refine cut (fun δ S=>∃ b:Int,o.1<=b/\b<=e/\S=p3 :: os.map zfp :: (T++[(front++[o]).map zed])/\δ=[some (.l 0),some (.d (.tuple (ps.map zdL))),some (.l 1),some (.d (.int great)),some (.d (.str pt.1)),some (.d (.int pt.2.1)),some (.d (.int pt.2.2)),some (.l (T.length+1+1)),some (.d (.int (0+(j:Int)))),some (.d (.int o.1)),some (.d (.int o.2.1)),some (.d (.int o.2.2)),some (.d (.int b)),some (.d (.int e))]) (fun N3 hN3=>?_) ?_
     ·walk_at "d";have no:=hN3 _ _ ⟨o.1+r2,by omega,by omega,rfl,rfl⟩;split
      ·split
       ·exact hN3 _ _ ⟨o.1+1,by omega,by omega,rfl,rfl⟩
       ·exact no
      ·exact no
     ·rintro _ _ ⟨b,b1,b2,rfl,rfl⟩;walk_at "d";refine⟨by simp,?_⟩;refine zx hp3 g0 gb fun r4 p4 r40 r41 hp4=>?_;walk_at "d";refine⟨_,gl,by simp at hl2 ⊢; omega,?_⟩;have es:((T++[(front++[o]).map zed]).set T.length (front.map zed++[zed o]++[zed (b,e,o.2.2+1+r4)]))=T++[front.map zed++[zed o]++[zed (b,e,o.2.2+1+r4)]]:=zeS rfl;rw [zdX (b,e,_)] at es;rw [es];exact add _ hp4 _ _ _ _ _ _ (b,e,o.2.2+1+r4) ⟨by simp only; omega,by simp only; omega,by simp only; omega⟩ ⟨by simp only; omega,by simp only; omega⟩ (by have:=hso.2.2 o (by simp); simp only; omega)
    ·exact low _ hp _ _ _ _ _ _
   ·rintro _ _ ⟨p,some_,u5,u6,u7,u8,u9,u10,hp,hl2,hl1,hso,rfl,rfl⟩;rw [zaC] at hl2;exact hN' _ _ ⟨p,some_,_,_,_,_,_,_,hp,⟨⟨hl1,by omega,hso.1⟩,hso.2.1,hso.2.2⟩,rfl,rfl⟩
  ·rintro _ _ ⟨p,some_,u5,u6,u7,u8,u9,u10,hp,hso,rfl,rfl⟩;walk_at "d";have gl:(T++[some_.map zed])[T.length]? = some (some_.map zed):=by simp
   refine⟨by omega,_,gl,by omega,?_⟩;refine hN _ _ ⟨p,os++[some_],T++[some_.map zed],_,_,_,_,_,_,_,_,_,_,hp,by simp [hl],fun j p' l hj1 hj2=>?_,by simp [zfp],rfl⟩;by_cases e:j<os.length
   ·rw [getElem?_append_left e] at hj2;exact ha j p' l hj1 hj2
   ·rw [getElem?_append_right (by omega)] at hj2;have:j=i:=by
     have:=(List.getElem?_eq_some_iff.mp hj2).1;simp at this;omega
    subst this;rw [hpt] at hj1;cases hj1;have e0:j - os.length=0:=by omega
    rw [e0] at hj2;cases hj2;exact hso
 ·rintro _ _ ⟨p,os,T,u1,u2,u3,u4,u5,u6,u7,u8,u9,u10,hp,hl,ha,rfl,rfl⟩;rw [length_map] at hl;walk_at "d";exact q os p ⟨hl,ha⟩ hp
theorem zgK{b:Nat}:∀ {sz:List Nat},(∀ s∈sz,s<=b)->zar sz<=b ^ sz.length
 | [],_=>le_refl _
 | s :: sz,h=>by
  rw [length_cons,Nat.pow_succ,mul_comm (b ^ sz.length)];exact mul_le_mul (h s mem_cons_self) (zgK fun x m=>h x (mem_cons_of_mem _ m))
theorem few4{sz:List Nat}(hl:sz.length<=4)(h:∀ s∈sz,s<=4):zar sz<=256:=le_trans (zgK h) (le_trans (Nat.pow_le_pow_right dz hl) dz)
theorem few2{sz:List Nat}(hl:sz.length<=8)(h:∀ s∈sz,s<=2):zar sz<=256:=le_trans (zgK h) (le_trans (Nat.pow_le_pow_right dz hl) dz)
theorem OffN.few{ps:List Part}{os:List (List Off)}(h:OffN ps os)(h4:ps.length<=4):zar (szO os)<=256:=by
 refine few4 (by simp [szO]; have:=h.len; omega) fun s m=>?_;obtain⟨l,ml,rfl⟩:=mem_map.mp m;obtain⟨i,hi⟩:=mem_iff_getElem?.mp ml;exact(h.ok i _ l (zbq (by have:=(List.getElem?_eq_some_iff.mp hi).1; have:=h.len; omega)) hi).l4
theorem zpU{ps:List Part}(h:Drw ps):Drw (ps.take 4):=⟨by rw [length_take]; have:=h.l1; omega,by rw [length_take]; have:=h.l8; omega,fun p m=>h.all p (mem_of_mem_take m)⟩
end
section
variable {R:RX} {S:Sto}
theorem zg2{b:List Int}{ns:List Int}(hl:ns.length<=1000)(bl:b.length<=100)(q:R (.d (.list ((ns.map fun k=>b++[k]).map zaG))) []):zck [.d (.list [zaG b]),.d (.list (ns.map PyData.int))] [] R:=by
 unfold zck;walk_at "d"
 walk_at "n"
 walk_at "n";refine zav (fun j δ S=>∃ (u:Option XV),S=[(([b].take j).flatMap fun a=>ns.map fun k=>a++[k]).map zaG]/\δ=[some (.d (.list [zaG b])),some (.d (.list (ns.map PyData.int))),some (.l 0),u]) ⟨_,rfl,rfl⟩ ?_ ?_
 ·rintro j d _ _ N hj ⟨u,rfl,rfl⟩ hN;have j0:j=0:=by
   have:=(List.getElem?_eq_some_iff.mp hj).1;simp at this;omega
  subst j0;obtain rfl:zaG b=d:=by simpa using hj
  rw [zaG];walk_at "d";refine cmp1 (S0:=[(([b].take 0).flatMap fun a=>ns.map fun k=>a++[k]).map zaG]) (fun x:Int=>zaG (b++[x])) rfl ns (by omega) ?_ ?_
  ·intro x mx u acc R' hk;walk_at "d";refine⟨by omega,?_⟩;rw [zo6];exact hk _
  ·walk_at "d";refine⟨by simp; omega,hN _ _ ⟨_,?_,rfl⟩⟩;simp [map_map,Function.comp_def]
 ·rintro _ _ ⟨u,rfl,rfl⟩;walk_at "d";refine .inl ?_;simpa using q
def zfo{α:Type}:List (Option (List α))->Option (List α)
 | []=>some []
 | none :: _=>none
 | some x :: l=>(zfo l).map fun y=>x++y
theorem zl9{α:Type}:∀ (l m:List (Option (List α))),zfo (l++m)=(zfo l).bind fun x=>(zfo m).map fun y=>x++y
 | [],m=>by simp [zfo]
 | none :: l,m=>by simp [zfo]
 | some x :: l,m=>by
  simp only [cons_append,zfo];rw [zl9 l m];cases zfo l with
  | none=>rfl
  | some a =>
   cases zfo m with
   | none=>rfl
   | some c=>simp
theorem zoF{α:Type}(l m:List (Option (List α))):zfo (zfo l :: m)=zfo (l++m):=by
 rw [zl9];cases zfo l <;> rfl
abbrev Rwp:=List Int×PyData
def rwF(wf:List Int->Option PyData):List Nat->List Int->Option (List Rwp)
 | [],b=>(wf b).map fun w=>[(b,w)]
 | s :: r,b=>match wf b with
  | some w=>some [(b,w)]
  | none=>zfo ((List.range s).map fun k:Nat=>rwF wf r (b++[(k:Int)]))
theorem zv3{wf:List Int->Option PyData}{r:List Nat}{b:List Int}{w:PyData}(h:wf b=some w):rwF wf r b=some [(b,w)]:=by
 cases r <;> simp [rwF,h]
def ndS:List Nat->Nat
 | []=>1
 | s :: r=>1+s*ndS r
theorem zjl{α:Type}(c:Nat):∀ l:List α,(l.map fun _=>c).sum=l.length*c
 | []=>by simp
 | x :: l=>by rw [map_cons,sum_cons,zjl c l,length_cons,succ_mul]; omega
theorem zut:∀ l:List Nat,1<=ndS l
 | []=>le_refl _
 | s :: r=>by unfold ndS; omega
def ziq(p:Rwp):PyData:=.tuple [zaG p.1,p.2]
def whD:Option PyData->PyData
 | none=>.none
 | some w=>w
theorem zee{α β:Type}{f:β->Option (List α)}:∀ {l:List β} {rows:List α},zfo (l.map f)=some rows->(∀ k∈l,∃ y,f k=some y)/\rows=l.flatMap fun k=>(f k).getD []
 | [],rows,h=>by
  simp only [map_nil,zfo,Option.some.injEq] at h;subst h;simp
 | k :: l,rows,h=>by
  simp only [map_cons] at h;cases e:f k with
  | none=>rw [e] at h; simp [zfo] at h
  | some x =>
   rw [e] at h;simp only [zfo,map_eq_some_iff] at h;obtain⟨y,hy,rfl⟩:=h;obtain⟨h1,h2⟩:=zee hy;refine⟨fun j m=>?_,?_⟩
   ·rcases mem_cons.mp m with rfl | m
    ·exact⟨x,e⟩
    ·exact h1 j m
   ·simp [e,h2]
theorem zjH{α β:Type}{f:β->Option (List α)}:∀ {l:List β},(∀ k∈l,(f k).isSome=true)->(zfo (l.map f)).isSome=true
 | [],_=>rfl
 | k :: l,h=>by
  obtain⟨x,e⟩:=isSome_iff_exists.mp (h k mem_cons_self);simp only [map_cons,e,zfo,isSome_map];exact zjH fun j m=>h j (mem_cons_of_mem _ m)
theorem zoa{α β:Type}{f:β->Option (List α)}{l:List β}{k:β}(m:k∈l)(h:f k=none):zfo (l.map f)=none:=by
 cases e:zfo (l.map f) with
 | none=>rfl
 | some rows =>
  obtain⟨y,ey⟩:=(zee e).1 k m;rw [h] at ey;cases ey
section
variable {wf:List Int->Option PyData}
theorem zgD:∀ {r:List Nat} {b:List Int} {rows:List Rwp},rwF wf r b=some rows->∀ p∈rows,wf p.1=some p.2/\∃ z,p.1=b++z/\Bgn r z
 | [],b,rows,h,p,m=>by
  simp only [rwF,map_eq_some_iff] at h;obtain⟨w,hw,rfl⟩:=h;rw [mem_singleton.mp m];exact⟨hw,[],by simp,trivial⟩
 | s :: r,b,rows,h,p,m=>by
  simp only [rwF] at h;cases e:wf b with
  | some w =>
   rw [e] at h;cases h;rw [mem_singleton.mp m];exact⟨e,[],by simp,trivial⟩
  | none =>
   rw [e] at h;obtain⟨h1,h2⟩:=zee h;rw [h2,mem_flatMap] at m;obtain⟨k,mk,m⟩:=m;obtain⟨y,ey⟩:=h1 k mk;rw [ey] at m;obtain⟨q1,z,q2,q3⟩:=zgD ey p m;refine⟨q1,(k:Int) :: z,by rw [q2]; simp,⟨by omega,?_⟩,q3⟩;have:=mem_range.mp mk;omega
theorem zg4:∀ {r:List Nat} {b:List Int} {rows:List Rwp},rwF wf r b=some rows->∀ z∈fil r,∃ p∈rows,p.1 <+: b++z
 | [],b,rows,h,z,m=>by
  simp only [rwF,map_eq_some_iff] at h;obtain⟨w,hw,rfl⟩:=h;exact⟨_,mem_singleton.mpr rfl,List.prefix_append _ _⟩
 | s :: r,b,rows,h,z,m=>by
  simp only [rwF] at h;cases e:wf b with
  | some w =>
   rw [e] at h;cases h;exact⟨_,mem_singleton.mpr rfl,List.prefix_append _ _⟩
  | none =>
   rw [e] at h;obtain⟨h1,h2⟩:=zee h;unfold fil at m;rw [mem_flatMap] at m;obtain⟨k,mk,m⟩:=m;obtain⟨z',mz,rfl⟩:=mem_map.mp m;obtain⟨y,ey⟩:=h1 k mk;obtain⟨p,mp,hp⟩:=zg4 ey z' mz;refine⟨p,?_,by simpa using hp⟩;rw [h2,mem_flatMap];exact⟨k,mk,by rw [ey]; exact mp⟩
theorem zlE:∀ {r:List Nat} {b:List Int},(∀ z∈fil r,(wf (b++z)).isSome=true)->(rwF wf r b).isSome=true
 | [],b,h=>by
  have:=h [] (by simp [fil]);simp only [rwF,isSome_map];simpa using this
 | s :: r,b,h=>by
  simp only [rwF];cases e:wf b with
  | some w=>rfl
  | none =>
   refine zjH fun k mk=>zlE fun z mz=>?_;have:=h ((k:Int) :: z) (by unfold fil; rw [mem_flatMap]; exact⟨k,mk,mem_map_of_mem mz⟩);simpa using this
theorem zmh:∀ {r:List Nat} {b z:List Int},z∈fil r->(∀ j,wf (b++z.take j)=none)->rwF wf r b=none
 | [],b,z,m,h=>by
  have:=h 0;simp only [rwF];rw [take_zero,append_nil] at this;rw [this];rfl
 | s :: r,b,z,m,h=>by
  have h0:=h 0;rw [take_zero,append_nil] at h0;simp only [rwF,h0];unfold fil at m;rw [mem_flatMap] at m;obtain⟨k,mk,m⟩:=m;obtain⟨z',mz,rfl⟩:=mem_map.mp m;refine zoa (f:=fun k:Nat=>rwF wf r (b++[(k:Int)])) mk (zmh mz fun j=>?_);have:=h (j+1);simpa using this
theorem zoB:∀ (b x y:List Int),HT.lexLt (b++x) (b++y)=true↔HT.lexLt x y=true
 | [],x,y=>Iff.rfl
 | a :: b,x,y=>by
  rw [cons_append,cons_append,zdy];constructor
  ·rintro(h | ⟨_,h⟩)
   ·omega
   ·exact(zoB b x y).mp h
  ·intro h;exact .inr ⟨rfl,(zoB b x y).mpr h⟩
def Lxp(x y:List Int):Prop:=HT.lexLt x y=true/\x.isPrefixOf y=false
theorem zoE:∀ {r:List Nat} {b:List Int} {rows:List Rwp},rwF wf r b=some rows->rows.Pairwise fun p q=>Lxp p.1 q.1
 | [],b,rows,h=>by
  simp only [rwF,map_eq_some_iff] at h;obtain⟨w,hw,rfl⟩:=h;exact List.pairwise_singleton _ _
 | s :: r,b,rows,h=>by
  simp only [rwF] at h;cases e:wf b with
  | some w =>
   rw [e] at h;cases h;exact List.pairwise_singleton _ _
  | none =>
   rw [e] at h;obtain⟨h1,h2⟩:=zee h;rw [h2,List.pairwise_flatMap];have at_:∀ k∈List.range s,∀ p∈(rwF wf r (b++[(k:Int)])).getD [],∃ z,p.1=b++(k:Int) :: z:=fun k mk p mp=>by
    obtain⟨y,ey⟩:=h1 k mk;rw [ey] at mp;obtain⟨_,z,q2,_⟩:=zgD ey p mp;exact⟨z,by rw [q2]; simp⟩
   refine⟨fun k mk=>?_,?_⟩
   ·obtain⟨y,ey⟩:=h1 k mk;rw [ey];exact zoE ey
   ·refine List.Pairwise.imp_of_mem (fun {k1 k2} m1 m2 hk p mp q mq=>?_) List.pairwise_lt_range;obtain⟨z1,e1⟩:=at_ k1 m1 p mp;obtain⟨z2,e2⟩:=at_ k2 m2 q mq;have hk:k1<k2:=hk;rw [e1,e2];refine⟨(zoB _ _ _).mpr ((zdy _ _ _ _).mpr (.inl (by omega))),?_⟩;cases hp:(b++(k1:Int) :: z1).isPrefixOf (b++(k2:Int) :: z2) with
    | false=>rfl
    | true =>
     have:=isPrefixOf_iff_prefix.mp hp;rw [List.prefix_append_right_inj] at this;have:=(List.cons_prefix_cons.mp this).1;omega
theorem zll:∀ {B:List (List Int)},B.Pairwise Lxp->zjj B=true
 | [],_=>rfl
 | [_],_=>rfl
 | x :: y :: r,h=>by
  rw [pairwise_cons] at h;have hy:=h.1 y mem_cons_self;simp only [zjj,Bool.and_eq_true];exact⟨⟨hy.1,by rw [hy.2]; rfl⟩,zll h.2⟩
end
theorem zqz(s:Nat)(h:1<=s):zpj ((s:Int) - 1) (((s:Int) - 1) - (-1)).toNat=((List.range s).reverse.map fun k:Nat=>(k:Int)).map PyData.int:=by
 rw [show ((s:Int) - 1 - -1).toNat=s by omega];apply List.ext_getElem
 ·simp [zpj]
 ·intro i h1 h2;have hi:i<s:=by simpa [zpj] using h1
  simp [zpj];omega
theorem zoA{α:Type}{l:List α}{n:Nat}{x:α}(h:l[n]? = some x):l.drop n=x :: l.drop (n+1):=by
 obtain⟨hn,e⟩:=List.getElem?_eq_some_iff.mp h;rw [drop_eq_getElem_cons hn,e]
theorem zeT{sz:List Nat}{wf:List Int->Option PyData}{F:Addr}{ql:PN}(hz:Sz sz)(h1:∀ s∈sz,1<=s)(hf:zar sz<=300)(hn:∀ b w,wf b=some w->w≠.none)
  (hw:∀ b,Bgn sz b->∀ R':RX,R' (.d (whD (wf b))) []->ql [.d (zaG b)] [] R') (q0:rwF wf sz []=none->R (.d .none) []) (q:∀ rows,rwF wf sz []=some rows->R (.d (.list (rows.map ziq))) []\/R (.l 0) [rows.map ziq]):zbA F ql [.d (szD sz),.o (.ref F)] [] R:=by
 obtain⟨h8,h4⟩:=hz;have pos:∀ n,1<=zar (sz.drop n):=fun n=>zdW fun x m=>h1 x (mem_of_mem_drop m);unfold zbA szD;walk_at "d"
 walk_at "n"
 walk_at "n"
 walk_at "n";refine⟨fun m δ S=>∃ (st:List (List Int)) (rows:List Rwp) (u v:Option XV),(∀ b∈st,Bgn sz b)/\m=(st.map fun b=>ndS (sz.drop b.length)).sum/\rows.length+(st.map fun b=>zar (sz.drop b.length)).sum<=300 /\
   (zfo (st.reverse.map fun b=>rwF wf (sz.drop b.length) b)).map (fun y=>rows++y)=rwF wf sz [] /\
   S=[rows.map ziq,st.map zaG]/\δ=[some (.d (.list (sz.map fun n:Nat=>.int n))),some (.o (.ref F)),some (.l 0),some (.l 1),u,v],⟨_,[[]],[],none,none,?_,rfl,?_,?_,rfl,rfl⟩,?_⟩
 ·intro b m;rw [mem_singleton.mp m];cases sz <;> trivial
 ·simpa using hf
 ·simp only [reverse_cons,List.reverse_nil,nil_append,map_cons,map_nil,zfo,length_nil,drop_zero];cases rwF wf sz [] <;> simp [zfo]
 ·rintro m _ _ ⟨st,rows,u,v,hb,rfl,hl,hq,rfl,rfl⟩;walk_at "d";rcases List.eq_nil_or_concat st with rfl | ⟨st',b,rfl⟩
  ·simp only [map_nil,List.isEmpty_nil,Bool.true_eq_false,if_false];simp only [List.reverse_nil,map_nil,zfo,map_some,append_nil] at hq;exact q _ hq.symm
  ·rw [List.concat_eq_append] at *;rw [if_pos (by simp)];have hbb:=hb b (by simp);have hb':∀ c∈st',Bgn sz c:=fun c m=>hb c (by simp [m]);have bl:=ziM hbb;rw [List.reverse_append,List.reverse_singleton,List.singleton_append,map_cons] at hq;rw [map_append,sum_append] at hl ⊢;simp only [map_cons,map_nil,sum_cons,List.sum_nil,Nat.add_zero] at hl ⊢;have pb:=pos b.length;refine⟨_,fun _ _ h=>h,?_⟩;walk_at "d"
   walk_at "n"
   refine⟨zaG b,by simp,?_⟩;have edl:(List.map zaG (st'++[b])).dropLast=st'.map zaG:=by simp
   rw [edl]
   walk_at "n"
   refine hw b hbb _ ?_;cases ew:wf b with
   | some w =>
    rw [zv3 ew] at hq;have wn:=hn b w ew;show ret0 _ _ (.d w) [];walk_at "d";have np:=zut (sz.drop b.length);refine⟨by omega,_,?_,st',rows++[(b,w)],_,_,hb',rfl,?_,?_,⟨by simp [ziq],rfl⟩,rfl,rfl⟩
    ·omega
    ·rw [length_append,length_singleton];omega
    ·rw [<- hq];simp only [zfo,Option.map_map];congr 1;funext y;simp
   | none =>
    show ret0 _ _ (.d .none) [];walk_at "d";have lx:∀ S,ztu S (.d (zaG b))=some b.length:=fun S=>by
     unfold zaG;rw [zpz,length_map]
    refine⟨_,lx _,?_⟩;by_cases hfl:b.length=sz.length
    ·rw [if_pos (by omega)];have e0:sz.drop b.length=[]:=by rw [hfl,drop_length]
     rw [e0] at hq;simp only [rwF,ew,Option.map_none,zfo] at hq;exact q0 hq.symm
    ·rw [if_neg (by omega)];have il:b.length<sz.length:=by omega
     have es:=getElem?_eq_getElem il;generalize sz[b.length]'il=s at es;have s1:=h1 s (mem_of_getElem? es);have s4:=h4 s (mem_of_getElem? es);have ed:=zoA es;refine⟨_,lx _,_,za5 es,?_⟩;walk_at "d";refine⟨_,_,⟨rfl,rfl⟩,⟨by omega,by omega⟩,⟨by decide,by decide⟩,?_⟩;rw [zqz s s1];refine zg2 (by simp; omega) (by omega) ?_;walk_at "d";have eN:∀ f:List Nat->Nat,(((List.range s).reverse.map fun k:Nat=>b++[(k:Int)]).map fun c=>f (sz.drop c.length)).sum=s*f (sz.drop (b.length+1)):=fun f=>by
      rw [map_map,map_congr_left (g:=fun _=>f (sz.drop (b.length+1))) fun k _=>by simp];rw [zjl,List.length_reverse,List.length_range]
     have stl:st'.length<=300:=by
      have:st'.length<=(st'.map fun b=>zar (sz.drop b.length)).sum:=by
       clear hq hl hb hb' edl
       induction st' with
       | nil=>simp
       | cons c l ih=>simp only [length_cons,map_cons,sum_cons]; have:=pos c.length; omega
      omega
     rw [ed] at hl hq ⊢;refine⟨by simp; omega,_,?_,st'++((List.range s).reverse.map fun k:Nat=>b++[(k:Int)]),rows,_,_,?_,rfl,?_,?_,⟨rfl,by simp⟩,rfl,rfl⟩
     ·rw [map_append,sum_append,eN ndS];simp only [ndS];omega
     ·intro c m;rcases mem_append.mp m with m | m
      ·exact hb' c m
      ·obtain⟨k,mk,rfl⟩:=mem_map.mp m;have:=mem_range.mp (mem_reverse.mp mk);exact zl8 hbb es (by omega) (by omega)
     ·rw [map_append,sum_append,eN zar];simp only [zar] at hl;omega
     ·rw [<- hq];simp only [rwF,ew];rw [zoF,List.reverse_append,map_append];congr 3;rw [<- List.map_reverse,List.reverse_reverse,map_map];refine map_congr_left fun k _=>?_;simp
theorem zh2{α:Type}{f:α->Nat}{c:Nat}:∀ {l:List α},(∀ a∈l,f a<=c)->(l.map f).sum<=l.length*c
 | [],_=>by simp
 | a :: l,h=>by
  rw [map_cons,sum_cons,length_cons,succ_mul];have:=h a mem_cons_self;have:=zh2 (l:=l) fun b m=>h b (mem_cons_of_mem _ m);omega
theorem zo9{wf:List Int->Option PyData}:∀ {r:List Nat} {b:List Int} {rows:List Rwp},(∀ s∈r,1<=s)->rwF wf r b=some rows->rows.length<=zar r
 | [],b,rows,h1,h=>by
  simp only [rwF,map_eq_some_iff] at h;obtain⟨w,hw,rfl⟩:=h;exact le_refl _
 | s :: r,b,rows,h1,h=>by
  simp only [rwF] at h;cases e:wf b with
  | some w =>
   rw [e] at h;cases h;exact zdW h1
  | none =>
   rw [e] at h;obtain⟨a1,a2⟩:=zee h;rw [a2,List.length_flatMap];refine le_trans (zh2 (c:=zar r) fun k mk=>?_) (by simp [zar]);obtain⟨y,ey⟩:=a1 k mk;rw [ey];exact zo9 (fun s m=>h1 s (mem_cons_of_mem _ m)) ey
end
section
variable {R:RX} {S:Sto} {EX:EXD}
theorem zfI{os:List (List Off)}{b:List Int}(hb:Bgn (szO os) b):zaG b=zhw (kN b)/\(kN b).length=b.length/\b.length<=os.length/\∀ i,i<b.length->(kN b).getD i 0<(os.getD i []).length:=by
 obtain⟨e1,e2,e3⟩:=zkT hb;have bl:b.length<=os.length:=by simpa [szO] using e2
 refine⟨znJ e1,by simp [kN],bl,fun i hi=>?_⟩;have eb:=getElem?_eq_getElem hi;have eo:=getElem?_eq_getElem (show i<os.length by omega);have:=e3 i _ (os[i]'(by omega)).length eb (by unfold szO; rw [getElem?_map,eo]; rfl);rw [zvS,getD_eq_getElem?_getD,eb,getD_eq_getElem?_getD,eo];exact this
theorem znr{ps:List Part}{os:List (List Off)}(ho:Offs ps os)(h8:ps.length<=8):Sz (szO os)/\∀ s∈szO os,1<=s:=by
 have hl:=ho.len;have ok:∀ l∈os,1<=l.length/\l.length<=4:=fun l m=>by
  obtain⟨i,hi⟩:=mem_iff_getElem?.mp m;have il:=(List.getElem?_eq_some_iff.mp hi).1;have:=ho.ok i _ l (zbq (by omega)) hi;exact⟨this.l1,this.l4⟩
 refine⟨⟨by simp [szO]; omega,fun s m=>?_⟩,fun s m=>?_⟩
 ·obtain⟨l,ml,rfl⟩:=mem_map.mp m;exact(ok l ml).2
 ·obtain⟨l,ml,rfl⟩:=mem_map.mp m;exact(ok l ml).1
theorem zto(os:List (List Off)):ImD (zaN os)=true:=by
 unfold zaN;rw [zli];refine zib fun d m=>?_;obtain⟨l,_,rfl⟩:=mem_map.mp m;rw [zbT,zli];refine zib fun d m=>?_;obtain⟨t,_,rfl⟩:=mem_map.mp m;rfl
theorem zpP(ps:List Part):ImD (zbn ps)=true:=by
 unfold zbn;rw [zli];refine zib fun d m=>?_;obtain⟨p,_,rfl⟩:=mem_map.mp m;rfl
theorem zoU(gs:List Gap):ImD (zb5 gs)=true:=by
 unfold zb5;rw [zli];refine zib fun d m=>?_;obtain⟨g,_,rfl⟩:=mem_map.mp m;rw [zce,zli];simp only [ImL,ztG,Bool.and_true];unfold znb;rw [zli];refine zib fun d m=>?_;obtain⟨t,_,rfl⟩:=mem_map.mp m;rfl
theorem ziY{ps:List Part}{os:List (List Off)}{ks:List Nat}(ho:Offs ps os)(hc:Chs os ks)(h8:ps.length<=8)(q:R (.d (.int (pcO os ks))) []):zaR [.d (zaN os),.d (zhw ks)] [] R:=by
 have hl:=ho.len;have hk:=hc.len;unfold zaR zaN zhw;walk_at "d";refine cmp1 (S0:=[]) (fun i:Nat=>PyData.int (offer os ks i).2.2) rfl (List.range ks.length) (by simp; omega) ?_ ?_
 ·intro i mi u acc R' hk';have hi3:=mem_range.mp mi;have hi2:i<os.length:=by omega
  have e2:=za5 (f:=zfp) (zeV hi2);have e3:=za5 (f:=fun k:Nat=>PyData.int k) (show ks[i]? = some (ks.getD i 0) by rw [getElem?_eq_getElem hi3,getD_eq_getElem?_getD,getElem?_eq_getElem hi3]; rfl);have e4:=za5 (f:=zed) (ze6 hc hi2);walk_at "d";simp only [Int.zero_add];refine⟨_,e2,?_⟩;rw [zbT];walk_at "d";refine⟨_,e3,?_⟩;walk_at "d";refine⟨_,e4,?_⟩;rw [zdX];walk_at "d";exact hk' _
 ·walk_at "d";refine⟨(List.range ks.length).map fun i=>(offer os ks i).2.2,by rw [map_map]; rfl,?_⟩;have e:(List.range ks.length).map (fun i=>(offer os ks i).2.2)=(os.zip ks).map fun q=>(q.1.getD q.2 (0,0,0)).2.2:=by
   apply List.ext_getElem?;intro i;rw [getElem?_map,getElem?_map];by_cases hi:i<ks.length
   ·have h2:i<os.length:=by omega
    rw [getElem?_range hi,(getElem?_zip_eq_some (z:=(os.getD i [],ks.getD i 0))).mpr ⟨zeV h2,gD (d:=0) hi⟩];rfl
   ·rw [getElem?_eq_none (by simp; omega),getElem?_eq_none (by simp; omega)];rfl
  rw [e];exact q
theorem zqM:zft=zdk:=rfl
end
section
variable {R:RX} {S:Sto}
theorem zsw(ps:List Part):zbn ps=.tuple (ps.map zdL):=rfl
theorem zjP{d:PyData}(q:R (.d (.bool (zbv d))) []):zbI [.d d] [] R:=by
 unfold zbI;cases d <;> (walk_at "e"; exact q)
def inP(p:Part):PyData->Bool
 | .int k=>decide (p.2.1<=k/\k<=p.2.2)
 | _=>false
def zgO(ps:List Part):PyData->Bool
 | .tuple ds=>decide (ds.length=ps.length) && ((ds.zip ps).map fun q=>inP q.2 q.1).all id
 | _=>false
theorem zc4(ps:List Part)(ds:List PyData):zgO ps (.tuple ds)=(decide (ds.length=ps.length) && ((ds.zip ps).map fun q=>inP q.2 q.1).all id):=rfl
theorem zpa{ps:List Part}{d:PyData}(hl:ps.length<=100)(q:R (.d (.bool (zgO ps d))) []):zgs [.d (zbn ps),.d d] [] R:=by
 unfold zgs;rw [zsw];cases d with
 | tuple ds =>
  walk_at "d"
  walk_at "n"
  by_cases h:ds.length=ps.length
  ·rw [if_neg (by omega)];rw [zc4,decide_eq_true h,Bool.true_and] at q;have ez:zi1 ds (ps.map zdL)=(ds.zip ps).map fun q=>.tuple [q.1,zdL q.2]:=by
    have:=zco (fun d:PyData=>d) zdL ds ps
    rwa [map_id'] at this
   walk_at "d";rw [ez];refine cmp2 (S0:=[]) (fun q:PyData×Part=>.bool (inP q.2 q.1)) rfl (ds.zip ps) (by simp; omega) ?_ ?_
   ·intro x mx u v acc R' hk;obtain⟨d,p⟩:=x;rw [zfq];walk_at "d";refine zjP ?_;cases d with
    | int k =>
     simp only [zbv];walk_at "d";have e0:inP p (.int k)=decide (p.2.1<=k/\k<=p.2.2):=rfl;have hk':=hk (some (.d (.int k))) (some (.d (.tuple [.str p.1,.int p.2.1,.int p.2.2])));rw [e0] at hk';split
     ·rename_i h1;simpa [h1] using hk'
     ·rename_i h1;simpa [h1] using hk'
    | none=>(simp only [zbv]; walk_at "d"; exact hk _ _)
    | bool b=>(simp only [zbv]; walk_at "d"; exact hk _ _)
    | str b=>(simp only [zbv]; walk_at "d"; exact hk _ _)
    | list b=>(simp only [zbv]; walk_at "d"; exact hk _ _)
    | dict b=>(simp only [zbv]; walk_at "d"; exact hk _ _)
    | tuple b=>(simp only [zbv]; walk_at "d"; exact hk _ _)
   ·walk_at "d";exact⟨_,by rw [map_map]; rfl,q⟩
  ·rw [if_pos (by omega)];rw [zc4,decide_eq_false h] at q;exact q
 | none=>(walk_at "d"; walk_at "n"; exact q)
 | bool b=>(walk_at "d"; walk_at "n"; exact q)
 | int b=>(walk_at "d"; walk_at "n"; exact q)
 | str b=>(walk_at "d"; walk_at "n"; exact q)
 | list b=>(walk_at "d"; walk_at "n"; exact q)
 | dict b=>(walk_at "d"; walk_at "n"; exact q)
theorem ziJ:∀ {ps:List Part} {ds:List PyData},(ds.length=ps.length/\((ds.zip ps).map fun q=>inP q.2 q.1).all id=true)↔∃ one:List Int,ds=one.map PyData.int/\InBox ps one
 | [],[]=>by
  constructor
  ·intro _;exact⟨[],rfl,zeM.mpr rfl⟩
  ·intro _;exact⟨rfl,rfl⟩
 | [],d :: ds=>by
  constructor
  ·intro h;cases h.1
  ·rintro⟨one,e,h⟩;rw [zeM.mp h] at e;cases e
 | p :: ps,[]=>by
  constructor
  ·intro h;cases h.1
  ·rintro⟨one,e,h⟩;obtain⟨x,t,rfl,_⟩:=zcr.mp h;cases e
 | p :: ps,d :: ds=>by
  have ih:=ziJ (ps:=ps) (ds:=ds);constructor
  ·rintro⟨h1,h2⟩;rw [zip_cons_cons,map_cons,all_cons,Bool.and_eq_true] at h2;obtain⟨h2,h3⟩:=h2;obtain⟨one,e,hb⟩:=ih.mp ⟨by simpa using h1,h3⟩;cases d with
   | int k =>
    have h2':decide (p.2.1<=k/\k<=p.2.2)=true:=h2;have:=of_decide_eq_true h2';exact⟨k :: one,by rw [e]; rfl,zcr.mpr ⟨k,one,rfl,this.1,this.2,hb⟩⟩
   | _=>cases h2
  ·rintro⟨one,e,h⟩;obtain⟨x,t,rfl,h1,h2,h3⟩:=zcr.mp h;rw [map_cons] at e;injection e with e1 e2
   have:=ih.mpr ⟨t,e2,h3⟩;refine⟨by simpa using this.1,?_⟩;rw [zip_cons_cons,map_cons,all_cons,this.2,Bool.and_true,e1];exact decide_eq_true ⟨h1,h2⟩
theorem zhO{ps:List Part}{d:PyData}:zgO ps d=true↔∃ one,d=zaG one/\InBox ps one:=by
 constructor
 ·intro h;cases d with
  | tuple ds =>
   rw [zc4,Bool.and_eq_true,decide_eq_true_eq] at h;obtain⟨one,e,hb⟩:=ziJ.mp h;exact⟨one,by rw [e]; rfl,hb⟩
  | _=>cases h
 ·rintro⟨one,rfl,hb⟩;have h:=ziJ.mpr ⟨one,rfl,hb⟩;show zgO ps (.tuple (one.map PyData.int))=true;rw [zc4,Bool.and_eq_true,decide_eq_true_eq];exact h
end
section
theorem znv:∀ {x y:List Int},HT.lexLt y x=false->x≠y->HT.lexLt x y=true
 | [],[],_,h=>absurd rfl h
 | [],b :: y,_,_=>rfl
 | a :: x,[],h,_=>by cases h
 | a :: x,b :: y,h,n=>by
  rw [zdy];have h':¬ (b<a\/b=a/\HT.lexLt y x=true):=fun z=>by
   rw [(zdy b a y x).mpr z] at h;cases h
  by_cases e:a=b
  ·refine .inr ⟨e,znv ?_ fun e2=>n (by rw [e,e2])⟩;cases hh:HT.lexLt y x with
   | false=>rfl
   | true=>exact absurd (.inr ⟨e.symm,hh⟩) h'
  ·left;have:¬ b<a:=fun z=>h' (.inl z);omega
theorem zsz{x y:List Int}(h:HT.lexLt x y=true):HT.lexLt y x=false:=by
 cases hh:HT.lexLt y x with
 | false=>rfl
 | true =>
  have:=zsO h hh;rw [zrh] at this;cases this
theorem zrI{sz:List Nat}{b:List Int}(hb:Bgn sz b)(h1:∀ s∈sz,1<=s):∃ z∈fil sz,b <+: z:=by
 have c:=zhi hb;have p:1<=zar (sz.drop b.length):=zdW fun x m=>h1 x (mem_of_mem_drop m);have n:(fil sz).filter (fun z=>b.isPrefixOf z)≠[]:=fun e=>by
  rw [e] at c;simp at c;omega
 obtain⟨z,mz⟩:=List.exists_mem_of_ne_nil _ n;rw [mem_filter] at mz;exact⟨z,mz.1,isPrefixOf_iff_prefix.mp mz.2⟩
def zsN(B:List (List Int))(z:List Int):Nat:=(B.filter fun b=>b.isPrefixOf z).length
theorem zrm:∀ {B:List (List Int)},zjj B=true->B.Pairwise fun x y=>HT.lexLt x y=true
 | [],_=>.nil
 | x :: B,h=>by
  refine .cons (fun y m=>(zgr h y m).1) (zrm ?_);cases B with
  | nil=>rfl
  | cons z r =>
   simp only [zjj,Bool.and_eq_true] at h;exact h.2
theorem zsa{α β:Type}{Z:List β}{p:β->α->Bool}{q:α->α->Prop}:∀ {B:List α},(∀ z∈Z,(B.filter (p z)).length<=1)->(∀ x∈B,∀ y∈B,q x y->∃ z∈Z,p z x=true/\p z y=true)->B.Pairwise fun x y=>¬ q x y
 | [],_,_=>.nil
 | x :: B,h,k=>by
  refine .cons (fun y my hq=>?_) (zsa (fun z mz=>?_) fun a ma b mb=>k a (mem_cons_of_mem _ ma) b (mem_cons_of_mem _ mb))
  ·obtain⟨z,mz,h1,h2⟩:=k x mem_cons_self y (mem_cons_of_mem _ my) hq;have:=h z mz;rw [List.filter_cons_of_pos h1,length_cons] at this;have:0<(B.filter (p z)).length:=List.length_pos_of_mem (mem_filter.mpr ⟨my,h2⟩);omega
  ·refine le_trans ?_ (h z mz);rw [filter_cons];split
   ·simp
   ·exact le_refl _
theorem ztp{sz:List Nat}{B:List (List Int)}(h1:∀ s∈sz,1<=s)(hB:∀ b∈B,Bgn sz b):(zjj B=true/\zrL sz B=zar sz)↔(B.Pairwise fun x y=>HT.lexLt y x=false)/\∀ z∈fil sz,zsN B z=1:=by
 constructor
 ·rintro⟨ha,hs⟩;refine⟨(zrm ha).imp zsz,fun z mz=>?_⟩;obtain⟨b,mb,pb⟩:=(zeL hB ha).mp hs z mz;have:=zgj z (zgm ha);have:0<(B.filter fun b=>b.isPrefixOf z).length:=List.length_pos_of_mem (mem_filter.mpr ⟨mb,isPrefixOf_iff_prefix.mpr pb⟩);unfold zsN;omega
 ·rintro⟨hs,hc⟩;have fr:B.Pairwise fun x y=>¬ (x <+: y\/y <+: x):=zsa (Z:=fil sz) (p:=fun z b=>b.isPrefixOf z) (fun z mz=>Nat.le_of_eq (show (B.filter fun b=>b.isPrefixOf z).length=1 from hc z mz)) fun x mx y my hq=>by
   rcases hq with hq | hq
   ·obtain⟨z,mz,pz⟩:=zrI (hB y my) h1;exact⟨z,mz,isPrefixOf_iff_prefix.mpr (hq.trans pz),isPrefixOf_iff_prefix.mpr pz⟩
   ·obtain⟨z,mz,pz⟩:=zrI (hB x mx) h1;exact⟨z,mz,isPrefixOf_iff_prefix.mpr pz,isPrefixOf_iff_prefix.mpr (hq.trans pz)⟩
  have ha:zjj B=true:=zll ((hs.and fr).imp fun {x y} h=>by
   refine⟨znv h.1 fun e=>h.2 (.inl (by rw [e]; exact List.prefix_rfl)),?_⟩;cases hh:x.isPrefixOf y with
   | false=>rfl
   | true=>exact absurd (.inl (isPrefixOf_iff_prefix.mp hh)) h.2)
  refine⟨ha,(zeL hB ha).mpr fun z mz=>?_⟩;have:0<(B.filter fun b=>b.isPrefixOf z).length:=by have:=hc z mz; unfold zsN at this; omega
  obtain⟨b,mb⟩:=List.exists_mem_of_length_pos this;rw [mem_filter] at mb;exact⟨b,mb.1,isPrefixOf_iff_prefix.mp mb.2⟩
theorem zrD(m:Nat):∀ n:Nat,((List.range n).filter fun k=>decide (k=m)).length=if m<n then 1 else 0
 | 0=>by simp
 | n+1=>by
  rw [range_succ,List.filter_append,length_append,zrD m n];by_cases h:n=m
  ·subst h;simp
  ·rw [List.filter_cons_of_neg (by simpa using h)];by_cases h2:m<n
   ·rw [if_pos h2,if_pos (by omega)]; rfl
   ·rw [if_neg h2,if_neg (by omega)]; rfl
theorem zpd{α:Type}(p:α->Bool):∀ l:List α,(l.map fun x=>if p x=true then 1 else 0).sum=(l.filter p).length
 | []=>rfl
 | x :: l=>by
  rw [map_cons,sum_cons,zpd p l,filter_cons];split
  ·rw [length_cons]; omega
  ·omega
theorem zmN(B:List (List Int))(z:List Int):((List.range (z.length+1)).map fun k=>(B.filter fun b=>decide (b=z.take k)).length).sum=zsN B z:=by
 rw [zgp (fun k b=>decide (b=z.take k))];unfold zsN;rw [<- zpd];congr 1;refine map_congr_left fun b _=>?_;by_cases h:b.isPrefixOf z=true
 ·rw [if_pos h];have p:=isPrefixOf_iff_prefix.mp h;have e:=List.prefix_iff_eq_take.mp p;have l:=p.length_le;have:(List.range (z.length+1)).filter (fun k=>decide (b=z.take k))=(List.range (z.length+1)).filter fun k=>decide (k=b.length):=by
   refine List.filter_congr fun k mk=>?_;have:=mem_range.mp mk;rw [decide_eq_decide];constructor
   ·intro e2;have:=congrArg List.length e2;rw [length_take] at this;omega
   ·rintro rfl;exact e
  rw [this,zrD,if_pos (by omega)]
 ·rw [if_neg h];refine List.length_eq_zero_iff.mpr (List.filter_eq_nil_iff.mpr fun k _ hk=>h ?_);rw [decide_eq_true_eq] at hk;rw [hk];exact isPrefixOf_iff_prefix.mpr (List.take_prefix _ _)
theorem zve{κ α:Type}[DecidableEq κ]{k k':κ}{v:α}:∀ {m:List (κ×α)},lkA (ptA m k v) k'=if k=k' then some v else lkA m k':=by
 intro m;unfold ptA;split
 ·rename_i h;induction m with
  | nil=>cases h
  | cons p m ih =>
   rw [map_cons];unfold lkA at *;rw [find?_cons,find?_cons];by_cases e:p.1=k
   ·rw [if_pos e];by_cases e2:k=k'
    ·rw [if_pos e2];simp [e,e2]
    ·rw [if_neg e2];have n1:¬ p.1=k':=fun z=>e2 (e.symm.trans z);simp only [decide_eq_false n1];by_cases h2:(m.any fun p=>decide (p.1=k))=true
     ·rw [ih h2,if_neg e2]
     ·have:m.map (fun p=>if p.1=k then (p.1,v) else p)=m:=by
       conv=>rhs; rw [<- map_id m]
       refine map_congr_left fun x mx=>?_;rw [if_neg fun z=>h2 (List.any_eq_true.mpr ⟨x,mx,decide_eq_true z⟩)];rfl
      rw [this]
   ·rw [if_neg e];have h2:(m.any fun p=>decide (p.1=k))=true:=by simpa [e] using h
    have i2:=ih h2;by_cases e3:p.1=k'
    ·have:¬ k=k':=fun z=>e (e3.trans z.symm);simp [e3,this]
    ·simp only [decide_eq_false e3];exact i2
 ·rename_i h;unfold lkA;rw [List.find?_append];by_cases e:k=k'
  ·rw [if_pos e];have:m.find? (fun p=>decide (p.1=k'))=none:=by
    rw [List.find?_eq_none];intro x mx hx;exact h (List.any_eq_true.mpr ⟨x,mx,by simpa [e] using hx⟩)
   rw [this];simp [e]
  ·rw [if_neg e];simp [e]
end
section
variable {R:RX} {S:Sto} {EX:EXD}
def znc(os:List (List Off))(b:List Int):List Nat:=kN b++(os.drop b.length).map fun l=>l.length - 1
def nrB(ps:List Part)(os:List (List Off))(b:List Int):List Part:=chosen ps os (znc os b)
section
variable {ps:List Part} {os:List (List Off)} {gs:List Gap} {price:Int} {b:List Int}
theorem zng(ho:Offs ps os):∀ i,i<os.length->1<=(os.getD i []).length:=fun i hi=>by
 have hl:=ho.len;exact(ho.ok i _ _ (zbq (by omega)) (zeV hi)).l1
theorem zjc(ho:Offs ps os)(hb:Bgn (szO os) b):Chs os (znc os b):=by
 obtain⟨e,kl,bl,hk⟩:=zfI hb;unfold znc;refine⟨by simp [kl]; omega,fun i hi=>?_⟩;by_cases hib:i<b.length
 ·rw [getD_eq_getElem?_getD,getElem?_append_left (by omega),<- getD_eq_getElem?_getD];exact hk i hib
 ·have:=zng ho i hi;rw [getD_eq_getElem?_getD,getElem?_append_right (by omega),kl,getElem?_map,List.getElem?_drop,show b.length+(i - b.length)=i by omega,zeV hi];show (os.getD i []).length - 1<_;omega
theorem zls(ho:Offs ps os):PyData.tuple ((kN b).map (fun k:Nat=>PyData.int (k:Int))++(os.drop b.length).map fun l=>PyData.int ((l.length:Int) - 1))=zhw (znc os b):=by
 unfold zhw znc;rw [map_append,map_map];congr 2;refine map_congr_left fun l ml=>?_;obtain⟨i,hi⟩:=mem_iff_getElem?.mp ml;rw [List.getElem?_drop] at hi;have il:=(List.getElem?_eq_some_iff.mp hi).1;have:=zng ho _ il;have e5:os.getD (b.length+i) []=l:=by rw [zeV il] at hi; exact Option.some.inj hi
 rw [e5] at this;show PyData.int ((l.length:Int) - 1)=PyData.int ((l.length - 1:Nat):Int);congr 1;omega
theorem zeW(ho:Offs ps os)(h8:ps.length<=8)(hb:Bgn (szO os) b)(q:R (.d (zbn (nrB ps os b))) []):zcC [.d (zbn ps),.d (zaN os),.d (zaG b)] [] R:=by
 have hl:=ho.len;obtain⟨e,kl,bl,hk⟩:=zfI hb;unfold zcC;walk_at "d";walk_at "n";refine zeE (by omega) ?_;walk_at "d";refine cmp1 (S0:=[]) (fun l:List Off=>PyData.int ((l.length:Int) - 1)) rfl os (by omega) ?_ ?_
 ·intro l ml u acc R' hk;walk_at "d";exact hk _
 ·rw [e];unfold zhw;walk_at "d";have c1:zdl (os.map fun l:List Off=>PyData.int ((l.length:Int) - 1)) (some ((kN b).length:Int)) none=(os.drop b.length).map fun l=>PyData.int ((l.length:Int) - 1):=by
   rw [kl,ziT (by simpa using bl),map_drop]
  rw [c1];refine⟨by simp; omega,?_⟩;rw [zls ho];exact zhH ho (zjc ho hb) h8 q
theorem zf5(ho:Offs ps os)(h8:ps.length<=8)(hb:Bgn (szO os) b)(q:R (.d (.int (pcO os (kN b)))) []):zc2 [.d (zaN os),.d (zaG b)] [] R:=by
 have hl:=ho.len;obtain⟨e,kl,bl,hk⟩:=zfI hb;rw [e];unfold zc2 zaN zhw;walk_at "d";rw [zco];refine cmp2 (S0:=[]) (fun q:List Off×Nat=>.int (q.1.getD q.2 (0,0,0)).2.2) rfl (os.zip (kN b)) (by simp; omega) ?_ ?_
 ·intro x mx u v acc R' hk';obtain⟨i,hi⟩:=mem_iff_getElem?.mp mx;rw [getElem?_zip_eq_some] at hi;obtain⟨h1,h2⟩:=hi;have il:i<os.length:=(List.getElem?_eq_some_iff.mp h1).1;have ik:i<(kN b).length:=(List.getElem?_eq_some_iff.mp h2).1;have e1:os.getD i []=x.1:=by rw [zeV il] at h1; exact Option.some.inj h1
  have e2:(kN b).getD i 0=x.2:=by rw [gD (d:=0) ik] at h2; exact Option.some.inj h2
  have kb:=hk i (by omega);rw [e1,e2] at kb;have e3:=za5 (f:=zed) (gD (d:=((0,0,0):Off)) kb);rw [zbT];walk_at "d";refine⟨_,e3,?_⟩;rw [zdX];walk_at "d";exact hk' _ _
 ·walk_at "d";exact⟨_,by rw [map_map]; rfl,q⟩
def brk3:PyData->Bool
 | .tuple [.str x,_,_]=>decide (x = "breaks")
 | _=>false
def zwT:PyData->PyData
 | .tuple [_,k,_]=>k
 | _=>.none
def zwZ:PyData->PyData
 | .tuple [_,_,s]=>s
 | _=>.none
def zvc(ps:List Part)(gs:List Gap)(os:List (List Off))(b:List Int)(k s:PyData):Bool:=match k with
 | .int k=>decide (0<=k/\k<gs.length) && (zgO (nrB ps os b) s && !zbo (zkD gs k) (bgO s))
 | _=>false
theorem ziB{k:Int}{s:PyData}:zvc ps gs os b (.int k) s=(decide (0<=k/\k<gs.length) && (zgO (nrB ps os b) s && !zbo (zkD gs k) (bgO s))):=rfl
def fwB(ps:List Part)(gs:List Gap)(os:List (List Off))(price:Int)(b:List Int)(w:PyData):Bool :=
 if zf7 w then decide (price<=pcO os (kN b)) else brk3 w && zvc ps gs os b (zwT w) (zwZ w)
theorem fwD{w:PyData}(h:zf7 w=true):fwB ps gs os price b w=decide (price<=pcO os (kN b)):=by
 unfold fwB;rw [if_pos h]
theorem fwN{w:PyData}(h:zf7 w=false)(k:brk3 w=false):fwB ps gs os price b w=false:=by
 unfold fwB;rw [if_neg (by rw [h]; decide),k];rfl
theorem zhd:(nrB ps os b).length=ps.length:=zai
theorem ziG{w:PyData}(ho:Offs ps os)(h8:ps.length<=8)(hg:∀ g∈gs,Tms ps.length g.ts)(hb:Bgn (szO os) b)(hw:WT w)
  (q:R (.d (.bool (fwB ps gs os price b w))) []):zcU [.d (.tuple [zbn ps,zb5 gs]),.d (zaN os),.d (.int price),.d (zaG b),.d w] [] R:=by
 unfold zcU;walk_at "d"
 walk_at "n"
 refine⟨hw.sh,by decide +kernel,?_⟩;rw [zpV];cases hd:zf7 w with
 | true =>
  rw [fwD hd] at q;walk_at "d";refine zf5 ho h8 hb ?_;walk_at "d";exact q
 | false =>
  have fal:brk3 w=false->R (.d (.bool false)) []:=fun k=>by rw [fwN hd k] at q; exact q
  walk_at "d"
  walk_at "n"
  cases w with
  | tuple ds =>
   match ds with
   | []=>(walk_at "d"; exact fal rfl)
   | [x] =>
    walk_at "d";exact fal (by cases x <;> rfl)
   | [x,y] =>
    walk_at "d";exact fal (by cases x <;> rfl)
   | x :: y :: z :: u :: r =>
    walk_at "d";have:brk3 (.tuple (x :: y :: z :: u :: r))=false:=by cases x <;> rfl
    rw [if_pos (by omega)];exact fal this
   | [x,k,s] =>
    have e2:brk3 (.tuple [x,k,s])=PyData.eqv x (.str "breaks"):=by cases x <;> rfl
    walk_at "d";refine⟨hw.el _ rfl x (by simp),by decide +kernel,?_⟩;rw [<- e2];cases hoff:brk3 (.tuple [x,k,s]) with
    | false=>exact fal hoff
    | true =>
     have ew:fwB ps gs os price b (.tuple [x,k,s])=zvc ps gs os b k s:=by
      unfold fwB;rw [hd,hoff];rfl
     rw [ew] at q;walk_at "d"
     walk_at "n"
     refine zf6 ?_;cases k with
     | int k =>
      rw [ziB] at q;simp only [zbv];walk_at "d";unfold zb5;by_cases hk0:0<=k
      ·rw [if_pos hk0];walk_at "d";by_cases hk1:k<gs.length
       ·rw [if_neg (by simpa using hk1)];rw [decide_eq_true ⟨hk0,hk1⟩,Bool.true_and] at q;walk_at "d";refine zeW ho h8 hb ?_;walk_at "d";refine zpa (by rw [zhd]; omega) ?_;cases hs:zgO (nrB ps os b) s with
        | false =>
         rw [hs] at q;walk_at "d";exact q
        | true =>
         rw [hs,Bool.true_and] at q;obtain⟨one,rfl,hbx⟩:=zhO.mp hs;rw [zeG] at q;obtain⟨e3,m3⟩:=zr8 hk0 hk1;walk_at "d";refine⟨_,e3,?_⟩;refine zmi (by rw [hbx.len,zhd]; exact(hg _ m3).tm3 h8) ?_;walk_at "d";exact q
       ·rw [if_pos (by simpa using hk1)];simpa [hk0,hk1] using q
      ·rw [if_neg hk0];walk_at "d";simpa [hk0] using q
     | none=>(walk_at "d"; exact q)
     | bool b=>(walk_at "d"; exact q)
     | str b=>(walk_at "d"; exact q)
     | list b=>(walk_at "d"; exact q)
     | dict b=>(walk_at "d"; exact q)
     | tuple b=>(walk_at "d"; exact q)
  | none=>(walk_at "d"; exact fal rfl)
  | bool b=>(walk_at "d"; exact fal rfl)
  | int b=>(walk_at "d"; exact fal rfl)
  | str b=>(walk_at "d"; exact fal rfl)
  | list b=>(walk_at "d"; exact fal rfl)
  | dict b=>(walk_at "d"; exact fal rfl)
end
def frB(ps:List Part)(gs:List Gap)(os:List (List Off))(price:Int)(r:PyData):Bool:=fwB ps gs os price (bgO (fs1 r)) (sn1 r)
def zlP(ps:List Part)(gs:List Gap)(os:List (List Off))(price:Int):PyData->Bool
 | .list rows=>arB (szO os) (.list rows) && rows.all (frB ps gs os price)
 | _=>false
section
variable {ps:List Part} {os:List (List Off)} {gs:List Gap} {price:Int} {b:List Int}
theorem zgU{rows:List PyData}:zlP ps gs os price (.list rows)=(arB (szO os) (.list rows) && rows.all (frB ps gs os price)):=rfl
theorem zhE{d:PyData}(ho:Offs ps os)(h8:ps.length<=8)(hg:∀ g∈gs,Tms ps.length g.ts)(hd:ThB d)
  (q:R (.d (.bool (zlP ps gs os price d))) []):zcp [.d (.tuple [zbn ps,zb5 gs]),.d (zaN os),.d (.int price),.d d] [] R:=by
 have hl0:=ho.len;unfold zcp;walk_at "d"
 walk_at "n"
 refine zeE (by omega) ?_;rw [zlN];walk_at "d";refine zlf (znr ho h8).1 hd.len ?_;walk_at "d";cases ha:arB (szO os) d with
 | false =>
  walk_at "d";have:zlP ps gs os price d=false:=by
   cases d with
   | list rows=>rw [zgU,ha]; rfl
   | _=>rfl
  rw [this] at q;exact q
 | true =>
  cases d with
  | list rows =>
   have hl:=hd.len rows rfl;rw [zgU,ha,Bool.true_and] at q;rw [zlQ,Bool.and_eq_true] at ha;obtain⟨h2,h3⟩:=ha;unfold zsJ at h3;rw [Bool.and_eq_true] at h3;obtain⟨h3,_⟩:=h3;rw [all_eq_true] at h2 h3;walk_at "d";refine cmp2dT (S0:=[]) (fun r=>.bool (frB ps gs os price r)) rfl rows (by omega) ?_ ?_
   ·intro x mx u v acc R' hk;have e:=zuv (h2 x mx);obtain⟨b,e1,hb⟩:=zkL.mp (h3 _ (mem_map_of_mem mx));have ew:frB ps gs os price x=fwB ps gs os price b (sn1 x):=by
     unfold frB;rw [e1,zeG]
    rw [e1] at e;have wt:=hd.why rows rfl x mx _ _ e;have hk':=hk (some (.d (zaG b))) (some (.d (sn1 x)));rw [ew] at hk';generalize sn1 x=w at e wt hk';subst e;walk_at "d";refine ziG ho h8 hg hb wt ?_;walk_at "d";exact hk'
   walk_at "d";refine⟨rows.map (frB ps gs os price),by rw [map_map]; rfl,?_⟩;rw [all_map];exact q
  | _=>cases ha
theorem ziQ(ho:Offs ps os)(h8:ps.length<=8)(hb:Bgn (szO os) b)(q:R (.d (.int (pcO os (kN b)))) []):zaR [.d (zaN os),.d (zaG b)] [] R:=by
 have hl:=ho.len;obtain⟨e,kl,bl,hk⟩:=zfI hb;rw [e];unfold zaR zaN zhw;walk_at "d";refine cmp1 (S0:=[]) (fun i:Nat=>PyData.int (offer os (kN b) i).2.2) rfl (List.range (kN b).length) (by simp; omega) ?_ ?_
 ·intro i mi u acc R' hk';have hi3:=mem_range.mp mi;have hi2:i<os.length:=by omega
  have e2:=za5 (f:=zfp) (zeV hi2);have e3:=za5 (f:=fun k:Nat=>PyData.int k) (gD (d:=0) hi3);have e4:=za5 (f:=zed) (gD (d:=((0,0,0):Off)) (hk i (by omega)));walk_at "d";simp only [Int.zero_add];refine⟨_,e2,?_⟩;rw [zbT];walk_at "d";refine⟨_,e3,?_⟩;walk_at "d";refine⟨_,e4,?_⟩;rw [zdX];walk_at "d";exact hk' _
 ·walk_at "d";refine⟨(List.range (kN b).length).map fun i=>(offer os (kN b) i).2.2,by rw [map_map]; rfl,?_⟩;have e:(List.range (kN b).length).map (fun i=>(offer os (kN b) i).2.2)=(os.zip (kN b)).map fun q=>(q.1.getD q.2 (0,0,0)).2.2:=by
   apply List.ext_getElem?;intro i;rw [getElem?_map,getElem?_map];by_cases hi:i<(kN b).length
   ·have h2:i<os.length:=by omega
    rw [getElem?_range hi,(getElem?_zip_eq_some (z:=(os.getD i [],(kN b).getD i 0))).mpr ⟨zeV h2,gD (d:=0) hi⟩];rfl
   ·rw [getElem?_eq_none (by simp; omega),getElem?_eq_none (by simp; omega)];rfl
  rw [e];exact q
end
end
section
variable {R:RX} {S:Sto} {EX:EXD}
section
variable {ps:List Part} {os:List (List Off)} {gs:List Gap} {price:Int} {b:List Int}
theorem zjB{w:PyData}(ho:Offs ps os)(h8:ps.length<=8)(hg:∀ g∈gs,Tms ps.length g.ts)(hb:Bgn (szO os) b)(hw:WT w)
  (q:R (.d (.bool (fwB ps gs os price b w))) []):zcI [.d (zbn ps),.d (zb5 gs),.d (zaN os),.d (.int price),.d (zaG b),.d w] [] R:=by
 have hl:=ho.len;obtain⟨e,kl,bl,hk⟩:=zfI hb;unfold zcI;walk_at "d"
 walk_at "n"
 cases w with
 | tuple ds =>
  have fal:zf7 (.tuple ds)=false->brk3 (.tuple ds)=false->R (.d (.bool false)) []:=fun h k=>by rw [fwN h k] at q; exact q
  match ds,hw,q,fal with
  | [],hw,q,fal =>
   walk_at "d";refine⟨by decide +kernel,?_⟩;rw [if_pos dz];exact fal rfl rfl
  | [x],hw,q,fal =>
   walk_at "d";refine⟨by decide +kernel,?_⟩;rw [if_neg dz];cases x with
   | str z =>
    rw [if_neg (by simp)]
    walk_at "n"
    refine⟨hw.el _ rfl _ (by simp),by decide +kernel,?_⟩;have ez:PyData.eqv (.str z) (.str "dear")=decide (z = "dear"):=rfl;rw [ez];by_cases hz:z = "dear"
    ·rw [fwD (show zf7 (.tuple [.str z])=true from decide_eq_true hz)] at q;rw [decide_eq_true hz];walk_at "d";refine ziQ ho h8 hb ?_;walk_at "d";exact q
    ·rw [decide_eq_false hz];walk_at "d";exact fal (decide_eq_false hz) rfl
   | none=>exact fal rfl rfl
   | bool b=>exact fal rfl rfl
   | int b=>exact fal rfl rfl
   | list b=>exact fal rfl rfl
   | dict b=>exact fal rfl rfl
   | tuple b=>exact fal rfl rfl
  | [x,y],hw,q,fal =>
   walk_at "d";refine⟨by decide +kernel,?_⟩;rw [if_pos dz];exact fal (by cases x <;> rfl) (by cases x <;> rfl)
  | x :: y :: z :: u :: r,hw,q,fal =>
   walk_at "d";refine⟨by decide +kernel,?_⟩;rw [if_pos ?_]
   ·exact fal (by cases x <;> rfl) (by cases x <;> rfl)
   ·simp only [any_cons,List.any_nil,zgP,Bool.or_false];rw [decide_eq_false (by omega),decide_eq_false (by omega)];rfl
  | [x,k,s],hw,q,fal =>
   walk_at "d";refine⟨by decide +kernel,?_⟩;rw [if_neg dz];cases x with
   | str z =>
    rw [if_neg (by simp)]
    walk_at "n"
    walk_at "n"
    refine⟨hw.el _ rfl _ (by simp),by decide +kernel,?_⟩;have ez:PyData.eqv (.str z) (.str "breaks")=decide (z = "breaks"):=rfl;rw [ez];by_cases hz:z = "breaks"
    ·rw [decide_eq_true hz];have ew:fwB ps gs os price b (.tuple [.str z,k,s])=zvc ps gs os b k s:=by
      unfold fwB;rw [show zf7 (.tuple [.str z,k,s])=false from rfl,show brk3 (.tuple [.str z,k,s])=true from decide_eq_true hz];rfl
     rw [ew] at q;walk_at "d";refine zdt ?_;cases k with
     | int k =>
      rw [ziB] at q;simp only [zbv];unfold zb5;walk_at "d";by_cases hk2:0<=k/\k<(gs.length:Int)
      ·rw [decide_eq_true hk2,Bool.true_and] at q;obtain⟨e3,m3⟩:=zr8 hk2.1 hk2.2;rw [if_neg (by simpa using hk2)];have cl:(chosen ps os (znc os b)).length=ps.length:=zai;refine seq1 ?_;rw [e];unfold zaN zhw;walk_at "d";have c1:zdl (os.map zfp) (some ((kN b).length:Int)) none=(os.drop b.length).map zfp:=by
        rw [kl,ziT (by simpa using bl),map_drop]
       rw [c1];refine cmp1 (S0:=[]) (fun l:List Off=>PyData.int ((l.length:Int) - 1)) rfl (os.drop b.length) (by simp; omega) ?_ ?_
       ·intro l ml u acc R' hk';rw [zbT];walk_at "d";exact hk' _
       walk_at "d";refine⟨by simp; omega,?_⟩;rw [zls ho]
       walk_at "n"
       refine zca (ps:=ps) (os:=os) (ks:=znc os b) ho (zjc ho hb) h8 ?_;walk_at "d"
       walk_at "n"
       rw [show zbn (chosen ps os (znc os b))=.tuple ((nrB ps os b).map zdL) from rfl];have nl:(nrB ps os b).length=ps.length:=zai
       walk_at "n"
       cases s with
       | tuple xs =>
        walk_at "d";by_cases hxl:xs.length=(nrB ps os b).length
        ·rw [if_neg (by omega)];rw [zc4,decide_eq_true hxl,Bool.true_and] at q;have ez:zi1 xs ((nrB ps os b).map zdL)=(xs.zip (nrB ps os b)).map fun q=>.tuple [q.1,zdL q.2]:=by
          have:=zco (fun d:PyData=>d) zdL xs (nrB ps os b)
          rwa [map_id'] at this
         walk_at "n";rw [ez];refine zav (fun i δ S=>∃ (u9 u10:Option XV),S=[]/\(∀ p∈(xs.zip (nrB ps os b)).take i,inP p.2 p.1=true)/\δ=[some (.d (zbn ps)),some (.d (.tuple (gs.map zhT))),some (.d (.tuple (os.map zfp))),some (.d (.int price)),some (.d (.tuple ((kN b).map fun k:Nat=>PyData.int (k:Int)))),some (.d (.tuple [.str z,.int k,.tuple xs])),some (.d (zhw (znc os b))),some (.d (.tuple ((nrB ps os b).map zdL))),some (.d (.tuple xs)),u9,u10,none,none]) ⟨_,_,rfl,by simp,rfl⟩ ?_ ?_
         ·rintro i d _ _ N hi ⟨u9,u10,rfl,ha,rfl⟩ hN;obtain⟨⟨d1,p1⟩,ht,rfl⟩:=zbs hi;have no:inP p1 d1=false->R (.d (.bool false)) []:=fun hf=>by
           have:((xs.zip (nrB ps os b)).map fun q=>inP q.2 q.1).all id=false:=by
            rw [List.all_eq_false];exact⟨_,mem_map_of_mem (mem_of_getElem? ht),by simp [hf]⟩
           rw [this] at q;exact q
          have yes:inP p1 d1=true->∀ p∈(xs.zip (nrB ps os b)).take (i+1),inP p.2 p.1=true:=fun hf p mp=>by
           rw [take_add_one,ht] at mp;rcases mem_append.mp mp with mp | mp
           ·exact ha p mp
           ·have:p=(d1,p1):=by simpa using mp
            rw [this];exact hf
          rw [zfq];walk_at "d";refine zdt ?_;cases d1 with
          | int x =>
           have e0:inP p1 (.int x)=decide (p1.2.1<=x/\x<=p1.2.2):=rfl;rw [e0] at no yes;simp only [zbv];walk_at "d";by_cases h1:x<p1.2.1
           ·rw [if_pos h1];exact no (decide_eq_false (by omega))
           ·rw [if_neg h1];by_cases h2:p1.2.2<x
            ·rw [if_pos h2];exact no (decide_eq_false (by omega))
            ·rw [if_neg h2];exact hN _ _ ⟨_,_,rfl,yes (decide_eq_true (by omega)),rfl⟩
          | none=>(simp only [zbv]; walk_at "d"; exact no rfl)
          | bool b=>(simp only [zbv]; walk_at "d"; exact no rfl)
          | str b=>(simp only [zbv]; walk_at "d"; exact no rfl)
          | list b=>(simp only [zbv]; walk_at "d"; exact no rfl)
          | dict b=>(simp only [zbv]; walk_at "d"; exact no rfl)
          | tuple b=>(simp only [zbv]; walk_at "d"; exact no rfl)
         ·rintro _ _ ⟨u9,u10,rfl,ha,rfl⟩;rw [length_map,take_length] at ha;have hall:((xs.zip (nrB ps os b)).map fun q=>inP q.2 q.1).all id=true:=by
           rw [all_eq_true];intro y my;obtain⟨p,mp,rfl⟩:=mem_map.mp my;exact ha p mp
          obtain⟨one,rfl,hbx⟩:=ziJ.mp ⟨hxl,hall⟩;rw [hall,Bool.true_and,show PyData.tuple (one.map PyData.int)=zaG one from rfl,zeG] at q;have h3:Tm3 one.length (zkD gs k).ts:=by rw [hbx.len,nl]; exact(hg _ m3).tm3 h8
          walk_at "n"
          walk_at "n"
          refine⟨_,e3,?_⟩;rw [zce,znb]
          walk_at "n"
          refine cmp2 (S0:=[]) (fun t:Term=>.int (t.2*one.getD t.1 0)) rfl (zkD gs k).ts (by have:=h3.len; omega) ?_ ?_
          ·intro t mt u v acc R' hk';obtain⟨t1,t2,t3⟩:=h3.ok t mt;rw [zky];walk_at "d";refine⟨_,za5 (f:=PyData.int) (zhn t1),?_⟩;walk_at "d";exact⟨zd1 (by omega) (by omega),hk' _ _⟩
          walk_at "d";refine⟨(zkD gs k).ts.map fun t=>t.2*one.getD t.1 0,by rw [map_map]; rfl,?_⟩;rw [show ((zkD gs k).ts.map fun t=>t.2*one.getD t.1 0).sum=worth (zkD gs k).ts one from rfl];unfold zbo at q;by_cases h1:worth (zkD gs k).ts one<(zkD gs k).lo
          ·rw [if_pos h1];rw [decide_eq_false (by omega)] at q;exact q
          ·rw [if_neg h1];refine Rb' q ?_;rw [<- decide_not];simp only [decide_eq_decide];omega
        ·rw [if_pos (by omega)];rw [zc4,decide_eq_false hxl] at q;exact q
       | none=>(walk_at "d"; exact q)
       | bool b=>(walk_at "d"; exact q)
       | int b=>(walk_at "d"; exact q)
       | str b=>(walk_at "d"; exact q)
       | list b=>(walk_at "d"; exact q)
       | dict b=>(walk_at "d"; exact q)
      ·rw [decide_eq_false hk2] at q;rw [if_pos (by simpa using hk2)];exact q
     | none=>(walk_at "d"; exact q)
     | bool b=>(walk_at "d"; exact q)
     | str b=>(walk_at "d"; exact q)
     | list b=>(walk_at "d"; exact q)
     | dict b=>(walk_at "d"; exact q)
     | tuple b=>(walk_at "d"; exact q)
    ·rw [decide_eq_false hz];exact fal rfl (decide_eq_false hz)
   | none=>exact fal rfl rfl
   | bool b=>exact fal rfl rfl
   | int b=>exact fal rfl rfl
   | list b=>exact fal rfl rfl
   | dict b=>exact fal rfl rfl
   | tuple b=>exact fal rfl rfl
 | none=>(walk_at "d"; exact q)
 | bool b=>(walk_at "d"; exact q)
 | int b=>(walk_at "d"; exact q)
 | str b=>(walk_at "d"; exact q)
 | list b=>(walk_at "d"; exact q)
 | dict b=>(walk_at "d"; exact q)
theorem zpY{a b:List Int}(h:a.map (Sum.inl:Int->Key)=b.map Sum.inl):a=b:=(List.map_inj_right fun _ _ e=>Sum.inl.inj e).mp h
def Cnt(B:List (List Int))(m:List (List Key×PyData)):Prop:=∀ b:List Int,(lkA m (b.map Sum.inl)).getD (.int 0)=.int ((B.filter fun c=>decide (c=b)).length:Nat)
theorem zi8{B:List (List Int)}{m:List (List Key×PyData)}{z:List Int}(hc:Cnt B m)(hz:z.length<=100)(q:R (.d (.int (zsN B z:Nat))) []):zcS [.d (zaG z),.d (.dict (DD.pairs (.t m)))] [] R:=by
 unfold zcS zaG;walk_at "d";have ei:zhj 0 ((z.length:Int)+1).toNat=(List.range (z.length+1)).map fun k:Nat=>PyData.int (0+(k:Int)):=by
  rw [show ((z.length:Int)+1).toNat=z.length+1 by omega];simp [zhj]
 rw [ei];refine cmp1 (S0:=[]) (fun k:Nat=>.int (((B.filter fun c=>decide (c=z.take k)).length:Nat):Int)) rfl (List.range (z.length+1)) (by simp; omega) ?_ ?_
 ·intro k mk u acc R' hk';have:=hk' (some (.d (.int (0+(k:Int)))));rw [Int.zero_add] at this ⊢;walk_at "d";rw [zir,<- map_take];refine⟨m,rfl,(z.take k).map Sum.inl,zi7 (z.take k),?_⟩;rw [hc];exact this
 ·walk_at "d";refine⟨(List.range (z.length+1)).map fun k=>(((B.filter fun c=>decide (c=z.take k)).length:Nat):Int),by rw [map_map]; rfl,?_⟩;have e:((List.range (z.length+1)).map fun k=>(((B.filter fun c=>decide (c=z.take k)).length:Nat):Int)).sum=((zsN B z:Nat):Int):=by
   rw [<- zmN];generalize List.range (z.length+1)=l;induction l with
   | nil=>rfl
   | cons x l ih =>
    rw [map_cons,map_cons,sum_cons,sum_cons,ih];omega
  rw [e];exact q
theorem zqU:∀ A B:List (List Int),PyData.eqv (.list (A.map zaG)) (.list (B.map zaG))=decide (A=B):=by
 intro A B;show PyData.eqvAll (A.map zaG) (B.map zaG)=_;induction A generalizing B with
 | nil =>
  cases B with
  | nil=>rfl
  | cons y B=>rfl
 | cons x A ih =>
  cases B with
  | nil=>rfl
  | cons y B =>
   rw [map_cons,map_cons];show (PyData.eqv (zaG x) (zaG y) && PyData.eqvAll (A.map zaG) (B.map zaG))=_;rw [ih,znH,<- Bool.decide_and];simp only [decide_eq_decide,List.cons.injEq]
end
end
section
variable {R:RX} {S:Sto} {EX:EXD}
theorem znz{Q:Nat->Prop}(h:∃ k,Q k):∃ k,Q k/\∀ j,j<k->¬ Q j:=by
 obtain⟨k,hk⟩:=h;induction k using Nat.strongRecOn with
 | ind k ih =>
  by_cases hj:∃ j,j<k/\Q j
  ·obtain⟨j,jk,hq⟩:=hj;exact ih j jk hq
  ·exact⟨k,hk,fun j jk hq=>hj ⟨j,jk,hq⟩⟩
theorem zkr:∀ (ps:List Part) (P:List Int->Prop),(∃ ms,InBox ps ms/\P ms)->∃ ms,InBox ps ms/\P ms/\∀ ms',InBox ps ms'->P ms'->HT.lexLt ms' ms=false
 | [],P,⟨ms,h,hp⟩=>⟨ms,h,hp,fun ms' h' _=>by rw [zeM.mp h,zeM.mp h']; rfl⟩
 | p :: ps,P,h=>by
  obtain⟨ms,hb,hp⟩:=h;obtain⟨x,t,rfl,x1,x2,ht⟩:=zcr.mp hb;obtain⟨k,⟨t0,k2,ht0,hp0⟩,hmin⟩:=znz (Q:=fun k=>∃ t,p.2.1+(k:Int)<=p.2.2/\InBox ps t/\P ((p.2.1+k) :: t)) ⟨(x - p.2.1).toNat,t,by omega,ht,by rw [show p.2.1+((x - p.2.1).toNat:Int)=x by omega]; exact hp⟩;obtain⟨t1,h1,hp1,hm1⟩:=zkr ps (fun t=>P ((p.2.1+k) :: t)) ⟨t0,ht0,hp0⟩;refine⟨_,zcr.mpr ⟨_,t1,rfl,by omega,k2,h1⟩,hp1,fun ms' hb' hp'=>?_⟩;obtain⟨x',t',rfl,x1',x2',ht'⟩:=zcr.mp hb';cases hh:HT.lexLt (x' :: t') ((p.2.1+k) :: t1) with
  | false=>rfl
  | true =>
   rcases(zdy _ _ _ _).mp hh with hlt | ⟨he,hl⟩
   ·exact absurd ⟨t',by omega,ht',by rw [show p.2.1+((x' - p.2.1).toNat:Int)=x' by omega]; exact hp'⟩ (hmin (x' - p.2.1).toNat (by omega))
   ·subst he;rw [hm1 t' ht' hp'] at hl;cases hl
structure IsCtr(ps:List Part)(gs:List Gap)(x:List Int×Nat):Prop where
 bx:InBox ps x.1
 gp:∃ g,gs[x.2]? = some g/\zbo g x.1=false
 fr:∀ (m:Nat) g',m<x.2->gs[m]? = some g'->zbo g' x.1=true
 mn:∀ ms,InBox ps ms->BrkS gs ms->HT.lexLt ms x.1=false
section
variable {ps:List Part} {os:List (List Off)} {gs:List Gap} {price:Int} {b:List Int}
theorem zjh{x:List Int×Nat}(h:IsCtr ps gs x):BrkS gs x.1:=by
 obtain⟨g,e,k⟩:=h.gp;exact⟨g,mem_of_getElem? e,k⟩
theorem zqY{x y:List Int×Nat}(h:IsCtr ps gs x)(k:IsCtr ps gs y):x=y:=by
 have e1:x.1=y.1:=by
  by_cases e:x.1=y.1
  ·exact e
  ·have:=znv (k.mn _ h.bx (zjh h) |> fun _=>h.mn _ k.bx (zjh k)) e;rw [k.mn _ h.bx (zjh h)] at this;cases this
 have e2:x.2=y.2:=by
  obtain⟨g,e,kg⟩:=h.gp;obtain⟨g',e',kg'⟩:=k.gp;rcases Nat.lt_trichotomy x.2 y.2 with hlt | he | hlt
  ·have:=k.fr _ g hlt e;rw [<- e1,kg] at this;cases this
  ·exact he
  ·have:=h.fr _ g' hlt e';rw [e1,kg'] at this;cases this
 exact Prod.ext e1 e2
theorem ztz(h:∃ ms,InBox ps ms/\BrkS gs ms):∃ x,IsCtr ps gs x:=by
 obtain⟨ms,hb,hk,hm⟩:=zkr ps (BrkS gs) h;obtain⟨g,mg,kg⟩:=hk;obtain⟨j,ej,hj⟩:=zeB (gs.map fun g=>zbo g ms) (mem_map.mpr ⟨g,mg,kg⟩);rw [getElem?_map] at ej;obtain⟨g1,e1,k1⟩:=map_eq_some_iff.mp ej;refine⟨(ms,j),hb,⟨g1,e1,k1⟩,fun m g' hm' e'=>?_,hm⟩;have:=hj m hm';rw [getElem?_map,e'] at this;exact Option.some.inj this
noncomputable def zsp (ps:List Part) (gs:List Gap):Option (List Int×Nat):=@dite _ (∃ x,IsCtr ps gs x) (Classical.propDecidable _) (fun h=>some (Classical.choose h)) fun _=>none
theorem zhk{x:List Int×Nat}(h:IsCtr ps gs x):zsp ps gs=some x:=by
 unfold zsp;rw [dif_pos ⟨x,h⟩];congr 1;exact zqY (Classical.choose_spec (p:=fun x=>IsCtr ps gs x) ⟨x,h⟩) h
theorem zj5(h:∀ ms,InBox ps ms->¬ BrkS gs ms):zsp ps gs=none:=by
 unfold zsp;rw [dif_neg];rintro⟨x,hx⟩;exact h x.1 hx.bx (zjh hx)
theorem ztr{x:List Int×Nat}(h:zsp ps gs=some x):IsCtr ps gs x:=by
 by_cases hx:∃ x,IsCtr ps gs x
 ·obtain⟨y,hy⟩:=hx;rw [zhk hy] at h;cases h;exact hy
 ·unfold zsp at h;rw [dif_neg hx] at h;cases h
end
noncomputable def wfF (ps:List Part) (gs:List Gap) (os:List (List Off)) (price:Int) (b:List Int):Option PyData :=
 if price<=pcO os (kN b) then some (.tuple [.str "dear"]) else (zsp (nrB ps os b) gs).map fun x=>.tuple [.str "breaks",.int x.2,zaG x.1]
section
variable {ps:List Part} {os:List (List Off)} {gs:List Gap} {price:Int} {b:List Int}
theorem zqB{w:PyData}(h:wfF ps gs os price b=some w):WT w/\w≠.none/\fwB ps gs os price b w=true:=by
 unfold wfF at h;split at h
 ·rename_i hp;cases h;refine⟨zvb (.inl rfl),by simp,?_⟩;rw [fwD rfl];exact decide_eq_true hp
 ·obtain⟨x,ex,rfl⟩:=map_eq_some_iff.mp h;have hx:=ztr ex;obtain⟨g,eg,kg⟩:=hx.gp;have xl:x.2<gs.length:=(List.getElem?_eq_some_iff.mp eg).1;have ek:zkD gs (x.2:Int)=g:=by
   unfold zkD;rw [Int.toNat_natCast,getD_eq_getElem?_getD,eg];rfl
  refine⟨?_,by simp,?_⟩
  ·have hs:∀ d∈[PyData.str "breaks",.int x.2,zaG x.1],Shp 1 d:=fun d m=>by
    simp only [mem_cons,not_mem_nil,or_false] at m;rcases m with rfl | rfl | rfl
    ·exact⟨by decide +kernel,by decide +kernel⟩
    ·exact zeJ
    ·exact zho _
   exact⟨(zfF hs).ok,fun ds e d m=>by cases e; exact(hs d m).ok⟩
  ·have e1:fwB ps gs os price b (.tuple [.str "breaks",.int x.2,zaG x.1])=zvc ps gs os b (.int x.2) (zaG x.1):=rfl;rw [e1,ziB,decide_eq_true ⟨by omega,by omega⟩,zhO.mpr ⟨x.1,rfl,hx.bx⟩,zeG,ek,kg];rfl
theorem zk5(ho:Offs ps os)(h8:ps.length<=8)(gl:gs.length<=100)(hg:∀ g∈gs,Tms ps.length g.ts)(hb:Bgn (szO os) b)(q:R (.d (whD (wfF ps gs os price b))) []):zfj [.d (.tuple [zbn ps,zb5 gs]),.d (zaN os),.d (.int price),.d (zaG b)] [] R:=by
 unfold zfj;walk_at "d";walk_at "n";refine zf5 ho h8 hb ?_;walk_at "d";unfold wfF at q;by_cases hp:price<=pcO os (kN b)
 ·rw [if_pos hp] at q ⊢;walk_at "d";exact q
 ·rw [if_neg hp] at q ⊢
  walk_at "n"
  refine zeW ho h8 hb ?_;walk_at "d";have nl:(nrB ps os b).length=ps.length:=zhd;refine zmV (ps:=nrB ps os b) (gs:=gs) (zc9 ho (zjc ho hb)) (by omega) gl (by rw [nl]; exact hg) (fun hno=>?_) fun one j g h1 h2 h3 h4 h5=>?_
  ·rw [zj5 hno] at q;walk_at "d";exact q
  ·rw [zhk (x:=(one,j)) ⟨h1,⟨g,h2,h3⟩,h4,h5⟩] at q;walk_at "d";exact q
theorem zf2(ho:Offs ps os)(h8:ps.length<=8)(hf:zar (szO os)<=300)(gl:gs.length<=100)(hg:∀ g∈gs,Tms ps.length g.ts)(q0:rwF (wfF ps gs os price) (szO os) []=none->R (.d .none) [])(q:∀ rows,rwF (wfF ps gs os price) (szO os) []=some rows->R (.d (.list (rows.map ziq))) []\/R (.l 0) [rows.map ziq]):zc1 [.d (.tuple [zbn ps,zb5 gs]),.d (zaN os),.d (.int price)] [] R:=by
 have hl:=ho.len;obtain⟨hz,h1⟩:=znr ho h8;unfold zc1;walk_at "d"
 walk_at "n"
 refine zeE (by omega) ?_;rw [zlN];walk_at "d"
 walk_at "n"
 refine zna hz hf ?_;walk_at "d";refine⟨_,[.tuple [zbn ps,zb5 gs],zaN os,.int price],rfl,rfl,?_,fun F=>?_⟩
 ·simp only [ImL,ztG,zli,zpP,zoU,zto,Bool.and_self]
 ·refine zeT (wf:=wfF ps gs os price) hz h1 hf (fun b w e=>(zqB e).2.1) (fun b hb R' hR=>?_) (fun e=>?_) fun rows e=>?_
  ·walk_at "d";exact zk5 ho h8 gl hg hb hR
  ·walk_at "d";exact q0 e
  ·rcases q rows e with hq | hq
   ·refine .inl ?_;walk_at "d";exact hq
   ·refine .inr ?_;walk_at "d";exact .inr hq
theorem zjt:∀ {sz:List Nat} {z:List Int} (j:Nat),Bgn sz z->Bgn sz (z.take j)
 | sz,z,0,_=>by rw [take_zero]; cases sz <;> trivial
 | sz,[],j+1,_=>by rw [List.take_nil]; cases sz <;> trivial
 | [],x :: z,j+1,h=>by cases h
 | s :: sz,x :: z,j+1,h=>by
  rw [List.take_succ_cons];exact⟨h.1,zjt j h.2⟩
theorem zmU{rows:List Rwp}(hl:rows.length<=900)(hr:rwF (wfF ps gs os price) (szO os) []=some rows):zlP ps gs os price (.list (rows.map ziq))=true/\ThB (.list (rows.map ziq)):=by
 have mem:=zgD hr;have bg:∀ p∈rows,Bgn (szO os) p.1:=fun p m=>by
  obtain⟨_,z,e,hz⟩:=mem p m;rw [e];exact hz
 constructor
 ·rw [zgU,zlQ,Bool.and_eq_true,Bool.and_eq_true];have e1:(rows.map ziq).map fs1=rows.map fun p=>zaG p.1:=by rw [map_map]; rfl
  have e2:(rows.map fun p=>zaG p.1).map bgO=rows.map (·.1):=by
   rw [map_map];exact map_congr_left fun p _=>zeG p.1
  refine⟨⟨?_,?_⟩,?_⟩
  ·rw [all_map,all_eq_true];intro p _;rfl
  ·rw [e1];unfold zsJ;rw [e2,Bool.and_eq_true,Bool.and_eq_true];have ad:zjj (rows.map (·.1))=true:=zll (pairwise_map.mpr (zoE hr));refine⟨?_,ad,?_⟩
   ·rw [all_map,all_eq_true];intro p m;exact zkL.mpr ⟨p.1,rfl,bg p m⟩
   ·rw [decide_eq_true_eq];refine(zeL (fun b m=>?_) ad).mpr fun z hz=>?_
    ·obtain⟨p,mp,rfl⟩:=mem_map.mp m;exact bg p mp
    ·obtain⟨p,mp,hp⟩:=zg4 hr z hz;exact⟨p.1,mem_map_of_mem mp,by simpa using hp⟩
  ·rw [all_map,all_eq_true];intro p m;show fwB ps gs os price (bgO (zaG p.1)) p.2=true;rw [zeG];exact(zqB (mem p m).1).2.2
 ·refine zqu (by simpa using hl) fun r m=>?_;obtain⟨p,mp,rfl⟩:=mem_map.mp m;exact zva (zqB (mem p mp).1).1
theorem zeK:∀ (l:List Int) (j:Nat),(∀ x∈l,0<=x)->(l.take j).sum<=l.sum
 | [],j,_=>by simp
 | x :: l,0,h=>by
  have:=zeK l 0 fun y m=>h y (mem_cons_of_mem _ m);have:=h x mem_cons_self;simp only [take_zero,List.sum_nil,sum_cons] at *;omega
 | x :: l,j+1,h=>by
  have:=zeK l j fun y m=>h y (mem_cons_of_mem _ m);simp only [List.take_succ_cons,sum_cons];omega
theorem zqd(hp:∀ l∈os,∀ o∈l,0<=o.2.2)(z:List Int)(j:Nat):pcO os (kN (z.take j))<=pcO os (kN z):=by
 unfold pcO;rw [show kN (z.take j)=(kN z).take j from map_take,zrq,map_take];refine zeK _ j fun x m=>?_;obtain⟨⟨l,k⟩,mq,rfl⟩:=mem_map.mp m;have ml:=(of_mem_zip mq).1;show 0<=(l.getD k (0,0,0)).2.2;rw [getD_eq_getElem?_getD];cases e:l[k]? with
 | none=>exact Int.le_refl _
 | some o=>exact hp l ml o (mem_of_getElem? e)
theorem zl2{z:List Int}(h:z.length=os.length):znc os z=kN z:=by
 unfold znc;rw [h,drop_length];simp
theorem zq0(h:OC ps os)(hp:∀ l∈os,∀ o∈l,0<=o.2.2)(hg:∀ g∈gs,Tms ps.length g.ts){z:List Int}(hz:z∈zgb ps os gs)(hpr:pcO os (kN z)<price)(j:Nat):wfF ps gs os price (z.take j)=none:=by
 have hl:=h.len;have h8:=h.h8;obtain⟨mz,sz⟩:=mem_filter.mp hz;have hc:=(zk1 mz).1;have hb:Bgn (szO os) (z.take j):=by
  have:=(zdO.mp mz).2;exact zjt j this
 have zl:z.length=os.length:=by have:=(zdO.mp mz).1; simpa [szO] using this
 unfold wfF;rw [if_neg (by have:=zqd hp z j; omega)];have ck:=zjc h.toOffs hb;have su:ze5 (nrB ps os (z.take j)) gs=true:=by
  refine zsU h hg hc ck (fun i hi=>?_) sz;unfold znc;rw [length_take,zl];by_cases hij:i<j
  ·rw [getD_eq_getElem?_getD (l:=kN (z.take j)++_),getElem?_append_left (by simp [kN]; omega)];rw [show kN (z.take j)=(kN z).take j from map_take,List.getElem?_take,if_pos hij,<- getD_eq_getElem?_getD];exact le_refl _
  ·have:=hc.ok i hi;rw [getD_eq_getElem?_getD (l:=kN (z.take j)++_),getElem?_append_right (by simp [kN]; omega),getElem?_map,List.getElem?_drop];have e1:min j os.length+(i - (kN (z.take j)).length)=i:=by simp [kN]; omega
   rw [e1,zeV hi];show (kN z).getD i 0<=(os.getD i []).length - 1;omega
 rw [zj5]
 ·rfl
 ·have nl:(nrB ps os (z.take j)).length=ps.length:=zhd;exact(zeZ (zc9 h.toOffs ck) (by show (nrB ps os (z.take j)).length<=100; omega) (by show ∀ g∈gs,Tms (nrB ps os (z.take j)).length g.ts; rw [nl]; exact hg)).mp su
theorem zqb(h:OC ps os)(hg:∀ g∈gs,Tms ps.length g.ts){z:List Int}(mz:z∈fil (szO os))(hh:z∈zgb ps os gs->price<=pcO os (kN z)):(wfF ps gs os price z).isSome=true:=by
 have h8:=h.h8;unfold wfF;by_cases hp:price<=pcO os (kN z)
 ·rw [if_pos hp];rfl
 ·rw [if_neg hp,isSome_map];have zl:z.length=os.length:=by have:=(zdO.mp mz).1; simpa [szO] using this
  have ns:¬ ze5 (nrB ps os z) gs=true:=fun su=>hp (hh (mem_filter.mpr ⟨mz,by
   unfold nrB at su;rw [zl2 zl] at su;exact su⟩))
  have hc:=(zk1 mz).1;have nl:(nrB ps os z).length=ps.length:=zhd;have ex:∃ ms,InBox (nrB ps os z) ms/\BrkS gs ms:=by
   refine Classical.byContradiction fun no=>ns ?_;refine(zeZ (by unfold nrB; rw [zl2 zl]; exact zc9 h.toOffs hc) (by omega) (by rw [nl]; exact hg)).mpr fun ms hb hk=>no ⟨ms,hb,hk⟩
  obtain⟨x,hx⟩:=ztz ex;rw [zhk hx];rfl
theorem ztc:∀ {B:List (List Int)},B.Pairwise Free->2<=B.length->∀ b∈B,b≠[]
 | x :: y :: r,h,_,b,mb,e=>by
  subst e;rcases mem_cons.mp mb with e | m
  ·subst e;exact((pairwise_cons.mp h).1 y mem_cons_self).1 (List.nil_prefix)
  ·exact((pairwise_cons.mp h).1 [] m).2 (List.nil_prefix)
 | [],_,h,_,_,_=>by simp at h
 | [_],_,h,_,_,_=>by simp at h
theorem ziI{rows:List Rwp}(ho:OC ps os)(hg:∀ g∈gs,Tms ps.length g.ts)(hl:rows.length<=900)(hr:rwF (wfF ps gs os price) (szO os) []=some rows)(q:R (.d (.bool true)) []):
  zb4 [.d (zbn ps),.d (zb5 gs),.d (zaN os),.d (.int price),.d (.list (rows.map ziq))] [] R:=by
 have h8:=ho.h8;have hl0:=ho.len;have few:=ho.few;have mem:=zgD hr;have bg:∀ p∈rows,Bgn (szO os) p.1:=fun p m=>by
  obtain⟨_,z,e,hz⟩:=mem p m;rw [e];exact hz
 have ad:zjj (rows.map (·.1))=true:=zll (pairwise_map.mpr (zoE hr));have hB:∀ b∈rows.map (·.1),Bgn (szO os) b:=fun b m=>by
  obtain⟨p,mp,rfl⟩:=mem_map.mp m;exact bg p mp
 have hbeh:zrL (szO os) (rows.map (·.1))=zar (szO os):=(zeL hB ad).mpr fun z hz=>by
  obtain⟨p,mp,hp⟩:=zg4 hr z hz;exact⟨p.1,mem_map_of_mem mp,by simpa using hp⟩
 obtain⟨hpw,hcn⟩:=(ztp ho.sz.2 hB).mp ⟨ad,hbeh⟩;have hne:=ztc (zgm ad);unfold zb4;walk_at "d"
 walk_at "n"
 walk_at "n"
 refine zav (fun i δ S=>∃ (u5 u6 u7:Option XV),S=[]/\δ=[some (.d (zbn ps)),some (.d (zb5 gs)),some (.d (zaN os)),some (.d (.int price)),some (.d (.list (rows.map ziq))),u5,u6,u7,none,none,none]) ⟨none,none,none,rfl,rfl⟩ ?_ ?_
 ·rintro i d _ _ N hi ⟨u5,u6,u7,rfl,rfl⟩ hN;obtain⟨p,ep,rfl⟩:=zbs hi;have mp:=mem_of_getElem? ep;have hbp:=bg p mp;obtain⟨wt,_,fw⟩:=zqB (mem p mp).1;have bl:p.1.length<=os.length:=(zfI hbp).2.2.1;rw [show ziq p=.tuple [zaG p.1,p.2] from rfl];unfold zaN zaG;walk_at "d"
  walk_at "n"
  rw [if_neg (by omega)];walk_at "n";rw [zco];refine zav (fun i δ S=>∃ (u6 u7:Option XV),S=[]/\δ=[some (.d (zbn ps)),some (.d (zb5 gs)),some (.d (.tuple (os.map zfp))),some (.d (.int price)),some (.d (.list (rows.map ziq))),some (.d (.tuple [.tuple (p.1.map PyData.int),p.2])),u6,u7,none,none,none]) ⟨_,_,rfl,rfl⟩ ?_ ?_
  ·rintro i2 d _ _ N2 hi2 ⟨u6,u7,rfl,rfl⟩ hN2;obtain⟨⟨x,l1⟩,ht,rfl⟩:=zbs hi2;rw [getElem?_zip_eq_some] at ht;have hx:=znw hbp ht.1 (s:=l1.length) (by unfold szO; rw [getElem?_map,ht.2]; rfl);rw [zbT];walk_at "d";refine zdt ?_;simp only [zbv];walk_at "d";rw [if_neg (by simpa using hx)];exact hN2 _ _ ⟨_,_,rfl,rfl⟩
  ·rintro _ _ ⟨u6,u7,rfl,rfl⟩;walk_at "d";refine zjB (os:=os) (b:=p.1) ho.toOffs h8 hg hbp wt ?_;rw [fw];walk_at "d";exact hN _ _ ⟨_,_,_,rfl,rfl⟩
 ·rintro _ _ ⟨u5,u6,u7,rfl,rfl⟩
  walk_at "n"
  walk_at "n"
  refine cmp1 (S0:=[]) (fun p:Rwp=>zaG p.1) rfl rows (by omega) ?_ ?_
  ·intro x mx u acc R' hk;rw [show ziq x=.tuple [zaG x.1,x.2] from rfl];walk_at "d";exact hk _
  walk_at "d";have e2:rows.map (fun p=>zaG p.1)=(rows.map (·.1)).map zaG:=by rw [map_map]; rfl
  rw [e2];have hBl:(rows.map (·.1)).length<=900:=by simpa using hl
  generalize rows.map (·.1)=B at hB hpw hcn hne hBl;walk_at "n";have shB:SeqAt.shaped (.list (B.map zaG))=true:=(zfd (n:=1) (zhc fun b _=>zho b)).ok;refine⟨B,rfl,by omega,hne,hpw,shB,shB,?_⟩;rw [show B.map zlK=B.map zaG from rfl,zqU,if_neg (by simp)];refine seq1 ?_;unfold ztv zmn;walk_at "d";intro a _;refine zie (fun i δ S M=>∃ (m:List (List Key×PyData)) (u:Option XV),S=[]/\M=[(a,.t m)]/\m.length<=i/\Cnt (B.take i) m/\δ=[some (.d (zbn ps)),some (.d (zb5 gs)),some (.d (zaN os)),some (.d (.int price)),some (.d (.list (rows.map ziq))),u5,u6,u7,some (.d (.list (B.map zaG))),some (.o (.ref a)),u]) ⟨[],none,rfl,rfl,le_refl _,fun b=>rfl,rfl⟩ ?_ ?_
  ·rintro i d _ _ _ N hi ⟨m,u,rfl,rfl,hm,hk,rfl⟩ hN;obtain⟨b,eb,rfl⟩:=zbs hi;have il:i<B.length:=(List.getElem?_eq_some_iff.mp eb).1;walk_at "d";refine⟨.t m,.inl ⟨a,rfl,by simp⟩,lkA m (b.map Sum.inl),by show (znu (zaG b)).map _=_; rw [zi7]; rfl,?_⟩;rw [hk b];walk_at "d";have pl:=zuO (m:=m) (k:=b.map Sum.inl) (v:=.int ((((B.take i).filter fun c=>decide (c=b)).length:Nat)+1));refine⟨a,rfl,.t m,.t (ptA m (b.map Sum.inl) (.int ((((B.take i).filter fun c=>decide (c=b)).length:Nat)+1))),by simp,by show (znu (zaG b)).map _=_; rw [zi7]; rfl,by show m.length<1000; omega,?_⟩;refine hN _ _ _ ⟨ptA m (b.map Sum.inl) (.int ((((B.take i).filter fun c=>decide (c=b)).length:Nat)+1)),_,rfl,by simp [zsm],by omega,fun c=>?_,rfl⟩;rw [zve,take_add_one,eb,List.filter_append,length_append];by_cases ebc:b=c
   ·subst ebc;rw [if_pos rfl];simp
   ·rw [if_neg fun z=>ebc (zpY z),hk c];simp [ebc]
  ·rintro _ _ _ ⟨m,u,rfl,rfl,hm,hk,rfl⟩;rw [length_map] at hm hk;rw [take_length] at hk;walk_at "d";refine⟨[],m,rfl,?_⟩;simp only [zol,if_true];walk_at "d";refine zer ho ?_;walk_at "d";refine cmp1 (S0:=[]) (fun z:List Int=>.bool true) rfl (fil (szO os)) (by rw [zfz]; omega) ?_ ?_
   ·intro z mz v acc R' hk';have zl:=(zdO.mp mz).1;walk_at "d";refine zi8 hk (by rw [zl]; simp [szO]; omega) ?_;rw [hcn z mz];walk_at "d";exact hk' _
   walk_at "d";refine⟨(fil (szO os)).map fun z=>true,by rw [map_map]; rfl,?_⟩;refine Rb' q ?_
   symm
   rw [all_map,all_eq_true];intro z _;rfl
theorem zsC(h:OC ps os)(hg:∀ g∈gs,Tms ps.length g.ts)(e:rwF (wfF ps gs os price) (szO os) []=none):∃ z∈zgb ps os gs,pcO os (kN z)<price:=by
 refine Classical.byContradiction fun no=>?_;have:=zlE (wf:=wfF ps gs os price) (r:=szO os) (b:=[]) fun z mz=>by
  rw [nil_append];exact zqb h hg mz fun hz=>Int.not_lt.mp fun hlt=>no ⟨z,hz,hlt⟩
 rw [e] at this;cases this
theorem zsM{rows:List Rwp}(h:OC ps os)(hp:∀ l∈os,∀ o∈l,0<=o.2.2)(hg:∀ g∈gs,Tms ps.length g.ts)(e:rwF (wfF ps gs os price) (szO os) []=some rows):∀ z∈zgb ps os gs,price<=pcO os (kN z):=fun z hz=>by
 refine Int.not_lt.mp fun hlt=>?_;have:=zmh (wf:=wfF ps gs os price) (r:=szO os) (b:=[]) (z:=z) (mem_filter.mp hz).1 fun j=>by
  rw [nil_append];exact zq0 h hp hg hz hlt j
 rw [e] at this;cases this
def IsLst(ps:List Part)(os:List (List Off))(gs:List Gap):Option Int->Prop
 | none=>zgb ps os gs=[]
 | some m=>(∃ z∈zgb ps os gs,pcO os (kN z)=m)/\∀ z∈zgb ps os gs,m<=pcO os (kN z)
def lsD:Option Int->PyData
 | none=>.none
 | some m=>.int m
theorem zkw(h:OC ps os)(hg:∀ g∈gs,Tms ps.length g.ts)(q:∀ o,IsLst ps os gs o->R (.d (lsD o)) []):zb2 [.d (zbn ps),.d (zb5 gs),.d (zaN os)] [] R:=by
 have h8:=h.h8;have few:=h.few;unfold zb2;walk_at "n";refine zer h ?_;walk_at "d";refine cmf1 (S0:=[]) (h:=zaG) (fun ks:List Int=>.int (pcO os (kN ks))) (fun ks=>ze5 (chosen ps os (kN ks)) gs) rfl (fil (szO os)) (by rw [zfz]; omega) ?_ ?_
 ·intro ks mk u acc R' hk';obtain⟨hc,e⟩:=zk1 mk;walk_at "d";rw [e,zqM];refine zhz h.toOffs hc h8 hg ?_;walk_at "d";refine hk' _ fun _ T hT=>?_;walk_at "d";refine ziY h.toOffs hc h8 ?_;walk_at "d";exact hT
 walk_at "d";refine⟨(zfd (n:=0) (zhc fun z m=>zeJ)).ok,rfl,?_⟩;rw [show (fil (szO os)).filter (fun ks=>ze5 (chosen ps os (kN ks)) gs)=zgb ps os gs from rfl,zoQ];by_cases hn:zgb ps os gs=[]
 ·rw [hn];exact q none hn
 ·have hm:List.map (fun z=>PyData.int (pcO os (kN z))) (zgb ps os gs)≠[]:=fun h=>hn (List.map_eq_nil_iff.mp h);rw [decide_eq_false hm,if_neg dz];refine .inl ⟨_,rfl,(zgb ps os gs).map fun z=>pcO os (kN z),by rw [map_map]; rfl,?_,fun m h1 h2=>?_⟩
  ·intro h;exact hn (List.map_eq_nil_iff.mp h)
  ·refine q (some m) ⟨?_,fun z mz=>h2 _ (mem_map_of_mem (f:=fun z=>pcO os (kN z)) mz)⟩;obtain⟨z,mz,e⟩:=mem_map.mp h1;exact⟨z,mz,e⟩
theorem zi6{o:Option Int}(h:Offs ps os)(h8:ps.length<=8)(q:∀ ns:List Int,ns.length=5->R (.d (.list (ns.map PyData.int))) []):zcQ [.d (zaN os),.d (lsD o)] [] R:=by
 have hl:=h.len;unfold zcQ zaN;walk_at "n";refine cmp1 (S0:=[]) (fun l:List Off=>.int ((l.getLastD (0,0,0)).2.2)) rfl os (by omega) ?_ ?_
 ·intro l ml u acc R' hk;obtain⟨i,hi⟩:=mem_iff_getElem?.mp ml;have l1:=(h.ok i _ l (zbq (by have:=(List.getElem?_eq_some_iff.mp hi).1; omega)) hi).l1;obtain⟨m,x,rfl⟩:=zoC l1;have hk':=hk (some (.d (zfp (m++[x]))));rw [show (m++[x]).getLastD ((0,0,0):Off)=x by simp] at hk';rw [zbT,map_append] at hk' ⊢;walk_at "d";refine⟨_,zlm _ _,?_⟩;rw [zdX];walk_at "d";exact hk'
 walk_at "d";refine⟨os.map fun l=>(l.getLastD (0,0,0)).2.2,by rw [map_map]; rfl,?_⟩;generalize (os.map fun l=>(l.getLastD ((0,0,0):Off)).2.2).sum=last;cases o with
 | none =>
  unfold lsD
  walk_at "n"
  refine⟨⟨by decide,by decide,by decide⟩,?_⟩;exact .inl (q [0,-3,last,last+1,100000000000000000000000000000000000000000000000000000000000] rfl)
 | some m =>
  unfold lsD
  walk_at "n"
  exact .inl (q [0,m,m+1,m - 1,last+1] rfl)
end
theorem zpZ{ps:List Part}{os:List (List Off)}{gs:List Gap}{price:Int}{rows:List Rwp}(hr:rwF (wfF ps gs os price) (szO os) []=some rows):SeqAt.shaped (.list (rows.map ziq))=true:=by
 refine(zfd (n:=3) (zhc fun p m=>?_)).ok;have hw:=(zgD hr p m).1;have h2:Shp 2 p.2:=by
  unfold wfF at hw;split at hw
  ·rw [<- Option.some.inj hw];exact⟨by decide +kernel,by decide +kernel⟩
  ·obtain⟨x,_,e⟩:=map_eq_some_iff.mp hw;rw [<- e];exact zfF fun d md=>by
    simp only [mem_cons,not_mem_nil,or_false] at md;rcases md with rfl | rfl | rfl
    ·exact⟨by decide +kernel,by decide +kernel⟩
    ·exact zeJ
    ·exact zho _
 exact zfF (zs6 (zho _) h2)
theorem zk8(a:Addr)(n:Int):zsY (zw9 a 9) ((some (.o (.ref a)) :: List.replicate 9 none).set 1 (some (.d (.int n)))) []:=by
 unfold zsY;walk_at "d"
 walk_at "n"
 refine ziw fun p hp=>?_;walk_at "d";refine cut (fun δ S=>∃ (ps:List Part) (p:List PyData),Drw ps/\zab p/\S=[p]/\δ=[some (.o (.ref a)),some (.d (.int n)),some (.l 0),some (.d (zbn ps)),none,none,none,none,none,none]) (fun N hN=>?_) ?_
 ·walk_at "d";refine zx hp dz (by decide +kernel) fun r p1 r0 r1 hp1=>?_;walk_at "d";by_cases h0:r=0
  ·rw [if_pos h0];refine zji hp1 dz dz fun ps p2 hd hsz hp2=>?_;walk_at "d";exact hN _ _ ⟨ps,p2,hd,hp2,rfl,rfl⟩
  ·rw [if_neg h0];refine zcg hp1 dz dz fun ps p2 hd hp2=>?_;walk_at "d";exact hN _ _ ⟨ps,p2,hd,hp2,rfl,rfl⟩
 rintro _ _ ⟨ps0,p1,hd0,hp1,rfl,rfl⟩;refine seq1 ?_;unfold zbn;walk_at "d";rw [show (some 4:Option Int)=some ((4:Nat):Int) from rfl,zir,<- map_take];have hd1:=zpU hd0;generalize ps0.take 4=ps1 at hd1;refine cut (fun δ S=>∃ (ps:List Part) (p:List PyData),Drw ps/\zab p/\S=[p]/\δ=[some (.o (.ref a)),some (.d (.int n)),some (.l 0),some (.d (zbn ps)),none,none,none,none,none,none]) (fun N hN=>?_) ?_
 ·walk_at "d";refine zx hp1 dz (by decide +kernel) fun r p2 r0 r1 hp2=>?_;walk_at "d";by_cases h0:r=0
  ·rw [if_pos h0];refine zcg hp2 dz dz fun ps p3 hd hp3=>?_;walk_at "d";exact hN _ _ ⟨ps,p3,hd,hp3,rfl,rfl⟩
  ·rw [if_neg h0];exact hN _ _ ⟨ps1,p2,hd1,hp2,rfl,rfl⟩
 rintro _ _ ⟨ps,p2,hd,hp2,rfl,rfl⟩;have l8:=hd.l8
 walk_at "n"
 refine zmK hp2 hd fun os p3 hoN hp3=>?_;walk_at "d";refine cut (fun δ S=>∃ (os:List (List Off)),OffN ps os/\zar (szO os)<=256/\S=[p3]/\δ=[some (.o (.ref a)),some (.d (.int n)),some (.l 0),some (.d (zbn ps)),some (.d (zaN os)),none,none,none,none,none]) (fun N hN=>?_) ?_
 ·unfold zbn;walk_at "d";have ol:=hoN.len;by_cases h4:4<ps.length
  ·rw [if_pos (by omega)];unfold zaN;walk_at "d";refine cmp1 (S0:=[p3]) (fun l:List Off=>zfp (l.take 2)) rfl os (by omega) ?_ ?_
   ·intro l ml u acc R' hk;rw [zbT];walk_at "d";rw [show (some 2:Option Int)=some ((2:Nat):Int) from rfl,zir,<- map_take];exact hk _
   refine⟨[p3],_,rfl,rfl,hN _ _ ⟨os.map (·.take 2),⟨by simpa using ol,fun i p' l e1 e2=>?_⟩,few2 (by simp [szO]; omega) fun s m=>?_,rfl,?_⟩⟩
   ·rw [getElem?_map] at e2;obtain⟨l',el,rfl⟩:=map_eq_some_iff.mp e2;have ok:=hoN.ok i p' l' e1 el;refine⟨⟨by rw [length_take]; have:=ok.l1; omega,by rw [length_take]; omega,fun o m=>ok.ok o (mem_of_mem_take m)⟩,ok.nst.take 2,fun o m=>ok.pos o (mem_of_mem_take m)⟩
   ·unfold szO at m;rw [map_map] at m;obtain⟨l',_,rfl⟩:=mem_map.mp m;simp only [Function.comp,length_take];omega
   ·unfold zbn zaN;rw [map_map];rfl
  ·rw [if_neg (by omega)];exact hN _ _ ⟨os,hoN,hoN.few (by omega),rfl,rfl⟩
 rintro _ _ ⟨os,hoN,hfew,rfl,rfl⟩;have ho:=hoN.oc l8 hfew;have ol:=hoN.len;have hpos:∀ l∈os,∀ o∈l,0<=o.2.2:=fun l ml=>by
  obtain⟨i,hi⟩:=mem_iff_getElem?.mp ml;exact(hoN.ok i _ l (zbq (by have:=(List.getElem?_eq_some_iff.mp hi).1; omega)) hi).pos
 walk_at "n"
 refine zgc hp3 hd ho.toOffs dz dz fun gs p4 hgs hp4=>?_;walk_at "d";have hg:∀ g∈gs,Tms ps.length g.ts:=fun g m=>(hgs.all g m).ts;have g6:=hgs.l6
 walk_at "n"
 refine zkw ho hg fun o hO=>?_;walk_at "d";refine zi6 ho.toOffs l8 fun prs prl=>?_;walk_at "d";refine zav (fun i δ S=>∃ (T:Sto) (u7 u8 u9:Option XV),S=p4 :: T/\δ=[some (.o (.ref a)),some (.d (.int n)),some (.l 0),some (.d (zbn ps)),some (.d (zaN os)),some (.d (zb5 gs)),some (.d (lsD o)),u7,u8,u9]) ⟨[],_,_,_,rfl,rfl⟩ ?_ ?_
 ·rintro i d _ _ N hi ⟨T,u7,u8,u9,rfl,rfl⟩ hN;obtain⟨price,epr,rfl⟩:=zbs hi;walk_at "n";refine zf2 ho.toOffs l8 (by omega) (by omega) hg (fun e=>?_) fun rows e=>.inr ?_
  ·obtain⟨z,mz,hz⟩:=zsC ho hg e;have ho2:∃ m,o=some m/\m<price:=by
    cases o with
    | none =>
     have:zgb ps os gs=[]:=hO;rw [this] at mz;cases mz
    | some m=>exact⟨m,rfl,by have:=hO.2 z mz; omega⟩
   obtain⟨m,rfl,hm⟩:=ho2;unfold lsD;walk_at "d"
   walk_at "n"
   rw [decide_eq_true hm];walk_at "d";exact hN _ _ ⟨T,_,_,_,rfl,rfl⟩
  ·have hs:=zsM ho hpos hg e;have rl:rows.length<=256:=le_trans (zo9 ho.sz.2 e) hfew;have fr:=zmU (by omega) e;have ho2:(o=none\/∃ m,o=some m/\¬ m<price):=by
    cases o with
    | none=>exact .inl rfl
    | some m =>
     obtain⟨z,mz,ez⟩:=hO.1;have:=hs z mz;exact .inr ⟨m,rfl,by omega⟩
   walk_at "d";refine cut (fun δ S=>S=p4 :: (T++[rows.map ziq])/\δ=[some (.o (.ref a)),some (.d (.int n)),some (.l 0),some (.d (zbn ps)),some (.d (zaN os)),some (.d (zb5 gs)),some (.d (lsD o)),some (.d (.int price)),some (.l (T.length+1)),u9]) (fun N2 hN2=>?_) ?_
   ·rcases ho2 with rfl | ⟨m,rfl,hm⟩
    ·unfold lsD;walk_at "d";exact hN2 _ _ ⟨rfl,rfl⟩
    ·unfold lsD;walk_at "d";rw [if_neg (by rw [decide_eq_false hm]; simp)];exact hN2 _ _ ⟨rfl,rfl⟩
   ·rintro _ _ ⟨rfl,rfl⟩;have gl:(T++[rows.map ziq])[T.length]? = some (rows.map ziq):=by simp
    have sl:∀ x,(T++[rows.map ziq]).set T.length x=T++[x]:=fun x=>by simp
    walk_at "d"
    walk_at "n"
    rw [gl];refine⟨_,rfl,rfl,?_⟩;refine ziI ho hg (by omega) e ?_;walk_at "d";refine⟨rfl,?_⟩
    walk_at "n"
    rw [gl];refine⟨_,rfl,rfl,?_⟩;refine zhE ho.toOffs l8 hg fr.2 ?_;rw [fr.1];walk_at "d";refine⟨rfl,?_⟩
    walk_at "n"
    refine⟨_,gl,?_⟩;walk_at "n";refine⟨by omega,_,gl,by simp; omega,?_⟩;rw [sl];refine zf2 ho.toOffs l8 (by omega) (by omega) hg (fun e2=>?_) fun rows2 e2=>.inl ?_
    ·rw [e] at e2;cases e2
    ·rw [e] at e2;cases e2;have sh:=zpZ e;walk_at "d";refine⟨sh,sh,?_⟩;rw [SeqAt.eqv_refl _ (SeqAt.canLay_of_shaped sh),if_neg dz];exact hN _ _ ⟨_,_,_,_,rfl,rfl⟩
 ·rintro _ _ ⟨T,u7,u8,u9,rfl,rfl⟩;exact⟨rfl,rfl⟩
end
end My
namespace My
open PySem L2
def top (i : Nat) : Stmt := PySem.Challenge.pw_gaugewright_k39_floors.main.body.getD i (.Pass ⟨0, 0, 0, 0⟩)
abbrev ze7:Stmt:=top 43
theorem zhI:FnScope ["script","k"] ["script","k"] (zi ze7):=fsd
abbrev zf1:Stmt:=top 45
theorem zeN:FnScope ["cell","left"] ["cell"] (zi zf1):=fsd
abbrev zh8:Stmt:=top 44
theorem zgG:FnScope ["seed"] ["seed"] (zi zh8):=fsd
abbrev zij:Stmt:=top 46
theorem zgx:FnScope ["pen","many","found"] ["pen","many"] (zi zij):=fsd
abbrev zd0:Stmt:=top 56
theorem zL:FnScope ["pen","drawing","offers","great","name","low","high","some","k","first","last","price","begin","end"] ["pen","drawing"] (zi zd0):=fsd
abbrev zeQ:Stmt:=top 53
theorem zaB:FnScope ["drawing","terms","least","most","part","times","ends"] ["drawing","terms"] (zi zeQ):=fsd
abbrev zfN:Stmt:=top 54
theorem zas:FnScope ["pen","drawing","terms","part","times","least","most","wide","low","high"] ["pen","drawing"] (zi zfN):=fsd
abbrev zdn:Stmt:=top 55
theorem zeq:FnScope ["pen","drawing","most","gaps"] ["pen","drawing","most"] (zi zdn):=fsd
abbrev zcF:Stmt:=top 59
theorem zgd:FnScope ["drawing","offers","choice"] ["drawing","offers","choice"] (zi zcF):=fsd
abbrev zcu:Stmt:=top 61
theorem zaw:FnScope ["pen","drawing","offers","most","gaps","choice","chosen","k","least","high"] ["pen","drawing","offers","most"] (zi zcu):=fsd
abbrev zcV:Stmt:=top 58
theorem zg9:FnScope ["offers","choice"] ["offers","choice"] (zi zcV):=fsd
abbrev zdu:Stmt:=top 57
theorem za8:FnScope ["offers","found","some","longer","ahead"] ["offers"] (zi zdu):=fsd
abbrev zh5:Stmt:=top 60
theorem zcz:FnScope ["drawing","gaps","offers","choice","chosen","gap","least","most"] ["drawing","gaps","offers","choice"] (zi zh5):=fsd
abbrev zcW:Stmt:=top 65
theorem zd7:FnScope ["drawing","gaps","offers","some"] ["drawing","gaps","offers"] (zi zcW):=fsd
abbrev zdZ:Stmt:=top 66
theorem zfh:FnScope ["offers","least","last"] ["offers","least"] (zi zdZ):=fsd
abbrev zbw:Stmt:=top 50
theorem zZ:FnScope ["pen","letters","way","first","names","word","at"] ["pen"] (zi zbw):=fsd
abbrev zd3:Stmt:=top 48
theorem zdD:FnScope ["pen","way"] ["pen"] (zi zd3):=fsd
abbrev zg1:Stmt:=top 52
theorem zbU:FnScope ["pen","most","names","wides","drawing","k","low"] ["pen","most"] (zi zg1):=fsd
abbrev zhN:Stmt:=top 49
theorem zdg:FnScope ["pen","low","wide"] ["pen"] (zi zhN):=fsd
abbrev zdC:Stmt:=top 51
theorem zbj:FnScope ["pen","most","names","drawing","k"] ["pen","most"] (zi zdC):=fsd
abbrev zfv:Stmt:=top 26
theorem zld:FnScope ["offers"] ["offers"] (zi zfv):=fsd
abbrev zdK:Stmt:=top 33
theorem zbl:FnScope ["sizes","beginning","many","size"] ["sizes","beginning"] (zi zdK):=fsd
abbrev zda:Stmt:=top 32
theorem zcO:FnScope ["sizes","many"] ["sizes"] (zi zda):=fsd
abbrev zdf:Stmt:=top 12
theorem zcY:FnScope ["beginnings","numbers","longer","beginning"] ["beginnings","numbers"] (zi zdf):=fsd
abbrev zdz:Stmt:=top 35
theorem zaZ:FnScope ["sizes","why_of","rows","left","beginning","why"] ["sizes","why_of"] (zi zdz):=fsd
abbrev zez:Stmt:=top 11
theorem zjq:FnScope ["drawing"] ["drawing"] (zi zez):=fsd
abbrev zrQ:Stmt:=top 6
theorem zs2:FnScope ["one","other"] ["one","other"] (zi zrQ):=fsd
abbrev zf0:Stmt:=top 7
theorem zeU:FnScope ["one","by","ends"] ["one","by"] (zi zf0):=fsd
abbrev zjk:Stmt:=top 9
theorem zmw:FnScope ["part"] ["part"] (zi zjk):=fsd
abbrev zdE:Stmt:=top 17
theorem zaW:FnScope ["drawing","terms","ends","part","times"] ["drawing","terms"] (zi zdE):=fsd
abbrev ze4:Stmt:=top 18
theorem zhu:FnScope ["number","by"] ["number","by"] (zi ze4):=fsd
abbrev zcN:Stmt:=top 23
theorem zac:FnScope ["drawing","terms","most","one","left","place","term","further"] ["drawing","terms","most"] (zi zcN):=fsd
abbrev zfr:Stmt:=top 22
theorem zkQ:FnScope ["terms"] ["terms"] (zi zfr):=fsd
abbrev zdH:Stmt:=top 21
theorem zaV:FnScope ["job","found","terms","low","high"] ["job"] (zi zdH):=fsd
abbrev zfy:Stmt:=top 14
theorem zlg:FnScope ["gap","one"] ["gap","one"] (zi zfy):=fsd
abbrev znV:Stmt:=top 15
theorem zpX:FnScope ["gap","one"] ["gap","one"] (zi znV):=fsd
abbrev zeu:Stmt:=top 24
theorem zjE:FnScope ["gaps","one"] ["gaps","one"] (zi zeu):=fsd
abbrev zgV:Stmt:=top 20
theorem zfH:FnScope ["job","found","one"] ["job"] (zi zgV):=fsd
abbrev zfJ:Stmt:=top 28
theorem zk3:FnScope ["offers","choice"] ["offers","choice"] (zi zfJ):=fsd
abbrev zcn:Stmt:=top 29
theorem zes:FnScope ["drawing","offers","choice","chosen"] ["drawing","offers","choice"] (zi zcn):=fsd
abbrev zev:Stmt:=top 37
theorem zfR:FnScope ["drawing","offers","beginning","lasts"] ["drawing","offers","beginning"] (zi zev):=fsd
abbrev zkn:Stmt:=top 36
theorem zhZ:FnScope ["job","offers","price","beginning","found"] ["job","offers","price","beginning"] (zi zkn):=fsd
abbrev zeb:Stmt:=top 34
theorem zgS:FnScope ["job","offers","price","sizes"] ["job","offers","price"] (zi zeb):=fsd
abbrev zhp:Stmt:=top 47
theorem zjY:FnScope ["found"] ["found"] (zi zhp):=fsd
abbrev zcR:Stmt:=top 62
theorem zaO:FnScope ["drawing","gaps","offers","price","beginning","why","last","chosen","one","number","part","gap","worth"] ["drawing","gaps","offers","price","beginning","why"] (zi zcR):=fsd
abbrev zdS:Stmt:=top 64
theorem zi2:FnScope ["choice","table"] ["choice","table"] (zi zdS):=fsd
abbrev zdx:Stmt:=top 63
theorem zbh:FnScope ["drawing","gaps","offers","price","thing","row","number","some","rows","table","one"] ["drawing","gaps","offers","price","thing"] (zi zdx):=fsd
abbrev zh3:Stmt:=top 4
theorem zk4:FnScope ["thing"] ["thing"] (zi zh3):=fsd
abbrev zcZ:Stmt:=top 27
theorem zgA:FnScope ["sizes","thing"] ["sizes","thing"] (zi zcZ):=fsd
abbrev zaL:Stmt:=top 40
theorem zeF:FnScope ["sizes","things"] ["sizes","things"] (zi zaL):=fsd
abbrev zec:Stmt:=top 39
theorem zkR:FnScope ["sizes","thing"] ["sizes","thing"] (zi zec):=fsd
abbrev zjb:Stmt:=top 10
theorem zn9:FnScope ["drawing","thing"] ["drawing","thing"] (zi zjb):=fsd
abbrev zfZ:Stmt:=top 41
theorem zjf:FnScope ["job","offers","price","beginning","why"] ["job","offers","price","beginning","why"] (zi zfZ):=fsd
abbrev zdc:Stmt:=top 38
theorem zhv:FnScope ["job","offers","price","thing"] ["job","offers","price","thing"] (zi zdc):=fsd
abbrev s_law:Stmt:=top 67
theorem zc7:FnScope ["script","cell","pen","drawing","offers","gaps","least","price","found","kept"] ["script"] (zi s_law):=fsd
structure Txt(mg:Str->Option Value):Prop where
 n_len:mg "len" = none
 n_tuple:mg "tuple" = none
 n_list:mg "list" = none
 n_max:mg "max" = none
 n_int:mg "int" = none
 n_range:mg "range" = none
 n_min:mg "min" = none
 n_sum:mg "sum" = none
 n_enumerate:mg "enumerate" = none
 n_zip:mg "zip" = none
 n_isinstance:mg "isinstance" = none
 n_bool:mg "bool" = none
 n_str:mg "str" = none
 n_sorted:mg "sorted" = none
 n_all:mg "all" = none
 g_MOST_CHOICES:∃ t,mg "MOST_CHOICES" = some (.int 300 t)
structure Dds(K:W.Frag)(mg:Str->Option Value):Prop where
 a0:Dd K mg "_law_cell_at" ze7 ["script","k"]
 a1:Dd K mg "_law_pen_of" zf1 ["cell"]
 a2:Dd K mg "_law_next" zh8 ["seed"]
 a3:Dd K mg "_law_draw" zij ["pen","many"]
 a4:Dd K mg "_law_offers_of" zd0 ["pen","drawing"]
 a5:Dd K mg "_law_ends_of" zeQ ["drawing","terms"]
 a6:Dd K mg "_law_gap_of" zfN ["pen","drawing"]
 a7:Dd K mg "_law_gaps_of" zdn ["pen","drawing","most"]
 a8:Dd K mg "_law_chosen_of" zcF ["drawing","offers","choice"]
 a9:Dd K mg "_law_some_gaps" zcu ["pen","drawing","offers","most"]
 a10:Dd K mg "_law_price_of" zcV ["offers","choice"]
 a11:Dd K mg "_law_choices" zdu ["offers"]
 a12:Dd K mg "_law_safe" zh5 ["drawing","gaps","offers","choice"]
 a13:Dd K mg "_law_least_of" zcW ["drawing","gaps","offers"]
 a14:Dd K mg "_law_prices" zdZ ["offers","least"]
 a15:Dd K mg "_law_names_of" zbw ["pen"]
 a16:Dd K mg "_law_number_of" zd3 ["pen"]
 a17:Dd K mg "_law_few" zg1 ["pen","most"]
 a18:Dd K mg "_law_span" zhN ["pen"]
 a19:Dd K mg "_law_drawing_of" zdC ["pen","most"]
 a20:Dd K mg "sizes_of" zfv ["offers"]
 a21:Dd K mg "choices_behind" zdK ["sizes","beginning"]
 a22:Dd K mg "refuse_too_many" zda ["sizes"]
 a23:Dd K mg "each_longer" zdf ["beginnings","numbers"]
 a24:Dd K mg "rows_with_whys" zdz ["sizes","why_of"]
 a25:Dd K mg "first_set" zez ["drawing"]
 a26:Dd K mg "plus" zrQ ["one","other"]
 a27:Dd K mg "multiplied" zf0 ["one","by"]
 a28:Dd K mg "span_of" zjk ["part"]
 a29:Dd K mg "reach_of_terms" zdE ["drawing","terms"]
 a30:Dd K mg "quotient_up" ze4 ["number","by"]
 a31:Dd K mg "first_no_greater" zcN ["drawing","terms","most"]
 a32:Dd K mg "opposite" zfr ["terms"]
 a33:Dd K mg "first_breakers" zdH ["job"]
 a34:Dd K mg "worth_of" zfy ["gap","one"]
 a35:Dd K mg "keeps" znV ["gap","one"]
 a36:Dd K mg "kept_gaps" zeu ["gaps","one"]
 a37:Dd K mg "counter" zgV ["job"]
 a38:Dd K mg "price_of" zfJ ["offers","choice"]
 a39:Dd K mg "narrowed_by" zcn ["drawing","offers","choice"]
 a40:Dd K mg "narrowest" zev ["drawing","offers","beginning"]
 a41:Dd K mg "why_not" zkn ["job","offers","price","beginning"]
 a42:Dd K mg "floor_of" zeb ["job","offers","price"]
 a43:Dd K mg "_law_whole" zhp ["found"]
 a44:Dd K mg "_law_why_of" zcR ["drawing","gaps","offers","price","beginning","why"]
 a45:Dd K mg "_law_fronts" zdS ["choice","table"]
 a46:Dd K mg "_law_floor" zdx ["drawing","gaps","offers","price","thing"]
 a47:Dd K mg "is_whole" zh3 ["thing"]
 a48:Dd K mg "is_beginning" zcZ ["sizes","thing"]
 a49:Dd K mg "part_all_choices" zaL ["sizes","things"]
 a50:Dd K mg "are_rows" zec ["sizes","thing"]
 a51:Dd K mg "is_set" zjb ["drawing","thing"]
 a52:Dd K mg "is_why_not" zfZ ["job","offers","price","beginning","why"]
 a53:Dd K mg "floor_holds" zdc ["job","offers","price","thing"]
structure Lams(K:W.Frag)(mg:Str->Option Value):Prop where
 l_floor_of:∃ c P,CodeAt K mg "floor_of" c/\((c,P),L2.lamKey (("floor_of" ++ ".<locals>.") ++ "<lambda>") ⟨99,33,0,0⟩)∈L2.tabsG
section
variable {P:Program} {w:World} {K:W.Frag} {mg:Str->Option Value} {base:Heap}
local macro_rules | `(tactic| walk_at "r")=>`(tactic| repeat' (first | with_reducible (first | refine zj | refine zg ?_ ?_ | refine zw | refine zQ | refine zv | refine zbJ | refine zK ?_ ?_ | refine zaS ?_ ?_ | refine zaM ?_ | refine zK | refine zbZ | refine zaE ?_ ?_ | refine ze8 ?_ ?_ ?_ | refine zbm ?_ ?_ | refine zcy | refine zdN ?_ | refine zg | refine zkV | refine zb9 | refine zhJ | refine zat ?_ ?_ | refine zgL ?_ | refine zin ?_ | refine zhK | refine zaM | refine zwn ?_ ?_ | refine zpN | refine zil ?_ ?_ ?_ | refine zcM | refine znT | refine zs5 ?_ | refine zaS | refine zvs ?_ | refine zre | refine zwq | refine zsn | refine zhl | refine zaX ?_ | refine zsG ?_ ?_ | refine zv6 | refine zgJ ?_ | refine zd8 ?_ | refine zcD | refine zof ?_ ?_ ?_ | refine zju | refine zlH | refine zfS | refine zfW | refine zvY | refine ze8 | refine zi9 ?_ ?_ ?_ ?_ | refine zdq ?_ | refine zdh | refine zu6 ?_ ?_ | refine zb1 ?_ | refine zuz | refine zmg | refine zhX ?_ ?_ | refine zwm | refine zst | refine ziD ?_ ?_ | refine zil | refine zg3 | refine zvy ?_ ?_ ?_ | refine zt3 ?_ | refine zin | refine zgL | refine zuh ?_ ?_ | refine zuM | refine zqX | refine znn | refine zgJ | refine zof | refine zua ?_ | refine zt4 ?_ ?_ | refine zkF ?_ | refine zje ?_ ?_ ?_ ?_ ?_ | refine zqi ?_ ?_ | refine zey ?_ | refine zsE | refine zrg | refine zso | refine zmE | refine zqO | refine zqI ?_ ?_ | refine zvn | refine zq2 ?_ ?_ | refine zpM ?_ | refine zqH ?_ | refine zdN | refine zq8 | refine zwd ?_ ?_ | refine zqn | refine znx | refine zlp | refine zaE ?_ | refine zfG | refine zpc ?_ | refine zlD ?_ | refine zne | refine zlj | refine zW ?_ ?_ ?_ | refine zbf ?_ ?_ | refine zqD ?_ | refine zbf | refine zW) | rfl))
theorem ziU(T:Txt mg:=by assumption)(dd:Dds K mg:=by assumption):Df P w K mg base "_law_cell_at" ["script","k"] 1 (sp2 (zsX K)):=by
 refine Df.of2 dd.a0 zhI (fun v u=>[some v,some u]) (fun _ _=>rfl) fun f cdv A outer s H v u Q E hr h=>?_;obtain⟨a,ns,i,rfl,rfl,hS,h0,q⟩:=h;refine⟨_,(zf (zax (zI zgH (pv 1) (zo znD (by rfl) T.n_len zal (za (pv 0) zd)) (nomark _)) (zm (zy (zB zoJ (pv 0) (pv 1) (fun _ _=>rfl)))) zJ) (zm (zy ze))),?_⟩;simp only [zoD,zv7,zod,tOp,zqQ,tCB,zjJ,zth,zvU,tC,ztm,zny,getElem?_cons_zero,getElem?_cons_succ];refine⟨a,_,rfl,.inl hS,?_⟩;simp only [zny,zv1,decide_eq_true_eq];refine ite2 (fun hi=>?_) (fun _=>q 0);obtain⟨n,e⟩:=zsT h0 hi;exact⟨a,_,i,_,rfl,rfl,hS,e,q n⟩
variable (T:Txt mg:=by assumption) (dd:Dds K mg:=by assumption) (ll:Lams K mg:=by assumption)
include T dd ll
theorem zkc:Df P w K mg base "_law_pen_of" ["cell"] 1 (spN ["cell"] zcT):=by
 exact Df.dN dd.a1 zeN 1 rfl fun f cdv A outer s H E hr=>⟨_,_,(zf (zA (i:=1) zeN.nd rfl lo (zo (zgR rfl) (by rfl) T.n_max zjm (za (pv 0) (za (zG zbS ze (pv 0)) zd)))) (zm (zy (zaK (za (pv 1) (za (zad znj (by rfl) T.n_int zos (za (zbO zqx (pv 1) (zG zhf ze ze) (nomark _)) zd)) (za (zG zfX (pv 1) ze) zd))))))),(by walk_at "r"),fun xs S R q=>q⟩
theorem zhP:Df P w K mg base "_law_next" ["seed"] 1 (spN ["seed"] zc6):=by
 exact Df.dN dd.a2 zgG 0 rfl fun f cdv A outer s H E hr=>⟨_,_,(zf (zA (i:=0) zgG.nd rfl lo (zG zfX (zG zN (pv 0) ze) ze)) (zm (zy (zG zfX (zG zN (zG zN (zG zba (pv 0) (pv 0)) (zG zba ze (pv 0))) ze) ze)))),(by walk_at "r"),fun xs S R q=>q⟩
theorem zz:Df P w K mg base "_law_draw" ["pen","many"] 2 (spN ["pen","many"] zp):=by
 exact Df.dN dd.a3 zgx 1 rfl fun f cdv A outer s H E hr=>⟨_,_,(zf (zax (zI (zbF hr.units) (zB zr (pv 0) ze (fun _ _=>rfl)) ze (nomark _)) (zf (zA (i:=2) zgx.nd rfl lo (zG zfX (zB zr (pv 0) ze (fun _ _=>rfl)) (pv 1))) (zf (zff (zG zh9 (zB zr (pv 0) ze (fun _ _=>rfl)) (pv 1)) (zjN (pv 0) ze ze3)) (zm (zy (pv 2))))) zJ) (zf (zff (zu zhP hr dz (za (zG zN (zu zhP hr dz (za (zB zr (pv 0) ze (fun _ _=>rfl)) zd)) ze) zd)) (zjN (pv 0) ze ze3)) (zm (zy (zG zfX (zG zh9 (zB zr (pv 0) ze (fun _ _=>rfl)) ze) (pv 1)))))),(by walk_at "r"),fun xs S R q=>q⟩
theorem zg6:Df P w K mg base "_law_offers_of" ["pen","drawing"] 3 (spN ["pen","drawing"] zbK):=by
 exact Df.dN dd.a4 zL 12 rfl fun f cdv A outer s H E hr=>⟨_,_,(zf (zA (i:=2) zL.nd rfl lo (zaK zd)) (zf (zA (i:=3) zL.nd rfl lo (zB zr (zaK (za ze (za ze (za ze (za (zG zhf ze ze) zd))))) (zu zz hr dz (za (pv 0) (za ze zd))) (fun _ _=>rfl))) (zf (zbx PassesOwn.never rfl (zaz (pv 1)) (zbu (n:=3) rfl (zC (zt (i:=4) zL.nd rfl (Or.inl rfl)) (zC (zt (i:=5) zL.nd rfl (Or.inl rfl)) (zC (zt (i:=6) zL.nd rfl (Or.inl rfl)) zaQ)))) (zf (zA (i:=7) zL.nd rfl lo (zaK (za (zaq (za (pv 5) (za (pv 6) (za ze zd)))) zd))) (zf (zbx PassesOwn.never rfl (zau rfl T.n_range (za (zu zz hr dz (za (pv 0) (za ze zd))) zd)) (zt (i:=8) zL.nd rfl (Or.inl rfl)) (zf (zff (zB zr (pv 7) (zfk zcG ze) (fun _ _=>rfl)) (zbu (n:=3) rfl (zC (zt (i:=9) zL.nd rfl (Or.inl rfl)) (zC (zt (i:=10) zL.nd rfl (Or.inl rfl)) (zC (zt (i:=11) zL.nd rfl (Or.inl rfl)) zaQ))))) (zm (zax (zI zgH (pv 9) (pv 10) (nomark _)) (zf (zA (i:=12) zL.nd rfl lo (zG zN (pv 9) (zu zz hr dz (za (pv 0) (za (zG zN (zo (znl rfl) (by rfl) T.n_min zkp (za (zG zbS (pv 10) (pv 9)) (za ze zd))) ze) zd))))) (zf (zA (i:=13) zL.nd rfl lo (zo (zgR rfl) (by rfl) T.n_max zjm (za (pv 12) (za (zG zbS (pv 10) (zu zz hr dz (za (pv 0) (za ze zd)))) zd)))) (zf (zax (PW.pt (zrf (zI (zbF hr.units) (pv 12) (pv 9) (nomark _)) (znK (zI (zbF hr.units) (pv 13) (pv 10) (nomark _))))) (zm (zA (i:=12) zL.nd rfl lo (zG zN (pv 9) ze))) zJ) (zm (zbQ (ze0 PySem.F.plainAttrs_list PySem.F.slot_list_append PySem.F.type_list_append zbz (pv 7) (za (zaq (za (pv 12) (za (pv 13) (za (zG zN (zG zN (pv 11) ze) (zu zz hr dz (za (pv 0) (za (pv 3) zd)))) zd)))) zd))))))) zJ)))) (zm (zbQ (ze0 PySem.F.plainAttrs_list PySem.F.slot_list_append PySem.F.type_list_append zbz (pv 2) (za (zad zO (by rfl) T.n_tuple zaf (za (pv 7) zd)) zd))))))) (zm (zy (zad zO (by rfl) T.n_tuple zaf (za (pv 2) zd))))))),(by walk_at "r"),fun xs S R q=>q⟩
theorem zdp:Df P w K mg base "_law_ends_of" ["drawing","terms"] 1 (spN ["drawing","terms"] za2):=by
 exact Df.dN dd.a5 zaB 5 rfl fun f cdv A outer s H E hr=>⟨_,_,(zf (zA (i:=2) zaB.nd rfl lo ze) (zf (zA (i:=3) zaB.nd rfl lo ze) (zf (zbx PassesOwn.never rfl (zaz (pv 1)) (zbu (n:=2) rfl (zC (zt (i:=4) zaB.nd rfl (Or.inl rfl)) (zC (zt (i:=5) zaB.nd rfl (Or.inl rfl)) zaQ))) (zf (zA (i:=6) zaB.nd rfl lo (zaK (za (zG zba (pv 5) (zB zr (zB zr (pv 0) (pv 4) (fun _ _=>rfl)) ze (fun _ _=>rfl))) (za (zG zba (pv 5) (zB zr (zB zr (pv 0) (pv 4) (fun _ _=>rfl)) ze (fun _ _=>rfl))) zd)))) (zf (zA (i:=2) zaB.nd rfl lo (zG zN (pv 2) (zo (zfc rfl hr.units) (by rfl) T.n_min zkp (za (pv 6) zd)))) (zm (zA (i:=3) zaB.nd rfl lo (zG zN (pv 3) (zo (zjT rfl) (by rfl) T.n_max zjm (za (pv 6) zd)))))))) (zm (zy (zaq (za (pv 2) (za (pv 3) zd)))))))),(by walk_at "r"),fun xs S R q=>q⟩
theorem zjy:Df P w K mg base "_law_gap_of" ["pen","drawing"] 3 (spN ["pen","drawing"] zcL):=by
 exact Df.dN dd.a6 zas 8 rfl fun f cdv A outer s H E hr=>⟨_,_,(zf (zA (i:=2) zas.nd rfl lo (zaK zd)) (zf (zbx PassesOwn.never rfl (zau rfl T.n_range (za (zo zE (by rfl) T.n_len zal (za (pv 1) zd)) zd)) (zt (i:=3) zas.nd rfl (Or.inl rfl)) (zf (zA (i:=4) zas.nd rfl lo (zG zbS (zu zz hr dz (za (pv 0) (za ze zd))) ze)) (zm (zax (zI (zka hr.units) (pv 4) (zaq (za (zfk zcG ze) (za ze (za ze zd)))) (by rfl)) (zm (zbQ (ze0 PySem.F.plainAttrs_list PySem.F.slot_list_append PySem.F.type_list_append zbz (pv 2) (za (zaq (za (pv 3) (za (pv 4) zd))) zd)))) zJ)))) (zf (zax (zI (zbF hr.units) (pv 2) (zaK zd) (nomark _)) (zm (zA (i:=2) zas.nd rfl lo (zaK (za (zaq (za (zu zz hr dz (za (pv 0) (za (zo zE (by rfl) T.n_len zal (za (pv 1) zd)) zd))) (za (zB zr (zaK (za ze (za (zfk zcG ze) (za ze (za (zfk zcG ze) zd))))) (zu zz hr dz (za (pv 0) (za ze zd))) (fun _ _=>rfl)) zd))) zd)))) zJ) (zf (zff (zu zdp hr dz (za (pv 1) (za (pv 2) zd))) (zbu (n:=2) rfl (zC (zt (i:=5) zas.nd rfl (Or.inl rfl)) (zC (zt (i:=6) zas.nd rfl (Or.inl rfl)) zaQ)))) (zf (zA (i:=7) zas.nd rfl lo (zG zbS (pv 6) (pv 5))) (zf (zA (i:=8) zas.nd rfl lo (zG zN (pv 5) (zB zr (zpb (zcf ze (zcf ze (zcf (zfk zcG ze) (zcf (zG zh9 (pv 7) ze) (zcf (zG zh9 (pv 7) ze) (zcf (zG zN (pv 7) ze) zrc))))))) (zu zz hr dz (za (pv 0) (za ze zd))) (fun _ _=>rfl)))) (zf (zA (i:=9) zas.nd rfl lo (zG zN (pv 8) (zB zr (zpb (zcf ze (zcf ze (zcf ze (zcf (zG zh9 (pv 7) ze) (zcf (pv 7) (zcf (zG zN (pv 7) ze) zrc))))))) (zu zz hr dz (za (pv 0) (za ze zd))) (fun _ _=>rfl)))) (zm (zy (zaq (za (zad zO (by rfl) T.n_tuple zaf (za (pv 2) zd)) (za (pv 8) (za (pv 9) zd))))))))))))),(by walk_at "r"),fun xs S R q=>q⟩
theorem ziR:Df P w K mg base "_law_gaps_of" ["pen","drawing","most"] 4 (spN ["pen","drawing","most"] zci):=by
 exact Df.dN dd.a7 zeq 1 rfl fun f cdv A outer s H E hr=>⟨_,_,(zf (zdm (i:=3) (fun _ _ h=>h) rfl (zF rfl rfl rfl rfl (N:=["k","pen","drawing"]) (caps:=[none,some 0,some 1]) (by show zak ["pen","drawing","most","gaps"] (zi zdn).names _ _ _=true; decide +kernel)) zeq.nd rfl rfl (zau rfl T.n_range (za (zG zN ze (zu zz hr dz (za (pv 0) (za (pv 2) zd)))) zd)) (fun _ _ _ _=>(zt (i:=0) (by show List.Nodup (["k","pen","drawing"]:List Str); decide) rfl (Or.inl rfl))) (fun _ _ _ _=>zV) (fun _ _ _ _=>(zu zjy hr dz (za (pv 1) (za (pv 2) zd))))) (zf (zax (PW.pt (zrf (zI (zbF hr.units) (zu zz hr dz (za (pv 0) (za ze zd))) ze (nomark _)) (znK (zI zhC (zo zE (by rfl) T.n_len zal (za (pv 3) zd)) ze (nomark _))))) (zm (zff (zaq (za (zB zr (zB zr (pv 3) ze (fun _ _=>rfl)) ze (fun _ _=>rfl)) (za (zG zN (zB zr (zB zr (pv 3) ze (fun _ _=>rfl)) ze (fun _ _=>rfl)) ze) (za (zG zN (zG zN (zB zr (zB zr (pv 3) ze (fun _ _=>rfl)) ze (fun _ _=>rfl)) ze) (zu zz hr dz (za (pv 0) (za ze zd)))) zd)))) (zjN (pv 3) (zfk zcG ze) ze3))) zJ) (zm (zy (zad zO (by rfl) T.n_tuple zaf (za (pv 3) zd)))))),(zK (zaS (zeY (zb1 (zg (zW zcy zQ (zbm (i:=0) (zg zj (zg zj zw)))) zw)) zv zU (zbm (i:=0) (zg zj (zg zj zw)))) zv) (by walk_at "r")),fun xs S R q=>q⟩
theorem zcA:Df P w K mg base "_law_chosen_of" ["drawing","offers","choice"] 1 (spN ["drawing","offers","choice"] zaF):=by
 exact Df.dN dd.a8 zgd 0 rfl fun f cdv A outer s H E hr=>⟨_,_,(zm (zy (zad zO (by rfl) T.n_tuple zaf (za (zap (fun _ _ h=>h) rfl (zF rfl rfl rfl rfl (N:=["k","drawing","offers","choice"]) (caps:=[none,some 0,some 1,some 2]) (by show zak ["drawing","offers","choice"] (zi zcF).names _ _ _=true; decide +kernel)) (zau rfl T.n_range (za (zo zE (by rfl) T.n_len zal (za (pv 0) zd)) zd)) (fun _ _ _ _=>(zt (i:=0) (by show List.Nodup (["k","drawing","offers","choice"]:List Str); decide) rfl (Or.inl rfl))) (fun _ _ _ _=>zV) (fun _ _ _ _=>(zG zN (zaq (za (zB zr (zB zr (pv 1) (pv 0) (fun _ _=>rfl)) ze (fun _ _=>rfl)) zd)) (zbc zfP (zB zr (zB zr (pv 2) (pv 0) (fun _ _=>rfl)) (zB zr (pv 3) (pv 0) (fun _ _=>rfl)) (fun _ _=>rfl)) zbY (zbE ze))))) zd)))),(zaM (zbf zcM (zg (zaa (zb1 (zg (zbf zb9 (zg zj zw)) zw)) zv zU (zW zcy (zdN (zg (zW zbJ (zW zbJ zj zj) zQ) zw)) (zi9 zmg (zW zbJ (zW zbJ zj zj) (zW zbJ zj zj)) zdh (zdq zQ)))) zw))),fun xs S R q=>q⟩
theorem zgv:Df P w K mg base "_law_some_gaps" ["pen","drawing","offers","most"] 5 (spN ["pen","drawing","offers","most"] zbP):=by
 exact Df.dN dd.a9 zaw 6 rfl fun f cdv A outer s H E hr=>⟨_,_,(zf (zA (i:=4) zaw.nd rfl lo (zad zdM (by rfl) T.n_list zfA (za (zu ziR hr dz (za (pv 0) (za (pv 1) (za (pv 3) zd)))) zd))) (zf (zax (zI zhC (zu zz hr dz (za (pv 0) (za ze zd))) ze (nomark _)) (zf (zA (i:=5) zaw.nd rfl lo (zad zO (by rfl) T.n_tuple zaf (za (zap (fun _ _ h=>h) rfl (zF rfl rfl rfl rfl (N:=["some","pen"]) (caps:=[none,some 0]) (by show zak ["pen","drawing","offers","most","gaps","choice","chosen","k","least","high"] (zi zcu).names _ _ _=true; decide +kernel)) (zaz (pv 2)) (fun _ _ _ _=>(zt (i:=0) (by show List.Nodup (["some","pen"]:List Str); decide) rfl (Or.inl rfl))) (fun _ _ _ _=>zV) (fun _ _ _ _=>(zu zz hr dz (za (pv 1) (za (zo zE (by rfl) T.n_len zal (za (pv 0) zd)) zd))))) zd))) (zf (zA (i:=6) zaw.nd rfl lo (zu zcA hr dz (za (pv 1) (za (pv 2) (za (pv 5) zd))))) (zm (zbx PassesOwn.never rfl (zau rfl T.n_range (za (zo zE (by rfl) T.n_len zal (za (pv 4) zd)) zd)) (zt (i:=7) zaw.nd rfl (Or.inl rfl)) (zf (zff (zu zdp hr dz (za (pv 6) (za (zB zr (zB zr (pv 4) (pv 7) (fun _ _=>rfl)) ze (fun _ _=>rfl)) zd))) (zbu (n:=2) rfl (zC (zt (i:=8) zaw.nd rfl (Or.inl rfl)) (zC (zt (i:=9) zaw.nd rfl (Or.inl rfl)) zaQ)))) (zm (zff (zaq (za (zB zr (zB zr (pv 4) (pv 7) (fun _ _=>rfl)) ze (fun _ _=>rfl)) (za (zG zbS (pv 8) (zu zz hr dz (za (pv 0) (za ze zd)))) (za (zG zN (pv 9) (zu zz hr dz (za (pv 0) (za ze zd)))) zd)))) (zjN (pv 4) (pv 7) ze3)))))))) zJ) (zm (zy (zad zO (by rfl) T.n_tuple zaf (za (pv 4) zd)))))),(zK (by walk_at "r") (zK (ze8 (by walk_at "r") (zK (zaS (zbf zcM (zg (zaa (zaX zj) zv zU (zbm (i:=0) (zg zj (zg (zbf zb9 (zg zj zw)) zw)))) zw)) zv) (by walk_at "r")) zbZ) (by walk_at "r"))),fun xs S R q=>q⟩
theorem zen:Df P w K mg base "_law_price_of" ["offers","choice"] 1 (spN ["offers","choice"] zaR):=by
 exact Df.dN dd.a10 zg9 0 rfl fun f cdv A outer s H E hr=>⟨_,_,(zm (zy (zo (zcw rfl) (by rfl) T.n_sum zhq (za (zap (fun _ _ h=>h) rfl (zF rfl rfl rfl rfl (N:=["k","offers","choice"]) (caps:=[none,some 0,some 1]) (by show zak ["offers","choice"] (zi zcV).names _ _ _=true; decide +kernel)) (zau rfl T.n_range (za (zo zE (by rfl) T.n_len zal (za (pv 1) zd)) zd)) (fun _ _ _ _=>(zt (i:=0) (by show List.Nodup (["k","offers","choice"]:List Str); decide) rfl (Or.inl rfl))) (fun _ _ _ _=>zV) (fun _ _ _ _=>(zB zr (zB zr (zB zr (pv 1) (pv 0) (fun _ _=>rfl)) (zB zr (pv 2) (pv 0) (fun _ _=>rfl)) (fun _ _=>rfl)) ze (fun _ _=>rfl)))) zd)))),(zaM (zbf zfS (zg (zaa (zb1 (zg (zbf zb9 (zg zj zw)) zw)) zv zU (zW zbJ (zW zbJ (zW zbJ zj zj) (zW zbJ zj zj)) zQ)) zw))),fun xs S R q=>q⟩
theorem zfm:Df P w K mg base "_law_choices" ["offers"] 1 (spN ["offers"] zbM):=by
 exact Df.dN dd.a11 za8 4 rfl fun f cdv A outer s H E hr=>⟨_,_,(zf (zA (i:=1) za8.nd rfl lo (zaK (za (zaq zd) zd))) (zf (zbx PassesOwn.never rfl (zaz (pv 0)) (zt (i:=2) za8.nd rfl (Or.inl rfl)) (zf (zA (i:=3) za8.nd rfl lo (zaK zd)) (zf (zbx PassesOwn.never rfl (zaz (pv 1)) (zt (i:=4) za8.nd rfl (Or.inr rfl)) (zm (zbQ (ze0 PySem.F.plainAttrs_list PySem.F.slot_list_extend PySem.F.type_list_extend zhb (pv 3) (za (zap (fun _ _ h=>h) rfl (zF rfl rfl rfl rfl (N:=["number","ahead"]) (caps:=[none,some 4]) (by show zak ["offers","found","some","longer","ahead"] (zi zdu).names _ _ _=true; decide +kernel)) (zau rfl T.n_range (za (zo zE (by rfl) T.n_len zal (za (pv 2) zd)) zd)) (fun _ _ _ _=>(zt (i:=0) (by show List.Nodup (["number","ahead"]:List Str); decide) rfl (Or.inl rfl))) (fun _ _ _ _=>zV) (fun _ _ _ _=>(zG zN (pv 1) (zaq (za (pv 0) zd))))) zd))))) (zm (zA (i:=1) za8.nd rfl lo (pv 3)))))) (zm (zy (pv 1))))),(zK (by walk_at "r") (zK (zil (zaX zj) zv (zvi (zK (zue (zK (by walk_at "r") (zil (zaX zj) zv (zgJ (zof zg3 zj (zg (zaa (zb1 (zg (zbf zb9 (zg zj zw)) zw)) zv zU (zW zcy zj (zdN (zg zj zw)))) zw)))))) (zaS zj zv)))) (zaM zj))),fun xs S R q=>q⟩
theorem zm9:Df P w K mg base "_law_safe" ["drawing","gaps","offers","choice"] 2 (spN ["drawing","gaps","offers","choice"] zft):=by
 exact Df.dN dd.a12 zcz 4 rfl fun f cdv A outer s H E hr=>⟨_,_,(zf (zA (i:=4) zcz.nd rfl lo (zu zcA hr dz (za (pv 0) (za (pv 2) (za (pv 3) zd))))) (zf (zbx PassesOwn.never rfl (zaz (pv 1)) (zt (i:=5) zcz.nd rfl (Or.inl rfl)) (zf (zff (zu zdp hr dz (za (pv 4) (za (zB zr (pv 5) ze (fun _ _=>rfl)) zd))) (zbu (n:=2) rfl (zC (zt (i:=6) zcz.nd rfl (Or.inl rfl)) (zC (zt (i:=7) zcz.nd rfl (Or.inl rfl)) zaQ)))) (zm (zax (PW.pt (zea (zI zgH (pv 6) (zB zr (pv 5) ze (fun _ _=>rfl)) (nomark _)) (zd6 (zI zhC (pv 7) (zB zr (pv 5) ze (fun _ _=>rfl)) (nomark _))))) (zm (zy zbW)) zJ)))) (zm (zy zbW)))),(by walk_at "r"),fun xs S R q=>q⟩
theorem zht:Df P w K mg base "_law_least_of" ["drawing","gaps","offers"] 3 (spN ["drawing","gaps","offers"] zb2):=by
 exact Df.dN dd.a13 zd7 1 rfl fun f cdv A outer s H E hr=>⟨_,_,(zf (zdm (i:=3) (fun _ _ h=>h) rfl (zF rfl rfl rfl rfl (N:=["one","offers","drawing","gaps"]) (caps:=[none,some 2,some 0,some 1]) (by show zak ["drawing","gaps","offers","some"] (zi zcW).names _ _ _=true; decide +kernel)) zd7.nd rfl rfl (zaz (zu zfm hr dz (za (pv 2) zd))) (fun _ _ _ _=>(zt (i:=0) (by show List.Nodup (["one","offers","drawing","gaps"]:List Str); decide) rfl (Or.inl rfl))) (fun _ _ _ _=>(zpr (zah (zu zm9 hr dz (za (pv 2) (za (pv 3) (za (pv 1) (za (pv 0) zd))))) (fun _=>rfl)))) (fun _ _ _ _=>(zu zen hr dz (za (pv 1) (za (pv 0) zd))))) (zm (zy (ziy (zI (zbF hr.units) (pv 3) (zaK zd) (nomark _)) zdG (zo (zfc rfl hr.units) (by rfl) T.n_min zkp (za (pv 3) zd)))))),(zK (zaS (zaa (zaX (zaE (zg zj zw))) zv (zgL (zaE (zg zj (zg zj (zg zj (zg zj zw)))))) (zaE (zg zj (zg zj zw)))) zv) (by walk_at "r")),fun xs S R q=>q⟩
theorem zjI:Df P w K mg base "_law_prices" ["offers","least"] 1 (spN ["offers","least"] zcQ):=by
 exact Df.dN dd.a14 zfh 1 rfl fun f cdv A outer s H E hr=>⟨_,_,(zf (zA (i:=2) zfh.nd rfl lo (zo (zcw rfl) (by rfl) T.n_sum zhq (za (zap (fun _ _ h=>h) rfl (zF (L:=0) rfl rfl rfl rfl (N:=["some"]) (caps:=[none]) (by show zak ["offers","least","last"] (zi zdZ).names _ _ _=true; decide +kernel)) (zaz (pv 0)) (fun _ _ _ _=>(zt (i:=0) (by show List.Nodup (["some"]:List Str); decide) rfl (Or.inl rfl))) (fun _ _ _ _=>zV) (fun _ _ _ _=>(zB zr (zB zr (pv 0) (zfk zcG ze) (fun _ _=>rfl)) ze (fun _ _=>rfl)))) zd))) (zf (zax (zI zkI (pv 1) zdG (nomark _)) (zm (zy (zaK (za ze (za (zfk zcG ze) (za (pv 2) (za (zG zN (pv 2) ze) (za (zG zhf ze ze) zd)))))))) zJ) (zm (zy (zaK (za ze (za (pv 1) (za (zG zN (pv 1) ze) (za (zG zbS (pv 1) ze) (za (zG zN (pv 2) ze) zd)))))))))),(zK (zaS (zbf zfS (zg (zaa (zaX zj) zv zU (zW zbJ (zW zbJ zj (zsG zv6 zQ)) zQ)) zw)) zv) (by walk_at "r")),fun xs S R q=>q⟩
theorem zep:Df P w K mg base "_law_names_of" ["pen"] 3 (spN ["pen"] zaP):=by
 exact Df.dN dd.a15 zZ 6 rfl fun f cdv A outer s H E hr=>⟨_,_,(zf (zA (i:=1) zZ.nd rfl (Or.inr rfl) zch) (zf (zA (i:=2) zZ.nd rfl lo (zu zz hr dz (za (pv 0) (za ze zd)))) (zf (zA (i:=3) zZ.nd rfl (Or.inr rfl) (zu zz hr dz (za (pv 0) (za ze zd)))) (zf (zdm (i:=4) (fun _ _ h=>h) rfl (zF rfl rfl rfl rfl (N:=["k","letters","first"]) (caps:=[none,some 1,some 3]) (by show zak ["pen","letters","way","first","names","word","at"] (zi zbw).names _ _ _=true; decide +kernel)) zZ.nd rfl rfl (zau rfl T.n_range (za ze zd)) (fun _ _ _ _=>(zt (i:=0) (by show List.Nodup (["k","letters","first"]:List Str); decide) rfl (Or.inl rfl))) (fun _ _ _ _=>zV) (fun _ _ _ _=>(zG zba (zB zr (pv 1) (zG zfX (zG zN (pv 2) (zG zba ze (pv 0))) ze) (fun _ _=>rfl)) (zG zN ze (zG zfX (zG zN (pv 2) (zG zba ze (pv 0))) ze))))) (zf (zax (zI (zbF hr.units) (pv 2) ze (nomark _)) (zf (zA (i:=5) zZ.nd rfl (Or.inr rfl) (ze0 PySem.F.plainAttrs_str PySem.F.slot_str_join PySem.F.type_str_join zsi zch (za (zap (fun _ _ h=>h) rfl (zF rfl rfl rfl rfl (N:=["k","letters","first"]) (caps:=[none,some 1,some 3]) (by show zak ["pen","letters","way","first","names","word","at"] (zi zbw).names _ _ _=true; decide +kernel)) (zau rfl T.n_range (za ze zd)) (fun _ _ _ _=>(zt (i:=0) (by show List.Nodup (["k","letters","first"]:List Str); decide) rfl (Or.inl rfl))) (fun _ _ _ _=>zV) (fun _ _ _ _=>(zB zr (pv 1) (zG zfX (zG zN (pv 2) (zG zba ze (pv 0))) ze) (fun _ _=>rfl)))) zd))) (zm (zdm (i:=4) (fun _ _ h=>h) rfl (zF rfl rfl rfl rfl (N:=["k","word"]) (caps:=[none,some 5]) (by show zak ["pen","letters","way","first","names","word","at"] (zi zbw).names _ _ _=true; decide +kernel)) zZ.nd rfl rfl (zau rfl T.n_range (za ze zd)) (fun _ _ _ _=>(zt (i:=0) (by show List.Nodup (["k","word"]:List Str); decide) rfl (Or.inl rfl))) (fun _ _ _ _=>zV) (fun _ _ _ _=>(zbc zfP (pv 1) zbY (zbE (zG zN (pv 0) ze))))))) zJ) (zf (zax (zI (zbF hr.units) (pv 2) ze (nomark _)) (zm (zA (i:=4) zZ.nd rfl lo (zaK (za zch (za zch (za zch (za zch (za zch (za zch (za zch (za zch zd))))))))))) zJ) (zf (zA (i:=6) zZ.nd rfl lo (zu zz hr dz (za (pv 0) (za ze zd)))) (zf (zA (i:=4) zZ.nd rfl lo (zG zn1 (zbc zfP (pv 4) (zbE (pv 6)) zbY) (zbc zfP (pv 4) zbY (zbE (pv 6))))) (zf (zax (zI (zbF hr.units) (zu zz hr dz (za (pv 0) (za ze zd))) ze (nomark _)) (zm (zbQ (zrk PySem.F.plainAttrs_list PySem.F.slot_list_reverse PySem.F.type_list_reverse zmA (pv 4)))) zJ) (zm (zy (pv 4)))))))))))),(zK (zaS znT zv) (zK (by walk_at "r") (zK (by walk_at "r") (zK (zaS (zeY (zb1 (zg zQ zw)) zv zU (zW zhl (zW zbJ zj (zW zsn (zW zcy zj (zW zhl zQ zj)) zQ)) (zW zcy zQ (zW zsn (zW zcy zj (zW zhl zQ zj)) zQ)))) zv) (zK (ze8 (by walk_at "r") (zK (zaS (zrg zpL znT (zg (zaa (zb1 (zg zQ zw)) zv zU (zW zbJ zj (zW zsn (zW zcy zj (zW zhl zQ zj)) zQ))) zw)) zv) (zaS (zeY (zb1 (zg zQ zw)) zv zU (zi9 zmg zj zdh (zdq (zW zcy zj zQ)))) zv)) zbZ) (by walk_at "r")))))),fun xs S R q=>q⟩
theorem zd4:Df P w K mg base "_law_number_of" ["pen"] 3 (spN ["pen"] zaU):=by
 exact Df.dN dd.a16 zdD 1 rfl fun f cdv A outer s H E hr=>⟨_,_,(zf (zA (i:=1) zdD.nd rfl lo (zu zz hr dz (za (pv 0) (za ze zd)))) (zf (zax (zI zgH (pv 1) ze (nomark _)) (zm (zy (zG zbS (zu zz hr dz (za (pv 0) (za ze zd))) ze))) zJ) (zf (zax (zI zgH (pv 1) ze (nomark _)) (zm (zy (zG zbS (zu zz hr dz (za (pv 0) (za ze zd))) ze))) zJ) (zm (zy (zG zba (zG zbS (zu zz hr dz (za (pv 0) (za (zG zba ze (zG zhf ze ze)) zd))) (zG zhf ze ze)) (zG zhf ze ze))))))),(by walk_at "r"),fun xs S R q=>q⟩
theorem zn5:Df P w K mg base "_law_few" ["pen","most"] 4 (spN ["pen","most"] zdV):=by
 exact Df.dN dd.a17 zbU 5 rfl fun f cdv A outer s H E hr=>⟨_,_,(zf (zA (i:=2) zbU.nd rfl lo (zu zep hr dz (za (pv 0) zd))) (zf (zdm (i:=3) (fun _ _ h=>h) rfl (zF rfl rfl rfl rfl (N:=["k","pen"]) (caps:=[none,some 0]) (by show zak ["pen","most","names","wides","drawing","k","low"] (zi zg1).names _ _ _=true; decide +kernel)) zbU.nd rfl rfl (zau rfl T.n_range (za (zG zN ze (zu zz hr dz (za (pv 0) (za (pv 1) zd)))) zd)) (fun _ _ _ _=>(zt (i:=0) (by show List.Nodup (["k","pen"]:List Str); decide) rfl (Or.inl rfl))) (fun _ _ _ _=>zV) (fun _ _ _ _=>(zG zN ze (zu zz hr dz (za (pv 1) (za ze zd)))))) (zf (zax (zI (zbF hr.units) (zu zz hr dz (za (pv 0) (za ze zd))) ze (nomark _)) (zm (zA (i:=3) zbU.nd rfl lo (zB zr (zaK (za (zG zba (zaK (za ze zd)) ze) (za (zaK (za ze (za ze zd))) (za (zaK (za ze zd)) (za (zG zba (zaK (za ze zd)) ze) zd))))) (zu zz hr dz (za (pv 0) (za ze zd))) (fun _ _=>rfl)))) zJ) (zf (zA (i:=4) zbU.nd rfl lo (zaK zd)) (zf (zbx PassesOwn.never rfl (zau rfl T.n_range (za (zo zE (by rfl) T.n_len zal (za (pv 3) zd)) zd)) (zt (i:=5) zbU.nd rfl (Or.inl rfl)) (zf (zA (i:=6) zbU.nd rfl lo (zu zd4 hr dz (za (pv 0) zd))) (zm (zbQ (ze0 PySem.F.plainAttrs_list PySem.F.slot_list_append PySem.F.type_list_append zbz (pv 4) (za (zaq (za (zB zr (pv 2) (pv 5) (fun _ _=>rfl)) (za (pv 6) (za (zG zbS (zG zN (pv 6) (zB zr (pv 3) (pv 5) (fun _ _=>rfl))) ze) zd)))) zd)))))) (zm (zy (zad zO (by rfl) T.n_tuple zaf (za (pv 4) zd))))))))),(zK (by walk_at "r") (zK (zaS (zaa (zb1 (zg (zW zcy zQ (zbm (i:=0) (zg zj (zg zj zw)))) zw)) zv zU (zW zcy zQ (zbm (i:=0) (zg zj (zg zQ zw))))) zv) (by walk_at "r"))),fun xs S R q=>q⟩
theorem zmP:Df P w K mg base "_law_span" ["pen"] 4 (spN ["pen"] zcj):=by
 exact Df.dN dd.a18 zdg 2 rfl fun f cdv A outer s H E hr=>⟨_,_,(zf (zA (i:=1) zdg.nd rfl lo (zu zd4 hr dz (za (pv 0) zd))) (zf (zA (i:=2) zdg.nd rfl lo (zu zz hr dz (za (pv 0) (za ze zd)))) (zf (zax (zI (zbF hr.units) (zu zz hr dz (za (pv 0) (za ze zd))) ze (nomark _)) (zm (zA (i:=2) zdg.nd rfl lo (zu zz hr dz (za (pv 0) (za (zG zhf ze ze) zd))))) zJ) (zm (zy (zaq (za (pv 1) (za (zG zN (pv 1) (pv 2)) zd)))))))),(by walk_at "r"),fun xs S R q=>q⟩
theorem zdA:Df P w K mg base "_law_drawing_of" ["pen","most"] 5 (spN ["pen","most"] za3):=by
 exact Df.dN dd.a19 zbj 3 rfl fun f cdv A outer s H E hr=>⟨_,_,(zf (zA (i:=2) zbj.nd rfl lo (zu zep hr dz (za (pv 0) zd))) (zf (zA (i:=3) zbj.nd rfl lo (zaK zd)) (zf (zbx PassesOwn.never rfl (zau rfl T.n_range (za (zG zN ze (zu zz hr dz (za (pv 0) (za (pv 1) zd)))) zd)) (zt (i:=4) zbj.nd rfl (Or.inl rfl)) (zm (zbQ (ze0 PySem.F.plainAttrs_list PySem.F.slot_list_append PySem.F.type_list_append zbz (pv 3) (za (zG zN (zaq (za (zB zr (pv 2) (pv 4) (fun _ _=>rfl)) zd)) (zu zmP hr dz (za (pv 0) zd))) zd))))) (zm (zy (zad zO (by rfl) T.n_tuple zaf (za (pv 3) zd))))))),(by walk_at "r"),fun xs S R q=>q⟩
theorem zfE:Df P w K mg base "sizes_of" ["offers"] 1 (spN ["offers"] zct):=by
 exact Df.dN dd.a20 zld 0 rfl fun f cdv A outer s H E hr=>⟨_,_,(zm (zy (zap (fun _ _ h=>h) rfl (zF (L:=0) rfl rfl rfl rfl (N:=["of_part"]) (caps:=[none]) (by show zak ["offers"] (zi zfv).names _ _ _=true; decide +kernel)) (zaz (pv 0)) (fun _ _ _ _=>(zt (i:=0) (by show List.Nodup (["of_part"]:List Str); decide) rfl (Or.inl rfl))) (fun _ _ _ _=>zV) (fun _ _ _ _=>(zo zE (by rfl) T.n_len zal (za (pv 0) zd)))))),(zaM (zeY (zaX zj) zv zU (zbf zb9 (zg zj zw)))),fun xs S R q=>q⟩
theorem zcb:Df P w K mg base "choices_behind" ["sizes","beginning"] 1 (spN ["sizes","beginning"] zaI):=by
 exact Df.dN dd.a21 zbl 2 rfl fun f cdv A outer s H E hr=>⟨_,_,(zf (zA (i:=2) zbl.nd rfl lo ze) (zf (zbx PassesOwn.never rfl (zaz (zbc zfP (pv 0) (zbE (zo zE (by rfl) T.n_len zal (za (pv 1) zd))) zbY)) (zt (i:=3) zbl.nd rfl (Or.inl rfl)) (zm (zA (i:=2) zbl.nd rfl lo (zG zba (pv 2) (pv 3))))) (zm (zy (pv 2))))),(by walk_at "r"),fun xs S R q=>q⟩
theorem zfx:Df P w K mg base "refuse_too_many" ["sizes"] 3 (spN ["sizes"] zbi):=by
 exact Df.dN dd.a22 zcO 1 rfl fun f cdv A outer s H E hr=>⟨_,_,(zf (zA (i:=1) zcO.nd rfl lo (zu zcb hr dz (za (pv 0) (za (zaq zd) zd)))) (zm (zax (zI zhC (pv 1) (zp8 rfl T.g_MOST_CHOICES) (nomark _)) (zm zqf) zJ))),(by walk_at "r"),fun xs S R q=>q⟩
theorem zjg:Df P w K mg base "each_longer" ["beginnings","numbers"] 1 (spN ["beginnings","numbers"] zck):=by
 exact Df.dN dd.a23 zcY 2 rfl fun f cdv A outer s H E hr=>⟨_,_,(zf (zA (i:=2) zcY.nd rfl lo (zaK zd)) (zf (zbx PassesOwn.never rfl (zaz (pv 0)) (zt (i:=3) zcY.nd rfl (Or.inr rfl)) (zm (zbQ (ze0 PySem.F.plainAttrs_list PySem.F.slot_list_extend PySem.F.type_list_extend zhb (pv 2) (za (zap (fun _ _ h=>h) rfl (zF rfl rfl rfl rfl (N:=["number","beginning"]) (caps:=[none,some 3]) (by show zak ["beginnings","numbers","longer","beginning"] (zi zdf).names _ _ _=true; decide +kernel)) (zaz (pv 1)) (fun _ _ _ _=>(zt (i:=0) (by show List.Nodup (["number","beginning"]:List Str); decide) rfl (Or.inl rfl))) (fun _ _ _ _=>zV) (fun _ _ _ _=>(zG zN (pv 1) (zaq (za (pv 0) zd))))) zd))))) (zm (zy (pv 2))))),(zK (by walk_at "r") (zK (zil (zaX zj) zv (zgJ (zof zg3 zj (zg (zaa (zaX zj) zv zU (zW zcy zj (zdN (zg zj zw)))) zw)))) (zaM zj))),fun xs S R q=>q⟩
theorem zge:DfH P w K mg base "rows_with_whys" ["sizes","why_of"] 8 (6+1) ["beginning"] zbA:=by
 exact zuP dd.a24 zaZ 4 rfl fun F ql f cdv A outer s H E hr LA=>⟨_,_,(zf (zA (i:=2) zaZ.nd rfl lo (zaK zd)) (zf (zA (i:=3) zaZ.nd rfl lo (zaK (za (zaq zd) zd))) (zf (zqk PassesOwn.never (zah (pv 3) (fun _=>rfl)) (zf (zA (i:=4) zaZ.nd rfl lo (zrk PySem.F.plainAttrs_list PySem.F.slot_list_pop PySem.F.type_list_pop zuZ (pv 3))) (zf (zA (i:=5) zaZ.nd rfl lo (zm2 LA hr dz (pv 1) (za (pv 4) zd))) (zm (zax (zI zgl (pv 5) zdG (nomark _)) (zm (zbQ (ze0 PySem.F.plainAttrs_list PySem.F.slot_list_append PySem.F.type_list_append zbz (pv 2) (za (zaq (za (pv 4) (za (pv 5) zd))) zd)))) (zm (zax (zI (zbF hr.units) (zo zE (by rfl) T.n_len zal (za (pv 4) zd)) (zo zE (by rfl) T.n_len zal (za (pv 0) zd)) (nomark _)) (zm (zy zdG)) (zm (zbQ (ze0 PySem.F.plainAttrs_list PySem.F.slot_list_extend PySem.F.type_list_extend zhb (pv 3) (za (zu zjg hr dz (za (zaK (za (pv 4) zd)) (za (zq1 rfl rfl T.n_list rfl T.n_range (za (zG zbS (zB zr (pv 0) (zo zE (by rfl) T.n_len zal (za (pv 4) zd)) (fun _ _=>rfl)) ze) (za (zfk zcG ze) (za (zfk zcG ze) zd)))) zd))) zd))))))))))) (zm (zy (pv 2)))))),(by walk_at "r"),fun xs S R q=>q⟩
theorem zkY:Df P w K mg base "first_set" ["drawing"] 1 (spN ["drawing"] zds):=by
 exact Df.dN dd.a25 zjq 0 rfl fun f cdv A outer s H E hr=>⟨_,_,(zm (zy (zad zO (by rfl) T.n_tuple zaf (za (zap (fun _ _ h=>h) rfl (zF (L:=0) rfl rfl rfl rfl (N:=["part"]) (caps:=[none]) (by show zak ["drawing"] (zi zez).names _ _ _=true; decide +kernel)) (zaz (pv 0)) (fun _ _ _ _=>(zt (i:=0) (by show List.Nodup (["part"]:List Str); decide) rfl (Or.inl rfl))) (fun _ _ _ _=>zV) (fun _ _ _ _=>(zB zr (pv 0) ze (fun _ _=>rfl)))) zd)))),(zaM (zbf zcM (zg (zaa (zaX zj) zv zU (zW zbJ zj zQ)) zw))),fun xs S R q=>q⟩
theorem ztT:Df P w K mg base "plus" ["one","other"] 1 (spN ["one","other"] zlr):=by
 exact Df.dN dd.a26 zs2 0 rfl fun f cdv A outer s H E hr=>⟨_,_,(zm (zy (zaq (za (zG zN (zB zr (pv 0) ze (fun _ _=>rfl)) (zB zr (pv 1) ze (fun _ _=>rfl))) (za (zG zN (zB zr (pv 0) ze (fun _ _=>rfl)) (zB zr (pv 1) ze (fun _ _=>rfl))) zd))))),(by walk_at "r"),fun xs S R q=>q⟩
theorem zjU:Df P w K mg base "multiplied" ["one","by"] 1 (spN ["one","by"] zcH):=by
 exact Df.dN dd.a27 zeU 1 rfl fun f cdv A outer s H E hr=>⟨_,_,(zf (zA (i:=2) zeU.nd rfl lo (zaq (za (zG zba (zB zr (pv 0) ze (fun _ _=>rfl)) (pv 1)) (za (zG zba (zB zr (pv 0) ze (fun _ _=>rfl)) (pv 1)) zd)))) (zm (zy (zaq (za (zo (zfc rfl hr.units) (by rfl) T.n_min zkp (za (pv 2) zd)) (za (zo (zjT rfl) (by rfl) T.n_max zjm (za (pv 2) zd)) zd)))))),(by walk_at "r"),fun xs S R q=>q⟩
theorem zps:Df P w K mg base "span_of" ["part"] 1 (spN ["part"] ze2):=by
 exact Df.dN dd.a28 zmw 0 rfl fun f cdv A outer s H E hr=>⟨_,_,(zm (zy (zaq (za (zB zr (pv 0) ze (fun _ _=>rfl)) (za (zB zr (pv 0) ze (fun _ _=>rfl)) zd))))),(by walk_at "r"),fun xs S R q=>q⟩
theorem zdI:Df P w K mg base "reach_of_terms" ["drawing","terms"] 2 (spN ["drawing","terms"] za6):=by
 exact Df.dN dd.a29 zaW 3 rfl fun f cdv A outer s H E hr=>⟨_,_,(zf (zA (i:=2) zaW.nd rfl lo (zaq (za ze (za ze zd)))) (zf (zbx PassesOwn.never rfl (zaz (pv 1)) (zbu (n:=2) rfl (zC (zt (i:=3) zaW.nd rfl (Or.inl rfl)) (zC (zt (i:=4) zaW.nd rfl (Or.inl rfl)) zaQ))) (zm (zA (i:=2) zaW.nd rfl lo (zu ztT hr dz (za (pv 2) (za (zu zjU hr dz (za (zu zps hr dz (za (zB zr (pv 0) (pv 3) (fun _ _=>rfl)) zd)) (za (pv 4) zd))) zd)))))) (zm (zy (pv 2))))),(by walk_at "r"),fun xs S R q=>q⟩
theorem ziS:Df P w K mg base "quotient_up" ["number","by"] 1 (spN ["number","by"] zcl):=by
 exact Df.dN dd.a30 zhu 0 rfl fun f cdv A outer s H E hr=>⟨_,_,(zm (zy (zfk zcG (zG zh9 (zfk zcG (pv 0)) (pv 1))))),(by walk_at "r"),fun xs S R q=>q⟩
theorem zcJ:Df P w K mg base "first_no_greater" ["drawing","terms","most"] 3 (spN ["drawing","terms","most"] zaJ):=by
 exact Df.dN dd.a31 zac 5 rfl fun f cdv A outer s H E hr=>⟨_,_,(zf (zax (zI zhC (zB zr (zu zdI hr dz (za (pv 0) (za (pv 1) zd))) ze (fun _ _=>rfl)) (pv 2) (nomark _)) (zm (zy zdG)) zJ) (zf (zA (i:=3) zac.nd rfl lo (zad zdM (by rfl) T.n_list zfA (za (zu zkY hr dz (za (pv 0) zd)) zd))) (zf (zA (i:=4) zac.nd rfl lo (pv 2)) (zf (zbx PassesOwn.never rfl (zqo rfl T.n_enumerate (za (pv 1) zd)) (zbu (n:=2) rfl (zC (zt (i:=5) zac.nd rfl (Or.inl rfl)) (zC (zt (i:=6) zac.nd rfl (Or.inl rfl)) zaQ))) (zf (zax (zI zgH (zB zr (pv 6) ze (fun _ _=>rfl)) ze (nomark _)) (zf (zA (i:=7) zac.nd rfl lo (zB zr (zu zdI hr dz (za (pv 0) (za (zbc zfP (pv 1) (zbE (zG zN (pv 5) ze)) zbY) zd))) ze (fun _ _=>rfl))) (zm (zff (zo (zgR rfl) (by rfl) T.n_max zjm (za (zB zr (pv 3) (zB zr (pv 6) ze (fun _ _=>rfl)) (fun _ _=>rfl)) (za (zu ziS hr dz (za (zG zbS (pv 4) (pv 7)) (za (zB zr (pv 6) ze (fun _ _=>rfl)) zd))) zd))) (zjN (pv 3) (zB zr (pv 6) ze (fun _ _=>rfl)) ze3)))) zJ) (zm (zA (i:=4) zac.nd rfl lo (zG zbS (pv 4) (zG zba (zB zr (pv 6) ze (fun _ _=>rfl)) (zB zr (pv 3) (zB zr (pv 6) ze (fun _ _=>rfl)) (fun _ _=>rfl)))))))) (zm (zy (zad zO (by rfl) T.n_tuple zaf (za (pv 3) zd)))))))),(by walk_at "r"),fun xs S R q=>q⟩
theorem zm6:Df P w K mg base "opposite" ["terms"] 1 (spN ["terms"] zef):=by
 exact Df.dN dd.a32 zkQ 0 rfl fun f cdv A outer s H E hr=>⟨_,_,(zm (zy (zad zO (by rfl) T.n_tuple zaf (za (zap (fun _ _ h=>h) rfl (zF (L:=0) rfl rfl rfl rfl (N:=["part","times"]) (caps:=[none,none]) (by show zak ["terms"] (zi zfr).names _ _ _=true; decide +kernel)) (zaz (pv 0)) (fun _ _ _ _=>(zbu (n:=2) rfl (zC (zt (i:=0) (by show List.Nodup (["part","times"]:List Str); decide) rfl (Or.inl rfl)) (zC (zt (i:=1) (by show List.Nodup (["part","times"]:List Str); decide) rfl (Or.inl rfl)) zaQ)))) (fun _ _ _ _=>zV) (fun _ _ _ _=>(zaq (za (pv 0) (za (zfk zcG (pv 1)) zd))))) zd)))),(zaM (zbf zcM (zg (zaa (zaX zj) (zd8 (zat zv (zat zv zcD))) zU (zdN (zg zj (zg (zsG zv6 zj) zw)))) zw))),fun xs S R q=>q⟩
theorem zf8:Df P w K mg base "first_breakers" ["job"] 4 (spN ["job"] zbB):=by
 exact Df.dN dd.a33 zaV 4 rfl fun f cdv A outer s H E hr=>⟨_,_,(zf (zA (i:=1) zaV.nd rfl lo (zaK zd)) (zf (zbx PassesOwn.never rfl (zaz (zB zr (pv 0) ze (fun _ _=>rfl))) (zbu (n:=3) rfl (zC (zt (i:=2) zaV.nd rfl (Or.inl rfl)) (zC (zt (i:=3) zaV.nd rfl (Or.inl rfl)) (zC (zt (i:=4) zaV.nd rfl (Or.inl rfl)) zaQ)))) (zf (zbQ (ze0 PySem.F.plainAttrs_list PySem.F.slot_list_append PySem.F.type_list_append zbz (pv 1) (za (zu zcJ hr dz (za (zB zr (pv 0) ze (fun _ _=>rfl)) (za (pv 2) (za (zG zbS (pv 3) ze) zd)))) zd))) (zm (zbQ (ze0 PySem.F.plainAttrs_list PySem.F.slot_list_append PySem.F.type_list_append zbz (pv 1) (za (zu zcJ hr dz (za (zB zr (pv 0) ze (fun _ _=>rfl)) (za (zu zm6 hr dz (za (pv 2) zd)) (za (zG zbS (zfk zcG (pv 4)) ze) zd)))) zd)))))) (zm (zy (pv 1))))),(by walk_at "r"),fun xs S R q=>q⟩
theorem zmt:Df P w K mg base "worth_of" ["gap","one"] 1 (spN ["gap","one"] zeh):=by
 exact Df.dN dd.a34 zlg 0 rfl fun f cdv A outer s H E hr=>⟨_,_,(zm (zy (zo (zcw rfl) (by rfl) T.n_sum zhq (za (zap (fun _ _ h=>h) rfl (zF rfl rfl rfl rfl (N:=["part","times","one"]) (caps:=[none,none,some 1]) (by show zak ["gap","one"] (zi zfy).names _ _ _=true; decide +kernel)) (zaz (zB zr (pv 0) ze (fun _ _=>rfl))) (fun _ _ _ _=>(zbu (n:=2) rfl (zC (zt (i:=0) (by show List.Nodup (["part","times","one"]:List Str); decide) rfl (Or.inl rfl)) (zC (zt (i:=1) (by show List.Nodup (["part","times","one"]:List Str); decide) rfl (Or.inl rfl)) zaQ)))) (fun _ _ _ _=>zV) (fun _ _ _ _=>(zG zba (pv 1) (zB zr (pv 2) (pv 0) (fun _ _=>rfl))))) zd)))),(zaM (zbf zfS (zg (zaa (zaX (zW zbJ zj zQ)) (zd8 (zat zv (zat zv zcD))) zU (zW zhl zj (zW zbJ zj zj))) zw))),fun xs S R q=>q⟩
theorem znZ:Df P w K mg base "keeps" ["gap","one"] 2 (spN ["gap","one"] zha):=by
 exact Df.dN dd.a35 zpX 0 rfl fun f cdv A outer s H E hr=>⟨_,_,(zm (zy (ziu zmz zmz (zB zr (pv 0) ze (fun _ _=>rfl)) (zu zmt hr dz (za (pv 0) (za (pv 1) zd))) (zB zr (pv 0) ze (fun _ _=>rfl))))),(by walk_at "r"),fun xs S R q=>q⟩
theorem zkS:Df P w K mg base "kept_gaps" ["gaps","one"] 3 (spN ["gaps","one"] zdr):=by
 exact Df.dN dd.a36 zjE 0 rfl fun f cdv A outer s H E hr=>⟨_,_,(zm (zy (zap (fun _ _ h=>h) rfl (zF rfl rfl rfl rfl (N:=["gap","one"]) (caps:=[none,some 1]) (by show zak ["gaps","one"] (zi zeu).names _ _ _=true; decide +kernel)) (zaz (pv 0)) (fun _ _ _ _=>(zt (i:=0) (by show List.Nodup (["gap","one"]:List Str); decide) rfl (Or.inl rfl))) (fun _ _ _ _=>zV) (fun _ _ _ _=>(zu znZ hr dz (za (pv 0) (za (pv 1) zd))))))),(zaM (zeY (zaX zj) zv zU (zaE (zg zj (zg zj zw))))),fun xs S R q=>q⟩
theorem znA:Df P w K mg base "counter" ["job"] 5 (spN ["job"] zfl):=by
 exact Df.dN dd.a37 zfH 2 rfl fun f cdv A outer s H E hr=>⟨_,_,(zf (zdm (i:=1) (fun _ _ h=>h) rfl (zF (L:=0) rfl rfl rfl rfl (N:=["one"]) (caps:=[none]) (by show zak ["job","found","one"] (zi zgV).names _ _ _=true; decide +kernel)) zfH.nd rfl rfl (zaz (zu zf8 hr dz (za (pv 0) zd))) (fun _ _ _ _=>(zt (i:=0) (by show List.Nodup (["one"]:List Str); decide) rfl (Or.inl rfl))) (fun _ _ _ _=>(zpr (zI zgl (pv 0) zdG (nomark _)))) (fun _ _ _ _=>(pv 0))) (zf (zax (zbp (zah (pv 1) (fun _=>rfl))) (zm (zy zdG)) zJ) (zf (zA (i:=2) zfH.nd rfl lo (zo (zfc rfl hr.units) (by rfl) T.n_min zkp (za (pv 1) zd))) (zm (zy (zaq (za (pv 2) (za (ze0 PySem.F.plainAttrs_list PySem.F.slot_list_index PySem.F.type_list_index (znL hr.units) (zu zkS hr dz (za (zB zr (pv 0) ze (fun _ _=>rfl)) (za (pv 2) zd))) (za zbW zd)) zd)))))))),(zK (zaS (zaa (zaX (zaE (zg zj zw))) zv (zqD (zkF zj)) zj) zv) (zK (by walk_at "r") (zK (by walk_at "r") (zaM (zdN (zg zj (zg (zq8 zoo (by walk_at "r") (zg zhJ zw)) zw))))))),fun xs S R q=>q⟩
theorem zik:Df P w K mg base "price_of" ["offers","choice"] 1 (spN ["offers","choice"] zc2):=by
 exact Df.dN dd.a38 zk3 0 rfl fun f cdv A outer s H E hr=>⟨_,_,(zm (zy (zo (zcw rfl) (by rfl) T.n_sum zhq (za (zap (fun _ _ h=>h) rfl (zF (L:=0) rfl rfl rfl rfl (N:=["of_part","number"]) (caps:=[none,none]) (by show zak ["offers","choice"] (zi zfJ).names _ _ _=true; decide +kernel)) (zdU rfl T.n_zip (za (pv 0) (za (pv 1) zd))) (fun _ _ _ _=>(zbu (n:=2) rfl (zC (zt (i:=0) (by show List.Nodup (["of_part","number"]:List Str); decide) rfl (Or.inl rfl)) (zC (zt (i:=1) (by show List.Nodup (["of_part","number"]:List Str); decide) rfl (Or.inl rfl)) zaQ)))) (fun _ _ _ _=>zV) (fun _ _ _ _=>(zB zr (zB zr (pv 0) (pv 1) (fun _ _=>rfl)) ze (fun _ _=>rfl)))) zd)))),(zaM (zbf zfS (zg (zaa (zey (zg zj (zg zj zw))) (zd8 (zat zv (zat zv zcD))) zU (zW zbJ (zW zbJ zj zj) zQ)) zw))),fun xs S R q=>q⟩
theorem ziW:Df P w K mg base "narrowed_by" ["drawing","offers","choice"] 1 (spN ["drawing","offers","choice"] zcq):=by
 exact Df.dN dd.a39 zes 1 rfl fun f cdv A outer s H E hr=>⟨_,_,(zf (zdm (i:=3) (fun _ _ h=>h) rfl (zF (L:=0) rfl rfl rfl rfl (N:=["of_part","number"]) (caps:=[none,none]) (by show zak ["drawing","offers","choice","chosen"] (zi zcn).names _ _ _=true; decide +kernel)) zes.nd rfl rfl (zdU rfl T.n_zip (za (pv 1) (za (pv 2) zd))) (fun _ _ _ _=>(zbu (n:=2) rfl (zC (zt (i:=0) (by show List.Nodup (["of_part","number"]:List Str); decide) rfl (Or.inl rfl)) (zC (zt (i:=1) (by show List.Nodup (["of_part","number"]:List Str); decide) rfl (Or.inl rfl)) zaQ)))) (fun _ _ _ _=>zV) (fun _ _ _ _=>(zB zr (pv 0) (pv 1) (fun _ _=>rfl)))) (zm (zy (zad zO (by rfl) T.n_tuple zaf (za (zap (fun _ _ h=>h) rfl (zF (L:=0) rfl rfl rfl rfl (N:=["part","offer"]) (caps:=[none,none]) (by show zak ["drawing","offers","choice","chosen"] (zi zcn).names _ _ _=true; decide +kernel)) (zdU rfl T.n_zip (za (pv 0) (za (pv 3) zd))) (fun _ _ _ _=>(zbu (n:=2) rfl (zC (zt (i:=0) (by show List.Nodup (["part","offer"]:List Str); decide) rfl (Or.inl rfl)) (zC (zt (i:=1) (by show List.Nodup (["part","offer"]:List Str); decide) rfl (Or.inl rfl)) zaQ)))) (fun _ _ _ _=>zV) (fun _ _ _ _=>(zaq (za (zB zr (pv 0) ze (fun _ _=>rfl)) (za (zB zr (pv 1) ze (fun _ _=>rfl)) (za (zB zr (pv 1) ze (fun _ _=>rfl)) zd)))))) zd))))),(zK (zaS (zaa (zey (zg zj (zg zj zw))) (zd8 (zat zv (zat zv zcD))) zU (zW zbJ zj zj)) zv) (zaM (zbf zcM (zg (zaa (zey (zg zj (zg zj zw))) (zd8 (zat zv (zat zv zcD))) zU (zdN (zg (zW zbJ zj zQ) (zg (zW zbJ zj zQ) (zg (zW zbJ zj zQ) zw))))) zw)))),fun xs S R q=>q⟩
theorem zgz:Df P w K mg base "narrowest" ["drawing","offers","beginning"] 2 (spN ["drawing","offers","beginning"] zcC):=by
 exact Df.dN dd.a40 zfR 1 rfl fun f cdv A outer s H E hr=>⟨_,_,(zf (zdm (i:=3) (fun _ _ h=>h) rfl (zF (L:=0) rfl rfl rfl rfl (N:=["size"]) (caps:=[none]) (by show zak ["drawing","offers","beginning","lasts"] (zi zev).names _ _ _=true; decide +kernel)) zfR.nd rfl rfl (zaz (zu zfE hr dz (za (pv 1) zd))) (fun _ _ _ _=>(zt (i:=0) (by show List.Nodup (["size"]:List Str); decide) rfl (Or.inl rfl))) (fun _ _ _ _=>zV) (fun _ _ _ _=>(zG zbS (pv 0) ze))) (zm (zy (zu ziW hr dz (za (pv 0) (za (pv 1) (za (zG zN (pv 2) (zad zO (by rfl) T.n_tuple zaf (za (zbc zfP (pv 3) (zbE (zo zE (by rfl) T.n_len zal (za (pv 2) zd))) zbY) zd))) zd))))))),(zK (zaS (zaa (zaX (zaE (zg zj zw))) zv zU (zW zpN zj zQ)) zv) (by walk_at "r")),fun xs S R q=>q⟩
theorem znt:Df P w K mg base "why_not" ["job","offers","price","beginning"] 6 (spN ["job","offers","price","beginning"] zfj):=by
 exact Df.dN dd.a41 zhZ 1 rfl fun f cdv A outer s H E hr=>⟨_,_,(zf (zax (zI zqx (zu zik hr dz (za (pv 1) (za (pv 3) zd))) (pv 2) (nomark _)) (zm (zy (zaq (za zch zd)))) zJ) (zf (zA (i:=4) zhZ.nd rfl lo (zu znA hr dz (za (zaq (za (zu zgz hr dz (za (zB zr (pv 0) ze (fun _ _=>rfl)) (za (pv 1) (za (pv 3) zd)))) (za (zB zr (pv 0) ze (fun _ _=>rfl)) zd))) zd))) (zm (zy (ziy (zI zkI (pv 4) zdG (nomark _)) zdG (zaq (za zch (za (zB zr (pv 4) ze (fun _ _=>rfl)) (za (zB zr (pv 4) ze (fun _ _=>rfl)) zd))))))))),(by walk_at "r"),fun xs S R q=>q⟩
theorem zh7:Df P w K mg base "floor_of" ["job","offers","price"] 11 (spN ["job","offers","price"] zc1):=by
 obtain⟨c,P',hc,ht⟩:=ll.l_floor_of;exact ztC dd.a42 hc zgS 1 rfl fun f A outer s H E hr=>⟨_,_,(zf (zA (i:=3) zgS.nd rfl lo (zu zfE hr dz (za (pv 1) zd))) (zf (zbQ (zu zfx hr dz (za (pv 3) zd))) (zm (zy (zpS (kl:=6) (pl:=["beginning"]) (caps:=["job","offers","price"]) (ks:=[0,1,2]) zge hr dz rfl rfl rfl rfl rfl (by show zhy ["job","offers","price","sizes"] (zi zeb).names _ _ _ _=true; decide +kernel) (fun _ _ _ _ us hl=>by obtain⟨_,rfl⟩:=L2.len1 hl; rfl) (fun cl f c' A outer s H hr=>(zu znt hr dz (za (pv 1) (za (pv 2) (za (pv 3) (za (pv 0) zd)))))) (zaE (zg zj (zg zj (zg zj (zg zj zw))))) (za (pv 3) (za (ztB (pl:=["beginning"]) (caps:=["job","offers","price"]) (ks:=[0,1,2]) ht rfl rfl rfl (by show zhy ["job","offers","price","sizes"] (zi zeb).names _ _ _ _=true; decide +kernel) rfl) zd))))))),(zK (by walk_at "r") (zK (by walk_at "r") (zaM (zpy zj)))),fun xs S R q=>q⟩
theorem zeA:Df P w K mg base "_law_whole" ["found"] 1 (spN ["found"] zbX):=by
 exact Df.dN dd.a43 zjY 0 rfl fun f cdv A outer s H E hr=>⟨_,_,(zm (zy (ze9 (zo za1 (by rfl) T.n_isinstance zR (za (pv 0) (za (zbD rfl T.n_int zos (v:=.ty "int") rfl) zd))) (zet (zpx (zo za1 (by rfl) T.n_isinstance zR (za (pv 0) (za (zbD rfl T.n_bool znq (v:=.ty "bool") rfl) zd)))))))),(by walk_at "r"),fun xs S R q=>q⟩
theorem zjL:Df P w K mg base "_law_why_of" ["drawing","gaps","offers","price","beginning","why"] 2 (spN ["drawing","gaps","offers","price","beginning","why"] zcI):=by
 exact Df.dN dd.a44 zaO 7 rfl fun f cdv A outer s H E hr=>⟨_,_,(zf (zax (PW.pt (zea (zbp (zah (zo za1 (by rfl) T.n_isinstance zR (za (pv 5) (za (zbD rfl T.n_tuple zaf (v:=.ty "tuple") rfl) zd))) (fun _=>rfl))) (zea (zI (zka hr.units) (zo zE (by rfl) T.n_len zal (za (pv 5) zd)) (zaq (za ze (za ze zd))) (by rfl)) (zd6 (zbp (zah (zo za1 (by rfl) T.n_isinstance zR (za (zB zr (pv 5) ze (fun _ _=>rfl)) (za (zbD rfl T.n_str zvw (v:=.ty "str") rfl) zd))) (fun _=>rfl))))))) (zm (zy zbW)) zJ) (zf (zax (zI (zbF hr.units) (zo zE (by rfl) T.n_len zal (za (pv 5) zd)) ze (nomark _)) (zm (zy (ze9 (zbO (zbF hr.units) (zB zr (pv 5) ze (fun _ _=>rfl)) zch (nomark _)) (zet (zbO zqx (zu zen hr dz (za (pv 2) (za (pv 4) zd))) (pv 3) (nomark _)))))) zJ) (zf (zax (PW.pt (zea (zI (zem hr.units) (zB zr (pv 5) ze (fun _ _=>rfl)) zch (nomark _)) (zea (zbp (zah (zu zeA hr dz (za (zB zr (pv 5) ze (fun _ _=>rfl)) zd)) (fun _=>rfl))) (zd6 (zlW true rfl T.n_range (zB zr (pv 5) ze (fun _ _=>rfl)) (za (zo zE (by rfl) T.n_len zal (za (pv 1) zd)) zd)))))) (zm (zy zbW)) zJ) (zf (zA (i:=6) zaO.nd rfl lo (zG zN (pv 4) (zad zO (by rfl) T.n_tuple zaf (za (zap (fun _ _ h=>h) rfl (zF rfl rfl rfl rfl (N:=["some"]) (caps:=[none]) (by show zak ["drawing","gaps","offers","price","beginning","why","last","chosen","one","number","part","gap","worth"] (zi zcR).names _ _ _=true; decide +kernel)) (zaz (zbc zg5 (pv 2) (zbE (zo zE (by rfl) T.n_len zal (za (pv 4) zd))) zbY)) (fun _ _ _ _=>(zt (i:=0) (by show List.Nodup (["some"]:List Str); decide) rfl (Or.inl rfl))) (fun _ _ _ _=>zV) (fun _ _ _ _=>(zG zbS (zo zE (by rfl) T.n_len zal (za (pv 0) zd)) ze))) zd)))) (zf (zA (i:=7) zaO.nd rfl lo (zu zcA hr dz (za (pv 0) (za (pv 2) (za (pv 6) zd))))) (zf (zA (i:=8) zaO.nd rfl (Or.inr rfl) (zB zr (pv 5) ze (fun _ _=>rfl))) (zf (zax (PW.pt (zea (zbp (zah (zo za1 (by rfl) T.n_isinstance zR (za (pv 8) (za (zbD rfl T.n_tuple zaf (v:=.ty "tuple") rfl) zd))) (fun _=>rfl))) (zd6 (zI (zem hr.units) (zo zE (by rfl) T.n_len zal (za (pv 8) zd)) (zo zE (by rfl) T.n_len zal (za (pv 7) zd)) (nomark _))))) (zm (zy zbW)) zJ) (zf (zbx PassesOwn.never rfl (zdU rfl T.n_zip (za (pv 8) (za (pv 7) zd))) (zbu (n:=2) rfl (zC (zt (i:=9) zaO.nd rfl (Or.inl rfl)) (zC (zt (i:=10) zaO.nd rfl (Or.inl rfl)) zaQ))) (zm (zax (PW.pt (zea (zbp (zah (zu zeA hr dz (za (pv 9) zd)) (fun _=>rfl))) (zea (zI zgH (pv 9) (zB zr (pv 10) ze (fun _ _=>rfl)) (nomark _)) (zd6 (zI zhC (pv 9) (zB zr (pv 10) ze (fun _ _=>rfl)) (nomark _)))))) (zm (zy zbW)) zJ))) (zf (zA (i:=11) zaO.nd rfl lo (zB zr (pv 1) (zB zr (pv 5) ze (fun _ _=>rfl)) (fun _ _=>rfl))) (zf (zA (i:=12) zaO.nd rfl lo (zo (zcw rfl) (by rfl) T.n_sum zhq (za (zap (fun _ _ h=>h) rfl (zF rfl rfl rfl rfl (N:=["part","times","one"]) (caps:=[none,none,some 8]) (by show zak ["drawing","gaps","offers","price","beginning","why","last","chosen","one","number","part","gap","worth"] (zi zcR).names _ _ _=true; decide +kernel)) (zaz (zB zr (pv 11) ze (fun _ _=>rfl))) (fun _ _ _ _=>(zbu (n:=2) rfl (zC (zt (i:=0) (by show List.Nodup (["part","times","one"]:List Str); decide) rfl (Or.inl rfl)) (zC (zt (i:=1) (by show List.Nodup (["part","times","one"]:List Str); decide) rfl (Or.inl rfl)) zaQ)))) (fun _ _ _ _=>zV) (fun _ _ _ _=>(zG zba (pv 1) (zB zr (pv 2) (pv 0) (fun _ _=>rfl))))) zd))) (zm (zy (zwi (zbO zgH (pv 12) (zB zr (pv 11) ze (fun _ _=>rfl)) (nomark _)) (zet (zbO zhC (pv 12) (zB zr (pv 11) ze (fun _ _=>rfl)) (nomark _)))))))))))))))),(zK (by walk_at "r") (zK (by walk_at "r") (zK (by walk_at "r") (zK (zaS (zW zcy zj (zbf zcM (zg (zaa (zaX (zi9 zfG zj (zdq (zbf zb9 (zg zj zw))) zdh)) zv zU (zW zpN (zbf zb9 (zg zj zw)) zQ)) zw))) zv) (zK (by walk_at "r") (zK (by walk_at "r") (zK (by walk_at "r") (zK (by walk_at "r") (zK (by walk_at "r") (zK (zaS (zbf zfS (zg (zaa (zaX (zW zbJ zj zQ)) (zd8 (zat zv (zat zv zcD))) zU (zW zhl zj (zW zbJ zj zj))) zw)) zv) (by walk_at "r"))))))))))),fun xs S R q=>q⟩
theorem zjs:Df P w K mg base "_law_fronts" ["choice","table"] 1 (spN ["choice","table"] zcS):=by
 exact Df.dN dd.a45 zi2 0 rfl fun f cdv A outer s H E hr=>⟨_,_,(zm (zy (zo (zcw rfl) (by rfl) T.n_sum zhq (za (zap (fun _ _ h=>h) rfl (zF rfl rfl rfl rfl (N:=["k","table","choice"]) (caps:=[none,some 1,some 0]) (by show zak ["choice","table"] (zi zdS).names _ _ _=true; decide +kernel)) (zau rfl T.n_range (za (zG zN (zo zE (by rfl) T.n_len zal (za (pv 0) zd)) ze) zd)) (fun _ _ _ _=>(zt (i:=0) (by show List.Nodup (["k","table","choice"]:List Str); decide) rfl (Or.inl rfl))) (fun _ _ _ _=>zV) (fun _ _ _ _=>(znE (zsP hr) (pv 1) (zbc zg5 (pv 2) zbY (zbE (pv 0))) ze ⟨rfl,rfl,rfl,rfl⟩))) zd)))),(zaM (zbf zfS (zg (zaa (zb1 (zg (zW zcy (zbf zb9 (zg zj zw)) zQ) zw)) zv zU (zvR (zfL (zob zj (zi9 zfG zj zdh (zdq zj)) zQ)))) zw))),fun xs S R q=>q⟩
theorem zkN:Df P w K mg base "_law_floor" ["drawing","gaps","offers","price","thing"] 3 (spN ["drawing","gaps","offers","price","thing"] zb4):=by
 exact Df.dN dd.a46 zbh 6 rfl fun f cdv A outer s H E hr=>⟨_,_,(zf (zax (zbp (zah (zo za1 (by rfl) T.n_isinstance zR (za (pv 4) (za (zbD rfl T.n_list zfA (v:=.ty "list") rfl) zd))) (fun _=>rfl))) (zm (zy zbW)) zJ) (zf (zbx PassesOwn.never rfl (zaz (pv 4)) (zt (i:=5) zbh.nd rfl (Or.inl rfl)) (zf (zax (PW.pt (zea (zbp (zah (zo za1 (by rfl) T.n_isinstance zR (za (pv 5) (za (zbD rfl T.n_tuple zaf (v:=.ty "tuple") rfl) zd))) (fun _=>rfl))) (zea (zI (zem hr.units) (zo zE (by rfl) T.n_len zal (za (pv 5) zd)) ze (nomark _)) (zea (zbp (zah (zo za1 (by rfl) T.n_isinstance zR (za (zB zr (pv 5) ze (fun _ _=>rfl)) (za (zbD rfl T.n_tuple zaf (v:=.ty "tuple") rfl) zd))) (fun _=>rfl))) (zd6 (zI zhC (zo zE (by rfl) T.n_len zal (za (zB zr (pv 5) ze (fun _ _=>rfl)) zd)) (zo zE (by rfl) T.n_len zal (za (pv 2) zd)) (nomark _))))))) (zm (zy zbW)) zJ) (zf (zbx PassesOwn.never rfl (zdU rfl T.n_zip (za (zB zr (pv 5) ze (fun _ _=>rfl)) (za (pv 2) zd))) (zbu (n:=2) rfl (zC (zt (i:=6) zbh.nd rfl (Or.inl rfl)) (zC (zt (i:=7) zbh.nd rfl (Or.inl rfl)) zaQ))) (zm (zax (PW.pt (zea (zbp (zah (zu zeA hr dz (za (pv 6) zd)) (fun _=>rfl))) (zd6 (zlW true rfl T.n_range (pv 6) (za (zo zE (by rfl) T.n_len zal (za (pv 7) zd)) zd))))) (zm (zy zbW)) zJ))) (zm (zax (zbp (zah (zu zjL hr dz (za (pv 0) (za (pv 1) (za (pv 2) (za (pv 3) (za (zB zr (pv 5) ze (fun _ _=>rfl)) (za (zB zr (pv 5) ze (fun _ _=>rfl)) zd))))))) (fun _=>rfl))) (zm (zy zbW)) zJ))))) (zf (zdm (i:=8) (fun _ _ h=>h) rfl (zF rfl rfl rfl rfl (N:=["row"]) (caps:=[none]) (by show zak ["drawing","gaps","offers","price","thing","row","number","some","rows","table","one"] (zi zdx).names _ _ _=true; decide +kernel)) zbh.nd rfl rfl (zaz (pv 4)) (fun _ _ _ _=>(zt (i:=0) (by show List.Nodup (["row"]:List Str); decide) rfl (Or.inl rfl))) (fun _ _ _ _=>zV) (fun _ _ _ _=>(zB zr (pv 0) ze (fun _ _=>rfl)))) (zf (zax (zI (zem hr.units) (pv 8) (zo zmx (by rfl) T.n_sorted zop (za (pv 8) zd)) (nomark _)) (zm (zy zbW)) zJ) (zf (zA (i:=9) zbh.nd rfl (Or.inr rfl) zpT) (zf (zuR (i:=9) (zbx PassesOwn.never rfl (zaz (pv 8)) (zt (i:=10) zbh.nd rfl (Or.inl rfl)) (zm (zsl (zsP hr) (pv 9) (pv 10) (zG zN (zqN (zsP hr) (pv 9) (pv 10) ze ⟨rfl,rfl,rfl,rfl⟩) ze) rfl)))) (zm (zy (zo (zcv rfl) (by rfl) T.n_all zgQ (za (zap (fun _ _ h=>h) rfl (zF rfl rfl rfl rfl (N:=["choice","table"]) (caps:=[none,some 9]) (by show zak ["drawing","gaps","offers","price","thing","row","number","some","rows","table","one"] (zi zdx).names _ _ _=true; decide +kernel)) (zaz (zu zfm hr dz (za (pv 2) zd))) (fun _ _ _ _=>(zt (i:=0) (by show List.Nodup (["choice","table"]:List Str); decide) rfl (Or.inl rfl))) (fun _ _ _ _=>zV) (fun _ _ _ _=>(zbO (zbF hr.units) (zu zjs hr dz (za (pv 0) (za (pv 1) zd))) ze (nomark _)))) zd)))))))))),(zK (by walk_at "r") (zK (by walk_at "r") (zK (zaS (zaa (zaX zj) zv zU (zW zbJ zj zQ)) zv) (zK (by walk_at "r") (znx (zsI (zlp (ztP (fun M=>ztn (zaX zj)) zv (zuo (fun M=>(zfL zj)) (fun M=>(zv8 zcy (zqr (zfL zj) (zfL zj) (zfL zQ)) (zfL zQ))))))) (zaM (zbf zfW (zg (zaa (zaX (zaE (zg zj zw))) zv zU (zW zhK (zaE (zg zj (zg zj zw))) zQ)) zw)))))))),fun xs S R q=>q⟩
theorem zfs:Df P w K mg base "is_whole" ["thing"] 1 (spN ["thing"] zbI):=by
 exact Df.dN dd.a47 zk4 0 rfl fun f cdv A outer s H E hr=>⟨_,_,(zm (zy (ze9 (zo za1 (by rfl) T.n_isinstance zR (za (pv 0) (za (zbD rfl T.n_int zos (v:=.ty "int") rfl) zd))) (zet (zpx (zo za1 (by rfl) T.n_isinstance zR (za (pv 0) (za (zbD rfl T.n_bool znq (v:=.ty "bool") rfl) zd)))))))),(by walk_at "r"),fun xs S R q=>q⟩
theorem zhs:Df P w K mg base "is_beginning" ["sizes","thing"] 2 (spN ["sizes","thing"] zb3):=by
 exact Df.dN dd.a48 zgA 0 rfl fun f cdv A outer s H E hr=>⟨_,_,(zf (zax (PW.pt (zea (zbp (zah (zo za1 (by rfl) T.n_isinstance zR (za (pv 1) (za (zbD rfl T.n_tuple zaf (v:=.ty "tuple") rfl) zd))) (fun _=>rfl))) (zd6 (zI zhC (zo zE (by rfl) T.n_len zal (za (pv 1) zd)) (zo zE (by rfl) T.n_len zal (za (pv 0) zd)) (nomark _))))) (zm (zy zbW)) zJ) (zm (zy (zo (zcv rfl) (by rfl) T.n_all zgQ (za (zap (fun _ _ h=>h) rfl (zF (L:=0) rfl rfl rfl rfl (N:=["number","size"]) (caps:=[none,none]) (by show zak ["sizes","thing"] (zi zcZ).names _ _ _=true; decide +kernel)) (zdU rfl T.n_zip (za (pv 1) (za (pv 0) zd))) (fun _ _ _ _=>(zbu (n:=2) rfl (zC (zt (i:=0) (by show List.Nodup (["number","size"]:List Str); decide) rfl (Or.inl rfl)) (zC (zt (i:=1) (by show List.Nodup (["number","size"]:List Str); decide) rfl (Or.inl rfl)) zaQ)))) (fun _ _ _ _=>zV) (fun _ _ _ _=>(ze9 (zu zfs hr dz (za (pv 0) zd)) (zet (ziu zmz zgH ze (pv 0) (pv 1)))))) zd))))),(zK (by walk_at "r") (zaM (zbf zfW (zg (zaa (zey (zg zj (zg zj zw))) (zd8 (zat zv (zat zv zcD))) zU (zhX (zaE (zg zj zw)) (zje zkV zkV zQ zj zj))) zw)))),fun xs S R q=>q⟩
theorem zeP:Df P w K mg base "part_all_choices" ["sizes","things"] 3 (spN ["sizes","things"] zbe):=by
 exact Df.dN dd.a49 zeF 0 rfl fun f cdv A outer s H E hr=>⟨_,_,(zf (zax (zbp (zah (zo (zcv rfl) (by rfl) T.n_all zgQ (za (zap (fun _ _ h=>h) rfl (zF rfl rfl rfl rfl (N:=["thing","sizes"]) (caps:=[none,some 0]) (by show zak ["sizes","things"] (zi zaL).names _ _ _=true; decide +kernel)) (zaz (pv 1)) (fun _ _ _ _=>(zt (i:=0) (by show List.Nodup (["thing","sizes"]:List Str); decide) rfl (Or.inl rfl))) (fun _ _ _ _=>zV) (fun _ _ _ _=>(zu zhs hr dz (za (pv 1) (za (pv 0) zd))))) zd)) (fun _=>rfl))) (zm (zy zbW)) zJ) (zf (zax (zbp (zah (zo (zcv rfl) (by rfl) T.n_all zgQ (za (zap (fun _ _ h=>h) rfl (zF rfl rfl rfl rfl (N:=["ahead","thing"]) (caps:=[none,none]) (by show zak ["sizes","things"] (zi zaL).names _ _ _=true; decide +kernel)) (zdU rfl T.n_zip (za (pv 1) (za (zbc zfP (pv 1) (zbE ze) zbY) zd))) (fun _ _ _ _=>(zbu (n:=2) rfl (zC (zt (i:=0) (by show List.Nodup (["ahead","thing"]:List Str); decide) rfl (Or.inl rfl)) (zC (zt (i:=1) (by show List.Nodup (["ahead","thing"]:List Str); decide) rfl (Or.inl rfl)) zaQ)))) (fun _ _ _ _=>zV) (fun _ _ _ _=>(ze9 (zbO (zux hr.units0) (pv 0) (pv 1) (nomark _)) (zet (zbO (zem hr.units) (zbc zg5 (pv 1) zbY (zbE (zo zE (by rfl) T.n_len zal (za (pv 0) zd)))) (pv 0) (nomark _)))))) zd)) (fun _=>rfl))) (zm (zy zbW)) zJ) (zm (zy (zbO (zbF hr.units) (zo (zcw rfl) (by rfl) T.n_sum zhq (za (zap (fun _ _ h=>h) rfl (zF rfl rfl rfl rfl (N:=["thing","sizes"]) (caps:=[none,some 0]) (by show zak ["sizes","things"] (zi zaL).names _ _ _=true; decide +kernel)) (zaz (pv 1)) (fun _ _ _ _=>(zt (i:=0) (by show List.Nodup (["thing","sizes"]:List Str); decide) rfl (Or.inl rfl))) (fun _ _ _ _=>zV) (fun _ _ _ _=>(zu zcb hr dz (za (pv 1) (za (pv 0) zd))))) zd)) (zu zcb hr dz (za (pv 0) (za (zaq zd) zd))) (nomark _)))))),(zK (ze8 (zin (zgL (zbf zfW (zg (zaa (zaX zj) zv zU (zaE (zg zj (zg zj zw)))) zw)))) (zaM zhJ) zbZ) (zK (ze8 (zin (zgL (zbf zfW (zg (zaa (zey (zg zj (zg (zi9 zmg zj (zdq zQ) zdh) zw))) (zd8 (zat zv (zat zv zcD))) zU (zhX (zW zuY zj zj) (zW zlH (zi9 zfG zj zdh (zdq (zbf zb9 (zg zj zw)))) zj))) zw)))) (zaM zhJ) zbZ) (zaM (zW zhK (zbf zfS (zg (zaa (zaX zj) zv zU (zaE (zg zj (zg zj zw)))) zw)) (by walk_at "r"))))),fun xs S R q=>q⟩
theorem zmH:Df P w K mg base "are_rows" ["sizes","thing"] 4 (spN ["sizes","thing"] zek):=by
 exact Df.dN dd.a50 zkR 0 rfl fun f cdv A outer s H E hr=>⟨_,_,(zf (zax (zbp (zah (zo za1 (by rfl) T.n_isinstance zR (za (pv 1) (za (zbD rfl T.n_list zfA (v:=.ty "list") rfl) zd))) (fun _=>rfl))) (zm (zy zbW)) zJ) (zf (zax (zbp (zah (zo (zcv rfl) (by rfl) T.n_all zgQ (za (zap (fun _ _ h=>h) rfl (zF (L:=0) rfl rfl rfl rfl (N:=["row"]) (caps:=[none]) (by show zak ["sizes","thing"] (zi zec).names _ _ _=true; decide +kernel)) (zaz (pv 1)) (fun _ _ _ _=>(zt (i:=0) (by show List.Nodup (["row"]:List Str); decide) rfl (Or.inl rfl))) (fun _ _ _ _=>zV) (fun _ _ _ _=>(ze9 (zo za1 (by rfl) T.n_isinstance zR (za (pv 0) (za (zbD rfl T.n_tuple zaf (v:=.ty "tuple") rfl) zd))) (zet (zbO (zbF hr.units) (zo zE (by rfl) T.n_len zal (za (pv 0) zd)) ze (nomark _)))))) zd)) (fun _=>rfl))) (zm (zy zbW)) zJ) (zm (zy (zu zeP hr dz (za (pv 0) (za (zap (fun _ _ h=>h) rfl (zF (L:=0) rfl rfl rfl rfl (N:=["row"]) (caps:=[none]) (by show zak ["sizes","thing"] (zi zec).names _ _ _=true; decide +kernel)) (zaz (pv 1)) (fun _ _ _ _=>(zt (i:=0) (by show List.Nodup (["row"]:List Str); decide) rfl (Or.inl rfl))) (fun _ _ _ _=>zV) (fun _ _ _ _=>(zB zr (pv 0) ze (fun _ _=>rfl)))) zd))))))),(zK (by walk_at "r") (zK (ze8 (zin (zgL (zbf zfW (zg (zaa (zaX zj) zv zU (zhX (zbf zre (zg zj (zg zwq zw))) (zW zhK (zbf zb9 (zg zj zw)) zQ))) zw)))) (zaM zhJ) zbZ) (zaM (zaE (zg zj (zg (zaa (zaX zj) zv zU (zW zbJ zj zQ)) zw)))))),fun xs S R q=>q⟩
theorem zq3:Df P w K mg base "is_set" ["drawing","thing"] 2 (spN ["drawing","thing"] zgs):=by
 exact Df.dN dd.a51 zn9 0 rfl fun f cdv A outer s H E hr=>⟨_,_,(zf (zax (PW.pt (zea (zbp (zah (zo za1 (by rfl) T.n_isinstance zR (za (pv 1) (za (zbD rfl T.n_tuple zaf (v:=.ty "tuple") rfl) zd))) (fun _=>rfl))) (zd6 (zI (zem hr.units) (zo zE (by rfl) T.n_len zal (za (pv 1) zd)) (zo zE (by rfl) T.n_len zal (za (pv 0) zd)) (nomark _))))) (zm (zy zbW)) zJ) (zm (zy (zo (zcv rfl) (by rfl) T.n_all zgQ (za (zap (fun _ _ h=>h) rfl (zF (L:=0) rfl rfl rfl rfl (N:=["number","part"]) (caps:=[none,none]) (by show zak ["drawing","thing"] (zi zjb).names _ _ _=true; decide +kernel)) (zdU rfl T.n_zip (za (pv 1) (za (pv 0) zd))) (fun _ _ _ _=>(zbu (n:=2) rfl (zC (zt (i:=0) (by show List.Nodup (["number","part"]:List Str); decide) rfl (Or.inl rfl)) (zC (zt (i:=1) (by show List.Nodup (["number","part"]:List Str); decide) rfl (Or.inl rfl)) zaQ)))) (fun _ _ _ _=>zV) (fun _ _ _ _=>(ze9 (zu zfs hr dz (za (pv 0) zd)) (zet (ziu zmz zmz (zB zr (pv 1) ze (fun _ _=>rfl)) (pv 0) (zB zr (pv 1) ze (fun _ _=>rfl))))))) zd))))),(zK (by walk_at "r") (zaM (zbf zfW (zg (zaa (zey (zg zj (zg zj zw))) (zd8 (zat zv (zat zv zcD))) zU (zhX (zaE (zg zj zw)) (zje zkV zkV (zW zbJ zj zQ) zj (zW zbJ zj zQ)))) zw)))),fun xs S R q=>q⟩
theorem zkk:Df P w K mg base "is_why_not" ["job","offers","price","beginning","why"] 3 (spN ["job","offers","price","beginning","why"] zcU):=by
 exact Df.dN dd.a52 zjf 0 rfl fun f cdv A outer s H E hr=>⟨_,_,(zf (zax (zI (zbF hr.units) (pv 4) (zaq (za zch zd)) (nomark _)) (zm (zy (zbO zqx (zu zik hr dz (za (pv 1) (za (pv 3) zd))) (pv 2) (nomark _)))) zJ) (zf (zax (PW.pt (zea (zbp (zah (zo za1 (by rfl) T.n_isinstance zR (za (pv 4) (za (zbD rfl T.n_tuple zaf (v:=.ty "tuple") rfl) zd))) (fun _=>rfl))) (zea (zI (zem hr.units) (zo zE (by rfl) T.n_len zal (za (pv 4) zd)) ze (nomark _)) (zd6 (zI (zem hr.units) (zB zr (pv 4) ze (fun _ _=>rfl)) zch (nomark _)))))) (zm (zy zbW)) zJ) (zf (zax (PW.pt (zea (zbp (zah (zu zfs hr dz (za (zB zr (pv 4) ze (fun _ _=>rfl)) zd)) (fun _=>rfl))) (zd6 (zbp (zpW zmz zgH ze (zB zr (pv 4) ze (fun _ _=>rfl)) (zo zE (by rfl) T.n_len zal (za (zB zr (pv 0) ze (fun _ _=>rfl)) zd))))))) (zm (zy zbW)) zJ) (zm (zy (ze9 (zu zq3 hr dz (za (zu zgz hr dz (za (zB zr (pv 0) ze (fun _ _=>rfl)) (za (pv 1) (za (pv 3) zd)))) (za (zB zr (pv 4) ze (fun _ _=>rfl)) zd))) (zet (zpx (zu znZ hr dz (za (zB zr (zB zr (pv 0) ze (fun _ _=>rfl)) (zB zr (pv 4) ze (fun _ _=>rfl)) (fun _ _=>rfl)) (za (zB zr (pv 4) ze (fun _ _=>rfl)) zd))))))))))),(by walk_at "r"),fun xs S R q=>q⟩
theorem zis:Df P w K mg base "floor_holds" ["job","offers","price","thing"] 5 (spN ["job","offers","price","thing"] zcp):=by
 exact Df.dN dd.a53 zhv 0 rfl fun f cdv A outer s H E hr=>⟨_,_,(zf (zax (zbp (zah (zu zmH hr dz (za (zu zfE hr dz (za (pv 1) zd)) (za (pv 3) zd))) (fun _=>rfl))) (zm (zy zbW)) zJ) (zm (zy (zo (zcv rfl) (by rfl) T.n_all zgQ (za (zap (fun _ _ h=>h) rfl (zF rfl rfl rfl rfl (N:=["beginning","why","job","offers","price"]) (caps:=[none,none,some 0,some 1,some 2]) (by show zak ["job","offers","price","thing"] (zi zdc).names _ _ _=true; decide +kernel)) (zaz (pv 3)) (fun _ _ _ _=>(zbu (n:=2) rfl (zC (zt (i:=0) (by show List.Nodup (["beginning","why","job","offers","price"]:List Str); decide) rfl (Or.inl rfl)) (zC (zt (i:=1) (by show List.Nodup (["beginning","why","job","offers","price"]:List Str); decide) rfl (Or.inl rfl)) zaQ)))) (fun _ _ _ _=>zV) (fun _ _ _ _=>(zu zkk hr dz (za (pv 2) (za (pv 3) (za (pv 4) (za (pv 0) (za (pv 1) zd)))))))) zd))))),(zK (by walk_at "r") (zaM (zbf zfW (zg (zaa (zaX zj) (zd8 (zat zv (zat zv zcD))) zU (zaE (zg zj (zg zj (zg zj (zg zj (zg zj zw))))))) zw)))),fun xs S R q=>q⟩
theorem ok_law{f:Addr}{fd:FuncData}(F:Fun K "law" "law" s_law f fd):FnOk P w K mg base CX0 12 f fd ["script"] (sp1 (zvT K)):=by
 refine F.ok1 zc7 (fun v=>[some v,none,none,none,none,none,none,none,none,none]) (fun _=>rfl) fun cdv A outer s H v Q E hr h=>?_;obtain⟨a,ns,rfl,hS,hlen,q⟩:=h;refine⟨_,(zf (zbx PassesOwn.never rfl (zsB (zG zn1 (zaK (za (ztN ziU hr dz (pv 0) ze) zd)) (zbc zn4 (pv 0) (zbE ze) (zbE ze)))) (zt (i:=1) zc7.nd rfl (Or.inl rfl)) (zf (zA (i:=2) zc7.nd rfl lo (zu zkc hr dz (za (pv 1) zd))) (zf (zA (i:=3) zc7.nd rfl lo (ziy (zI (zbF hr.units) (zu zz hr dz (za (pv 2) (za ze zd))) ze (nomark _)) (zu zn5 hr dz (za (pv 2) (za ze zd))) (zu zdA hr dz (za (pv 2) (za ze zd))))) (zf (zA (i:=3) zc7.nd rfl lo (zbc zg5 (pv 3) zbY (zbE ze))) (zf (zax (zI (zbF hr.units) (zu zz hr dz (za (pv 2) (za ze zd))) ze (nomark _)) (zm (zA (i:=3) zc7.nd rfl lo (zu zdA hr dz (za (pv 2) (za ze zd))))) zJ) (zf (zA (i:=4) zc7.nd rfl lo (zu zg6 hr dz (za (pv 2) (za (pv 3) zd)))) (zf (zax (zI zhC (zo zE (by rfl) T.n_len zal (za (pv 3) zd)) ze (nomark _)) (zm (zA (i:=4) zc7.nd rfl lo (zad zO (by rfl) T.n_tuple zaf (za (zap (fun _ _ h=>h) rfl (zF (L:=0) rfl rfl rfl rfl (N:=["some"]) (caps:=[none]) (by show zak ["script","cell","pen","drawing","offers","gaps","least","price","found","kept"] (zi s_law).names _ _ _=true; decide +kernel)) (zaz (pv 4)) (fun _ _ _ _=>(zt (i:=0) (by show List.Nodup (["some"]:List Str); decide) rfl (Or.inl rfl))) (fun _ _ _ _=>zV) (fun _ _ _ _=>(zbc (zqw (K:=K) rfl) (pv 0) zbY (zbE ze)))) zd)))) zJ) (zf (zA (i:=5) zc7.nd rfl lo (zu zgv hr dz (za (pv 2) (za (pv 3) (za (pv 4) (za ze zd)))))) (zf (zA (i:=6) zc7.nd rfl lo (zu zht hr dz (za (pv 3) (za (pv 5) (za (pv 4) zd))))) (zm (zbx PassesOwn.never rfl (zaz (zu zjI hr dz (za (pv 4) (za (pv 6) zd)))) (zt (i:=7) zc7.nd rfl (Or.inl rfl)) (zf (zA (i:=8) zc7.nd rfl lo (zu zh7 hr dz (za (zaq (za (pv 3) (za (pv 5) zd))) (za (pv 4) (za (pv 7) zd))))) (zf (zax (zI (zem hr.units) (zbO zkI (pv 8) zdG (nomark _)) (ze9 (zbO zgl (pv 6) zdG (nomark _)) (zet (zbO zgH (pv 6) (pv 7) (nomark _)))) (nomark _)) (zm (zy zbW)) zJ) (zm (zax (zI zgl (pv 8) zdG (nomark _)) (zf (zax (zbp (zah (zu zkN hr dz (za (pv 3) (za (pv 5) (za (pv 4) (za (pv 7) (za (pv 8) zd)))))) (fun _=>rfl))) (zm (zy zbW)) zJ) (zf (zax (zI zte (zu zis hr dz (za (zaq (za (pv 3) (za (pv 5) zd))) (za (pv 4) (za (pv 7) (za (pv 8) zd))))) zbW (nomark _)) (zm (zy zbW)) zJ) (zf (zA (i:=9) zc7.nd rfl lo (zad zdM (by rfl) T.n_list zfA (za (pv 8) zd))) (zf (zbQ (ze0 PySem.F.plainAttrs_list PySem.F.slot_list_append PySem.F.type_list_append zbz (pv 8) (za ze zd))) (zm (zax (zI (zem hr.units) (zu zh7 hr dz (za (zaq (za (pv 3) (za (pv 5) zd))) (za (pv 4) (za (pv 7) zd)))) (pv 9) (nomark _)) (zm (zy zbW)) zJ)))))) zJ))))))))))))))) (zm (zy zbW))),?_⟩;exact zs1 (m:=9) (db:=zsY) (zK (zaS (zaE (zg zj zw)) zv) (zK (zaS (zvy (zqD (zW zhK (zbm (i:=0) (zg zj (zg zQ zw))) zQ)) (zbm (i:=0) (zg zj (zg zQ zw))) (zbm (i:=0) (zg zj (zg zQ zw)))) zv) (zK (zaS (zi9 zfG zj zdh (zdq zQ)) zv) (zK (ze8 (zqD (zW zhK (zbm (i:=0) (zg zj (zg zQ zw))) zQ)) (zaS (zbm (i:=0) (zg zj (zg zQ zw))) zv) zbZ) (zK (zaS (zbm (i:=0) (zg zj (zg zj zw))) zv) (zK (ze8 (zqD (zW zkV (zbf zb9 (zg zj zw)) zQ)) (zaS (zbf zcM (zg (zaa (zaX zj) zv zU (zi9 zfG zj zdh (zdq zQ))) zw)) zv) zbZ) (zK (zaS (zbm (i:=0) (zg zj (zg zj (zg zj (zg zQ zw))))) zv) (zK (zaS (zaE (zg zj (zg zj (zg zj zw)))) zv) (zil (zaX (zaE (zg zj (zg zj zw)))) zv (zK (zaS (zaE (zg (zdN (zg zj (zg zj zw))) (zg zj (zg zj zw)))) zv) (zK (ze8 (zqD (zW zlH (zpc zj) (zhX (zkF zj) (zW zkV zj zj)))) (zaM zhJ) zbZ) (ze8 (zqD (zlD zj)) (zK (ze8 (zin (zgL (ziD (zg zj (zg zj (zg zj (zg zj (zg zj zw)))))))) (zaM zhJ) zbZ) (zK (ze8 (zqD (zW zne (ziD (zg (zdN (zg zj (zg zj zw))) (zg zj (zg zj (zg zj zw))))) zhJ)) (zaM zhJ) zbZ) (zK (zaS (zbf zlj (zg zj zw)) zv) (zK (zgJ (zof zju zj (zg zQ zw))) (ze8 (zqD (zW zlH (zaE (zg (zdN (zg zj (zg zj zw))) (zg zj (zg zj zw)))) zj)) (zaM zhJ) zbZ))))) zbZ)))))))))))) rfl rfl hS hlen (fun n=>zk8 a n) dz fun _ H2 _=>q H2
end
end My
theorem zeR:L2.tabsG=[((184,180),L2.lamKey (("floor_of" ++ ".<locals>.") ++ "<lambda>") ⟨99,33,0,0⟩)]:=rfl
namespace PySem.W.Fast
def tw13868065314355599736:Unit:=()
def tw17339622993839791555:Unit:=()
def tw10745531481146578314:Unit:=()
def tw13027356034334809496:Unit:=()
def tw2551028299641855294:Unit:=()
def tw9819311106541542681:Unit:=()
def tw17400310957499475607:Unit:=()
def tw10629782900777521916:Unit:=()
def tw16406400243837782438:Unit:=()
def tw2797969669633683527:Unit:=()
def tw8215673879137684271:Unit:=()
def tw16107458395471686113:Unit:=()
def tw14073388804041743104:Unit:=()
def tw9584956787292548579:Unit:=()
def tw5336582135976584471:Unit:=()
def tw15945969139066626169:Unit:=()
def tw2443009850360639262:Unit:=()
def tw12963960397113181574:Unit:=()
def tw10110283782330361952:Unit:=()
def tw8458235766164283162:Unit:=()
def tw13064882057019972480:Unit:=()
def tw11049199303331849668:Unit:=()
def tw15386933477686126041:Unit:=()
def tw2530171112935371809:Unit:=()
def tw2619776081635663491:Unit:=()
def tw17253758901625688319:Unit:=()
def tw18094581511074613821:Unit:=()
def tw11038414640634711906:Unit:=()
def tw4482964658421350628:Unit:=()
def tw2908313039874850831:Unit:=()
def tw5134810389546247584:Unit:=()
def tw1333175487707703459:Unit:=()
def tw13879433757830861460:Unit:=()
def tw8080141355311828351:Unit:=()
def tw15441359794905775008:Unit:=()
def tw9156672266828532114:Unit:=()
def tw11265466178207350161:Unit:=()
def tw7938967970791048090:Unit:=()
def tw15730593056770925288:Unit:=()
def tw2323075779727599891:Unit:=()
def tw1257954684562040327:Unit:=()
def tw17948090341303027284:Unit:=()
def tw6658611559504482036:Unit:=()
def tw5212206236948860093:Unit:=()
def tw16365174448045655301:Unit:=()
def tw14704662850034391037:Unit:=()
def tw13102518915545526173:Unit:=()
def tw7701092226835044622:Unit:=()
def tw6338295113973355045:Unit:=()
def tw17306632080004679767:Unit:=()
def tw13081943699187130174:Unit:=()
def tw17238938766914518473:Unit:=()
def tw14412255669347814458:Unit:=()
def tw17775392929326960997:Unit:=()
def tw14262536547007153384:Unit:=()
def tw15098355649720639899:Unit:=()
def tw14297954492316046740:Unit:=()
def tw3450111755869061292:Unit:=()
def tw1831637746867206030:Unit:=()
def tw12545128508452255275:Unit:=()
def tw11738431445543154917:Unit:=()
def tw6974371882448454420:Unit:=()
def tw15200433008229323665:Unit:=()
def tw15867762239614937651:Unit:=()
def tw11012355588785894674:Unit:=()
def tw4748944105260517532:Unit:=()
def tw3278511792977624711:Unit:=()
def tw3927969442394469472:Unit:=()
def tw5947459889997213458:Unit:=()
def tw7729631639353105499:Unit:=()
def tw14669921347450284606:Unit:=()
def tw3992740375097306418:Unit:=()
def tw2521518705735249489:Unit:=()
def tw10669322584270462492:Unit:=()
def tw16102786668649525500:Unit:=()
def tw14877351571035781417:Unit:=()
def tw11510898006809679008:Unit:=()
def tw10243940651141589475:Unit:=()
def tw5188404569300258942:Unit:=()
def tw3485352064539479:Unit:=()
def tw1468338611306759578:Unit:=()
def tw2808121399653952624:Unit:=()
def tw1793362704379649062:Unit:=()
def tw14276291423441377787:Unit:=()
def tw7239177127564815822:Unit:=()
def tw13427940716542393673:Unit:=()
def tw1805649155402712442:Unit:=()
def tw3500421264746172406:Unit:=()
def tw1017748119520751226:Unit:=()
def tw11890715471034457697:Unit:=()
def tw2468549861622262995:Unit:=()
def tw18060817218578437638:Unit:=()
def tw3409449924637736429:Unit:=()
def tw6896766587582502410:Unit:=()
def tw8345780008355264552:Unit:=()
def tw2064967406404469128:Unit:=()
def tw8017104397084975775:Unit:=()
def tw9367704908503105275:Unit:=()
def tw15361238284684088871:Unit:=()
def tw2363919324719966728:Unit:=()
def tw10066771161625997135:Unit:=()
def tw4313020744256418116:Unit:=()
def tw16888837899006425392:Unit:=()
def tw16108835834363877619:Unit:=()
def tw8500932035376574324:Unit:=()
def tw11412540417008244055:Unit:=()
def tw5461786231687694633:Unit:=()
def tw16479366910734115493:Unit:=()
def tw5740806400461384752:Unit:=()
def tw18412079356017776383:Unit:=()
def tw14513606307071947754:Unit:=()
def tw10258030105738484944:Unit:=()
def tw3206216962977144913:Unit:=()
def tw8282789995595954577:Unit:=()
def tw442188240087447812:Unit:=()
def tw4973477445124420274:Unit:=()
def tw603496781376780693:Unit:=()
def tw4068933084402701957:Unit:=()
def tw5095709150279459557:Unit:=()
def tw10714748934026016411:Unit:=()
def tw6889669072420226655:Unit:=()
def tw14872342060611310472:Unit:=()
def tw11948237804387217360:Unit:=()
def tw13644683944788612132:Unit:=()
def tw5467436098794737613:Unit:=()
def tw6671564946654217111:Unit:=()
def tw15889122548802857685:Unit:=()
def tw4668608762318518595:Unit:=()
def tw11123999445879270251:Unit:=()
def tw6347447504972234718:Unit:=()
def tw3867464883616586870:Unit:=()
def tw10724299562789754954:Unit:=()
def tw4937972642231671211:Unit:=()
def tw3093338810373254678:Unit:=()
def tw3646401392924038348:Unit:=()
def tw5413033412061173605:Unit:=()
def tw3734012522182696851:Unit:=()
def tw4397324545804575069:Unit:=()
def tw9077214463198456432:Unit:=()
def tw9424100261817391599:Unit:=()
def tw7386403356914040038:Unit:=()
def tw3357681258568583238:Unit:=()
def tw7779550795180155152:Unit:=()
def tw17576458719121453295:Unit:=()
def tw17794000644513101569:Unit:=()
def tw4395990540670626526:Unit:=()
def tw11082826307449384678:Unit:=()
def tw729658058017877888:Unit:=()
def tw13066900483172555900:Unit:=()
def tw9817839149462424403:Unit:=()
def tw5760914833825879470:Unit:=()
def tw595998556744326338:Unit:=()
end PySem.W.Fast
open PySem PySem.W PyProof.Rows L2
set_option maxRecDepth 100000 in
set_option maxHeartbeats 0 in
theorem PySem.Challenge.cw_gaugewright_k39_floors_holds : PySem.Challenge.rw_gaugewright_k39_floors.Holds := by
 w_on; o_law; k_head; (case hw=>w_witness2)
 k_fill
 refine L2.walk_law (l := PySem.Challenge.rw_gaugewright_k39_floors) (k := 12) rfl rfl ⟨rfl, by decide, by decide⟩ (fun w h Y => W.km_in_of Y) ?TT ?F
 case TT =>
  intro w h Y;have KX:=W.km_in_of Y;have t8:=W.km_tabs_of Y;refine⟨?nd,?hd,?em,?of⟩
  case nd=>rw [zeR]; exact nodup_cons.mpr ⟨by simp,nodup_nil⟩
  case hd=>rw [zeR]; exact List.forall_mem_cons.mpr ⟨W.codeHd_of_K (c:=184) (P:=180) KX (by kernel_rfl),fun _ h=>nomatch h⟩
  case em=>rw [zeR]; exact List.forall_mem_cons.mpr ⟨t8 180 (by k_mem),fun _ h=>nomatch h⟩
  case of=>rw [zeR]; exact List.forall_mem_cons.mpr ⟨(by kernel_rfl),fun _ h=>nomatch h⟩
 case F =>
  intro w mg fa h KX G hmg;have d_law:Dd (L2.KOf KX) mg "law" My.s_law ["script"]:=by
   dsimp only [L2.KOf];refine' Dd.mk' KX G ?a ?l ?c ?k ?b
   (case a=>k_is); (case l=>k_is); (case c=>k_is); (case k=>k_is); (case b=>intro _ _ _ _ _ _ us hl; obtain⟨_,rfl⟩:=L2.len1 hl; rfl)
  have g15:∃ t,mg "MOST_CHOICES" = some (.int 300 t):=by
   apply Exists.intro;apply W.mg_of KX G
   k_is
  have T:My.Txt mg:=by
   refine' ⟨W.mg_none_of KX G ?z0,W.mg_none_of KX G ?z1,W.mg_none_of KX G ?z2,W.mg_none_of KX G ?z3,W.mg_none_of KX G ?z4,W.mg_none_of KX G ?z5,W.mg_none_of KX G ?z6,W.mg_none_of KX G ?z7,W.mg_none_of KX G ?z8,W.mg_none_of KX G ?z9,W.mg_none_of KX G ?z10,W.mg_none_of KX G ?z11,W.mg_none_of KX G ?z12,W.mg_none_of KX G ?z13,W.mg_none_of KX G ?z14,g15⟩
   (case z0=>k_is); (case z1=>k_is); (case z2=>k_is); (case z3=>k_is); (case z4=>k_is); (case z5=>k_is); (case z6=>k_is); (case z7=>k_is); (case z8=>k_is); (case z9=>k_is); (case z10=>k_is); (case z11=>k_is); (case z12=>k_is); (case z13=>k_is); (case z14=>k_is)
  have dd:My.Dds (L2.KOf KX) mg:=by constructor <;> (dsimp only [L2.KOf]; refine' Dd.mk' KX G ?a ?l ?c ?k ?b; (case a=>k_is); (case l=>k_is); (case c=>k_is); (case k=>k_is); (case b=>(intro _ _ _ _ _ _ us hl; first | (obtain⟨_,rfl⟩:=L2.len1 hl; rfl) | (obtain⟨_,_,rfl⟩:=L2.len2 hl; rfl) | (obtain⟨_,_,_,rfl⟩:=L2.len3 hl; rfl) | (obtain⟨_,_,_,_,rfl⟩:=L2.len4 hl; rfl) | (obtain⟨_,_,_,_,_,rfl⟩:=L2.len5 hl; rfl) | (obtain⟨_,_,_,_,_,_,rfl⟩:=L2.len6 hl; rfl))))
  obtain⟨f,fd,F,hm,_⟩:=d_law.ex;have e0:=hmg.symm.trans hm;cases e0;have ll:My.Lams (L2.KOf KX) mg:=⟨⟨184,180,L2.CodeAt.of (P:=180) KX G (by dsimp only [L2.KOf]; kernel_rfl),by rw [zeR]; exact mem_cons_self⟩⟩;exact⟨fd,F.bind1 fun _ _ _ _ _ _ _=>rfl,fun base _ _=>My.ok_law T dd ll F⟩
#print axioms PySem.Challenge.cw_gaugewright_k39_floors_holds
end