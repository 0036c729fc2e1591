import PyProof.Rows.All
import Wide.All
import OpenK.AllK
import Wide.FinOn
import Lean
import PyProof.EqAt
import PyProof.EqKinds
import PyProof.TupleCall
import KE.KTupSum
import KE.KSortTup
import PyProof.SetKind
import PyProof.SetRoads
import PyProof.SetNew
import PyProof.DictKinds
import PyProof.NsDelKeeps
import PyProof.StrWalks
import KE.KEqDict
import KE.KDictList
import PyProof.AttrMissSeq
import PyProof.WalksMore
import KE.KDictOf
import PyProof.Rows.Range3
import KE.KItemsList
import PyProof.FactsAll.dict_3
import KE.KMinKey
import PyProof.Rows.CallKwBuiltin
import PyProof.TupleOfSeq
import KE.KLam
import KE.KNestM
import PySem.Challenge.RW_gaugewright_k69_whole_nothing_cheaper_do
open Option (isSome_iff_exists isSome_map map_eq_some_iff map_some toList_some)
open Nat (le_add_right le_of_eq le_of_lt le_refl le_succ le_trans lt_irrefl lt_of_lt_of_le lt_succ_of_lt mul_comm mul_le_mul ne_of_gt ne_of_lt pow_succ succ_mul succ_ne_self zero_add zero_le)
open List (all_cons all_eq_true all_map any_cons any_eq_true append_assoc append_nil cons_append drop_eq_getElem_cons drop_length drop_zero eq_nil_of_length_eq_zero filterMap_cons filter_cons find?_cons flatten_cons forIn_cons forIn_nil forall_mem_cons getD_eq_getElem?_getD getElem?_append_left getElem?_append_right getElem?_concat_length getElem?_cons_succ getElem?_cons_zero getElem?_eq_getElem getElem?_map getElem?_set_ne getElem?_set_self getElem?_zip_eq_some getElem_mem isPrefixOf_iff_prefix length_append length_cons length_drop length_map length_nil length_range length_set length_singleton length_take lookup_cons map_append map_congr_left map_cons map_id' map_map map_nil map_set map_take mem_append mem_append_left mem_append_right mem_cons mem_cons_of_mem mem_cons_self mem_filter mem_flatMap mem_iff_getElem? mem_map mem_map_of_mem mem_of_getElem? mem_of_mem_drop mem_of_mem_take mem_range mem_reverse mem_singleton nil_append nodup_append nodup_cons nodup_nil not_mem_nil of_mem_zip replicate_succ reverse_cons set_cons_succ set_cons_zero size_toArray sum_append sum_cons take_add_one take_length take_of_length_le take_zero zip_cons_cons)
open PySem.Heap (get?_push_of_some get?_push_size get?_update_other get?_update_self lt_size size_push size_update)
open Array (length_toList)
theorem dz{p:Prop}[Decidable p](h:decide p=true:=by rfl):p:=of_decide_eq_true h
set_option Elab.async false
set_option linter.all false
set_option maxRecDepth 100000
set_option maxHeartbeats 8000000
noncomputable section
namespace L2
open PySem PySem.Spec PyProof.Rows
section
abbrev Key:=Sum Int Str
def zlV:Key->Value->Bool
 | .inl k,v=>Value.isInt k v
 | .inr x,v=>Value.isStrOf x v
def zwo(w:World):Key->Int
 | .inl k=>hashInt k
 | .inr x=>hashStr w x
theorem zaY:∀ {k:Key} {v:Value},zlV k v=true->(∃ i t,k=Sum.inl i/\v=Value.int i t)\/(∃ x t,k=Sum.inr x/\v=Value.str x t)
 | .inl i,v,h=>by
  obtain⟨t,e⟩:=Value.isInt_shape (k:=i) (v:=v) h;exact .inl ⟨i,t,rfl,e⟩
 | .inr x,v,h=>by
  obtain⟨t,e⟩:=Value.isStrOf_shape (x:=x) (v:=v) h;exact .inr ⟨x,t,rfl,e⟩
theorem zny(i:Int)(t:Tok):zlV (.inl i) (.int i t)=true:=by simp [zlV,Value.isInt]
theorem znX(x:Str)(t:Tok):zlV (.inr x) (.str x t)=true:=by simp [zlV,Value.isStrOf]
theorem zuQ(a b:Int):decide ((Sum.inl a:Key)=Sum.inl b)=(a == b):=by
 by_cases e:a=b
 ·subst e; simp
 ·have h:¬ (Sum.inl a:Key)=Sum.inl b:=fun q=>e (Sum.inl.inj q);rw [decide_eq_false h];exact(beq_eq_false_iff_ne.mpr e).symm
theorem zuc(a b:Str):decide ((Sum.inr a:Key)=Sum.inr b)=decide (a=b):=by
 by_cases e:a=b
 ·subst e; simp
 ·have h:¬ (Sum.inr a:Key)=Sum.inr b:=fun q=>e (Sum.inr.inj q);rw [decide_eq_false h,decide_eq_false e]
theorem zs1(a:Int)(b:Str):decide ((Sum.inl a:Key)=Sum.inr b)=false:=decide_eq_false (fun q=>nomatch q)
theorem zs2(a:Str)(b:Int):decide ((Sum.inr a:Key)=Sum.inl b)=false:=decide_eq_false (fun q=>nomatch q)
def zbV(prog:Program)(w:World):PySem.KeyKind prog w Key where
 is:=zlV
 hash:=zwo w
 inj:=fun v a b ha hb=>by
  rcases zaY ha with ⟨i,t,rfl,rfl⟩ | ⟨x,t,rfl,rfl⟩
  ·rcases zaY hb with ⟨j,u,rfl,e⟩ | ⟨y,u,rfl,e⟩
   ·injection e with e1 _; rw [e1]
   ·exact nomatch e
  ·rcases zaY hb with ⟨j,u,rfl,e⟩ | ⟨y,u,rfl,e⟩
   ·exact nomatch e
   ·injection e with e1 _; rw [e1]
 byValue:=fun k v h=>by
  rcases zaY h with ⟨i,t,rfl,rfl⟩ | ⟨x,t,rfl,rfl⟩ <;> rfl
 pyHash:=fun hv h=>by
  rcases zaY hv with ⟨i,t,rfl,rfl⟩ | ⟨x,t,rfl,rfl⟩
  ·exact wpAny_pyHash_int h
  ·exact wpAny_pyHash_str h
 eqBool:=fun hu hv h=>by
  rcases zaY hu with ⟨i,t,rfl,rfl⟩ | ⟨x,t,rfl,rfl⟩
  ·rcases zaY hv with ⟨j,u,rfl,rfl⟩ | ⟨y,u,rfl,rfl⟩
   ·rw [zuQ] at h; exact wpAny_eqBool_int h
   ·rw [zs1] at h; exact SeqAt.EqAt.int_str i t y u _ _ _ _ h
  ·rcases zaY hv with ⟨j,u,rfl,rfl⟩ | ⟨y,u,rfl,rfl⟩
   ·rw [zs2] at h; exact SeqAt.EqAt.str_int x t j u _ _ _ _ h
   ·rw [zuc] at h; exact wpAny_eqBool_str h
 «strs»:=fun k x t v h=>by
  rcases zaY h with ⟨i,u,rfl,e⟩ | ⟨y,u,rfl,e⟩
  ·exact nomatch e
  ·injection e with e1 _
   subst e1;cases v <;> rfl
theorem zkj(prog:Program)(w:World)(i:Int)(t:Tok):(zbV prog w).is (.inl i) (.int i t)=true:=zny i t
theorem zkw(prog:Program)(w:World)(x:Str)(t:Tok):(zbV prog w).is (.inr x) (.str x t)=true:=znX x t
end
section
inductive V where
 | non | bl (b:Bool) | int (i:Int) | str (x:Str) | byt (b:Array UInt8) | flt (b:UInt64) | ref (a:Addr) | ty (n:String)
 deriving DecidableEq
def RelV:V->Value->Prop
 | .non,u=>u=Value.none
 | .bl b,u=>u=Value.bool b
 | .int i,u=>∃ t,u=Value.int i t
 | .str x,u=>∃ t,u=Value.str x t
 | .byt b,u=>∃ t,u=Value.bytes b t
 | .flt b,u=>∃ t,u=Value.float b t
 | .ref a,u=>u=Value.ref a
 | .ty n,u=>u=Value.type n
abbrev Vals:List V->List Value->Prop:=Paired RelV
theorem Vals.length{xs:List V}{us:List Value}(r:Vals xs us):xs.length=us.length:=Paired.length r
theorem Vals.get:∀ {xs:List V} {us:List Value} {i:Nat} {x:V},Vals xs us->xs[i]? = some x->∃ u,us[i]? = some u/\RelV x u
 | _,_,_,_,.nil,e=>by simp at e
 | _,_,0,_,.cons r _,e=>by simp at e; subst e; exact⟨_,rfl,r⟩
 | _,_,i+1,x,.cons _ t,e=>by
  obtain⟨u,h1,h2⟩:=Vals.get (i:=i) (x:=x) t (by simpa using e);exact⟨u,by simpa using h1,h2⟩
theorem Vals.set{x:V}{u:Value}(r:RelV x u):∀ {xs:List V} {us:List Value} (i:Nat),Vals xs us->Vals (xs.set i x) (us.set i u)
 | _,_,_,.nil=>.nil
 | _,_,0,.cons _ t=>.cons r t
 | _,_,i+1,.cons q t=>.cons q (Vals.set r i t)
theorem Vals.append:∀ {xs ys:List V} {us ws:List Value},Vals xs us->Vals ys ws->Vals (xs++ys) (us++ws)
 | _,_,_,_,.nil,s=>s
 | _,_,_,_,.cons r t,s=>.cons r (Vals.append t s)
theorem Vals.take:∀ {xs:List V} {us:List Value} (n:Nat),Vals xs us->Vals (xs.take n) (us.take n)
 | _,_,0,_=>.nil
 | _,_,_+1,.nil=>.nil
 | _,_,n+1,.cons r t=>.cons r (Vals.take n t)
theorem Vals.drop:∀ {xs:List V} {us:List Value} (n:Nat),Vals xs us->Vals (xs.drop n) (us.drop n)
 | _,_,0,r=>r
 | _,_,_+1,.nil=>.nil
 | _,_,n+1,.cons _ t=>Vals.drop n t
def RelO:Option V->Option Value->Prop
 | some v,some u=>RelV v u
 | none,none=>True
 | _,_=>False
def KV{κ:Type}:List (κ×V)->List (κ×Value)->Prop:=Paired fun(p:κ×V) (q:κ×Value)=>p.1=q.1/\RelV p.2 q.2
def kV:Key->V
 | .inl i=>.int i
 | .inr x=>.str x
inductive HO where
 | lst (xs:List V)
 | tup (xs:List V)
 | dK (kvs:List (Key×V)) | dT (kvs:List (List Key×V))
 | set (S:Int->Bool) (n:Nat)
 | ins (C dx:Addr) (fs:List (Str×V))
 | own (x:Addr)
 | xd (fs:List (Str×V))
 | met (f x:Addr)
 | rng (lo hi:Int)
 | frz (o:Obj) (u:HO)
 | tbl (ps:Array Value)
 | ext (φ:Heap->Prop)
abbrev Hp:=Addr->Option HO
def upd(H:Hp)(a:Addr)(o:HO):Hp:=fun b=>if b=a then some o else H b
theorem zau{H:Hp}{a:Addr}{o:HO}:upd H a o a=some o:=by unfold upd; rw [if_pos rfl]
theorem zR{H:Hp}{a b:Addr}{o:HO}(h:b≠a):upd H a o b=H b:=by unfold upd; rw [if_neg h]
theorem zvt{H:Hp}{a b:Addr}{o u:HO}(h:H a=some o)(h':H b=some u)(d:o≠u):a≠b:=by
 intro e; subst e; rw [h] at h'; exact d (Option.some.inj h')
theorem zQ{H:Hp}{a b:Addr}{o:HO}(h:H a=some o)(h':H b=none):a≠b:=by
 intro e; subst e; rw [h] at h'; cases h'
def TblOk(H:Hp)(ps qs:Array Value):Prop:=qs = #[]\/∃ (l c:Value) (q:Str) (t:Tok) (k:Addr) (oc:Obj) (vs:Array Value) (t':Tok),ps = #[l,c,.str q t]/\qs = #[l,c,.ref k]/\H k=some (.frz oc (.own 0))/\oc.data=.fields vs/\vs[1]? = some (.str q t')
theorem TblOk.stay{H H':Hp}{ps qs:Array Value}(x:TblOk H ps qs)(hf:∀ b o u,H b=some (.frz o u)->H' b=some (.frz o u)):TblOk H' ps qs:=by
 rcases x with x | ⟨l,c,q,t,k,oc,vs,t',e1,e2,e3,r⟩
 ·exact .inl x
 ·exact .inr ⟨l,c,q,t,k,oc,vs,t',e1,e2,hf _ _ _ e3,r⟩
section
variable (P:Program) (w:World)
def ObjOk(H:Hp)(h:Heap)(a:Addr):HO->Prop
 | .lst xs=>xs.length<=sizeLine/\∃ (its:List Value) (n:Nat),Vals xs its/\h.get? a=some { cls:=.type "list",data:=.seq its.toArray n }
 | .tup xs=>(xs.length<=sizeLine/\∃ o:Obj,h.get? a=some o/\o.dict=none)/\∃ its:List Value,Vals xs its/\IsTup h a its.toArray
 | .dK kvs=>kvs.length<=sizeLine/\(a == sysModules)=false/\∃ vs,KV kvs vs/\h.DictOf (zbV P w) a vs
 | .dT kvs=>kvs.length<=sizeLine/\(a == sysModules)=false/\∃ xs:List (List Key×Addr×Value),
   Paired (fun(p:List Key×V) (q:List Key×Addr×Value)=>p.1=q.1/\H q.2.1=some (.tup (p.1.map kV))/\RelV p.2 q.2.2) kvs xs /\
   ∃ o es ep,h.get? a=some o/\o.ExactDict/\o.data=.dict es ep/\es.toList=xs.map (entryOfKey (tupleKind (zbV P w)))/\(xs.map (·.1)).Nodup
 | .set S n=>h.SetOf (intKind P w) a S n
 | .ins C dx fs=>H dx=some (.own a)/\fs.length<=1000/\dx≠a/\h.get? a=some (W.instObj C dx) /\
   ∃ mA,h.Ns1 dx mA/\(∀ f,RelO (fs.lookup f) (mA f))/\PySem.Within mA (fs.map (·.1))
 | .own _=>∃ o,h.get? a=some o
 | .xd fs=>∃ mA,h.Ns1 a mA/\∀ f,RelO (fs.lookup f) (mA f)
 | .rng lo hi=>∃ t u v,h.get? a=some { cls:=.type "range",data:=.fields #[.int lo t,.int hi u,.int 1 v] }
 | .frz o u=>h.get? a=some o/\ObjOk H h a u
 | .tbl ps=>∃ qs:Array Value,h.get? a=some { cls:=.none,data:=.fields qs }/\TblOk H ps qs
 | .met f x=>h.get? a=some (W.methodObj (.ref f) (.ref x))
 | .ext φ=>φ h/\(∃ o,h.get? a=some o)/\∀ h1 h2:Heap,φ h1->(∀ o,h1.get? a=some o->h2.get? a=some o)->φ h2
def HOk(H:Hp)(h:Heap):Prop:=∀ a o,H a=some o->ObjOk P w H h a o
end
section
variable {P:Program} {w:World} {H H':Hp} {h h':Heap} {a:Addr} {o:HO}
theorem ObjOk.lt(x:ObjOk P w H h a o):a<h.objs.size:=by
 cases o with
 | lst xs=>obtain⟨_,_,_,_,e⟩:=x; exact lt_size e
 | tup xs=>obtain⟨_,_,_,p⟩:=x; exact p.lt
 | dK kvs=>obtain⟨_,_,_,_,o,_,_,e,_⟩:=x; exact lt_size e
 | dT kvs=>obtain⟨_,_,_,_,o,_,_,e,_⟩:=x; exact lt_size e
 | set S n=>obtain⟨o,_,_,_,e,_⟩:=x; exact lt_size e
 | ins C dx fs=>obtain⟨_,_,_,e,_⟩:=x; exact lt_size e
 | own y=>obtain⟨_,e⟩:=x; exact lt_size e
 | xd fs=>obtain⟨_,⟨_,_,_,e,_⟩,_⟩:=x; exact lt_size e
 | rng lo hi=>obtain⟨_,_,_,e⟩:=x; exact lt_size e
 | frz ob u=>obtain⟨e,_⟩:=x; exact lt_size e
 | tbl ps=>obtain⟨_,e,_⟩:=x; exact lt_size e
 | met f y=>exact lt_size (show h.get? a=some _ from x)
 | ext φ=>obtain⟨_,⟨_,e⟩,_⟩:=x; exact lt_size e
theorem Paired.mapP{α β:Type}{F G:α->β->Prop}:∀ {l₁:List α} {l₂:List β},Paired F l₁ l₂->(∀ a b,F a b->G a b)->Paired G l₁ l₂
 | _,_,.nil,_=>.nil
 | _,_,.cons r t,f=>.cons (f _ _ r) (Paired.mapP t f)
theorem ObjOk.stay(x:ObjOk P w H h a o)(k:∀ b u,(b=a\/H b=some (.own a))->h.get? b=some u->h'.get? b=some u)
  (ho:∀ b,H b=some (.own a)->H' b=some (.own a)) (ht:∀ b xs,H b=some (.tup xs)->H' b=some (.tup xs))
  (hf:∀ b o u,H b=some (.frz o u)->H' b=some (.frz o u):=by first | exact fun _ _ _ q=>q | (intro b o u q; rw [zR (zQ q (by assumption))]; exact q)):ObjOk P w H' h' a o:=by
 induction o with
 | lst xs=>obtain⟨z,its,n,r,e⟩:=x; exact⟨z,its,n,r,k _ _ (.inl rfl) e⟩
 | tup xs=>obtain⟨⟨z,o2,e2,d2⟩,its,r,ob,e,c⟩:=x; exact⟨⟨z,o2,k _ _ (.inl rfl) e2,d2⟩,its,r,ob,k _ _ (.inl rfl) e,c⟩
 | dK kvs=>obtain⟨z,y,vs,r,ob,es,ep,e,c⟩:=x; exact⟨z,y,vs,r,ob,es,ep,k _ _ (.inl rfl) e,c⟩
 | dT kvs =>
  obtain⟨z,y,xs,r,ob,es,ep,e,c⟩:=x;exact⟨z,y,xs,Paired.mapP r fun p q z=>⟨z.1,ht _ _ z.2.1,z.2.2⟩,ob,es,ep,k _ _ (.inl rfl) e,c⟩
 | set S n=>obtain⟨ob,es,ep,t,e,c⟩:=x; exact⟨ob,es,ep,t,k _ _ (.inl rfl) e,c⟩
 | ins C dx fs =>
  obtain⟨d,z,ne,e,mA,⟨od,es,ep,e2,c⟩,r⟩:=x;exact⟨ho _ d,z,ne,k _ _ (.inl rfl) e,mA,⟨od,es,ep,k _ _ (.inr d) e2,c⟩,r⟩
 | own y=>obtain⟨ob,e⟩:=x; exact⟨ob,k _ _ (.inl rfl) e⟩
 | xd fs=>obtain⟨mA,⟨od,es,ep,e,c⟩,r⟩:=x; exact⟨mA,⟨od,es,ep,k _ _ (.inl rfl) e,c⟩,r⟩
 | rng lo hi=>obtain⟨t,u,v,e⟩:=x; exact⟨t,u,v,k _ _ (.inl rfl) e⟩
 | frz ob u ih=>obtain⟨e,q⟩:=x; exact⟨k _ _ (.inl rfl) e,ih q⟩
 | tbl ps =>
  obtain⟨qs,e,q⟩:=x;exact⟨qs,k a _ (.inl rfl) e,q.stay hf⟩
 | met f y =>
  have e:h.get? a=some (W.methodObj (.ref f) (.ref y)):=x;show h'.get? a=some (W.methodObj (.ref f) (.ref y));exact k a _ (.inl rfl) e
 | ext φ=>obtain⟨p,⟨o,e⟩,st⟩:=x; exact⟨st _ _ p fun o q=>k _ _ (.inl rfl) q,⟨o,k _ _ (.inl rfl) e⟩,st⟩
theorem HOk.lt(x:HOk P w H h)(e:H a=some o):a<h.objs.size:=(x a o e).lt
theorem HOk.fresh(x:HOk P w H h)(e:h.objs.size<=a):H a=none:=by
 cases q:H a with
 | none=>rfl
 | some u=>exact absurd (lt_of_lt_of_le (x.lt q) e) (lt_irrefl _)
theorem HOk.kept(x:HOk P w H h)(k:∀ b u,h.get? b=some u->h'.get? b=some u):HOk P w H h':=fun a o e =>
 (x a o e).stay (fun b u _ q=>k b u q) (fun _ q=>q) fun _ _ q=>q
theorem HOk.laid(x:HOk P w H h)(k:∀ b u,h.get? b=some u->h'.get? b=some u)(hp:h.objs.size<=a)(new:ObjOk P w (upd H a o) h' a o):HOk P w (upd H a o) h':=fun b u e=>by
 have hn:=x.fresh hp;by_cases hb:b=a
 ·subst hb; rw [zau] at e; cases e; exact new
 ·rw [zR hb] at e;exact(x b u e).stay (fun c v _ q=>k c v q) (fun c q=>by rw [zR (zQ q hn)]; exact q) fun c xs q=>by rw [zR (zQ q hn)]; exact q
end
def Rd(H:Hp)(a:Addr)(u:HO):Prop:=H a=some u\/∃ o,H a=some (.frz o u)
theorem Rd.ok{P:Program}{w:World}{H:Hp}{h:Heap}{a:Addr}{u:HO}(r:Rd H a u)(x:HOk P w H h):ObjOk P w H h a u:=by
 rcases r with r | ⟨o,r⟩
 ·exact x a u r
 ·obtain⟨_,q⟩:=x a _ r;exact q
def Mut:Option HO->Prop
 | some (.lst _)=>True
 | some (.dK _)=>True
 | some (.dT _)=>True
 | some (.set _ _)=>True
 | some (.ins _ _ _)=>True
 | some (.ext _)=>True
 | _=>False
section
variable {P:Program} {w:World} {H:Hp} {h h':Heap} {x e:Addr} {o':HO}
theorem HOk.write(ok:HOk P w H h)(mu:Mut (H x))(he:e=x\/H e=some (.own x))(k:∀ b u,b≠e->h.get? b=some u->h'.get? b=some u)(heo:∃ u,h'.get? e=some u)
  (new:ObjOk P w (upd H x o') h' x o'):HOk P w (upd H x o') h':=fun b u q=>by
 have nown:∀ c y,H c=some (.own y)->c≠x:=fun c y r z=>by subst z; rw [r] at mu; exact mu
 have ntup:∀ c xs,H c=some (.tup xs)->c≠x:=fun c xs r z=>by subst z; rw [r] at mu; exact mu
 have nfrz:∀ c o u,H c=some (.frz o u)->c≠x:=fun c o u r z=>by subst z; rw [r] at mu; exact mu
 by_cases hb:b=x
 ·subst hb; rw [zau] at q; cases q; exact new
 ·rw [zR hb] at q;by_cases hbe:b=e
  ·have q':H b=some (.own x):=by
    rcases he with z | z
    ·exact absurd (hbe.trans z) hb
    ·rw [hbe]; exact z
   rw [q] at q'; cases q';obtain⟨v,hv⟩:=heo;exact⟨v,by rw [hbe]; exact hv⟩
  ·refine(ok b u q).stay (fun c v hc r=>k c v ?_ r) (fun c r=>by rw [zR (nown c b r)]; exact r) (fun c xs r=>by rw [zR (ntup c xs r)]; exact r) fun c o u r=>by rw [zR (nfrz c o u r)]; exact r
   rcases hc with rfl | hc
   ·exact hbe
   ·rintro rfl;rcases he with z | z
    ·exact nown c b hc z
    ·rw [hc] at z; cases z; exact hb rfl
end
structure Un(fs ex:List Addr)(H H':Hp)(h h':Heap):Prop where
 keep:∀ b o,h.get? b=some o->H b=none->b∉fs->b∉ex->h'.get? b=some o
 slot:∀ b o,h.get? b=some o->H b=none->b∈fs->b∉ex->∃ sl,h'.get? b=some { o with slots:=sl }
 free:∀ b o,h.get? b=some o->H b=none->b∉ex->H' b=none
 there:∀ b o,h.get? b=some o->b∉ex->∃ o',h'.get? b=some o'
 tups:∀ b xs,H b=some (.tup xs)->H' b=some (.tup xs)
 frzs:∀ b o u,H b=some (.frz o u)->H' b=some (.frz o u)
 tbls:∀ b ps,H b=some (.tbl ps)->H' b=some (.tbl ps)
section
variable {fs fs' ex ex':List Addr} {H H1 H2:Hp} {h h1 h2 h':Heap} {a x e:Addr} {o:HO}
theorem Un.any(u:Un fs ex H H1 h h1){b:Addr}{ob:Obj}(q:h.get? b=some ob)(n:H b=none)(hx:b∉ex):∃ sl,h1.get? b=some { ob with slots:=sl }:=by
 by_cases hb:b∈fs
 ·exact u.slot b ob q n hb hx
 ·exact⟨ob.slots,u.keep b ob q n hb hx⟩
theorem Un.trans(a:Un fs ex H H1 h h1)(b:Un fs ex H1 H2 h1 h2):Un fs ex H H2 h h2 where
 keep:=fun c ob q n hc hx=>b.keep c ob (a.keep c ob q n hc hx) (a.free c ob q n hx) hc hx
 slot:=fun c ob q n hc hx=>by
  obtain⟨sl,e1⟩:=a.slot c ob q n hc hx;obtain⟨sl',e2⟩:=b.slot c _ e1 (a.free c ob q n hx) hc hx;exact⟨sl',e2⟩
 free:=fun c ob q n hx=>by
  obtain⟨o',e1⟩:=a.there c ob q hx;exact b.free c o' e1 (a.free c ob q n hx) hx
 there:=fun c ob q hx=>by
  obtain⟨o',e1⟩:=a.there c ob q hx;exact b.there c o' e1 hx
 tups:=fun c xs q=>b.tups c xs (a.tups c xs q)
 frzs:=fun c ob xs q=>b.frzs c ob xs (a.frzs c ob xs q)
 tbls:=fun c ps q=>b.tbls c _ (a.tbls c ps q)
theorem Un.kept(k:∀ b u,h.get? b=some u->h'.get? b=some u):Un fs ex H H h h' :=
 ⟨fun b ob q _ _ _=>k b ob q,fun b ob q _ _ _=>⟨ob.slots,k b ob q⟩,fun _ _ _ n _=>n,fun b ob q _=>⟨ob,k b ob q⟩,fun _ _ q=>q,fun _ _ _ q=>q,fun _ _ q=>q⟩
theorem Un.refl:Un fs ex H H h h:=Un.kept fun _ _ q=>q
theorem Un.laid(k:∀ b u,h.get? b=some u->h'.get? b=some u)(hp:h.objs.size<=a)(hn:H a=none):Un fs ex H (upd H a o) h h' where
 keep:=fun b u q _ _ _=>k b u q
 slot:=fun b u q _ _ _=>⟨u.slots,k b u q⟩
 free:=fun b u q n _=>by rw [zR (ne_of_lt (lt_of_lt_of_le (lt_size q) hp))]; exact n
 there:=fun b u q _=>⟨u,k b u q⟩
 tups:=fun b xs q=>by rw [zR (zQ q hn)]; exact q
 frzs:=fun b u xs q=>by rw [zR (zQ q hn)]; exact q
 tbls:=fun b ps q=>by rw [zR (zQ q hn)]; exact q
theorem Un.write(mu:Mut (H x))(he:e=x\/H e=some (.own x))(k:∀ b u,b≠e->h.get? b=some u->h'.get? b=some u)(heo:∃ u,h'.get? e=some u):Un fs ex H (upd H x o) h h':=by
 have hx:∀ b,H b=none->b≠x:=fun b n z=>by subst z; rw [n] at mu; exact mu
 have hb:∀ b,H b=none->b≠e:=fun b n z=>by
  subst z;rcases he with r | r
  ·exact hx b n r
  ·rw [n] at r; cases r
 have hm:∀ b u,H b=some u->¬ Mut (some u)->b≠x:=fun b u q nm z=>by subst z; rw [q] at mu; exact nm mu
 refine⟨fun b u q n _ _=>k b u (hb b n) q,fun b u q n _ _=>⟨u.slots,k b u (hb b n) q⟩,fun b u q n _=>by rw [zR (hx b n)]; exact n,fun b u q _=>?_,
  fun b xs q=>by rw [zR (hm b _ q fun z=>z)]; exact q,fun b u xs q=>by rw [zR (hm b _ q fun z=>z)]; exact q,fun b ps q=>by rw [zR (hm b _ q fun z=>z)]; exact q⟩
 by_cases hbe:b=e
 ·subst hbe; exact heo
 ·exact⟨u,k b u hbe q⟩
theorem Un.mono(u:Un fs ex H H1 h h1)(hs:∀ b∈fs,b∈fs')(hx:∀ b∈ex,b∈ex'):Un fs' ex' H H1 h h1 :=
 ⟨fun b ob q n hb he=>u.keep b ob q n (fun z=>hb (hs b z)) fun z=>he (hx b z),fun _ _ q n _ he=>u.any q n fun z=>he (hx _ z),fun b ob q n he=>u.free b ob q n fun z=>he (hx b z),fun b ob q he=>u.there b ob q fun z=>he (hx b z),u.tups,u.frzs,u.tbls⟩
end
def trk(h:Heap)(H:Hp):List Addr:=(List.range h.objs.size).filter fun a=>(H a).isSome
def zpW(h:Heap)(H:Hp):Heap:=W.hideAll h (trk h H)
theorem znF(h:Heap)(H:Hp):(zpW h H).objs.size=h.objs.size:=W.hideAll_size _ _
theorem zpT{h:Heap}{H:Hp}{b:Addr}{o:Obj}(e:h.get? b=some o)(n:H b=none):(zpW h H).get? b=some o :=
 W.hideAll_get _ e fun hm=>by
  have q:(H b).isSome=true:=(mem_filter.mp hm).2;rw [n] at q; simp at q
theorem zsA{h:Heap}{H:Hp}{b:Addr}{o:Obj}(e:(zpW h H).get? b=some o):h.get? b=some o/\H b=none:=by
 have e':h.get? b=some o:=W.of_hideAll (trk h H) e;refine⟨e',?_⟩;cases q:H b with
 | none=>rfl
 | some x =>
  have hm:b∈trk h H:=mem_filter.mpr ⟨mem_range.mpr (lt_size e'),by simp [q]⟩;have z:(zpW h H).get? b=none:=W.hideAll_none (trk h H) hm;rw [z] at e; cases e
def zrQ(g h:Heap)(L:Addr):List (Addr×Obj):=(List.range h.objs.size).filterMap fun a=>if a=L\/(g.get? a).isSome=true then none else (h.get? a).map fun o=>(a,o)
def rest(g h:Heap)(L d:Addr):List (Addr×Obj):=(zrQ g h L).filter fun p=>decide (p.1≠d)
end
section
def tabsG:List ((Addr×Addr)×Array Value):=[((203,201),#[rawInt ((112:Nat):Int),rawInt ((26:Nat):Int),.str (("cheapest_filing" ++ ".<locals>.") ++ "<lambda>") 0]),((210,206),#[rawInt ((116:Nat):Int),rawInt ((33:Nat):Int),.str (("bar_of" ++ ".<locals>.") ++ "<lambda>") 0])]
def BltAt(base:Heap)(mg:Str->Option Value):Prop:=∃ bm ob,mg "__builtins__" = some (.ref bm)/\bm≠builtinsNs/\base.get? bm=some ob/\ob.cls=.type "module"/\ob.dict=some builtinsNs/\ob.data=.plain
structure Frf(fs:List Addr)(H:Hp):Prop where
 free:∀ b∈fs,H b=none
 tab:∀ q∈tabsG,H q.1.2=some (.tbl q.2)
structure Mod(K:W.Frag)(mg:Str->Option Value)(base:Heap):Prop where
 kin:K.In base
 glob:base.Ns mainGlobals mg
 blt:∃ mb,base.Ns builtinsNs mb/\∀ x:Str,x ≠ "__name__"->mb x=bootBuiltins x
 nolimit:base.NoLimit
 bm:BltAt base mg
 hd:∀ q∈tabsG,W.CodeHd base q.1.1 q.1.2
structure Cx where
 prog:Program
 w:World
 K:W.Frag
 mg:Str->Option Value
 base:Heap
 A:Around
 N:List Str
 s₀:Shared
 H₀:Hp
 env:Env
 outer:List Env
 stack:List Env
 ex:List Addr
 fn:Str->Bool
 calm:Bool
 pn:List (Addr×Obj)
 xe:Value->Shared->Prop
def frs(l:List Env):List Addr:=l.filterMap (·.frame)
abbrev Cx.fs (X:Cx):List Addr:=frs X.outer
def Vis(sc:Scope)(x:Str):Prop:=sc.names.lookup x=some .local\/sc.names.lookup x=some .cell\/sc.names.lookup x=some .free
def Loc(sc:Scope)(x:Str):Prop:=sc.names.lookup x=some .local\/sc.names.lookup x=some .cell
def Look(env:Env)(h:Heap)(m:Str->Option Value)(x:Str)(u:Value):Prop :=
 (env.kindOf x=some .local/\m x=some u)\/((env.kindOf x=some .cell\/env.kindOf x=some .free)/\∃ c,env.cells.lookup x=some c/\h.IsCell c (some u))
structure Cx.Ok(X:Cx):Prop where
 mod:Mod X.K X.mg X.base
 kind:X.env.scope.kind=.function
 glob:X.env.globals=mainGlobals
 blt:X.env.builtins=builtinsNs
 above:X.s₀.heap.objs.size<=X.env.locals
 inj:∀ x y c,X.env.cells.lookup x=some c->X.env.cells.lookup y=some c->x=y
 has:∀ x,(X.env.kindOf x=some .cell\/X.env.kindOf x=some .free)->∃ c,X.env.cells.lookup x=some c
 cab:∀ x c,X.fn x=true->X.env.cells.lookup x=some c->X.s₀.heap.objs.size<=c
 hd:X.calm=true->X.A.handled=none
 frames:X.A.frames=some X.stack
 stk:X.stack=X.outer\/(X.stack=X.env :: X.outer/\X.env.frame=some X.env.locals)
 exf:∀ b∈X.ex,b≠X.env.locals/\∀ x c,X.env.cells.lookup x=some c->c≠b
 bs:∀ b o,X.base.get? b=some o->X.s₀.heap.get? b=some o/\X.H₀ b=none
 bsz:X.base.objs.size<=X.s₀.heap.objs.size
 noex:∀ b o,X.base.get? b=some o->b∉X.ex
 exfs:∀ b∈X.ex,b∉X.fs
 funs:X.s₀.heap.FunFrames X.base X.outer
 frf:Frf X.fs X.H₀
structure Inv(X:Cx)(zn:List (Addr×Obj))(σ:List (Option V))(H:Hp)(s:Shared):Prop where
 ok:X.Ok
 os:s.os=X.s₀.os
 bare:AllBare s.gens
 base:Un X.fs X.ex X.H₀ H X.s₀.heap s.heap
 loc:∃ m,s.heap.Ns X.env.locals m/\∀ (i:Nat) (x:Str) (v:V),X.N[i]? = some x->σ[i]? = some (some v)->Vis X.env.scope x->∃ u,RelV v u/\Look X.env s.heap m x u
 cell:∀ x c,X.env.cells.lookup x=some c->∃ v,s.heap.IsCell c v
 free:H X.env.locals=none
 freeC:∀ x c,X.env.cells.lookup x=some c->H c=none
 pin:∀ p∈X.pn++zn,s.heap.get? p.1=some p.2/\H p.1=none/\p.1≠X.env.locals/\p.1∉X.fs/\∀ v,p.2.data≠.cell v
 hok:HOk X.prog X.w H s.heap
 len:σ.length=X.N.length
section
variable {X:Cx} {zn:List (Addr×Obj)} {σ:List (Option V)} {H H':Hp} {s:Shared} {h':Heap}
theorem Cx.Ok.nofr(ok:X.Ok){b:Addr}{o:Obj}(e:X.base.get? b=some o):b∉X.fs:=fun hb=>by
 have:=(ok.funs.mem hb).1;rw [e] at this; cases this
theorem Inv.bs(I:Inv X zn σ H s):∀ b o,X.base.get? b=some o->s.heap.get? b=some o/\H b=none:=fun b o e =>
 ⟨I.base.keep b o (I.ok.bs b o e).1 (I.ok.bs b o e).2 (I.ok.nofr e) (I.ok.noex b o e),I.base.free b o (I.ok.bs b o e).1 (I.ok.bs b o e).2 (I.ok.noex b o e)⟩
theorem Inv.bk(I:Inv X zn σ H s):∀ b o,X.base.get? b=some o->s.heap.get? b=some o:=fun b o e=>(I.bs b o e).1
theorem Inv.mod(I:Inv X zn σ H s):Mod X.K X.mg X.base:=I.ok.mod
theorem Inv.kIn(I:Inv X zn σ H s):X.K.In s.heap:=I.ok.mod.kin.keeps I.bk
theorem Inv.lt(I:Inv X zn σ H s):X.env.locals<s.heap.objs.size:=let ⟨_,hn,_⟩:=I.loc; hn.lt
theorem Inv.sz(I:Inv X zn σ H s):X.s₀.heap.objs.size<=s.heap.objs.size:=le_trans I.ok.above (le_of_lt I.lt)
theorem Inv.nofs(I:Inv X zn σ H s){a:Addr}(h:s.heap.objs.size<=a):a∉X.fs:=fun hb=>by
 obtain⟨_,o,ho,_⟩:=I.ok.funs.mem hb;exact absurd (lt_of_lt_of_le (lt_size ho) (le_trans I.sz h)) (lt_irrefl _)
theorem Inv.cne(I:Inv X zn σ H s):∀ x c,X.env.cells.lookup x=some c->c≠X.env.locals:=fun x c e z=>by
 obtain⟨v,o,ho,hd⟩:=I.cell x c e;obtain⟨m,⟨o',es,ep,ho',hd',_⟩,_⟩:=I.loc;rw [z,ho'] at ho; cases ho; rw [hd'] at hd; cases hd
theorem Inv.funs(I:Inv X zn σ H s):s.heap.FunFrames X.base X.outer:=by
 have all:∀ (l:List Env),(∀ b∈frs l,b∈X.fs)->X.s₀.heap.FunFrames X.base l->s.heap.FunFrames X.base l:=by
  intro l;induction l with
  | nil=>intro _ _; trivial
  | cons env r ih =>
   intro hs hl;obtain⟨hk,⟨L,o,hf,hn,ho,hd⟩,hr⟩:=hl;have hL:L∈X.fs:=hs L (by unfold frs; rw [filterMap_cons,hf]; exact mem_cons_self);obtain⟨sl,e⟩:=I.base.slot L o ho (I.ok.frf.free L hL) hL fun z=>I.ok.exfs L z hL;exact⟨hk,⟨L,_,hf,hn,e,hd⟩,ih (fun b hb=>hs b (by unfold frs; rw [filterMap_cons,hf]; exact mem_cons_of_mem _ hb)) hr⟩
 exact all X.outer (fun _ hb=>hb) I.ok.funs
theorem Inv.stack(I:Inv X zn σ H s):s.heap.FunFrames X.base X.stack:=by
 rcases I.ok.stk with e | ⟨e,hf⟩
 ·rw [e]; exact I.funs
 ·rw [e];obtain⟨m,hn,_⟩:=I.loc;refine .cons (by rw [I.ok.kind]; decide) hf hn ?_ I.funs;exact Heap.get?_none_of_le (le_trans I.ok.bsz I.ok.above)
theorem Inv.stkSub(I:Inv X zn σ H s):∀ b∈frs X.stack,b∈X.env.locals :: X.fs:=fun b hb=>by
 rcases I.ok.stk with e | ⟨e,hf⟩
 ·rw [e] at hb; exact mem_cons_of_mem _ hb
 ·rw [e] at hb;unfold frs at hb;rw [filterMap_cons,hf] at hb;exact hb
theorem Inv.stkFree(I:Inv X zn σ H s):Frf (frs X.stack) H:=⟨fun b hb=>by
 rcases mem_cons.mp (I.stkSub b hb) with e | hb
 ·rw [e]; exact I.free
 ·obtain⟨_,o,ho,_⟩:=I.ok.funs.mem hb;exact I.base.free b o ho (I.ok.frf.free b hb) fun z=>I.ok.exfs b z hb,fun q hq=>I.base.tbls _ _ (I.ok.frf.tab q hq)⟩
theorem Inv.step{g':Array GenState}{t':Nat}{d':Drawn}{ch:List Addr}(I:Inv X zn σ H s)
  (hch:∀ b∈ch,(b∈X.ex\/X.s₀.heap.objs.size<=b)/\b≠X.env.locals/\(∀ x c,X.env.cells.lookup x=some c->c≠b)/\∀ p∈X.pn++zn,p.1≠b)
  (keep:∀ b o,b≠X.env.locals->b∉X.fs->b∉ch->s.heap.get? b=some o->H b=none->h'.get? b=some o)
  (slot:∀ b o,b≠X.env.locals->b∈X.fs->b∉ch->s.heap.get? b=some o->H b=none->∃ sl,h'.get? b=some { o with slots:=sl }) (free:∀ b o,b∉ch->s.heap.get? b=some o->H b=none->H' b=none)
  (there:∀ b o,b∉ch->s.heap.get? b=some o->∃ o',h'.get? b=some o')
  (tups:∀ b xs,H b=some (.tup xs)->H' b=some (.tup xs)) (frzs:∀ b o u,H b=some (.frz o u)->H' b=some (.frz o u)) (tbls:∀ b ps,H b=some (.tbl ps)->H' b=some (.tbl ps))
  (ns:∀ m,s.heap.Ns X.env.locals m->h'.Ns X.env.locals m) (hok:HOk X.prog X.w H' h') (hg:AllBare g') :
  Inv X zn σ H' { s with heap:=h',gens:=g',drawn:=d',toks:=t' }:=by
 have neL:∀ b o,X.s₀.heap.get? b=some o->b≠X.env.locals:=fun b o e=>ne_of_lt (lt_of_lt_of_le (lt_size e) I.ok.above);have neC:∀ b o,X.s₀.heap.get? b=some o->b∉X.ex->b∉ch:=fun b o e hx hb=>by
  rcases(hch b hb).1 with z | z
  ·exact hx z
  ·exact absurd (lt_of_lt_of_le (lt_size e) z) (lt_irrefl _)
 have cellK:∀ x c,X.env.cells.lookup x=some c->∀ v,s.heap.IsCell c v->h'.IsCell c v:=fun x c e v ⟨o,ho,hd⟩=>by
  have nch:c∉ch:=fun z=>(hch c z).2.2.1 x c e rfl;by_cases hc:c∈X.fs
  ·obtain⟨sl,q⟩:=slot c o (I.cne x c e) hc nch ho (I.freeC x c e);exact⟨_,q,hd⟩
  ·exact⟨o,keep c o (I.cne x c e) hc nch ho (I.freeC x c e),hd⟩
 refine⟨I.ok,I.os,hg,⟨fun b o e n hb hx=>?_,fun b o e n hb hx=>?_,fun b o e n hx=>?_,fun b o e hx=>?_,fun b xs e=>tups b xs (I.base.tups b xs e),fun b o xs e=>frzs b o xs (I.base.frzs b o xs e),fun b ps e=>?_⟩,?_,fun x c e=>?_,?_,fun x c e=>?_,fun p hp=>?_,hok,I.len⟩
 ·exact keep b o (neL b o e) hb (neC b o e hx) (I.base.keep b o e n hb hx) (I.base.free b o e n hx)
 ·obtain⟨sl,e1⟩:=I.base.slot b o e n hb hx;obtain⟨sl',e2⟩:=slot b _ (neL b o e) hb (neC b o e hx) e1 (I.base.free b o e n hx);exact⟨sl',e2⟩
 ·obtain⟨o',e1⟩:=I.base.there b o e hx;exact free b o' (neC b o e hx) e1 (I.base.free b o e n hx)
 ·obtain⟨o',e1⟩:=I.base.there b o e hx;exact there b o' (neC b o e hx) e1
 ·exact tbls b _ (I.base.tbls b ps e)
 ·obtain⟨m,hn,hl⟩:=I.loc;refine⟨m,ns m hn,fun i x v e1 e2 e3=>?_⟩;obtain⟨u,r,l⟩:=hl i x v e1 e2 e3;refine⟨u,r,?_⟩;rcases l with l | ⟨k,c,e,z⟩
  ·exact .inl l
  ·exact .inr ⟨k,c,e,cellK x c e _ z⟩
 ·obtain⟨v,z⟩:=I.cell x c e;exact⟨v,cellK x c e v z⟩
 ·obtain⟨m,⟨o,_,_,ho,_⟩,_⟩:=I.loc;exact free _ o (fun z=>(hch _ z).2.1 rfl) ho I.free
 ·obtain⟨v,o,ho,hd⟩:=I.cell x c e;exact free c o (fun z=>(hch c z).2.2.1 x c e rfl) ho (I.freeC x c e)
 ·obtain⟨e,n,ne,nf,d⟩:=I.pin p hp;have nch:p.1∉ch:=fun z=>(hch p.1 z).2.2.2 p hp rfl;exact⟨keep p.1 p.2 ne nf nch e n,free p.1 p.2 nch e n,ne,nf,d⟩
theorem Inv.un{t':Nat}(I:Inv X zn σ H s)(u:Un X.fs [] H H' s.heap h')(hok:HOk X.prog X.w H' h'):Inv X zn σ H' { s with heap:=h',toks:=t' }:=by
 obtain⟨m,⟨o,es,ep,ho,r⟩,_⟩:=id I.loc;obtain⟨sl,hL⟩:=u.any ho I.free (by simp);exact I.step (g':=s.gens) (d':=s.drawn) (ch:=[]) (fun _ z=>nomatch z) (fun b o _ hb _ e n=>u.keep b o e n hb (by simp)) (fun b o _ hb _ e n=>u.slot b o e n hb (by simp)) (fun b o _ e n=>u.free b o e n (by simp)) (fun b o _ e=>u.there b o e (by simp)) u.tups u.frzs u.tbls (fun m' hm=>by
  obtain⟨o',es',ep',ho',r'⟩:=hm;rw [ho] at ho'; cases ho';exact⟨_,es',ep',hL,r'⟩) hok I.bare
theorem Inv.call{g':Array GenState}{t':Nat}{d':Drawn}{ch:List Addr}(I:Inv X zn σ H s)(u:Un (frs X.stack) ch H H' s.heap h')(hok:HOk X.prog X.w H' h')(hg:AllBare g')
  (hch:∀ b∈ch,(b∈X.ex\/X.s₀.heap.objs.size<=b)/\b≠X.env.locals/\(∀ x c,X.env.cells.lookup x=some c->c≠b)/\∀ p∈X.pn++zn,p.1≠b) :
  Inv X zn σ H' { s with heap:=h',gens:=g',drawn:=d',toks:=t' }:=by
 obtain⟨m,⟨o,es,ep,ho,r⟩,_⟩:=id I.loc;obtain⟨sl,hL⟩:=u.any ho I.free fun z=>(hch _ z).2.1 rfl;exact I.step (ch:=ch) hch (fun b o hL hb hc e n=>u.keep b o e n (fun z=>(mem_cons.mp (I.stkSub b z)).elim hL hb) hc) (fun b o _ _ hc e n=>u.any e n hc) (fun b o hc e n=>u.free b o e n hc) (fun b o hc e=>u.there b o e hc) u.tups u.frzs u.tbls (fun m' hm=>by
  obtain⟨o',es',ep',ho',r'⟩:=hm;rw [ho] at ho'; cases ho';exact⟨_,es',ep',hL,r'⟩) hok hg
theorem Inv.turned{t':Nat}{it:Addr}(I:Inv X zn σ H s)(k:∀ b o,b≠it->s.heap.get? b=some o->h'.get? b=some o)(hn:H it=none)(hL:it≠X.env.locals)
  (h1:it∈X.ex\/X.s₀.heap.objs.size<=it) (h2:∀ x c,X.env.cells.lookup x=some c->c≠it) (h3:∀ p∈X.pn++zn,p.1≠it):Inv X zn σ H { s with heap:=h',toks:=t' }:=by
 have nit:∀ b u,H b=some u->b≠it:=fun b u e z=>by rw [z,hn] at e; cases e
 refine I.step (g':=s.gens) (d':=s.drawn) (ch:=[it]) (fun b hb=>?_) (fun b o _ _ hc e _=>k b o (fun z=>hc (by simp [z])) e) (fun b o _ _ hc e _=>⟨o.slots,k b o (fun z=>hc (by simp [z])) e⟩) (fun _ _ _ _ n=>n)
  (fun b o hc e=>⟨o,k b o (fun z=>hc (by simp [z])) e⟩) (fun _ _ e=>e) (fun _ _ _ e=>e) (fun _ _ e=>e) (fun m hm=>?_) (fun b u e=>?_) I.bare
 ·have e:b=it:=by simpa using hb
  subst e;exact⟨h1,hL,h2,h3⟩
 ·obtain⟨o,es,ep,ho,r⟩:=hm;exact⟨o,es,ep,k _ o (Ne.symm hL) ho,r⟩
 ·refine(I.hok b u e).stay (fun c v hc q=>k c v ?_ q) (fun _ q=>q) fun _ _ q=>q;rcases hc with z | z
  ·rw [z]; exact nit b u e
  ·exact nit c _ z
theorem Inv.tok(I:Inv X zn σ H s)(t:Nat):Inv X zn σ H { s with toks:=t }:=I.un (h':=s.heap) (t':=t) Un.refl I.hok
theorem Inv.kept{t':Nat}(I:Inv X zn σ H s)(k:∀ b u,s.heap.get? b=some u->h'.get? b=some u):Inv X zn σ H { s with heap:=h',toks:=t' }:=I.un (Un.kept k) (I.hok.kept k)
theorem Inv.laid{a:Addr}{o:HO}{t':Nat}(I:Inv X zn σ H s)(k:∀ b u,s.heap.get? b=some u->h'.get? b=some u)(hp:s.heap.objs.size<=a)(new:ObjOk X.prog X.w (upd H a o) h' a o):
  Inv X zn σ (upd H a o) { s with heap:=h',toks:=t' }:=I.un (Un.laid k hp (I.hok.fresh hp)) (I.hok.laid k hp new)
theorem Inv.write{x e:Addr}{o:HO}{t':Nat}(I:Inv X zn σ H s)(mu:Mut (H x))(he:e=x\/H e=some (.own x))(k:∀ b u,b≠e->s.heap.get? b=some u->h'.get? b=some u)(heo:∃ u,h'.get? e=some u)
  (new:ObjOk X.prog X.w (upd H x o) h' x o):Inv X zn σ (upd H x o) { s with heap:=h',toks:=t' }:=I.un (Un.write mu he k heo) (I.hok.write mu he k heo new)
theorem Inv.pins_of{pins':List (Addr×Obj)}(I:Inv X zn σ H s)(h:∀ p∈pins',s.heap.get? p.1=some p.2/\H p.1=none/\p.1≠X.env.locals/\p.1∉X.fs/\∀ v,p.2.data≠.cell v):Inv X pins' σ H s :=
 ⟨I.ok,I.os,I.bare,I.base,I.loc,I.cell,I.free,I.freeC,fun p hp=>(mem_append.mp hp).elim (fun z=>I.pin p (mem_append_left _ z)) (h p),I.hok,I.len⟩
theorem zlo{N:List Str}(hN:N.Nodup){i j:Nat}{x:Str}(a:N[i]? = some x)(b:N[j]? = some x):i=j:=by
 obtain⟨h1,e1⟩:=List.getElem?_eq_some_iff.mp a;obtain⟨h2,e2⟩:=List.getElem?_eq_some_iff.mp b;exact(List.getElem_inj hN).mp (e1.trans e2.symm)
theorem zmR{M:Model}{A:Around}{E:Value->Shared->Prop}{i:Nat}{x:Str}{v:V}{u:Value}{Q:Unit->Shared->Prop}(I:Inv X zn σ H s)(hN:X.N.Nodup)(hi:X.N[i]? = some x)(hx:Loc X.env.scope x)(r:RelV v u)
  (h:∀ s',Inv X zn (σ.set i (some v)) H s'->(∃ a,Heap.SameBut a s.heap s'.heap/\(a=X.env.locals\/X.env.cells.lookup x=some a))->Q () s') (hf:X.fn x=true\/X.env.scope.names.lookup x=some .local:=by first | exact .inl rfl | exact .inr rfl | assumption):wpAny M A (storeName X.env x u) Q E s:=by
 obtain⟨m,hn,hl⟩:=id I.loc;have hcls:(X.env.scope.kind == .class || (X.env.scope.kind == .module && X.env.locals != X.env.globals))=false:=by rw [I.ok.kind]; rfl
 have hiσ:i<σ.length:=by rw [I.len]; exact(List.getElem?_eq_some_iff.mp hi).1
 have cne:=I.cne;have tracked:∀ {a:Addr} {h':Heap},(∃ o,s.heap.get? a=some o/\H a=none)->Heap.SameBut a s.heap h'->HOk X.prog X.w H h':=fun {a h'} ha hs b ob e=>by
  obtain⟨_,_,hfree⟩:=ha;refine(I.hok b ob e).stay (fun c w' hc q=>(hs.2 c ?_).trans q) (fun _ q=>q) fun _ _ q=>q;rintro rfl;rcases hc with rfl | hc
  ·rw [hfree] at e; cases e
  ·rw [hfree] at hc; cases hc
 rcases hx with hk | hk
 ·refine wpAny_storeName_local hk hn (fun h' hn' hs=>?_) hcls;obtain⟨oL,_,_,hoL,_⟩:=id hn;refine h _ ⟨I.ok,I.os,I.bare,⟨fun b o e n hb hx=>?_,fun b o e n hb hx=>?_,I.base.free,fun b o e hx=>?_,I.base.tups,I.base.frzs,I.base.tbls⟩,⟨_,hn',fun j y v' e1 e2 e3=>?_⟩,fun y c e=>?_,I.free,I.freeC,fun p hp=>?_,tracked ⟨oL,hoL,I.free⟩ hs,by simpa using I.len⟩ ⟨_,hs,.inl rfl⟩
  ·exact(hs.2 b (ne_of_lt (lt_of_lt_of_le (lt_size e) I.ok.above))).trans (I.base.keep b o e n hb hx)
  ·obtain⟨sl,e1⟩:=I.base.slot b o e n hb hx;exact⟨sl,(hs.2 b (ne_of_lt (lt_of_lt_of_le (lt_size e) I.ok.above))).trans e1⟩
  ·obtain⟨o',e1⟩:=I.base.there b o e hx;exact⟨o',(hs.2 b (ne_of_lt (lt_of_lt_of_le (lt_size e) I.ok.above))).trans e1⟩
  ·by_cases hj:j=i
   ·subst hj;rw [hi] at e1; cases e1;rw [getElem?_set_self hiσ] at e2;cases e2;exact⟨u,r,.inl ⟨hk,by simp⟩⟩
   ·rw [getElem?_set_ne (Ne.symm hj)] at e2;obtain⟨u',r',q⟩:=hl j y v' e1 e2 e3;refine⟨u',r',?_⟩;rcases q with ⟨k,e⟩ | ⟨k,c,e,z⟩
    ·refine .inl ⟨k,?_⟩;have:y≠x:=fun e=>hj (zlo hN e1 (e▸hi));simp [this,e]
    ·exact .inr ⟨k,c,e,z.sameBut hs (cne y c e)⟩
  ·obtain⟨w',z⟩:=I.cell y c e;exact⟨w',z.sameBut hs (cne y c e)⟩
  ·obtain⟨e,n,ne,nf,d⟩:=I.pin p hp;exact⟨(hs.2 p.1 ne).trans e,n,ne,nf,d⟩
 ·have hfn:X.fn x=true:=by
   rcases hf with z | z
   ·exact z
   ·rw [z] at hk; cases hk
  obtain⟨c,hc⟩:=I.ok.has x (.inl hk);obtain⟨w',z⟩:=I.cell x c hc;refine wpAny_storeName_cell I.ok.kind hk hc z (fun h' hc' hs=>?_);obtain⟨oc,hoc,hocd⟩:=id z;refine h { s with heap:=h' } ⟨I.ok,I.os,I.bare,⟨fun b o e n hb hx=>?_,fun b o e n hb hx=>?_,I.base.free,fun b o e hx=>?_,I.base.tups,I.base.frzs,I.base.tbls⟩,⟨m,hn.sameBut hs (Ne.symm (cne x c hc)),fun j y v' e1 e2 e3=>?_⟩,fun y c' e=>?_,I.free,I.freeC,fun p hp=>?_,tracked ⟨oc,hoc,I.freeC x c hc⟩ hs,by simpa using I.len⟩ ⟨c,hs,.inr hc⟩
  ·exact(hs.2 b (ne_of_lt (lt_of_lt_of_le (lt_size e) (I.ok.cab x c hfn hc)))).trans (I.base.keep b o e n hb hx)
  ·obtain⟨sl,e1⟩:=I.base.slot b o e n hb hx;exact⟨sl,(hs.2 b (ne_of_lt (lt_of_lt_of_le (lt_size e) (I.ok.cab x c hfn hc)))).trans e1⟩
  ·obtain⟨o',e1⟩:=I.base.there b o e hx;exact⟨o',(hs.2 b (ne_of_lt (lt_of_lt_of_le (lt_size e) (I.ok.cab x c hfn hc)))).trans e1⟩
  ·by_cases hj:j=i
   ·subst hj;rw [hi] at e1; cases e1;rw [getElem?_set_self hiσ] at e2;cases e2;exact⟨u,r,.inr ⟨.inl hk,c,hc,hc'⟩⟩
   ·rw [getElem?_set_ne (Ne.symm hj)] at e2;obtain⟨u',r',q⟩:=hl j y v' e1 e2 e3;refine⟨u',r',?_⟩;rcases q with q | ⟨k,c',e,z'⟩
    ·exact .inl q
    ·refine .inr ⟨k,c',e,z'.sameBut hs ?_⟩;rintro rfl;exact hj (zlo hN e1 (I.ok.inj _ _ _ e hc▸hi))
  ·by_cases hcc:c'=c
   ·subst hcc; exact⟨_,hc'⟩
   ·obtain⟨w2,z2⟩:=I.cell y c' e;exact⟨w2,z2.sameBut hs hcc⟩
  ·obtain⟨e,n,ne,nf,d⟩:=I.pin p hp;refine⟨(hs.2 p.1 ?_).trans e,n,ne,nf,d⟩;intro q;rw [q,hoc] at e;have q':oc=p.2:=Option.some.inj e;exact d w' (by rw [<- q']; exact hocd)
theorem ziQ{M:Model}{A:Around}{E:Value->Shared->Prop}{i:Nat}{x:Str}{v:V}{u:Value}{Q:Unit->Shared->Prop}(I:Inv X zn σ H s)(hN:X.N.Nodup)(hi:X.N[i]? = some x)(hx:Loc X.env.scope x)(r:RelV v u)
  (h:∀ s',Inv X zn (σ.set i (some v)) H s'->Q () s') (hf:X.fn x=true\/X.env.scope.names.lookup x=some .local:=by first | exact .inl rfl | exact .inr rfl | assumption):wpAny M A (storeName X.env x u) Q E s :=
 zmR I hN hi hx r (fun s' I' _=>h s' I') hf
theorem Inv.call'{s':Shared}{ch:List Addr}(I:Inv X zn σ H s)(ho:s'.os=s.os)(u:Un (frs X.stack) ch H H' s.heap s'.heap)(hok:HOk X.prog X.w H' s'.heap)(hg:AllBare s'.gens)
  (hch:∀ b∈ch,(b∈X.ex\/X.s₀.heap.objs.size<=b)/\b≠X.env.locals/\(∀ x c,X.env.cells.lookup x=some c->c≠b)/\∀ p∈X.pn++zn,p.1≠b):Inv X zn σ H' s':=by
 obtain⟨h',g',d',t',o'⟩:=s';have e:o'=s.os:=ho;subst e;exact I.call (g':=g') (t':=t') (d':=d') u hok hg hch
end
abbrev XK:=Value->Option Addr->Hp->Prop
abbrev St:=List (Option V)
abbrev VK:=V->Hp->Prop
abbrev TE:=St->Hp->VK->Prop
abbrev TT:=St->Hp->(Bool->Hp->Prop)->Prop
abbrev TA:=St->Hp->(List V->Hp->Prop)->Prop
structure Ends where
 nx:St->Hp->Prop
 rt:VK
 bk:St->Hp->Prop:=fun _ _=>False
 ct:St->Hp->Prop:=fun _ _=>False
abbrev TS:=Ends->St->Hp->Prop
def EP(X:Cx)(zn:List (Addr×Obj))(σ:St)(Q:VK)(u:Value)(s':Shared):Prop:=∃ v H',Inv X zn σ H' s'/\RelV v u/\Q v H'
def TP(X:Cx)(zn:List (Addr×Obj))(σ:St)(Q:Bool->Hp->Prop)(b:Bool)(s':Shared):Prop:=∃ H',Inv X zn σ H' s'/\Q b H'
def AP(X:Cx)(zn:List (Addr×Obj))(σ:St)(Q:List V->Hp->Prop)(us:List Value)(s':Shared):Prop:=∃ vs H',Inv X zn σ H' s'/\Vals vs us/\Q vs H'
def SP(X:Cx)(zn:List (Addr×Obj))(D:Ends)(f:Flow)(s':Shared):Prop :=
 match f with
 | .next=>∃ σ' H',Inv X zn σ' H' s'/\D.nx σ' H'
 | .brk=>∃ σ' H',Inv X zn σ' H' s'/\D.bk σ' H'
 | .cont=>∃ σ' H',Inv X zn σ' H' s'/\D.ct σ' H'
 | .ret u=>∃ v σ' H',Inv X zn σ' H' s'/\RelV v u/\D.rt v H'
def PE(X:Cx)(e:Expr)(t:TE):Prop :=
 ∀ (zn:List (Addr×Obj)) (s:Shared) (σ:St) (H:Hp) (Q:VK),Inv X zn σ H s->t σ H Q->wpAny (model X.prog X.w) X.A (eval e X.env) (EP X zn σ Q) X.xe s
def PT(X:Cx)(e:Expr)(t:TT):Prop :=
 ∀ (zn:List (Addr×Obj)) (s:Shared) (σ:St) (H:Hp) (Q:Bool->Hp->Prop),Inv X zn σ H s->t σ H Q->wpAny (model X.prog X.w) X.A (isTrue e X.env (eval e X.env)) (TP X zn σ Q) X.xe s
def PW(X:Cx)(e:Expr)(t:TT):Prop :=
 ∀ (whole:Sem Value) (zn:List (Addr×Obj)) (s:Shared) (σ:St) (H:Hp) (Q:Bool->Hp->Prop),Inv X zn σ H s->t σ H Q->wpAny (model X.prog X.w) X.A (isTrue e X.env whole) (TP X zn σ Q) X.xe s
theorem PW.pt{X:Cx}{e:Expr}{t:TT}(h:PW X e t):PT X e t:=h _
def PA(X:Cx)(es:List Expr)(t:TA):Prop :=
 ∀ (pos:Pos) (zn:List (Addr×Obj)) (s:Shared) (σ:St) (H:Hp) (Q:List V->Hp->Prop),Inv X zn σ H s->t σ H Q->wpAny (model X.prog X.w) X.A (spliced (backTo pos (starEach es X.env))) (AP X zn σ Q) X.xe s
def PS(X:Cx)(st:Stmt)(t:TS):Prop :=
 ∀ (zn:List (Addr×Obj)) (s:Shared) (σ:St) (H:Hp) (D:Ends),Inv X zn σ H s->t D σ H->wpAny (model X.prog X.w) X.A (exec st X.env) (SP X zn D) X.xe s
def PSs(X:Cx)(st:List Stmt)(t:TS):Prop :=
 ∀ (zn:List (Addr×Obj)) (s:Shared) (σ:St) (H:Hp) (D:Ends),Inv X zn σ H s->t D σ H->wpAny (model X.prog X.w) X.A (execs st X.env) (SP X zn D) X.xe s
theorem thn{α:Type}{t:Sem α}{Q Q':α->Shared->Prop}{M:Model}{A:Around}{E:Value->Shared->Prop}{s:Shared}(h:wpAny M A t Q E s)(hQ:∀ a s,Q a s->Q' a s):wpAny M A t Q' E s:=wpAny_mono h hQ fun _ _ x=>x
end
section
section
variable {X:Cx}
def zna(i:Nat):TE:=fun σ H Q=>∃ v,σ[i]? = some (some v)/\Q v H
def tC(v:V):TE:=fun _ H Q=>Q v H
theorem ztt{i:Nat}{x:Str}{pos:Pos}(hN:X.N[i]? = some x)(hv:Vis X.env.scope x)(hd:(x == ("__debug__":Str))=false:=by decide)(hcd:(x == ("__classdict__":Str))=false:=by decide):PE X (.Name x pos) (zna i):=by
 intro zn s σ H Q I h;obtain⟨v,e,h⟩:=h;obtain⟨m,hn,hl⟩:=I.loc;obtain⟨u,r,l⟩:=hl i x v hN e hv;have fin:EP X zn σ Q u s:=⟨v,H,I,r,h⟩;rcases l with ⟨hk,hm⟩ | ⟨hk,c,hc,hcell⟩
 ·exact wpAny_Name (wpAny_loadName_local I.ok.kind hk hn hm fin) hd
 ·rcases hk with hk | hk
  ·exact wpAny_Name (wpAny_loadName_cell I.ok.kind hk hc hcell fin) hd
  ·exact wpAny_Name (wpAny_loadName_free I.ok.kind hk hc hcell fin hcd) hd
theorem zf{i j pos}:PE X (.Constant (.int i) j pos) (tC (.int i)):=fun _ _ _ H _ I h=>wpAny_Constant_int ⟨.int i,H,I.tok _,⟨_,rfl⟩,h⟩
theorem zb2{b j pos}:PE X (.Constant (.bool b) j pos) (tC (.bl b)):=fun _ _ _ H _ I h=>Constant_bool ⟨.bl b,H,I,rfl,h⟩
theorem zc7{j pos}:PE X (.Constant .none j pos) (tC .non):=fun _ _ _ H _ I h=>Constant_none ⟨.non,H,I,rfl,h⟩
theorem zcx{x j pos}:PE X (.Constant (.str x) j pos) (tC (.str x)):=fun _ _ _ H _ I h=>Calls.Constant_str ⟨.str x,H,I.tok _,⟨_,rfl⟩,h⟩
def Gl(X:Cx)(x:Str):Prop:=X.env.kindOf x=some .globalImplicit
theorem zkl{E:Value->Shared->Prop}{zn:List (Addr×Obj)}{s:Shared}{σ:St}{H:Hp}{x:Str}{u:Value}{pos:Pos}{Q:Value->Shared->Prop}(I:Inv X zn σ H s)(hg:Gl X x)(hm:X.mg x=some u)(h:Q u s)
  (hd:(x == ("__debug__":Str))=false:=by decide):wpAny (model X.prog X.w) X.A (eval (.Name x pos) X.env) Q E s :=
 Calls.Name_function_global I.ok.kind hg (Calls.loadGlobal_global (by rw [I.ok.glob]; exact I.mod.glob.keeps I.bk) hm h) hd
theorem zcR{E:Value->Shared->Prop}{zn:List (Addr×Obj)}{s:Shared}{σ:St}{H:Hp}{x:Str}{u:Value}{pos:Pos}{Q:Value->Shared->Prop}(I:Inv X zn σ H s)(hg:Gl X x)(hm:X.mg x=none)(hv:bootBuiltins x=some u)(h:Q u s)
  (hn:x ≠ "__name__":=by decide) (hd:(x == ("__debug__":Str))=false:=by decide):wpAny (model X.prog X.w) X.A (eval (.Name x pos) X.env) Q E s:=by
 obtain⟨mb,h1,h2⟩:=I.mod.blt;exact Calls.Name_function_global I.ok.kind hg (Calls.loadGlobal_builtin (by rw [I.ok.glob]; exact I.mod.glob.keeps I.bk) hm (by rw [I.ok.blt]; exact h1.keeps I.bk) ((h2 x hn).trans hv) h) hd
theorem zrG{x:Str}{v:V}{u:Value}{pos:Pos}(hg:Gl X x)(hm:X.mg x=some u)(r:RelV v u)(hd:(x == ("__debug__":Str))=false:=by decide):PE X (.Name x pos) (tC v) :=
 fun _ _ _ H _ I h=>zkl I hg hm ⟨v,H,I,r,h⟩ hd
theorem zcn{x:Str}{v:V}{u:Value}{pos:Pos}(hg:Gl X x)(hm:X.mg x=none)(hv:bootBuiltins x=some u)(r:RelV v u)(hn:x ≠ "__name__":=by decide)(hd:(x == ("__debug__":Str))=false:=by decide):PE X (.Name x pos) (tC v) :=
 fun _ _ _ H _ I h=>zcR I hg hm hv ⟨v,H,I,r,h⟩ hn hd
variable {a b:Expr} {ta tb:TE} {pos:Pos}
variable {tA tB':TT} {rest:List Expr}
def zv1(t u:TT):TT:=fun σ H Q=>t σ H fun c H1=>if c=true then u σ H1 Q else Q false H1
def tOr(t u:TT):TT:=fun σ H Q=>t σ H fun c H1=>if c=true then Q true H1 else u σ H1 Q
def zvz(t:TT):TT:=fun σ H Q=>t σ H fun c H1=>Q (!c) H1
theorem zsm(ha:PT X a tA):PW X (.BoolOp .And [a] pos) tA:=by
 intro wh zn s σ H Q I h;refine isTrue_and (thn (ha zn s σ H Q I h) fun c s1 e=>?_);cases c with
 | true=>exact isTrue_and_nil e
 | false=>exact e
theorem zeR(ha:PT X a tA):PW X (.BoolOp .Or [a] pos) tA:=by
 intro wh zn s σ H Q I h;refine isTrue_or (thn (ha zn s σ H Q I h) fun c s1 e=>?_);cases c with
 | false=>exact isTrue_or_nil e
 | true=>exact e
theorem zuM(ha:PT X a tA)(hb:PW X (.BoolOp .And (b :: rest) pos) tB'):PW X (.BoolOp .And (a :: b :: rest) pos) (zv1 tA tB'):=by
 intro wh zn s σ H Q I h;refine isTrue_and (thn (ha zn s σ H _ I h) fun c s1 ⟨H1,I1,q1⟩=>?_);cases c with
 | true=>exact hb wh zn s1 σ H1 Q I1 q1
 | false=>exact⟨H1,I1,q1⟩
theorem zfJ(ha:PT X a tA)(hb:PW X (.BoolOp .Or (b :: rest) pos) tB'):PW X (.BoolOp .Or (a :: b :: rest) pos) (tOr tA tB'):=by
 intro wh zn s σ H Q I h;refine isTrue_or (thn (ha zn s σ H _ I h) fun c s1 ⟨H1,I1,q1⟩=>?_);cases c with
 | true=>exact⟨H1,I1,q1⟩
 | false=>exact hb wh zn s1 σ H1 Q I1 q1
theorem zbq(ha:PT X a tA):PT X (.UnaryOp .Not a pos) (zvz tA):=by
 intro zn s σ H Q I h;exact isTrue_not (ha zn s σ H (fun c H1=>Q (!c) H1) I h)
def zt9(ta tb:TE):TE:=fun σ H Q=>ta σ H fun x H1=>∃ c,x=.bl c/\if c=true then tb σ H1 Q else Q (.bl false) H1
def zv3(ta tb:TE):TE:=fun σ H Q=>ta σ H fun x H1=>∃ c,x=.bl c/\if c=true then Q (.bl true) H1 else tb σ H1 Q
def ztK(ta:TE):TE:=fun σ H Q=>ta σ H fun x H1=>∃ c,x=.bl c/\Q (.bl (!c)) H1
theorem zeq{op}{t:TE}(h:PE X a t):PE X (.BoolOp op [a] pos) t:=fun zn s σ H Q I hw=>BoolOp_one (h zn s σ H Q I hw)
theorem zf2(ha:PE X a ta)(hb:PE X (.BoolOp .And (b :: rest) pos) tb):PE X (.BoolOp .And (a :: b :: rest) pos) (zt9 ta tb):=by
 intro zn s σ H Q I h;refine BoolOp_and (thn (ha zn s σ H _ I h) fun v s1 ⟨x,H1,I1,r1,q1⟩=>?_);obtain⟨c,rfl,q1⟩:=q1;cases r1;refine wpAny_truthy_bool ?_;cases c with
 | true=>exact hb zn s1 σ H1 Q I1 q1
 | false=>exact⟨.bl false,H1,I1,rfl,q1⟩
theorem ztw(ha:PE X a ta)(hb:PE X (.BoolOp .Or (b :: rest) pos) tb):PE X (.BoolOp .Or (a :: b :: rest) pos) (zv3 ta tb):=by
 intro zn s σ H Q I h;refine BoolOp_or (thn (ha zn s σ H _ I h) fun v s1 ⟨x,H1,I1,r1,q1⟩=>?_);obtain⟨c,rfl,q1⟩:=q1;cases r1;refine wpAny_truthy_bool ?_;cases c with
 | false=>exact hb zn s1 σ H1 Q I1 q1
 | true=>exact⟨.bl true,H1,I1,rfl,q1⟩
theorem zq9(ha:PE X a ta):PE X (.UnaryOp .Not a pos) (ztK ta):=by
 intro zn s σ H Q I h;refine UnaryOp_ (thn (ha zn s σ H _ I h) fun v s1 ⟨x,H1,I1,r1,q1⟩=>?_);obtain⟨c,rfl,q1⟩:=q1;cases r1;exact not_of (wpAny_truthy_bool ⟨.bl (!c),H1,I1,rfl,q1⟩)
def tIf(t:TT)(ta tb:TE):TE:=fun σ H Q=>t σ H fun c H1=>if c=true then ta σ H1 Q else tb σ H1 Q
theorem zpP{c:Expr}(hc:PT X c tA)(ha:PE X a ta)(hb:PE X b tb):PE X (.IfExp c a b pos) (tIf tA ta tb):=by
 intro zn s σ H Q I h;refine wpAny_IfExp (thn (hc zn s σ H _ I h) fun d s1 ⟨H1,I1,q1⟩=>?_);cases d with
 | true=>exact ha zn s1 σ H1 Q I1 q1
 | false=>exact hb zn s1 σ H1 Q I1 q1
end
end
section
def SqL(K:W.Frag)(H:Hp)(a:Addr)(xs:List V):Prop :=
 Rd H a (.lst xs) \/
  ∃ (o:Obj) (its:Array Value) (n:Nat),K.lookup a=some o/\o.cls=.type "list"/\o.dict=none/\o.data=.seq its n/\its.size<=sizeLine/\Vals xs its.toList
def SqT(K:W.Frag)(H:Hp)(a:Addr)(xs:List V):Prop :=
 Rd H a (.tup xs) \/
  ∃ (o:Obj) (its:Array Value) (n:Nat),K.lookup a=some o/\o.cls=.type "tuple"/\o.data=.seq its n/\its.size<=sizeLine/\Vals xs its.toList
def zwk:Value->Option V
 | .none=>some .non
 | .bool b=>some (.bl b)
 | .int i _=>some (.int i)
 | .str x _=>some (.str x)
 | .bytes b _=>some (.byt b)
 | .float b _=>some (.flt b)
 | .ref a=>some (.ref a)
 | .type n=>some (.ty n)
 | _=>none
theorem RelV.abs{x:V}{u:Value}(r:RelV x u):zwk u=some x:=by
 cases x with
 | non=>cases r; rfl
 | bl _=>cases r; rfl
 | int _=>obtain⟨t,rfl⟩:=r; rfl
 | str _=>obtain⟨t,rfl⟩:=r; rfl
 | byt _=>obtain⟨t,rfl⟩:=r; rfl
 | flt _=>obtain⟨t,rfl⟩:=r; rfl
 | ref _=>cases r; rfl
 | ty _=>cases r; rfl
theorem RelV.inj{x y:V}{u:Value}(r:RelV x u)(q:RelV y u):x=y:=Option.some.inj (r.abs.symm.trans q.abs)
theorem Vals.inj:∀ {xs ys:List V} {us:List Value},Vals xs us->Vals ys us->xs=ys
 | _,_,_,.nil,.nil=>rfl
 | _,_,_,.cons r t,.cons r' t'=>by rw [r.inj r',Vals.inj t t']
section
variable {X:Cx} {zn:List (Addr×Obj)} {σ:St} {H:Hp} {s:Shared} {a:Addr} {xs ys:List V}
theorem SqL.of{K:W.Frag}(h:H a=some (.lst xs)):SqL K H a xs:=.inl (.inl h)
theorem SqT.of{K:W.Frag}(h:H a=some (.tup xs)):SqT K H a xs:=.inl (.inl h)
theorem Inv.list(I:Inv X zn σ H s)(h:SqL X.K H a xs):∃ its:List Value,Vals xs its/\PlainL s.heap a its.toArray/\xs.length<=sizeLine:=by
 rcases h with h | ⟨o,its,n,hk,hc,hd,hs,hz,r⟩
 ·obtain⟨z,its,n,r,e⟩:=h.ok I.hok;exact⟨its,r,⟨_,n,e,rfl,rfl,rfl⟩,z⟩
 ·refine⟨its.toList,r,⟨o,n,I.kIn a o hk,hc,hd,by simpa using hs⟩,?_⟩;have e:=r.length;simp only [length_toList] at e;omega
theorem Inv.tuple(I:Inv X zn σ H s)(h:SqT X.K H a xs):∃ its:List Value,Vals xs its/\IsTup s.heap a its.toArray/\xs.length<=sizeLine:=by
 rcases h with h | ⟨o,its,n,hk,hc,hs,hz,r⟩
 ·obtain⟨z,its,r,p⟩:=h.ok I.hok;exact⟨its,r,p,z.1⟩
 ·refine⟨its.toList,r,⟨o,I.kIn a o hk,hc,n,by simpa using hs⟩,?_⟩;have e:=r.length;simp only [length_toList] at e;omega
theorem Inv.list_inj(I:Inv X zn σ H s)(h:SqL X.K H a xs)(h':SqL X.K H a ys):xs=ys:=by
 obtain⟨its,r,⟨o,n,e,_,_,d⟩,_⟩:=I.list h;obtain⟨its',r',⟨o',n',e',_,_,d'⟩,_⟩:=I.list h';rw [e] at e'; cases e';rw [d] at d';injection d' with d1 _
 have:its=its':=by simpa using congrArg Array.toList d1
 subst this;exact r.inj r'
theorem Inv.tuple_inj(I:Inv X zn σ H s)(h:SqT X.K H a xs)(h':SqT X.K H a ys):xs=ys:=by
 obtain⟨its,r,⟨o,e,_,n,d⟩,_⟩:=I.tuple h;obtain⟨its',r',⟨o',e',_,n',d'⟩,_⟩:=I.tuple h';rw [e] at e'; cases e';rw [d] at d';injection d' with d1 _
 have:its=its':=by simpa using congrArg Array.toList d1
 subst this;exact r.inj r'
end
abbrev Cx.wish (X:Cx) (E:Value->Shared->Prop):Cx:={ X with xe:=E }
abbrev Cx.nox (X:Cx):Cx:=X.wish fun _ _=>False
theorem Cx.Ok.wish{X:Cx}(ok:X.Ok)(E:Value->Shared->Prop):(X.wish E).Ok :=
 ⟨ok.mod,ok.kind,ok.glob,ok.blt,ok.above,ok.inj,ok.has,ok.cab,ok.hd,ok.frames,ok.stk,ok.exf,ok.bs,ok.bsz,ok.noex,ok.exfs,ok.funs,ok.frf⟩
theorem Cx.Ok.unwish{X:Cx}{E:Value->Shared->Prop}(ok:(X.wish E).Ok):X.Ok :=
 ⟨ok.mod,ok.kind,ok.glob,ok.blt,ok.above,ok.inj,ok.has,ok.cab,ok.hd,ok.frames,ok.stk,ok.exf,ok.bs,ok.bsz,ok.noex,ok.exfs,ok.funs,ok.frf⟩
section
variable {X:Cx} {zn:List (Addr×Obj)} {σ:St} {H:Hp} {s:Shared} {E:Value->Shared->Prop}
theorem Inv.wish(I:Inv X zn σ H s)(E:Value->Shared->Prop):Inv (X.wish E) zn σ H s:=⟨I.ok.wish E,I.os,I.bare,I.base,I.loc,I.cell,I.free,I.freeC,I.pin,I.hok,I.len⟩
theorem Inv.unwish(I:Inv (X.wish E) zn σ H s):Inv X zn σ H s:=⟨I.ok.unwish,I.os,I.bare,I.base,I.loc,I.cell,I.free,I.freeC,I.pin,I.hok,I.len⟩
theorem SP.unwish{D:Ends}{f:Flow}{s':Shared}(h:SP (X.wish E) zn D f s'):SP X zn D f s':=by
 cases f with
 | next=>obtain⟨σ',H',I,q⟩:=h; exact⟨σ',H',I.unwish,q⟩
 | brk=>obtain⟨σ',H',I,q⟩:=h; exact⟨σ',H',I.unwish,q⟩
 | cont=>obtain⟨σ',H',I,q⟩:=h; exact⟨σ',H',I.unwish,q⟩
 | ret u=>obtain⟨v,σ',H',I,r,q⟩:=h; exact⟨v,σ',H',I.unwish,r,q⟩
theorem PSs.nox{st:List Stmt}{t:TS}(h:PSs X.nox st t):PSs X st t:=fun zn s σ H D I hw =>
 wpAny_mono (h zn s σ H D (I.wish _) hw) (fun _ _ q=>q.unwish) fun _ _ z=>False.elim z
end
section
variable {X:Cx} {st:Stmt} {rest:List Stmt} {t u:TS} {e:Expr} {te:TE} {pos:Pos}
def zrl:TS:=fun D σ H=>D.nx σ H
def zls(t u:TS):TS:=fun D σ H=>t { D with nx:=u D } σ H
theorem zK:PSs X [] zrl:=fun _ _ σ H _ I h=>wpAny_execs_nil ⟨σ,H,I,h⟩
theorem ze(h1:PS X st t)(h2:PSs X rest u):PSs X (st :: rest) (zls t u):=by
 intro zn s σ H D I h;refine wpAny_execs_cons (thn (h1 zn s σ H { D with nx:=u D } I h) fun f s1 q=>?_);cases f with
 | next =>
  obtain⟨σ',H',I',q⟩:=q;exact h2 zn s1 σ' H' D I' q
 | ret v=>exact q
 | brk=>exact q
 | cont=>exact q
theorem zm(h1:PS X st t):PSs X [st] t:=by
 intro zn s σ H D I h;refine wpAny_execs_cons (thn (h1 zn s σ H D I h) fun f s1 q=>?_);cases f with
 | next=>exact wpAny_execs_nil q
 | ret v=>exact q
 | brk=>exact q
 | cont=>exact q
theorem Inv.quiet{zn:List (Addr×Obj)}{σ:St}{H:Hp}{s:Shared}(I:Inv X zn σ H s):interactive X.env=false:=by simp [interactive,I.ok.kind]
def ztP(te:TE):TS:=fun D σ H=>te σ H fun _ H1=>D.nx σ H1
theorem zbS(he:PE X e te)(hs:swapsWith e none pos.line X.env=pure false:=by rfl):PS X (.Expr e pos) (ztP te):=by
 intro zn s σ H D I h;exact wpAny_Expr_any (thn (he zn s σ H _ I h) fun v s1 ⟨x,H1,I1,r1,q1⟩=>⟨σ,H1,I1,q1⟩) I.quiet hs
def zvw(te:TE):TS:=fun D σ H=>te σ H D.rt
theorem zw(he:PE X e te):PS X (.Return (some e) pos) (zvw te):=by
 intro zn s σ H D I h;exact wpAny_Return_some (thn (he zn s σ H _ I h) fun v s1 ⟨x,H1,I1,r1,q1⟩=>⟨x,σ,H1,I1,r1,q1⟩)
def zuY(c:TT)(t u:TS):TS:=fun D σ H=>c σ H fun b H1=>if b=true then t D σ H1 else u D σ H1
theorem zas{c:Expr}{a b:List Stmt}{tc:TT}(hc:PT X c tc)(ha:PSs X a t)(hb:PSs X b u):PS X (.If c a b pos) (zuY tc t u):=by
 intro zn s σ H D I h;refine wpAny_If (thn (hc zn s σ H _ I h) fun d s1 ⟨H1,I1,q1⟩=>?_);cases d with
 | true=>exact ha zn s1 σ H1 D I1 q1
 | false=>exact hb zn s1 σ H1 D I1 q1
def zqX:TS:=fun _ _ _=>False
theorem zpr:PS X st zqX:=fun _ _ _ _ _ _ h=>h.elim
end
abbrev TG:=V->St->Hp->(St->Hp->Prop)->Prop
abbrev TGs:=List V->St->Hp->(St->Hp->Prop)->Prop
def PG(X:Cx)(target:Expr)(t:TG):Prop :=
 ∀ (zn:List (Addr×Obj)) (s:Shared) (σ:St) (H:Hp) (v:V) (u:Value) (Q:St->Hp->Prop),Inv X zn σ H s->RelV v u->t v σ H Q ->
  wpAny (model X.prog X.w) X.A (assign target X.env u) (fun _ s'=>∃ σ' H',Inv X zn σ' H' s'/\Q σ' H') X.xe s
def PGs(X:Cx)(ts:List Expr)(t:TGs):Prop :=
 ∀ (zn:List (Addr×Obj)) (s:Shared) (σ:St) (H:Hp) (vs:List V) (us:List Value) (Q:St->Hp->Prop),Inv X zn σ H s->Vals vs us->t vs σ H Q ->
  wpAny (model X.prog X.w) X.A (assignInOrder ((assignEach ts X.env).map (·.2)) us) (fun _ s'=>∃ σ' H',Inv X zn σ' H' s'/\Q σ' H') X.xe s
abbrev TSet:=V->V->V->Hp->(Hp->Prop)->Prop
def PSet(X:Cx)(t:TSet):Prop :=
 ∀ (zn:List (Addr×Obj)) (s:Shared) (σ:St) (H:Hp) (o i v:V) (ov iv u:Value) (Q:Hp->Prop),Inv X zn σ H s->RelV o ov->RelV i iv->RelV v u->t o i v H Q ->
  wpAny (model X.prog X.w) X.A (setItem ov iv u) (fun _ s'=>∃ H',Inv X zn σ H' s'/\Q H') X.xe s
section
variable {X:Cx} {pos:Pos}
def zky(i:Nat):TG:=fun v σ H Q=>Q (σ.set i (some v)) H
theorem zu{i:Nat}{x:Str}(hN:X.N.Nodup)(hi:X.N[i]? = some x)(hx:Loc X.env.scope x)(hf:X.fn x=true\/X.env.scope.names.lookup x=some .local:=by first | exact .inl rfl | exact .inr rfl | assumption):PG X (.Name x pos) (zky i):=by
 intro zn s σ H v u Q I r h;exact wpAny_assign_Name (ziQ I hN hi hx r (fun s' I'=>⟨_,H,I',h⟩) hf)
def zwe:TGs:=fun vs σ H Q=>vs=[]/\Q σ H
def zuA(t:TG)(u:TGs):TGs:=fun vs σ H Q=>∃ v r,vs=v :: r/\t v σ H fun σ' H'=>u r σ' H' Q
theorem zbr:PGs X [] zwe:=by
 intro zn s σ H vs us Q I r h;obtain⟨e,h⟩:=h;subst e;cases r;exact assignInOrder_nil ⟨σ,H,I,h⟩
theorem zP{e:Expr}{es:List Expr}{t:TG}{u:TGs}(h1:PG X e t)(h2:PGs X es u)
  (hs:(assignEach (e :: es) X.env).map (·.2)=assign e X.env :: (assignEach es X.env).map (·.2):=by rfl):PGs X (e :: es) (zuA t u):=by
 intro zn s σ H vs us Q I r h;obtain⟨v,vr,e1,h⟩:=h;subst e1;cases r with
 | cons r rr =>
  rw [hs];refine assignInOrder_cons (thn (h1 zn s σ H _ _ _ I r h) fun _ s1 ⟨σ1,H1,I1,q1⟩=>?_);exact h2 zn s1 σ1 H1 _ _ Q I1 rr q1
def zv2(K:W.Frag)(n:Nat)(t:TGs):TG:=fun v σ H Q=>∃ a xs,v=.ref a/\SqT K H a xs/\xs.length=n/\t xs σ H Q
theorem zcw{es:List Expr}{k:Nat}{t:TGs}{n:Nat}(hc:X.calm=true)(h:PGs X es t)
  (hn:(assignEach es X.env).length=n:=by rfl) (hst:(assignEach es X.env).findIdx? (·.1)=none:=by rfl):PG X (.Tuple es k pos) (zv2 X.K n t):=by
 intro zn s σ H v u Q I r hw;obtain⟨a,xs,e1,hq,hl,hw⟩:=hw;subst e1;cases r;obtain⟨its,rv,ht,hz⟩:=I.tuple hq;refine assign_Tuple_tuple (I.ok.hd hc) ht (by simp [hn,<- hl,rv.length]) hst fun h' hx=>?_;have I1:Inv X zn σ H { s with heap:=h' }:=I.kept (t':=s.toks) fun b o e=>hx b o (ne_of_lt (lt_size e)) e;exact h zn _ σ H xs _ Q I1 (by simpa using rv) hw
def zvN(to ti:TE)(t:TSet):TG:=fun v σ H Q=>to σ H fun o H1=>ti σ H1 fun i H2=>t o i v H2 fun H3=>Q σ H3
theorem znp{o i:Expr}{to ti:TE}{t:TSet}(ho:PE X o to)(hi:PE X i ti)(hs:PSet X t)
  (ha:∀ v,assign (.Subscript o i pos) X.env v=(do
   let ov <- holding [v] (eval o X.env)
   let iv <- holding [v,ov] (eval i X.env)
   standAt pos
   holding [v,ov,iv] (setItem ov iv v)
   release [v,ov,iv] []):=by intro _; rfl):PG X (.Subscript o i pos) (zvN to ti t):=by
 intro zn s σ H v u Q I r h;rw [ha];refine wpAny_bind (wpAny_holding (thn (ho zn s σ H _ I h) fun ov s1 ⟨x,H1,I1,r1,q1⟩=>?_));refine wpAny_bind (wpAny_holding (thn (hi zn s1 σ H1 _ I1 q1) fun iv s2 ⟨y,H2,I2,r2,q2⟩=>?_));refine wpAny_bind (wpAny_standAt (wpAny_bind (wpAny_holding (thn (hs zn s2 σ H2 x y v ov iv u _ I2 r1 r2 r q2) fun _ s3 ⟨H3,I3,q3⟩=>?_))));exact wpAny_release ⟨σ,H3,I3,q3⟩
def ztM(te:TE)(g:TG):TS:=fun D σ H=>te σ H fun x H1=>g x σ H1 D.nx
theorem zkW{tg e:Expr}{te:TE}{g:TG}(he:PE X e te)(hg:PG X tg g)(hs:swapsWithSole [tg] e pos.line X.env=pure false:=by rfl)(hw:swappedStores [tg] e X.env=pure none:=by rfl)
  (h1:(assignEach [tg] X.env).map (·.2)=[assign tg X.env]:=by rfl):PS X (.Assign [tg] e pos) (ztM te g):=by
 intro zn s σ H D I h;refine wpAny_Assign_stores (thn (he zn s σ H _ I h) fun v s1 ⟨x,H1,I1,r1,q1⟩=>?_) hs hw;rw [h1];exact thn (hg zn s1 σ H1 x v _ I1 r1 q1) fun _ s2 q=>q
theorem zB{i:Nat}{x:Str}{e:Expr}{te:TE}{pos':Pos}(hN:X.N.Nodup)(hi:X.N[i]? = some x)(hx:Loc X.env.scope x)(he:PE X e te)(hs:swapsWith e (some (.Name x pos')) pos.line X.env=pure false:=by rfl)(hf:X.fn x=true\/X.env.scope.names.lookup x=some .local:=by first | exact .inl rfl | exact .inr rfl | assumption):
  PS X (.Assign [.Name x pos'] e pos) (ztM te (zky i)):=by
 intro zn s σ H D I h;refine wpAny_Assign_Name (thn (he zn s σ H _ I h) fun v s1 ⟨y,H1,I1,r1,q1⟩=>?_) hs;exact ziQ I1 hN hi hx r1 (fun s2 I2=>⟨_,H1,I2,q1⟩) hf
end
section
variable {X:Cx} {pos:Pos}
def zqt(c:TT)(tb:TS):TS:=fun D σ H=>∃ W:Nat->St->Hp->Prop,(∃ m,W m σ H)/\∀ m σ H,W m σ H ->
 c σ H fun b H1=>if b=true then ∃ N:St->Hp->Prop,(∀ σ' H',N σ' H'->∃ m',m'<m/\W m' σ' H')/\tb { D with nx:=N,ct:=N,bk:=D.nx } σ H1 else D.nx σ H1
theorem zoM{c:Expr}{body:List Stmt}{tc:TT}{tb:TS}(hp:PassesOwn (model X.prog X.w) X.A X.env X.xe)(hc:PT X c tc)(hb:PSs X body tb):PS X (.While c body [] pos) (zqt tc tb):=by
 intro zn s σ H D I h;obtain⟨W,⟨m0,w0⟩,turn⟩:=h;refine wpAny_While (codeAny_whileLoop (fun n s'=>∃ σ' H',Inv X zn σ' H' s'/\W n σ' H') ?_ m0 ⟨σ,H,I,w0⟩);rintro n s1 ⟨σ1,H1,I1,w1⟩;refine wpAny_passesOwn hp (thn (hc zn s1 σ1 H1 _ I1 (turn n σ1 H1 w1)) fun b s2 ⟨H2,I2,q2⟩=>?_);cases b with
 | true =>
  obtain⟨N,hN,q2⟩:=q2;rw [if_pos rfl];refine wpAny_passesOwn hp (thn (hb zn s2 σ1 H2 _ I2 q2) fun f s3 q3=>?_);cases f with
  | next =>
   obtain⟨σ3,H3,I3,n3⟩:=q3;obtain⟨m',hm,w3⟩:=hN σ3 H3 n3;exact⟨m',hm,σ3,H3,I3,w3⟩
  | cont =>
   obtain⟨σ3,H3,I3,n3⟩:=q3;obtain⟨m',hm,w3⟩:=hN σ3 H3 n3;exact⟨m',hm,σ3,H3,I3,w3⟩
  | brk=>exact q3
  | ret v=>exact q3
 | false =>
  rw [if_neg Bool.false_ne_true];exact wpAny_execs_nil ⟨σ1,H2,I2,q2⟩
end
structure It where
 go:Nat->Hp->Prop
 yld:Nat->Hp->V->Hp->Prop
 stop:Nat->Hp->Prop
def FpOk(X:Cx)(zn:List (Addr×Obj))(H:Hp)(b:Addr):Prop :=
 H b=none/\b≠X.env.locals/\b∉X.fs/\(b∈X.ex\/X.s₀.heap.objs.size<=b)/\(∀ x c,X.env.cells.lookup x=some c->c≠b)/\∀ p∈X.pn++zn,p.1≠b
theorem Inv.fpOk{X:Cx}{zn:List (Addr×Obj)}{σ:St}{H H':Hp}{s:Shared}{b:Addr}(I:Inv X zn σ H s)(hb:s.heap.objs.size<=b)(hn:H' b=none):FpOk X zn H' b:=by
 refine⟨hn,ne_of_gt (lt_of_lt_of_le I.lt hb),I.nofs hb,.inr (le_trans I.sz hb),fun x c e z=>?_,fun p hp z=>?_⟩
 ·obtain⟨v,q⟩:=I.cell x c e;exact absurd (lt_of_lt_of_le q.lt (by rw [z]; exact hb)) (lt_irrefl _)
 ·exact absurd (lt_of_lt_of_le (lt_size (I.pin p hp).1) (by rw [z]; exact hb)) (lt_irrefl _)
structure Turn(P:Program)(w:World)(K:W.Frag)(tg:Expr)(J:It)(fp:List Addr)(it:Addr)(tn:Nat->Heap->Prop):Prop where
 mem:it∈fp
 obj:∀ i h,tn i h->∀ b∈fp,∃ o,h.get? b=some o/\∀ v,o.data≠.cell v
 keep:∀ i h h',tn i h->(∀ b∈fp,∀ o,h.get? b=some o->h'.get? b=some o)->tn i h'
 item:∀ (X:Cx),X.prog=P->X.w=w->X.K=K->X.calm=true->∀ (i:Nat) (zn:List (Addr×Obj)) (s:Shared) (σ:St) (H:Hp) (E:Value->Shared->Prop),Inv X zn σ H s->(∀ b∈fp,FpOk X zn H b)->tn i s.heap->J.go i H ->
  wpAny (model P w) X.A (pyNext (.ref it)) (fun r s1=>∃ u,r=some u /\
   wpAny (model P w) X.A (letOwnedTupleGo tg (.ref it) u) (fun _ s2=>∃ x H',Inv X zn σ H' s2/\RelV x u/\J.yld i H x H'/\tn (i+1) s2.heap/\∀ b∈fp,H' b=none) E s1) E s
 done:∀ (X:Cx),X.prog=P->X.w=w->X.K=K->X.calm=true->∀ (i:Nat) (zn:List (Addr×Obj)) (s:Shared) (σ:St) (H:Hp) (E:Value->Shared->Prop),Inv X zn σ H s->(∀ b∈fp,FpOk X zn H b)->tn i s.heap->J.stop i H ->
  wpAny (model P w) X.A (pyNext (.ref it)) (fun r s1=>r=none/\Inv X zn σ H s1) E s
 self:∀ (A:Around) (i:Nat) (s:Shared) (Q:Value->Shared->Prop) (E:Value->Shared->Prop),tn i s.heap->Q (.ref it) s->wpAny (model P w) A (pyIter (.ref it)) Q E s
abbrev TI:=St->Hp->(It->Hp->Prop)->Prop
def PIE(X:Cx)(zn:List (Addr×Obj))(σ:St)(tg:Expr)(R:It->Hp->Prop)(itv:Value)(s2:Shared):Prop :=
 ∃ (it:Addr) (fp:List Addr) (tn:Nat->Heap->Prop) (J:It) (H':Hp),itv=.ref it/\Inv X zn σ H' s2/\Turn X.prog X.w X.K tg J fp it tn/\tn 0 s2.heap/\(∀ b∈fp,FpOk X zn H' b)/\R J H'
def PI(X:Cx)(tg iter:Expr)(wi:TI):Prop :=
 ∀ (zn:List (Addr×Obj)) (s:Shared) (σ:St) (H:Hp) (R:It->Hp->Prop),Inv X zn σ H s->wi σ H R ->
  wpAny (model X.prog X.w) X.A (eval iter X.env) (fun v s1=>wpAny (model X.prog X.w) X.A (pyIter v) (PIE X zn σ tg R) X.xe s1) X.xe s
theorem zoX{M:Model}{A:Around}{E:Value->Shared->Prop}{s:Shared}{tg:Expr}{it:Addr}{u:Value}{o:Obj}{n:String}{vs:Array Value}{Q:Unit->Shared->Prop}(ho:s.heap.get? it=some o)(hc:o.cls=.type n)(hd:o.data=.fields vs)
    (hn:["enumerate","zip","dict_itemiterator","dict_reverseitemiterator","odict_iterator","itertools.zip_longest","itertools.pairwise"].contains n=false) (hQ:Q () s):wpAny M A (letOwnedTupleGo tg (.ref it) u) Q E s:=by
  unfold letOwnedTupleGo;cases tg <;> first
    | exact wpAny_pure hQ
    | (cases u <;> first
        | exact wpAny_pure hQ
        | (refine wpAny_bind (wpAny_load ho ?_)
           rw [hc,hd];show wpAny M A (if (["enumerate","zip","dict_itemiterator","dict_reverseitemiterator","odict_iterator","itertools.zip_longest","itertools.pairwise"].contains n && vs[0]? == some (rawInt _))=true then _ else _) Q E s;rw [if_neg (by intro h; rw [hn,Bool.false_and] at h; cases h)];exact wpAny_pure hQ))
def Itl(K:W.Frag)(a:Addr):It :=
 ⟨fun i H=>∃ xs x,SqL K H a xs/\xs[i]? = some x,fun i H x H'=>H'=H/\∀ xs,SqL K H a xs->xs[i]? = some x,fun i H=>∃ xs,SqL K H a xs/\xs.length<=i⟩
def Itt(K:W.Frag)(a:Addr):It :=
 ⟨fun i H=>∃ xs x,SqT K H a xs/\xs[i]? = some x,fun i H x H'=>H'=H/\∀ xs,SqT K H a xs->xs[i]? = some x,fun i H=>∃ xs,SqT K H a xs/\xs.length<=i⟩
def Itr(lo:Int)(n:Nat):It:=⟨fun i _=>i<n,fun i H x H'=>H'=H/\x=.int (lo+i),fun i _=>n<=i⟩
theorem zj2{P:Program}{w:World}{K:W.Frag}{tg:Expr}(a it:Addr):Turn P w K tg (Itl K a) [it] it (fun i h=>h.IsListIter it a i) where
 mem:=by simp
 obj:=fun i h st b hb=>by
  have e:b=it:=by simpa using hb
  subst e;obtain⟨o,e,c,d⟩:=st;exact⟨o,e,fun v z=>by rw [d] at z; cases z⟩
 keep:=fun i h h' st k=>st.at fun o e=>k it (by simp) o e
 item:=by
  intro X hP hw hK hc i zn s σ H E I hf st hg;subst hP hw hK;obtain⟨xs,x,hq,hx⟩:=hg;obtain⟨its,rv,p,hz⟩:=I.list hq;obtain⟨u,hu,ru⟩:=rv.get hx;obtain⟨f0,f1,f2,f3,f4,f5⟩:=hf it (by simp);refine wpAny_pyNext_list_item st p.isList (x:=u) (by simpa using hu) fun h' st' sb=>?_;have I1:Inv X zn σ H { s with heap:=h' }:=I.turned (t':=s.toks) (fun b o hb e=>(sb.2 b hb).trans e) f0 f1 f3 f4 f5;obtain⟨o,e,c,d⟩:=id st';exact⟨u,rfl,zoX (s:={ s with heap:=h' }) e c d dz ⟨x,H,I1,ru,⟨rfl,fun ys hy=>by rw [I.list_inj hy hq]; exact hx⟩,st',fun b hb=>(hf b hb).1⟩⟩
 done:=by
  intro X hP hw hK hc i zn s σ H E I hf st hg;subst hP hw hK;obtain⟨xs,hq,hx⟩:=hg;obtain⟨its,rv,p,hz⟩:=I.list hq;obtain⟨f0,f1,f2,f3,f4,f5⟩:=hf it (by simp);have hl:=rv.length;exact wpAny_pyNext_list_end (I.ok.hd hc) st p.isList (by simp; omega) fun h' eb=>⟨rfl,I.turned (t':=s.toks) (fun b o hb e=>eb b o hb e) f0 f1 f3 f4 f5⟩
 self:=fun _ _ _ _ _ st h=>wpAny_pyIter_listiter st h
theorem zlQ{P:Program}{w:World}{K:W.Frag}{tg:Expr}(a it:Addr):Turn P w K tg (Itt K a) [it] it (fun i h=>h.IsTupleIter it a i) where
 mem:=by simp
 obj:=fun i h st b hb=>by
  have e:b=it:=by simpa using hb
  subst e;obtain⟨o,e,c,d⟩:=st;exact⟨o,e,fun v z=>by rw [d] at z; cases z⟩
 keep:=fun i h h' st k=>st.at fun o e=>k it (by simp) o e
 item:=by
  intro X hP hw hK hc i zn s σ H E I hf st hg;subst hP hw hK;obtain⟨xs,x,hq,hx⟩:=hg;obtain⟨its,rv,p,hz⟩:=I.tuple hq;obtain⟨u,hu,ru⟩:=rv.get hx;obtain⟨f0,f1,f2,f3,f4,f5⟩:=hf it (by simp);refine wpAny_pyNext_tuple_item st (show s.heap.IsTuple a its.toArray from p) (x:=u) (by simpa using hu) fun h' st' sb=>?_;have I1:Inv X zn σ H { s with heap:=h' }:=I.turned (t':=s.toks) (fun b o hb e=>(sb.2 b hb).trans e) f0 f1 f3 f4 f5;obtain⟨o,e,c,d⟩:=id st';exact⟨u,rfl,zoX (s:={ s with heap:=h' }) e c d dz ⟨x,H,I1,ru,⟨rfl,fun ys hy=>by rw [I.tuple_inj hy hq]; exact hx⟩,st',fun b hb=>(hf b hb).1⟩⟩
 done:=by
  intro X hP hw hK hc i zn s σ H E I hf st hg;subst hP hw hK;obtain⟨xs,hq,hx⟩:=hg;obtain⟨its,rv,p,hz⟩:=I.tuple hq;obtain⟨f0,f1,f2,f3,f4,f5⟩:=hf it (by simp);have hl:=rv.length;exact wpAny_pyNext_tuple_end (I.ok.hd hc) st (show s.heap.IsTuple a its.toArray from p) (by simp; omega) fun h' eb=>⟨rfl,I.turned (t':=s.toks) (fun b o hb e=>eb b o hb e) f0 f1 f3 f4 f5⟩
 self:=fun _ _ _ _ _ st h=>wpAny_pyIter_tupleiter st h
theorem zmi{P:Program}{w:World}{K:W.Frag}{tg:Expr}(it:Addr)(lo:Int)(n:Nat):Turn P w K tg (Itr lo n) [it] it (fun i h=>IsRangeIter h it (lo+(i:Nat)*1) ((n:Int) - (i:Nat)) 1) where
 mem:=by simp
 obj:=fun i h st b hb=>by
  have e:b=it:=by simpa using hb
  subst e;exact⟨_,st,fun v z=>by
   have z':Data.fields _=Data.cell v:=z;cases z'⟩
 keep:=fun i h h' st k=>k it (by simp) _ st
 item:=by
  intro X hP hw hK hc i zn s σ H E I hf st hg;subst hP hw hK;obtain⟨f0,f1,f2,f3,f4,f5⟩:=hf it (by simp);have W:=Walks.range (prog:=X.prog) (w:=X.w) (I.ok.hd hc) it lo 1 n;refine W.item i s _ _ hg st fun v h' tk hv st' kk=>?_;obtain⟨t,rfl⟩:=hv;have I1:Inv X zn σ H { s with heap:=h',toks:=tk }:=I.turned (fun b o hb e=>kk b o (by simpa using hb) e) f0 f1 f3 f4 f5;refine⟨_,rfl,zoX (s:={ s with heap:=h',toks:=tk }) (n:="range_iterator") st' rfl rfl dz ⟨.int (lo+i),H,I1,⟨t,?_⟩,⟨rfl,rfl⟩,st',fun b hb=>(hf b hb).1⟩⟩;rw [Int.mul_one]
 done:=by
  intro X hP hw hK hc i zn s σ H E I hf st hg;subst hP hw hK;obtain⟨f0,f1,f2,f3,f4,f5⟩:=hf it (by simp);exact wpAny_pyNext_range_end (I.ok.hd hc) st (by have:n<=i:=hg; omega) fun h' eb=>⟨rfl,I.turned (t':=s.toks) (fun b o hb e=>eb b o hb e) f0 f1 f3 f4 f5⟩
 self:=fun _ _ _ _ _ st h=>wpAny_pyIter_rangeiter st h
end
section
section
variable {X:Cx} {tg:Expr}
def zsq(K:W.Frag)(tl:TE):TI:=fun σ H R=>tl σ H fun x H1=>∃ a,x=.ref a/\(∃ xs,SqL K H1 a xs)/\R (Itl K a) H1
theorem zr6{l:Expr}{tl:TE}(hl:PE X l tl):PI X tg l (zsq X.K tl):=by
 intro zn s σ H R I h;refine thn (hl zn s σ H _ I h) fun v s1 ⟨x,H1,I1,r1,q1⟩=>?_;obtain⟨a,e,⟨xs,hq⟩,q⟩:=q1;subst e;cases r1;obtain⟨its,rv,p,hz⟩:=I1.list hq;refine wpAny_pyIter_list p.isList ?_;refine⟨s1.heap.objs.size,[s1.heap.objs.size],_,_,H1,rfl,I1.kept (t':=s1.toks) fun b o e=>get?_push_of_some _ e,zj2 a _,⟨_,get?_push_size _ rfl,rfl,rfl⟩,fun b hb=>?_,q⟩;have e:b=s1.heap.objs.size:=by simpa using hb
 subst e;exact I1.fpOk (le_refl _) (I1.hok.fresh (le_refl _))
def zs6(wi:TI)(g:TG)(tb:TS):TS:=fun D σ H=>wi σ H fun J H1=>∃ W:Nat->Nat->St->Hp->Prop,(∃ m,W 0 m σ H1)/\∀ i m σ H,W i m σ H ->
 (J.stop i H/\D.nx σ H)\/(J.go i H/\∃ N:St->Hp->Prop,(∀ σ' H',N σ' H'->∃ m',m'<m/\W (i+1) m' σ' H')/\∀ x H',J.yld i H x H'->g x σ H' fun σ2 H2=>tb { D with nx:=N,ct:=N,bk:=D.nx } σ2 H2)
def zjH(fp:List Addr)(h:Heap):List (Addr×Obj):=fp.filterMap fun b=>(h.get? b).map fun o=>(b,o)
theorem zd7{fp:List Addr}{h:Heap}{b:Addr}{o:Obj}(hb:b∈fp)(e:h.get? b=some o):(b,o)∈zjH fp h:=List.mem_filterMap.mpr ⟨b,hb,by rw [e]; rfl⟩
theorem znf{fp:List Addr}{h:Heap}{p:Addr×Obj}(hp:p∈zjH fp h):p.1∈fp/\h.get? p.1=some p.2:=by
 obtain⟨b,hb,e⟩:=List.mem_filterMap.mp hp;cases q:h.get? b with
 | none=>rw [q] at e; cases e
 | some o =>
  rw [q] at e;have e':(b,o)=p:=Option.some.inj e;subst e';exact⟨hb,q⟩
theorem Inv.pinned{zn:List (Addr×Obj)}{σ:St}{H:Hp}{s:Shared}{fp:List Addr}(I:Inv X zn σ H s)(hf:∀ b∈fp,FpOk X zn H b)(ho:∀ b∈fp,∃ o,s.heap.get? b=some o/\∀ v,o.data≠.cell v):Inv X (zn++zjH fp s.heap) σ H s :=
 I.pins_of fun p hp=>(mem_append.mp hp).elim (fun z=>I.pin p (mem_append_right _ z)) fun z=>by
  obtain⟨hb,e⟩:=znf z;obtain⟨f0,f1,f2,_⟩:=hf p.1 hb;obtain⟨o,e',d⟩:=ho p.1 hb;rw [e] at e'; cases e';exact⟨e,f0,f1,f2,d⟩
theorem Inv.unpinned{zn pl:List (Addr×Obj)}{σ:St}{H:Hp}{s:Shared}(I:Inv X (zn++pl) σ H s):Inv X zn σ H s:=I.pins_of fun p hp=>I.pin p (mem_append_right _ (mem_append_left _ hp))
theorem za8{iter:Expr}{body:List Stmt}{wi:TI}{g:TG}{tb:TS}{pos:Pos}(hp:PassesOwn (model X.prog X.w) X.A X.env X.xe)(hc:X.calm=true)(hi:PI X tg iter wi)(hg:PG X tg g)(hb:PSs X body tb)
  (hs:∀ x,foldedSetIterable iter X.env x=pure x:=by intro _; rfl):PS X (.For tg iter body [] pos) (zs6 wi g tb):=by
 intro zn s σ H D I h;refine wpAny_For (thn (hi zn s σ H _ I h) fun v s1 h1=>thn h1 fun itv s2 h2=>?_) hs;obtain⟨it,fp,tn,J,H2,e,I2,T,st2,f2,W,⟨m0,w0⟩,turn⟩:=h2;subst e
 -- what stays true of the iterator's objects through the loop
 have stat:∀ {H':Hp},(∀ b∈fp,H' b=none)->∀ b∈fp,FpOk X zn H' b:=fun hn b hb=>⟨hn b hb,(f2 b hb).2⟩;refine codeAny_forLoop_any (fun n s'=>∃ i σ' H',Inv X zn σ' H' s'/\tn i s'.heap/\(∀ b∈fp,H' b=none)/\W i n σ' H') ?_ m0 ⟨0,σ,H2,I2,st2,fun b hb=>(f2 b hb).1,w0⟩;rintro n s3 ⟨i,σ3,H3,I3,st3,fr3,w3⟩;rcases turn i n σ3 H3 w3 with ⟨stop,qn⟩ | ⟨go,N,hN,step⟩
 ·refine wpAny_passesOwn hp (thn (T.done X rfl rfl rfl hc i zn s3 σ3 H3 X.xe I3 (stat fr3) st3 stop) fun r s4 ⟨hr,I4⟩=>?_);subst hr;exact wpAny_execs_nil ⟨σ3,H3,I4,qn⟩
 ·refine wpAny_passesOwn hp (thn (T.item X rfl rfl rfl hc i zn s3 σ3 H3 X.xe I3 (stat fr3) st3 go) fun r s4 ⟨u,hr,h4⟩=>?_);subst hr;refine wpAny_passesOwn hp (thn h4 fun _ s5 ⟨x,H5,I5,r5,y5,st5,fr5⟩=>?_);have I5':=I5.pinned (stat fr5) (T.obj _ _ st5);refine wpAny_passesOwn hp (thn (hg _ s5 σ3 H5 x u _ I5' r5 (step x H5 y5)) fun _ s6 ⟨σ6,H6,I6,q6⟩=>?_);refine wpAny_passesOwn hp (thn (hb _ s6 σ6 H6 _ I6 q6) fun f s7 q7=>?_);have again:∀ {σ7:St} {H7:Hp},Inv X (zn++zjH fp s5.heap) σ7 H7 s7->N σ7 H7->∃ m,m<n/\∃ i σ' H',Inv X zn σ' H' s7/\tn i s7.heap/\(∀ b∈fp,H' b=none)/\W i m σ' H':=fun {σ7 H7} I7 n7=>by
   obtain⟨m',hm,w7⟩:=hN σ7 H7 n7;refine⟨m',hm,i+1,σ7,H7,I7.unpinned,T.keep _ _ _ st5 fun b hb o e=>(I7.pin (b,o) (mem_append_right _ (mem_append_right _ (zd7 hb e)))).1,fun b hb=>?_,w7⟩;obtain⟨o,e,d⟩:=T.obj _ _ st5 b hb;exact(I7.pin (b,o) (mem_append_right _ (mem_append_right _ (zd7 hb e)))).2.1
  cases f with
  | next=>obtain⟨σ7,H7,I7,n7⟩:=q7; exact again I7 n7
  | cont=>obtain⟨σ7,H7,I7,n7⟩:=q7; exact again I7 n7
  | brk=>obtain⟨σ7,H7,I7,q7⟩:=q7; exact⟨σ7,H7,I7.unpinned,q7⟩
  | ret v=>obtain⟨x7,σ7,H7,I7,r7,q7⟩:=q7; exact⟨x7,σ7,H7,I7.unpinned,r7,q7⟩
end
theorem zpp{K:W.Frag}{a:Addr}{xs:List V}{g:TG}{tb:TS}{D:Ends}{σ:St}{H:Hp}(Pv:Nat->St->Hp->Prop)(h0:Pv 0 σ H)(hl:∀ i σ H,i<=xs.length->Pv i σ H->SqL K H a xs)
  (hs:∀ i x σ H,xs[i]? = some x->Pv i σ H->g x σ H fun σ2 H2=>tb { D with nx:=Pv (i+1),ct:=Pv (i+1),bk:=D.nx } σ2 H2) (hd:∀ σ H,Pv xs.length σ H->D.nx σ H) :
  ∃ W:Nat->Nat->St->Hp->Prop,(∃ m,W 0 m σ H)/\∀ i m σ H,W i m σ H ->
   ((Itl K a).stop i H/\D.nx σ H)\/((Itl K a).go i H/\∃ N:St->Hp->Prop,(∀ σ' H',N σ' H'->∃ m',m'<m/\W (i+1) m' σ' H')/\∀ x H',(Itl K a).yld i H x H'->g x σ H' fun σ2 H2=>tb { D with nx:=N,ct:=N,bk:=D.nx } σ2 H2):=by
 refine⟨fun i m σ H=>m=xs.length - i/\i<=xs.length/\Pv i σ H,⟨xs.length,by simp,zero_le _,h0⟩,?_⟩;rintro i m σ H ⟨rfl,hi,p⟩;have q:=hl i σ H hi p;by_cases hlt:i<xs.length
 ·refine .inr ⟨⟨xs,xs[i],q,by simp [hlt]⟩,Pv (i+1),fun σ' H' p'=>⟨xs.length - (i+1),by omega,rfl,hlt,p'⟩,fun x H' y=>?_⟩;obtain⟨e,y⟩:=y;subst e;exact hs i x σ _ (y xs q) p
 ·have e:i=xs.length:=by omega
  subst e;exact .inl ⟨⟨xs,q,le_refl _⟩,hd σ H p⟩
end
section
abbrev R2:=V->V->Hp->VK->Prop
def OpR(X:Cx)(f:Value->Value->Sem Value)(r:R2):Prop :=
 ∀ (zn:List (Addr×Obj)) (s:Shared) (σ:St) (H:Hp) (x y:V) (v u:Value) (Q:VK),Inv X zn σ H s->RelV x v->RelV y u->r x y H Q ->
  wpAny (model X.prog X.w) X.A (f v u) (EP X zn σ Q) X.xe s
def UnR(X:Cx)(f:Value->Sem Value)(r:V->Hp->VK->Prop):Prop :=
 ∀ (zn:List (Addr×Obj)) (s:Shared) (σ:St) (H:Hp) (x:V) (v:Value) (Q:VK),Inv X zn σ H s->RelV x v->r x H Q ->
  wpAny (model X.prog X.w) X.A (f v) (EP X zn σ Q) X.xe s
def CallR(X:Cx)(f:Value)(r:List V->Hp->VK->Prop):Prop :=
 ∀ (zn:List (Addr×Obj)) (s:Shared) (σ:St) (H:Hp) (xs:List V) (us:List Value) (Q:VK),Inv X zn σ H s->Vals xs us->r xs H Q ->
  wpAny (model X.prog X.w) X.A (call f us) (EP X zn σ Q) X.xe s
def TruR(X:Cx)(r:V->Hp->(Bool->Hp->Prop)->Prop):Prop :=
 ∀ (zn:List (Addr×Obj)) (s:Shared) (σ:St) (H:Hp) (x:V) (v:Value) (Q:Bool->Hp->Prop),Inv X zn σ H s->RelV x v->r x H Q ->
  wpAny (model X.prog X.w) X.A (truthy v) (TP X zn σ Q) X.xe s
def tOp(r:R2)(ta tb:TE):TE:=fun σ H Q=>ta σ H fun x H1=>tb σ H1 fun y H2=>r x y H2 Q
def tUn(r:V->Hp->VK->Prop)(ta:TE):TE:=fun σ H Q=>ta σ H fun x H1=>r x H1 Q
def rI(C:Int->Int->Prop)(g:Int->Int->V):R2:=fun x y H Q=>∃ i j,x=.int i/\y=.int j/\C i j/\Q (g i j) H
def rI0(g:Int->Int->V):R2:=fun x y H Q=>∃ i j,x=.int i/\y=.int j/\Q (g i j) H
def rU(g:Int->V):V->Hp->VK->Prop:=fun x H Q=>∃ i,x=.int i/\Q (g i) H
section
variable {X:Cx} {a b c:Expr} {ta tb tc:TE} {pos:Pos}
theorem zvk(ha:PE X a ta)(hb:PE X b tb){zn:List (Addr×Obj)}{s:Shared}{σ:St}{H:Hp}{R:V->V->Hp->Prop}(I:Inv X zn σ H s)
  (h:ta σ H fun x H1=>tb σ H1 fun y H2=>R x y H2) {Q:Value->Shared->Prop} {f:Value->Value->Sem Value}
  (hf:∀ v u s2 x y H2,Inv X zn σ H2 s2->RelV x v->RelV y u->R x y H2->wpAny (model X.prog X.w) X.A (f v u) Q X.xe s2) :
  wpAny (model X.prog X.w) X.A (eval a X.env) (fun v s₁=>wpAny (model X.prog X.w) X.A (eval b X.env) (fun u s₂=>wpAny (model X.prog X.w) X.A (f v u) Q X.xe s₂) X.xe s₁) X.xe s:=by
 refine thn (ha zn s σ H _ I h) fun v s1 ⟨x,H1,I1,r1,q1⟩=>?_;refine thn (hb zn s1 σ H1 _ I1 q1) fun u s2 ⟨y,H2,I2,r2,q2⟩=>?_;exact hf v u s2 x y H2 I2 r1 r2 q2
theorem zF{op:Operator}{r:R2}(ho:OpR X (binaryOp op) r)(ha:PE X a ta)(hb:PE X b tb):PE X (.BinOp a op b pos) (tOp r ta tb):=by
 intro zn s σ H Q I h;exact wpAny_BinOp (zvk ha hb I h fun v u s2 x y H2 I2 rx ry q=>ho zn s2 σ H2 x y v u Q I2 rx ry q)
theorem zeg{op:UnaryOp}{r:V->Hp->VK->Prop}(ho:UnR X (unaryOp op) r)(ha:PE X a ta):PE X (.UnaryOp op a pos) (tUn r ta):=by
 intro zn s σ H Q I h;exact UnaryOp_ (thn (ha zn s σ H _ I h) fun v s1 ⟨x,H1,I1,r1,q1⟩=>ho zn s1 σ H1 x v Q I1 r1 q1)
theorem opI{f:Value->Value->Sem Value}{C:Int->Int->Prop}{g:Int->Int->Int}
  (rule:∀ (i j:Int) (t u:Tok) (s:Shared) (Q:Value->Shared->Prop) (E:Value->Shared->Prop),C i j->Q (.int (g i j) s.toks) { s with toks:=s.toks+1 }->wpAny (model X.prog X.w) X.A (f (.int i t) (.int j u)) Q E s) :
  OpR X f (rI C fun i j=>.int (g i j)):=by
 intro zn s σ H x y v u Q I rx ry h;obtain⟨i,j,rfl,rfl,hc,q⟩:=h;obtain⟨t,rfl⟩:=rx;obtain⟨t',rfl⟩:=ry;exact rule i j t t' s _ _ hc ⟨.int (g i j),H,I.tok _,⟨_,rfl⟩,q⟩
theorem zvZ{f:Value->Value->Sem Value}{g:Int->Int->Int}
  (rule:∀ (i j:Int) (t u:Tok) (s:Shared) (Q:Value->Shared->Prop) (E:Value->Shared->Prop),Q (.int (g i j) s.toks) { s with toks:=s.toks+1 }->wpAny (model X.prog X.w) X.A (f (.int i t) (.int j u)) Q E s) :
  OpR X f (rI0 fun i j=>.int (g i j)):=by
 intro zn s σ H x y v u Q I rx ry h;obtain⟨i,j,rfl,rfl,q⟩:=h;obtain⟨t,rfl⟩:=rx;obtain⟨t',rfl⟩:=ry;exact rule i j t t' s _ _ ⟨.int (g i j),H,I.tok _,⟨_,rfl⟩,q⟩
theorem zu1{f:Value->Value->Sem Value}{g:Int->Int->Bool}
  (rule:∀ (i j:Int) (t u:Tok) (s:Shared) (Q:Value->Shared->Prop) (E:Value->Shared->Prop),Q (.bool (g i j)) s->wpAny (model X.prog X.w) X.A (f (.int i t) (.int j u)) Q E s) :
  OpR X f (rI0 fun i j=>.bl (g i j)):=by
 intro zn s σ H x y v u Q I rx ry h;obtain⟨i,j,rfl,rfl,q⟩:=h;obtain⟨t,rfl⟩:=rx;obtain⟨t',rfl⟩:=ry;exact rule i j t t' s _ _ ⟨.bl (g i j),H,I,rfl,q⟩
def CDivN(i j:Int):Prop:=j≠0/\j.natAbs<1073741824
def CPow(i j:Int):Prop:=0<=j/\j<=1000000/\i.natAbs<2 ^ 64
theorem ztB:OpR X (binaryOp .Add) (rI0 fun i j=>.int (i+j)):=zvZ fun _ _ _ _ _ _ _ q=>add_int q
theorem zbO:OpR X (binaryOp .Sub) (rI0 fun i j=>.int (i - j)):=zvZ fun _ _ _ _ _ _ _ q=>sub_int q
theorem zo2:OpR X (binaryOp .FloorDiv) (rI CDivN fun i j=>.int (i.fdiv j)):=opI fun _ _ _ _ _ _ _ hc q=>floordiv_int hc.1 q (.inl (PyProof.noPylong_small hc.2))
theorem ze5:OpR X (binaryOp .Mod) (rI (fun _ j=>0<j) fun i j=>.int (i % j)):=opI fun i j _ _ _ _ _ hc q=>by
 have h1:(0:Int)<j:=hc;exact mod_int' (by omega) (by rw [Int.fmod_eq_emod_of_nonneg i (by omega)]; exact q)
theorem zf5:OpR X (binaryOp .Pow) (rI CPow fun i j=>.int (i ^ j.toNat)):=opI fun _ _ _ _ _ _ _ hc q=>pow_int_small hc.1 hc.2.1 hc.2.2 q
theorem unI{f:Value->Sem Value}{g:Int->Int}
  (rule:∀ (i:Int) (t:Tok) (s:Shared) (Q:Value->Shared->Prop) (E:Value->Shared->Prop),Q (.int (g i) s.toks) { s with toks:=s.toks+1 }->wpAny (model X.prog X.w) X.A (f (.int i t)) Q E s) :
  UnR X f (rU fun i=>.int (g i)):=by
 intro zn s σ H x v Q I rx h;obtain⟨i,rfl,q⟩:=h;obtain⟨t,rfl⟩:=rx;exact rule i t s _ _ ⟨.int (g i),H,I.tok _,⟨_,rfl⟩,q⟩
theorem zcu:UnR X (unaryOp .USub) (rU fun i=>.int (-i)):=unI fun _ _ _ _ _ q=>neg_int q
end
section
variable {X:Cx} {a b c:Expr} {ta tb tc:TE} {pos:Pos}
theorem zm5{zn:List (Addr×Obj)}{σ:St}{H:Hp}{s:Shared}{Q:VK}{k k':Bool}(I:Inv X zn σ H s)(q:Q (.bl k) H)(e:k=k'):EP X zn σ Q (.bool k') s:=by
 subst e;exact⟨.bl k,H,I,rfl,q⟩
theorem zkB:OpR X (compareOp .Lt) (rI0 fun i j=>.bl (decide (i<j))):=zu1 fun _ _ _ _ _ _ _ q=>lt_int q
theorem zhA:OpR X (compareOp .LtE) (rI0 fun i j=>.bl (decide (i<=j))):=zu1 fun _ _ _ _ _ _ _ q=>le_int q
theorem zii:OpR X (compareOp .Gt) (rI0 fun i j=>.bl (decide (j<i))):=zu1 fun _ _ _ _ _ _ _ q=>gt_int q
theorem zoS:OpR X (compareOp .GtE) (rI0 fun i j=>.bl (decide (j<=i))):=zu1 fun _ _ _ _ _ _ _ q=>ge_int q
theorem zs0:OpR X (compareOp .Is) (fun x y H Q=>y=.non/\Q (.bl (decide (x=.non))) H):=by
 intro zn s σ H x y v u Q I rx ry h;obtain⟨rfl,q⟩:=h;cases ry;refine is_none_gen (zm5 I q ?_);cases x <;> first
  | (cases rx; rfl)
  | (obtain⟨t,rfl⟩:=rx; rfl)
theorem zsD:OpR X (compareOp .IsNot) (fun x y H Q=>y=.non/\Q (.bl (!decide (x=.non))) H):=by
 intro zn s σ H x y v u Q I rx ry h;obtain⟨rfl,q⟩:=h;cases ry;refine isnot_none_gen (zm5 I q ?_);cases x <;> first
  | (cases rx; rfl)
  | (obtain⟨t,rfl⟩:=rx; rfl)
theorem OpR.or{f:Value->Value->Sem Value}{r r':R2}(h:OpR X f r)(h':OpR X f r'):OpR X f (fun x y H Q=>r x y H Q\/r' x y H Q):=by
 intro zn s σ H x y v u Q I rx ry q;rcases q with q | q
 ·exact h zn s σ H x y v u Q I rx ry q
 ·exact h' zn s σ H x y v u Q I rx ry q
theorem nomark(b:Expr){op:CmpOp}(h:op≠.In:=by decide)(h2:op≠.NotIn:=by decide):behindInMarks op b=false:=by
 have e1:(op == CmpOp.In)=false:=by cases op <;> first | rfl | exact absurd rfl h
 have e2:(op == CmpOp.NotIn)=false:=by cases op <;> first | rfl | exact absurd rfl h2
 cases b <;> simp [behindInMarks,e1,e2]
theorem zbL{op:CmpOp}{r:R2}(ho:OpR X (compareOp op) r)(ha:PE X a ta)(hb:PE X b tb)(hm:behindInMarks op b=false):PE X (.Compare a [op] [b] pos) (tOp r ta tb):=by
 intro zn s σ H Q I h;exact wpAny_Compare1 (zvk ha hb I h fun v u s2 x y H2 I2 rx ry q=>ho zn s2 σ H2 x y v u Q I2 rx ry q) hm
def znq(t:TE):TT:=fun σ H Q=>t σ H fun x H'=>∃ k,x=.bl k/\Q k H'
theorem zN{op:CmpOp}{r:R2}(ho:OpR X (compareOp op) r)(ha:PE X a ta)(hb:PE X b tb)(hm:behindInMarks op b=false):PT X (.Compare a [op] [b] pos) (znq (tOp r ta tb)):=by
 intro zn s σ H Q I h;refine wpAny_isTrue_Compare1 (thn (ha zn s σ H _ I h) fun v s1 ⟨x,H1,I1,r1,q1⟩=>thn (hb zn s1 σ H1 _ I1 q1) fun u s2 ⟨y,H2,I2,r2,q2⟩ =>
  thn (ho zn s2 σ H2 x y v u _ I2 r1 r2 q2) fun c s3 ⟨z,H3,I3,r3,k,e,q3⟩=>?_) hm
 subst e;cases r3;exact wpAny_truthy_bool ⟨H3,I3,q3⟩
def zmP(r r':R2)(ta tb tc:TE):TE:=fun σ H Q=>ta σ H fun x H1=>tb σ H1 fun y H2=>r x y H2 fun z H3=>∃ k,z=.bl k /\
 (if k=true then tc σ H3 fun w' H4=>r' y w' H4 Q else Q (.bl false) H3)
theorem zgu{op op':CmpOp}{r r':R2}(ho:OpR X (compareOp op) r)(ho':OpR X (compareOp op') r')(ha:PE X a ta)(hb:PE X b tb)(hc:PE X c tc)
  (hm:lastMarks [op,op'] [b,c]=false:=by with_unfolding_all rfl):PE X (.Compare a [op,op'] [b,c] pos) (zmP r r' ta tb tc):=by
 intro zn s σ H Q I h;refine Compare_chain (thn (ha zn s σ H _ I h) fun v s1 ⟨x,H1,I1,r1,q1⟩=>chain_link (thn (hb zn s1 σ H1 _ I1 q1) fun u s2 ⟨y,H2,I2,r2,q2⟩ =>
  thn (ho zn s2 σ H2 x y v u _ I2 r1 r2 q2) fun d s3 ⟨z,H3,I3,r3,k,e,q3⟩=>?_)) hm
 subst e;cases r3;refine wpAny_truthy_bool ?_;cases k with
 | false=>exact ite_ff ⟨.bl false,H3,I3,rfl,q3⟩
 | true=>exact ite_tt (chain_last (thn (hc zn s3 σ H3 _ I3 q3) fun w' s4 ⟨z',H4,I4,r4,q4⟩=>ho' zn s4 σ H4 y z' u w' Q I4 r2 r4 q4))
theorem zoZ{op op':CmpOp}{r r':R2}(ho:OpR X (compareOp op) r)(ho':OpR X (compareOp op') r')(ha:PE X a ta)(hb:PE X b tb)(hc:PE X c tc)
  (hm:lastMarks [op,op'] [b,c]=false:=by with_unfolding_all rfl):PT X (.Compare a [op,op'] [b,c] pos) (znq (zmP r r' ta tb tc)):=by
 intro zn s σ H Q I h;refine isTrue_chain (thn (ha zn s σ H _ I h) fun v s1 ⟨x,H1,I1,r1,q1⟩=>test_link (thn (hb zn s1 σ H1 _ I1 q1) fun u s2 ⟨y,H2,I2,r2,q2⟩ =>
  thn (ho zn s2 σ H2 x y v u _ I2 r1 r2 q2) fun d s3 ⟨z,H3,I3,r3,k,e,q3⟩=>?_)) hm
 subst e;cases r3;refine wpAny_truthy_bool ?_;cases k with
 | false =>
  obtain⟨k',e',q'⟩:=q3;cases e';exact ite_ff ⟨H3,I3,q'⟩
 | true =>
  refine ite_tt (test_last (thn (hc zn s3 σ H3 _ I3 q3) fun w' s4 ⟨z',H4,I4,r4,q4⟩=>thn (ho' zn s4 σ H4 y z' u w' _ I4 r2 r4 q4) fun d' s5 ⟨z2,H5,I5,r5,k2,e2,q5⟩=>?_));subst e2;cases r5;exact wpAny_truthy_bool ⟨H5,I5,q5⟩
def TruV(K:W.Frag)(x:V)(H:Hp)(k:Bool):Prop :=
 match x with
 | .non=>k=false
 | .bl b=>k=b
 | .int i=>k=(i != 0)
 | .str y=>y.length<=sizeLine/\k=((y.length:Int) != 0)
 | .byt y=>y.size<=sizeLine/\k=((y.size:Int) != 0)
 | .ref p=>(∃ xs,SqL K H p xs/\k = !xs.isEmpty)\/(∃ xs,SqT K H p xs/\k = !xs.isEmpty)\/∃ kvs,H p=some (.dK kvs)/\k = !kvs.isEmpty
 | _=>False
theorem zlT{κ:Type}{kvs:List (κ×V)}{vs:List (κ×Value)}(r:KV kvs vs):(!vs.isEmpty) = !kvs.isEmpty:=by
 cases r <;> rfl
theorem zh6{xs:List V}{its:List Value}(r:Vals xs its):(!its.toArray.isEmpty) = !xs.isEmpty:=by
 cases r <;> simp
theorem line63:(sizeLine:Nat)<2 ^ 63:=by rw [sizeLine_eq]; decide
theorem ztO:TruR X (fun x H Q=>∃ k,TruV X.K x H k/\Q k H):=by
 intro zn s σ H x v Q I rx h;obtain⟨k,e,q⟩:=h;have hl:=line63;have hs:sizeLine=16777216:=sizeLine_eq;cases x with
 | non =>
  cases rx;have e':k=false:=e;subst e';exact truthy_none ⟨H,I,q⟩
 | bl b =>
  cases rx;have e':k=b:=e;subst e';exact wpAny_truthy_bool ⟨H,I,q⟩
 | int i =>
  obtain⟨t,rfl⟩:=rx;have e':k=(i != 0):=e;subst e';exact PySem.P.truthy_int ⟨H,I,q⟩
 | str y =>
  obtain⟨t,rfl⟩:=rx;obtain⟨hy,e'⟩:y.length<=sizeLine/\k=((y.length:Int) != 0):=e;subst e';exact PySem.P.truthy_str (by omega) ⟨H,I.tok _,q⟩
 | byt y =>
  obtain⟨t,rfl⟩:=rx;obtain⟨hy,e'⟩:y.size<=sizeLine/\k=((y.size:Int) != 0):=e;subst e';exact W.truthy_bytes (by omega) ⟨H,I.tok _,q⟩
 | ref p =>
  cases rx;have e':(∃ xs,SqL X.K H p xs/\k = !xs.isEmpty)\/(∃ xs,SqT X.K H p xs/\k = !xs.isEmpty)\/∃ kvs,H p=some (.dK kvs)/\k = !kvs.isEmpty:=e;rcases e' with ⟨xs,hx,e'⟩ | ⟨xs,hx,e'⟩ | ⟨kvs,hx,e'⟩
  ·subst e';obtain⟨its,r,pl,hz⟩:=I.list hx;have hlen:=r.length;exact wpAny_truthy_list pl.isList (by simp only [size_toArray]; omega) ⟨H,I.tok _,by rw [zh6 r]; exact q⟩
  ·subst e';obtain⟨its,r,pl,hz⟩:=I.tuple hx;have hlen:=r.length;exact truthy_tuple pl (by simp only [size_toArray]; omega) ⟨H,I.tok _,by rw [zh6 r]; exact q⟩
  ·subst e';obtain⟨hz,hS,vs,r,m⟩:kvs.length<=sizeLine/\(p == sysModules)=false/\∃ vs,KV kvs vs/\s.heap.DictOf (zbV X.prog X.w) p vs:=I.hok p _ hx;have hlen:kvs.length=vs.length:=Paired.length r;exact wpAny_truthy_dict hS m (by omega) ⟨H,I.tok _,by rw [zlT r]; exact q⟩
 | _=>exact(show False from e).elim
theorem zY(ha:PE X a ta)(he:∀ whole,isTrue a X.env whole=(do let v <- whole; standAt a.pos; holding [v] (truthy v))):
  PT X a (fun σ H Q=>ta σ H fun x H'=>∃ k,TruV X.K x H' k/\Q k H'):=by
 intro zn s σ H Q I h;exact isTrue_plain (thn (ha zn s σ H _ I h) fun v s1 ⟨x,H1,I1,r1,q1⟩=>ztO zn s1 σ H1 x v Q I1 r1 q1) (he _)
theorem zmf:OpR X (binaryOp .Add) (fun x y H Q=>∃ i j,x=.str i/\y=.str j/\i.length+j.length<=sizeLine/\Q (.str (i++j)) H):=by
 intro zn s σ H x y v u Q I rx ry h;obtain⟨i,j,rfl,rfl,hz,q⟩:=h;obtain⟨t,rfl⟩:=rx;obtain⟨t',rfl⟩:=ry;exact add_str (fun t' tk=>⟨.str (i++j),H,I.tok _,⟨_,rfl⟩,q⟩) hz
theorem vals1{x:V}{us:List Value}(r:Vals [x] us):∃ u,us=[u]/\RelV x u:=by
 cases r with
 | cons r1 r2=>cases r2; exact⟨_,rfl,r1⟩
theorem vals2{x y:V}{us:List Value}(r:Vals [x,y] us):∃ u w',us=[u,w']/\RelV x u/\RelV y w':=by
 cases r with
 | cons r1 r2 =>
  cases r2 with
  | cons r3 r4=>cases r4; exact⟨_,_,rfl,r1,r3⟩
theorem zhg(hc:X.calm=true):CallR X (.builtin "max") (fun xs H Q=>∃ i j,xs=[.int i,.int j]/\Q (.int (if j>i then j else i)) H):=by
 intro zn s σ H xs us Q I r h;obtain⟨i,j,rfl,q⟩:=h;obtain⟨u,w',rfl,⟨t,rfl⟩,⟨t',rfl⟩⟩:=vals2 r;refine max_two_ints (I.ok.hd hc) fun h' tk k=>⟨_,H,I.kept k,?_,q⟩;by_cases hj:j>i
 ·rw [if_pos hj,if_pos hj]; exact⟨_,rfl⟩
 ·rw [if_neg hj,if_neg hj]; exact⟨_,rfl⟩
theorem zj1(hc:X.calm=true):CallR X (.builtin "min") (fun xs H Q=>∃ i j,xs=[.int i,.int j]/\Q (.int (if j<i then j else i)) H):=by
 intro zn s σ H xs us Q I r h;obtain⟨i,j,rfl,q⟩:=h;obtain⟨u,w',rfl,⟨t,rfl⟩,⟨t',rfl⟩⟩:=vals2 r;refine min_two_ints (I.ok.hd hc) fun h' tk k=>⟨_,H,I.kept k,?_,q⟩;by_cases hj:j<i
 ·rw [if_pos hj,if_pos hj]; exact⟨_,rfl⟩
 ·rw [if_neg hj,if_neg hj]; exact⟨_,rfl⟩
theorem zmC:CallR X (.type "int") (fun xs H Q=>(∃ i,xs=[.int i]/\Q (.int i) H)\/∃ k,xs=[.bl k]/\Q (.int (if k then 1 else 0)) H):=by
 intro zn s σ H xs us Q I r h;rcases h with ⟨i,rfl,q⟩ | ⟨k,rfl,q⟩
 ·obtain⟨u,rfl,t,rfl⟩:=vals1 r;exact call_int_int ⟨.int i,H,I,⟨_,rfl⟩,q⟩
 ·obtain⟨u,rfl,r1⟩:=vals1 r;cases r1;exact call_int_bool ⟨.int (if k then 1 else 0),H,I.tok _,⟨_,rfl⟩,q⟩
end
end
section
structure ObjM(h:Heap)(x dx C:Addr)(mA:Str->Option Value):Prop where
 obj:h.get? x=some (W.instObj C dx)
 ns:h.Ns1 dx mA
 ne:dx≠x
theorem znv{h:Heap}{dx:Addr}{mA:Str->Option Value}(n:h.Ns1 dx mA):∃ od,h.get? dx=some od/\∀ name,W.lookIn name od=some (mA name):=by
 obtain⟨o,es,ep,ho,hd,hk,_,hm⟩:=n;refine⟨o,ho,fun name=>?_⟩;have e:=hm name;unfold nsFind findBy at e;rw [<- Array.find?_toList] at e;unfold W.lookIn;rw [hd];dsimp only;split
 ·rename_i y q;rw [q] at e;exact congrArg some e
 ·rename_i q;rw [q] at e;have a:es.toList.any (·.refKey)=false:=by
   rw [List.any_eq_false];intro y hy;obtain⟨z,t,hkey⟩:=hk y (Array.mem_toList_iff.mp hy);simp [DictEntry.refKey,hkey]
  have a':¬ es.toList.any (·.refKey)=true:=by rw [a]; exact Bool.false_ne_true
  rw [if_neg a'];exact congrArg some e
theorem ObjM.look{h:Heap}{x dx C:Addr}{mA:Str->Option Value}(I:ObjM h x dx C mA):∃ od,W.InstAt h x (W.instObj C dx) C (some od)/\∀ name,W.lookIn name od=some (mA name) :=
 let ⟨od,ho,hl⟩:=znv I.ns
 ⟨od,⟨I.obj,rfl,rfl,ho⟩,hl⟩
section
variable {P:Program} {w:World} {H H':Hp} {h h':Heap} {a C dx:Addr} {fs fs':List (Str×V)}
theorem zrx(hok:HOk P w H h)(e:H a=some (.ins C dx fs)):∃ mA,ObjM h a dx C mA/\(∀ f,RelO (fs.lookup f) (mA f))/\PySem.Within mA (fs.map (·.1))/\fs.length<=1000/\H dx=some (.own a):=by
 obtain⟨d,z,ne,ob,mA,n,r,q⟩:=(show ObjOk P w H h a (.ins C dx fs) from hok a _ e);exact⟨mA,⟨ob,n,ne⟩,r,q,z,d⟩
end
structure Cls(K:W.Frag)(C:Addr):Prop where
 pg:W.plainGet K C Str.empty=true
 hd:W.hasDictIn K C=true
 po:W.plainOver K C=true
 sa:W.findIn K (.ref C) "__setattr__" = some (some (.builtin "object.__setattr__"))
theorem Cls.get{K:W.Frag}{C:Addr}(c:Cls K C)(f:Str):W.plainGet K C f=true:=c.pg
section
variable {X:Cx} {zn:List (Addr×Obj)} {σ:St} {H:Hp} {s:Shared} {A:Around} {E:Value->Shared->Prop} {Q:Value->Shared->Prop} {c:Value} {b:Bool}
inductive TyOf (K:W.Frag) (H:Hp):V->Value->Prop where
 | non:TyOf K H .non (.type "NoneType")
 | bl (x:Bool):TyOf K H (.bl x) (.type "bool")
 | int (i:Int):TyOf K H (.int i) (.type "int")
 | str (x:Str):TyOf K H (.str x) (.type "str")
 | flt (x:UInt64):TyOf K H (.flt x) (.type "float")
 | lst {a:Addr} {xs:List V} (e:H a=some (.lst xs)):TyOf K H (.ref a) (.type "list")
 | frz {a:Addr} {o:Obj} {xs:List V} (e:H a=some (.frz o (.lst xs))):TyOf K H (.ref a) (.type "list")
 | tup {a:Addr} {xs:List V} (e:H a=some (.tup xs)):TyOf K H (.ref a) (.type "tuple")
 | dK {a:Addr} {kvs:List (Key×V)} (e:Rd H a (.dK kvs)):TyOf K H (.ref a) (.type "dict")
 | dT {a:Addr} {kvs:List (List Key×V)} (e:Rd H a (.dT kvs)):TyOf K H (.ref a) (.type "dict")
 | ins {a C dx:Addr} {fs:List (Str×V)} (e:H a=some (.ins C dx fs)) (cl:Cls K C) (ha:W.findIn K (.ref C) "__class__" = some (some (.builtin "object.__class__")))
   (hn:W.specialIn K (.builtin "object.__class__") "__get__" = some (some (.builtin "getset_descriptor.__get__"))) (htk:W.takesIn K (.builtin "object.__class__")=some true)
   (hm:W.mroIn K C (.type "object")=some true):TyOf K H (.ref a) (.ref C)
theorem zos{x:V}{u t:Value}(I:Inv X zn σ H s)(rx:RelV x u)(ty:TyOf X.K H x t)(e:W.kitOne X.K t c=some b)(h:∀ tk,Q (.bool b) { s with toks:=tk }):
  wpAny (model X.prog X.w) A (call (.builtin "isinstance") [u,c]) Q E s:=by
 cases ty with
 | non=>cases (show u=Value.none from rx); exact W.kia_one W.kitx_none I.kIn True.intro e (fun z=>nomatch z) h
 | bl y=>cases (show u=Value.bool y from rx); exact W.kia_one W.kitx_bool I.kIn True.intro e (fun z=>nomatch z) h
 | int i=>obtain⟨t,q⟩:=(show ∃ t,u=Value.int i t from rx); cases q; exact W.kia_one W.kitx_int I.kIn True.intro e (fun z=>nomatch z) h
 | str y=>obtain⟨t,q⟩:=(show ∃ t,u=Value.str y t from rx); cases q; exact W.kia_one W.kitx_str I.kIn True.intro e (fun z=>nomatch z) h
 | flt y=>obtain⟨t,q⟩:=(show ∃ t,u=Value.float y t from rx); cases q; exact W.kia_one W.kitx_float I.kIn True.intro e (fun z=>nomatch z) h
 | @lst a xs ea =>
  cases (show u=Value.ref a from rx);obtain⟨_,_,n,_,h1⟩:=(show ObjOk X.prog X.w H s.heap a (.lst xs) from I.hok a _ ea);exact W.kia_one W.kitx_list I.kIn ⟨_,h1,rfl⟩ e (fun z=>nomatch z) h
 | @frz a ob xs ea =>
  cases (show u=Value.ref a from rx);obtain⟨_,_,_,n,_,h1⟩:=(show ObjOk X.prog X.w H s.heap a (.frz ob (.lst xs)) from I.hok a _ ea);exact W.kia_one W.kitx_list I.kIn ⟨_,h1,rfl⟩ e (fun z=>nomatch z) h
 | @tup a xs ea =>
  cases (show u=Value.ref a from rx);obtain⟨_,_,_,p⟩:=(show ObjOk X.prog X.w H s.heap a (.tup xs) from I.hok a _ ea);obtain⟨o,h1,h2,_⟩:=p;exact W.kia_one W.kitx_tuple I.kIn ⟨o,h1,h2⟩ e (fun z=>nomatch z) h
 | @dK a kvs ea =>
  cases (show u=Value.ref a from rx);obtain⟨_,_,vs,_,p⟩:=(show ObjOk X.prog X.w H s.heap a (.dK kvs) from ea.ok I.hok);obtain⟨o,es,ep,h1,h2,_⟩:=p;exact W.kia_one W.kitx_dict I.kIn ⟨o,h1,h2.1⟩ e (fun z=>nomatch z) h
 | @dT a kvs ea =>
  cases (show u=Value.ref a from rx);obtain⟨_,_,xs,_,o,es,ep,h1,h2,_⟩:=(show ObjOk X.prog X.w H s.heap a (.dT kvs) from ea.ok I.hok);exact W.kia_one W.kitx_dict I.kIn ⟨o,h1,h2.1⟩ e (fun z=>nomatch z) h
 | @ins a C dx fs ea cl ha hn htk hm =>
  cases (show u=Value.ref a from rx);obtain⟨mA,O,_⟩:=zrx I.hok ea;obtain⟨od,J,_⟩:=O.look;exact W.kia_one (W.kitx_own (cl.get _) cl.hd ha hn htk hm) I.kIn J e (fun z=>nomatch z) h
end
end
section
structure Room(k:Nat)(A:Around):Prop where
 hd:A.handled=none
 dp:A.depth+3*k+5<recursionLimit
 un:A.units+16*k+200<cLine
theorem Room.mono{j k:Nat}{A:Around}(r:Room k A)(h:j<=k):Room j A:=⟨r.hd,by have:=r.dp; omega,by have:=r.un; omega⟩
theorem Room.deeper{k:Nat}{A:Around}(r:Room (k+1) A)(env:Env):Room k (A.deeper env) :=
 ⟨r.hd,by have:=r.dp; show A.depth+1+3*k+5<_; omega,by have:=r.un; show A.units+3+16*k+200<_; omega⟩
theorem Room.in1{k:Nat}{A:Around}(r:Room (k+1) A):Room k A.in1 :=
 ⟨r.hd,by have:=r.dp; show A.depth+3*k+5<_; omega,by have:=r.un; show A.units+1+16*k+200<_; omega⟩
theorem Room.depth{k:Nat}{A:Around}(r:Room k A):A.depth<recursionLimit:=by have:=r.dp; omega
theorem Room.units{k:Nat}{A:Around}(r:Room k A):A.units+64<cLine:=by have:=r.un; omega
theorem Room.units0{k:Nat}{A:Around}(r:Room k A):A.units<cLine:=by have:=r.un; omega
def zrY:TA:=fun _ H Q=>Q [] H
def ziZ(ta:TE)(tr:TA):TA:=fun σ H Q=>ta σ H fun x H1=>tr σ H1 fun xs H2=>Q (x :: xs) H2
section
variable {X:Cx} {e:Expr} {es:List Expr} {te:TE} {t:TA} {pos:Pos}
theorem zd:PA X [] zrY:=fun _ _ _ _ H Q I h=>Calls.spliced_nil ⟨[],H,I,.nil,h⟩
theorem za(ha:PE X e te)(hr:PA X es t)(hs:starEach (e :: es) X.env=(false,eval e X.env) :: starEach es X.env:=by rfl):PA X (e :: es) (ziZ te t):=by
 intro pos zn s σ H Q I h;rw [hs];show wpAny _ _ (spliced ((false,eval e X.env) :: backTo pos (starEach es X.env))) _ _ s;refine Calls.spliced_cons (thn (ha zn s σ H _ I h) fun u s1 ⟨x,H1,I1,r1,q1⟩=>?_);exact thn (hr pos zn s1 σ H1 _ I1 q1) fun us s2 ⟨xs,H2,I2,r2,q2⟩=>⟨x :: xs,H2,I2,.cons r1 r2,q2⟩
def zvU(t:TA):TE:=fun σ H Q=>t σ H fun xs H1=>xs.length<=sizeLine/\∀ p,H1 p=none->Q (.ref p) (upd H1 p (.tup xs))
def zsF(t:TA):TE:=fun σ H Q=>t σ H fun xs H1=>xs.length<=sizeLine/\∀ p,H1 p=none->Q (.ref p) (upd H1 p (.lst xs))
theorem zak{x1}(h:PA X es t):PE X (.Tuple es x1 pos) (zvU t):=by
 intro zn s σ H Q I hq;refine wpAny_Tuple_spliced (thn (h pos zn s σ H _ I hq) fun us s1 ⟨xs,H1,I1,r,z,q⟩=>⟨by rw [<- r.length]; exact z,?_⟩);have hf:H1 s1.heap.objs.size=none:=I1.hok.fresh (le_refl _);refine⟨.ref s1.heap.objs.size,upd H1 s1.heap.objs.size (.tup xs),I1.laid (t':=s1.toks) (fun b u e=>get?_push_of_some _ e) (le_refl _) ?_,rfl,q _ hf⟩;exact⟨⟨z,_,get?_push_size _ rfl,rfl⟩,us,r,⟨_,get?_push_size _ rfl,rfl,_,rfl⟩⟩
theorem zal(h:PA X es t):PE X (.List es pos) (zsF t):=by
 intro zn s σ H Q I hq;refine wpAny_List_spliced (thn (h pos zn s σ H _ I hq) fun us s1 ⟨xs,H1,I1,r,z,q⟩=>⟨by rw [<- r.length]; exact z,?_⟩);have hf:H1 s1.heap.objs.size=none:=I1.hok.fresh (le_refl _);refine⟨.ref s1.heap.objs.size,upd H1 s1.heap.objs.size (.lst xs),I1.laid (t':=s1.toks) (fun b u e=>get?_push_of_some _ e) (le_refl _) ?_,rfl,q _ hf⟩;exact⟨z,us,0,r,get?_push_size _ rfl⟩
end
abbrev Sp:=List V->Hp->VK->XK->Prop
abbrev CXT:=List Env->Hp->Shared->XK->Value->Shared->Prop
structure Env0(P:Program)(w:World)(K:W.Frag)(mg:Str->Option Value)(base:Heap)(A:Around)(outer:List Env)(s:Shared)(H:Hp):Prop where
 frames:A.frames=some outer
 mod:Mod K mg base
 bs:∀ b o,base.get? b=some o->s.heap.get? b=some o/\H b=none
 bsz:base.objs.size<=s.heap.objs.size
 funs:s.heap.FunFrames base outer
 frf:Frf (frs outer) H
 hok:HOk P w H s.heap
 bare:AllBare s.gens
def CE(outer:List Env)(P:Program)(w:World)(H:Hp)(s:Shared)(Q:VK)(u:Value)(s':Shared):Prop :=
 ∃ v H',s'.os=s.os/\AllBare s'.gens/\Un (frs outer) [] H H' s.heap s'.heap/\HOk P w H' s'.heap/\RelV v u/\Q v H'
def CR(CX:CXT)(outer:List Env)(P:Program)(w:World)(H:Hp)(s:Shared)(Q:VK)(E:XK)(r:Result)(s':Shared):Prop :=
 match r with
 | .ok (.ret u)=>CE outer P w H s Q u s'
 | .ok _=>False
 | .error e=>CX outer H s E e s'
structure FnOk(P:Program)(w:World)(K:W.Frag)(mg:Str->Option Value)(base:Heap)(CX:CXT)(k:Nat)(f:Addr)(fd:FuncData)(ps:List Str)(sp:Sp):Prop where
 len:∀ vs H Q E,sp vs H Q E->vs.length=ps.length
 run:∀ (A:Around) (outer:List Env) (s:Shared) (H:Hp) (args:Args) (us:List Value) (vs:List V) (Q:VK) (E:XK),Room k A->Env0 P w K mg base A outer s H->BindsTo s fd args (ps.zip us)->Vals vs us->sp vs H Q E ->
  codeAny (model P w) A (.call (.ref f) args) (CR CX outer P w H s Q E) s
theorem Env0.in1{P:Program}{w:World}{K:W.Frag}{mg:Str->Option Value}{base:Heap}{A:Around}{outer:List Env}{s:Shared}{H:Hp}(e:Env0 P w K mg base A outer s H):
  Env0 P w K mg base A.in1 outer s H:=⟨e.frames,e.mod,e.bs,e.bsz,e.funs,e.frf,e.hok,e.bare⟩
section
variable {X:Cx} {zn:List (Addr×Obj)} {σ:St} {H:Hp} {s s':Shared}
theorem Inv.env0(I:Inv X zn σ H s):Env0 X.prog X.w X.K X.mg X.base X.A X.stack s H :=
 ⟨I.ok.frames,I.ok.mod,I.bs,le_trans I.ok.bsz I.sz,I.stack,I.stkFree,I.hok,I.bare⟩
theorem Inv.after{Q:VK}{u:Value}(I:Inv X zn σ H s)(h:CE X.stack X.prog X.w H s Q u s'):EP X zn σ Q u s':=by
 obtain⟨v,H',os,bare,un,hok,r,q⟩:=h;obtain⟨hh,g,d,t,os'⟩:=s';obtain rfl:os'=s.os:=os;exact⟨v,H',I.call (h':=hh) (g':=g) (d':=d) (t':=t) (ch:=[]) un hok bare (fun b z=>absurd z (by simp)),r,q⟩
end
def zl7(sp:Sp)(dvs:List V)(E:XK)(t:TA):TE:=fun σ H Q=>t σ H fun vs H1=>sp (vs++dvs) H1 Q E
def Binds(K:W.Frag)(fd:FuncData)(ps:List Str)(ds:List Value):Prop :=
 ∀ (s:Shared) (us:List Value),K.In s.heap->(us++ds).length=ps.length->BindsTo s fd ⟨us,[]⟩ (ps.zip (us++ds))
theorem Binds.all{K:W.Frag}{fd:FuncData}{ps:List Str}(h:∀ us:List Value,us.length=ps.length->bindArgs fd ⟨us,[]⟩=pure (ps.zip us)):Binds K fd ps []:=fun s us _ hl=>by
 rw [append_nil] at hl ⊢;exact .of_eq (h us hl)
def Passes(CX:CXT)(X:Cx)(E:XK):Prop:=∀ (zn:List (Addr×Obj)) (σ:St) (H:Hp) (s:Shared) (e:Value) (s':Shared),Inv X zn σ H s->CX X.stack H s E e s'->X.xe e s'
section
variable {X:Cx} {CX:CXT} {k:Nat} {f C:Addr} {fd:FuncData} {ps:List Str} {sp:Sp} {dvs:List V} {ds:List Value} {E:XK} {x m:Str} {p pos apos:Pos} {e o:Expr} {es:List Expr} {ta:TE} {t:TA}
theorem ztR{zn:List (Addr×Obj)}{σ:St}{H:Hp}{s:Shared}{Q:VK}{us:List Value}{vs:List V}(F:FnOk X.prog X.w X.K X.mg X.base CX k f fd ps sp)(hr:Room k X.A)(hb:Binds X.K fd ps ds)(hd:Vals dvs ds)(hx:Passes CX X E)
  (I:Inv X zn σ H s) (r:Vals vs us) (h:sp (vs++dvs) H Q E):wpAny (model X.prog X.w) X.A (call (.ref f) us) (EP X zn σ Q) X.xe s:=by
 have r2:Vals (vs++dvs) (us++ds):=r.append hd;have hl:(us++ds).length=ps.length:=by rw [<- r2.length]; exact F.len _ _ _ _ h
 refine wpAny_call (codeAny_mono (F.run X.A X.stack s H ⟨us,[]⟩ (us++ds) (vs++dvs) Q E hr I.env0 (hb s us I.kIn hl) r2 h) fun r s' hq=>?_);cases r with
 | error e=>exact hx zn σ H s e s' I hq
 | ok fl =>
  cases fl with
  | ret u=>exact I.after hq
  | next=>exact False.elim hq
  | brk=>exact False.elim hq
  | cont=>exact False.elim hq
theorem zmO(F:FnOk X.prog X.w X.K X.mg X.base CX k f fd ps sp)(hr:Room k X.A)(hg:Gl X x)(hm:X.mg x=some (.ref f))(hk:W.keepIn X.K (.ref f)=true)(hb:Binds X.K fd ps ds)(hd:Vals dvs ds)(hx:Passes CX X E)
  (ha:PA X (e :: es) t) (hdb:(x == ("__debug__":Str))=false:=by decide) (he:starEach (e :: es) X.env=(false,eval e X.env) :: starEach es X.env:=by rfl) (hpl:(backTo pos (starEach es X.env)).any (·.1)=false:=by rfl) :
  PE X (.Call (.Name x p) (e :: es) [] pos) (zl7 sp dvs E t):=by
 intro zn s σ H Q I h;refine wpAny_Call_Name_kw (zkl I hg hm ?_ hdb);refine W.callWith_K (h₀:=X.base) I.ok.mod.kin hk (thn (ha pos zn s σ H _ I h) fun us s1 ⟨vs,H1,I1,r,q⟩=>⟨I1.kIn,?_⟩) he hpl;exact ztR F hr hb hd hx I1 r q
end
structure FnScope(N P:List Str)(sc:Scope):Prop where
 kind:sc.kind=.function
 co:sc.isCoroutine=false
 gen:sc.isGenerator=false
 nd:N.Nodup
 pre:N.take P.length=P
 par:∀ x∈P,sc.names.lookup x=some .local\/sc.names.lookup x=some .cell
 nofree:∀ y∈sc.names,y.2≠.free
theorem zi8{kindOf:Str->Option NameKind}{x:Str}:∀ {binds:List (Str×Value)} {m:Str->Option Value},(∀ v,(x,v)∉binds)->bindL kindOf binds m x=m x
 | [],_,_=>rfl
 | (n,v) :: r,m,h=>by
  unfold bindL;rw [zi8 fun w hw=>h w (mem_cons_of_mem _ hw)];split
  ·have:x≠n:=by rintro rfl; exact h v mem_cons_self
   simp [this]
  ·rfl
theorem zjm{kindOf:Str->Option NameKind}{x:Str}:∀ {binds:List (Str×Value)} {m:Str->Option Value},(∀ v,(x,v)∉binds)->bindC kindOf binds m x=m x
 | [],_,_=>rfl
 | (n,v) :: r,m,h=>by
  unfold bindC;rw [zjm fun w hw=>h w (mem_cons_of_mem _ hw)];split
  ·rfl
  ·have:x≠n:=by rintro rfl; exact h v mem_cons_self
   simp [this]
theorem zj3{kindOf:Str->Option NameKind}{x:Str}{v:Value}:∀ {P:List Str} {vs:List Value} {i:Nat} {m:Str->Option Value},P.Nodup->P[i]? = some x->vs[i]? = some v->kindOf x=some .local ->
  bindL kindOf (P.zip vs) m x=some v
 | [],_,_,_,_,h,_,_=>by simp at h
 | _ :: _,[],_,_,_,_,h,_=>by simp at h
 | p :: P,w :: vs,0,m,nd,h1,h2,hk=>by
  simp at h1 h2; subst h1; subst h2;show bindL kindOf ((p,w) :: P.zip vs) m p=_;unfold bindL;rw [zi8 fun v hv=>(nodup_cons.mp nd).1 (of_mem_zip hv).1,if_pos hk];simp
 | p :: P,w :: vs,i+1,m,nd,h1,h2,hk=>by
  show bindL kindOf ((p,w) :: P.zip vs) m x=_;unfold bindL;exact zj3 (i:=i) (nodup_cons.mp nd).2 (by simpa using h1) (by simpa using h2) hk
theorem zj0{kindOf:Str->Option NameKind}{x:Str}{v:Value}:∀ {P:List Str} {vs:List Value} {i:Nat} {m:Str->Option Value},P.Nodup->P[i]? = some x->vs[i]? = some v->kindOf x≠some .local ->
  bindC kindOf (P.zip vs) m x=some v
 | [],_,_,_,_,h,_,_=>by simp at h
 | _ :: _,[],_,_,_,_,h,_=>by simp at h
 | p :: P,w :: vs,0,m,nd,h1,h2,hk=>by
  simp at h1 h2; subst h1; subst h2;show bindC kindOf ((p,w) :: P.zip vs) m p=_;unfold bindC;rw [zjm fun v hv=>(nodup_cons.mp nd).1 (of_mem_zip hv).1,if_neg hk];simp
 | p :: P,w :: vs,i+1,m,nd,h1,h2,hk=>by
  show bindC kindOf ((p,w) :: P.zip vs) m x=_;unfold bindC;exact zj0 (i:=i) (nodup_cons.mp nd).2 (by simpa using h1) (by simpa using h2) hk
def start(N:List Str)(vs:List V):St:=vs.map some++List.replicate (N.length - vs.length) none
def zkt(CX:CXT)(P:Program)(w:World)(K:W.Frag)(mg:Str->Option Value)(base:Heap)(N:List Str)(qual:Str)(scope:Scope)(f:Addr)(cd:Value)(A:Around)(outer:List Env)(s:Shared)(H:Hp)(E:XK):Cx where
 prog:=P
 w:=w
 K:=K
 mg:=mg
 base:=base
 A:=A.deeper (envOfC qual scope s.heap.objs.size f cd)
 N:=N
 s₀:=s
 H₀:=H
 env:=envOfC qual scope s.heap.objs.size f cd
 outer:=outer
 stack:=envOfC qual scope s.heap.objs.size f cd :: outer
 ex:=[]
 calm:=true
 fn:=fun _=>true
 pn:=[]
 xe:=fun e s'=>wpAny (model P w) (A.deeper (envOfC qual scope s.heap.objs.size f cd)) (leaving (envOfC qual scope s.heap.objs.size f cd) e) (fun _ s''=>CX outer H s E e s'') (fun e' s''=>CX outer H s E e' s'') s'
theorem zlm{sc:Scope}{n:Nat}{x:Str}(h:sc.names.lookup x=some .cell):∃ c,(cellsFrom n sc.names []).lookup x=some c:=by
 have q:=W.cellsFrom_some sc.names n [] (.inl h);exact isSome_iff_exists.mp q
theorem zjM{CX:CXT}{P:Program}{w:World}{K:W.Frag}{mg:Str->Option Value}{base:Heap}{N ps:List Str}{qual:Str}{scope:Scope}{f:Addr}{cd:Value}{A:Around}{outer:List Env}{s s1:Shared}{H:Hp}{E:XK}{us:List Value}{vs:List V}
  (S:FnScope N ps scope) (hd:A.handled=none) (e0:Env0 P w K mg base A outer s H) (hl:vs.length=ps.length) (r:Vals vs us)
  (x:InCallC s s.heap.objs.size (bindL (envOfC qual scope s.heap.objs.size f cd).kindOf (ps.zip us) fun _=>none) (cellsFrom (s.heap.objs.size+1) scope.names []) (bindC (envOfC qual scope s.heap.objs.size f cd).kindOf (ps.zip us) fun _=>none) s1) :
  Inv (zkt CX P w K mg base N qual scope f cd A outer s H E) [] (start N vs) H s1:=by
 have hpl:ps.length<=N.length:=by have:=congrArg List.length S.pre; rw [length_take] at this; omega
 obtain⟨h1,tk,rfl,hk⟩:=x.done;have noA:∀ b:Addr,b∉(zkt CX P w K mg base N qual scope f cd A outer s H E).ex:=fun b z=>absurd (show b∈([]:List Addr) from z) (by simp);refine⟨⟨e0.mod,S.kind,rfl,rfl,le_refl _,fun y z c h1 h2=>?_,fun y hy=>?_,fun y c _ h=>?_,fun _=>hd,Around.frames_deeper e0.frames,.inr ⟨rfl,rfl⟩,fun b z=>absurd z (noA b),e0.bs,e0.bsz,fun b _ _=>noA b,fun b z=>absurd z (noA b),e0.funs,e0.frf⟩,
  rfl,e0.bare,Un.kept hk,⟨_,x.toInCall.ns,fun i y v h1 h2 h3=>?_⟩,fun y c h=>⟨_,x.cell y c h⟩,e0.hok.fresh (le_refl _),fun y c h=>?_,fun p hp=>absurd (show p∈([]:List (Addr×Obj)) from hp) (by simp),e0.hok.kept hk,?_⟩
 ·exact name_of_addr x.apart (PySem.mem_of_lookup h1) (PySem.mem_of_lookup h2)
 ·have hy:scope.names.lookup y=some .cell\/scope.names.lookup y=some .free:=hy;rcases hy with hy | hy
  ·exact zlm hy
  ·exact absurd rfl (S.nofree _ (PySem.mem_of_lookup hy))
 ·exact le_of_lt (x.above y c (PySem.mem_of_lookup h))
 ·have hi:i<vs.length:=by
   unfold start at h2;by_cases hi:i<vs.length
   ·exact hi
   ·rw [getElem?_append_right (by simpa using hi)] at h2;rw [List.getElem?_replicate] at h2;split at h2 <;> cases h2
  have ha:vs[i]? = some v:=by
   unfold start at h2;rw [getElem?_append_left (by simpa using hi),getElem?_map] at h2;cases e:vs[i]? with
   | none=>rw [e] at h2; cases h2
   | some a=>rw [e] at h2; cases h2; rfl
  obtain⟨u,hu,rv⟩:=r.get ha;have hp:ps[i]? = some y:=by
   rw [<- S.pre,List.getElem?_take_of_lt (by omega)]; exact h1
  have ndP:ps.Nodup:=by rw [<- S.pre]; exact S.nd.sublist (List.take_sublist _ _)
  refine⟨u,rv,?_⟩;rcases S.par y (mem_of_getElem? hp) with k | k
  ·exact .inl ⟨k,zj3 ndP hp hu k⟩
  ·obtain⟨c,e⟩:=zlm (n:=s.heap.objs.size+1) k;refine .inr ⟨.inl k,c,e,?_⟩;have q:=x.cell y c e;rw [zj0 ndP hp hu (by show scope.names.lookup y≠_; rw [k]; decide)] at q;exact q
 ·exact e0.hok.fresh (le_of_lt (x.above y c (PySem.mem_of_lookup h)))
 ·unfold start;show _=N.length;rw [length_append,length_map,List.length_replicate];omega
theorem ztc{CX:CXT}{P:Program}{w:World}{K:W.Frag}{mg:Str->Option Value}{base:Heap}{k:Nat}{f:Addr}{name qual:Str}{params:Arguments}{body:List Stmt}{scope:Scope}{dV kV doc pm cdv ct oc:Value}{an od:Option Addr}
  {osl:Array (Option Value)} {N ps:List Str} {sp:Sp} (lk:K.lookup f=some ⟨oc,od,.func (W.fnOf name qual params body scope dV kV doc pm an cdv ct),osl⟩) (hcd:W.codeIn K cdv qual=true) (S:FnScope N ps scope)
  (len:∀ vs H Q E,sp vs H Q E->vs.length=ps.length)
  (hbody:∀ (A:Around) (outer:List Env) (s:Shared) (H:Hp) (vs:List V) (Q:VK) (E:XK),Room k (A.deeper (envOfC qual scope s.heap.objs.size f cdv))->sp vs H Q E ->
   ∃ t,PSs (zkt CX P w K mg base N qual scope f cdv A outer s H E) body t/\t { nx:=fun _ H'=>Q .non H',rt:=Q } (start N vs) H) :
  FnOk P w K mg base CX (k+1) f (W.fnOf name qual params body scope dV kV doc pm an cdv ct) ps sp:=by
 refine⟨len,fun A outer s H args us vs Q E hr e0 hb r hsp=>?_⟩;have hl:=len _ _ _ _ hsp;have KX:K.In s.heap:=e0.mod.kin.keeps fun b o e=>(e0.bs b o e).1;have lim:s.heap.NoLimit:=e0.mod.nolimit.keeps fun b o e=>(e0.bs b o e).1;have hkind:∀ y∈ps.zip us,scope.names.lookup y.1=some .local\/(scope.names.lookup y.1=some .cell/\((cellsFrom (s.heap.objs.size+1) scope.names []).lookup y.1).isSome=true):=fun⟨n,v⟩ hy=>by
  rcases S.par n (of_mem_zip hy).1 with q | q
  ·exact .inl q
  ·exact .inr ⟨q,W.cellsFrom_some _ _ _ (.inl q)⟩
 refine codeAny_call_function hr.depth (KX _ _ lk) rfl S.co S.gen rfl (W.codeRec_of KX hcd) (hb _ _ _ _ ?_);refine wpAny_newFunctionEnv_cells S.kind hkind fun env he s1 x=>?_;subst he;refine⟨lim.keeps x.toInCall.keep,codeAny_func ?_⟩;obtain⟨t,ht,hq⟩:=hbody A outer s H vs Q E (hr.deeper _) hsp;have I:Inv (zkt CX P w K mg base N qual scope f cdv A outer s H E) [] (start N vs) H s1:=zjM S hr.hd e0 hl r x;refine wpAny_mono (ht [] s1 (start N vs) H _ I hq) (fun fl s' hs=>?_) fun e s' hs=>hs;have fin:∀ {σ':St} {H':Hp} {v:V} {u:Value},Inv (zkt CX P w K mg base N qual scope f cdv A outer s H E) [] σ' H' s'->RelV v u->Q v H'->CE outer P w H s Q u s' :=
  fun {σ' H' v u} J rv q=>⟨v,H',J.os,J.bare,J.base,J.hok,rv,q⟩
 cases fl with
 | ret u =>
  obtain⟨v,σ',H',J,rv,q⟩:=hs;exact fin J rv q
 | next =>
  obtain⟨σ',H',J,q⟩:=hs;exact fin (v:=V.non) (u:=Value.none) J rfl q
 | brk =>
  obtain⟨_,_,_,q⟩:=hs;exact False.elim q
 | cont =>
  obtain⟨_,_,_,q⟩:=hs;exact False.elim q
end
section
section
variable {X:Cx} {x:Str} {p pos:Pos} {e:Expr} {es:List Expr} {t:TA} {id T:String} {r:List V->Hp->VK->Prop}
def tCB(r:List V->Hp->VK->Prop)(t:TA):TE:=fun σ H Q=>t σ H fun vs H1=>r vs H1 Q
theorem zq(hc:CallR X (.builtin id) r)(hg:Gl X x)(hm:X.mg x=none)(hv:bootBuiltins x=some (.builtin id))(ha:PA X (e :: es) t)(hn:x ≠ "__name__":=by decide)(hdb:(x == ("__debug__":Str))=false:=by decide)
  (he:starEach (e :: es) X.env=(false,eval e X.env) :: starEach es X.env:=by rfl) (hpl:(backTo pos (starEach es X.env)).any (·.1)=false:=by rfl):PE X (.Call (.Name x p) (e :: es) [] pos) (tCB r t):=by
 intro zn s σ H Q I h;refine wpAny_Call_Name_kw (zcR I hg hm hv ?_ hn hdb);exact PyProof.Rows.callWith_builtin1 (thn (ha pos zn s σ H _ I h) fun us s1 ⟨vs,H1,I1,r1,q1⟩=>hc zn s1 σ H1 vs us Q I1 r1 q1) he hpl
theorem zaS(hc:CallR X (.type T) r)(hg:Gl X x)(hm:X.mg x=none)(hv:bootBuiltins x=some (.type T))(ha:PA X (e :: es) t)(hn:x ≠ "__name__":=by decide)(hdb:(x == ("__debug__":Str))=false:=by decide)
  (he:starEach (e :: es) X.env=(false,eval e X.env) :: starEach es X.env:=by rfl) (hpl:(backTo pos (starEach es X.env)).any (·.1)=false:=by rfl):PE X (.Call (.Name x p) (e :: es) [] pos) (tCB r t):=by
 intro zn s σ H Q I h;refine wpAny_Call_Name_kw (zcR I hg hm hv ?_ hn hdb);exact PyProof.Rows.callWith_type1 (thn (ha pos zn s σ H _ I h) fun us s1 ⟨vs,H1,I1,r1,q1⟩=>hc zn s1 σ H1 vs us Q I1 r1 q1) he hpl
end
end
end L2
namespace HT
open PySem PyProof.Rows
def lexLt:List Int->List Int->Bool
 | [],[]=>false
 | [],_ :: _=>true
 | _ :: _,[]=>false
 | x :: xs,y :: ys=>if x=y then lexLt xs ys else decide (x<y)
theorem lexLt_cons(x y:Int)(xs ys:List Int):lexLt (x :: xs) (y :: ys)=if x=y then lexLt xs ys else decide (x<y):=rfl
theorem lexLt_nil_nil:lexLt [] []=false:=rfl
theorem lexLt_nil_cons(y:Int)(ys:List Int):lexLt [] (y :: ys)=true:=rfl
theorem lexLt_cons_nil(x:Int)(xs:List Int):lexLt (x :: xs) []=false:=rfl
theorem eqAt_int(A:Around)(s:Shared)(a:Int)(t:Tok)(c:Int)(u:Tok):∃ e,SeqAt.EqAt A s (.int a t) (.int c u) e/\(e=true↔a=c) :=
 ⟨(a == c),SeqAt.EqAt.int_int a t c u,by simp⟩
theorem zo5(A:Around)(s:Shared)(a:Int)(t:Tok)(c:Int)(u:Tok)(prog:Program)(w:World)(E:Value->Shared->Prop)(Q:Value->Shared->Prop)(h:Q (.bool (decide (a<c))) s):
  wpAny (model prog w) A (richCompare .Lt (.int a t) (.int c u)) Q E s :=
 (PyProof.Rows.lt_int h:wpAny (model prog w) A (compareOp .Lt (.int a t) (.int c u)) Q E s)
section
open PySem.SeqAt
open PySem.AutoSeq1 (wpAny_loadPart')
open PySem.MeetsSeq PySem.MeetsSeq2 PySem.MeetsSeq3
theorem zih(l b:Addr)(items items2:Array Value)(n n2:Nat)(dd dd2:Option Addr)(sl sl2:Array (Option Value))(ns ms:List Int)(hi:IntsAre items.toList ns)(hj:IntsAre items2.toList ms):
  Meets (Builtin.«tuple.__lt__» ⟨[.ref l,.ref b],[]⟩)
   (fun _ R s=>s.heap.get? l=some { cls:=.type "tuple",dict:=dd,data:=.seq items n,slots:=sl }/\s.heap.get? b=some { cls:=.type "tuple",dict:=dd2,data:=.seq items2 n2,slots:=sl2 } /\
    R (.ok (.ret (.bool (lexLt ns ms)))) s) :=
 .of_wp fun prog w A R s h=>by
  obtain⟨hp,g,d,tk,os⟩:=s; obtain⟨hl,hb,h⟩:=h;have f2:=AutoSeq1.sub_tuple_tuple;have z1:items.size=ns.length:=by rw [<- hi.length]; simp
  have z2:items2.size=ms.length:=by rw [<- hj.length]; simp
  wp_walk using wpAny_loadPart' hl,wpAny_loadPart' hb,wpAny_forIn_list _ (fun rest b s'=>b.1=none/\s'=⟨hp,g,d,tk,os⟩/\∃ (vs ws:List Value) (ns' ms':List Int),rest=vs.zip ws /\
   IntsAre vs ns'/\IntsAre ws ms'/\ns'.length+items2.size=ms'.length+items.size/\R (.ok (.ret (.bool (lexLt ns' ms')))) ⟨hp,g,d,tk,os⟩) _
  case turn =>
   rintro⟨y,x⟩ rest b s' ⟨hb',rfl,vs,ws,ns',ms',hz,hvi,hwi,hlen,hR⟩;cases hvi with
   | nil=>rw [List.zip_nil_left] at hz; cases hz
   | cons a t hvi' =>
    cases hwi with
    | nil=>rw [List.zip_nil_right] at hz; cases hz
    | cons c u hwi' =>
     rw [zip_cons_cons] at hz;injection hz with hyx hrest
     injection hyx with hy hx
     subst hy hx;rw [lexLt_cons] at hR;simp only [length_cons] at hlen;obtain⟨e,he,hiff⟩:=eqAt_int A.in1 ⟨hp,g,d,tk,os⟩ a t c u;refine wpAny_bind (he prog w _ _ ?_);cases e with
     | true =>
      rw [if_pos (hiff.mp rfl)] at hR
      wp_walk
      exact⟨rfl,rfl,_,_,_,_,hrest,hvi',hwi',by omega,hR⟩
     | false =>
      rw [if_neg (fun q=>absurd (hiff.mpr q) Bool.false_ne_true)] at hR;have hri:=zo5 A.in1 ⟨hp,g,d,tk,os⟩ a t c u prog w
      wp_walk using hri
      exact⟨_,rfl,by simpa using hR⟩
  case fin =>
   rintro⟨b1,b2⟩ s' ⟨hb',rfl,vs,ws,ns',ms',hz,hvi,hwi,hlen,hR⟩;simp only at hb';subst hb';have hv:lexLt ns' ms'=decide (items.size<items2.size):=by
    cases hvi with
    | nil =>
     cases hwi with
     | nil =>
      simp only [length_nil] at hlen;rw [lexLt_nil_nil];exact(decide_eq_false (by omega)).symm
     | cons c u hw =>
      simp only [length_nil,length_cons] at hlen;rw [lexLt_nil_cons];exact(decide_eq_true (by omega)).symm
    | cons a t hv =>
     cases hwi with
     | nil =>
      simp only [length_nil,length_cons] at hlen;rw [lexLt_cons_nil];exact(decide_eq_false (by omega)).symm
     | cons c u hw =>
      rw [zip_cons_cons] at hz;cases hz
   rw [hv] at hR
   wp_walk
   exact⟨_,rfl,by simpa [Builtin.Tuple.tupleCompareSizes] using hR⟩
  case h =>
   exact⟨rfl,rfl,items.toList,items2.toList,ns,ms,rfl,hi,hj,by omega,h⟩
end
section
variable {prog:Program} {w:World} {A:Around} {E:Value->Shared->Prop} {s:Shared}
theorem lt_tupInts{l b:Addr}{items items2:Array Value}{ns ms:List Int}{Q:Value->Shared->Prop}(hl:IsTup s.heap l items)(hb:IsTup s.heap b items2)(hi:IntsAre items.toList ns)(hj:IntsAre items2.toList ms)
  (hu:A.units<cLine) (h:Q (.bool (lexLt ns ms)) s):wpAny (model prog w) A (compareOp .Lt (.ref l) (.ref b)) Q E s:=by
 obtain⟨⟨cls,dd,data,sl⟩,ho,hc,n,hd⟩:=id hl;obtain⟨⟨cls2,dd2,data2,sl2⟩,ho2,hc2,n2,hd2⟩:=id hb;simp only at hc hd hc2 hd2;subst hc hd hc2 hd2;exact richCompare_meets_room (op:=.Lt) ⟨_,ho,rfl⟩ ⟨_,ho2,rfl⟩ PySem.F.slot_tuple_lt PySem.F.entry_tuple_lt (PySem.F.args_tuple_lt_2 _ _) (zih l b items items2 n n2 dd dd2 sl sl2 ns ms hi hj)
  ⟨ho,ho2,show Value.bool (lexLt ns ms)≠Value.notImplemented/\Q (.bool (lexLt ns ms)) s from⟨(fun x=>nomatch x),h⟩⟩ hu
theorem cat_tup{t b:Addr}{vs ws:List Value}{Q:Value->Shared->Prop}(ht:IsTup s.heap t vs.toArray)(hb:IsTup s.heap b ws.toArray)(hv:vs≠[])
  (h1:ws=[]->Q (.ref t) s) (h2:ws≠[]->Q (.ref s.heap.objs.size) { s with heap:=s.heap.push { cls:=.type "tuple",data:=.seq (vs++ws).toArray } })
  (hsz:vs.length+ws.length<=sizeLine):wpAny (model prog w) A (binaryOp .Add (.ref t) (.ref b)) Q E s:=by
 obtain⟨⟨cls,dd,data,sl⟩,ho,hc,n,hd⟩:=id ht;obtain⟨⟨cls2,dd2,data2,sl2⟩,ho2,hc2,n2,hd2⟩:=id hb;simp only at hc hd hc2 hd2;subst hc hd hc2 hd2;have e:vs.toArray++ws.toArray=(vs++ws).toArray:=by simp
 by_cases hw:ws=[]
 ·exact concat_meets ⟨_,ho,rfl⟩ ⟨_,ho2,rfl⟩ noFill_tuple_add seq_tuple_add PySem.F.slot_tuple_add PySem.F.entry_tuple_add (PySem.F.args_tuple_add_2 _ _)
   (tuple_addW1 t b vs.toArray ws.toArray n n2 dd dd2 sl sl2 (by simpa using hv) (by simp [hw])) ⟨ho,ho2,h1 hw⟩
 ·refine concat_meets ⟨_,ho,rfl⟩ ⟨_,ho2,rfl⟩ noFill_tuple_add seq_tuple_add PySem.F.slot_tuple_add PySem.F.entry_tuple_add (PySem.F.args_tuple_add_2 _ _)
   (tuple_addW2 t b vs.toArray ws.toArray n n2 dd dd2 sl sl2 (by simpa using hv) (by simpa using hw) (by rw [size_toArray,size_toArray]; exact hsz)) ⟨ho,ho2,?_⟩
  rw [e];exact h2 hw
def sIx(n d:Nat):Option Int->Nat
 | none=>d
 | some v=>if v<0 then (v+(n:Int)).toNat else min v.toNat n
theorem sIx_nat(n d k:Nat):sIx n d (some (k:Int))=min k n:=by
 show (if (k:Int)<0 then ((k:Int)+(n:Int)).toNat else min (k:Int).toNat n)=min k n;rw [if_neg (by omega),Int.toNat_natCast]
theorem ztG(n d:Nat)(hd:d<=n)(o:Option Int):sIx n d o<=n:=by
 cases o with
 | none=>exact hd
 | some v =>
  show (if v<0 then (v+(n:Int)).toNat else min v.toNat n)<=n;by_cases hv:v<0
  ·rw [if_pos hv]; omega
  ·rw [if_neg hv]; exact Nat.min_le_right _ _
theorem zmD(v:Int)(n d:Nat):(if v<0 then max (v+(n:Int)) 0 else min v (n:Int))=((sIx n d (some v):Nat):Int):=by
 show (if v<0 then max (v+(n:Int)) 0 else min v (n:Int))=(((if v<0 then (v+(n:Int)).toNat else min v.toNat n):Nat):Int);by_cases hv:v<0
 ·simp only [if_pos hv]; omega
 ·simp only [if_neg hv]; omega
theorem zmm(lo hi:Option Int)(n:Nat):Builtin.Slice.sliceAdjust lo hi 1 (n:Int)=(((sIx n 0 lo:Nat):Int),((sIx n n hi:Nat):Int)):=by
 have h1:¬ ((1:Int)<0):=by omega
 unfold Builtin.Slice.sliceAdjust;simp only [h1,if_false];refine Prod.ext ?_ ?_
 ·cases lo with
  | none=>rfl
  | some v=>exact zmD v n 0
 ·cases hi with
  | none=>rfl
  | some v=>exact zmD v n n
theorem zmo(i j:Nat):Builtin.Slice.slicePlaces (i:Int) (j:Int) 1=j - i:=by
 unfold Builtin.Slice.slicePlaces;have h1:(1:Int)>0:=by omega
 simp only [h1,if_true,Int.ediv_one];split <;> omega
theorem zh5{v:Value}{o:Option Int}{Q:Option Int->Shared->Prop}(p:IsPart v o)(h:Q o s):wpAny (model prog w) A (Builtin.Slice.slicePartIndex v) Q E s:=by
 cases p with
 | none=>exact slicePart_none h
 | int i t=>exact slicePart_int h
theorem zdB{sl:Addr}{vl vu:Value}{lo hi:Option Int}{n:Nat}{Q:Int×Int×Nat->Shared->Prop}(hs:s.heap.IsSliceOf sl vl vu .none)(pl:IsPart vl lo)(pu:IsPart vu hi)
  (h:Q (((sIx n 0 lo:Nat):Int),1,sIx n n hi - sIx n 0 lo) s):wpAny (model prog w) A (Builtin.Slice.sliceApplied (.ref sl) (pure (n:Int))) Q E s:=by
 obtain⟨os,hos,hcs,hds⟩:=id hs;unfold Builtin.Slice.sliceApplied Builtin.Slice.sliceFields;refine wpAny_bind (wpAny_bind (wpAny_field hos hds (x:=vl) rfl (wpAny_bind (wpAny_field hos hds (x:=vu) rfl (wpAny_bind (wpAny_field hos hds (x:=.none) rfl (wpAny_pure ?_)))))));refine wpAny_bind (slicePart_none ?_);show wpAny _ _ (if ((1:Int) == 0)=true then _ else _) _ _ s;rw [if_neg dz];refine wpAny_bind (zh5 pl (wpAny_bind (zh5 pu (wpAny_bind (wpAny_pure ?_)))));show wpAny _ _ (match Builtin.Slice.sliceAdjust lo hi 1 (n:Int) with | (lo,hi)=>pure (lo,(1:Int),Builtin.Slice.slicePlaces lo hi 1)) _ _ s;rw [zmm lo hi n];show wpAny _ _ (pure (((sIx n 0 lo:Nat):Int),(1:Int),Builtin.Slice.slicePlaces ((sIx n 0 lo:Nat):Int) ((sIx n n hi:Nat):Int) 1)) _ _ s;rw [zmo];exact wpAny_pure h
theorem zpJ(xs:Array Value)(i k:Nat):((List.range k).filterMap fun(m:Nat)=>xs[((i:Int)+(m:Int)*1).toNat]?).toArray=((xs.toList.drop i).take k).toArray:=by
 have e:(fun(m:Nat)=>xs[((i:Int)+(m:Int)*1).toNat]?)=fun m=>xs[i+m]?:=by
  funext m;have:((i:Int)+(m:Int)*1).toNat=i+m:=by omega
  rw [this]
 rw [e];have:=pick_run xs i k;rw [List.filterMap_map] at this;have e2:((fun x=>xs[x]?)∘fun x=>i+x)=fun m=>xs[i+m]?:=rfl;rw [e2] at this;rw [this]
theorem getItem_tuple_cut{t sl:Addr}{items:Array Value}{vl vu:Value}{lo hi:Option Int}{Q:Value->Shared->Prop}(ht:IsTup s.heap t items)(hs:s.heap.IsSliceOf sl vl vu .none)(pl:IsPart vl lo)(pu:IsPart vu hi)
  (hw:¬ (sIx items.size 0 lo=0/\sIx items.size items.size hi=items.size))
  (h:Q (.ref s.heap.objs.size) { s with heap:=s.heap.push { cls:=.type "tuple",data:=.seq ((items.toList.drop (sIx items.size 0 lo)).take (sIx items.size items.size hi - sIx items.size 0 lo)).toArray } })
  (hsz:items.size<=sizeLine):wpAny (model prog w) A (getItem (.ref t) (.ref sl)) Q E s:=by
 have htake:sizeOk (.seq ((items.toList.drop (sIx items.size 0 lo)).take (sIx items.size items.size hi - sIx items.size 0 lo)).toArray):=by
  show ((items.toList.drop (sIx items.size 0 lo)).take (sIx items.size items.size hi - sIx items.size 0 lo)).toArray.size<=sizeLine;rw [size_toArray,length_take,length_drop,length_toList];omega
 have hj:sIx items.size items.size hi<=items.size:=ztG _ _ (le_refl _) hi;obtain⟨os,hos,hcs,hds⟩:=id hs;have hTs:s.TypeIs (.ref sl) "slice":=⟨os,hos,hcs⟩;unfold getItem
 try with_reducible refine wpAny_holding ?_
 first | refine wpAny_bind (wpAny_pure ?_) | skip
 refine wpAny_bind (wpAny_sequenceKey ht.typeIs dz ?_);refine wpAny_bind (wpAny_callSpecial?_slot (name:=Str.ofString "__getitem__") ht.typeIs PyProof.Rows.slot_tuple_getitem
  (wpAny_call_entry PyProof.Rows.slot_tuple_getitem ht.typeIs entry_tuple_getitem ?_ (args_tuple_getitem _ _)))
 show wpAny _ _ (Builtin.Tuple.tupleItemsOf (.ref t) >>= _) _ _ s;refine wpAny_bind (tupleItemsOf_ ht ?_);refine wpAny_bind (wpAny_typeOf hTs ?_);rw [if_pos dz];refine wpAny_bind (zdB hs pl pu ?_);have hno:¬ ((((sIx items.size 0 lo:Nat):Int) == 0 && (1:Int) == 1 && (sIx items.size items.size hi - sIx items.size 0 lo) == items.size)=true):=by
  intro q;rw [Bool.and_eq_true,Bool.and_eq_true] at q;have q1:((sIx items.size 0 lo:Nat):Int)=0:=eq_of_beq q.1.1;have q2:sIx items.size items.size hi - sIx items.size 0 lo=items.size:=eq_of_beq q.2;exact hw ⟨by omega,by omega⟩
 show wpAny _ _ (if (((sIx items.size 0 lo:Nat):Int) == 0 && (1:Int) == 1 && (sIx items.size items.size hi - sIx items.size 0 lo) == items.size)=true then _ else _) _ _ s;rw [if_neg hno,zpJ]
 first
  | exact wpAny_bind (m:=Builtin.Tuple.tupleExact _) (wpAny_newObj_type (wpAny_pure ⟨_,rfl,wpAny_pure h⟩) htake)
  | exact wpAny_bind (m:=Builtin.Tuple.tupleExact _) (wpAny_newObj_type (wpAny_bind (wpAny_pure (wpAny_pure ⟨_,rfl,wpAny_pure h⟩))) htake)
  | exact wpAny_bind (wpAny_bind (m:=Builtin.Tuple.tupleExact _) (wpAny_newObj_type (wpAny_pure (wpAny_pure ⟨_,rfl,wpAny_pure h⟩)) htake))
  | exact wpAny_bind (wpAny_bind (m:=Builtin.Tuple.tupleExact _) (wpAny_newObj_type (wpAny_pure ⟨_,rfl,wpAny_pure h⟩) htake))
end
end HT
namespace L2
open PySem PySem.Spec PyProof.Rows
section
abbrev TO:=St->Hp->(Option Int->Hp->Prop)->Prop
def PO(X:Cx)(e:Option Expr)(t:TO):Prop :=
 ∀ (zn:List (Addr×Obj)) (s:Shared) (σ:St) (H:Hp) (Q:Option Int->Hp->Prop),Inv X zn σ H s->t σ H Q ->
  wpAny (model X.prog X.w) X.A (evalPart e X.env) (fun u s'=>∃ o H',Inv X zn σ H' s'/\IsPart u o/\Q o H') X.xe s
def zm7:TO:=fun _ H Q=>Q none H
def zmc(t:TE):TO:=fun σ H Q=>t σ H fun x H1=>∃ i,x=.int i/\Q (some i) H1
theorem zaT{ns:List Int}:∀ {us:List Value},Vals (ns.map V.int) us->IntsAre us ns:=by
 induction ns with
 | nil=>intro us r; rw [map_nil] at r; cases r; exact .nil
 | cons n ns ih =>
  intro us r;rw [map_cons] at r;cases r with
  | cons r1 r2 =>
   obtain⟨t,e⟩:=r1;subst e;exact .cons n t (ih r2)
section
variable {X:Cx} {e:Expr} {te:TE} {lo hi:Option Expr} {tl th:TO} {pos p2:Pos}
theorem zb4:PO X none zm7:=by
 intro zn s σ H Q I h;rw [evalPart_none];exact wpAny_pure ⟨none,H,I,.none,h⟩
theorem zbM(h:PE X e te):PO X (some e) (zmc te):=by
 intro zn s σ H Q I hw;rw [evalPart_some];refine thn (h zn s σ H _ I hw) fun u s1 ⟨x,H1,I1,r1,q1⟩=>?_;obtain⟨i,rfl,q⟩:=q1;obtain⟨t,rfl⟩:=r1;exact⟨some i,H1,I1,.int i t,q⟩
def SlR(X:Cx)(r:V->Option Int->Option Int->Hp->VK->Prop):Prop :=
 ∀ (zn:List (Addr×Obj)) (s:Shared) (σ:St) (H:Hp) (x:V) (v vl vu:Value) (lo hi:Option Int) (sl:Addr) (Q:VK),Inv X zn σ H s->RelV x v->s.heap.IsSliceOf sl vl vu .none->IsPart vl lo->IsPart vu hi->r x lo hi H Q ->
  ∃ T id,typeLookup (.type T) "__getitem__" = pure (some (.builtin id))/\s.TypeIs v T/\wpAny (model X.prog X.w) X.A (getItem v (.ref sl)) (EP X zn σ Q) X.xe s
theorem SlR.or{r r':V->Option Int->Option Int->Hp->VK->Prop}(h:SlR X r)(h':SlR X r'):SlR X (fun x lo hi H Q=>r x lo hi H Q\/r' x lo hi H Q):=by
 intro zn s σ H x v vl vu lo hi sl Q I rx hs pl pu q;rcases q with q | q
 ·exact h zn s σ H x v vl vu lo hi sl Q I rx hs pl pu q
 ·exact h' zn s σ H x v vl vu lo hi sl Q I rx hs pl pu q
def tSl(r:V->Option Int->Option Int->Hp->VK->Prop)(te:TE)(tl th:TO):TE:=fun σ H Q=>te σ H fun x H1=>tl σ H1 fun l H2=>th σ H2 fun u H3=>r x l u H3 Q
theorem za7{r:V->Option Int->Option Int->Hp->VK->Prop}(hr:SlR X r)(he:PE X e te)(hl:PO X lo tl)(hu:PO X hi th):PE X (.Subscript e (.Slice lo hi none p2) pos) (tSl r te tl th):=by
 intro zn s σ H Q I h;refine Subscript_ (thn (he zn s σ H _ I h) fun v s1 ⟨x,H1,I1,r1,q1⟩=>?_);refine wpAny_Slice (thn (hl zn s1 σ H1 _ I1 q1) fun vl s2 ⟨l,H2,I2,pl,q2⟩=>thn (hu zn s2 σ H2 _ I2 q2) fun vu s3 ⟨u,H3,I3,pu,q3⟩=>?_);rw [evalPart_none];refine wpAny_pure ?_;have I4:Inv X zn σ H3 { s3 with heap:=s3.heap.push { cls:=.type "slice",data:=.fields #[vl,vu,.none] } }:=I3.kept (t':=s3.toks) fun b ob q=>get?_push_of_some _ q;obtain⟨T,id,hT,ht,hg⟩:=hr zn { s3 with heap:=s3.heap.push { cls:=.type "slice",data:=.fields #[vl,vu,.none] } } σ H3 x v vl vu l u s3.heap.objs.size Q I4 r1 (Heap.IsSliceOf.new ..) pl pu q3;show wpAny (model X.prog X.w) X.A (subscriptTail e (.Slice lo hi none p2) v (.ref s3.heap.objs.size)) (EP X zn σ Q) X.xe { s3 with heap:=s3.heap.push { cls:=.type "slice",data:=.fields #[vl,vu,.none] } };exact tail_any (ops:=[.ref s3.heap.objs.size,v]) ht hT hg (by with_unfolding_all rfl)
def zlC(xs:List V)(lo hi:Option Int):List V:=(xs.drop (HT.sIx xs.length 0 lo)).take (HT.sIx xs.length xs.length hi - HT.sIx xs.length 0 lo)
theorem zeB(xs:List V)(lo hi:Option Int):(zlC xs lo hi).length<=xs.length:=by
 unfold zlC;rw [length_take,length_drop];omega
def zvF(K:W.Frag):V->Option Int->Option Int->Hp->VK->Prop:=fun x lo hi H Q=>∃ a xs,x=.ref a/\SqT K H a xs /\
 ¬ (HT.sIx xs.length 0 lo=0/\HT.sIx xs.length xs.length hi=xs.length)/\∀ p,H p=none->Q (.ref p) (upd H p (.tup (zlC xs lo hi)))
theorem zqe:SlR X (zvF X.K):=by
 intro zn s σ H x v vl vu lo hi sl Q I rx hs pl pu h;obtain⟨a,xs,rfl,hx,hw,q⟩:=h;cases rx;obtain⟨its,r,ht,hz⟩:=I.tuple hx;have hlen:its.toArray.size=xs.length:=by rw [size_toArray]; exact r.length.symm
 refine⟨"tuple",_,PyProof.Rows.slot_tuple_getitem.lookup,ht.typeIs,?_⟩;refine HT.getItem_tuple_cut ht hs pl pu (by rw [hlen]; exact hw) ?_ (by rw [hlen]; exact hz);rw [hlen];refine⟨.ref s.heap.objs.size,_,I.laid (t':=s.toks) (o:=.tup (zlC xs lo hi)) (fun b ob q=>get?_push_of_some _ q) (le_refl _) ?_,rfl,q _ (I.hok.fresh (le_refl _))⟩;exact⟨⟨le_trans (zeB xs lo hi) hz,_,get?_push_size _ rfl,rfl⟩,_,(r.drop (HT.sIx xs.length 0 lo)).take (HT.sIx xs.length xs.length hi - HT.sIx xs.length 0 lo),IsTup.new _ _⟩
def zwa(K:W.Frag):R2:=fun x y H Q=>∃ a b ns ms,x=.ref a/\y=.ref b/\SqT K H a (ns.map V.int)/\SqT K H b (ms.map V.int)/\Q (.bl (HT.lexLt ns ms)) H
theorem zsZ(hu:X.A.units<cLine):OpR X (compareOp .Lt) (zwa X.K):=by
 intro zn s σ H x y v u Q I rx ry h;obtain⟨a,b,ns,ms,rfl,rfl,ha,hb,q⟩:=h;cases rx;cases ry;obtain⟨its,r1,p1,_⟩:=I.tuple ha;obtain⟨its2,r2,p2,_⟩:=I.tuple hb;have i1:IntsAre its.toArray.toList ns:=zaT r1;have i2:IntsAre its2.toArray.toList ms:=zaT r2;exact HT.lt_tupInts p1 p2 i1 i2 hu ⟨.bl (HT.lexLt ns ms),H,I,rfl,q⟩
def zrK(K:W.Frag):R2:=fun x y H Q=>∃ a b xs ys,x=.ref a/\y=.ref b/\SqT K H a xs/\SqT K H b ys/\xs≠[]/\xs.length+ys.length<=sizeLine /\
 (ys=[]->Q (.ref a) H)/\(ys≠[]->∀ p,H p=none->Q (.ref p) (upd H p (.tup (xs++ys))))
theorem Vals.nil_iff{xs:List V}{us:List Value}(r:Vals xs us):us=[]↔xs=[]:=by
 cases r with
 | nil=>simp
 | cons _ _=>simp
theorem zr8:OpR X (binaryOp .Add) (zrK X.K):=by
 intro zn s σ H x y v u Q I rx ry h;obtain⟨a,b,xs,ys,rfl,rfl,ha,hb,hx,hz,q1,q2⟩:=h;cases rx;cases ry;obtain⟨its,r1,p1,_⟩:=I.tuple ha;obtain⟨its2,r2,p2,_⟩:=I.tuple hb;refine HT.cat_tup p1 p2 (fun z=>hx (r1.nil_iff.mp z)) (fun z=>⟨.ref a,H,I,rfl,q1 (r2.nil_iff.mp z)⟩) (fun z=>?_) (by rw [<- r1.length,<- r2.length]; exact hz);refine⟨.ref s.heap.objs.size,_,I.laid (t':=s.toks) (o:=.tup (xs++ys)) (fun b ob q=>get?_push_of_some _ q) (le_refl _) ?_,rfl,q2 (fun w=>z (r2.nil_iff.mpr w)) _ (I.hok.fresh (le_refl _))⟩;exact⟨⟨by rw [length_append]; exact hz,_,get?_push_size _ rfl,rfl⟩,_,r1.append r2,IsTup.new _ _⟩
end
end
section
def ixN(n:Nat)(i:Int):Option Nat:=if 0<=i then (if i<n then some i.toNat else none) else if -(n:Int)<=i then some (i+n).toNat else none
def atI{α:Type}(xs:List α)(i:Int):Option α:=(ixN xs.length i).bind fun j=>xs[j]?
theorem zn2{n:Nat}{i:Int}{j:Nat}(h:ixN n i=some j):seqIndex? i n=some j/\j<n/\-(n:Int)<=i/\i<n:=by
 unfold ixN at h;by_cases h0:0<=i
 ·rw [if_pos h0] at h;by_cases h1:i<n
  ·rw [if_pos h1] at h;have e:i.toNat=j:=Option.some.inj h;exact⟨by rw [seqIndex_of h0 h1,e],by omega,by omega,h1⟩
  ·rw [if_neg h1] at h; cases h
 ·rw [if_neg h0] at h;by_cases h1:-(n:Int)<=i
  ·rw [if_pos h1] at h;have e:(i+n).toNat=j:=Option.some.inj h;exact⟨by rw [seqIndex_neg (by omega) h1,e],by omega,h1,by omega⟩
  ·rw [if_neg h1] at h; cases h
theorem zkG{α:Type}{xs:List α}{i:Int}{v:α}(h:atI xs i=some v):∃ j,seqIndex? i xs.length=some j/\xs[j]? = some v/\j<xs.length/\-(xs.length:Int)<=i/\i<xs.length:=by
 unfold atI at h;cases e:ixN xs.length i with
 | none=>rw [e] at h; cases h
 | some j =>
  rw [e] at h;obtain⟨h1,h2,h3,h4⟩:=zn2 e;exact⟨j,h1,h,h2,h3,h4⟩
theorem zcH{α:Type}{xs:List α}{j:Nat}{v:α}(h:xs[j]? = some v):atI xs (j:Int)=some v:=by
 have hj:j<xs.length:=(List.getElem?_eq_some_iff.mp h).1;have e:ixN xs.length (j:Int)=some j:=by
  unfold ixN;rw [if_pos (by omega),if_pos (by omega)]; simp
 unfold atI; rw [e]; exact h
def PlainIx(b:Expr):Prop:=∀ o i,subscripted b false o i=operate [o,i] (getItem o i)
def IxR(X:Cx)(r:R2):Prop :=
 ∀ (value slice:Expr) (zn:List (Addr×Obj)) (s:Shared) (σ:St) (H:Hp) (x y:V) (v u:Value) (Q:VK),Inv X zn σ H s->RelV x v->RelV y u->r x y H Q ->
  subscripted slice false v u=operate [v,u] (getItem v u)->wpAny (model X.prog X.w) X.A (subscriptTail value slice v u) (EP X zn σ Q) X.xe s
def MtR(X:Cx)(id:String)(r:V->List V->Hp->VK->Prop):Prop :=
 ∀ (zn:List (Addr×Obj)) (s:Shared) (σ:St) (H:Hp) (x:V) (xs:List V) (v:Value) (us:List Value) (Q:VK),Inv X zn σ H s->RelV x v->Vals xs us->r x xs H Q ->
  wpAny (model X.prog X.w) X.A (call (.builtin id) (v :: us)) (EP X zn σ Q) X.xe s
section
variable {X:Cx} {a b:Expr} {ta tb:TE} {pos:Pos}
theorem IxR.or{r r':R2}(h:IxR X r)(h':IxR X r'):IxR X (fun x y H Q=>r x y H Q\/r' x y H Q):=by
 intro value slice zn s σ H x y v u Q I rx ry q hs;rcases q with q | q
 ·exact h value slice zn s σ H x y v u Q I rx ry q hs
 ·exact h' value slice zn s σ H x y v u Q I rx ry q hs
theorem zI{r:R2}(hr:IxR X r)(ha:PE X a ta)(hb:PE X b tb)(hs:PlainIx b):PE X (.Subscript a b pos) (tOp r ta tb):=by
 intro zn s σ H Q I h;exact Subscript_ (zvk ha hb I h fun v u s2 x y H2 I2 rx ry q=>hr a b zn s2 σ H2 x y v u Q I2 rx ry q (hs _ _))
def zvi(K:W.Frag):R2:=fun x y H Q=>∃ p xs i v,x=.ref p/\y=.int i/\SqL K H p xs/\atI xs i=some v/\Q v H
def zvn(K:W.Frag):R2:=fun x y H Q=>∃ p xs i v,x=.ref p/\y=.int i/\SqT K H p xs/\atI xs i=some v/\Q v H
def zvo:R2:=fun x y H Q=>∃ z i c,x=.str z/\y=.int i/\z.length<=sizeLine/\atI z.cps.toList i=some c/\Q (.str ⟨#[c]⟩) H
theorem znV:IxR X (zvi X.K):=by
 intro value slice zn s σ H x y v u Q I rx ry h hs;obtain⟨p,xs,i,z,rfl,rfl,hq,he,q⟩:=h;cases rx;obtain⟨t,rfl⟩:=ry;obtain⟨its,r,pl,hz⟩:=I.list hq;obtain⟨j,h1,h2,h3,h4,h5⟩:=zkG he;obtain⟨w,ew,rw'⟩:=r.get h2;have hl:=r.length;have hn:=line63;have fin:EP X zn σ Q w s:=⟨z,H,I,rw',q⟩;by_cases h0:0<=i
 ·have hj:i.toNat=j:=by
   rw [seqIndex_of h0 h5] at h1;exact Option.some.inj h1
  exact item_listR pl.isList h0 (by omega) (by rw [hj]; simpa using ew) fin hs
 ·have hj:(i+(its.toArray.size:Int)).toNat=j:=by
   rw [seqIndex_neg (by omega) h4] at h1;rw [size_toArray,<- hl];exact Option.some.inj h1
  exact subscriptTail_builtinR (x:=w) pl.isList.typeIs slot_list_getitem.lookup
   (wpAny_getItem_list_neg (Q:=fun r s'=>r=w/\EP X zn σ Q r s') pl.isList (by omega) (by rw [size_toArray] <;> omega) (by omega) (by rw [hj]; simpa using ew) ⟨rfl,fin⟩) hs
theorem zuu:IxR X (zvn X.K):=by
 intro value slice zn s σ H x y v u Q I rx ry h hs;obtain⟨p,xs,i,z,rfl,rfl,hq,he,q⟩:=h;cases rx;obtain⟨t,rfl⟩:=ry;obtain⟨its,r,pl,hz⟩:=I.tuple hq;obtain⟨j,h1,h2,h3,h4,h5⟩:=zkG he;obtain⟨w,ew,rw'⟩:=r.get h2;have hl:=r.length;have hn:=line63;have fin:EP X zn σ Q w s:=⟨z,H,I,rw',q⟩;exact subscriptTail_builtinR (x:=w) pl.typeIs slot_tuple_getitem.lookup
  (getItem_tuple (j:=j) (Q:=fun r s'=>r=w/\EP X zn σ Q r s') pl (by omega) (by omega) (by rw [size_toArray,<- hl]; exact h1) (by simpa using ew) ⟨rfl,fin⟩) hs
theorem zt0:IxR X zvo:=by
 intro value slice zn s σ H x y v u Q I rx ry h hs;obtain⟨z,i,c,rfl,rfl,hz,he,q⟩:=h;obtain⟨t,rfl⟩:=rx;obtain⟨t',rfl⟩:=ry;obtain⟨j,h1,h2,h3,h4,h5⟩:=zkG he;have hl:z.cps.toList.length=z.length:=by simp [Str.length]
 rw [hl] at h1 h4 h5;have hn:=line63;exact tail_any (typeIs_str s z t) slot_str_getitem.lookup (getItem_str (c:=c) (by
  have e1:decide (i < -(2 ^ 63:Int))=false:=decide_eq_false (by omega);have e2:decide (i≥2 ^ 63)=false:=decide_eq_false (by omega);rw [e1,e2,Bool.or_false]) (by rw [h1]; simpa using h2) ⟨.str ⟨#[c]⟩,H,I.tok _,⟨_,rfl⟩,q⟩) hs
def rIx(K:W.Frag):R2:=fun x y H Q=>zvi K x y H Q\/zvn K x y H Q\/zvo x y H Q
theorem zv:IxR X (rIx X.K):=znV.or (zuu.or zt0)
theorem zmg(its:List Value)(n j:Nat)(u:Value):Obj.mapSeq (·.setIfInBounds j u) { cls:=.type "list",data:=.seq its.toArray n } = { cls:=.type "list",data:=.seq (its.set j u).toArray n }:=by
 simp [Obj.mapSeq]
theorem Inv.lst{zn:List (Addr×Obj)}{σ:St}{H:Hp}{s:Shared}{p:Addr}{xs:List V}(I:Inv X zn σ H s)(h:H p=some (.lst xs)):
  ∃ (its:List Value) (n:Nat),Vals xs its/\s.heap.get? p=some { cls:=.type "list",data:=.seq its.toArray n }/\xs.length<=sizeLine:=by
 obtain⟨z,its,n,r,e⟩:=I.hok p _ h;exact⟨its,n,r,e,z⟩
theorem Inv.lstUpd{zn:List (Addr×Obj)}{σ:St}{H:Hp}{s:Shared}{p:Addr}{xs ys:List V}{its its':List Value}{n n':Nat}{f:Obj->Obj}(I:Inv X zn σ H s)(h:H p=some (.lst xs))
  (ho:s.heap.get? p=some { cls:=.type "list",data:=.seq its.toArray n }) (hf:f { cls:=.type "list",data:=.seq its.toArray n } = { cls:=.type "list",data:=.seq its'.toArray n' }) (r:Vals ys its') (hz:ys.length<=sizeLine) (t:Nat) :
  Inv X zn σ (upd H p (.lst ys)) { s with heap:=s.heap.update p f,toks:=t }:=by
 have e:(s.heap.update p f).get? p=some { cls:=.type "list",data:=.seq its'.toArray n' }:=by
  rw [get?_update_self f ho (by rw [hf] <;> rfl),hf]
 refine I.write (x:=p) (e:=p) (by rw [h]; trivial) (.inl rfl) (fun b u hb q=>(get?_update_other _ _ (Ne.symm hb)).trans q) ⟨_,e⟩ ?_;exact⟨hz,its',n',r,e⟩
def zt3:V->V->V->Hp->(Hp->Prop)->Prop:=fun o i v H Q=>∃ p xs k j,o=.ref p/\i=.int k/\H p=some (.lst xs)/\ixN xs.length k=some j/\Q (upd H p (.lst (xs.set j v)))
theorem ziC:PSet X zt3:=by
 intro zn s σ H o i v ov iv u Q I ro ri rv h;obtain⟨p,xs,k,j,rfl,rfl,hp,hj,q⟩:=h;cases ro;obtain⟨t,rfl⟩:=ri;obtain⟨its,n,r,ho,hz⟩:=I.lst hp;obtain⟨h1,h2,h3,h4⟩:=zn2 hj;have hl:=r.length;have hn:=line63;have I':Inv X zn σ (upd H p (.lst (xs.set j v))) { s with heap:=s.heap.update p (Obj.mapSeq (·.setIfInBounds j u)) } :=
  I.lstUpd hp ho (zmg its n j u) (r.set rv j) (by rw [length_set]; exact hz) s.toks
 by_cases h0:0<=k
 ·have hk:k.toNat=j:=by
   rw [seqIndex_of h0 h4] at h1;exact Option.some.inj h1
  exact W.ki_setAt ho h0 (by omega) (by rw [size_toArray,<- hl]; exact h4) (by rw [hk]; exact⟨_,I',q⟩)
 ·have hk:(k+(its.toArray.size:Int)).toNat=j:=by
   rw [seqIndex_neg (by omega) h3] at h1;rw [size_toArray,<- hl];exact Option.some.inj h1
  exact W.ki_setBack ho (by omega) (by rw [size_toArray,<- hl]; exact h3) (by omega) (by rw [hk]; exact⟨_,I',q⟩)
theorem zjc(lo hi:Option Int)(n:Nat):(sliceBounds lo hi none n).1=((HT.sIx n 0 lo:Nat):Int)/\(sliceBounds lo hi none n).2.1=((HT.sIx n n hi:Nat):Int)/\(sliceBounds lo hi none n).2.2=1:=by
 refine⟨?_,?_,rfl⟩
 ·cases lo with
  | none=>simp [sliceBounds,HT.sIx]
  | some i =>
   simp only [sliceBounds,HT.sIx,Option.getD_none,show (1:Int)>0 by decide,if_true];by_cases h:i<0
   ·simp only [h,if_true] <;> omega
   ·simp only [h,if_false] <;> omega
 ·cases hi with
  | none=>simp [sliceBounds,HT.sIx]
  | some i =>
   simp only [sliceBounds,HT.sIx,Option.getD_none,show (1:Int)>0 by decide,if_true];by_cases h:i<0
   ·simp only [h,if_true] <;> omega
   ·simp only [h,if_false] <;> omega
theorem ziN(its:List Value)(lo hi:Option Int):slicePick its.toArray lo hi none=((its.drop (HT.sIx its.length 0 lo)).take (HT.sIx its.length its.length hi - HT.sIx its.length 0 lo)).toArray:=by
 obtain⟨h1,h2,h3⟩:=zjc lo hi its.toArray.size;unfold slicePick;rw [h1,h2,h3];simp only [sliceRange_one,pick_run,size_toArray] <;> rfl
def zuB(K:W.Frag):V->Option Int->Option Int->Hp->VK->Prop:=fun x lo hi H Q=>∃ a xs,x=.ref a/\SqL K H a xs/\∀ p,H p=none->Q (.ref p) (upd H p (.lst (zlC xs lo hi)))
theorem zoB:SlR X (zuB X.K):=by
 intro zn s σ H x v vl vu lo hi sl Q I rx hs pl pu h;obtain⟨a,xs,rfl,hx,q⟩:=h;cases rx;obtain⟨its,r,ht,hz⟩:=I.list hx;have hlen:=r.length;refine⟨"list",_,slot_list_getitem.lookup,ht.isList.typeIs,?_⟩;refine wpAny_getItem_list_slice ht.isList hs pl pu .none (by simp) ?_ (by rw [size_toArray] <;> omega);rw [ziN,<- hlen];refine⟨.ref s.heap.objs.size,_,I.laid (t':=s.toks) (o:=.lst (zlC xs lo hi)) (fun b ob q=>get?_push_of_some _ q) (le_refl _) ?_,rfl,q _ (I.hok.fresh (le_refl _))⟩;exact⟨le_trans (zeB xs lo hi) hz,_,0,(r.drop (HT.sIx xs.length 0 lo)).take (HT.sIx xs.length xs.length hi - HT.sIx xs.length 0 lo),get?_push_size _ rfl⟩
theorem zfT:CallR X (.builtin "len") (fun xs H Q=>∃ p ys,xs=[.ref p]/\(SqL X.K H p ys\/SqT X.K H p ys)/\Q (.int ys.length) H):=by
 intro zn s σ H xs us Q I r h;obtain⟨p,ys,rfl,hq,q⟩:=h;obtain⟨u,rfl,rx⟩:=vals1 r;cases rx;have hn:=line63;rcases hq with hq | hq
 ·obtain⟨its,r',pl,hz⟩:=I.list hq;have hlen:=r'.length;exact Calls.call_len_list pl.isList (by simp only [size_toArray] <;> omega) ⟨.int ys.length,H,I.tok _,⟨s.toks+1,by rw [size_toArray,hlen]⟩,q⟩
 ·obtain⟨its,r',pl,hz⟩:=I.tuple hq;have hlen:=r'.length;exact len_tuple pl (by simp only [size_toArray] <;> omega) ⟨.int ys.length,H,I.tok _,⟨s.toks+1,by rw [size_toArray,hlen]⟩,q⟩
theorem zjj:CallR X (.builtin "len") (fun xs H Q=>∃ z,xs=[.str z]/\z.length<=sizeLine/\Q (.int z.length) H):=by
 intro zn s σ H xs us Q I r h;obtain⟨z,rfl,hz,q⟩:=h;obtain⟨u,rfl,t,rfl⟩:=vals1 r;have hn:=line63;exact len_str (by omega) ⟨.int z.length,H,I.tok _,⟨_,rfl⟩,q⟩
theorem CallR.or{f:Value}{r r':List V->Hp->VK->Prop}(h:CallR X f r)(h':CallR X f r'):CallR X f (fun xs H Q=>r xs H Q\/r' xs H Q):=by
 intro zn s σ H xs us Q I rs q;rcases q with q | q
 ·exact h zn s σ H xs us Q I rs q
 ·exact h' zn s σ H xs us Q I rs q
theorem zjF:CallR X (.type "list") (fun xs H Q=>∃ p ys,xs=[.ref p]/\(SqL X.K H p ys\/SqT X.K H p ys)/\∀ l,H l=none->Q (.ref l) (upd H l (.lst ys))):=by
 intro zn s σ H xs us Q I r h;obtain⟨p,ys,rfl,hq,q⟩:=h;obtain⟨u,rfl,rx⟩:=vals1 r;cases rx;have fin:∀ (its:List Value),Vals ys its->ys.length<=sizeLine->∀ (h':Heap) (c':Nat),(∀ b o',s.heap.get? b=some o'->h'.get? b=some o') ->
   h'.get? s.heap.objs.size=some { cls:=.type "list",dict:=none,data:=.seq its.toArray c',slots:=#[] }->EP X zn σ Q (.ref s.heap.objs.size) { s with heap:=h' }:=fun its r' hz h' c' kp e =>
  ⟨.ref s.heap.objs.size,_,I.laid (t':=s.toks) kp (le_refl _) (show ObjOk X.prog X.w _ h' _ (.lst ys) from⟨hz,its,c',r',e⟩),rfl,q _ (I.hok.fresh (le_refl _))⟩
 rcases hq with hq | hq
 ·obtain⟨its,r',pl,hz⟩:=I.list hq;have hlen:=r'.length;obtain⟨o,ho,hc,n,hd⟩:=pl.isList;exact call_list_seq p (.inl rfl) ho hc hd (fun h' c' kp e=>fin its r' hz h' c' kp e) (by simp only [size_toArray] <;> omega)
 ·obtain⟨its,r',pl,hz⟩:=I.tuple hq;have hlen:=r'.length;obtain⟨o,ho,hc,n,hd⟩:=pl;exact call_list_seq p (.inr rfl) ho hc hd (fun h' c' kp e=>fin its r' hz h' c' kp e) (by simp only [size_toArray] <;> omega)
theorem zah:CallR X (.type "tuple") (fun xs H Q=>∃ p ys,xs=[.ref p]/\((SqL X.K H p ys/\∀ l,H l=none->Q (.ref l) (upd H l (.tup ys)))\/(SqT X.K H p ys/\Q (.ref p) H))):=by
 intro zn s σ H xs us Q I r h;obtain⟨p,ys,rfl,h⟩:=h;obtain⟨u,rfl,rx⟩:=vals1 r;cases rx;rcases h with ⟨hq,q⟩ | ⟨hq,q⟩
 ·obtain⟨its,r',pl,hz⟩:=I.list hq;have hlen:=r'.length;refine call_tuple_list pl.isList (fun h' kp=>?_) (by simp only [size_toArray] <;> omega);have I1:Inv X zn σ H { s with heap:=h' }:=I.kept (t':=s.toks) kp;have I2:Inv X zn σ (upd H h'.objs.size (.tup ys)) { s with heap:=h'.push { cls:=.type "tuple",data:=.seq its.toArray } } :=
   I1.laid (t':=s.toks) (fun b o e=>get?_push_of_some _ e) (le_refl _) (show ObjOk X.prog X.w _ _ _ (.tup ys) from⟨⟨hz,_,get?_push_size _ rfl,rfl⟩,its,r',IsTup.new _ _⟩)
  exact⟨.ref h'.objs.size,_,I2,rfl,q _ (I1.hok.fresh (le_refl _))⟩
 ·obtain⟨its,r',pl,hz⟩:=I.tuple hq;exact call_tuple_same pl ⟨.ref p,H,I,rfl,q⟩
def tyV(K:W.Frag)(T:String)(x:V)(H:Hp):Prop:=match x with
 | .str _=>T = "str"
 | .int _=>T = "int"
 | .ref p=>(T = "list"/\∃ xs,SqL K H p xs)\/(T = "tuple"/\∃ o,K.lookup p=some o/\o.cls=.type "tuple"/\o.dict=none) \/
   (T = "dict"/\((∃ kvs,H p=some (.dK kvs))\/∃ kvs,H p=some (.dT kvs)))\/(T = "set"/\∃ S n,H p=some (.set S n))
 | _=>False
theorem zqu{zn:List (Addr×Obj)}{σ:St}{H:Hp}{s:Shared}{T:String}{x:V}{v:Value}(I:Inv X zn σ H s)(r:RelV x v)(ty:tyV X.K T x H):
  s.TypeIs v T/\∀ a,v=.ref a->∃ ob,s.heap.get? a=some ob/\ob.dict=none:=by
 cases x with
 | str z =>
  obtain⟨t,rfl⟩:=r;cases (show T = "str" from ty);exact⟨typeIs_str s z t,fun _ e=>nomatch e⟩
 | int i =>
  obtain⟨t,rfl⟩:=r;cases (show T = "int" from ty);exact⟨typeIs_int s i t,fun _ e=>nomatch e⟩
 | ref p =>
  cases r;rcases ty with ⟨rfl,xs,hq⟩ | ⟨rfl,o,hk,hc,hd⟩ | ⟨rfl,hk⟩ | ⟨rfl,S,n,hk⟩
  ·obtain⟨its,_,pl,_⟩:=I.list hq;refine⟨pl.isList.typeIs,fun a e=>?_⟩;cases e;obtain⟨o,n,e,c,hd,_⟩:=pl;exact⟨o,e,hd⟩
  ·refine⟨⟨o,I.kIn p o hk,hc⟩,fun a e=>?_⟩;cases e;exact⟨o,I.kIn _ o hk,hd⟩
  ·have z:∃ o,s.heap.get? p=some o/\o.ExactDict:=by
    rcases hk with ⟨kvs,hk⟩ | ⟨kvs,hk⟩
    ·obtain⟨_,_,_,_,o,_,_,e,ex,_⟩:=I.hok p _ hk;exact⟨o,e,ex⟩
    ·obtain⟨_,_,_,_,o,_,_,e,ex,_⟩:=I.hok p _ hk;exact⟨o,e,ex⟩
   obtain⟨o,e,ex⟩:=z;refine⟨⟨o,e,ex.1⟩,fun a e2=>?_⟩;cases e2;exact⟨o,e,ex.2.1⟩
  ·obtain⟨o,_,_,_,e,ex,_⟩:=I.hok p _ hk;refine⟨⟨o,e,ex.1⟩,fun a e2=>?_⟩;cases e2;exact⟨o,e,ex.2.1⟩
 | _=>exact False.elim ty
def zwd(K:W.Frag)(T:String)(r:V->List V->Hp->VK->Prop)(to:TE):TE:=fun σ H Q=>to σ H fun x H1=>tyV K T x H1/\r x [] H1 Q
def tBM(K:W.Frag)(T:String)(r:V->List V->Hp->VK->Prop)(to:TE)(t:TA):TE:=fun σ H Q=>to σ H fun x H1=>tyV K T x H1/\t σ H1 fun xs H2=>r x xs H2 Q
variable {o e:Expr} {es:List Expr} {to:TE} {t:TA} {name:Str} {apos cpos:Pos} {T id:String} {r:V->List V->Hp->VK->Prop}
theorem zrj(pa:PlainAttrs T)(slot:Slot T name id)(hty:typeOf (.builtin id)=pure (.type "method_descriptor"))(hm:MtR X id r)(ho:PE X o to)
  (hbase:attributeBase o name X.env (eval o X.env)=eval o X.env:=by rfl) (hline:(apos.endLine == cpos.line)=true:=by rfl):PE X (.Call (.Attribute o name apos) [] [] cpos) (zwd X.K T r to):=by
 intro zn s σ H Q I h;refine wpAny_Call_method0_late hbase hline (thn (ho zn s σ H _ I h) fun v s1 ⟨x,H1,I1,r1,ty,q1⟩=>?_);obtain⟨h1,h2⟩:=zqu I1 r1 ty;exact⟨T,id,pa,slot,hty,h1,h2,Calls.callWith_builtin rfl (PySem.evalArgs_none (hm zn s1 σ H1 x [] v [] Q I1 r1 .nil q1))⟩
theorem zgi(pa:PlainAttrs T)(slot:Slot T name id)(hty:typeOf (.builtin id)=pure (.type "method_descriptor"))(hm:MtR X id r)(ho:PE X o to)(ha:PA X (e :: es) t)
  (hbase:attributeBase o name X.env (eval o X.env)=eval o X.env:=by rfl)
  (hfew:((backTo cpos (starEach (e :: es) X.env)).all (fun x=>!x.1) && (backToKw cpos (keywordEach [] X.env)).all (fun x=>x.1.isSome)
   && decide ((e :: es).length+([]:List Keyword).length+(if ([]:List Keyword).isEmpty then 0 else 1)<30))=true:=by rfl)
  (hline:(apos.endLine == cpos.line)=true:=by rfl) (hs:starEach (e :: es) X.env=(false,eval e X.env) :: starEach es X.env:=by rfl) (hplain:(backTo cpos (starEach es X.env)).any (·.1)=false:=by rfl) :
  PE X (.Call (.Attribute o name apos) (e :: es) [] cpos) (tBM X.K T r to t):=by
 intro zn s σ H Q I h;refine wpAny_Call_method_late hbase hfew hline rfl (thn (ho zn s σ H _ I h) fun v s1 ⟨x,H1,I1,r1,ty,q1⟩=>?_);obtain⟨h1,h2⟩:=zqu I1 r1 ty;refine⟨T,id,pa,slot,hty,h1,h2,?_⟩;have hA:=ha cpos zn s1 σ H1 _ I1 q1;rw [hs] at hA ⊢;refine Calls.callWith_builtin (by show (false || (backTo cpos (starEach es X.env)).any (·.1))=false; rw [hplain] <;> rfl) (Calls.evalArgs_plain ?_);exact thn hA fun us s2 ⟨vs,H2,I2,r2,q2⟩=>hm zn s2 σ H2 x vs v us Q I2 r1 r2 q2
end
end
section
def MtM(X:Cx)(id:String)(r:V->List V->Hp->VK->Prop):Prop :=
 ∀ (zn:List (Addr×Obj)) (s:Shared) (σ:St) (H:Hp) (x:V) (xs:List V) (v:Value) (us:List Value) (Q:VK),Inv X zn σ H s->RelV x v->Vals xs us->r x xs H Q ->
  wpAny (model X.prog X.w) X.A (call (.builtin id) (v :: us)) (EP X zn σ Q) X.xe s
theorem Vals.one:∀ {x:V} {us:List Value},Vals [x] us->∃ u,us=[u]/\RelV x u
 | _,_,.cons r .nil=>⟨_,rfl,r⟩
theorem Vals.zero:∀ {us:List Value},Vals [] us->us=[]
 | _,.nil=>rfl
theorem Vals.dropLast{xs:List V}{us:List Value}(h:Vals xs us):Vals xs.dropLast us.dropLast:=by
 induction h with
 | nil=>exact .nil
 | cons r t ih =>
  cases t with
  | nil=>exact .nil
  | cons q t'=>exact .cons r ih
theorem Vals.reverse{xs:List V}{us:List Value}(h:Vals xs us):Vals xs.reverse us.reverse:=by
 induction h with
 | nil=>exact .nil
 | cons r t ih=>rw [reverse_cons,reverse_cons]; exact Vals.append ih (.cons r .nil)
theorem Vals.rep{xs:List V}{us:List Value}(h:Vals xs us):∀ k:Nat,Vals (List.replicate k xs).flatten (List.replicate k us).flatten
 | 0=>.nil
 | k+1=>by
  rw [replicate_succ,replicate_succ,flatten_cons,flatten_cons];exact Vals.append h (Vals.rep h k)
theorem zmj{α:Type}(l:List α):l.eraseIdx (l.length - 1)=l.dropLast:=by
 induction l with
 | nil=>rfl
 | cons a r ih =>
  cases r with
  | nil=>rfl
  | cons b r =>
   have e:(a :: b :: r).length - 1=((b :: r).length - 1)+1:=by
    have h1:(a :: b :: r).length=r.length+2:=rfl;have h2:(b :: r).length=r.length+1:=rfl;omega
   rw [e,List.eraseIdx_cons_succ,ih]
   all_goals rfl
theorem zjK(its:List Value):∀ (k:Nat) (acc:List Value),
  List.foldl (fun x1 x2=>x1++x2) acc.toArray (List.replicate k its.toArray)=(acc++(List.replicate k its).flatten).toArray
 | 0,acc=>by simp
 | k+1,acc=>by
  have e:acc.toArray++its.toArray=(acc++its).toArray:=by simp
  have e2:(acc++its)++(List.replicate k its).flatten=acc++(List.replicate (k+1) its).flatten:=by
   rw [replicate_succ,flatten_cons,append_assoc]
  rw [<- e2,<- zjK its k (acc++its),<- e,replicate_succ,List.foldl_cons]
section
variable {X:Cx} {zn:List (Addr×Obj)} {σ:St} {H:Hp} {s:Shared} {l b:Addr} {xs ys zs:List V}
theorem Inv.lset{its its':List Value}{n:Nat}{f:Array Value->Array Value}{t':Nat}(I:Inv X zn σ H s)(hH:H l=some (.lst xs))
  (e:s.heap.get? l=some { cls:=.type "list",data:=.seq its.toArray n }) (hf:f its.toArray=its'.toArray) (hv:Vals ys its') (hz:ys.length<=sizeLine) :
  Inv X zn σ (upd H l (.lst ys)) { s with heap:=s.heap.update l (Obj.mapSeq f),toks:=t' }:=by
 have q:=PySem.IsL.update e f;rw [hf] at q;refine I.write (x:=l) (e:=l) (by rw [hH]; exact trivial) (.inl rfl) (fun b' u hb hu=>(get?_update_other s.heap (Obj.mapSeq f) (Ne.symm hb)).trans hu) ⟨_,q⟩ ?_;exact⟨hz,its',_,hv,q⟩
theorem Inv.lnew{its:List Value}{t':Nat}(I:Inv X zn σ H s)(hv:Vals ys its)(hz:ys.length<=sizeLine):
  Inv X zn σ (upd H s.heap.objs.size (.lst ys)) { s with heap:=s.heap.push { cls:=.type "list",data:=.seq its.toArray },toks:=t' } :=
 I.laid (fun _ _ q=>get?_push_of_some _ q) (le_refl _) ⟨hz,its,0,hv,get?_push_size _ rfl⟩
theorem Inv.fresh(I:Inv X zn σ H s):H s.heap.objs.size=none:=I.hok.fresh (le_refl _)
theorem Inv.lstM(I:Inv X zn σ H s)(hH:H l=some (.lst xs)):xs.length<=sizeLine/\∃ (its:List Value) (n:Nat),Vals xs its/\xs.length=its.length/\s.heap.get? l=some { cls:=.type "list",data:=.seq its.toArray n }:=by
 obtain⟨z,its,n,r,e⟩:=I.hok l _ hH;exact⟨z,its,n,r,r.length,e⟩
theorem zkZ{n:Nat}(h:n<=sizeLine):Builtin.List.listTooLong n=false:=by
 unfold Builtin.List.listTooLong;exact decide_eq_false (by omega)
end
section
variable {X:Cx}
def znn:V->List V->Hp->VK->Prop:=fun x vs H Q=>∃ l xs y,x=.ref l/\vs=[y]/\H l=some (.lst xs)/\xs.length<sizeLine/\Q .non (upd H l (.lst (xs++[y])))
theorem zbT:MtM X "list.append" znn:=by
 intro zn s σ H x vs v us Q I rx rv h;obtain⟨l,xs,y,rfl,rfl,hH,hz,q⟩:=h;cases rx;obtain⟨u,rfl,ru⟩:=rv.one;obtain⟨z,its,n,r,hl,e⟩:=I.lstM hH;refine call_meets F.slot_list_append ⟨_,e,rfl⟩ F.entry_list_append (F.args_list_append_2 _ _) (PySem.list_append l its.toArray n u (by rw [size_toArray]; omega)) ⟨e,?_⟩;refine⟨.non,_,I.lset (its':=its++[u]) hH e (by simp) (r.append (.cons ru .nil)) ?_,rfl,q⟩;rw [length_append,length_singleton];omega
def zn4:V->List V->Hp->VK->Prop:=fun x vs H Q=>∃ l b xs zs,x=.ref l/\vs=[.ref b]/\H l=some (.lst xs)/\H b=some (.lst zs)/\xs.length+zs.length<=sizeLine/\Q .non (upd H l (.lst (xs++zs)))
theorem zhf:MtM X "list.extend" zn4:=by
 intro zn s σ H x vs v us Q I rx rv h;obtain⟨l,b,xs,zs,rfl,rfl,hH,hB,hz,q⟩:=h;cases rx;obtain⟨u,rfl,ru⟩:=rv.one;cases ru;obtain⟨z,its,n,r,hl,e⟩:=I.lstM hH;obtain⟨z2,its2,n2,r2,hl2,e2⟩:=I.lstM hB;have hsz:its.toArray.size+its2.toArray.size<=sizeLine:=by rw [size_toArray,size_toArray]; omega
 have hlong:¬ (!its.toArray.isEmpty && Builtin.List.listTooLong (its.toArray.size+its2.toArray.size))=true:=by
  rw [zkZ hsz,Bool.and_false];exact Bool.false_ne_true
 refine call_meets F.slot_list_extend ⟨_,e,rfl⟩ F.entry_list_extend (F.args_list_extend_2 _ _)
  (AutoSeq1.list_extend_list_list_0 l its.toArray n b its2.toArray n2 hlong (by rw [size_toArray]; omega) (by omega)) ⟨e,e2,?_⟩
 refine⟨.non,_,I.lset (its':=its++its2) hH e (by simp) (r.append r2) ?_,rfl,q⟩;rw [length_append];omega
def zvS:V->List V->Hp->VK->Prop:=fun x vs H Q=>∃ l xs y,x=.ref l/\vs=[]/\H l=some (.lst xs)/\xs[xs.length - 1]? = some y/\Q y (upd H l (.lst xs.dropLast))
theorem zuE:MtM X "list.pop" zvS:=by
 intro zn s σ H x vs v us Q I rx rv h;obtain⟨l,xs,y,rfl,rfl,hH,hy,q⟩:=h;cases rx;have hus:=rv.zero;subst hus;obtain⟨z,its,n,r,hl,e⟩:=I.lstM hH;obtain⟨u,hu,ru⟩:=r.get hy;have hy':its.toArray[its.toArray.size - 1]? = some u:=by
  show its.toArray[its.length - 1]? = some u;rw [<- Array.getElem?_toList,<- hl];exact hu
 refine call_meets F.slot_list_pop ⟨_,e,rfl⟩ F.entry_list_pop (F.args_list_pop_1 _) (MeetsSeq.list_pop_last l its.toArray n u hy' (by rw [size_toArray]; omega)) ⟨e,?_⟩;refine⟨y,_,I.lset (its':=its.dropLast) hH e ?_ r.dropLast ?_,ru,q⟩
 ·show its.toArray.eraseIdxIfInBounds (its.toArray.size - 1)=its.dropLast.toArray;rw [size_toArray,List.eraseIdxIfInBounds_toArray,zmj]
 ·rw [List.length_dropLast];omega
def zlu:V->List V->Hp->VK->Prop:=fun x vs H Q=>∃ l xs,x=.ref l/\vs=[]/\H l=some (.lst xs)/\Q .non (upd H l (.lst xs.reverse))
theorem zl5:MtM X "list.reverse" zlu:=by
 intro zn s σ H x vs v us Q I rx rv h;obtain⟨l,xs,rfl,rfl,hH,q⟩:=h;cases rx;have hus:=rv.zero;subst hus;obtain⟨z,its,n,r,hl,e⟩:=I.lstM hH;refine call_meets F.slot_list_reverse ⟨_,e,rfl⟩ F.entry_list_reverse (F.args_list_reverse_1 _) (AutoSeq1.list_reverse_list_0 l its.toArray n (by rw [size_toArray]; omega)) ⟨e,?_⟩;refine⟨.non,_,I.lset (its':=its.reverse) hH e (by simp) r.reverse ?_,rfl,q⟩;rw [List.length_reverse];omega
def zsL:R2:=fun x y H Q=>∃ l b xs zs,x=.ref l/\y=.ref b/\H l=some (.lst xs)/\H b=some (.lst zs)/\xs.length+zs.length<=sizeLine/\∀ p,H p=none->Q (.ref p) (upd H p (.lst (xs++zs)))
theorem znQ:OpR X (binaryOp .Add) zsL:=by
 intro zn s σ H x y v u Q I rx ry h;obtain⟨l,b,xs,zs,rfl,rfl,hH,hB,hz,q⟩:=h;cases rx;cases ry;obtain⟨z,its,n,r,hl,e⟩:=I.lstM hH;obtain⟨z2,its2,n2,r2,hl2,e2⟩:=I.lstM hB;refine PySem.P.add_list e e2 ?_ (by rw [size_toArray,size_toArray]; omega);have ea:its.toArray++its2.toArray=(its++its2).toArray:=by simp
 rw [ea];exact⟨.ref _,_,I.lnew (t':=s.toks) (r.append r2) (by rw [length_append]; omega),rfl,q _ I.fresh⟩
def zv0:R2:=fun x y H Q=>∃ l k xs,x=.ref l/\y=.int k/\H l=some (.lst xs)/\-(2 ^ 63)<=k/\k<2 ^ 63/\xs.length*k.toNat<=sizeLine /\
 ∀ p,H p=none->Q (.ref p) (upd H p (.lst (List.replicate k.toNat xs).flatten))
theorem zrv{α:Type}(xs:List α)(k:Nat):(List.replicate k xs).flatten.length=k*xs.length:=by
 induction k with
 | zero=>simp
 | succ k ih=>rw [replicate_succ,flatten_cons,length_append,ih,succ_mul,Nat.add_comm]
theorem ztL:OpR X (binaryOp .Mult) zv0:=by
 intro zn s σ H x y v u Q I rx ry h;obtain⟨l,k,xs,rfl,rfl,hH,h1,h2,hz,q⟩:=h;cases rx;obtain⟨t,rfl⟩:=ry;obtain⟨z,its,n,r,hl,e⟩:=I.lstM hH;have hlen:its.toArray.size*k.toNat<=sizeLine:=by rw [size_toArray,<- hl]; exact hz
 have hcap:¬ its.toArray.size*k.toNat>(2 ^ 63 - 1) / 8:=by
  have:(sizeLine:Nat)<=(2 ^ 63 - 1) / 8:=by decide
  omega
 have hfit:¬ (!Builtin.List.listFitsIndex k)=true:=by
  rw [fitsIndex_both h1 h2];exact Bool.false_ne_true
 have hlong:¬ Builtin.List.listTooLong (its.toArray.size*k.toNat)=true:=by
  rw [zkZ hlen];exact Bool.false_ne_true
 have hnew:List.foldl (fun x1 x2=>x1++x2) #[] (List.replicate (if its.toArray.isEmpty=true then 0 else k.toNat) its.toArray)=(List.replicate k.toNat its).flatten.toArray:=by
  have f0:∀ m:Nat,List.foldl (fun x1 x2=>x1++x2) #[] (List.replicate m its.toArray)=(List.replicate m its).flatten.toArray:=fun m=>by
   have:=zjK its m [];rw [nil_append] at this;exact this
  rw [f0];cases its with
  | nil=>simp
  | cons a r'=>rw [if_neg (by simp)]
 refine wpAny_binaryOp_repeat_ref (T:="list") (U:="int") dz ⟨_,e,rfl⟩ (fun s'=>typeIs_int s' k t) noFill_list_mul F.fills_int_mul F.slot_int_rmul repeat_list F.slot_int_index.lookup
  (call_meets F.slot_int_rmul (typeIs_int s k t) F.entry_int_rmul (F.args_int_rmul_2 _ _) (int___rmul___int_list k t l its.toArray n)
   ⟨e,rfl,⟨_,e,rfl⟩,call_meets F.slot_list_mul ⟨_,e,rfl⟩ F.entry_list_mul (F.args_list_mul_2 _ _) (AutoListH.list___mul___list_int_3 l its.toArray n k t hfit hcap hlong) ⟨e,?_⟩⟩)
 rw [hnew];exact⟨.ref _,_,I.lnew (t':=s.toks) (r.rep k.toNat) (by rw [zrv,mul_comm]; exact hz),rfl,q _ I.fresh⟩
end
end
section
section
variable {κ:Type} [DecidableEq κ]
def zmv(kvs:List (κ×V))(k:κ):Option V:=(kvs.find? fun kv=>decide (kv.1=k)).map (·.2)
def zkg(kvs:List (κ×V))(k:κ)(v:V):List (κ×V) :=
 if (kvs.any fun kv=>decide (kv.1=k))=true then kvs.map (fun kv=>if kv.1=k then (kv.1,v) else kv) else kvs++[(k,v)]
theorem zgn{p:κ×V}{r:List (κ×V)}{k:κ}(e:p.1=k):zmv (p :: r) k=some p.2:=by simp [zmv,find?_cons,e]
theorem zgm{p:κ×V}{r:List (κ×V)}{k:κ}(e:¬ p.1=k):zmv (p :: r) k=zmv r k:=by simp [zmv,find?_cons,e]
theorem zk7(k:κ):∀ kvs:List (κ×V),(kvs.any fun kv=>decide (kv.1=k))=(zmv kvs k).isSome
 | []=>rfl
 | p :: r=>by
  rw [any_cons];by_cases e:p.1=k
  ·simp only [zgn e,decide_eq_true e,Bool.true_or,Option.isSome_some]
  ·rw [zgm e,decide_eq_false e,Bool.false_or]; exact zk7 k r
theorem zgB(kvs:List (κ×V))(k:κ)(v:V):(zkg kvs k v).length<=kvs.length+1:=by
 unfold zkg;split
 ·rw [length_map]; omega
 ·rw [length_append,length_cons,length_nil]; omega
theorem RelO.isSome_eq{o:Option V}{u:Option Value}(r:RelO o u):o.isSome=u.isSome:=by
 cases o with
 | none=>cases u with
  | none=>rfl
  | some _=>exact(show False from r).elim
 | some _=>cases u with
  | none=>exact(show False from r).elim
  | some _=>rfl
theorem KV.val{kvs:List (κ×V)}{vs:List (κ×Value)}(r:KV kvs vs)(k:κ):RelO (zmv kvs k) (valueAt vs k):=by
 unfold KV at r;induction r with
 | nil=>exact True.intro
 | @cons p q ps qs h t ih =>
  obtain⟨h1,h2⟩:=h;by_cases e:p.1=k
  ·have e':q.1=k:=h1.symm.trans e;have b:valueAt (q :: qs) k=some q.2:=by simp [valueAt,find?_cons,e']
   rw [zgn e,b]; exact h2
  ·have e':¬ q.1=k:=fun z=>e (h1.trans z);have b:valueAt (q :: qs) k=valueAt qs k:=by simp [valueAt,find?_cons,e']
   rw [zgm e,b]; exact ih
theorem KV.any{kvs:List (κ×V)}{vs:List (κ×Value)}(r:KV kvs vs)(k:κ):(kvs.any fun kv=>decide (kv.1=k))=vs.any fun kv=>decide (kv.1=k):=by
 unfold KV at r;induction r with
 | nil=>rfl
 | cons h t ih=>rw [any_cons,any_cons,ih,h.1]
theorem KV.repl{kvs:List (κ×V)}{vs:List (κ×Value)}(r:KV kvs vs)(k:κ){y:V}{u:Value}(ry:RelV y u):
  KV (kvs.map fun kv=>if kv.1=k then (kv.1,y) else kv) (vs.map fun kv=>if kv.1=k then (kv.1,u) else kv):=by
 unfold KV at r ⊢;induction r with
 | nil=>exact .nil
 | @cons p q ps qs h t ih =>
  rw [map_cons,map_cons];refine .cons ?_ ih;obtain⟨h1,h2⟩:=h;by_cases e:p.1=k
  ·rw [if_pos e,if_pos (h1.symm.trans e)]; exact⟨h1,ry⟩
  ·rw [if_neg e,if_neg (fun z=>e (h1.trans z))]; exact⟨h1,h2⟩
theorem KV.put{kvs:List (κ×V)}{vs:List (κ×Value)}(r:KV kvs vs)(k:κ){y:V}{u:Value}(ry:RelV y u):KV (zkg kvs k y) (stored vs k u):=by
 unfold zkg stored;rw [r.any k];by_cases e:(vs.any fun kv=>decide (kv.1=k))=true
 ·rw [if_pos e,if_pos e]; exact r.repl k ry
 ·rw [if_neg e,if_neg e]; exact Paired.snoc r ⟨rfl,ry⟩
theorem KV.length{kvs:List (κ×V)}{vs:List (κ×Value)}(r:KV kvs vs):kvs.length=vs.length:=Paired.length r
end
theorem zrN{P:Program}{w:World}{k:Key}{u:Value}(r:RelV (kV k) u):(zbV P w).is k u=true:=by
 cases k with
 | inl i=>obtain⟨t,e⟩:=(show ∃ t,u=Value.int i t from r); subst e; exact zkj P w i t
 | inr x=>obtain⟨t,e⟩:=(show ∃ t,u=Value.str x t from r); subst e; exact zkw P w x t
theorem zj6{P:Program}{w:World}:∀ {ks:List Key} {us:List Value},Vals (ks.map kV) us->ItemsAre (zbV P w) ks us
 | [],_,r=>by rw [map_nil] at r; cases r; exact .nil
 | k :: ks,_,r=>by
  rw [map_cons] at r;cases r with
  | cons h t=>exact .cons (zrN h) (zj6 t)
abbrev KT (H:Hp):List (List Key×V)->List (List Key×Addr×Value)->Prop:=Paired fun p q=>p.1=q.1/\H q.2.1=some (.tup (p.1.map kV))/\RelV p.2 q.2.2
theorem KT.val{H:Hp}{kvs:List (List Key×V)}{xs:List (List Key×Addr×Value)}(r:KT H kvs xs)(k:List Key):RelO (zmv kvs k) ((atKey xs k).map (·.2)):=by
 induction r with
 | nil=>exact True.intro
 | @cons p q ps qs h t ih =>
  obtain⟨h1,_,h2⟩:=h;by_cases e:p.1=k
  ·have e':q.1=k:=h1.symm.trans e;have b:atKey (q :: qs) k=some q.2:=by simp [atKey,find?_cons,e']
   rw [zgn e,b]; exact h2
  ·have e':¬ q.1=k:=fun z=>e (h1.trans z);have b:atKey (q :: qs) k=atKey qs k:=by simp [atKey,find?_cons,e']
   rw [zgm e,b]; exact ih
theorem KT.repl{H:Hp}{kvs:List (List Key×V)}{xs:List (List Key×Addr×Value)}(r:KT H kvs xs)(k:List Key){y:V}{u:Value}(ry:RelV y u):
  KT H (kvs.map fun kv=>if kv.1=k then (kv.1,y) else kv) (xs.map (putAt k u)):=by
 induction r with
 | nil=>exact .nil
 | @cons p q ps qs h t ih =>
  rw [map_cons,map_cons];refine .cons ?_ ih;obtain⟨h1,h2,h3⟩:=h;unfold putAt;by_cases e:p.1=k
  ·rw [if_pos e,if_pos (h1.symm.trans e)]; exact⟨h1,h2,ry⟩
  ·rw [if_neg e,if_neg (fun z=>e (h1.trans z))]; exact⟨h1,h2,h3⟩
theorem KT.put{H:Hp}{kvs:List (List Key×V)}{xs:List (List Key×Addr×Value)}(r:KT H kvs xs)(k:List Key){b:Addr}{y:V}{u:Value}(hb:H b=some (.tup (k.map kV)))(ry:RelV y u):
  KT H (zkg kvs k y) (storedH xs k b u):=by
 have e:(kvs.any fun kv=>decide (kv.1=k))=(atKey xs k).isSome:=by
  rw [zk7,(r.val k).isSome_eq,isSome_map]
 unfold zkg storedH;rw [e];by_cases q:(atKey xs k).isSome=true
 ·rw [if_pos q,if_pos q]; exact r.repl k ry
 ·rw [if_neg q,if_neg q]; exact Paired.snoc r ⟨rfl,hb,ry⟩
theorem KT.keeps{H H':Hp}{kvs:List (List Key×V)}{xs:List (List Key×Addr×Value)}(r:KT H kvs xs)(ht:∀ b ys,H b=some (.tup ys)->H' b=some (.tup ys)):KT H' kvs xs :=
 Paired.mapP r fun _ _ z=>⟨z.1,ht _ _ z.2.1,z.2.2⟩
section
variable {P:Program} {w:World} {H:Hp} {h:Heap} {a:Addr}
theorem zs7{u:HO}(ok:HOk P w H h)(e:Rd H a u):ObjOk P w H h a u:=e.ok ok
theorem zue{kvs:List (Key×V)}(ok:HOk P w H h)(e:Rd H a (.dK kvs)):kvs.length<=sizeLine/\(a == sysModules)=false/\∃ vs,KV kvs vs/\h.DictOf (zbV P w) a vs :=
 show ObjOk P w H h a (.dK kvs) from zs7 ok e
theorem zvx{kvs:List (Key×V)}(ok:HOk P w H h)(e:H a=some (.dK kvs)):kvs.length<=sizeLine/\(a == sysModules)=false/\∃ vs,KV kvs vs/\h.DictOf (zbV P w) a vs:=zue ok (.inl e)
theorem znh{ks:List Key}(ok:HOk P w H h)(e:H a=some (.tup (ks.map kV))):(tupleKind (zbV P w)).is h ks a:=by
 obtain⟨_,its,r,o,h1,h2,n,h3⟩:=(show ObjOk P w H h a (.tup (ks.map kV)) from ok a _ e);exact⟨o,its.toArray,n,h1,h2,h3,by simpa using zj6 r⟩
theorem zto{kvs:List (List Key×V)}(ok:HOk P w H h)(e:Rd H a (.dT kvs)):kvs.length<=sizeLine/\(a == sysModules)=false /\
  ∃ xs,KT H kvs xs/\h.DictOfH (tupleKind (zbV P w)) a xs:=by
 obtain⟨z,y,xs,r,o,es,ep,h1,h2,h3,h4,h5⟩:=(show ObjOk P w H h a (.dT kvs) from zs7 ok e);refine⟨z,y,xs,r,o,es,ep,h1,h2,h3,h4,fun x hx=>?_,h5⟩;have all:∀ {l:List (List Key×V)} {m:List (List Key×Addr×Value)},KT H l m->∀ x∈m,(tupleKind (zbV P w)).is h x.1 x.2.1:=by
  intro l m q;induction q with
  | nil=>intro x hx; exact nomatch hx
  | @cons p q ps qs hq t ih =>
   intro x hx;rcases mem_cons.mp hx with e | hx
   ·subst e;exact znh ok (by rw [<- hq.1]; exact hq.2.1)
   ·exact ih x hx
 exact all r x hx
theorem zvy{kvs:List (List Key×V)}(ok:HOk P w H h)(e:H a=some (.dT kvs)):kvs.length<=sizeLine/\(a == sysModules)=false /\
  ∃ xs,KT H kvs xs/\h.DictOfH (tupleKind (zbV P w)) a xs:=zto ok (.inl e)
end
def DGet(H:Hp)(a:Addr)(y:V)(r:Option V):Prop :=
 (∃ kvs k,Rd H a (.dK kvs)/\y=kV k/\r=zmv kvs k)\/∃ kvs k b,Rd H a (.dT kvs)/\y=.ref b/\H b=some (.tup (k.map kV))/\r=zmv kvs k
def DPut(H:Hp)(a:Addr)(y v:V)(H':Hp):Prop :=
 (∃ kvs k,H a=some (.dK kvs)/\y=kV k/\kvs.length<sizeLine/\H'=upd H a (.dK (zkg kvs k v))) \/
 ∃ kvs k b,H a=some (.dT kvs)/\y=.ref b/\H b=some (.tup (k.map kV))/\kvs.length<sizeLine/\H'=upd H a (.dT (zkg kvs k v))
theorem DPut.k{H:Hp}{a:Addr}{kvs:List (Key×V)}{k:Key}{v:V}(e:H a=some (.dK kvs))(hl:kvs.length<sizeLine):DPut H a (kV k) v (upd H a (.dK (zkg kvs k v))):=.inl ⟨kvs,k,e,rfl,hl,rfl⟩
theorem DPut.t{H:Hp}{a b:Addr}{kvs:List (List Key×V)}{k:List Key}{v:V}(e:H a=some (.dT kvs))(eb:H b=some (.tup (k.map kV)))(hl:kvs.length<sizeLine):
  DPut H a (.ref b) v (upd H a (.dT (zkg kvs k v))):=.inr ⟨kvs,k,b,e,rfl,eb,hl,rfl⟩
section
variable {X:Cx} {zn:List (Addr×Obj)} {σ:St} {H:Hp} {s:Shared} {a:Addr} {y v:V} {u r:Value} {o:Option V} {A:Around} {E:Value->Shared->Prop}
theorem Inv.big(I:Inv X zn σ H s):sysModules<s.heap.objs.size:=by
 have h:mainGlobals<s.heap.objs.size:=(I.mod.glob.keeps I.bk).lt;exact Nat.lt_trans dz h
theorem zwt{Q:Value->Shared->Prop}(hu:A.units+1<cLine)(I:Inv X zn σ H s)(g:DGet H a y o)(ry:RelV y u)(h:∀ s',Inv X zn σ H s'->Q (.bool o.isSome) s'):
  wpAny (model X.prog X.w) A (compareOp .In u (.ref a)) Q E s:=by
 rcases g with ⟨kvs,k,e,ey,l⟩ | ⟨kvs,k,b,e,ey,eb,l⟩
 ·subst ey;obtain⟨z,hd,vs,rel,dd⟩:=zue I.hok e;refine wpAny_in_of (zrN ry) hd dd.mapOf ?_;rw [<- (rel.val k).isSome_eq,<- l];exact h _ (I.tok _)
 ·subst ey;cases (show u=Value.ref b from ry);obtain⟨z,hd,xs,rel,dd⟩:=zto I.hok e;refine wpAny_in_heap (tupleKind_room_in1 hu) (znh I.hok eb) hd dd ?_;have q:=(rel.val k).isSome_eq;rw [isSome_map] at q;rw [<- q,<- l];exact h _ (I.tok _)
theorem zmG{h':Heap}{t':Nat}{ob:HO}(I:Inv X zn σ H s)(mu:Mut (H a))(hs:Heap.SameBut a s.heap h')(he:∃ q,h'.get? a=some q)(new:ObjOk X.prog X.w (upd H a ob) h' a ob):
  Inv X zn σ (upd H a ob) { s with heap:=h',toks:=t' } :=
 I.write (x:=a) (e:=a) mu (.inl rfl) (fun b q hb z=>(hs.2 b hb).trans z) he new
theorem zt1{P:Program}{w:World}{H':Hp}{h':Heap}{kvs:List (Key×V)}{vs:List (Key×Value)}(z:kvs.length<=sizeLine)(hd:(a == sysModules)=false)(rel:KV kvs vs)(dd:h'.DictOf (zbV P w) a vs):
  ObjOk P w H' h' a (.dK kvs):=⟨z,hd,vs,rel,dd⟩
theorem zn5{H':Hp}{Q:Unit->Shared->Prop}(hu:A.units+1<cLine)(I:Inv X zn σ H s)(g:DPut H a y v H')(ry:RelV y u)(rv:RelV v r)(h:∀ s',Inv X zn σ H' s'->Q () s'):
  wpAny (model X.prog X.w) A (setItem (.ref a) u r) Q E s:=by
 rcases g with ⟨kvs,k,e,ey,l,eH⟩ | ⟨kvs,k,b,e,ey,eb,l,eH⟩
 ·subst ey eH;obtain⟨z,hd,vs,rel,dd⟩:=zvx I.hok e;have hz:vs.length<=sizeLine:=by rw [<- rel.length]; exact z
  have hl:(zkg kvs k v).length<=sizeLine:=by have:=zgB kvs k v; omega
  refine wpAny_setItem_pairs (hsz:=hz) (zrN ry) dd fun h' dd' hs=>h _ ?_;have he:∃ q,h'.get? a=some q:=let ⟨q,_,_,hq,_⟩:=dd'; ⟨q,hq⟩;exact zmG I (by rw [e]; exact True.intro) hs he (zt1 hl hd (rel.put k rv) dd')
 ·subst ey eH;cases (show u=Value.ref b from ry);obtain⟨z,hd,xs,rel,dd⟩:=zvy I.hok e;have hz:xs.length<=sizeLine:=by rw [<- Paired.length rel]; exact z
  have hl:(zkg kvs k v).length<=sizeLine:=by have:=zgB kvs k v; omega
  refine wpAny_setItem_heap (hsz:=hz) (tupleKind_room_in1 hu) (znh I.hok eb) dd fun h' dd' hs=>h _ ?_;obtain⟨q,es,ep,hq,h2,h3,h4,_,h5⟩:=dd';refine zmG I (by rw [e]; exact True.intro) hs ⟨q,hq⟩ ⟨hl,hd,_,(rel.put k eb rv).keeps fun c ys ec=>?_,q,es,ep,hq,h2,h3,h4,h5⟩;rw [zR (zvt ec e (fun z=>nomatch z))];exact ec
end
def zsR(td ty tv:TE):TS:=fun D σ H=>tv σ H fun v H1=>td σ H1 fun x H2=>ty σ H2 fun y H3=>∃ a H4,x=.ref a/\DPut H3 a y v H4/\D.nx σ H4
section
variable {X:Cx} {o i e value:Expr} {pos pos' tpos:Pos} {td ty tv:TE}
theorem zsB(hu:X.A.units+1<cLine)(ho:PE X o td)(hi:PE X i ty)(hv:PE X value tv)(hs:swapsWith value (some (.Subscript o i pos')) pos.line X.env=pure false):
  PS X (.Assign [.Subscript o i pos'] value pos) (zsR td ty tv):=by
 intro zn s σ H D I h;refine wpAny_Assign_Subscript (thn (hv zn s σ H _ I h) fun r s1 ⟨v,H1,I1,rv,q1⟩=>thn (ho zn s1 σ H1 _ I1 q1) fun u s2 ⟨x,H2,I2,rx,q2⟩=>thn (hi zn s2 σ H2 _ I2 q2) fun iv s3 ⟨y,H3,I3,ry,a,H4,ex,g,q3⟩=>?_) hs;subst ex;obtain rfl:u=Value.ref a:=rx;exact zn5 hu I3 g ry rv fun s4 I4=>⟨σ,H4,I4,q3⟩
end
theorem zo0{P:Program}{w:World}{H:Hp}(h:Heap)(hb:sysModules<h.objs.size):ObjOk P w H (h.push { cls:=.type "dict",data:=.dict #[] }) h.objs.size (.dT []) :=
 ⟨zero_le _,beq_eq_false_iff_ne.mpr (Ne.symm (ne_of_lt hb)),[],.nil,_,#[],0,get?_push_size _ rfl,⟨rfl,rfl,rfl⟩,rfl,rfl,nodup_nil⟩
def zqB:TE:=fun _ H Q=>∀ p,H p=none->Q (.ref p) (upd H p (.dT []))
section
variable {X:Cx} {pos:Pos}
theorem zpn:PE X (.Dict [] [] pos) zqB:=fun zn s σ H Q I h =>
 wpAny_Dict_empty ⟨.ref s.heap.objs.size,_,I.laid (a:=s.heap.objs.size) (o:=.dT []) (t':=s.toks) (fun _ _ q=>get?_push_of_some _ q) (le_refl _) (zo0 s.heap I.big),rfl,h _ (I.hok.fresh (le_refl _))⟩
end
structure M1(X:Cx)(o:Expr)(m:Str)(apos:Pos)(e:Expr)(cpos:Pos):Prop where
 base:attributeBase o m X.env (eval o X.env)=eval o X.env
 few:((backTo cpos (starEach [e] X.env)).all (fun x=>!x.1) && (backToKw cpos (keywordEach [] X.env)).all (fun x=>x.1.isSome)
  && decide (([e]:List Expr).length+([]:List Keyword).length+(if ([]:List Keyword).isEmpty then 0 else 1)<30))=true
 line:(apos.endLine == cpos.line)=true
 trees:backTo cpos (starEach [e] X.env)=[(false,eval e X.env)]
structure M2(X:Cx)(o:Expr)(m:Str)(apos:Pos)(e f:Expr)(cpos:Pos):Prop where
 base:attributeBase o m X.env (eval o X.env)=eval o X.env
 few:((backTo cpos (starEach [e,f] X.env)).all (fun x=>!x.1) && (backToKw cpos (keywordEach [] X.env)).all (fun x=>x.1.isSome)
  && decide (([e,f]:List Expr).length+([]:List Keyword).length+(if ([]:List Keyword).isEmpty then 0 else 1)<30))=true
 line:(apos.endLine == cpos.line)=true
 trees:backTo cpos (starEach [e,f] X.env)=[(false,eval e X.env),(false,eval f X.env)]
end
end L2
namespace Att
open PySem PySem.W PySem.Calls PyProof.Rows
theorem zhu{P:Params}{h:Heap}:∀ (ns:List Int) (vs:List Value),WellAll P h vs (ns.map WData.int)->IntsAre vs ns:=by
 intro ns;induction ns with
 | nil =>
  intro vs w;rw [map_nil] at w;cases w;exact .nil
 | cons n ns ih =>
  intro vs w;rw [map_cons] at w;cases w with
  | cons a b =>
   cases a;exact .cons _ _ (ih _ b)
theorem zm0{l:OpenLaw}{n:Nat}(hn:l.most=some n){P:Params}{h:Heap}{args:List WData}{vals:List Value}
  (hpre:l.row.toRowW.claim.pre args=true) (hwl:WellAll P h vals args) :
  ∃ a vs ns,vals=[Value.ref a]/\args=[WData.list (ns.map WData.int)]/\h.get? a=some { cls:=.type "list",data:=.seq vs.toArray }/\IntsAre vs ns/\ns.length<=n:=by
 have hsh:WShape.hasAll [] args [.list .int]=true:=(pre_splitW hpre).1;have hc:l.pre.holds [] { args:=args } = true:=(pre_splitW hpre).2;obtain⟨d,r,rfl,h1,h2⟩:=hasAllW_cons hsh;obtain rfl:=hasAllW_nil h2;obtain⟨xs,rfl,h3⟩:=hasW_list h1;obtain⟨ns,rfl⟩:=items_int h3;have hlen:ns.length<=n:=by
  unfold OpenLaw.pre at hc;have h4:(WTm.not (.lt (.lit (.int (n:Int))) (.len (.arg 0)))).holds [] { args:=[.list (ns.map .int)] } = true:=by
   have h4:=(holds_andW hc).1;rw [hn] at h4;exact h4
  have h5:=condW_of h4 (w_not (w_lt w_lit (w_len_list (w_arg rfl))));rw [length_map] at h5;refine Nat.le_of_not_lt fun q=>?_;have q':(n:Int)<((ns.length:Nat):Int):=by omega
  first
   | (rw [decide_eq_true q'] at h5; exact absurd h5 dz)
   | (simp at h5; omega)
 cases hwl with
 | cons w1 w2 =>
  cases w2;cases w1 with
  | list ho hall=>exact⟨_,_,ns,rfl,rfl,ho,zhu ns _ hall,hlen⟩
theorem zoF(l:OpenLaw)(args:List WData):l.row.toRowW.claim.post args (.bool true) args=true :=
 postW_of (r:=l.row.toRowW) (X:=(true == true))
  (show WShape.has [] (.bool true) .bool=true by first | rfl | decide | simp [WShape.has,WShape.arms,WShape.armsAll])
  (show (WTm.eq .res (.lit (.bool true))).value [] { args:=args,res:=some (.bool true),after:=args } = some (.bool (true == true)) from w_eq_bool (w_res rfl) w_lit) rfl
theorem attach_call{l:OpenLaw}{n:Nat}{q:Program}{loose:List Str}{XP:(Str->Option Value)->Heap->Prop}{YP:World->Heap->Prop}{d:DefRec}
  (hn:l.most=some n) (hdf:d.params.defaults=[])
  (call:∀ (w:World) (s₀ s₁:Shared) (mg mb:Str->Option Value) (fa:Addr) (o:Obj) (pm cd doc:Value) (a:Addr) (vs:List Value) (ns:List Int),
   Ground q loose [] XP w s₀ mg mb s₁.heap->YP w s₁.heap ->
   s₁.heap.get? fa=some o->o.data=.func (docDef d.name d.params d.body d.scope pm cd doc)->s₁.heap.CodeRec cd d.name->mg d.name=some (.ref fa) ->
   s₁.heap.get? a=some { cls:=.type "list",data:=.seq vs.toArray }->IntsAre vs ns->ns.length<=n->s₁.gens = #[] ->
   codeAny (model l.prog w) callerA (.call (.ref fa) ⟨[.ref a],[]⟩) (fun r s'=>r=.ok (.ret (.bool true))/\OldK s₁.heap s'.heap/\s'.os=s₁.os/\AllBare s'.gens) s₁) :
  WalkO q loose XP YP l.row.toRowW d [] (fun f vs=>PySem.call f vs):=by
 intro w s₀ s₁ mg mb G Y fa o pm cd doc dV kV ho hd hcd hD hmg hg args vals as hpre hlay hrd hwl hlo;obtain rfl:dV=.none:=Dflts.none hD hdf;obtain rfl:kV=.none:=Dflts.noKw hD;obtain⟨a,vs,ns,rfl,rfl,hobj,hints,hlen⟩:=zm0 hn hpre hwl;refine enter_call (codeAny_mono (call w s₀ s₁ mg mb fa o pm cd doc a vs ns G Y ho (fd_plain hd) hcd hmg hobj hints hlen hg) fun r s' hq=>?_);obtain⟨rfl,h2,h3,h4⟩:=hq;exact⟨.inl ⟨.bool true,.bool true,[],rfl,fun _=>rfl,.bool true,zoF l _,fun _=>⟨List.Pairwise.nil,fun _ hm=>(nomatch hm)⟩⟩,h2,h3,h4⟩
end Att
namespace L2
open PySem PySem.Spec PyProof.Rows
section
theorem zjE:∀ {vs:List Value} {ns:List Int},IntsAre vs ns->Vals (ns.map V.int) vs
 | _,_,.nil=>.nil
 | _,_,.cons n t h=>.cons ⟨t,rfl⟩ (zjE h)
def Only(H:Hp):Prop:=∀ b,H b=none\/(∃ o xs,H b=some (.frz o (.lst xs)))\/∃ q∈tabsG,q.1.2=b/\H b=some (.tbl q.2)
def zfA(b:Addr):Option HO:=(tabsG.find? fun q=>q.1.2 == b).map fun q=>.tbl q.2
theorem zed{b:Addr}{u:HO}(e:zfA b=some u):∃ q∈tabsG,q.1.2=b/\u=.tbl q.2:=by
 unfold zfA at e;cases h:tabsG.find? fun q=>q.1.2 == b with
 | none=>rw [h] at e; cases e
 | some q =>
  rw [h] at e;cases e;exact⟨q,List.mem_of_find?_eq_some h,by simpa using List.find?_some h,rfl⟩
theorem zma{l:List ((Addr×Addr)×Array Value)}(nd:(l.map fun q=>q.1.2).Nodup){q:(Addr×Addr)×Array Value}(h:q∈l):l.find? (fun r=>r.1.2 == q.1.2)=some q:=by
 induction l with
 | nil=>cases h
 | cons p l ih =>
  rw [map_cons,nodup_cons] at nd;rcases mem_cons.mp h with e | e
  ·subst e; simp
  ·have ne:¬ p.1.2=q.1.2:=fun z=>nd.1 (by rw [z]; exact mem_map_of_mem (f:=fun q:(Addr×Addr)×Array Value=>q.1.2) e);rw [List.find?_cons_of_neg (by simpa using ne)];exact ih nd.2 e
theorem zjh(nd:(tabsG.map fun q=>q.1.2).Nodup){q:(Addr×Addr)×Array Value}(h:q∈tabsG):zfA q.1.2=some (.tbl q.2):=by
 unfold zfA;rw [zma nd h];rfl
structure TabsOk(K:W.Frag)(h:Heap):Prop where
 nd:(tabsG.map fun q=>q.1.2).Nodup
 hd:∀ q∈tabsG,W.CodeHd h q.1.1 q.1.2
 empty:∀ q∈tabsG,h.get? q.1.2=some (W.tabObj #[])
 off:∀ q∈tabsG,K.lookup q.1.2=none
theorem zpN{P:Program}{w:World}{K:W.Frag}{mg mb:Str->Option Value}{CX:CXT}{k:Nat}{fa a:Addr}{fd:FuncData}{x:Str}{sp:Sp}{s₁:Shared}{vs:List Value}{ns:List Int}
  (KX:K.In s₁.heap) (TT:TabsOk K s₁.heap) (hbm:BltAt s₁.heap mg) (hns:s₁.heap.Ns mainGlobals mg) (hb:s₁.heap.Ns builtinsNs mb) (hbb:∀ x:Str,x ≠ "__name__"->mb x=bootBuiltins x) (hlim:s₁.heap.NoLimit) (hg:s₁.gens = #[])
  (ha:s₁.heap.get? a=some { cls:=.type "list",data:=.seq vs.toArray }) (hi:IntsAre vs ns) (hl:ns.length<=sizeLine) (hr:Room k callerA)
  (F:∀ base:Heap,K.In base->base.Ns mainGlobals mg->FnOk P w K mg base CX k fa fd [x] sp) (hbind:∀ (s:Shared) (u:Value),BindsTo s fd ⟨[u],[]⟩ [(x,u)])
  (hsp:∀ H:Hp,Only H->SqL K H a (ns.map V.int)->sp [.ref a] H (fun v _=>v=.bl true) fun _ _ _=>False)
  (hCX:∀ H e s',CX [] H s₁ (fun _ _ _=>False) e s'->False) :
  codeAny (model P w) callerA (.call (.ref fa) ⟨[.ref a],[]⟩) (fun r s'=>r=.ok (.ret (.bool true))/\OldK s₁.heap s'.heap/\s'.os=s₁.os/\AllBare s'.gens) s₁:=by
 have rv:=zjE hi;have lenV:=hi.length
 -- from an abstract heap in which nothing but the script may be tracked
 have core:∀ H:Hp,Only H->SqL K H a (ns.map V.int)->HOk P w H s₁.heap->(∀ b,H b≠none->b=a\/∃ q∈tabsG,q.1.2=b)->(H a≠none->K.lookup a=none)->(∀ q∈tabsG,H q.1.2=some (.tbl q.2)) ->
   codeAny (model P w) callerA (.call (.ref fa) ⟨[.ref a],[]⟩) (fun r s'=>r=.ok (.ret (.bool true))/\OldK s₁.heap s'.heap/\s'.os=s₁.os/\AllBare s'.gens) s₁:=by
  intro H hO hS hok hA hK hTab;have noO:∀ {b:Addr} {o:Obj},s₁.heap.get? b=some o->o.cls≠.type "list"->o.cls≠.none->H b=none:=fun {b o} e c1 c2=>by
   cases q:H b with
   | none=>rfl
   | some u =>
    rcases hA b (by rw [q]; simp) with e' | ⟨r,hr',e'⟩
    ·subst e';rw [ha] at e; cases e;exact absurd rfl c1
    ·have:=TT.empty r hr';rw [e',e] at this;cases this;exact absurd rfl c2
  have base_of:∀ {b:Addr} {o:Obj},s₁.heap.get? b=some o->H b=none->(zpW s₁.heap H).get? b=some o:=fun e n=>zpT e n;have noA:∀ {b:Addr} {o:Obj} {es:Array DictEntry} {ep:Nat},s₁.heap.get? b=some o->o.data=.dict es ep->H b=none:=fun {b o es ep} e d=>by
   cases q:H b with
   | none=>rfl
   | some u =>
    rcases hA b (by rw [q]; simp) with e' | ⟨r,hr',e'⟩
    ·subst e';rw [ha] at e; cases e;have d':Data.seq vs.toArray _=Data.dict es ep:=d;cases d'
    ·have:=TT.empty r hr';rw [e',e] at this;cases this;cases d
  have nsK:∀ {b:Addr} {m:Str->Option Value},s₁.heap.Ns b m->(zpW s₁.heap H).Ns b m:=fun {b m} ⟨o,es,ep,e,d,r⟩=>⟨o,es,ep,base_of e (noA e d),d,r⟩;have hKb:K.In (zpW s₁.heap H):=fun b o e=>base_of (KX b o e) (by
   cases q:H b with
   | none=>rfl
   | some u =>
    rcases hA b (by rw [q]; simp) with e' | ⟨r,hr',e'⟩
    ·subst e';rw [hK (by rw [q]; simp)] at e; cases e
    ·rw [<- e',TT.off r hr'] at e; cases e)
  have hM:Mod K mg (zpW s₁.heap H):=⟨hKb,nsK hns,⟨mb,nsK hb,hbb⟩,let ⟨mc,h1,h2⟩:=hlim; ⟨mc,nsK h1,h2⟩,
   let ⟨bm,ob,b1,b2,b3,b4,b5⟩:=hbm; ⟨bm,ob,b1,b2,base_of b3 (noO b3 (by rw [b4]; decide) (by rw [b4]; decide)),b4,b5⟩,
   fun q hq=>let ⟨o,vs,file,tf,flags,tg,inF,text,tt,e1,c1,r⟩:=TT.hd q hq; ⟨o,vs,file,tf,flags,tg,inF,text,tt,base_of e1 (noO e1 (by rw [c1]; decide) (by rw [c1]; decide)),c1,r⟩⟩
  have e0:Env0 P w K mg (zpW s₁.heap H) callerA [] s₁ H:=⟨rfl,hM,fun b o e=>zsA e,le_of_eq (znF _ _),trivial,⟨fun b hb=>absurd (show b∈([]:List Addr) from hb) (by simp),hTab⟩,hok,.of_eq hg⟩;refine codeAny_mono ((F _ hKb (nsK hns)).run callerA [] s₁ H ⟨[.ref a],[]⟩ [.ref a] [.ref a] _ _ hr e0 (hbind s₁ (.ref a)) (.cons rfl .nil) (hsp H hO hS)) fun r s' h=>?_;cases r with
  | error e=>exact(hCX H e s' h).elim
  | ok fl =>
   cases fl with
   | next=>exact False.elim h
   | brk=>exact False.elim h
   | cont=>exact False.elim h
   | ret u =>
    obtain⟨v,H',os,bare,un,hok',r',q⟩:=h;have q':v=.bl true:=q;subst q';obtain rfl:u=Value.bool true:=r';have all:∀ b o,s₁.heap.get? b=some o->s'.heap.get? b=some o\/∃ q∈tabsG,q.1.2=b/\o=W.tabObj #[]/\∃ ps,s'.heap.get? b=some (W.tabObj ps):=fun b o e=>by
     cases q:H b with
     | none=>exact .inl (un.keep b o e q (by intro z; exact absurd (show b∈([]:List Addr) from z) (by simp)) (by simp))
     | some u =>
      rcases hO b with z | ⟨ob,xs,z⟩ | ⟨r,hr',e',z⟩
      ·rw [q] at z; cases z
      ·have z2:=un.frzs b ob _ z;obtain⟨e1,_⟩:=hok b _ z;obtain⟨e2,_⟩:=hok' b _ z2;rw [e] at e1; cases e1;exact .inl e2
      ·obtain⟨qs,e2,_⟩:=hok' b _ (un.tbls b _ z);have:=TT.empty r hr';rw [e',e] at this;cases this;exact .inr ⟨r,hr',e',rfl,qs,e2⟩
    refine⟨rfl,⟨fun b o e=>?_,fun b o e=>?_⟩,os,bare⟩
    ·rcases all b o e with z | ⟨r,hr',rfl,rfl,ps,z⟩
     ·exact .inl z
     ·exact .inr (.inl ⟨((TT.hd r hr').tab (TT.empty r hr')).isCodeTable,rfl,#[],ps,rfl,by rw [Array.empty_append]; exact z⟩)
    ·rcases all b o e with z | ⟨r,hr',rfl,rfl,ps,z⟩
     ·exact⟨o,z⟩
     ·exact⟨_,z⟩
 have naT:∀ q∈tabsG,q.1.2≠a:=fun q hq z=>by
  have:=TT.empty q hq;rw [z,ha] at this;cases this
 have tOk:∀ (H:Hp) (b:Addr) (u:HO),zfA b=some u->ObjOk P w H s₁.heap b u:=fun H b u z=>by
  obtain⟨q,hq,rfl,rfl⟩:=zed z;exact⟨#[],TT.empty q hq,.inl rfl⟩
 cases hk:K.lookup a with
 | some o =>
  -- the script is one of the module's own objects
  have e:=KX a o hk;rw [ha] at e;cases e;refine core zfA (fun b=>?_) (.inr ⟨_,vs.toArray,_,hk,rfl,rfl,rfl,by rw [size_toArray,lenV]; exact hl,by simpa using rv⟩) (tOk zfA) (fun b z=>?_) (fun z=>?_) fun q hq=>zjh TT.nd hq
  ·cases q:zfA b with
   | none=>exact .inl rfl
   | some u=>obtain⟨r,hr',e',rfl⟩:=zed q; exact .inr (.inr ⟨r,hr',e',rfl⟩)
  ·cases q:zfA b with
   | none=>exact absurd q z
   | some u=>obtain⟨r,hr',e',_⟩:=zed q; exact .inr ⟨r,hr',e'⟩
  ·cases q:zfA a with
   | none=>exact absurd q z
   | some u=>obtain⟨r,hr',e',_⟩:=zed q; exact absurd e' (naT r hr')
 | none =>
  refine core (fun b=>if b=a then some (.frz { cls:=.type "list",data:=.seq vs.toArray } (.lst (ns.map V.int))) else zfA b) (fun b=>?_) (.inl (.inr ⟨{ cls:=.type "list",data:=.seq vs.toArray },if_pos rfl⟩)) (fun b u z=>?_) (fun b z=>?_) (fun _=>hk) fun q hq=>(if_neg (naT q hq)).trans (zjh TT.nd hq)
  ·by_cases hb:b=a
   ·exact .inr (.inl ⟨_,_,if_pos hb⟩)
   ·cases q:zfA b with
    | none=>exact .inl ((if_neg hb).trans q)
    | some u=>obtain⟨r,hr',e',rfl⟩:=zed q; exact .inr (.inr ⟨r,hr',e',(if_neg hb).trans q⟩)
  ·by_cases hb:b=a
   ·have z':=(if_pos hb).symm.trans z;cases z';subst hb;exact⟨ha,by rw [length_map]; exact hl,vs,_,rv,ha⟩
   ·have z':=(if_neg hb).symm.trans z;exact tOk _ b u z'
  ·by_cases hb:b=a
   ·exact .inl hb
   ·cases q:zfA b with
    | none=>exact absurd ((if_neg hb).trans q) z
    | some u=>obtain⟨r,hr',e',_⟩:=zed q; exact .inr ⟨r,hr',e'⟩
end
section
abbrev KOf {K:W.Frag} {h:Heap} (_:K.In h):W.Frag:=K
theorem walk_of{l:W.OpenLaw}{n k:Nat}{q:Program}{loose:List Str}{XP:(Str->Option Value)->Heap->Prop}{YP:World->Heap->Prop}{d:DefRec}{K:Params->W.Frag}{CX:World->CXT}{sp:World->Sp}{x:Str}
  (hn:l.most=some n) (hn2:n<=sizeLine) (hdf:d.params.defaults=[]) (hr:Room k callerA)
  (hY:∀ (w:World) (h:Heap),YP w h->(K w.params).In h)
  (hT:∀ (w:World) (h:Heap),YP w h->TabsOk (K w.params) h)
  (F:∀ (w:World) (mg:Str->Option Value) (fa:Addr) (h:Heap),(K w.params).In h->h.Ns mainGlobals mg->mg d.name=some (.ref fa) ->
   ∃ fd:FuncData,(∀ (s:Shared) (u:Value),BindsTo s fd ⟨[u],[]⟩ [(x,u)]) /\
    ∀ base:Heap,(K w.params).In base->base.Ns mainGlobals mg->FnOk l.prog w (K w.params) mg base (CX w) k fa fd [x] (sp w))
  (hsp:∀ (w:World) (H:Hp) (a:Addr) (ns:List Int),ns.length<=n->Only H->SqL (K w.params) H a (ns.map V.int)->sp w [.ref a] H (fun v _=>v=.bl true) fun _ _ _=>False)
  (hCX:∀ (w:World) (H:Hp) (s:Shared) (e:Value) (s':Shared),CX w [] H s (fun _ _ _=>False) e s'->False) :
  W.WalkO q loose XP YP l.row.toRowW d [] (fun f vs=>PySem.call f vs):=by
 refine Att.attach_call hn hdf fun w s₀ s₁ mg mb fa o pm cd doc a vs ns G Y ho hd hcd hmg hobj hints hlen hg=>?_;have KX:=hY w _ Y;obtain⟨fd,hb,hF⟩:=F w mg fa _ KX G.T.g hmg;exact zpN KX (hT w _ Y) (let ⟨bm,ob,a1,a2,a3,a4,a5,a6⟩:=G.T.bmain; ⟨bm,ob,a1,a2,a3,a4,a5,a6⟩) G.T.g G.T.b G.T.builtins G.T.nolimit hg hobj hints (le_trans hlen hn2) hr hF hb (fun H hO hS=>hsp w H a ns hlen hO hS) fun H e s'=>hCX w H s₁ e s'
end
section
def zeE(s:Stmt):Arguments:=match s with
 | .FunctionDef _ a _ _ _ _ _ _ _ _=>a
 | _=>{ posonlyargs:=[],args:=[],vararg:=none,kwonlyargs:=[],kw_defaults:=[],kwarg:=none,defaults:=[] }
def zbW(s:Stmt):List Stmt:=match s with
 | .FunctionDef _ _ b _ _ _ _ _ _ _=>b
 | _=>[]
def zi(s:Stmt):Scope:=match s with
 | .FunctionDef _ _ _ _ _ _ sc _ _ _=>sc
 | _=>{ kind:=.function,names:=[],isGenerator:=false,isCoroutine:=false }
abbrev CX0:CXT:=fun _ _ _ _ _ _=>False
abbrev E0:XK:=fun _ _ _=>False
theorem pass0{X:Cx}:Passes CX0 X E0:=fun _ _ _ _ _ _ _ h=>h.elim
structure Fun(K:W.Frag)(x qual:Str)(st:Stmt)(f:Addr)(fd:FuncData):Prop where
 ex:∃ (oc:Value) (od:Option Addr) (kV doc pm:Value) (an:Option Addr) (cdv ct:Value) (osl:Array (Option Value)),
  fd=W.fnOf x qual (zeE st) (zbW st) (zi st) .none kV doc pm an cdv ct/\K.lookup f=some ⟨oc,od,.func fd,osl⟩/\W.codeIn K cdv qual=true
 kp:W.keepIn K (.ref f)=true
section
variable {P:Program} {w:World} {K:W.Frag} {mg:Str->Option Value} {base:Heap}
theorem Fun.ok{x qual:Str}{st:Stmt}{f:Addr}{fd:FuncData}{N ps:List Str}{k:Nat}{sp:Sp}(F:Fun K x qual st f fd)(S:FnScope N ps (zi st))(len:∀ vs H Q E,sp vs H Q E->vs.length=ps.length)
  (hbody:∀ (cdv:Value) (A:Around) (outer:List Env) (s:Shared) (H:Hp) (vs:List V) (Q:VK) (E:XK),Room k (A.deeper (envOfC qual (zi st) s.heap.objs.size f cdv))->sp vs H Q E ->
   ∃ t,PSs (zkt CX0 P w K mg base N qual (zi st) f cdv A outer s H E).nox (zbW st) t/\t { nx:=fun _ H'=>Q .non H',rt:=Q } (start N vs) H):FnOk P w K mg base CX0 (k+1) f fd ps sp:=by
 obtain⟨oc,od,kV,doc,pm,an,cdv,ct,osl,rfl,lk,hcd⟩:=F.ex;refine ztc lk hcd S len fun A outer s H vs Q E hr hsp=>?_;obtain⟨t,h,q⟩:=hbody cdv A outer s H vs Q E hr hsp;exact⟨t,h.nox,q⟩
theorem Fun.binds{x qual:Str}{st:Stmt}{f:Addr}{fd:FuncData}{ps:List Str}(F:Fun K x qual st f fd)
  (h:∀ (kV doc pm:Value) (an:Option Addr) (cdv ct:Value) (us:List Value),us.length=ps.length->bindArgs (W.fnOf x qual (zeE st) (zbW st) (zi st) .none kV doc pm an cdv ct) ⟨us,[]⟩=pure (ps.zip us)):Binds K fd ps []:=by
 obtain⟨oc,od,kV,doc,pm,an,cdv,ct,osl,rfl,lk,hcd⟩:=F.ex;exact .all (h kV doc pm an cdv ct)
theorem zqZ{x qual:Str}{st:Stmt}{f:Addr}{oc:Value}{od an:Option Addr}{osl:Array (Option Value)}{kV doc pm cdv ct:Value}(l:K.lookup f=some ⟨oc,od,.func (W.fnOf x qual (zeE st) (zbW st) (zi st) .none kV doc pm an cdv ct),osl⟩)
  (c:W.codeIn K cdv qual=true) (k:W.keepIn K (.ref f)=true):Fun K x qual st f (W.fnOf x qual (zeE st) (zbW st) (zi st) .none kV doc pm an cdv ct):=⟨⟨oc,od,kV,doc,pm,an,cdv,ct,osl,rfl,l,c⟩,k⟩
end
theorem zva{A:Around}{k:Nat}(hr:Room k A):A.units+1<cLine:=Nat.lt_of_le_of_lt (Nat.add_le_add_left (by decide:1<=64) _) hr.units
theorem small1000{n:Nat}(h:n<=1000):n<sizeLine:=Nat.lt_of_le_of_lt h dz
section
variable {X:Cx}
theorem pv(i:Nat){x:Str}{pos:Pos}(hN:X.N[i]? = some x:=by rfl)(hv:Vis X.env.scope x:=by first | exact Or.inl rfl | exact Or.inr (Or.inl rfl) | exact Or.inr (Or.inr rfl))(hd:(x == ("__debug__":Str))=false:=by decide)
  (hcd:(x == ("__classdict__":Str))=false:=by decide):PE X (.Name x pos) (zna i):=ztt hN hv hd hcd
end
theorem zmu{A B:Prop}(h:B):if false=true then A else B:=by
 rw [if_neg Bool.false_ne_true];exact h
theorem zmt{A B:Prop}(h:A):if true=true then A else B:=by
 rw [if_pos rfl];exact h
theorem ite2{c A B:Prop}[Decidable c](h1:c->A)(h2:¬ c->B):if c then A else B:=by
 by_cases h:c
 ·rw [if_pos h];exact h1 h
 ·rw [if_neg h];exact h2 h
def Same(H H':Hp):Prop:=∀ b o,H b=some o->H' b=some o
theorem Same.refl(H:Hp):Same H H:=fun _ _ h=>h
theorem Same.trans{H H1 H2:Hp}(a:Same H H1)(b:Same H1 H2):Same H H2:=fun c o h=>b c o (a c o h)
theorem Same.seq{K:W.Frag}{H H':Hp}{a:Addr}{xs:List V}(e:Same H H')(h:SqL K H a xs):SqL K H' a xs:=by
 rcases h with (h | ⟨o,h⟩) | h
 ·exact .inl (.inl (e _ _ h))
 ·exact .inl (.inr ⟨o,e _ _ h⟩)
 ·exact .inr h
end
section
section
variable {X:Cx}
def CDivX(i j:Int):Prop:=0<j/\j.natAbs.log2<9000
theorem zoP:OpR X (binaryOp .FloorDiv) (rI CDivX fun i j=>.int (i / j)):=opI fun i j _ _ _ _ _ hc q=>by
 have h1:(0:Int)<j:=hc.1;exact floordiv_int (by omega) (by rw [Int.fdiv_eq_ediv_of_nonneg i (by omega)]; exact q) (.inl (PyProof.noPylong_of_log2 hc.2))
theorem zsj:OpR X (binaryOp .Mult) (rI IntMulOk fun i j=>.int (i*j)):=opI fun _ _ _ _ _ _ _ hc q=>mul_int q hc
theorem znb{k:Int}{n:Nat}(h:k.natAbs<2 ^ n):Builtin.Int.intBits k<=n:=by
 unfold Builtin.Int.intBits;split
 ·exact zero_le _
 ·rename_i h0;have hk:k.natAbs≠0:=by
   intro z;apply h0;rw [Int.natAbs_eq_zero.mp z];rfl
  have:=(Nat.log2_lt hk).mpr h;omega
theorem zvH{i j:Int}(n m:Nat)(hi:i.natAbs<2 ^ n)(hj:j.natAbs<2 ^ m)(hn:n<=2 ^ 20:=by decide)(hm:m<=2 ^ 20:=by decide):IntMulOk i j :=
 .of_bits (le_trans (znb hi) hn) (le_trans (znb hj) hm)
theorem zel{i j:Int}(h1:-(2 ^ 64)<i)(h2:i<2 ^ 64):IntMulOk i j:=.of_left (intBits_le_64 h1 h2)
theorem zmT{i j:Int}(h1:-(2 ^ 64)<j)(h2:j<2 ^ 64):IntMulOk i j:=.of_right (intBits_le_64 h1 h2)
theorem zcC{n:Int}{k:Nat}(h0:0<n)(h:n<2 ^ k):n.natAbs.log2<k:=by
 refine(Nat.log2_lt (by omega)).mpr ?_;have e:((2 ^ k:Nat):Int)=(2:Int) ^ k:=by simp
 omega
end
def kD:Key->PyData
 | .inl i=>.int i
 | .inr x=>.str x
def DOf(H:Hp)(a:Addr)(ks:List PyData)(vs:List V):Prop :=
 (∃ (ob:Obj) (m:List (Key×V)),H a=some (.frz ob (.dK m))/\ks=m.map (fun p=>kD p.1)/\vs=m.map (·.2)) \/
 ∃ (ob:Obj) (p:List Key×V) (m:List (List Key×V)),H a=some (.frz ob (.dT (p :: m)))/\ks=(p :: m).map (fun p=>.tuple (p.1.map kD))/\vs=(p :: m).map (·.2)
mutual
def Has(H:Hp):PyData->V->Prop
 | .none,v=>v=.non
 | .bool b,v=>v=.bl b
 | .int i,v=>v=.int i
 | .str x,v=>v=.str x
 | .list ds,v=>∃ a vs,v=.ref a/\H a=some (.lst vs)/\HasL H ds vs
 | .tuple ds,v=>∃ a vs,v=.ref a/\H a=some (.tup vs)/\HasL H ds vs
 | .dict kvs,v=>∃ a vs,v=.ref a/\DOf H a (kvs.map (·.1)) vs/\HasV H kvs vs
def HasL(H:Hp):List PyData->List V->Prop
 | [],vs=>vs=[]
 | d :: ds,vs=>∃ v r,vs=v :: r/\Has H d v/\HasL H ds r
def HasV(H:Hp):List (PyData×PyData)->List V->Prop
 | [],vs=>vs=[]
 | p :: ps,vs=>∃ v r,vs=v :: r/\HasP H p v/\HasV H ps r
def HasP(H:Hp):PyData×PyData->V->Prop
 | (_,d),v=>Has H d v
end
mutual
theorem Has.mono{H H':Hp}(s:Same H H'):∀ (d:PyData) (v:V),Has H d v->Has H' d v
 | .none,_,h=>by simp only [Has] at h ⊢; exact h
 | .bool _,_,h=>by simp only [Has] at h ⊢; exact h
 | .int _,_,h=>by simp only [Has] at h ⊢; exact h
 | .str _,_,h=>by simp only [Has] at h ⊢; exact h
 | .list ds,v,h=>by
  simp only [Has] at h ⊢;obtain⟨a,vs,e,q,l⟩:=h;exact⟨a,vs,e,s _ _ q,HasL.mono s ds vs l⟩
 | .tuple ds,v,h=>by
  simp only [Has] at h ⊢;obtain⟨a,vs,e,q,l⟩:=h;exact⟨a,vs,e,s _ _ q,HasL.mono s ds vs l⟩
 | .dict kvs,v,h=>by
  simp only [Has] at h ⊢;obtain⟨a,vs,e,q,l⟩:=h;refine⟨a,vs,e,?_,HasV.mono s kvs vs l⟩;rcases q with ⟨ob,m,e1,e2⟩ | ⟨ob,p,m,e1,e2⟩
  ·exact .inl ⟨ob,m,s _ _ e1,e2⟩
  ·exact .inr ⟨ob,p,m,s _ _ e1,e2⟩
theorem HasL.mono{H H':Hp}(s:Same H H'):∀ (ds:List PyData) (vs:List V),HasL H ds vs->HasL H' ds vs
 | [],_,h=>by simp only [HasL] at h ⊢; exact h
 | d :: ds,vs,h=>by
  simp only [HasL] at h ⊢;obtain⟨v,r,e,q,l⟩:=h;exact⟨v,r,e,Has.mono s d v q,HasL.mono s ds r l⟩
theorem HasV.mono{H H':Hp}(s:Same H H'):∀ (ds:List (PyData×PyData)) (vs:List V),HasV H ds vs->HasV H' ds vs
 | [],_,h=>by simp only [HasV] at h ⊢; exact h
 | d :: ds,vs,h=>by
  simp only [HasV] at h ⊢;obtain⟨v,r,e,q,l⟩:=h;exact⟨v,r,e,HasP.mono s d v q,HasV.mono s ds r l⟩
theorem HasP.mono{H H':Hp}(s:Same H H'):∀ (p:PyData×PyData) (v:V),HasP H p v->HasP H' p v
 | (_,d),v,h=>by
  simp only [HasP] at h ⊢;exact Has.mono s d v h
end
section
variable {H:Hp} {v:V}
theorem zfm:Has H .none v↔v=.non:=by simp only [Has]
theorem zd5{b:Bool}:Has H (.bool b) v↔v=.bl b:=by simp only [Has]
theorem zcG{i:Int}:Has H (.int i) v↔v=.int i:=by simp only [Has]
theorem zeA{x:Str}:Has H (.str x) v↔v=.str x:=by simp only [Has]
theorem za5{ds:List PyData}:Has H (.list ds) v↔∃ a vs,v=.ref a/\H a=some (.lst vs)/\HasL H ds vs:=by simp only [Has]
theorem zaP{ds:List PyData}:Has H (.tuple ds) v↔∃ a vs,v=.ref a/\H a=some (.tup vs)/\HasL H ds vs:=by simp only [Has]
theorem zit{kvs:List (PyData×PyData)}:Has H (.dict kvs) v↔∃ a vs,v=.ref a/\DOf H a (kvs.map (·.1)) vs/\HasV H kvs vs:=by simp only [Has]
theorem zpS{vs:List V}:HasV H [] vs↔vs=[]:=by simp only [HasV]
theorem zka{p:PyData×PyData}{ds:List (PyData×PyData)}{vs:List V}:HasV H (p :: ds) vs↔∃ v r,vs=v :: r/\Has H p.2 v/\HasV H ds r:=by
 obtain⟨k,d⟩:=p;simp only [HasV,HasP]
theorem zH{vs:List V}:HasL H [] vs↔vs=[]:=by simp only [HasL]
theorem zC{d:PyData}{ds:List PyData}{vs:List V}:HasL H (d :: ds) vs↔∃ v r,vs=v :: r/\Has H d v/\HasL H ds r:=by simp only [HasL]
theorem HasL.length:∀ {ds:List PyData} {vs:List V},HasL H ds vs->vs.length=ds.length
 | [],_,h=>by rw [zH.mp h]; rfl
 | d :: ds,vs,h=>by
  obtain⟨v,r,e,_,l⟩:=zC.mp h;rw [e,length_cons,length_cons,HasL.length l]
theorem HasL.get:∀ {ds:List PyData} {vs:List V} {i:Nat} {d:PyData},HasL H ds vs->ds[i]? = some d->∃ v,vs[i]? = some v/\Has H d v
 | [],_,_,_,_,e=>by simp at e
 | c :: ds,vs,0,d,h,e=>by
  obtain⟨v,r,rfl,q,_⟩:=zC.mp h;simp at e;subst e;exact⟨v,rfl,q⟩
 | c :: ds,vs,i+1,d,h,e=>by
  obtain⟨v,r,rfl,_,l⟩:=zC.mp h;obtain⟨u,e1,e2⟩:=HasL.get (i:=i) (d:=d) l (by simpa using e);exact⟨u,by simpa using e1,e2⟩
theorem HasL.append:∀ {ds es:List PyData} {vs us:List V},HasL H ds vs->HasL H es us->HasL H (ds++es) (vs++us)
 | [],es,vs,us,h,h'=>by rw [zH.mp h]; exact h'
 | d :: ds,es,vs,us,h,h'=>by
  obtain⟨v,r,rfl,q,l⟩:=zC.mp h;exact zC.mpr ⟨v,r++us,rfl,q,HasL.append l h'⟩
theorem zhq:∀ (ns:List Int),HasL H (ns.map .int) (ns.map V.int)
 | []=>zH.mpr rfl
 | n :: ns=>zC.mpr ⟨_,_,rfl,zcG.mpr rfl,zhq ns⟩
end
def tyD:PyData->String
 | .none=>"NoneType" | .bool _=>"bool" | .int _=>"int" | .str _=>"str" | .list _=>"list" | .tuple _=>"tuple" | .dict _=>"dict"
theorem Has.ty{K:W.Frag}{H:Hp}{d:PyData}{v:V}(h:Has H d v):TyOf K H v (.type (tyD d)):=by
 cases d with
 | none=>rw [zfm.mp h]; exact .non
 | bool b=>rw [zd5.mp h]; exact .bl b
 | int i=>rw [zcG.mp h]; exact .int i
 | str x=>rw [zeA.mp h]; exact .str x
 | list ds=>obtain⟨a,vs,rfl,e,_⟩:=za5.mp h; exact .lst e
 | tuple ds=>obtain⟨a,vs,rfl,e,_⟩:=zaP.mp h; exact .tup e
 | dict kvs =>
  obtain⟨a,vs,rfl,e,_⟩:=zit.mp h;rcases e with ⟨ob,m,e,_⟩ | ⟨ob,p,m,e,_⟩
  ·exact .dK (.inr ⟨ob,e⟩)
  ·exact .dT (.inr ⟨ob,e⟩)
def zu4:List String:=["NoneType","bool","int","str","list","tuple","dict"]
def zpV:List String:=["int","bool","str","list","tuple","dict"]
def zoH(t c:String):Bool:=t == c || (t == "bool" && c == "int")
def zrz(d:PyData)(c:String):Bool:=zoH (tyD d) c
theorem zr5(d:PyData):tyD d∈zu4:=by cases d <;> simp [tyD,zu4]
theorem zrr(K:W.Frag){t c:String}(ht:t∈zu4)(hc:c∈zpV):W.kitOne K (.type t) (.type c)=some (zoH t c):=by
 simp only [zu4,zpV,mem_cons,not_mem_nil,or_false] at ht hc;rcases ht with rfl | rfl | rfl | rfl | rfl | rfl | rfl <;> rcases hc with rfl | rfl | rfl | rfl | rfl | rfl <;> rfl
def zvp:List V->Hp->VK->Prop
 | [x,.ty c],H,Q=>∃ d,Has H d x/\c∈zpV/\Q (.bl (zrz d c)) H
 | _,_,_=>False
theorem zrT{H:Hp}{d:PyData}{x:V}{c:String}{Q:VK}(h:Has H d x)(hc:c∈zpV)(q:Q (.bl (zrz d c)) H):zvp [x,.ty c] H Q:=⟨d,h,hc,q⟩
section
variable {X:Cx}
theorem zbB:CallR X (.builtin "isinstance") zvp:=by
 intro zn s σ H xs us Q I r h
 match xs,h with
 | [x,.ty c],h =>
  obtain⟨d,hx,hc,q⟩:=h;obtain⟨u,w',rfl,ru,rw'⟩:=vals2 r;cases (show w'=Value.type c from rw');exact zos I ru hx.ty (zrr X.K (zr5 d) hc) fun tk=>⟨.bl _,H,I.tok tk,rfl,q⟩
end
def sp1(p:V->Hp->VK->Prop):Sp:=fun vs H Q _=>match vs with | [x]=>p x H Q | _=>False
def sp2(p:V->V->Hp->VK->Prop):Sp:=fun vs H Q _=>match vs with | [x,y]=>p x y H Q | _=>False
theorem zoq{p:V->Hp->VK->Prop}:∀ (vs:List V) (H:Hp) (Q:VK) (E:XK),sp1 p vs H Q E->∃ x,vs=[x]/\p x H Q:=by
 intro vs H Q E h
 match vs,h with
 | [x],h=>exact⟨x,rfl,h⟩
theorem znC{p:V->V->Hp->VK->Prop}:∀ (vs:List V) (H:Hp) (Q:VK) (E:XK),sp2 p vs H Q E->∃ x y,vs=[x,y]/\p x y H Q:=by
 intro vs H Q E h
 match vs,h with
 | [x,y],h=>exact⟨x,y,rfl,h⟩
structure Dd(K:W.Frag)(mg:Str->Option Value)(x:Str)(st:Stmt)(ps:List Str):Prop where
 ex:∃ f fd,Fun K x x st f fd/\mg x=some (.ref f)/\Binds K fd ps []
structure Df(P:Program)(w:World)(K:W.Frag)(mg:Str->Option Value)(base:Heap)(x:Str)(ps:List Str)(k:Nat)(sp:Sp):Prop where
 ex:∃ f fd,FnOk P w K mg base CX0 k f fd ps sp/\mg x=some (.ref f)/\W.keepIn K (.ref f)=true/\Binds K fd ps []
section
variable {P:Program} {w:World} {K:W.Frag} {mg:Str->Option Value} {base:Heap} {x a b c d e:Str} {st:Stmt} {N:List Str} {k:Nat}
theorem Df.of{ps:List Str}{sp:Sp}(D:Dd K mg x st ps)(S:FnScope N ps (zi st))(len:∀ vs H Q E,sp vs H Q E->vs.length=ps.length)
  (hbody:∀ (f:Addr) (cdv:Value) (A:Around) (outer:List Env) (s:Shared) (H:Hp) (vs:List V) (Q:VK) (E:XK),Room k (A.deeper (envOfC x (zi st) s.heap.objs.size f cdv))->sp vs H Q E ->
   ∃ t,PSs (zkt CX0 P w K mg base N x (zi st) f cdv A outer s H E).nox (zbW st) t/\t { nx:=fun _ H'=>Q .non H',rt:=Q } (start N vs) H):Df P w K mg base x ps (k+1) sp:=by
 obtain⟨f,fd,F,hm,hb⟩:=D.ex;exact⟨f,fd,F.ok S len (hbody f),hm,F.kp,hb⟩
theorem Df.of2{p:V->V->Hp->VK->Prop}(D:Dd K mg x st [a,b])(S:FnScope N [a,b] (zi st))(σ0:V->V->St)(hs:∀ v u,start N [v,u]=σ0 v u)
  (hbody:∀ (f:Addr) (cdv:Value) (A:Around) (outer:List Env) (s:Shared) (H:Hp) (v u:V) (Q:VK) (E:XK),Room k (A.deeper (envOfC x (zi st) s.heap.objs.size f cdv))->p v u H Q ->
   ∃ t,PSs (zkt CX0 P w K mg base N x (zi st) f cdv A outer s H E).nox (zbW st) t/\t { nx:=fun _ H'=>Q .non H',rt:=Q } (σ0 v u) H):Df P w K mg base x [a,b] (k+1) (sp2 p):=by
 refine Df.of D S (fun vs H Q E h=>?_) fun f cdv A outer s H vs Q E hr h=>?_
 ·obtain⟨x,y,rfl,_⟩:=znC vs H Q E h;rfl
 ·obtain⟨x,y,rfl,h⟩:=znC vs H Q E h;rw [hs];exact hbody f cdv A outer s H x y Q E hr h
end
def tC2(p:V->V->Hp->VK->Prop)(ta tb:TE):TE:=fun σ H Q=>ta σ H fun x H1=>tb σ H1 fun y H2=>p x y H2 Q
section
variable {X:Cx} {x a b c d e':Str} {k j:Nat} {pos pos':Pos} {e1 e2 e3 e4 e5:Expr} {t1 t2 t3 t4 t5:TE}
theorem zuH{p:V->V->Hp->VK->Prop}(D:Df X.prog X.w X.K X.mg X.base x [a,b] k (sp2 p))(hr:Room j X.A)(hk:k<=j)(h1:PE X e1 t1)(h2:PE X e2 t2)(hg:Gl X x:=by rfl)(hdb:(x == ("__debug__":Str))=false:=by decide)
  (q1:starEach [e1,e2] X.env=(false,eval e1 X.env) :: starEach [e2] X.env:=by rfl) (q2:starEach [e2] X.env=(false,eval e2 X.env) :: starEach [] X.env:=by rfl)
  (hpl:(backTo pos (starEach [e2] X.env)).any (·.1)=false:=by rfl):PE X (.Call (.Name x pos') [e1,e2] [] pos) (tC2 p t1 t2):=by
 obtain⟨f,fd,F,hm,kp,hb⟩:=D.ex;intro zn s σ H Q I h;exact zmO (dvs:=[]) (ds:=[]) (E:=E0) F (hr.mono hk) hg hm kp hb .nil pass0 (za h1 (za h2 zd q2) q1) hdb q1 hpl zn s σ H Q I h
end
theorem Dd.mk'{K:W.Frag}{h:Heap}{mg:Str->Option Value}(X:K.In h)(G:h.Ns mainGlobals mg){x:Str}{st:Stmt}{ps:List Str}{f:Addr}{oc:Value}{od an:Option Addr}{osl:Array (Option Value)}{kV doc pm cdv ct:Value}
  (a:W.nsIn K mainGlobals x=some (some (.ref f))) (l:K.lookup f=some ⟨oc,od,.func (W.fnOf x x (zeE st) (zbW st) (zi st) .none kV doc pm an cdv ct),osl⟩)
  (c:W.codeIn K cdv x=true) (k:W.keepIn K (.ref f)=true)
  (hb:∀ (kV doc pm:Value) (an:Option Addr) (cdv ct:Value) (us:List Value),us.length=ps.length->bindArgs (W.fnOf x x (zeE st) (zbW st) (zi st) .none kV doc pm an cdv ct) ⟨us,[]⟩=pure (ps.zip us)):Dd K mg x st ps :=
 ⟨f,_,zqZ (st:=st) l c k,W.mg_of X G a,(zqZ (st:=st) l c k).binds hb⟩
theorem zae:bootBuiltins "len" = some (.builtin "len"):=by decide +kernel
theorem zX:bootBuiltins "isinstance" = some (.builtin "isinstance"):=by decide +kernel
theorem zjq:bootBuiltins "max" = some (.builtin "max"):=by decide +kernel
theorem zhX:bootBuiltins "min" = some (.builtin "min"):=by decide +kernel
theorem zmA:bootBuiltins "int" = some (.type "int"):=by decide +kernel
theorem znm:bootBuiltins "bool" = some (.type "bool"):=by decide +kernel
theorem zfz:bootBuiltins "list" = some (.type "list"):=by decide +kernel
theorem zaG:bootBuiltins "tuple" = some (.type "tuple"):=by decide +kernel
section
variable {H:Hp} {Q:VK}
theorem zpm{i:Nat}{σ:St}:zna i σ H Q↔match σ[i]? with | some (some v)=>Q v H | _=>False:=by
 unfold zna;constructor
 ·rintro⟨v,e,q⟩;rw [e];exact q
 ·intro h;split at h
  ·rename_i v e;exact⟨v,e,h⟩
  ·exact h.elim
theorem znD{g:Int->Int->V}{i j:Int}:rI0 g (.int i) (.int j) H Q↔Q (g i j) H :=
 ⟨fun⟨_,_,e1,e2,q⟩=>by cases e1; cases e2; exact q,fun q=>⟨i,j,rfl,rfl,q⟩⟩
theorem zvB{p:Bool->Prop}{b:Bool}:(∃ c,V.bl b=V.bl c/\p c)↔p b:=⟨fun⟨_,e,q⟩=>by cases e; exact q,fun q=>⟨b,rfl,q⟩⟩
end
section
variable {K:W.Frag} {H:Hp} {Q:VK} {x y:V} {d:PyData} {ds:List PyData}
def zvC(K:W.Frag):List V->Hp->VK->Prop:=fun xs H Q=>∃ p ys,xs=[.ref p]/\(SqL K H p ys\/SqT K H p ys)/\Q (.int ys.length) H
end
section
variable {X:Cx}
theorem zox:CallR X (.builtin "len") (zvC X.K):=zfT
end
def hid(a:Addr)(H:Hp):Hp:=fun b=>if b=a then none else H b
theorem zuG{a b:Addr}{H:Hp}(h:b≠a):hid a H b=H b:=if_neg h
theorem zpy{a:Addr}{H:Hp}:hid a H a=none:=if_pos rfl
theorem Same.laid{H:Hp}{p:Addr}{o:HO}(h:H p=none):Same H (upd H p o):=fun b u e=>by
 rw [zR (zQ e h)];exact e
section
variable {X:Cx} {zn:List (Addr×Obj)} {σ:St} {H:Hp} {s:Shared} {a:Addr} {m:List (Key×V)}
def zws(i:Nat)(t:TS):TS:=fun D σ H=>t { D with nx:=fun σ' H'=>∃ a m,σ'[i]? = some (some (.ref a))/\H' a=some (.dK m)/\∀ ob,D.nx σ' (upd H' a (.frz ob (.dK m))) } σ H
end
end
section
theorem znw(d:PyData):zrz d "int" = match d with | .int _=>true | .bool _=>true | _=>false:=by cases d <;> first | rfl | (show zoH _ _=_; simp [zoH,tyD])
theorem zli(d:PyData):zrz d "bool" = match d with | .bool _=>true | _=>false:=by cases d <;> first | rfl | (show zoH _ _=_; simp [zoH,tyD])
theorem zj7(d:PyData):zrz d "tuple" = match d with | .tuple _=>true | _=>false:=by cases d <;> first | rfl | (show zoH _ _=_; simp [zoH,tyD])
theorem zlA(d:PyData):zrz d "list" = match d with | .list _=>true | _=>false:=by cases d <;> first | rfl | (show zoH _ _=_; simp [zoH,tyD])
def vw:List Addr->Hp->Hp
 | [],H=>H
 | a :: r,H=>hid a (vw r H)
def zsn(K:W.Frag):V->V->Hp->VK->Prop:=fun x y H Q=>∃ (a:Addr) (ns:List Int) (i:Int),x=.ref a/\y=.int i/\SqL K H a (ns.map V.int)/\0<=i/\∀ n,Q (.int n) H
theorem zrM{ns:List Int}{i:Int}(h0:0<=i)(h1:i<((ns.map V.int).length:Int)):∃ n,atI (ns.map V.int) i=some (.int n):=by
 obtain⟨k,rfl⟩:=Int.eq_ofNat_of_zero_le h0;have hk:k<ns.length:=by rw [length_map] at h1; omega
 exact⟨ns[k],zcH (by rw [getElem?_map,getElem?_eq_getElem hk]; rfl)⟩
theorem zpi{ns:List Int}{lo hi:Option Int}{x:V}(h:x∈zlC (ns.map V.int) lo hi):∃ n,x=.int n:=by
 have h1:=mem_of_mem_drop (mem_of_mem_take h);obtain⟨n,_,e⟩:=mem_map.mp h1;exact⟨n,e.symm⟩
theorem Fun.bind1{K:W.Frag}{x a:Str}{st:Stmt}{f:Addr}{fd:FuncData}(F:Fun K x x st f fd)
  (h:∀ (kV doc pm:Value) (an:Option Addr) (cdv ct:Value) (u:Value),bindArgs (W.fnOf x x (zeE st) (zbW st) (zi st) .none kV doc pm an cdv ct) ⟨[u],[]⟩=pure [(a,u)]):∀ (s:Shared) (u:Value),BindsTo s fd ⟨[u],[]⟩ [(a,u)]:=by
 obtain⟨oc,od,kV,doc,pm,an,cdv,ct,osl,rfl,lk,hcd⟩:=F.ex;exact fun s u=>.of_eq (h kV doc pm an cdv ct u)
def zvs(K:W.Frag):V->Hp->VK->Prop:=fun x H Q=>∃ (a:Addr) (ns:List Int),x=.ref a/\SqL K H a (ns.map V.int)/\ns.length<=63/\∀ H',Q (.bl true) H'
theorem walk_law{l:W.OpenLaw}{k:Nat}{q:Program}{loose:List Str}{XP:(Str->Option Value)->Heap->Prop}{YP:World->Heap->Prop}{d:DefRec}{K:Params->W.Frag}(hn:l.most=some 63)(hdf:d.params.defaults=[])
  (hr:Room k callerA) (hY:∀ (w:World) (h:Heap),YP w h->(K w.params).In h) (hT:∀ (w:World) (h:Heap),YP w h->TabsOk (K w.params) h)
  (F:∀ (w:World) (mg:Str->Option Value) (fa:Addr) (h:Heap),(K w.params).In h->h.Ns mainGlobals mg->mg d.name=some (.ref fa) ->
   ∃ fd:FuncData,(∀ (s:Shared) (u:Value),BindsTo s fd ⟨[u],[]⟩ [("script",u)])/\∀ base:Heap,(K w.params).In base->base.Ns mainGlobals mg->FnOk l.prog w (K w.params) mg base CX0 k fa fd ["script"] (sp1 (zvs (K w.params)))) :
  W.WalkO q loose XP YP l.row.toRowW d [] (fun f vs=>PySem.call f vs) :=
 L2.walk_of (n:=63) (k:=k) (x:="script") (CX:=fun _=>CX0) (sp:=fun w=>sp1 (zvs (K w.params))) hn dz hdf hr hY hT F (fun _ _ a ns hl _ hS=>⟨a,ns,rfl,hS,hl,fun _=>rfl⟩) fun _ _ _ _ _ z=>z
theorem Fun.ok1{P:Program}{w:World}{K:W.Frag}{mg:Str->Option Value}{base:Heap}{x a:Str}{st:Stmt}{f:Addr}{fd:FuncData}{N:List Str}{k:Nat}{p:V->Hp->VK->Prop}(F:Fun K x x st f fd)(S:FnScope N [a] (zi st))(σ0:V->St)(hs:∀ v,start N [v]=σ0 v)
  (hbody:∀ (cdv:Value) (A:Around) (outer:List Env) (s:Shared) (H:Hp) (v:V) (Q:VK) (E:XK),Room k (A.deeper (envOfC x (zi st) s.heap.objs.size f cdv))->p v H Q ->
   ∃ t,PSs (zkt CX0 P w K mg base N x (zi st) f cdv A outer s H E).nox (zbW st) t/\t { nx:=fun _ H'=>Q .non H',rt:=Q } (σ0 v) H):FnOk P w K mg base CX0 (k+1) f fd [a] (sp1 p):=by
 refine F.ok S (fun vs H Q E h=>?_) fun cdv A outer s H vs Q E hr h=>?_
 ·obtain⟨x,rfl,_⟩:=zoq vs H Q E h;rfl
 ·obtain⟨x,rfl,h⟩:=zoq vs H Q E h;rw [hs];exact hbody cdv A outer s H x Q E hr h
end
section
mutual
theorem Has.reads{X:Cx}{zn:List (Addr×Obj)}{σ:St}{H:Hp}{s:Shared}(I:Inv X zn σ H s):∀ (d:PyData) (v:V) (u:Value),Has H d v->d.canLay0=true->RelV v u->∃ as,Reads s.heap u d as
 | .none,v,u,h,_,r=>by
  rw [zfm.mp h] at r;cases (show u=Value.none from r);exact⟨_,.none⟩
 | .bool b,v,u,h,_,r=>by
  rw [zd5.mp h] at r;cases (show u=Value.bool b from r);exact⟨_,.bool b⟩
 | .int i,v,u,h,_,r=>by
  rw [zcG.mp h] at r;obtain⟨t,q⟩:=(show ∃ t,u=Value.int i t from r);cases q;exact⟨_,.int i t⟩
 | .str x,v,u,h,_,r=>by
  rw [zeA.mp h] at r;obtain⟨t,q⟩:=(show ∃ t,u=Value.str x t from r);cases q;exact⟨_,.str x t⟩
 | .list ds,v,u,h,c,r=>by
  obtain⟨a,vs,rfl,e,l⟩:=za5.mp h;cases (show u=Value.ref a from r);obtain⟨_,its,n,rv,e1⟩:=(show ObjOk X.prog X.w H s.heap a (.lst vs) from I.hok a _ e);obtain⟨as,q⟩:=HasL.reads I ds vs its l (by simpa only [PyData.canLay0] using c) rv;exact⟨_,.list e1 rfl rfl (by simpa using q)⟩
 | .tuple ds,v,u,h,c,r=>by
  obtain⟨a,vs,rfl,e,l⟩:=zaP.mp h;cases (show u=Value.ref a from r);obtain⟨_,its,rv,o,e1,e2,n,e3⟩:=(show ObjOk X.prog X.w H s.heap a (.tup vs) from I.hok a _ e);obtain⟨as,q⟩:=HasL.reads I ds vs its l (by simpa only [PyData.canLay0] using c) rv;exact⟨_,.tuple e1 e2 e3 (by simpa using q)⟩
 | .dict _,_,_,_,c,_=>by simp [PyData.canLay0] at c
theorem HasL.reads{X:Cx}{zn:List (Addr×Obj)}{σ:St}{H:Hp}{s:Shared}(I:Inv X zn σ H s):∀ (ds:List PyData) (vs:List V) (us:List Value),HasL H ds vs->PyData.canLayAll0 ds=true->Vals vs us->∃ as,ReadsAll s.heap us ds as
 | [],vs,us,h,_,r=>by
  rw [zH.mp h] at r;cases r;exact⟨_,.nil⟩
 | d :: ds,vs,us,h,c,r=>by
  obtain⟨v,w',rfl,h1,h2⟩:=zC.mp h;have c':d.canLay0=true/\PyData.canLayAll0 ds=true:=by simpa [PyData.canLayAll0] using c
  cases r with
  | cons r1 r2 =>
   obtain⟨as,q1⟩:=Has.reads I d v _ h1 c'.1 r1;obtain⟨bs,q2⟩:=HasL.reads I ds w' _ h2 c'.2 r2;exact⟨_,.cons q1 q2⟩
end
def zv6:R2:=fun x y H Q=>∃ d e,Has H d x/\Has H e y/\SeqAt.shaped d=true/\SeqAt.shaped e=true/\Q (.bl (PyData.eqv d e)) H
def zvO:R2:=fun x y H Q=>∃ d e,Has H d x/\Has H e y/\SeqAt.shaped d=true/\SeqAt.shaped e=true/\Q (.bl (!PyData.eqv d e)) H
section
variable {X:Cx}
theorem zck(hu:X.A.units+64<cLine):OpR X (compareOp .Eq) zv6:=by
 intro zn s σ H x y v u Q I rx ry h;obtain⟨d,e,hd,he,sd,se,q⟩:=h;obtain⟨as,q1⟩:=Has.reads I d x v hd (SeqAt.canLay_of_shaped sd) rx;obtain⟨bs,q2⟩:=Has.reads I e y u he (SeqAt.canLay_of_shaped se) ry;exact eq_dataH q1 q2 sd se hu ⟨.bl _,H,I,rfl,q⟩
theorem zf3(hu:X.A.units+64<cLine):OpR X (compareOp .NotEq) zvO:=by
 intro zn s σ H x y v u Q I rx ry h;obtain⟨d,e,hd,he,sd,se,q⟩:=h;obtain⟨as,q1⟩:=Has.reads I d x v hd (SeqAt.canLay_of_shaped sd) rx;obtain⟨bs,q2⟩:=Has.reads I e y u he (SeqAt.canLay_of_shaped se) ry;exact ne_dataH q1 q2 sd se hu ⟨.bl _,H,I,rfl,q⟩
end
section
variable {prog:Program} {w:World} {A:Around} {E:Value->Shared->Prop} {s:Shared} {l:Addr}
theorem zmr{xs:Array (Int×Tok)}{Q:Value->Shared->Prop}(hh:A.handled=none)(hl:s.heap.IsTuple l (intItems xs))(hne:0<xs.size)
  (h:∀ v h' tk,(intItems xs)[argBest (fun i j=>decide (numAt xs i<numAt xs j)) (xs.size - 1)]? = some v->(∀ b o,s.heap.get? b=some o->h'.get? b=some o)->Q v { s with heap:=h',toks:=tk }) :
  wpAny (model prog w) A (call (.builtin "min") [.ref l]) Q E s:=by
 have hlt:l<s.heap.objs.size:=by obtain⟨o,e,_⟩:=hl; exact lt_size e
 refine call_min_walk (wpAny_pyIter_tuple hl ?_);refine⟨_,[_,l],[_],_,_,_,_,rfl,Walks.tuple (A:=A.in1) hh _ l (ne_of_lt hlt) (intItems xs),⟨⟨_,get?_push_size _ rfl,rfl,rfl⟩,hl.push _⟩,fun c hc=>?_,by simpa [intItems] using hne,CmpOf.ints_lt (numAt xs) (fun _ _=>intItems_at),fun v h' tk hP hk=>?_⟩
 ·show c<(s.heap.push _).objs.size;rw [size_push];rcases mem_cons.mp hc with rfl | hc
  ·exact Nat.lt_succ_self _
  ·rcases mem_cons.mp hc with rfl | hc
   ·exact lt_succ_of_lt hlt
   ·cases hc
 ·refine h v h' tk (by simpa [intItems] using hP) fun b o e=>hk b o (fun hm=>?_) (get?_push_of_some _ e);rcases mem_cons.mp hm with e1 | hm
  ·exact absurd (e1▸lt_size e) (lt_irrefl _)
  ·cases hm
theorem zme{xs:Array (Int×Tok)}{Q:Value->Shared->Prop}(hh:A.handled=none)(hl:s.heap.IsTuple l (intItems xs))(hne:0<xs.size)
  (h:∀ v h' tk,(intItems xs)[argBest (fun i j=>decide (numAt xs i>numAt xs j)) (xs.size - 1)]? = some v->(∀ b o,s.heap.get? b=some o->h'.get? b=some o)->Q v { s with heap:=h',toks:=tk }) :
  wpAny (model prog w) A (call (.builtin "max") [.ref l]) Q E s:=by
 have hlt:l<s.heap.objs.size:=by obtain⟨o,e,_⟩:=hl; exact lt_size e
 refine call_max_walk (wpAny_pyIter_tuple hl ?_);refine⟨_,[_,l],[_],_,_,_,_,rfl,Walks.tuple (A:=A.in1) hh _ l (ne_of_lt hlt) (intItems xs),⟨⟨_,get?_push_size _ rfl,rfl,rfl⟩,hl.push _⟩,fun c hc=>?_,by simpa [intItems] using hne,CmpOf.ints_gt (numAt xs) (fun _ _=>intItems_at),fun v h' tk hP hk=>?_⟩
 ·show c<(s.heap.push _).objs.size;rw [size_push];rcases mem_cons.mp hc with rfl | hc
  ·exact Nat.lt_succ_self _
  ·rcases mem_cons.mp hc with rfl | hc
   ·exact lt_succ_of_lt hlt
   ·cases hc
 ·refine h v h' tk (by simpa [intItems] using hP) fun b o e=>hk b o (fun hm=>?_) (get?_push_of_some _ e);rcases mem_cons.mp hm with e1 | hm
  ·exact absurd (e1▸lt_size e) (lt_irrefl _)
  ·cases hm
theorem zhc{vs:List Value}{ns:List Int}(hi:IntsAre vs ns):∃ xs:Array (Int×Tok),vs.toArray=intItems xs/\ns=xs.toList.map (·.1):=by
 obtain⟨xs,e⟩:=hi.allInts.items;exact⟨xs,e,by rw [<- hi.numsOf,<- nums_intItems,<- e]⟩
end
def zvf(K:W.Frag):List V->Hp->VK->Prop:=fun xs H Q=>∃ p ns,xs=[.ref p]/\(SqL K H p (ns.map V.int)\/SqT K H p (ns.map V.int))/\ns≠[]/\∀ m,m∈ns->(∀ a,a∈ns->m<=a)->Q (.int m) H
def zwf(K:W.Frag):List V->Hp->VK->Prop:=fun xs H Q=>∃ p ns,xs=[.ref p]/\(SqL K H p (ns.map V.int)\/SqT K H p (ns.map V.int))/\ns≠[]/\∀ m,m∈ns->(∀ a,a∈ns->a<=m)->Q (.int m) H
section
variable {X:Cx}
theorem znH(hc:X.calm=true):CallR X (.builtin "min") (zvf X.K):=by
 intro zn s σ H xs us Q I r h;obtain⟨p,ns,rfl,hq,hne,q⟩:=h;obtain⟨u,rfl,rx⟩:=vals1 r;cases (show u=Value.ref p from rx);have done:∀ (ys:Array (Int×Tok)) (v:Value) (h':Heap) (tk:Nat),ns=ys.toList.map (·.1)->0<ys.size->(intItems ys)[argBest (fun i j=>decide (numAt ys i<numAt ys j)) (ys.size - 1)]? = some v ->
   (∀ b o,s.heap.get? b=some o->h'.get? b=some o)->EP X zn σ Q v { s with heap:=h',toks:=tk }:=by
  intro ys v h' tk hns hsz hv hk;obtain⟨t,rfl⟩:=intItems_at hv;obtain⟨h1,h2⟩:=argBest_lt (numAt ys) (ys.size - 1);refine⟨.int _,H,I.kept (t':=tk) hk,⟨t,rfl⟩,q _ ?_ fun a ha=>?_⟩
  ·rw [hns,numAt_eq]; exact getD_mem (by rw [length_map,length_toList]; omega)
  ·rw [hns] at ha;obtain⟨j,hj,rfl⟩:=mem_getD ha;rw [length_map,length_toList] at hj;rw [<- numAt_eq]; exact h2 j (by omega)
 rcases hq with hq | hq
 ·obtain⟨its,rv,pl,_⟩:=I.list hq;obtain⟨ys,e,hns⟩:=zhc (zaT rv);have hsz:0<ys.size:=by
   cases ys with
   | mk l=>cases l with
    | nil=>exact absurd hns hne
    | cons _ _=>exact Nat.succ_pos _
  exact min_intList (I.ok.hd hc) (by rw [<- e]; exact pl.isList) hsz fun v h' tk hv hk=>done ys v h' tk hns hsz hv hk
 ·obtain⟨its,rv,pl,_⟩:=I.tuple hq;obtain⟨ys,e,hns⟩:=zhc (zaT rv);have hsz:0<ys.size:=by
   cases ys with
   | mk l=>cases l with
    | nil=>exact absurd hns hne
    | cons _ _=>exact Nat.succ_pos _
  exact zmr (I.ok.hd hc) (by rw [<- e]; exact pl) hsz fun v h' tk hv hk=>done ys v h' tk hns hsz hv hk
theorem zjN(hc:X.calm=true):CallR X (.builtin "max") (zwf X.K):=by
 intro zn s σ H xs us Q I r h;obtain⟨p,ns,rfl,hq,hne,q⟩:=h;obtain⟨u,rfl,rx⟩:=vals1 r;cases (show u=Value.ref p from rx);have done:∀ (ys:Array (Int×Tok)) (v:Value) (h':Heap) (tk:Nat),ns=ys.toList.map (·.1)->0<ys.size->(intItems ys)[argBest (fun i j=>decide (numAt ys i>numAt ys j)) (ys.size - 1)]? = some v ->
   (∀ b o,s.heap.get? b=some o->h'.get? b=some o)->EP X zn σ Q v { s with heap:=h',toks:=tk }:=by
  intro ys v h' tk hns hsz hv hk;obtain⟨t,rfl⟩:=intItems_at hv;obtain⟨h1,h2⟩:=argBest_gt (numAt ys) (ys.size - 1);refine⟨.int _,H,I.kept (t':=tk) hk,⟨t,rfl⟩,q _ ?_ fun a ha=>?_⟩
  ·rw [hns,numAt_eq]; exact getD_mem (by rw [length_map,length_toList]; omega)
  ·rw [hns] at ha;obtain⟨j,hj,rfl⟩:=mem_getD ha;rw [length_map,length_toList] at hj;rw [<- numAt_eq]; exact h2 j (by omega)
 rcases hq with hq | hq
 ·obtain⟨its,rv,pl,_⟩:=I.list hq;obtain⟨ys,e,hns⟩:=zhc (zaT rv);have hsz:0<ys.size:=by
   cases ys with
   | mk l=>cases l with
    | nil=>exact absurd hns hne
    | cons _ _=>exact Nat.succ_pos _
  exact max_intList (I.ok.hd hc) (by rw [<- e]; exact pl.isList) hsz fun v h' tk hv hk=>done ys v h' tk hns hsz hv hk
 ·obtain⟨its,rv,pl,_⟩:=I.tuple hq;obtain⟨ys,e,hns⟩:=zhc (zaT rv);have hsz:0<ys.size:=by
   cases ys with
   | mk l=>cases l with
    | nil=>exact absurd hns hne
    | cons _ _=>exact Nat.succ_pos _
  exact zme (I.ok.hd hc) (by rw [<- e]; exact pl) hsz fun v h' tk hv hk=>done ys v h' tk hns hsz hv hk
end
section
variable {K:W.Frag} {o:List Addr} {σ:St} {H0:Hp} {t t1 t2 t3 t4 t5:TE} {ta:TA} {tt tu:TT} {d d1 d2 d3 d4 d5:PyData} {ds:List PyData} {b c:Bool}
def znk:PyData->Bool
 | .none=>true
 | _=>false
theorem zja{H:Hp}{v:V}(h:Has H d v):decide (v=.non)=znk d:=by
 cases d with
 | none=>rw [zfm.mp h]; rfl
 | bool _=>rw [zd5.mp h]; rfl
 | int _=>rw [zcG.mp h]; rfl
 | str _=>rw [zeA.mp h]; rfl
 | list _=>obtain⟨a,vs,rfl,_⟩:=za5.mp h; rfl
 | tuple _=>obtain⟨a,vs,rfl,_⟩:=zaP.mp h; rfl
 | dict _=>obtain⟨a,vs,rfl,_⟩:=zit.mp h; rfl
def zvL:R2:=fun x y H Q=>y=.non/\Q (.bl (decide (x=.non))) H
def zsS:R2:=fun x y H Q=>y=.non/\Q (.bl (!decide (x=.non))) H
theorem zkD{X:Cx}:OpR X (compareOp .Is) zvL:=zs0
theorem ze1{X:Cx}:OpR X (compareOp .IsNot) zsS:=zsD
end
def spD(a b:Int):PyData:=.tuple [.int a,.int b]
end
section
theorem zn9{K:W.Frag}{a:Addr}{ns:List Int}{N:Int}{j:Nat}{tb:TS}{D:Ends}{σ:St}{H:Hp}(P:St->Prop)(h0:σ[0]? = some (some (.ref a)))(hS:SqL K H a (ns.map V.int))(hlen:ns.length<=63)(hP:P σ)
  (turn:∀ (n:Int) (σ:St) (H1 H2:Hp),P σ->Same H H1->Same H1 H2->tb { D with nx:=fun σ' H'=>Same H1 H'/\P σ',ct:=fun σ' H'=>Same H1 H'/\P σ',bk:=D.nx } (σ.set j (some (.int n))) H2)
  (done:∀ (σ:St) (H1:Hp),P σ->Same H H1->D.nx σ H1) :
  zs6 (zsq K (tOp zsL (zsF (ziZ (tC2 (zsn K) (zna 0) (tC (.int 0))) zrY)) (tSl (zuB K) (zna 0) (zmc (tC (.int 1))) (zmc (tC (.int N)))))) (zky j) tb D σ H:=by
 refine⟨_,h0,a,ns,0,rfl,rfl,hS,by decide,fun n0=>⟨by show 1<=sizeLine; decide,fun p hp=>?_⟩⟩;have s1:Same H (upd H p (.lst [.int n0])):=Same.laid hp;refine⟨_,h0,_,rfl,_,rfl,a,_,rfl,s1.seq hS,fun p2 hp2=>?_⟩;have s2:=s1.trans (Same.laid (o:=.lst (zlC (ns.map V.int) (some 1) (some N))) hp2);have np:p≠p2:=zQ zau hp2;have hz:(zlC (ns.map V.int) (some 1) (some N)).length<=63:=le_trans (zeB _ _ _) (by rw [length_map]; exact hlen);refine⟨p,p2,_,_,rfl,rfl,by rw [zR np,zau],zau,le_of_lt (small1000 (by simp only [length_cons,length_nil]; omega)),fun p3 hp3=>?_⟩;have s3:=s2.trans (Same.laid (o:=.lst ([V.int n0]++zlC (ns.map V.int) (some 1) (some N))) hp3);refine⟨p3,rfl,⟨_,.of zau⟩,zpp (K:=K) (a:=p3) (xs:=[V.int n0]++zlC (ns.map V.int) (some 1) (some N)) (fun i σ' H'=>Same _ H'/\P σ') ⟨Same.refl _,hP⟩ (fun i σ H4 _ ⟨s4,_⟩=>.of (s4 _ _ zau)) ?_ ?_⟩
 ·rintro i x σ' H4 hi ⟨s4,p4⟩;obtain⟨n,rfl⟩:∃ n,x=.int n:=by
   rcases mem_append.mp (mem_of_getElem? hi) with m | m
   ·exact⟨n0,mem_singleton.mp m⟩
   ·exact zpi m
  exact turn n σ' _ H4 p4 s3 s4
 ·rintro σ' H4 ⟨s4,p4⟩;exact done σ' H4 p4 (s3.trans s4)
end
section
section
variable {prog:Program} {w:World} {A:Around} {E:Value->Shared->Prop} {R:Result->Shared->Prop} {s:Shared}
theorem zjl{elt target iter:Expr}{ifs:List Expr}{scope:Scope}{pos:Pos}{it acc:Value}{env:Env}(I:Nat->Shared->Prop)
  (turn:∀ n s,I n s->wpAny (model prog w) A (pyNext it) (fun r s₁=>match r with
   | none=>R (.ok .next) s₁
   | some v=>wpAny (model prog w) A (letOwnedTupleGo target it v) (fun _ s₀=>wpAny (model prog w) A (assign target env v) (fun _ s₂ =>
     wpAny (model prog w) A (forIn ifs true fun c r=>if r=true then do let ok <- isTrue c env (eval c env); pure (ForInStep.yield ok) else pure (ForInStep.yield r)) (fun ok s₃ =>
      if ok=true then wpAny (model prog w) A (eval elt env) (fun x s₄ =>
       wpAny (model prog w) A (call (.builtin "list.append") [acc,x]) (fun _ s₅=>∃ m,m<n/\I m s₅) (fun _ _=>False) s₄) (fun _ _=>False) s₃
      else ∃ m,m<n/\I m s₃) (fun _ _=>False) s₂) (fun _ _=>False) s₀) (fun _ _=>False) s₁) (fun _ _=>False) s)
  (n:Nat) (h:I n s) :
  codeAny (model prog w) A (.compLoop (.ListComp elt [⟨target,iter,ifs,0⟩] scope pos) 0 it acc env) R s:=by
 have up:∀ {α:Type} {t:Sem α} {Q:α->Shared->Prop} {E':Value->Shared->Prop} {s':Shared},wpAny (model prog w) A t Q (fun _ _=>False) s'->wpAny (model prog w) A t Q E' s':=fun h=>wpAny_mono h (fun _ _ q=>q) fun _ _ z=>z.elim;refine codeAny_loop rfl I (fun n s hI=>?_) n h;show wpAny _ A ((compTurn (.ListComp elt [⟨target,iter,ifs,0⟩] scope pos) 0 it acc env).onRaise (fun x=>do noteFrame x env; theTreesLotGoes x)) _ _ s;refine wpAny_noted ?_;rw [compTurn_list];refine wpAny_bind (wpAny_standAt (wpAny_bind (thn (up (turn n s hI)) fun r s₁ h₁=>?_)));cases r with
 | none=>exact wpAny_pure h₁
 | some v =>
  refine wpAny_bind (thn (up h₁) fun _ s₀ h₀=>?_);refine wpAny_bind (thn (up h₀) fun _ s₂ h₂=>wpAny_bind (thn (up h₂) fun ok s₃ h₃=>?_));cases ok with
  | false=>exact wpAny_pure ⟨rfl,h₃⟩
  | true =>
   exact wpAny_bind (wpAny_bind (thn (up h₃) fun x s₄ h₄=>wpAny_bind (thn (up h₄) fun _ s₅ h₅=>wpAny_pure (wpAny_pure ⟨rfl,h₅⟩))))
end
def zcf(X:Cx)(scope:Scope)(cl:List (Str×Addr))(C:Addr)(s₃:Shared)(H₃:Hp)(fp:List Addr)(N:List Str):Cx where
 prog:=X.prog
 w:=X.w
 K:=X.K
 mg:=X.mg
 base:=X.base
 A:=X.A
 N:=N
 s₀:=s₃
 H₀:=H₃
 env:=compEnvC scope cl C X.env
 outer:=X.stack
 stack:=X.stack
 ex:=fp
 fn:=fun _=>false
 calm:=X.calm
 pn:=[]
 xe:=fun _ _=>False
def PTs(X:Cx)(ifs:List Expr)(t:TT):Prop :=
 ∀ (zn:List (Addr×Obj)) (s:Shared) (σ:St) (H:Hp) (Q:Bool->Hp->Prop),Inv X zn σ H s->t σ H Q ->
  wpAny (model X.prog X.w) X.A (forIn ifs true fun c r=>if r=true then do let ok <- isTrue c X.env (eval c X.env); pure (ForInStep.yield ok) else pure (ForInStep.yield r)) (TP X zn σ Q) X.xe s
def ztQ:TT:=fun _ H Q=>Q true H
theorem zag{X:Cx}:PTs X [] ztQ:=fun _ _ _ H _ I h=>wpAny_tests_nil ⟨H,I,h⟩
theorem zmV{X:Cx}{c:Expr}{t:TT}(h:PT X c t):PTs X [c] t:=fun zn s σ H Q I hw=>wpAny_tests_one (h zn s σ H Q I hw)
def tau(caps:List (Option Nat))(σ:St):St:=caps.map fun o=>o.bind fun i=>(σ[i]?).join
def zkK(caps:List (Option Nat))(wi:TI)(g:TG)(tt:TT)(te:TE):TE:=fun σ H Q=>wi σ H fun J H1=>∀ D,H1 D=none->∃ W:Nat->Nat->St->Hp->Prop,(∃ m,W 0 m (tau caps σ) (upd H1 D (.lst []))) /\
 ∀ i m τ H2,W i m τ H2->(J.stop i H2/\Q (.ref D) H2)\/(J.go i H2/\∀ x H3,J.yld i H2 x H3->g x τ H3 fun τ4 H4=>tt τ4 H4 fun b H5 =>
  if b=true then te τ4 H5 fun v H6=>∃ xs,H6 D=some (.lst xs)/\xs.length<sizeLine/\∃ m',m'<m/\W (i+1) m' τ4 (upd H6 D (.lst (xs++[v]))) else ∃ m',m'<m/\W (i+1) m' τ4 H5)
structure CompOk(X:Cx)(scope:Scope)(cl:List (Str×Addr))(N:List Str)(caps:List (Option Nat)):Prop where
 clos:closureFor scope X.env=pure cl
 sub:∀ x c,cl.lookup x=some c->X.env.cells.lookup x=some c
 kind:scope.kind=.function
 cell:∀ y∈scope.names,y.2≠.cell
 names:∀ y∈scope.names,y.2=.local->scope.names.lookup y.1=some .local
 has:∀ x,((relabel scope X.env).names.lookup x=some .cell\/(relabel scope X.env).names.lookup x=some .free)->∃ c,cl.lookup x=some c
 cap:∀ (j i:Nat) (x:Str),caps[j]? = some (some i)->N[j]? = some x->X.N[i]? = some x/\Vis X.env.scope x/\¬ X.env.kindOf x=some .local/\∃ c,cl.lookup x=some c/\((relabel scope X.env).names.lookup x=some .cell\/(relabel scope X.env).names.lookup x=some .free)
 len:caps.length=N.length
section
variable {X:Cx} {scope:Scope} {cl:List (Str×Addr)} {N:List Str} {caps:List (Option Nat)} {tg iter elt:Expr} {ifs:List Expr} {pos:Pos} {wi:TI} {g:TG} {tt:TT} {te:TE}
theorem zlO{zn:List (Addr×Obj)}{σ:St}{H:Hp}{s:Shared}{fp:List Addr}{h₁:Heap}{t':Nat}(c:CompOk X scope cl N caps)(I:Inv X zn σ H s)(f:∀ b∈fp,FpOk X zn H b)(fo:∀ b∈fp,∃ o,s.heap.get? b=some o)
  (hns:h₁.Ns s.heap.objs.size (fun _=>none)) (hk:∀ b o,s.heap.get? b=some o->h₁.get? b=some o) :
  Inv (zcf X scope cl s.heap.objs.size s H fp N) [] (tau caps σ) H { s with heap:=h₁,toks:=t' }:=by
 have lt:∀ b∈fp,b<s.heap.objs.size:=fun b hb=>by obtain⟨o,e⟩:=fo b hb; exact lt_size e
 have cells:∀ x k,cl.lookup x=some k->∃ v,s.heap.IsCell k v:=fun x k e=>I.cell x k (c.sub x k e);refine⟨⟨I.ok.mod,c.kind,I.ok.glob,I.ok.blt,le_refl _,fun x y k h1 h2=>I.ok.inj x y k (c.sub x k h1) (c.sub y k h2),fun x hx=>c.has x hx,fun x k h _=>absurd (show false=true from h) dz,I.ok.hd,I.ok.frames,.inl rfl,
  fun b hb=>⟨ne_of_lt (lt b hb),fun x k e=>(f b hb).2.2.2.2.1 x k (c.sub x k e)⟩,I.bs,le_trans I.ok.bsz I.sz,fun b o e hb=>?_,fun b hb z=>?_,I.stack,I.stkFree⟩,
  rfl,I.bare,Un.kept hk,⟨_,hns,fun j x v h1 h2 h3=>?_⟩,fun x k e=>?_,I.hok.fresh (le_refl _),fun x k e=>I.freeC x k (c.sub x k e),fun p hp=>absurd (show p∈([]:List (Addr×Obj)) from hp) (by simp),I.hok.kept hk,?_⟩
 ·rcases(f b hb).2.2.2.1 with q | q
  ·exact I.ok.noex b o e q
  ·exact absurd (lt_of_lt_of_le (lt_size e) (le_trans I.ok.bsz q)) (lt_irrefl _)
 ·rcases mem_cons.mp (I.stkSub b z) with q | q
  ·exact(f b hb).2.1 q
  ·exact(f b hb).2.2.1 q
 ·have h2':(caps.map fun o=>o.bind fun i=>(σ[i]?).join)[j]? = some (some v):=h2;rw [getElem?_map] at h2';cases e:caps[j]? with
  | none=>rw [e] at h2'; cases h2'
  | some oi =>
   rw [e] at h2';have h2'':(oi.bind fun i=>(σ[i]?).join)=some v:=Option.some.inj h2';cases oi with
   | none=>cases h2''
   | some i =>
    have h4:(σ[i]?).join=some v:=h2'';have h5:σ[i]? = some (some v):=by
     cases q:σ[i]? with
     | none=>rw [q] at h4; cases h4
     | some w'=>rw [q] at h4; exact congrArg some h4
    obtain⟨k1,k2,k3,cc,k4,k5⟩:=c.cap j i x e h1;obtain⟨m,hn,hl⟩:=I.loc;obtain⟨u,r,l⟩:=hl i x v k1 h5 k2;refine⟨u,r,.inr ⟨k5,cc,k4,?_⟩⟩;rcases l with ⟨q,_⟩ | ⟨_,c',hc',hcell⟩
    ·exact(k3 q).elim
    ·rw [c.sub x cc k4] at hc';cases hc';exact hcell.keeps hk
 ·obtain⟨v,q⟩:=cells x k e;exact⟨v,q.keeps hk⟩
 ·show (caps.map _).length=N.length;rw [length_map];exact c.len
theorem znG{zn:List (Addr×Obj)}{σ τ:St}{H H':Hp}{s s':Shared}{h':Heap}{fp:List Addr}(I:Inv X zn σ H s)(f:∀ b∈fp,FpOk X zn H b)(J:Inv (zcf X scope cl s.heap.objs.size s H fp N) [] τ H' s')(hs:Heap.SameBut s.heap.objs.size s'.heap h'):
  Inv X zn σ H' { s' with heap:=h' }:=by
 have hC:H' s.heap.objs.size=none:=J.free;have keep:∀ b o,b≠s.heap.objs.size->s'.heap.get? b=some o->h'.get? b=some o:=fun b o nb e=>hs.extBut b o nb e;have u1:Un (frs X.stack) (s.heap.objs.size :: fp) H H' s.heap s'.heap:=Un.mono J.base (fun b hb=>hb) (fun b hb=>mem_cons_of_mem _ hb);have u2:Un (frs X.stack) (s.heap.objs.size :: fp) H' H' s'.heap h' :=
  ⟨fun b o e _ _ hx=>keep b o (fun z=>hx (by rw [z]; exact mem_cons_self)) e,fun b o e _ _ hx=>⟨o.slots,keep b o (fun z=>hx (by rw [z]; exact mem_cons_self)) e⟩,fun _ _ _ n _=>n,fun b o e hx=>⟨o,keep b o (fun z=>hx (by rw [z]; exact mem_cons_self)) e⟩,fun _ _ q=>q,fun _ _ _ q=>q,fun _ _ q=>q⟩
 have hok:HOk X.prog X.w H' h':=fun a o e=>(J.hok a o e).stay (fun b u hb q=>keep b u (fun z=>by
  rcases hb with hb | hb
  ·rw [<- hb,z,hC] at e; cases e
  ·rw [z,hC] at hb; cases hb) q) (fun b q=>q) fun b xs q=>q
 refine I.call' (s':={ s' with heap:=h' }) (ch:=s.heap.objs.size :: fp) J.os (u1.trans u2) hok J.bare fun b hb=>?_;rcases mem_cons.mp hb with rfl | hb
 ·refine⟨.inr I.sz,ne_of_gt I.lt,fun x k e z=>?_,fun p hp z=>?_⟩
  ·obtain⟨v,q⟩:=I.cell x k e;exact absurd q.lt (by rw [z]; exact lt_irrefl _)
  ·exact absurd (lt_size (I.pin p hp).1) (by rw [z]; exact lt_irrefl _)
 ·obtain⟨f0,f1,f2,f3,f4,f5⟩:=f b hb;exact⟨f3,f1,f4,f5⟩
theorem zhP{zn:List (Addr×Obj)}{σ:St}{H2:Hp}{s2:Shared}{it:Addr}{fp:List Addr}{tn:Nat->Heap->Prop}{J:It}{RR:Value->Addr->Result->Shared->Prop}{E:Value->Shared->Prop}(hc:X.calm=true)(c:CompOk X scope cl N caps)
  (I2:Inv X zn σ H2 s2) (T:Turn X.prog X.w X.K tg J fp it tn) (st2:tn 0 s2.heap) (f2:∀ b∈fp,FpOk X zn H2 b)
  (hg:∀ C s H fp,PG (zcf X scope cl C s H fp N) tg g) (ht:∀ C s H fp,PTs (zcf X scope cl C s H fp N) ifs tt) (he:∀ C s H fp,PE (zcf X scope cl C s H fp N) elt te)
  (Q:VK) (hq:∀ D,H2 D=none->∃ W:Nat->Nat->St->Hp->Prop,(∃ m,W 0 m (tau caps σ) (upd H2 D (.lst []))) /\
   ∀ i m τ H2,W i m τ H2->(J.stop i H2/\Q (.ref D) H2)\/(J.go i H2/\∀ x H3,J.yld i H2 x H3->g x τ H3 fun τ4 H4=>tt τ4 H4 fun b H5 =>
    if b=true then te τ4 H5 fun v H6=>∃ xs,H6 D=some (.lst xs)/\xs.length<sizeLine/\∃ m',m'<m/\W (i+1) m' τ4 (upd H6 D (.lst (xs++[v]))) else ∃ m',m'<m/\W (i+1) m' τ4 H5))
  (hRR:∀ (D C:Addr) (H':Hp) (s':Shared) (m:Str->Option Value),s'.heap.Ns C m->FpOk X zn H' C->(∀ h',Heap.SameBut C s'.heap h'->Inv X zn σ H' { s' with heap:=h' })->Q (.ref D) H'->RR (.ref D) C (.ok .next) s') :
  wpAny (model X.prog X.w) X.A (newList []) (fun acc s₃=>wpAny (model X.prog X.w) X.A (newFunctionEnv scope X.env.globals cl [] X.env.qual none .none (some X.env)) (fun cenv s₄ =>
   codeAny (model X.prog X.w) X.A (.compStart (.ListComp elt [⟨tg,iter,ifs,0⟩] scope pos) 0 (.ref it) acc { cenv with scope:=relabel scope X.env }) (RR acc cenv.locals) s₄) E s₃) E s2:=by
 have hD:H2 s2.heap.objs.size=none:=I2.hok.fresh (le_refl _);obtain⟨W,⟨m0,w0⟩,turn⟩:=hq s2.heap.objs.size hD;have I3:Inv X zn σ (upd H2 s2.heap.objs.size (.lst [])) { s2 with heap:=s2.heap.push { cls:=.type "list",data:=.seq ([]:List Value).toArray } }:=I2.laid (t':=s2.toks) (fun b u e=>get?_push_of_some _ e) (le_refl _) ⟨zero_le _,[],0,.nil,get?_push_size _ rfl⟩;have fo:∀ b∈fp,∃ o,s2.heap.get? b=some o:=fun b hb=>by obtain⟨o,e,_⟩:=T.obj 0 _ st2 b hb; exact⟨o,e⟩
 have f3:∀ b∈fp,FpOk X zn (upd H2 s2.heap.objs.size (.lst [])) b:=fun b hb=>by
  obtain⟨o,e⟩:=fo b hb;refine⟨?_,(f2 b hb).2⟩;rw [zR (ne_of_lt (lt_size e))];exact(f2 b hb).1
 refine wpAny_newObj_type (wpAny_newFunctionEnv c.cell (by intro y hy; simp at hy) (fun h₁ hns₁ hsb₁=>?_) c.kind);have hk:∀ b o,(s2.heap.push { cls:=.type "list",data:=.seq ([]:List Value).toArray }).get? b=some o->h₁.get? b=some o:=fun b o e=>hsb₁.extBut b o (ne_of_lt (lt_size e)) (get?_push_of_some _ e);have st4:tn 0 h₁:=T.keep 0 _ _ st2 fun b _ o e=>hk b o (get?_push_of_some _ e);have I4:=zlO (t':=s2.toks+([]:List (Str×Value)).length) c I3 f3 (fun b hb=>by obtain⟨o,e⟩:=fo b hb; exact⟨o,get?_push_of_some _ e⟩) hns₁ hk;have fpok:∀ {H':Hp},(∀ b∈fp,H' b=none)->∀ b∈fp,FpOk (zcf X scope cl (s2.heap.push { cls:=.type "list",data:=.seq ([]:List Value).toArray }).objs.size { s2 with heap:=s2.heap.push { cls:=.type "list",data:=.seq ([]:List Value).toArray } } (upd H2 s2.heap.objs.size (.lst [])) fp N) [] H' b:=fun hn b hb =>
  ⟨hn b hb,(I4.ok.exf b hb).1,I4.ok.exfs b hb,.inl hb,(I4.ok.exf b hb).2,fun p hp=>absurd (show p∈([]:List (Addr×Obj)) from hp) (by simp)⟩
 have loop:codeAny (model X.prog X.w) X.A (.compLoop (.ListComp elt [⟨tg,iter,ifs,0⟩] scope pos) 0 (.ref it) (.ref s2.heap.objs.size) (compEnvC scope cl (s2.heap.push { cls:=.type "list",data:=.seq ([]:List Value).toArray }).objs.size X.env))
   (RR (.ref s2.heap.objs.size) (s2.heap.push { cls:=.type "list",data:=.seq ([]:List Value).toArray }).objs.size) { s2 with heap:=h₁,toks:=s2.toks+([]:List (Str×Value)).length }:=by
  refine zjl (fun n s'=>∃ i τ H',Inv (zcf X scope cl (s2.heap.push { cls:=.type "list",data:=.seq ([]:List Value).toArray }).objs.size { s2 with heap:=s2.heap.push { cls:=.type "list",data:=.seq ([]:List Value).toArray } } (upd H2 s2.heap.objs.size (.lst [])) fp N) [] τ H' s'/\tn i s'.heap/\(∀ b∈fp,H' b=none)/\W i n τ H') ?_ m0 ⟨0,_,_,I4,st4,fun b hb=>(f3 b hb).1,w0⟩;rintro n s5 ⟨i,τ,H5,I5,st5,fr5,w5⟩;rcases turn i n τ H5 w5 with ⟨stop,qn⟩ | ⟨go,step⟩
  ·refine thn (T.done (zcf X scope cl (s2.heap.push { cls:=.type "list",data:=.seq ([]:List Value).toArray }).objs.size { s2 with heap:=s2.heap.push { cls:=.type "list",data:=.seq ([]:List Value).toArray } } (upd H2 s2.heap.objs.size (.lst [])) fp N) rfl rfl rfl hc i [] s5 τ H5 (fun _ _=>False) I5 (fpok fr5) st5 stop) fun r s6 ⟨hr,I6⟩=>?_;subst hr;obtain⟨m,hn,_⟩:=id I6.loc;exact hRR _ _ H5 s6 m hn (I3.fpOk (le_refl _) I6.free) (fun h' hs=>znG I3 f3 I6 hs) qn
  ·refine thn (T.item (zcf X scope cl (s2.heap.push { cls:=.type "list",data:=.seq ([]:List Value).toArray }).objs.size { s2 with heap:=s2.heap.push { cls:=.type "list",data:=.seq ([]:List Value).toArray } } (upd H2 s2.heap.objs.size (.lst [])) fp N) rfl rfl rfl hc i [] s5 τ H5 (fun _ _=>False) I5 (fpok fr5) st5 go) fun r s6 ⟨u,hr,h6⟩=>?_;subst hr;refine thn h6 fun _ s7 ⟨x,H7,I7,r7,y7,st7,fr7⟩=>?_;have I7':=I7.pinned (fpok fr7) (T.obj _ _ st7);refine thn (hg _ _ _ _ _ s7 τ H7 x u _ I7' r7 (step x H7 y7)) fun _ s8 ⟨τ8,H8,I8,q8⟩=>?_;refine thn (ht _ _ _ _ _ s8 τ8 H8 _ I8 q8) fun ok s9 ⟨H9,I9,q9⟩=>?_;have again:∀ {H':Hp} {s':Shared} {m:Nat},Inv (zcf X scope cl (s2.heap.push { cls:=.type "list",data:=.seq ([]:List Value).toArray }).objs.size { s2 with heap:=s2.heap.push { cls:=.type "list",data:=.seq ([]:List Value).toArray } } (upd H2 s2.heap.objs.size (.lst [])) fp N) ([]++zjH fp s7.heap) τ8 H' s'->(m<n/\W (i+1) m τ8 H') ->
     ∃ m,m<n/\∃ i τ H',Inv (zcf X scope cl (s2.heap.push { cls:=.type "list",data:=.seq ([]:List Value).toArray }).objs.size { s2 with heap:=s2.heap.push { cls:=.type "list",data:=.seq ([]:List Value).toArray } } (upd H2 s2.heap.objs.size (.lst [])) fp N) [] τ H' s'/\tn i s'.heap/\(∀ b∈fp,H' b=none)/\W i m τ H':=fun {H' s' m} I' q=>by
    refine⟨m,q.1,i+1,τ8,H',I'.unpinned,T.keep _ _ _ st7 fun b hb o e=>(I'.pin (b,o) (mem_append_right _ (mem_append_right _ (zd7 hb e)))).1,fun b hb=>?_,q.2⟩;obtain⟨o,e,d⟩:=T.obj _ _ st7 b hb;exact(I'.pin (b,o) (mem_append_right _ (mem_append_right _ (zd7 hb e)))).2.1
   cases ok with
   | false =>
    rw [if_neg Bool.false_ne_true] at q9 ⊢;obtain⟨m',hm,w9⟩:=q9;exact again I9 ⟨hm,w9⟩
   | true =>
    rw [if_pos rfl] at q9 ⊢;refine thn (he _ _ _ _ _ s9 τ8 H9 _ I9 q9) fun v s10 ⟨z,H10,I10,r10,xs,hx,hz,m',hm,w10⟩=>?_;refine thn (zbT _ s10 τ8 H10 (.ref s2.heap.objs.size) [z] (.ref s2.heap.objs.size) [v] (fun _ H11=>W (i+1) m' τ8 H11) I10 rfl (.cons r10 .nil) ⟨_,xs,z,rfl,rfl,hx,hz,w10⟩) fun _ s11 ⟨_,H11,I11,_,w11⟩=>?_;exact again I11 ⟨hm,w11⟩
 exact codeAny_compStart_list loop (T.self _ 0 _ _ _ st4 loop)
theorem zax(hx:∀ e s,X.xe e s->False)(hc:X.calm=true)(c:CompOk X scope cl N caps)(hi:PI X tg iter wi)(hg:∀ C s H fp,PG (zcf X scope cl C s H fp N) tg g)(ht:∀ C s H fp,PTs (zcf X scope cl C s H fp N) ifs tt)(he:∀ C s H fp,PE (zcf X scope cl C s H fp N) elt te)
  (hs:∀ x,foldedSetIterable iter X.env x=pure x:=by intro _; rfl):PE X (.ListComp elt [⟨tg,iter,ifs,0⟩] scope pos) (zkK caps wi g tt te):=by
 intro zn s σ H Q I h;rw [eval_ListComp];refine wpAny_comprehension_free (use:=none) rfl hs c.clos c.kind c.names (thn (hi zn s σ H _ I h) fun v s1 h1=>thn h1 fun itv s2 h2=>?_);obtain⟨it,fp,tn,J,H2,e,I2,T,st2,f2,q2⟩:=h2;subst e;exact zhP (RR:=fun acc C=>compPost (model X.prog X.w) X.A X.xe none (EP X zn σ Q) acc C) hc c I2 T st2 f2 hg ht he Q q2 fun D C H' s' m hn _ hb q=>⟨m,hn,fun h' hs=>⟨.ref D,H',hb h' hs,rfl,q⟩⟩
theorem zeH{i:Nat}{y:Str}{py spos:Pos}(hx:∀ e s,X.xe e s->False)(hc:X.calm=true)(c:CompOk X scope cl N caps)(hN:X.N.Nodup)(hyi:X.N[i]? = some y)(hl:X.env.scope.names.lookup y=some .local)(hi:PI X tg iter wi)(hg:∀ C s H fp,PG (zcf X scope cl C s H fp N) tg g)
  (ht:∀ C s H fp,PTs (zcf X scope cl C s H fp N) ifs tt) (he:∀ C s H fp,PE (zcf X scope cl C s H fp N) elt te)
  (hsw:swapsWith (.ListComp elt [⟨tg,iter,ifs,0⟩] scope pos) (some (.Name y py)) spos.line X.env=pure true:=by rfl)
  (hs:∀ x,foldedSetIterable iter X.env x=pure x:=by intro _; rfl):PS X (.Assign [.Name y py] (.ListComp elt [⟨tg,iter,ifs,0⟩] scope pos) spos) (ztM (zkK caps wi g tt te) (zky i)):=by
 intro zn s σ H D I h;rw [exec_Assign_Name_used _ _ _ _ hsw];refine wpAny_bind (wpAny_standAt (wpAny_bind ?_));show wpAny _ X.A (do let _ <- comprehension (.ListComp elt [⟨tg,iter,ifs,0⟩] scope pos) scope X.env _ (newList []) false (eval iter X.env) (some (assign (.Name y py) X.env))) _ _ s;refine wpAny_bind (wpAny_mono (wpAny_comprehension_free (use:=some (assign (.Name y py) X.env)) (Q:=fun _ s'=>SP X zn D .next s') rfl hs c.clos c.kind c.names (thn (hi zn s σ H _ I h) fun v s1 h1=>thn h1 fun itv s2 h2=>?_)) (fun _ s' hq=>wpAny_pure (wpAny_pure hq)) fun _ _ e=>e);obtain⟨it,fp,tn,J,H2,e,I2,T,st2,f2,q2⟩:=h2;subst e;refine zhP (RR:=fun acc C=>compPost (model X.prog X.w) X.A X.xe (some (assign (.Name y py) X.env)) (fun _ s'=>SP X zn D .next s') acc C) hc c I2 T st2 f2 hg ht he (fun v H'=>D.nx (σ.set i (some v)) H') q2 fun Da C H' s' m hn f hb q=>?_;obtain⟨o,es,ep,ho,hd,r⟩:=hn;have I':Inv X zn σ H' s':=hb s'.heap (Heap.SameBut.refl _ _);have I'':Inv X (zn++[(C,o)]) σ H' s':=I'.pins_of fun p hp=>(mem_append.mp hp).elim (fun z=>I'.pin p (mem_append_right _ z)) fun z=>by
  cases mem_singleton.mp z;exact⟨ho,f.1,f.2.1,f.2.2.1,fun v e=>by rw [hd] at e; cases e⟩
 refine wpAny_assign_Name (ziQ I'' hN hyi (.inl hl) (show RelV (V.ref Da) (Value.ref Da) from rfl) (fun s2 J2=>?_) (.inr hl));refine⟨m,⟨o,es,ep,(J2.pin (C,o) (mem_append_right _ (mem_append_right _ (mem_singleton.mpr rfl)))).1,hd,r⟩,fun h' hs=>?_⟩;exact⟨_,H',J2.unpinned.turned (t':=s2.toks) (fun b ob nb e=>hs.extBut b ob nb e) f.1 f.2.1 f.2.2.2.1 f.2.2.2.2.1 f.2.2.2.2.2,q⟩
end
def zke(env:Env):List (Str×NameKind)->List (Str×Addr)->List (Str×Addr)
 | [],acc=>acc
 | (n,k) :: r,acc=>zke env r (if k == .free then (n,(env.cells.lookup n).getD 0) :: acc else acc)
theorem zix{env:Env}{x:Str}{c:Addr}:∀ {names:List (Str×NameKind)} {acc:List (Str×Addr)},(x,c)∈zke env names acc->(x,c)∈acc\/((x,NameKind.free)∈names/\c=(env.cells.lookup x).getD 0)
 | [],_,h=>.inl h
 | (n,k) :: r,acc,h=>by
  rcases zix (names:=r) h with h | ⟨h,e⟩
  ·by_cases hk:k == .free
   ·rw [if_pos hk] at h;rcases mem_cons.mp h with h | h
    ·cases h;have:k=.free:=by simpa using hk
     subst this;exact .inr ⟨mem_cons_self,rfl⟩
    ·exact .inl h
   ·rw [if_neg hk] at h;exact .inl h
  ·exact .inr ⟨mem_cons_of_mem _ h,e⟩
theorem zkS{env:Env}{p:Str×Addr}:∀ {names:List (Str×NameKind)} {acc:List (Str×Addr)},p∈acc->p∈zke env names acc
 | [],_,h=>h
 | (n,k) :: r,acc,h=>zkS (names:=r) (by split <;> first | exact mem_cons_of_mem _ h | exact h)
theorem zgw{env:Env}{x:Str}:∀ {names:List (Str×NameKind)} {acc:List (Str×Addr)},(x,NameKind.free)∈names->∃ c,(x,c)∈zke env names acc
 | (n,k) :: r,acc,h=>by
  rcases mem_cons.mp h with h | h
  ·cases h;exact⟨_,zkS (names:=r) (by rw [if_pos dz]; exact mem_cons_self)⟩
  ·exact zgw (names:=r) h
theorem zcy{β:Type}{x:Str}{c:β}:∀ {l:List (Str×β)},(x,c)∈l->∃ c',l.lookup x=some c'
 | (n,v) :: r,h=>by
  cases e:x == n with
  | true=>exact⟨v,by rw [lookup_cons,e]⟩
  | false =>
   rcases mem_cons.mp h with h | h
   ·cases h;simp at e
   ·obtain⟨c',q⟩:=zcy (l:=r) h;exact⟨c',by rw [lookup_cons,e]; exact q⟩
theorem zfo{env:Env}{scope:Scope}(h:∀ y∈scope.names,y.2=.free->(env.cells.lookup y.1).isSome=true):closureFor scope env=pure (zke env scope.names []):=by
 have go:∀ (names:List (Str×NameKind)) (acc:List (Str×Addr)),(∀ y∈names,y.2=.free->(env.cells.lookup y.1).isSome=true) ->
   (forIn names acc (fun(x:Str×NameKind) (cs:List (Str×Addr))=>(if x.2 == .free then (do let c <- cellOf env x.1; pure (ForInStep.yield ((x.1,c) :: cs))) else pure (ForInStep.yield cs):Sem (ForInStep (List (Str×Addr))))))=(pure (zke env names acc):Sem (List (Str×Addr))):=by
  intro names;induction names with
  | nil=>intro acc _; rfl
  | cons y r ih =>
   intro acc hy;obtain⟨n,k⟩:=y;rw [forIn_cons];by_cases hk:k == .free
   ·have hs:=hy (n,k) mem_cons_self (by simpa using hk);obtain⟨c,hc⟩:=isSome_iff_exists.mp hs;have hc':env.cells.lookup n=some c:=hc;simp only [hk,if_true,cellOf,hc',pure_bind,zke,Option.getD_some];exact ih _ fun y hy'=>hy y (mem_cons_of_mem _ hy')
   ·simp only [hk,Bool.false_eq_true,if_false,pure_bind,zke];exact ih _ fun y hy'=>hy y (mem_cons_of_mem _ hy')
 have g:=go scope.names [] h;exact(bind_pure _).trans g
def zat(DN:List Str)(dsc sc:List (Str×NameKind))(N:List Str)(caps:List (Option Nat)):Bool :=
 (caps.length == N.length) && sc.all (fun y=>y.2 != .cell && (y.2 != .free || dsc.lookup y.1 == some .cell) && (y.2 != .local || sc.lookup y.1 == some .local)) &&
 (caps.zip N).all fun p=>match p.1 with | none=>true | some i=>DN[i]? == some p.2 && dsc.lookup p.2 == some .cell && sc.lookup p.2 == some .free
theorem zdU{dsc:List (Str×NameKind)}{env:Env}{x:Str}{k:NameKind}:∀ {names:List (Str×NameKind)},(names.map fun(n,k)=>if (k == .free && env.scope.kind == .function && env.kindOf n == some .cell) then (n,.cell) else (n,k)).lookup x=some k ->
  ∃ k',names.lookup x=some k'/\(k'=k\/(k'=.free/\k=.cell))
 | [],h=>by simp at h
 | (n,k0) :: r,h=>by
  cases e:x == n with
  | true =>
   refine⟨k0,by rw [lookup_cons,e],?_⟩;rw [map_cons] at h;dsimp only at h;split at h
   ·rename_i hc;rw [lookup_cons,e] at h;have:k0=.free:=by simp at hc; exact hc.1.1
    cases h;exact .inr ⟨this,rfl⟩
   ·rw [lookup_cons,e] at h;cases h;exact .inl rfl
  | false =>
   rw [map_cons] at h;dsimp only at h;have h':(r.map fun(n,k)=>if (k == NameKind.free && env.scope.kind == .function && env.kindOf n == some .cell) then (n,NameKind.cell) else (n,k)).lookup x=some k:=by
    split at h <;> (rw [lookup_cons,e] at h; exact h)
   obtain⟨k',q,z⟩:=zdU (dsc:=dsc) h';exact⟨k',by rw [lookup_cons,e]; exact q,z⟩
theorem zh1{env:Env}{x:Str}(h1:env.scope.kind=.function)(h2:env.kindOf x=some .cell):∀ {names:List (Str×NameKind)},names.lookup x=some .free ->
  (names.map fun(n,k)=>if (k == .free && env.scope.kind == .function && env.kindOf n == some .cell) then (n,.cell) else (n,k)).lookup x=some .cell
 | [],h=>by simp at h
 | (n,k0) :: r,h=>by
  rw [map_cons];cases e:x == n with
  | true =>
   rw [lookup_cons,e] at h;cases h;have en:x=n:=by simpa using e
   subst en;dsimp only;rw [if_pos (by rw [h1,h2]; decide),lookup_cons,e]
  | false =>
   rw [lookup_cons,e] at h;have ih:=zh1 h1 h2 (names:=r) h;dsimp only;split <;> (rw [lookup_cons,e]; exact ih)
theorem zJ{X:Cx}{dsc:Scope}{L:Nat}{scope:Scope}{N:List Str}{caps:List (Option Nat)}(hd:X.env.scope=dsc)(hc:X.env.cells=cellsFrom L dsc.names [])(hdk:dsc.kind=.function)(hk:scope.kind=.function)(h:zat X.N dsc.names scope.names N caps=true):
  CompOk X scope (zke X.env scope.names []) N caps:=by
 subst hd;simp only [zat,Bool.and_eq_true,all_eq_true,beq_iff_eq] at h;obtain⟨⟨hl,hs⟩,hz⟩:=h;have hfree:∀ y∈scope.names,y.2=.free->X.env.scope.names.lookup y.1=some .cell:=fun y hy e=>by
  have q:=(hs y hy).1.2;rw [e] at q;simpa using q
 have hcell:∀ y∈scope.names,y.2≠.cell:=fun y hy e=>by
  have q:=(hs y hy).1.1;rw [e] at q;simp at q
 have hsome:∀ x,X.env.scope.names.lookup x=some .cell->(X.env.cells.lookup x).isSome=true:=fun x e=>by
  rw [hc];exact W.cellsFrom_some _ _ _ (.inl e)
 have sub:∀ x c,(zke X.env scope.names []).lookup x=some c->X.env.cells.lookup x=some c:=fun x c e=>by
  rcases zix (PySem.mem_of_lookup e) with q | ⟨q,ec⟩
  ·cases q
  ·obtain⟨c',hc'⟩:=isSome_iff_exists.mp (hsome x (hfree _ q rfl));rw [ec,hc'];rfl
 refine⟨zfo fun y hy e=>hsome y.1 (hfree y hy e),sub,hk,hcell,fun y hy e=>?_,fun x hx=>?_,fun j i x h1 h2=>?_,hl⟩
 ·have q:=(hs y hy).2;rw [e] at q;simpa using q
 ·have fin:(x,NameKind.free)∈scope.names->∃ c,(zke X.env scope.names []).lookup x=some c:=fun m=>by
   obtain⟨c,hm⟩:=zgw (env:=X.env) (acc:=[]) m;exact zcy hm
  rcases hx with hx | hx
  ·obtain⟨k',q,z⟩:=zdU (dsc:=[]) hx;rcases z with rfl | ⟨rfl,_⟩
   ·exact absurd rfl (hcell _ (PySem.mem_of_lookup q))
   ·exact fin (PySem.mem_of_lookup q)
  ·obtain⟨k',q,z⟩:=zdU (dsc:=[]) hx;rcases z with rfl | ⟨_,z⟩
   ·exact fin (PySem.mem_of_lookup q)
   ·cases z
 ·have hm:(some i,x)∈caps.zip N:=by
   have:(caps.zip N)[j]? = some (some i,x):=by rw [getElem?_zip_eq_some]; exact⟨h1,h2⟩
   exact mem_of_getElem? this
  have q:=hz _ hm;simp only [Bool.and_eq_true,beq_iff_eq] at q;obtain⟨⟨q1,q2⟩,q3⟩:=q;obtain⟨c,hmc⟩:=zgw (env:=X.env) (acc:=[]) (PySem.mem_of_lookup q3);obtain⟨c',hc'⟩:=zcy hmc;refine⟨q1,.inr (.inl q2),fun z=>?_,c',hc',.inl (zh1 hdk q2 q3)⟩;have z':X.env.scope.names.lookup x=some .local:=z;rw [q2] at z';cases z'
end
section
section
variable {X:Cx}
def ztA:R2:=fun x y H Q=>∃ z n,x=.str z/\y=.int n/\z.length<=1000/\n<=1000/\-1000<=n/\Q (.str (PySem.Txt.mul z n)) H
theorem zt7{z:Str}{n:Int}(h1:z.length<=1000)(h2:n<=1000)(h3:-1000<=n):PySem.MulOk z n:=by
 refine⟨by simp; omega,fun a _ b=>?_,fun a _=>?_⟩
 ·have e:(1000:Int)<=(2 ^ 63 - 1) / n:=by
   rw [Int.le_ediv_iff_mul_le (by omega)];have:=Int.mul_le_mul_of_nonneg_left h2 (show (0:Int)<=1000 by decide);omega
  omega
 ·have e:z.length*n.toNat<=1000*1000:=mul_le_mul h1 (by omega);unfold Builtin.Str.tooLong;simp only [decide_eq_false_iff_not,Nat.not_lt];exact le_trans e dz
theorem zr4:OpR X (binaryOp .Mult) ztA:=by
 intro zn s σ H x y v u Q I rx ry h;obtain⟨z,n,rfl,rfl,h1,h2,h3,q⟩:=h;obtain⟨t,rfl⟩:=rx;obtain⟨t',rfl⟩:=ry;exact PySem.SB.mul (zt7 h1 h2 h3) fun _ k=>⟨.str _,H,I.tok _,⟨_,rfl⟩,q⟩
def zvY:V->Option Int->Option Int->Hp->VK->Prop:=fun x lo hi H Q=>∃ z,x=.str z/\z.length<=sizeLine/\Q (.str (PySem.Txt.slice z lo hi)) H
theorem ztT:SlR X zvY:=by
 intro zn s σ H x v vl vu lo hi sl Q I rx hs pl pu h;obtain⟨z,rfl,hz,q⟩:=h;obtain⟨t,rfl⟩:=rx;refine⟨"str",_,F.slot_str_getitem.lookup,typeIs_str _ _ _,?_⟩;have fin:∀ (a b:Option (Int×Tok)),a.map (·.1)=lo->b.map (·.1)=hi->s.heap.IsSlice sl a b none->wpAny (model X.prog X.w) X.A (getItem (.str z t) (.ref sl)) (EP X zn σ Q) X.xe s:=fun a b e1 e2 hsl=>by
  subst e1 e2;exact wpAny_getItem_str_slice (l:=a) (u:=b) (st:=none) hsl rfl (post_val_or_str ⟨le_trans (PySem.Txt.slice_le z _ _) hz,fun _ k=>⟨.str _,H,I.tok _,⟨_,rfl⟩,q⟩⟩)
 cases pl with
 | none =>
  cases pu with
  | none=>exact fin none none rfl rfl hs
  | int j tj=>exact fin none (some (j,tj)) rfl rfl hs
 | int i ti =>
  cases pu with
  | none=>exact fin (some (i,ti)) none rfl rfl hs
  | int j tj=>exact fin (some (i,ti)) (some (j,tj)) rfl rfl hs
theorem zhT:∀ {zs:List Str} {us:List Value},Vals (zs.map V.str) us->StrsAre us zs
 | [],_,.nil=>.nil
 | z :: zs,_,.cons r t=>by
  obtain⟨tk,rfl⟩:=r;exact .cons z tk (zhT t)
def ztb(K:W.Frag):V->List V->Hp->VK->Prop:=fun x vs H Q=>∃ z a zs,x=.str z/\vs=[.ref a]/\SqL K H a (zs.map V.str)/\z.length<=16/\zs.length<=1000/\(∀ y∈zs,y.length<=1000)/\Q (.str (PySem.Txt.join z zs)) H
theorem zji{zs:List Str}(h:∀ y∈zs,y.length<=1000):(zs.map (·.length)).sum<=zs.length*1000:=by
 induction zs with
 | nil=>simp
 | cons z zs ih =>
  have h1:=h z mem_cons_self;have h2:=ih fun y hy=>h y (mem_cons_of_mem _ hy);simp only [map_cons,sum_cons,length_cons,Nat.add_mul,Nat.one_mul];omega
theorem zrB:MtR X "str.join" (ztb X.K):=by
 intro zn s σ H x vs v us Q I rx rv h;obtain⟨z,a,zs,rfl,rfl,hq,hz,hn,hl,q⟩:=h;obtain⟨t,rfl⟩:=rx;obtain⟨u,rfl,r1⟩:=rv.one;cases r1;obtain⟨its,r,pl,hsz⟩:=I.list hq;have hs:=zji hl;refine join_listW pl.isList (by simpa using zhT r) hz (by omega) fun _ k=>⟨.str _,H,I.tok _,⟨_,rfl⟩,q⟩
end
section
variable {K:W.Frag} {o:List Addr} {σ:St} {H0:Hp} {t:TE} {ta:TA} {ds:List PyData}
def zfb(lo:Int)(n:Nat):List PyData:=(List.range n).map fun k:Nat=>.int (lo+k)
theorem zap{lo:Int}{n:Nat}:(zfb lo n).length=n:=by simp [zfb]
theorem zbs{lo:Int}{n i:Nat}{d:PyData}(h:(zfb lo n)[i]? = some d):i<n/\d=.int (lo+i):=by
 have hi:i<n:=by
  have:=List.getElem?_eq_some_iff.mp h;obtain⟨hl,_⟩:=this
  rwa [zap] at hl
 refine⟨hi,?_⟩;simp only [zfb,getElem?_map,List.getElem?_range hi,map_some,Option.some.injEq] at h;exact h.symm
end
theorem zp2{y:Str}{zs:List Str}(hy:y.length<=16)(hz:∀ z∈zs,z.length<=1000):(PySem.Txt.join y zs).length<=zs.length*1016:=by
 show (Builtin.Str.glued y zs).length<=_;rw [StrLaws.glued_eq_join];cases zs with
 | nil=>exact zero_le _
 | cons a r =>
  rw [len_join_cons];have h1:=zji hz;have h2:r.length*y.length<=r.length*16:=Nat.mul_le_mul_left _ hy;simp only [length_cons] at h1 ⊢;omega
def zdJ{α:Type}(xs:List α)(lo hi:Option Int):List α:=(xs.drop (HT.sIx xs.length 0 lo)).take (HT.sIx xs.length xs.length hi - HT.sIx xs.length 0 lo)
theorem HasL.drop{H:Hp}:∀ {ds:List PyData} {vs:List V} (n:Nat),HasL H ds vs->HasL H (ds.drop n) (vs.drop n)
 | ds,vs,0,h=>h
 | [],vs,n+1,h=>by rw [zH.mp h]; exact zH.mpr rfl
 | d :: ds,vs,n+1,h=>by
  obtain⟨v,r,rfl,_,l⟩:=zC.mp h;exact HasL.drop n l
theorem HasL.take{H:Hp}:∀ {ds:List PyData} {vs:List V} (n:Nat),HasL H ds vs->HasL H (ds.take n) (vs.take n)
 | ds,vs,0,h=>zH.mpr rfl
 | [],vs,n+1,h=>by rw [zH.mp h]; exact zH.mpr rfl
 | d :: ds,vs,n+1,h=>by
  obtain⟨v,r,rfl,q,l⟩:=zC.mp h;exact zC.mpr ⟨v,_,rfl,q,HasL.take n l⟩
theorem HasL.cut{H:Hp}{ds:List PyData}{vs:List V}(lo hi:Option Int)(h:HasL H ds vs):HasL H (zdJ ds lo hi) (zlC vs lo hi):=by
 unfold zdJ zlC;rw [h.length];exact(h.drop _).take _
theorem HasL.rev{H:Hp}:∀ {ds:List PyData} {vs:List V},HasL H ds vs->HasL H ds.reverse vs.reverse
 | [],vs,h=>by rw [zH.mp h]; exact zH.mpr rfl
 | d :: ds,vs,h=>by
  obtain⟨v,r,rfl,q,l⟩:=zC.mp h;rw [reverse_cons,reverse_cons];exact(HasL.rev l).append (zC.mpr ⟨v,[],rfl,q,zH.mpr rfl⟩)
end
section
theorem zq5:∀ {l:List Addr} {H:Hp} {b:Addr} {u:HO},vw l H b=some u↔b∉l/\H b=some u
 | [],H,b,u=>by simp [vw]
 | a :: r,H,b,u=>by
  show hid a (vw r H) b=some u↔_;by_cases h:b=a
  ·subst h; simp [zpy]
  ·rw [zuG h,zq5]; simp [h]
def vx(h o:List Addr)(H:Hp):Hp:=vw (h++o) H
theorem zan{h o:List Addr}{H:Hp}{b:Addr}{u:HO}:vx h o H b=some u↔b∉h/\b∉o/\H b=some u:=by
 unfold vx;rw [zq5];simp [and_assoc]
theorem zaD{h o:List Addr}{H:Hp}:Same (vx h o H) H:=fun b u e=>(zan.mp e).2.2
theorem zeG{h o:List Addr}{H H':Hp}(s:Same H H'):Same (vx h o H) (vx h o H'):=fun b u e=>by
 obtain⟨h1,h2,h3⟩:=zan.mp e;exact zan.mpr ⟨h1,h2,s b u h3⟩
structure Ex(o:List Addr)(H:Hp)(o':List Addr)(H':Hp):Prop where
 pre:∃ r,o'=o++r
 kp:∀ b u,b∉o->H b=some u->b∉o'/\H' b=some u
section
variable {h o o' o'':List Addr} {H H' H'':Hp} {S:List (List PyData)} {p a:Addr}
theorem Ex.refl:Ex o H o H:=⟨⟨[],by simp⟩,fun _ _ a b=>⟨a,b⟩⟩
theorem Ex.trans(a:Ex o H o' H')(b:Ex o' H' o'' H''):Ex o H o'' H'':=by
 obtain⟨⟨r,e⟩,ka⟩:=a;obtain⟨⟨t,e'⟩,kb⟩:=b;refine⟨⟨r++t,by rw [e',e,append_assoc]⟩,fun b u h1 h2=>?_⟩;obtain⟨h3,h4⟩:=ka b u h1 h2;exact kb b u h3 h4
theorem Ex.vx(e:Ex o H o' H'):Same (L2.vx h o H) (L2.vx h o' H'):=fun b u q=>by
 obtain⟨h1,h2,h3⟩:=zan.mp q;obtain⟨h4,h5⟩:=e.kp b u h2 h3;exact zan.mpr ⟨h1,h4,h5⟩
structure ExH(h o:List Addr)(H:Hp)(o':List Addr)(H':Hp):Prop where
 pre:∃ r,o'=o++r
 kp:∀ b u,b∉h->b∉o->H b=some u->b∉o'/\H' b=some u
theorem Ex.hid(e:Ex o H o' H'):ExH h o H o' H':=⟨e.pre,fun b u _=>e.kp b u⟩
theorem ExH.refl:ExH h o H o H:=Ex.refl.hid
theorem ExH.trans(a:ExH h o H o' H')(b:ExH h o' H' o'' H''):ExH h o H o'' H'':=by
 obtain⟨⟨r,e⟩,ka⟩:=a;obtain⟨⟨t,e'⟩,kb⟩:=b;refine⟨⟨r++t,by rw [e',e,append_assoc]⟩,fun b u h0 h1 h2=>?_⟩;obtain⟨h3,h4⟩:=ka b u h0 h1 h2;exact kb b u h0 h3 h4
theorem ExH.vx(e:ExH h o H o' H'):Same (L2.vx h o H) (L2.vx h o' H'):=fun b u q=>by
 obtain⟨h1,h2,h3⟩:=zan.mp q;obtain⟨h4,h5⟩:=e.kp b u h1 h2 h3;exact zan.mpr ⟨h1,h4,h5⟩
theorem Ex.of_same(s:Same H H'):Ex o H o H':=⟨⟨[],by simp⟩,fun b u h e=>⟨h,s b u e⟩⟩
theorem zdX{α:Type}{l t:List α}{k:Nat}{a:α}(q:l[k]? = some a):(l++t)[k]? = some a:=by
 obtain⟨hk,_⟩:=List.getElem?_eq_some_iff.mp q;rw [getElem?_append_left hk];exact q
def exO(a C:Addr)(d:Option Addr):HO:=.ext fun h=>∃ o,h.get? a=some o/\o.cls=.ref C/\o.dict=d/\∃ vs,o.data=.fields vs
def xw(dx:Addr)(fs:List (Str×V)):HO:=.ext fun h=>∃ mA,h.Ns1 dx mA/\(∀ f,RelO (fs.lookup f) (mA f))/\PySem.Within mA (fs.map (·.1))
def HasE(H:Hp)(C:Addr)(fs:List (Str×PyData))(v:V):Prop:=∃ a d,v=.ref a/\H a=some (exO a C d)/\∀ f dt,fs.lookup f=some dt->∃ dx vs u,d=some dx/\H dx=some (xw dx vs)/\vs.lookup f=some u/\Has H dt u
theorem HasE.mono{H H':Hp}{C:Addr}{fs:List (Str×PyData)}{v:V}(s:Same H H')(q:HasE H C fs v):HasE H' C fs v:=by
 obtain⟨a,d,e,ha,hf⟩:=q;refine⟨a,d,e,s _ _ ha,fun f dt l=>?_⟩;obtain⟨dx,vs,u,e1,e2,e3,e4⟩:=hf f dt l;exact⟨dx,vs,u,e1,s _ _ e2,e3,Has.mono s _ _ e4⟩
inductive XV where
 | d (d:PyData)
 | l (k:Nat)
 | o (v:V)
 | x (C:Addr) (fs:List (Str×PyData))
def HasX(h o:List Addr)(H:Hp):XV->V->Prop
 | .d d,v=>Has (vx h o H) d v
 | .l k,v=>∃ a,o[k]? = some a/\v=.ref a
 | .o w,v=>v=w
 | .x C fs,v=>HasE (vx h o H) C fs v
theorem HasX.mono(e:Ex o H o' H'):∀ {x:XV} {v:V},HasX h o H x v->HasX h o' H' x v
 | .d d,v,q=>Has.mono e.vx d v q
 | .l k,v,⟨a,q,r⟩=>by
  obtain⟨t,rfl⟩:=e.pre;exact⟨a,zdX q,r⟩
 | .o w,v,q=>q
 | .x C fs,v,q=>HasE.mono e.vx q
def HasXs(h o:List Addr)(H:Hp):List XV->List V->Prop
 | [],vs=>vs=[]
 | x :: xs,vs=>∃ v r,vs=v :: r/\HasX h o H x v/\HasXs h o H xs r
theorem HasXs.mono(e:Ex o H o' H'):∀ {xs:List XV} {vs:List V},HasXs h o H xs vs->HasXs h o' H' xs vs
 | [],_,q=>q
 | x :: xs,vs,⟨v,r,e1,q,l⟩=>⟨v,r,e1,q.mono e,HasXs.mono e l⟩
abbrev Sto:=List (List PyData)
inductive MO where
 | l (vs:List V)
 | k (m:List (Key×V))
 | t (m:List (List Key×V))
def MO.ho:MO->HO
 | .l vs=>.lst vs
 | .k m=>.dK m
 | .t m=>.dT m
structure RepS(h o:List Addr)(H:Hp)(S:Sto):Prop where
 len:S.length=o.length
 nd:o.Nodup
 dis:∀ a∈o,a∉h
 hal:∀ b∈h,∃ u:MO,H b=some u.ho
 cont:∀ (k:Nat) (a:Addr) (ds:List PyData),o[k]? = some a->S[k]? = some ds->∃ vs,H a=some (.lst vs)/\HasL (vx h o H) ds vs
theorem zo9{α β:Type}{l:List α}{t:List β}{k:Nat}{a:α}(hl:t.length=l.length)(q:l[k]? = some a):∃ b,t[k]? = some b:=by
 obtain⟨hk,_⟩:=List.getElem?_eq_some_iff.mp q;exact⟨t[k]'(by omega),getElem?_eq_getElem _⟩
theorem RepS.oal(r:RepS h o H S):∀ a∈o,∃ u,H a=some (.lst u):=fun a ha=>by
 obtain⟨k,hk⟩:=mem_iff_getElem?.mp ha;obtain⟨ds,e⟩:=zo9 r.len hk;obtain⟨vs,e',_⟩:=r.cont k a ds hk e;exact⟨_,e'⟩
theorem RepS.oam(r:RepS h o H S):∀ a∈o,∃ u:MO,H a=some u.ho:=fun a ha=>let ⟨u,e⟩:=r.oal a ha; ⟨.l u,e⟩
theorem RepS.fresh(r:RepS h o H S)(hp:H p=none):p∉h/\p∉o:=by
 constructor
 ·intro m;obtain⟨u,e⟩:=r.hal p m;rw [hp] at e;cases e
 ·intro m;obtain⟨u,e⟩:=r.oal p m;rw [hp] at e;cases e
theorem RepS.same(r:RepS h o H S)(s:Same H H'):RepS h o H' S where
 len:=r.len
 nd:=r.nd
 dis:=r.dis
 hal:=fun b m=>by obtain⟨u,e⟩:=r.hal b m; exact⟨u,s b _ e⟩
 cont:=fun k a ds e1 e2=>by
  obtain⟨vs,e3,l⟩:=r.cont k a ds e1 e2;exact⟨vs,s _ _ e3,HasL.mono (zeG s) _ _ l⟩
theorem RepS.laid{u:HO}(r:RepS h o H S)(hp:H p=none):vx h o (upd H p u) p=some u:=by
 obtain⟨h1,h2⟩:=r.fresh hp;exact zan.mpr ⟨h1,h2,zau⟩
theorem Ex.new{u:HO}(r:RepS h o H S)(hp:H p=none):Ex o H (o++[p]) (upd H p u):=by
 refine⟨⟨[p],rfl⟩,fun b w hb e=>?_⟩;have ne:b≠p:=zQ e hp;exact⟨by simp [hb,ne],by rw [zR ne]; exact e⟩
theorem zcD{α:Type}{l:List α}{a:α}(h:l.Nodup)(n:a∉l):(l++[a]).Nodup:=by
 rw [nodup_append];refine⟨h,by simp,fun x hx y hy e=>?_⟩;rw [mem_singleton] at hy;subst hy;subst e;exact n hx
theorem RepS.new{ds:List PyData}{vs:List V}(r:RepS h o H S)(hp:H p=none)(l:HasL (vx h o H) ds vs):RepS h (o++[p]) (upd H p (.lst vs)) (S++[ds]):=by
 obtain⟨h1,h2⟩:=r.fresh hp;have ex:Ex o H (o++[p]) (upd H p (.lst vs)):=Ex.new r hp;refine⟨by simp [r.len],zcD r.nd h2,fun a ha=>?_,fun b hb=>?_,fun k a es e1 e2=>?_⟩
 ·rcases mem_append.mp ha with ha | ha
  ·exact r.dis a ha
  ·rw [mem_singleton.mp ha]; exact h1
 ·obtain⟨u,e⟩:=r.hal b hb;exact⟨u,by rw [zR (zQ e hp)]; exact e⟩
 ·by_cases hk:k<o.length
  ·rw [getElem?_append_left hk] at e1;rw [getElem?_append_left (by rw [r.len]; exact hk)] at e2;obtain⟨ws,e3,l3⟩:=r.cont k a es e1 e2;refine⟨ws,?_,l3.mono ex.vx⟩;rw [zR (zQ e3 hp)];exact e3
  ·have hk':k=o.length:=by
    obtain⟨q,_⟩:=List.getElem?_eq_some_iff.mp e1;rw [length_append,length_singleton] at q;omega
   subst hk';rw [getElem?_concat_length] at e1;rw [<- r.len,getElem?_concat_length] at e2;cases e1;cases e2;exact⟨vs,zau,l.mono ex.vx⟩
theorem Ex.upd{k:Nat}{u:HO}(e:o[k]? = some a):Ex o H o (L2.upd H a u) :=
 ⟨⟨[],by simp⟩,fun b w hb eb=>⟨hb,by rw [zR (fun z=>hb (by rw [z]; exact mem_of_getElem? e))]; exact eb⟩⟩
theorem zff{l:List Addr}(h:l.Nodup){i j:Nat}{a:Addr}(e1:l[i]? = some a)(e2:l[j]? = some a):i=j:=by
 obtain⟨hi,e1⟩:=List.getElem?_eq_some_iff.mp e1;obtain⟨hj,e2⟩:=List.getElem?_eq_some_iff.mp e2;exact(List.getElem_inj h).mp (e1.trans e2.symm)
theorem RepS.upd{k:Nat}{ds:List PyData}{vs:List V}(r:RepS h o H S)(e:o[k]? = some a)(l:HasL (vx h o H) ds vs):RepS h o (L2.upd H a (.lst vs)) (S.set k ds):=by
 have ex:Ex o H o (L2.upd H a (.lst vs)):=Ex.upd e;refine⟨by simp [r.len],r.nd,r.dis,fun b hb=>?_,fun j b es e1 e2=>?_⟩
 ·obtain⟨u,eb⟩:=r.hal b hb;have ne:b≠a:=fun z=>r.dis a (mem_of_getElem? e) (z▸hb);exact⟨u,by rw [zR ne]; exact eb⟩
 ·by_cases hj:j=k
  ·subst hj;rw [e1] at e;cases e;obtain⟨hk,_⟩:=List.getElem?_eq_some_iff.mp e1;rw [getElem?_set_self (by rw [r.len]; exact hk)] at e2;cases e2;exact⟨vs,zau,l.mono ex.vx⟩
  ·rw [getElem?_set_ne (Ne.symm hj)] at e2;obtain⟨ws,e3,l3⟩:=r.cont j b es e1 e2;have ne:b≠a:=fun z=>hj (zff r.nd e1 (z▸e));exact⟨ws,by rw [zR ne]; exact e3,l3.mono ex.vx⟩
abbrev XE:=List (Option XV)
structure RepE(h o:List Addr)(H:Hp)(δ:XE)(σ:St):Prop where
 len:δ.length=σ.length
 get:∀ (i:Nat) x,δ[i]? = some (some x)->∃ v,σ[i]? = some (some v)/\HasX h o H x v
variable {δ:XE} {σ:St}
theorem RepE.mono(r:RepE h o H δ σ)(e:Ex o H o' H'):RepE h o' H' δ σ:=⟨r.len,fun i x q=>by
 obtain⟨v,e1,e2⟩:=r.get i x q;exact⟨v,e1,e2.mono e⟩⟩
theorem RepE.set{i:Nat}{x:XV}{v:V}(r:RepE h o H δ σ)(q:HasX h o H x v):RepE h o H (δ.set i (some x)) (σ.set i (some v)):=by
 refine⟨by simp [r.len],fun j y e=>?_⟩;rw [List.getElem?_set] at e ⊢;by_cases hij:i=j
 ·rw [if_pos hij] at e ⊢;by_cases hl:i<δ.length
  ·rw [if_pos hl] at e;rw [if_pos (by rw [<- r.len]; exact hl)];cases e;exact⟨v,rfl,q⟩
  ·rw [if_neg hl] at e;cases e
 ·rw [if_neg hij] at e ⊢;exact r.get j y e
def zo1(caps:List (Option Nat))(δ:XE):XE:=caps.map fun o=>o.bind fun i=>(δ[i]?).join
theorem RepE.tau{caps:List (Option Nat)}(r:RepE h o H δ σ):RepE h o H (zo1 caps δ) (L2.tau caps σ):=by
 refine⟨by simp [zo1,L2.tau],fun i x e=>?_⟩;unfold zo1 at e;unfold L2.tau;rw [getElem?_map] at e ⊢;cases hc:caps[i]? with
 | none=>rw [hc] at e; cases e
 | some c =>
  rw [hc] at e;cases c with
  | none=>cases e
  | some j =>
   have e':(δ[j]?).join=some x:=by simpa using e
   have e2:δ[j]? = some (some x):=by
    cases hd:δ[j]? with
    | none=>rw [hd] at e'; cases e'
    | some y=>rw [hd] at e'; exact congrArg some (by simpa using e')
   obtain⟨v,e3,e4⟩:=r.get j x e2;exact⟨v,by simp [e3],e4⟩
end
abbrev RX:=XV->Sto->Prop
abbrev DE:=XE->Sto->RX->Prop
abbrev DT:=XE->Sto->(Bool->Sto->Prop)->Prop
abbrev DA:=XE->Sto->(List XV->Sto->Prop)->Prop
abbrev D2:=XV->XV->Sto->RX->Prop
def Cn(h o:List Addr)(H:Hp)(R:RX)(Q:VK):Prop:=∀ o' H' S' x v,Ex o H o' H'->RepS h o' H' S'->HasX h o' H' x v->R x S'->Q v H'
theorem Cn.pre{h o o':List Addr}{H H':Hp}{R:RX}{Q:VK}(c:Cn h o H R Q)(e:Ex o H o' H'):Cn h o' H' R Q:=fun o2 H2 S2 x v e2=>c o2 H2 S2 x v (e.trans e2)
def RE(t:TE)(dt:DE):Prop:=∀ (h o:List Addr) (H:Hp) (δ:XE) (σ:St) (S:Sto) (R:RX) (Q:VK),RepE h o H δ σ->RepS h o H S->dt δ S R->Cn h o H R Q->t σ H Q
def RT(t:TT)(dt:DT):Prop:=∀ (h o:List Addr) (H:Hp) (δ:XE) (σ:St) (S:Sto) (R:Bool->Sto->Prop) (Q:Bool->Hp->Prop),RepE h o H δ σ->RepS h o H S->dt δ S R ->
 (∀ o' H' S' b,Ex o H o' H'->RepS h o' H' S'->R b S'->Q b H')->t σ H Q
def RA(t:TA)(dt:DA):Prop:=∀ (h o:List Addr) (H:Hp) (δ:XE) (σ:St) (S:Sto) (R:List XV->Sto->Prop) (Q:List V->Hp->Prop),RepE h o H δ σ->RepS h o H S->dt δ S R ->
 (∀ o' H' S' xs vs,Ex o H o' H'->RepS h o' H' S'->HasXs h o' H' xs vs->R xs S'->Q vs H')->t σ H Q
def RO(r:R2)(rd:D2):Prop:=∀ (h o:List Addr) (H:Hp) (S:Sto) (x y:XV) (v u:V) (R:RX) (Q:VK),RepS h o H S->HasX h o H x v->HasX h o H y u->rd x y S R->Cn h o H R Q->r v u H Q
def RU(r:V->Hp->VK->Prop)(rd:XV->Sto->RX->Prop):Prop:=∀ (h o:List Addr) (H:Hp) (S:Sto) (x:XV) (v:V) (R:RX) (Q:VK),RepS h o H S->HasX h o H x v->rd x S R->Cn h o H R Q->r v H Q
def RC(r:List V->Hp->VK->Prop)(rd:List XV->Sto->RX->Prop):Prop:=∀ (h o:List Addr) (H:Hp) (S:Sto) (xs:List XV) (vs:List V) (R:RX) (Q:VK),RepS h o H S->HasXs h o H xs vs->rd xs S R->Cn h o H R Q->r vs H Q
def asI:XV->(Int->Prop)->Prop
 | .d (.int i),k=>k i
 | _,_=>False
def asB:XV->(Bool->Prop)->Prop
 | .d (.bool i),k=>k i
 | _,_=>False
def asS:XV->(Str->Prop)->Prop
 | .d (.str i),k=>k i
 | _,_=>False
def asT:XV->(List PyData->Prop)->Prop
 | .d (.tuple i),k=>k i
 | _,_=>False
def zn1(S:Sto):XV->Option (List PyData)
 | .d (.list ds)=>some ds
 | .l k=>S[k]?
 | _=>none
def asL(S:Sto)(x:XV)(k:List PyData->Prop):Prop:=∃ ds,zn1 S x=some ds/\k ds
def zi4(S:Sto):XV->Option PyData
 | .d d=>some d
 | .l k=>(S[k]?).map .list
 | .o _=>none
 | .x _ _=>none
def asD(x:XV)(k:PyData->Prop):Prop:=match x with
 | .d d=>k d
 | _=>False
theorem zbp{x:XV}{k:Int->Prop}(h:asI x k):∃ i,x=.d (.int i)/\k i:=by
 unfold asI at h;split at h
 ·exact⟨_,rfl,h⟩
 ·exact h.elim
theorem zha{x:XV}{k:Bool->Prop}(h:asB x k):∃ i,x=.d (.bool i)/\k i:=by
 unfold asB at h;split at h
 ·exact⟨_,rfl,h⟩
 ·exact h.elim
theorem zqi{x:XV}{k:Str->Prop}(h:asS x k):∃ i,x=.d (.str i)/\k i:=by
 unfold asS at h;split at h
 ·exact⟨_,rfl,h⟩
 ·exact h.elim
theorem zem{x:XV}{k:List PyData->Prop}(h:asT x k):∃ i,x=.d (.tuple i)/\k i:=by
 unfold asT at h;split at h
 ·exact⟨_,rfl,h⟩
 ·exact h.elim
theorem ze9{x:XV}{k:PyData->Prop}(h:asD x k):∃ i,x=.d i/\k i:=by
 unfold asD at h;split at h
 ·exact⟨_,rfl,h⟩
 ·exact h.elim
section
variable {h o:List Addr} {H:Hp} {S:Sto} {x:XV} {v:V} {i:Int} {b:Bool} {z:Str} {ds:List PyData} {d:PyData}
theorem za1(q:HasX h o H (.d (.int i)) v):v=.int i:=(zcG (H:=vx h o H)).mp q
theorem zdg(q:HasX h o H (.d (.bool b)) v):v=.bl b:=(zd5 (H:=vx h o H)).mp q
theorem zeY(q:HasX h o H (.d (.str z)) v):v=.str z:=(zeA (H:=vx h o H)).mp q
theorem zcQ(q:HasX h o H (.d (.tuple ds)) v):∃ a vs,v=.ref a/\H a=some (.tup vs)/\HasL (vx h o H) ds vs:=by
 obtain⟨a,vs,e,q,l⟩:=zaP.mp (show Has _ _ _ from q);exact⟨a,vs,e,zaD _ _ q,l⟩
theorem zbt(r:RepS h o H S)(e:zn1 S x=some ds)(q:HasX h o H x v):∃ a vs,v=.ref a/\H a=some (.lst vs)/\HasL (vx h o H) ds vs:=by
 unfold zn1 at e;split at e
 ·cases e;obtain⟨a,vs,e,q,l⟩:=za5.mp (show Has _ _ _ from q);exact⟨a,vs,e,zaD _ _ q,l⟩
 ·obtain⟨a,e1,rfl⟩:=q;obtain⟨vs,e2,l⟩:=r.cont _ a ds e1 e;exact⟨a,vs,rfl,e2,l⟩
 ·cases e
theorem zg0(r:RepS h o H S)(e:zi4 S x=some d)(q:HasX h o H x v):Has H d v:=by
 unfold zi4 at e;split at e
 ·cases e;exact Has.mono zaD _ _ q
 ·rename_i k;obtain⟨a,e1,rfl⟩:=q;cases hs:S[k]? with
  | none=>rw [hs] at e; cases e
  | some es =>
   rw [hs] at e;cases e;obtain⟨vs,e2,l⟩:=r.cont k a es e1 hs;exact za5.mpr ⟨a,vs,rfl,e2,HasL.mono zaD _ _ l⟩
 ·cases e
 ·cases e
theorem xI(i:Int):HasX h o H (.d (.int i)) (.int i):=(zcG (H:=vx h o H)).mpr rfl
theorem xB(i:Bool):HasX h o H (.d (.bool i)) (.bl i):=(zd5 (H:=vx h o H)).mpr rfl
theorem xS(i:Str):HasX h o H (.d (.str i)) (.str i):=(zeA (H:=vx h o H)).mpr rfl
theorem xN:HasX h o H (.d .none) .non:=(zfm (H:=vx h o H)).mpr rfl
theorem zn7{vs:List V}{R:RX}{Q:VK}(r:RepS h o H S)(l:HasL (vx h o H) ds vs)(c:Cn h o H R Q)(q:R (.d (.tuple ds)) S):∀ p,H p=none->Q (.ref p) (upd H p (.tup vs)):=fun p hp =>
 c o _ S (.d (.tuple ds)) _ (Ex.of_same (Same.laid hp)) (r.same (Same.laid hp)) (zaP.mpr ⟨p,vs,rfl,r.laid hp,l.mono (zeG (Same.laid hp))⟩) q
theorem zmn{vs:List V}{R:RX}{Q:VK}(r:RepS h o H S)(l:HasL (vx h o H) ds vs)(c:Cn h o H R Q)(q:R (.d (.list ds)) S):∀ p,H p=none->Q (.ref p) (upd H p (.lst vs)):=fun p hp =>
 c o _ S (.d (.list ds)) _ (Ex.of_same (Same.laid hp)) (r.same (Same.laid hp)) (za5.mpr ⟨p,vs,rfl,r.laid hp,l.mono (zeG (Same.laid hp))⟩) q
theorem zrJ{vs:List V}{R:RX}{Q:VK}(r:RepS h o H S)(l:HasL (vx h o H) ds vs)(c:Cn h o H R Q)(q:R (.l S.length) (S++[ds])):∀ p,H p=none->Q (.ref p) (upd H p (.lst vs)):=fun p hp =>
 c (o++[p]) _ (S++[ds]) (.l S.length) _ (Ex.new r hp) (r.new hp l) ⟨p,by rw [r.len,getElem?_concat_length],rfl⟩ q
theorem zgr:∀ {xs:List XV} {vs:List V} {ds:List PyData},HasXs h o H xs vs->xs=ds.map XV.d->HasL (vx h o H) ds vs
 | [],vs,[],q,_=>zH.mpr q
 | x :: xs,vs,d :: ds,⟨v,r,e,q,l⟩,e2=>by
  rw [map_cons] at e2;cases e2;exact zC.mpr ⟨v,r,e,q,zgr l rfl⟩
 | x :: xs,vs,[],_,e2=>by cases e2
 | [],vs,d :: ds,_,e2=>by cases e2
end
def datas:List XV->Option (List PyData)
 | []=>some []
 | .d d :: r=>(datas r).map (d :: ·)
 | _ :: _=>none
theorem zdn:∀ {xs:List XV} {ds:List PyData},datas xs=some ds->xs=ds.map XV.d
 | [],ds,e=>by cases e; rfl
 | .d d :: r,ds,e=>by
  unfold datas at e;cases hr:datas r with
  | none=>rw [hr] at e; cases e
  | some es =>
   rw [hr] at e;cases e;rw [zdn hr];rfl
 | .l _ :: _,_,e=>by cases e
 | .o _ :: _,_,e=>by cases e
 | .x _ _ :: _,_,e=>by cases e
def zg(i:Nat):DE:=fun δ S R=>∃ x,δ[i]? = some (some x)/\R x S
def dC(d:PyData):DE:=fun _ S R=>R (.d d) S
def dO(v:V):DE:=fun _ S R=>R (.o v) S
def dOp(rd:D2)(a b:DE):DE:=fun δ S R=>a δ S fun x S1=>b δ S1 fun y S2=>rd x y S2 R
def dUn(rd:XV->Sto->RX->Prop)(a:DE):DE:=fun δ S R=>a δ S fun x S1=>rd x S1 R
def zo:DA:=fun _ S R=>R [] S
def zc(a:DE)(b:DA):DA:=fun δ S R=>a δ S fun x S1=>b δ S1 fun xs S2=>R (x :: xs) S2
def dCB(rd:List XV->Sto->RX->Prop)(a:DA):DE:=fun δ S R=>a δ S fun xs S1=>rd xs S1 R
def zc2(a:DA):DE:=fun δ S R=>a δ S fun xs S1=>∃ ds,datas xs=some ds/\ds.length<=1000/\R (.d (.tuple ds)) S1
def zc4(a:DA):DE:=fun δ S R=>a δ S fun xs S1=>∃ ds,datas xs=some ds/\ds.length<=1000/\R (.d (.list ds)) S1
def zdt(a:DA):DE:=fun δ S R=>a δ S fun xs S1=>∃ ds,datas xs=some ds/\ds.length<=1000/\R (.l S1.length) (S1++[ds])
section
variable {t ta tb tc:TE} {da db dc:DE} {tl:TA} {dl:DA} {tt tu:TT} {dt du:DT}
theorem zk{i:Nat}:RE (zna i) (zg i):=fun h o H δ σ S R Q he hs ⟨x,e,q⟩ c=>by
 obtain⟨v,e1,e2⟩:=he.get i x e;exact⟨v,e1,c o H S x v Ex.refl hs e2 q⟩
theorem zT{i:Int}:RE (tC (.int i)) (dC (.int i)):=fun h o H δ σ S R Q he hs q c=>c o H S _ _ Ex.refl hs (xI i) q
theorem zgA{i:Bool}:RE (tC (.bl i)) (dC (.bool i)):=fun h o H δ σ S R Q he hs q c=>c o H S _ _ Ex.refl hs (xB i) q
theorem zm2{i:Str}:RE (tC (.str i)) (dC (.str i)):=fun h o H δ σ S R Q he hs q c=>c o H S _ _ Ex.refl hs (xS i) q
theorem zt5:RE (tC .non) (dC .none):=fun h o H δ σ S R Q he hs q c=>c o H S _ _ Ex.refl hs xN q
theorem zvR{v:V}:RE (tC v) (dO v):=fun h o H δ σ S R Q he hs q c=>c o H S (.o v) v Ex.refl hs rfl q
theorem zaj{r:R2}{rd:D2}(hr:RO r rd)(ha:RE ta da)(hb:RE tb db):RE (tOp r ta tb) (dOp rd da db):=fun h o H δ σ S R Q he hs q c =>
 ha h o H δ σ S _ _ he hs q fun o1 H1 S1 x v e1 s1 x1 d1=>hb h o1 H1 δ σ S1 _ _ (he.mono e1) s1 d1 fun o2 H2 S2 y u e2 s2 y2 d2 =>
  hr h o2 H2 S2 x y v u R Q s2 (x1.mono e2) y2 d2 (c.pre (e1.trans e2))
theorem zuz{r:V->Hp->VK->Prop}{rd:XV->Sto->RX->Prop}(hr:RU r rd)(ha:RE ta da):RE (tUn r ta) (dUn rd da):=fun h o H δ σ S R Q he hs q c =>
 ha h o H δ σ S _ _ he hs q fun o1 H1 S1 x v e1 s1 x1 d1=>hr h o1 H1 S1 x v R Q s1 x1 d1 (c.pre e1)
theorem zA:RA zrY zo:=fun h o H δ σ S R Q he hs q c=>c o H S [] [] Ex.refl hs rfl q
theorem zh(ha:RE ta da)(hb:RA tl dl):RA (ziZ ta tl) (zc da dl):=fun h o H δ σ S R Q he hs q c =>
 ha h o H δ σ S _ _ he hs q fun o1 H1 S1 x v e1 s1 x1 d1=>hb h o1 H1 δ σ S1 _ _ (he.mono e1) s1 d1 fun o2 H2 S2 xs vs e2 s2 x2 d2 =>
  c o2 H2 S2 (x :: xs) (v :: vs) (e1.trans e2) s2 ⟨v,vs,rfl,x1.mono e2,x2⟩ d2
theorem zct{r:List V->Hp->VK->Prop}{rd:List XV->Sto->RX->Prop}(hr:RC r rd)(ha:RA tl dl):RE (tCB r tl) (dCB rd dl):=fun h o H δ σ S R Q he hs q c =>
 ha h o H δ σ S _ _ he hs q fun o1 H1 S1 xs vs e1 s1 x1 d1=>hr h o1 H1 S1 xs vs R Q s1 x1 d1 (c.pre e1)
theorem zhp(ha:RA tl dl):RE (zvU tl) (zc2 dl):=fun h o H δ σ S R Q he hs q c =>
 ha h o H δ σ S _ _ he hs q fun o1 H1 S1 xs vs e1 s1 x1 ⟨ds,e,hl,d1⟩=>by
  have l:=zgr x1 (zdn e);exact⟨by rw [l.length]; exact le_of_lt (small1000 hl),zn7 s1 l (c.pre e1) d1⟩
theorem znM(ha:RA tl dl):RE (zsF tl) (zc4 dl):=fun h o H δ σ S R Q he hs q c =>
 ha h o H δ σ S _ _ he hs q fun o1 H1 S1 xs vs e1 s1 x1 ⟨ds,e,hl,d1⟩=>by
  have l:=zgr x1 (zdn e);exact⟨by rw [l.length]; exact le_of_lt (small1000 hl),zmn s1 l (c.pre e1) d1⟩
theorem zsk(ha:RA tl dl):RE (zsF tl) (zdt dl):=fun h o H δ σ S R Q he hs q c =>
 ha h o H δ σ S _ _ he hs q fun o1 H1 S1 xs vs e1 s1 x1 ⟨ds,e,hl,d1⟩=>by
  have l:=zgr x1 (zdn e);exact⟨by rw [l.length]; exact le_of_lt (small1000 hl),zrJ s1 l (c.pre e1) d1⟩
def dB(a:DE):DT:=fun δ S R=>a δ S fun x S1=>asB x fun b=>R b S1
def zet(a:DT):DT:=fun δ S R=>a δ S fun b S1=>R (!b) S1
def zuX(a b:DT):DT:=fun δ S R=>a δ S fun x S1=>if x=true then b δ S1 R else R false S1
def dOr(a b:DT):DT:=fun δ S R=>a δ S fun x S1=>if x=true then R true S1 else b δ S1 R
def ze2(a b:DE):DE:=fun δ S R=>a δ S fun x S1=>asB x fun c=>if c=true then b δ S1 R else R (.d (.bool false)) S1
def zsJ(a b:DE):DE:=fun δ S R=>a δ S fun x S1=>asB x fun c=>if c=true then R (.d (.bool true)) S1 else b δ S1 R
def zoh(a:DE):DE:=fun δ S R=>a δ S fun x S1=>asB x fun c=>R (.d (.bool (!c))) S1
def dIf(c:DT)(a b:DE):DE:=fun δ S R=>c δ S fun x S1=>if x=true then a δ S1 R else b δ S1 R
theorem zu6(ha:RE ta da):RT (znq ta) (dB da):=fun h o H δ σ S R Q he hs q c =>
 ha h o H δ σ S _ _ he hs q fun o1 H1 S1 x v e1 s1 x1 d1=>by
  replace d1:=zha d1;obtain⟨b,rfl,d1⟩:=d1;exact⟨b,zdg x1,c o1 H1 S1 b e1 s1 d1⟩
theorem zf6(ha:RT tt dt):RT (zvz tt) (zet dt):=fun h o H δ σ S R Q he hs q c =>
 ha h o H δ σ S _ _ he hs q fun o1 H1 S1 b e1 s1 d1=>c o1 H1 S1 _ e1 s1 d1
theorem ztq(ha:RT tt dt)(hb:RT tu du):RT (zv1 tt tu) (zuX dt du):=fun h o H δ σ S R Q he hs q c =>
 ha h o H δ σ S _ _ he hs q fun o1 H1 S1 b e1 s1 d1=>by
  cases b with
  | true=>exact zmt (hb h o1 H1 δ σ S1 R Q (he.mono e1) s1 (by simpa using d1) fun o2 H2 S2 b e2=>c o2 H2 S2 b (e1.trans e2))
  | false=>exact zmu (c o1 H1 S1 false e1 s1 (by simpa using d1))
theorem zvD(ha:RT tt dt)(hb:RT tu du):RT (tOr tt tu) (dOr dt du):=fun h o H δ σ S R Q he hs q c =>
 ha h o H δ σ S _ _ he hs q fun o1 H1 S1 b e1 s1 d1=>by
  cases b with
  | false=>exact zmu (hb h o1 H1 δ σ S1 R Q (he.mono e1) s1 (by simpa using d1) fun o2 H2 S2 b e2=>c o2 H2 S2 b (e1.trans e2))
  | true=>exact zmt (c o1 H1 S1 true e1 s1 (by simpa using d1))
theorem zjz(ha:RE ta da)(hb:RE tb db):RE (zt9 ta tb) (ze2 da db):=fun h o H δ σ S R Q he hs q c =>
 ha h o H δ σ S _ _ he hs q fun o1 H1 S1 x v e1 s1 x1 d1=>by
  replace d1:=zha d1;obtain⟨b,rfl,d1⟩:=d1;refine⟨b,zdg x1,?_⟩;cases b with
  | true=>exact zmt (hb h o1 H1 δ σ S1 R Q (he.mono e1) s1 (by simpa using d1) (c.pre e1))
  | false=>exact zmu (c o1 H1 S1 _ _ e1 s1 (xB false) (by simpa using d1))
theorem zvA(ha:RE ta da)(hb:RE tb db):RE (zv3 ta tb) (zsJ da db):=fun h o H δ σ S R Q he hs q c =>
 ha h o H δ σ S _ _ he hs q fun o1 H1 S1 x v e1 s1 x1 d1=>by
  replace d1:=zha d1;obtain⟨b,rfl,d1⟩:=d1;refine⟨b,zdg x1,?_⟩;cases b with
  | false=>exact zmu (hb h o1 H1 δ σ S1 R Q (he.mono e1) s1 (by simpa using d1) (c.pre e1))
  | true=>exact zmt (c o1 H1 S1 _ _ e1 s1 (xB true) (by simpa using d1))
theorem zuw(ha:RE ta da):RE (ztK ta) (zoh da):=fun h o H δ σ S R Q he hs q c =>
 ha h o H δ σ S _ _ he hs q fun o1 H1 S1 x v e1 s1 x1 d1=>by
  replace d1:=zha d1;obtain⟨b,rfl,d1⟩:=d1;exact⟨b,zdg x1,c o1 H1 S1 _ _ e1 s1 (xB _) d1⟩
theorem zvh(hc:RT tt dt)(ha:RE ta da)(hb:RE tb db):RE (tIf tt ta tb) (dIf dt da db):=fun h o H δ σ S R Q he hs q c =>
 hc h o H δ σ S _ _ he hs q fun o1 H1 S1 b e1 s1 d1=>by
  cases b with
  | true=>exact zmt (ha h o1 H1 δ σ S1 R Q (he.mono e1) s1 (by simpa using d1) (c.pre e1))
  | false=>exact zmu (hb h o1 H1 δ σ S1 R Q (he.mono e1) s1 (by simpa using d1) (c.pre e1))
def zfR(rd rd':D2)(a b e:DE):DE:=fun δ S R=>a δ S fun x S1=>b δ S1 fun y S2=>rd x y S2 fun z S3=>asB z fun k=>if k=true then e δ S3 fun u S4=>rd' y u S4 R else R (.d (.bool false)) S3
theorem zgt{r r':R2}{rd rd':D2}(hr:RO r rd)(hr':RO r' rd')(ha:RE ta da)(hb:RE tb db)(hc:RE tc dc):RE (zmP r r' ta tb tc) (zfR rd rd' da db dc):=fun h o H δ σ S R Q he hs q c =>
 ha h o H δ σ S _ _ he hs q fun o1 H1 S1 x v e1 s1 x1 d1=>hb h o1 H1 δ σ S1 _ _ (he.mono e1) s1 d1 fun o2 H2 S2 y u e2 s2 y2 d2 =>
  hr h o2 H2 S2 x y v u _ _ s2 (x1.mono e2) y2 d2 fun o3 H3 S3 z w e3 s3 z3 d3=>by
   replace d3:=zha d3;obtain⟨b,rfl,d3⟩:=d3;refine⟨b,zdg z3,?_⟩;cases b with
   | false=>exact zmu (c o3 H3 S3 _ _ ((e1.trans e2).trans e3) s3 (xB false) (by simpa using d3))
   | true=>exact zmt (hc h o3 H3 δ σ S3 _ _ (((he.mono e1).mono e2).mono e3) s3 (by simpa using d3) fun o4 H4 S4 k w' e4 s4 k4 d4=>hr' h o4 H4 S4 y k u w' R Q s4 ((y2.mono e3).mono e4) k4 d4 (c.pre (((e1.trans e2).trans e3).trans e4)))
end
def dI(C:Int->Int->Prop)(g:Int->Int->Int):D2:=fun x y S R=>asI x fun i=>asI y fun j=>C i j/\R (.d (.int (g i j))) S
def dI0(g:Int->Int->Int):D2:=fun x y S R=>asI x fun i=>asI y fun j=>R (.d (.int (g i j))) S
def dIb(g:Int->Int->Bool):D2:=fun x y S R=>asI x fun i=>asI y fun j=>R (.d (.bool (g i j))) S
def dUI(g:Int->Int):XV->Sto->RX->Prop:=fun x S R=>asI x fun i=>R (.d (.int (g i))) S
def zfH:D2:=fun x y S R=>∃ d,zi4 S x=some d/\∃ e,zi4 S y=some e/\SeqAt.shaped d=true/\SeqAt.shaped e=true/\R (.d (.bool (PyData.eqv d e))) S
def zk6:D2:=fun x y S R=>∃ d,zi4 S x=some d/\∃ e,zi4 S y=some e/\SeqAt.shaped d=true/\SeqAt.shaped e=true/\R (.d (.bool (!PyData.eqv d e))) S
def zsM:D2:=fun x _ S R=>asD x fun d=>R (.d (.bool (znk d))) S
def zjW:D2:=fun x _ S R=>asD x fun d=>R (.d (.bool (!znk d))) S
def zwp:D2:=fun x y S R=>asT x fun ds=>asI y fun i=>∃ d,atI ds i=some d/\R (.d d) S
def zwn:D2:=fun x y S R=>asL S x fun ds=>asI y fun i=>∃ d,atI ds i=some d/\R (.d d) S
def zwl:D2:=fun x y S R=>asL S x fun ds=>asL S y fun es=>ds.length+es.length<=1000/\R (.d (.list (ds++es))) S
def zvm:D2:=fun x y S R=>asT x fun ds=>asT y fun es=>ds≠[]/\ds.length+es.length<=1000/\R (.d (.tuple (ds++es))) S
section
theorem zpx{C:Int->Int->Prop}{g:Int->Int->Int}:RO (rI C fun i j=>.int (g i j)) (dI C g):=fun h o H S x y v u R Q hs hx hy q c=>by
 replace q:=zbp q;obtain⟨i,rfl,q⟩:=q;replace q:=zbp q;obtain⟨j,rfl,hc,q⟩:=q;exact⟨i,j,za1 hx,za1 hy,hc,c o H S _ _ Ex.refl hs (xI _) q⟩
theorem zoa{g:Int->Int->Int}:RO (rI0 fun i j=>.int (g i j)) (dI0 g):=fun h o H S x y v u R Q hs hx hy q c=>by
 replace q:=zbp q;obtain⟨i,rfl,q⟩:=q;replace q:=zbp q;obtain⟨j,rfl,q⟩:=q;exact⟨i,j,za1 hx,za1 hy,c o H S _ _ Ex.refl hs (xI _) q⟩
theorem zjn{g:Int->Int->Bool}:RO (rI0 fun i j=>.bl (g i j)) (dIb g):=fun h o H S x y v u R Q hs hx hy q c=>by
 replace q:=zbp q;obtain⟨i,rfl,q⟩:=q;replace q:=zbp q;obtain⟨j,rfl,q⟩:=q;exact⟨i,j,za1 hx,za1 hy,c o H S _ _ Ex.refl hs (xB _) q⟩
theorem zv4{g:Int->Int}:RU (rU fun i=>.int (g i)) (dUI g):=fun h o H S x v R Q hs hx q c=>by
 replace q:=zbp q;obtain⟨i,rfl,q⟩:=q;exact⟨i,za1 hx,c o H S _ _ Ex.refl hs (xI _) q⟩
theorem znY:RO zv6 zfH:=fun h o H S x y v u R Q hs hx hy q c=>by
 obtain⟨d,q1,e,q2,q3,q4,q⟩:=q;exact⟨d,e,zg0 hs q1 hx,zg0 hs q2 hy,q3,q4,c o H S _ _ Ex.refl hs (xB _) q⟩
theorem zni:RO zvO zk6:=fun h o H S x y v u R Q hs hx hy q c=>by
 obtain⟨d,q1,e,q2,q3,q4,q⟩:=q;exact⟨d,e,zg0 hs q1 hx,zg0 hs q2 hy,q3,q4,c o H S _ _ Ex.refl hs (xB _) q⟩
theorem zt6{ta:TE}{da:DE}(ha:RE ta da):RE (tOp zvL ta (tC .non)) (dOp zsM da (dC .none)):=fun h o H δ σ S R Q he hs q c =>
 ha h o H δ σ S _ _ he hs q fun o1 H1 S1 x v e1 s1 x1 d1=>by
  replace d1:=ze9 d1;obtain⟨d,rfl,d1⟩:=d1;have e:=zja (show Has _ d v from x1);exact⟨rfl,by rw [e]; exact c o1 H1 S1 _ _ e1 s1 (xB _) d1⟩
theorem znP{ta:TE}{da:DE}(ha:RE ta da):RE (tOp zsS ta (tC .non)) (dOp zjW da (dC .none)):=fun h o H δ σ S R Q he hs q c =>
 ha h o H δ σ S _ _ he hs q fun o1 H1 S1 x v e1 s1 x1 d1=>by
  replace d1:=ze9 d1;obtain⟨d,rfl,d1⟩:=d1;have e:=zja (show Has _ d v from x1);exact⟨rfl,by rw [e]; exact c o1 H1 S1 _ _ e1 s1 (xB _) d1⟩
theorem HasL.atI{H:Hp}{ds:List PyData}{vs:List V}{i:Int}{d:PyData}(l:HasL H ds vs)(e:L2.atI ds i=some d):∃ v,L2.atI vs i=some v/\Has H d v:=by
 unfold L2.atI at e ⊢;rw [l.length];cases hn:ixN ds.length i with
 | none=>rw [hn] at e; cases e
 | some j =>
  rw [hn] at e;exact l.get (show ds[j]? = some d from e)
theorem ztJ{K:W.Frag}:RO (zvn K) zwp:=fun h o H S x y v u R Q hs hx hy q c=>by
 replace q:=zem q;obtain⟨ds,rfl,q⟩:=q;replace q:=zbp q;obtain⟨i,rfl,d,e,q⟩:=q;obtain⟨a,vs,rfl,ea,l⟩:=zcQ hx;obtain⟨w,ew,hw⟩:=l.atI e;exact⟨a,vs,i,w,rfl,za1 hy,.of ea,ew,c o H S (.d d) w Ex.refl hs hw q⟩
theorem zqI{K:W.Frag}:RO (zvi K) zwn:=fun h o H S x y v u R Q hs hx hy q c=>by
 obtain⟨ds,e0,q⟩:=q;replace q:=zbp q;obtain⟨i,rfl,d,e,q⟩:=q;obtain⟨a,vs,rfl,ea,l⟩:=zbt hs e0 hx;obtain⟨w,ew,hw⟩:=l.atI e;exact⟨a,vs,i,w,rfl,za1 hy,.of ea,ew,c o H S (.d d) w Ex.refl hs hw q⟩
theorem ztm:RO zsL zwl:=fun h o H S x y v u R Q hs hx hy q c=>by
 obtain⟨ds,e0,es,e1,hl,q⟩:=q;obtain⟨a,vs,rfl,ea,la⟩:=zbt hs e0 hx;obtain⟨b,us,rfl,eb,lb⟩:=zbt hs e1 hy;exact⟨a,b,vs,us,rfl,rfl,ea,eb,by rw [la.length,lb.length]; exact le_of_lt (small1000 hl),zmn hs (la.append lb) c q⟩
theorem zrO{K:W.Frag}:RO (zrK K) zvm:=fun h o H S x y v u R Q hs hx hy q c=>by
 replace q:=zem q;obtain⟨ds,rfl,q⟩:=q;replace q:=zem q;obtain⟨es,rfl,hn,hl,q⟩:=q;obtain⟨a,vs,rfl,ea,la⟩:=zcQ hx;obtain⟨b,us,rfl,eb,lb⟩:=zcQ hy;refine⟨a,b,vs,us,rfl,rfl,.of ea,.of eb,fun z=>?_,by rw [la.length,lb.length]; exact le_of_lt (small1000 hl),fun z=>?_,fun _=>zn7 hs (la.append lb) c q⟩
 ·subst z;have:=la.length;exact hn (eq_nil_of_length_eq_zero this.symm)
 ·subst z;have e:es=[]:=eq_nil_of_length_eq_zero lb.length.symm;subst e;rw [append_nil] at q;exact c o H S (.d (.tuple ds)) _ Ex.refl hs hx q
end
abbrev DO:=XE->Sto->(Option Int->Sto->Prop)->Prop
def RP(t:TO)(dt:DO):Prop:=∀ (h o:List Addr) (H:Hp) (δ:XE) (σ:St) (S:Sto) (R:Option Int->Sto->Prop) (Q:Option Int->Hp->Prop),RepE h o H δ σ->RepS h o H S->dt δ S R ->
 (∀ o' H' S' b,Ex o H o' H'->RepS h o' H' S'->R b S'->Q b H')->t σ H Q
def zbd:DO:=fun _ S R=>R none S
def zdR(a:DE):DO:=fun δ S R=>a δ S fun x S1=>asI x fun i=>R (some i) S1
theorem zeF:RP zm7 zbd:=fun h o H δ σ S R Q he hs q c=>c o H S none Ex.refl hs q
theorem zew{t:TE}{da:DE}(ha:RE t da):RP (zmc t) (zdR da):=fun h o H δ σ S R Q he hs q c =>
 ha h o H δ σ S _ _ he hs q fun o1 H1 S1 x v e1 s1 x1 d1=>by
  replace d1:=zbp d1;obtain⟨i,rfl,d1⟩:=d1;exact⟨i,za1 x1,c o1 H1 S1 _ e1 s1 d1⟩
abbrev D3:=XV->Option Int->Option Int->Sto->RX->Prop
def RL(r:V->Option Int->Option Int->Hp->VK->Prop)(rd:D3):Prop:=∀ (h o:List Addr) (H:Hp) (S:Sto) (x:XV) (v:V) (a b:Option Int) (R:RX) (Q:VK),RepS h o H S->HasX h o H x v->rd x a b S R->Cn h o H R Q->r v a b H Q
def dSl(rd:D3)(e:DE)(a b:DO):DE:=fun δ S R=>e δ S fun x S1=>a δ S1 fun i S2=>b δ S2 fun j S3=>rd x i j S3 R
theorem zku{r:V->Option Int->Option Int->Hp->VK->Prop}{rd:D3}{te:TE}{de:DE}{ta tb:TO}{da db:DO}(hr:RL r rd)(he':RE te de)(ha:RP ta da)(hb:RP tb db):RE (tSl r te ta tb) (dSl rd de da db):=fun h o H δ σ S R Q he hs q c =>
 he' h o H δ σ S _ _ he hs q fun o1 H1 S1 x v e1 s1 x1 d1=>ha h o1 H1 δ σ S1 _ _ (he.mono e1) s1 d1 fun o2 H2 S2 i e2 s2 d2=>hb h o2 H2 δ σ S2 _ _ ((he.mono e1).mono e2) s2 d2 fun o3 H3 S3 j e3 s3 d3 =>
  hr h o3 H3 S3 x v i j R Q s3 ((x1.mono e2).mono e3) d3 (c.pre ((e1.trans e2).trans e3))
def zwh:D3:=fun x i j S R=>asL S x fun ds=>R (.d (.list (zdJ ds i j))) S
def zwj:D3:=fun x i j S R=>asT x fun ds=>¬ (HT.sIx ds.length 0 i=0/\HT.sIx ds.length ds.length j=ds.length)/\R (.d (.tuple (zdJ ds i j))) S
theorem zot{K:W.Frag}:RL (zuB K) zwh:=fun h o H S x v a b R Q hs hx q c=>by
 obtain⟨ds,e0,q⟩:=q;obtain⟨p,vs,rfl,ea,l⟩:=zbt hs e0 hx;exact⟨p,vs,rfl,.of ea,zmn hs (l.cut a b) c q⟩
theorem zts{K:W.Frag}:RL (zvF K) zwj:=fun h o H S x v a b R Q hs hx q c=>by
 replace q:=zem q;obtain⟨ds,rfl,hn,q⟩:=q;obtain⟨p,vs,rfl,ea,l⟩:=zcQ hx;exact⟨p,vs,rfl,.of ea,by rw [l.length]; exact hn,zn7 hs (l.cut a b) c q⟩
def asQ(S:Sto):XV->Option (List PyData)
 | .d (.tuple ds)=>some ds
 | .d (.list ds)=>some ds
 | .l k=>S[k]?
 | _=>none
theorem zjY{h o:List Addr}{H:Hp}{S:Sto}{x:XV}{v:V}{ds:List PyData}(r:RepS h o H S)(e:asQ S x=some ds)(q:HasX h o H x v):∃ a vs,v=.ref a/\(H a=some (.tup vs)\/H a=some (.lst vs))/\HasL (vx h o H) ds vs:=by
 unfold asQ at e;split at e
 ·cases e;obtain⟨a,vs,e,q,l⟩:=zcQ q;exact⟨a,vs,e,.inl q,l⟩
 ·cases e;obtain⟨a,vs,e,q,l⟩:=zbt (x:=.d (.list ds)) (ds:=ds) r rfl q;exact⟨a,vs,e,.inr q,l⟩
 ·rename_i k;obtain⟨a,vs,e,q,l⟩:=zbt (x:=.l k) r e q;exact⟨a,vs,e,.inr q,l⟩
 ·cases e
def arg1:List XV->(XV->Prop)->Prop
 | [x],k=>k x
 | _,_=>False
def arg2:List XV->(XV->XV->Prop)->Prop
 | [x,y],k=>k x y
 | _,_=>False
theorem za3{xs:List XV}{k:XV->Prop}(h:arg1 xs k):∃ x,xs=[x]/\k x:=by
 unfold arg1 at h;split at h
 ·exact⟨_,rfl,h⟩
 ·exact h.elim
theorem ziI{xs:List XV}{k:XV->XV->Prop}(h:arg2 xs k):∃ x y,xs=[x,y]/\k x y:=by
 unfold arg2 at h;split at h
 ·exact⟨_,_,rfl,h⟩
 ·exact h.elim
theorem hxs1{h o:List Addr}{H:Hp}{x:XV}{vs:List V}(q:HasXs h o H [x] vs):∃ v,vs=[v]/\HasX h o H x v:=by
 obtain⟨v,r,e,hx,hr⟩:=q;cases hr;exact⟨v,e,hx⟩
theorem hxs2{h o:List Addr}{H:Hp}{x y:XV}{vs:List V}(q:HasXs h o H [x,y] vs):∃ v u,vs=[v,u]/\HasX h o H x v/\HasX h o H y u:=by
 obtain⟨v,r,e,hx,q⟩:=q;obtain⟨u,e',hy⟩:=hxs1 q;subst e';exact⟨v,u,e,hx,hy⟩
def zvK:XV->(String->Prop)->Prop
 | .o v,k=>∃ c,v=.ty c/\k c
 | _,_=>False
def zvl:XV->(Int->Prop)->Prop
 | .d d,k=>match d with
  | .int i=>k i
  | .bool b=>k (if b then 1 else 0)
  | _=>False
 | _,_=>False
theorem zrD{x:XV}{k:String->Prop}(h:zvK x k):∃ c,x=.o (.ty c)/\k c:=by
 cases x with
 | o v =>
  obtain⟨c,rfl,h⟩:=h;exact⟨c,rfl,h⟩
 | d d=>exact h.elim
 | l j=>exact h.elim
 | x _ _=>exact h.elim
theorem zsv{x:XV}{k:Int->Prop}(h:zvl x k):(∃ i,x=.d (.int i)/\k i)\/∃ b,x=.d (.bool b)/\k (if b then 1 else 0):=by
 cases x with
 | d d =>
  cases d with
  | int i=>exact .inl ⟨i,rfl,h⟩
  | bool b=>exact .inr ⟨b,rfl,h⟩
  | _=>exact h.elim
 | _=>exact h.elim
def zwv:List XV->Sto->RX->Prop:=fun xs S R=>arg1 xs fun x=>∃ ds,asQ S x=some ds/\R (.d (.int ds.length)) S
theorem zm6{K:W.Frag}:RC (zvC K) zwv:=fun h o H S xs vs R Q hs hx q c=>by
 obtain⟨x,rfl,ds,hd,q1⟩:=za3 q;obtain⟨v,rfl,hx1⟩:=hxs1 hx;obtain⟨a,ws,rfl,ea,l⟩:=zjY hs hd hx1;refine⟨a,ws,rfl,ea.elim (fun z=>.inr (.of z)) (fun z=>.inl (.of z)),?_⟩;rw [l.length];exact c o H S _ _ Ex.refl hs (xI _) q1
def zi1:List XV->Sto->RX->Prop:=fun xs S R=>arg2 xs fun x y=>zvK y fun cl=>∃ d,zi4 S x=some d/\cl∈zpV/\R (.d (.bool (zrz d cl))) S
theorem zqY:RC zvp zi1:=fun h o H S xs vs R Q hs hx q c=>by
 obtain⟨x,y,rfl,q1⟩:=ziI q;obtain⟨cl,rfl,d,hd,hc,q2⟩:=zrD q1;obtain⟨v,u,rfl,hx1,hu⟩:=hxs2 hx;cases hu;exact zrT (zg0 hs hd hx1) hc (c o H S _ _ Ex.refl hs (xB _) q2)
def zpb:List XV->Sto->RX->Prop:=fun xs S R=>arg1 xs fun x=>zvl x fun i=>R (.d (.int i)) S
theorem zsg:RC (fun xs H Q=>(∃ i,xs=[.int i]/\Q (.int i) H)\/∃ k,xs=[.bl k]/\Q (.int (if k then 1 else 0)) H) zpb:=fun h o H S xs vs R Q hs hx q c=>by
 obtain⟨x,rfl,q1⟩:=za3 q;obtain⟨v,rfl,hx1⟩:=hxs1 hx;rcases zsv q1 with ⟨i,rfl,q2⟩ | ⟨b,rfl,q2⟩
 ·exact .inl ⟨_,by rw [za1 hx1],c o H S _ _ Ex.refl hs (xI _) q2⟩
 ·exact .inr ⟨_,by rw [zdg hx1],c o H S _ _ Ex.refl hs (xI _) q2⟩
def dI2(g:Int->Int->Int):List XV->Sto->RX->Prop:=fun xs S R=>arg2 xs fun x y=>asI x fun i=>asI y fun j=>R (.d (.int (g i j))) S
theorem zvI{g:Int->Int->Int}:RC (fun xs H Q=>∃ i j,xs=[.int i,.int j]/\Q (.int (g i j)) H) (dI2 g):=fun h o H S xs vs R Q hs hx q c=>by
 obtain⟨x,y,rfl,q1⟩:=ziI q;obtain⟨v,u,rfl,hx1,hu⟩:=hxs2 hx;obtain⟨i,rfl,q2⟩:=zbp q1;obtain⟨j,rfl,q3⟩:=zbp q2;exact⟨i,j,by rw [za1 hx1,za1 hu],c o H S _ _ Ex.refl hs (xI _) q3⟩
def zcv:List XV->Sto->RX->Prop:=fun xs S R=>arg1 xs fun x=>∃ ds,asQ S x=some ds/\R (.d (.tuple ds)) S
theorem zfp{K:W.Frag}:RC (fun xs H Q=>∃ p ys,xs=[.ref p]/\((SqL K H p ys/\∀ l,H l=none->Q (.ref l) (upd H l (.tup ys)))\/(SqT K H p ys/\Q (.ref p) H))) zcv:=fun h o H S xs vs R Q hs hx q c=>by
 obtain⟨x,rfl,ds,hd,q1⟩:=za3 q;obtain⟨v,rfl,hx1⟩:=hxs1 hx;obtain⟨a,ws,rfl,ea,l⟩:=zjY hs hd hx1;refine⟨a,ws,rfl,ea.elim (fun z=>.inr ⟨.of z,?_⟩) (fun z=>.inl ⟨.of z,zn7 hs l c q1⟩)⟩;have hh:HasX h o H (.d (.tuple ds)) (.ref a):=by
  unfold asQ at hd;split at hd
  ·cases hd;exact hx1
  ·obtain⟨a',us,e1,e2,_⟩:=zbt (x:=.d (.list _)) hs rfl hx1;cases e1;rw [z] at e2;cases e2
  ·rename_i k;obtain⟨a',us,e1,e2,_⟩:=zbt (x:=.l k) hs hd hx1;cases e1;rw [z] at e2;cases e2
  ·cases hd
 exact c o H S _ _ Ex.refl hs hh q1
def ziA:List XV->Sto->RX->Prop:=fun xs S R=>arg1 xs fun x=>∃ ds,asQ S x=some ds/\R (.l S.length) (S++[ds])
theorem zmK{K:W.Frag}:RC (fun xs H Q=>∃ p ys,xs=[.ref p]/\(SqL K H p ys\/SqT K H p ys)/\∀ l,H l=none->Q (.ref l) (upd H l (.lst ys))) ziA:=fun h o H S xs vs R Q hs hx q c=>by
 obtain⟨x,rfl,ds,hd,q1⟩:=za3 q;obtain⟨v,rfl,hx1⟩:=hxs1 hx;obtain⟨a,ws,rfl,ea,l⟩:=zjY hs hd hx1;exact⟨a,ws,rfl,ea.elim (fun z=>.inr (.of z)) (fun z=>.inl (.of z)),zrJ hs l c q1⟩
theorem zbo{H:Hp}:∀ {ns:List Int} {vs:List V},HasL H (ns.map PyData.int) vs->vs=ns.map V.int
 | [],vs,h=>zH.mp h
 | n :: ns,vs,h=>by
  obtain⟨v,r,rfl,h1,h2⟩:=zC.mp h;rw [zcG.mp h1,zbo h2];rfl
def zvT:List XV->Sto->RX->Prop:=fun xs S R=>arg1 xs fun x=>∃ ds,asQ S x=some ds/\∃ ns,ds=ns.map PyData.int/\ns≠[]/\∀ m,m∈ns->(∀ a,a∈ns->m<=a)->R (.d (.int m)) S
def zsI:List XV->Sto->RX->Prop:=fun xs S R=>arg1 xs fun x=>∃ ds,asQ S x=some ds/\∃ ns,ds=ns.map PyData.int/\ns≠[]/\∀ m,m∈ns->(∀ a,a∈ns->a<=m)->R (.d (.int m)) S
theorem zuP{K:W.Frag}:RC (zvf K) zvT:=fun h o H S xs vs R Q hs hx q c=>by
 obtain⟨x,rfl,ds,hd,ns,rfl,hn,q1⟩:=za3 q;obtain⟨v,rfl,hx1⟩:=hxs1 hx;obtain⟨a,ws,rfl,ea,l⟩:=zjY hs hd hx1;rw [zbo l] at ea;exact⟨a,ns,rfl,ea.elim (fun z=>.inr (.of z)) (fun z=>.inl (.of z)),hn,fun m m1 m2=>c o H S _ _ Ex.refl hs (xI _) (q1 m m1 m2)⟩
theorem zuy{K:W.Frag}:RC (zwf K) zsI:=fun h o H S xs vs R Q hs hx q c=>by
 obtain⟨x,rfl,ds,hd,ns,rfl,hn,q1⟩:=za3 q;obtain⟨v,rfl,hx1⟩:=hxs1 hx;obtain⟨a,ws,rfl,ea,l⟩:=zjY hs hd hx1;rw [zbo l] at ea;exact⟨a,ns,rfl,ea.elim (fun z=>.inr (.of z)) (fun z=>.inl (.of z)),hn,fun m m1 m2=>c o H S _ _ Ex.refl hs (xI _) (q1 m m1 m2)⟩
def dBM(rd:XV->List XV->Sto->RX->Prop)(e:DE)(a:DA):DE:=fun δ S R=>e δ S fun x S1=>∃ k,x=.l k/\k<S1.length/\a δ S1 fun xs S2=>rd x xs S2 R
def zth(rd:XV->List XV->Sto->RX->Prop)(e:DE):DE:=fun δ S R=>e δ S fun x S1=>∃ k,x=.l k/\k<S1.length/\rd x [] S1 R
def RM(r:V->List V->Hp->VK->Prop)(rd:XV->List XV->Sto->RX->Prop):Prop:=∀ (h o:List Addr) (H:Hp) (S:Sto) (x:XV) (v:V) (xs:List XV) (vs:List V) (R:RX) (Q:VK),RepS h o H S->HasX h o H x v->HasXs h o H xs vs->rd x xs S R->Cn h o H R Q->r v vs H Q
theorem zlb{K:W.Frag}{H:Hp}{a:Addr}{vs:List V}(e:H a=some (.lst vs)):tyV K "list" (.ref a) H:=.inl ⟨rfl,vs,.of e⟩
theorem zqk{h o:List Addr}{H:Hp}{S:Sto}{k:Nat}{v:V}(hs:RepS h o H S)(hk:k<S.length)(hx:HasX h o H (.l k) v):∃ a vs,v=.ref a/\H a=some (.lst vs):=by
 obtain⟨a,e,rfl⟩:=hx;obtain⟨vs,e2,_⟩:=hs.cont k a _ e (getElem?_eq_getElem hk);exact⟨a,vs,rfl,e2⟩
theorem zpI{K:W.Frag}{r:V->List V->Hp->VK->Prop}{rd:XV->List XV->Sto->RX->Prop}{te:TE}{de:DE}{tl:TA}{dl:DA}(hr:RM r rd)(he':RE te de)(ha:RA tl dl):RE (tBM K "list" r te tl) (dBM rd de dl):=fun h o H δ σ S R Q he hs q c =>
 he' h o H δ σ S _ _ he hs q fun o1 H1 S1 x v e1 s1 x1 ⟨k,ek,hk,d1⟩=>by
  subst ek;obtain⟨a,ws,rfl,ea⟩:=zqk s1 hk x1;exact⟨zlb ea,ha h o1 H1 δ σ S1 _ _ (he.mono e1) s1 d1 fun o2 H2 S2 xs vs e2 s2 x2 d2=>hr h o2 H2 S2 (.l k) _ xs vs R Q s2 (x1.mono e2) x2 d2 (c.pre (e1.trans e2))⟩
theorem zuh{K:W.Frag}{r:V->List V->Hp->VK->Prop}{rd:XV->List XV->Sto->RX->Prop}{te:TE}{de:DE}(hr:RM r rd)(he':RE te de):RE (zwd K "list" r te) (zth rd de):=fun h o H δ σ S R Q he hs q c =>
 he' h o H δ σ S _ _ he hs q fun o1 H1 S1 x v e1 s1 x1 ⟨k,ek,hk,d1⟩=>by
  subst ek;obtain⟨a,ws,rfl,ea⟩:=zqk s1 hk x1;exact⟨zlb ea,hr h o1 H1 S1 (.l k) _ [] [] R Q s1 x1 rfl d1 (c.pre e1)⟩
def zb3:XV->List XV->Sto->RX->Prop:=fun x xs S R=>∃ k,x=.l k/\∃ ds,S[k]? = some ds/\arg1 xs fun y=>asD y fun d=>ds.length<1000/\R (.d .none) (S.set k (ds++[d]))
theorem zod:RM znn zb3:=fun h o H S x v xs vs R Q hs hx hxs q c=>by
 obtain⟨k,rfl,ds,e,q1⟩:=q;obtain⟨y,rfl,q2⟩:=za3 q1;obtain⟨d,rfl,hl,q3⟩:=ze9 q2;obtain⟨a,ea,rfl⟩:=hx;obtain⟨u,rfl,hu⟩:=hxs1 hxs;obtain⟨ws,ew,l⟩:=hs.cont k a ds ea e;exact⟨a,ws,u,rfl,rfl,ew,by rw [l.length]; exact small1000 (le_of_lt hl),c o _ _ (.d .none) _ (Ex.upd ea) (hs.upd ea (l.append (zC.mpr ⟨u,[],rfl,hu,zH.mpr rfl⟩))) xN q3⟩
def zgo:XV->List XV->Sto->RX->Prop:=fun x xs S R=>∃ k,x=.l k/\∃ ds,S[k]? = some ds/\xs=[]/\R (.d .none) (S.set k ds.reverse)
theorem zl6:RM zlu zgo:=fun h o H S x v xs vs R Q hs hx hxs q c=>by
 obtain⟨k,rfl,ds,e,rfl,q1⟩:=q;obtain⟨a,ea,rfl⟩:=hx;obtain⟨ws,ew,l⟩:=hs.cont k a ds ea e;cases hxs;exact⟨a,ws,rfl,rfl,ew,c o _ _ (.d .none) _ (Ex.upd ea) (hs.upd ea l.rev) xN q1⟩
def zfG:XV->List XV->Sto->RX->Prop:=fun x xs S R=>∃ k,x=.l k/\∃ ds,S[k]? = some ds/\arg1 xs fun y=>∃ es,zn1 S y=some es/\ds.length+es.length<=1000/\R (.d .none) (S.set k (ds++es))
theorem zgF:RM zn4 zfG:=fun h o H S x v xs vs R Q hs hx hxs q c=>by
 obtain⟨k,rfl,ds,e,q1⟩:=q;obtain⟨y,rfl,es,ey,hl,q3⟩:=za3 q1;obtain⟨a,ea,rfl⟩:=hx;obtain⟨u,rfl,hu⟩:=hxs1 hxs;obtain⟨ws,ew,l⟩:=hs.cont k a ds ea e;obtain⟨b,zs,rfl,eb,lb⟩:=zbt hs ey hu;exact⟨a,b,ws,zs,rfl,rfl,ew,eb,by rw [l.length,lb.length]; exact le_of_lt (small1000 hl),c o _ _ (.d .none) _ (Ex.upd ea) (hs.upd ea (l.append lb)) xN q3⟩
def ret0(S:Sto)(R:RX):RX:=fun y S'=>match y,S' with
 | .d d,[]=>R (.d d) S
 | .l 0,[ds]=>R (.l S.length) (S++[ds])
 | _,_=>False
def zu3(k:Nat)(S:Sto)(R:RX):RX:=fun y S'=>match y,S' with
 | .d d,[p]=>R (.d d) (S.set k p)
 | .l 1,[p,ds]=>R (.l S.length) (S.set k p++[ds])
 | _,_=>False
section
variable {h o:List Addr} {H:Hp} {S:Sto} {R:RX} {Q:VK}
theorem zkH{h o h' o':List Addr}{H:Hp}(e:∀ b,(b∈h'\/b∈o')↔(b∈h\/b∈o)):vx h' o' H=vx h o H:=by
 funext b;have iff:∀ u,vx h' o' H b=some u↔vx h o H b=some u:=fun u=>by
  rw [zan,zan];have:=e b;constructor
  ·rintro⟨a1,a2,a3⟩;exact⟨fun m=>(this.mpr (.inl m)).elim a1 a2,fun m=>(this.mpr (.inr m)).elim a1 a2,a3⟩
  ·rintro⟨a1,a2,a3⟩;exact⟨fun m=>(this.mp (.inl m)).elim a1 a2,fun m=>(this.mp (.inr m)).elim a1 a2,a3⟩
 cases e1:vx h' o' H b with
 | some u=>exact((iff u).mp e1).symm
 | none =>
  cases e2:vx h o H b with
  | none=>rfl
  | some u=>rw [(iff u).mpr e2] at e1; cases e1
theorem rep0(hs:RepS h o H S):RepS (h++o) [] H [] where
 len:=rfl
 nd:=nodup_nil
 dis:=fun a ha=>by cases ha
 hal:=fun b hb=>(mem_append.mp hb).elim (hs.hal b) (hs.oam b)
 cont:=fun k a ds e=>by simp at e
theorem hx0{d:PyData}{v:V}(hx:HasX h o H (.d d) v):HasX (h++o) [] H (.d d) v:=by
 show Has (vx (h++o) [] H) d v;rw [zkH (h:=h) (o:=o) fun b=>by simp];exact hx
theorem hx0'{d:PyData}{v:V}(hx:HasX (h++o) [] H (.d d) v):HasX h o H (.d d) v:=by
 show Has (vx h o H) d v;rw [<- zkH (h':=h++o) (o':=[]) (h:=h) (o:=o) fun b=>by simp];exact hx
theorem cn0(hs:RepS h o H S)(c:Cn h o H R Q):Cn (h++o) [] H (ret0 S R) Q:=fun o' H' S' y v e s' hy q=>by
 have sm:Same H (vx [] o' H'):=fun b u eb=>by
  obtain⟨a1,a2⟩:=e.kp b u (by simp) eb;exact zan.mpr ⟨by simp,a1,a2⟩
 have sH:Same H H':=fun b u eb=>(zan.mp (sm b u eb)).2.2;unfold ret0 at q;split at q
 ·have e0:o'=[]:=eq_nil_of_length_eq_zero s'.len.symm;subst e0;exact c o H' S _ v (Ex.of_same sH) (hs.same sH) (hx0' hy) q
 ·rename_i ds;obtain⟨a,rfl⟩:∃ a,o'=[a]:=List.length_eq_one_iff.mp s'.len.symm;obtain⟨a',ea,rfl⟩:=hy;cases ea;obtain⟨vs,ev,l⟩:=s'.cont 0 a ds rfl rfl;have na:a∉h++o:=s'.dis a (by simp);have hn:H a=none:=by
   cases eh:H a with
   | none=>rfl
   | some u=>exact absurd (e.kp a u (by simp) eh).1 (by simp)
  have e2:Ex o H (o++[a]) H':=⟨⟨[a],rfl⟩,fun b u hb eb=>by
   obtain⟨a1,a2⟩:=e.kp b u (by simp) eb;exact⟨by simp only [mem_append,not_or]; exact⟨hb,a1⟩,a2⟩⟩
  have ev':vx (h++o) [a] H'=vx h (o++[a]) H':=zkH fun b=>by simp [or_assoc]
  rw [ev'] at l;refine c (o++[a]) H' (S++[ds]) (.l S.length) _ e2 ⟨by simp [hs.len],zcD hs.nd fun m=>na (mem_append_right _ m),fun b hb=>?_,fun b hb=>?_,fun k b es q1 q2=>?_⟩ ⟨a,by rw [hs.len,getElem?_concat_length],rfl⟩ q
  ·rcases mem_append.mp hb with hb | hb
   ·exact hs.dis b hb
   ·rw [mem_singleton.mp hb]; exact fun m=>na (mem_append_left _ m)
  ·obtain⟨u,eb⟩:=hs.hal b hb;exact⟨u,sH b _ eb⟩
  ·by_cases hk:k<o.length
   ·rw [getElem?_append_left hk] at q1;rw [getElem?_append_left (by rw [hs.len]; exact hk)] at q2;obtain⟨ws,e3,l3⟩:=hs.cont k b es q1 q2;exact⟨ws,sH _ _ e3,l3.mono e2.vx⟩
   ·have hk':k=o.length:=by
     obtain⟨q,_⟩:=List.getElem?_eq_some_iff.mp q1;rw [length_append,length_singleton] at q;omega
    subst hk';rw [getElem?_concat_length] at q1;rw [<- hs.len,getElem?_concat_length] at q2;cases q1;cases q2;exact⟨vs,ev,l⟩
 ·exact q.elim
theorem zu2{k:Nat}{a:Addr}{p:List PyData}(hs:RepS h o H S)(ea:o[k]? = some a)(ep:S[k]? = some p):RepS (h++o.filter (fun b=>b≠a)) [a] H [p] where
 len:=rfl
 nd:=by simp
 dis:=fun b hb=>by
  rw [mem_singleton.mp hb];intro m;rcases mem_append.mp m with m | m
  ·exact hs.dis a (mem_of_getElem? ea) m
  ·have:=(mem_filter.mp m).2;simp at this
 hal:=fun b hb=>(mem_append.mp hb).elim (hs.hal b) fun m=>hs.oam b (mem_filter.mp m).1
 cont:=fun j b ds e1 e2=>by
  cases j with
  | succ j=>simp at e1
  | zero =>
   cases e1;cases e2;obtain⟨vs,e3,l⟩:=hs.cont k a p ea ep;refine⟨vs,e3,?_⟩;rw [zkH (h:=h) (o:=o) (mem_pen ea)];exact l
where
 mem_pen {h o:List Addr} {k:Nat} {a:Addr} (ea:o[k]? = some a) (b:Addr):(b∈h++o.filter (fun b=>b≠a)\/b∈[a])↔(b∈h\/b∈o):=by
  have ma:=mem_of_getElem? ea;by_cases e:b=a
  ·subst e;simp [ma]
  ·simp [e]
theorem hxP{k:Nat}{a:Addr}{d:PyData}{v:V}(ea:o[k]? = some a)(hx:HasX h o H (.d d) v):HasX (h++o.filter (fun b=>b≠a)) [a] H (.d d) v:=by
 show Has (vx _ _ H) d v;rw [zkH (h:=h) (o:=o) (zu2.mem_pen ea)];exact hx
theorem cnP{k:Nat}{a:Addr}{p:List PyData}(hs:RepS h o H S)(ea:o[k]? = some a)(ep:S[k]? = some p)(c:Cn h o H R Q):Cn (h++o.filter (fun b=>b≠a)) [a] H (zu3 k S R) Q:=fun o' H' S' y v e s' hy q=>by
 have ma:=mem_of_getElem? ea;have hk:k<o.length:=(List.getElem?_eq_some_iff.mp ea).1;unfold zu3 at q;split at q
 ·rename_i d p';obtain⟨r,rfl⟩:=e.pre;have er:r=[]:=by
   have:=s'.len;simp at this;exact this
  subst er;have ex:Ex o H o H':=⟨⟨[],by simp⟩,fun b u hb eb=>⟨hb,(e.kp b u (fun m=>hb (by rw [mem_singleton.mp m]; exact ma)) eb).2⟩⟩;obtain⟨vs,ev,l⟩:=s'.cont 0 a p' rfl rfl;have ev':vx (h++o.filter (fun b=>b≠a)) ([a]++[]) H'=vx h o H':=zkH (zu2.mem_pen ea);rw [ev'] at l;refine c o H' (S.set k p') (.d d) v ex ⟨by simp [hs.len],hs.nd,hs.dis,fun b hb=>?_,fun j b es q1 q2=>?_⟩ (by
   have hy':Has (vx (h++o.filter (fun b=>b≠a)) ([a]++[]) H') d v:=hy;rw [ev'] at hy';exact hy') q
  ·obtain⟨u,eb⟩:=hs.hal b hb;exact⟨u,(e.kp b _ (fun m=>hs.dis a ma (by rw [<- mem_singleton.mp m]; exact hb)) eb).2⟩
  ·by_cases hj:j=k
   ·subst hj;rw [q1] at ea;cases ea;rw [getElem?_set_self (by rw [hs.len]; exact hk)] at q2;cases q2;exact⟨vs,ev,l⟩
   ·rw [getElem?_set_ne (Ne.symm hj)] at q2;obtain⟨ws,e3,l3⟩:=hs.cont j b es q1 q2;have ne:b≠a:=fun z=>hj (zff hs.nd q1 (z▸ea));exact⟨ws,(e.kp b _ (by simp [ne]) e3).2,l3.mono ex.vx⟩
 ·rename_i p' ds;obtain⟨r,rfl⟩:=e.pre;obtain⟨a2,rfl⟩:∃ a2,r=[a2]:=by
   have:=s'.len;simp at this;exact List.length_eq_one_iff.mp this
  obtain⟨b2,eb2,rfl⟩:=hy;cases eb2;obtain⟨vs,ev,l⟩:=s'.cont 0 a p' rfl rfl;obtain⟨vs2,ev2,l2⟩:=s'.cont 1 a2 ds rfl rfl;have n2:a2∉h++o.filter (fun b=>b≠a):=s'.dis a2 (by simp);have n3:a≠a2:=by
   have:=s'.nd;simp at this;exact this
  have n4:a2∉o:=fun m=>n2 (mem_append_right _ (mem_filter.mpr ⟨m,by simp [Ne.symm n3]⟩));have ex:Ex o H (o++[a2]) H':=⟨⟨[a2],rfl⟩,fun b u hb eb=>by
   obtain⟨z1,z2⟩:=e.kp b u (fun m=>hb (by rw [mem_singleton.mp m]; exact ma)) eb;refine⟨?_,z2⟩;simp only [mem_append,not_or];exact⟨hb,fun m=>z1 (by simp at m ⊢; exact .inr m)⟩⟩
  have ev':vx (h++o.filter (fun b=>b≠a)) ([a]++[a2]) H'=vx h (o++[a2]) H':=zkH fun b=>by
   have:=zu2.mem_pen (h:=h) ea b;simp only [mem_append] at this ⊢;rw [<- or_assoc,this,or_assoc]
  rw [ev'] at l l2;refine c (o++[a2]) H' (S.set k p'++[ds]) (.l S.length) _ ex ⟨by simp [hs.len],zcD hs.nd n4,fun b hb=>?_,fun b hb=>?_,fun j b es q1 q2=>?_⟩ ⟨a2,by rw [hs.len,getElem?_concat_length],rfl⟩ q
  ·rcases mem_append.mp hb with hb | hb
   ·exact hs.dis b hb
   ·rw [mem_singleton.mp hb]; exact fun m=>n2 (mem_append_left _ m)
  ·obtain⟨u,eb⟩:=hs.hal b hb;exact⟨u,(e.kp b _ (fun m=>hs.dis a ma (by rw [<- mem_singleton.mp m]; exact hb)) eb).2⟩
  ·by_cases hjo:j<o.length
   ·rw [getElem?_append_left hjo] at q1;rw [getElem?_append_left (by rw [length_set,hs.len]; exact hjo)] at q2;by_cases hj:j=k
    ·subst hj;rw [q1] at ea;cases ea;rw [getElem?_set_self (by rw [hs.len]; exact hk)] at q2;cases q2;exact⟨vs,ev,l⟩
    ·rw [getElem?_set_ne (Ne.symm hj)] at q2;obtain⟨ws,e3,l3⟩:=hs.cont j b es q1 q2;have ne:b≠a:=fun z=>hj (zff hs.nd q1 (z▸ea));exact⟨ws,(e.kp b _ (by simp [ne]) e3).2,l3.mono ex.vx⟩
   ·have hk':j=o.length:=by
     obtain⟨q,_⟩:=List.getElem?_eq_some_iff.mp q1;rw [length_append,length_singleton] at q;omega
    subst hk';rw [getElem?_concat_length] at q1;rw [<- hs.len,<- length_set (i:=k) (a:=p'),getElem?_concat_length] at q2;cases q1;cases q2;exact⟨vs2,ev2,l2⟩
 ·exact q.elim
end
structure DEnds where
 nx:XE->Sto->Prop
 rt:RX
 bk:XE->Sto->Prop:=fun _ _=>False
 ct:XE->Sto->Prop:=fun _ _=>False
abbrev DS:=DEnds->XE->Sto->Prop
abbrev DG:=XV->XE->Sto->(XE->Sto->Prop)->Prop
abbrev DGs:=List PyData->XE->Sto->(XE->Sto->Prop)->Prop
def Nx(h o:List Addr)(H:Hp)(N:XE->Sto->Prop)(M:St->Hp->Prop):Prop:=∀ o' H' δ' S' σ',Ex o H o' H'->RepE h o' H' δ' σ'->RepS h o' H' S'->N δ' S'->M σ' H'
theorem Nx.pre{h o o':List Addr}{H H':Hp}{N:XE->Sto->Prop}{M:St->Hp->Prop}(c:Nx h o H N M)(e:Ex o H o' H'):Nx h o' H' N M:=fun o2 H2 δ2 S2 σ2 e2=>c o2 H2 δ2 S2 σ2 (e.trans e2)
structure EOk(h o:List Addr)(H:Hp)(E:DEnds)(D:Ends):Prop where
 nx:Nx h o H E.nx D.nx
 rt:Cn h o H E.rt D.rt
 bk:Nx h o H E.bk D.bk
 ct:Nx h o H E.ct D.ct
theorem EOk.pre{h o o':List Addr}{H H':Hp}{E:DEnds}{D:Ends}(c:EOk h o H E D)(e:Ex o H o' H'):EOk h o' H' E D:=⟨c.nx.pre e,c.rt.pre e,c.bk.pre e,c.ct.pre e⟩
def RS(t:TS)(dt:DS):Prop:=∀ (h o:List Addr) (H:Hp) (δ:XE) (σ:St) (S:Sto) (E:DEnds) (D:Ends),RepE h o H δ σ->RepS h o H S->dt E δ S->EOk h o H E D->t D σ H
def RG(t:TG)(dt:DG):Prop:=∀ (h o:List Addr) (H:Hp) (δ:XE) (σ:St) (S:Sto) (x:XV) (v:V) (N:XE->Sto->Prop) (M:St->Hp->Prop),RepE h o H δ σ->RepS h o H S->HasX h o H x v->dt x δ S N->Nx h o H N M->t v σ H M
def RGs(t:TGs)(dt:DGs):Prop:=∀ (h o:List Addr) (H:Hp) (δ:XE) (σ:St) (S:Sto) (ds:List PyData) (vs:List V) (N:XE->Sto->Prop) (M:St->Hp->Prop),RepE h o H δ σ->RepS h o H S->HasL (vx h o H) ds vs->dt ds δ S N->Nx h o H N M->t vs σ H M
def zj(i:Nat):DG:=fun x δ S N=>N (δ.set i (some x)) S
def zcN:DGs:=fun ds δ S N=>ds=[]/\N δ S
def hdD:List PyData->(PyData->List PyData->Prop)->Prop
 | d :: es,k=>k d es
 | [],_=>False
theorem zuN{ds:List PyData}{k:PyData->List PyData->Prop}(h:hdD ds k):∃ d es,ds=d :: es/\k d es:=by
 cases ds with
 | nil=>exact h.elim
 | cons d es=>exact⟨d,es,rfl,h⟩
theorem ztl{d:PyData}{es:List PyData}{k:PyData->List PyData->Prop}:hdD (d :: es) k=k d es:=rfl
def zZ(g:DG)(r:DGs):DGs:=fun ds δ S N=>hdD ds fun d es=>g (.d d) δ S fun δ' S'=>r es δ' S' N
def zco(n:Nat)(r:DGs):DG:=fun x δ S N=>asT x fun ds=>ds.length=n/\r ds δ S N
def zlM(a b:DE):DG:=fun x δ S N=>a δ S fun y S1=>b δ S1 fun z S2=>asD x fun d=>∃ k,y=.l k/\∃ ds,S2[k]? = some ds/\asI z fun i=>∃ j,ixN ds.length i=some j/\N δ (S2.set k (ds.set j d))
theorem zx{i:Nat}:RG (zky i) (zj i):=fun h o H δ σ S x v N M he hs hx q c=>c o H _ S _ Ex.refl (he.set hx) hs q
theorem zcZ:RGs zwe zcN:=fun h o H δ σ S ds vs N M he hs l ⟨e,q⟩ c=>by
 subst e;exact⟨zH.mp l,c o H δ S σ Ex.refl he hs q⟩
theorem zaw{t:TG}{u:TGs}{g:DG}{r:DGs}(h1:RG t g)(h2:RGs u r):RGs (zuA t u) (zZ g r):=fun h o H δ σ S ds vs N M he hs l q0 c=>by
 obtain⟨d,es,rfl,q⟩:=zuN q0;obtain⟨v,ws,rfl,hv,l⟩:=zC.mp l;exact⟨v,ws,rfl,h1 h o H δ σ S (.d d) v _ _ he hs hv q fun o1 H1 δ1 S1 σ1 e1 he1 hs1 q1=>h2 h o1 H1 δ1 σ1 S1 es ws N M he1 hs1 (l.mono e1.vx) q1 (c.pre e1)⟩
theorem zeo{K:W.Frag}{n:Nat}{t:TGs}{r:DGs}(h1:RGs t r):RG (zv2 K n t) (zco n r):=fun h o H δ σ S x v N M he hs hx q c=>by
 replace q:=zem q;obtain⟨ds,rfl,hn,q⟩:=q;obtain⟨a,vs,rfl,ea,l⟩:=zcQ hx;exact⟨a,vs,rfl,.of ea,by rw [l.length]; exact hn,h1 h o H δ σ S ds vs N M he hs l q c⟩
theorem HasL.setAt{H:Hp}:∀ {ds:List PyData} {vs:List V} {j:Nat} {d:PyData} {v:V},HasL H ds vs->Has H d v->HasL H (ds.set j d) (vs.set j v)
 | [],vs,j,d,v,l,_=>by rw [zH.mp l]; exact zH.mpr rfl
 | c :: ds,vs,0,d,v,l,q=>by
  obtain⟨u,r,rfl,_,l⟩:=zC.mp l;exact zC.mpr ⟨v,r,rfl,q,l⟩
 | c :: ds,vs,j+1,d,v,l,q=>by
  obtain⟨u,r,rfl,hu,l⟩:=zC.mp l;exact zC.mpr ⟨u,r.set j v,rfl,hu,HasL.setAt l q⟩
theorem zus{ta tb:TE}{da db:DE}(ha:RE ta da)(hb:RE tb db):RG (zvN ta tb zt3) (zlM da db):=fun h o H δ σ S x v N M he hs hx q c =>
 ha h o H δ σ S _ _ he hs q fun o1 H1 S1 y u e1 s1 y1 d1=>hb h o1 H1 δ σ S1 _ _ (he.mono e1) s1 d1 fun o2 H2 S2 z w e2 s2 z2 d0=>by
  obtain⟨d,rfl,k,rfl,ds,es,d2⟩:=ze9 d0;replace d2:=zbp d2;obtain⟨i,rfl,j,ej,d2⟩:=d2;obtain⟨a,ea,rfl⟩:=y1.mono e2;obtain⟨ws,ew,l⟩:=s2.cont k a ds ea es;refine⟨a,ws,i,j,rfl,za1 z2,ew,by rw [l.length]; exact ej,?_⟩;exact c o2 _ δ _ σ ((e1.trans e2).trans (Ex.upd ea)) (((he.mono e1).mono e2).mono (Ex.upd ea)) (s2.upd ea (l.setAt (hx.mono (e1.trans e2)))) d2
def zad:DS:=fun E δ S=>E.nx δ S
def zM(t u:DS):DS:=fun E δ S=>t { E with nx:=u E } δ S
def zac(e:DE)(g:DG):DS:=fun E δ S=>e δ S fun x S1=>g x δ S1 E.nx
def zdv(e:DE):DS:=fun E δ S=>e δ S fun _ S1=>E.nx δ S1
def zao(e:DE):DS:=fun E δ S=>e δ S E.rt
def zbI(c:DT)(t u:DS):DS:=fun E δ S=>c δ S fun b S1=>if b=true then t E δ S1 else u E δ S1
section
variable {t u:TS} {dt du:DS} {te:TE} {de:DE}
theorem zcp:RS zrl zad:=fun h o H δ σ S E D he hs q c=>c.nx o H δ S σ Ex.refl he hs q
theorem zS(ht:RS t dt)(hu:RS u du):RS (zls t u) (zM dt du):=fun h o H δ σ S E D he hs q c =>
 ht h o H δ σ S _ _ he hs q ⟨fun o1 H1 δ1 S1 σ1 e1 he1 hs1 q1=>hu h o1 H1 δ1 σ1 S1 E D he1 hs1 q1 (c.pre e1),c.rt,c.bk,c.ct⟩
theorem za4{g:TG}{dg:DG}(he':RE te de)(hg:RG g dg):RS (ztM te g) (zac de dg):=fun h o H δ σ S E D he hs q c =>
 he' h o H δ σ S _ _ he hs q fun o1 H1 S1 x v e1 s1 x1 d1=>hg h o1 H1 δ σ S1 x v _ _ (he.mono e1) s1 x1 d1 (c.nx.pre e1)
theorem ziG(he':RE te de):RS (ztP te) (zdv de):=fun h o H δ σ S E D he hs q c =>
 he' h o H δ σ S _ _ he hs q fun o1 H1 S1 x v e1 s1 x1 d1=>c.nx o1 H1 δ S1 σ e1 (he.mono e1) s1 d1
theorem zaB(he':RE te de):RS (zvw te) (zao de):=fun h o H δ σ S E D he hs q c=>he' h o H δ σ S _ _ he hs q c.rt
theorem zgf{tc:TT}{dc:DT}(hc:RT tc dc)(ht:RS t dt)(hu:RS u du):RS (zuY tc t u) (zbI dc dt du):=fun h o H δ σ S E D he hs q c =>
 hc h o H δ σ S _ _ he hs q fun o1 H1 S1 b e1 s1 d1=>by
  cases b with
  | true=>exact zmt (ht h o1 H1 δ σ S1 E D (he.mono e1) s1 (by simpa using d1) (c.pre e1))
  | false=>exact zmu (hu h o1 H1 δ σ S1 E D (he.mono e1) s1 (by simpa using d1) (c.pre e1))
def frz(n:Nat)(ds:List PyData):Option XV->Option XV
 | some (.l k)=>if k=n then some (.d (.list ds)) else some (.l k)
 | y=>y
end
abbrev DI:=XE->Sto->(List PyData->Sto->Prop)->Prop
structure WalkX(h o:List Addr)(H:Hp)(J:It)(ds:List PyData):Prop where
 stop:∀ (i:Nat) o2 H2,ExH h o H o2 H2->ds.length<=i->J.stop i H2
 go:∀ (i:Nat) d o2 H2,ExH h o H o2 H2->ds[i]? = some d->J.go i H2
 yld:∀ (i:Nat) d o2 H2 x H3 S2,ExH h o H o2 H2->RepS h o2 H2 S2->ds[i]? = some d->J.yld i H2 x H3->Same H2 H3/\Has (vx h o2 H3) d x
def RI(w:TI)(di:DI):Prop:=∀ (h o:List Addr) (H:Hp) (δ:XE) (σ:St) (S:Sto) (R:List PyData->Sto->Prop) (Q:It->Hp->Prop),RepE h o H δ σ->RepS h o H S->di δ S R ->
 (∀ o' H' S' ds J,Ex o H o' H'->RepS h o' H' S'->WalkX h o' H' J ds->R ds S'->Q J H')->w σ H Q
theorem zmU{h o:List Addr}{H:Hp}{lo:Int}{n:Nat}:WalkX h o H (Itr lo n) (zfb lo n) where
 stop:=fun i _ _ _ hi=>by rw [zap] at hi; exact hi
 go:=fun i d _ _ _ hi=>(zbs hi).1
 yld:=fun i d o2 H2 x H3 S2 _ _ hi y=>by
  obtain⟨e,ex⟩:=y;subst e ex;rw [(zbs hi).2];exact⟨Same.refl _,zcG.mpr rfl⟩
def zmh(g:DG)(b:DS):List PyData->DS
 | [],E,δ,S=>E.nx δ S
 | d :: ds,E,δ,S=>g (.d d) δ S fun δ1 S1=>b { nx:=fun δ2 S2=>zmh g b ds E δ2 S2,ct:=fun δ2 S2=>zmh g b ds E δ2 S2,bk:=E.nx,rt:=E.rt } δ1 S1
def zeO(i:DI)(g:DG)(b:DS):DS:=fun E δ S=>i δ S fun ds S1=>zmh g b ds E δ S1
theorem zhV{wi:TI}{g:TG}{tb:TS}{di:DI}{dg:DG}{db:DS}(hi:RI wi di)(hg:RG g dg)(hb:RS tb db):RS (zs6 wi g tb) (zeO di dg db):=fun h o H δ σ S E D he hs q c =>
 hi h o H δ σ S _ _ he hs q fun o1 H1 S1 ds J e1 s1 wk d1=>by
  refine⟨fun i m σ2 H2=>m=ds.length - i/\i<=ds.length/\∃ o2 δ2 S2,Ex o1 H1 o2 H2/\RepE h o2 H2 δ2 σ2/\RepS h o2 H2 S2/\zmh dg db (ds.drop i) E δ2 S2,⟨ds.length,by simp,zero_le _,o1,δ,S1,Ex.refl,he.mono e1,s1,d1⟩,?_⟩;rintro i m σ2 H2 ⟨rfl,hi,o2,δ2,S2,e2,he2,hs2,d2⟩;by_cases hlt:i<ds.length
  ·have ed:ds[i]? = some ds[i]:=getElem?_eq_getElem hlt;rw [drop_eq_getElem_cons hlt] at d2;refine .inr ⟨wk.go i _ o2 H2 e2.hid ed,fun σ3 H3=>∃ o3 δ3 S3,Ex o1 H1 o3 H3/\RepE h o3 H3 δ3 σ3/\RepS h o3 H3 S3/\zmh dg db (ds.drop (i+1)) E δ3 S3,fun σ3 H3 n=>⟨ds.length - (i+1),by omega,rfl,hlt,n⟩,fun x H3 y=>?_⟩;obtain⟨s3,hx⟩:=wk.yld i _ o2 H2 x H3 S2 e2.hid hs2 ed y;have e23:Ex o2 H2 o2 H3:=Ex.of_same s3;refine hg h o2 H3 δ2 σ2 S2 (.d ds[i]) x _ _ (he2.mono e23) (hs2.same s3) hx d2 fun o4 H4 δ4 S4 σ4 e4 he4 hs4 d4=>?_;have e14:Ex o1 H1 o4 H4:=(e2.trans e23).trans e4;have ce:=(c.pre e1).pre e14;exact hb h o4 H4 δ4 σ4 S4 _ _ he4 hs4 d4 ⟨fun o5 H5 δ5 S5 σ5 e5 he5 hs5 d5=>⟨o5,δ5,S5,e14.trans e5,he5,hs5,d5⟩,ce.rt,ce.nx,fun o5 H5 δ5 S5 σ5 e5 he5 hs5 d5=>⟨o5,δ5,S5,e14.trans e5,he5,hs5,d5⟩⟩
  ·have ei:i=ds.length:=by omega
   subst ei;rw [drop_length] at d2;exact .inl ⟨wk.stop _ o2 H2 e2.hid (le_refl _),c.nx o2 H2 δ2 S2 σ2 (e1.trans e2) he2 hs2 d2⟩
def zqW(cd:DT)(b:DS):DS:=fun E δ S=>∃ W:Nat->XE->Sto->Prop,(∃ m,W m δ S)/\∀ m δ S,W m δ S ->
 cd δ S fun x S1=>if x=true then ∃ N:XE->Sto->Prop,(∀ δ' S',N δ' S'->∃ m',m'<m/\W m' δ' S')/\b { nx:=N,ct:=N,bk:=E.nx,rt:=E.rt } δ S1 else E.nx δ S1
theorem zqa{tc:TT}{tb:TS}{dc:DT}{db:DS}(hc:RT tc dc)(hb:RS tb db):RS (zqt tc tb) (zqW dc db):=fun h o H δ σ S E D he hs ⟨W,⟨m0,w0⟩,q⟩ c=>by
 refine⟨fun m σ2 H2=>∃ o2 δ2 S2,Ex o H o2 H2/\RepE h o2 H2 δ2 σ2/\RepS h o2 H2 S2/\W m δ2 S2,⟨m0,o,δ,S,Ex.refl,he,hs,w0⟩,?_⟩;rintro m σ2 H2 ⟨o2,δ2,S2,e2,he2,hs2,w2⟩;refine hc h o2 H2 δ2 σ2 S2 _ _ he2 hs2 (q m δ2 S2 w2) fun o3 H3 S3 b e3 s3 d3=>?_;cases b with
 | false=>exact zmu (c.nx o3 H3 δ2 S3 σ2 (e2.trans e3) (he2.mono e3) s3 (by simpa using d3))
 | true =>
  refine zmt ?_;obtain⟨N,n1,d3⟩:∃ N:XE->Sto->Prop,(∀ δ' S',N δ' S'->∃ m',m'<m/\W m' δ' S')/\db { nx:=N,ct:=N,bk:=E.nx,rt:=E.rt } δ2 S3:=by simpa using d3
  have e13:=e2.trans e3;have ce:=c.pre e13;refine⟨fun σ4 H4=>∃ o4 δ4 S4,Ex o H o4 H4/\RepE h o4 H4 δ4 σ4/\RepS h o4 H4 S4/\N δ4 S4,fun σ4 H4 ⟨o4,δ4,S4,e4,he4,hs4,n4⟩=>?_,?_⟩
  ·obtain⟨m',hm,w'⟩:=n1 δ4 S4 n4;exact⟨m',hm,o4,δ4,S4,e4,he4,hs4,w'⟩
  ·exact hb h o3 H3 δ2 σ2 S3 _ _ (he2.mono e3) s3 d3 ⟨fun o5 H5 δ5 S5 σ5 e5 he5 hs5 d5=>⟨o5,δ5,S5,e13.trans e5,he5,hs5,d5⟩,ce.rt,ce.nx,fun o5 H5 δ5 S5 σ5 e5 he5 hs5 d5=>⟨o5,δ5,S5,e13.trans e5,he5,hs5,d5⟩⟩
def zar:DT:=fun _ S R=>R true S
theorem zaf:RT ztQ zar:=fun h o H δ σ S R Q he hs q c=>c o H S true Ex.refl hs q
def zeP(n:Nat)(g:DG)(tt:DT)(te:DE)(fin:Sto->Prop):List PyData->XE->Sto->Prop
 | [],_,S=>fin S
 | d :: ds,τ,S=>g (.d d) τ S fun τ1 S1=>tt τ1 S1 fun b S2=>if b=true then te τ1 S2 fun x S3=>asD x fun e=>∃ acc,S3[n]? = some acc/\acc.length<1000/\zeP n g tt te fin ds τ1 (S3.set n (acc++[e])) else zeP n g tt te fin ds τ1 S2
def ze8(caps:List (Option Nat))(i:DI)(g:DG)(tt:DT)(te:DE):DE:=fun δ S R=>i δ S fun ds S1=>zeP S1.length g tt te (fun S2=>R (.l S1.length) S2) ds (zo1 caps δ) (S1++[[]])
def zbK(caps:List (Option Nat))(i:DI)(g:DG)(tt:DT)(te:DE):DE:=fun δ S R=>i δ S fun ds S1=>zeP S1.length g tt te (fun S2=>∃ S0 acc,S2=S0++[acc]/\S0.length=S1.length/\R (.d (.list acc)) S0) ds (zo1 caps δ) (S1++[[]])
theorem RepS.pop{h o r:List Addr}{H:Hp}{S0 T:Sto}(hs:RepS h (o++r) H (S0++T))(hl:S0.length=o.length):RepS h o H S0 where
 len:=hl
 nd:=(nodup_append.mp hs.nd).1
 dis:=fun a ha=>hs.dis a (mem_append_left _ ha)
 hal:=hs.hal
 cont:=fun k a ds e1 e2=>by
  obtain⟨vs,e3,l⟩:=hs.cont k a ds (zdX e1) (zdX e2);exact⟨vs,e3,l.mono fun b u e=>by
   obtain⟨z1,z2,z3⟩:=zan.mp e;exact zan.mpr ⟨z1,fun m=>z2 (mem_append_left _ m),z3⟩⟩
theorem zf4{h o r:List Addr}{H:Hp}:Same (vx h (o++r) H) (vx h o H):=fun b u e=>by
 obtain⟨z1,z2,z3⟩:=zan.mp e;exact zan.mpr ⟨z1,fun m=>z2 (mem_append_left _ m),z3⟩
theorem Ex.pop{o o' r:List Addr}{H H':Hp}(e:Ex o H (o++r) H'):Ex o H o H':=⟨⟨[],by simp⟩,fun b u hb eb=>⟨hb,(e.kp b u hb eb).2⟩⟩
theorem zjg{caps:List (Option Nat)}{wi:TI}{g:TG}{tt:TT}{te:TE}{di:DI}{dg:DG}{dtt:DT}{dte:DE}(hi:RI wi di)(hg:RG g dg)(ht:RT tt dtt)(he':RE te dte)
  {h o:List Addr} {H:Hp} {δ:XE} {σ:St} {S:Sto} {Q:VK} {fin:Nat->Sto->Prop} (he:RepE h o H δ σ) (hs:RepS h o H S) (q:di δ S fun ds S1=>zeP S1.length dg dtt dte (fin S1.length) ds (zo1 caps δ) (S1++[[]]))
  (c:∀ o1 H1 D o2 H2 S2,Ex o H o1 H1->H1 D=none->Ex (o1++[D]) (upd H1 D (.lst [])) o2 H2->RepS h o2 H2 S2->fin o1.length S2->Q (.ref D) H2):zkK caps wi g tt te σ H Q:=by
 refine hi h o H δ σ S _ _ he hs q fun o1 H1 S1 ds J e1 s1 wk d1 D hD=>?_;have eN:Ex o1 H1 (o1++[D]) (upd H1 D (.lst [])):=Ex.new s1 hD;have sN:RepS h (o1++[D]) (upd H1 D (.lst [])) (S1++[[]]):=s1.new hD (zH.mpr rfl);have hn:S1.length=o1.length:=s1.len;refine⟨fun i m τ H2=>m=ds.length - i/\i<=ds.length/\∃ o2 δ2 S2,Ex (o1++[D]) (upd H1 D (.lst [])) o2 H2/\RepE h o2 H2 δ2 τ/\RepS h o2 H2 S2/\zeP S1.length dg dtt dte (fin S1.length) (ds.drop i) δ2 S2,⟨ds.length,by simp,zero_le _,_,_,_,Ex.refl,((he.mono e1).mono eN).tau,sN,d1⟩,?_⟩;rintro i m τ H2 ⟨rfl,hi,o2,δ2,S2,e2,he2,hs2,d2⟩;by_cases hlt:i<ds.length
 ·have ed:ds[i]? = some ds[i]:=getElem?_eq_getElem hlt;rw [drop_eq_getElem_cons hlt] at d2;refine .inr ⟨wk.go i _ o2 H2 (eN.trans e2).hid ed,fun x H3 y=>?_⟩;obtain⟨s3,hx⟩:=wk.yld i _ o2 H2 x H3 S2 (eN.trans e2).hid hs2 ed y;have e23:Ex o2 H2 o2 H3:=Ex.of_same s3;refine hg h o2 H3 δ2 τ S2 (.d ds[i]) x _ _ (he2.mono e23) (hs2.same s3) hx d2 fun o4 H4 δ4 S4 τ4 e4 he4 hs4 d4=>?_;refine ht h o4 H4 δ4 τ4 S4 _ _ he4 hs4 d4 fun o5 H5 S5 b e5 s5 d5=>?_;have e15:=((e2.trans e23).trans e4).trans e5;cases b with
  | false=>exact zmu ⟨ds.length - (i+1),by omega,rfl,hlt,o5,δ4,S5,e15,he4.mono e5,s5,by simpa using d5⟩
  | true =>
   refine zmt (he' h o5 H5 δ4 τ4 S5 _ _ (he4.mono e5) s5 (by simpa using d5) fun o6 H6 S6 z v e6 s6 z6 d6=>?_);replace d6:=ze9 d6;obtain⟨e,rfl,acc,ea,hl,d6⟩:=d6;have e16:=e15.trans e6;have eD:o6[S1.length]? = some D:=by
    obtain⟨r,rfl⟩:=e16.pre;rw [hn];exact zdX (by rw [getElem?_concat_length])
   obtain⟨vs,ev,l⟩:=s6.cont _ D acc eD ea;refine⟨vs,ev,by rw [l.length]; exact small1000 (le_of_lt hl),ds.length - (i+1),by omega,rfl,hlt,o6,δ4,_,e16.trans (Ex.upd eD),((he4.mono e5).mono e6).mono (Ex.upd eD),s6.upd eD (l.append (zC.mpr ⟨v,[],rfl,z6,zH.mpr rfl⟩)),d6⟩
 ·have ei:i=ds.length:=by omega
  subst ei;rw [drop_length] at d2;exact .inl ⟨wk.stop _ o2 H2 (eN.trans e2).hid (le_refl _),c o1 H1 D o2 H2 S2 e1 hD e2 hs2 (hn▸d2)⟩
theorem zd9{caps:List (Option Nat)}{wi:TI}{g:TG}{tt:TT}{te:TE}{di:DI}{dg:DG}{dtt:DT}{dte:DE}(hi:RI wi di)(hg:RG g dg)(ht:RT tt dtt)(he':RE te dte):RE (zkK caps wi g tt te) (ze8 caps di dg dtt dte):=fun h o H δ σ S R Q he hs q c=>by
 refine zjg (fin:=fun n S2=>R (.l n) S2) hi hg ht he' he hs q fun o1 H1 D o2 H2 S2 e1 hD e2 s2 f=>?_;have eN:Ex o1 H1 (o1++[D]) (upd H1 D (.lst [])):=⟨⟨[D],rfl⟩,fun b w hb e=>by
  have ne:b≠D:=zQ e hD;exact⟨by simp [hb,ne],by rw [zR ne]; exact e⟩⟩
 refine c o2 H2 S2 (.l o1.length) _ ((e1.trans eN).trans e2) s2 ⟨D,?_,rfl⟩ f;obtain⟨r,rfl⟩:=e2.pre;exact zdX (by rw [getElem?_concat_length])
theorem zav{caps:List (Option Nat)}{wi:TI}{g:TG}{tt:TT}{te:TE}{di:DI}{dg:DG}{dtt:DT}{dte:DE}(hi:RI wi di)(hg:RG g dg)(ht:RT tt dtt)(he':RE te dte):RE (zkK caps wi g tt te) (zbK caps di dg dtt dte):=fun h o H δ σ S R Q he hs q c=>by
 refine zjg (fin:=fun n S2=>∃ (S0:Sto) (acc:List PyData),S2=S0++[acc]/\S0.length=n/\R (.d (.list acc)) S0) hi hg ht he' he hs q fun o1 H1 D o2 H2 S2 e1 hD e2 s2 ⟨S0,acc,eS,hl,f⟩=>?_;subst eS;have eN:Ex o1 H1 (o1++[D]) (upd H1 D (.lst [])):=⟨⟨[D],rfl⟩,fun b w hb e=>by
  have ne:b≠D:=zQ e hD;exact⟨by simp [hb,ne],by rw [zR ne]; exact e⟩⟩
 have e12:=eN.trans e2;obtain⟨r,rfl⟩:=e2.pre;have er:r=[]:=by
  have:=s2.len;simp only [length_append,length_singleton,hl] at this;exact eq_nil_of_length_eq_zero (by omega)
 subst er;rw [append_nil] at s2 e12;have s0:RepS h o1 H2 S0:=s2.pop hl;refine c o1 H2 S0 (.d (.list acc)) _ (e1.trans (Ex.pop (o':=o1) e12)) s0 ?_ f;obtain⟨vs,ev,l⟩:=s2.cont o1.length D acc (by rw [getElem?_concat_length]) (by rw [<- hl,getElem?_concat_length]);have nD:D∉o1:=by
  have:=(nodup_append.mp s2.nd).2.2;intro m;exact this D m D (by simp) rfl
 exact za5.mpr ⟨D,vs,rfl,zan.mpr ⟨s2.dis D (by simp),nD,ev⟩,l.mono zf4⟩
def fin(n:Nat)(R:RX):RX:=fun y S'=>match y with
 | .l k=>if k<n then R (.l k) (S'.take n) else ∃ ds,S'[k]? = some ds/\(R (.d (.list ds)) (S'.take n)\/R (.l n) (S'.take n++[ds]))
 | y=>R y (S'.take n)
theorem zq7{h o:List Addr}{H:Hp}{S:Sto}{R:RX}{Q:VK}(hs:RepS h o H S)(c:Cn h o H R Q):Cn h o H (fin S.length R) Q:=fun o' H' S' y v e s' hy q=>by
 obtain⟨r,rfl⟩:=e.pre;have eS:S'=S'.take S.length++S'.drop S.length:=(List.take_append_drop _ _).symm;have hl:(S'.take S.length).length=o.length:=by
  have:=s'.len;rw [length_append] at this;rw [length_take,this,hs.len];omega
 have s0:RepS h o H' (S'.take S.length):=by
  rw [eS] at s';exact s'.pop hl
 have e0:Ex o H o H':=Ex.pop (o':=o) e;cases y with
 | d d=>exact c o H' _ (.d d) v e0 s0 (Has.mono zf4 d v hy) q
 | o w=>exact c o H' _ (.o w) v e0 s0 hy q
 | x C fs=>exact c o H' _ (.x C fs) v e0 s0 (HasE.mono zf4 hy) q
 | l k =>
  unfold fin at q;by_cases hk:k<S.length
  ·simp only [hk,↓reduceIte] at q;obtain⟨a,ea,rfl⟩:=hy;exact c o H' _ (.l k) _ e0 s0 ⟨a,by rw [getElem?_append_left (by rw [<- hs.len]; exact hk)] at ea; exact ea,rfl⟩ q
  ·simp only [hk,↓reduceIte] at q;obtain⟨ds,eds,q⟩:=q;obtain⟨a,ea,rfl⟩:=hy;obtain⟨vs,ev,l⟩:=s'.cont k a ds ea eds;have na:a∉o:=fun m=>by
    obtain⟨j,ej⟩:=mem_iff_getElem?.mp m;have hj:j<o.length:=(List.getElem?_eq_some_iff.mp ej).1;have:=zff s'.nd (zdX (t:=r) ej) ea;rw [hs.len] at hk;omega
   have nh:a∉h:=s'.dis a (mem_of_getElem? ea);rcases q with q | q
   ·exact c o H' _ (.d (.list ds)) _ e0 s0 (za5.mpr ⟨a,vs,rfl,zan.mpr ⟨nh,na,ev⟩,l.mono zf4⟩) q
   ·have hn:H a=none:=by
     cases eh:H a with
     | none=>rfl
     | some u=>exact absurd (mem_of_getElem? ea) (e.kp a u na eh).1
    have e1:Ex o H (o++[a]) H':=⟨⟨[a],rfl⟩,fun b u hb eb=>⟨by simp only [mem_append,mem_singleton,not_or]; exact⟨hb,zQ eb hn⟩,(e0.kp b u hb eb).2⟩⟩;have sub:Same (vx h (o++r) H') (vx h (o++[a]) H'):=fun b u eb=>by
     obtain⟨z1,z2,z3⟩:=zan.mp eb;refine zan.mpr ⟨z1,?_,z3⟩;simp only [mem_append,mem_singleton,not_or];exact⟨fun m=>z2 (mem_append_left _ m),fun z=>z2 (by rw [z]; exact mem_of_getElem? ea)⟩
    refine c (o++[a]) H' _ (.l S.length) _ e1 ⟨by rw [length_append,length_append,hl]; rfl,zcD hs.nd na,fun b hb=>?_,s0.hal,fun j b es q1 q2=>?_⟩ ⟨a,by rw [hs.len,getElem?_concat_length],rfl⟩ q
    ·rcases mem_append.mp hb with hb | hb
     ·exact hs.dis b hb
     ·rw [mem_singleton.mp hb]; exact nh
    ·by_cases hj:j<o.length
     ·rw [getElem?_append_left hj] at q1;rw [getElem?_append_left (by rw [hl]; exact hj),List.getElem?_take_of_lt (by rw [hs.len]; exact hj)] at q2;obtain⟨ws,e3,l3⟩:=s'.cont j b es (zdX q1) q2;exact⟨ws,e3,l3.mono sub⟩
     ·have hj':j=o.length:=by
       obtain⟨q,_⟩:=List.getElem?_eq_some_iff.mp q1;rw [length_append,length_singleton] at q;omega
      subst hj';rw [getElem?_concat_length] at q1;rw [<- hl,getElem?_concat_length] at q2;cases q1;cases q2;exact⟨vs,ev,l.mono sub⟩
def zbi(n:Nat)(R:RX):DEnds:={ nx:=fun _ S'=>fin n R (.d .none) S',rt:=fin n R }
theorem eok{h o:List Addr}{H:Hp}{S:Sto}{R:RX}{Q:VK}(hs:RepS h o H S)(c:Cn h o H R Q):EOk h o H (zbi S.length R) { nx:=fun _ H'=>Q .non H',rt:=Q } :=
 ⟨fun o' H' δ' S' σ' e he hs' q=>zq7 hs c o' H' S' _ _ e hs' xN q,zq7 hs c,fun _ _ _ _ _ _ _ _ q=>q.elim,fun _ _ _ _ _ _ _ _ q=>q.elim⟩
def zaU(p:List PyData):Prop:=∃ l g s:Int,p=[.int l,.int g,.int s]/\0<=l
end
section
def zvQ(K:W.Frag):List V->Hp->VK->Prop:=fun xs H Q=>∃ (p:Addr) (ns:List Int),xs=[.ref p]/\SqL K H p (ns.map V.int)/\Q (.int ns.sum) H
def zv8(K:W.Frag):List V->Hp->VK->Prop:=fun xs H Q=>∃ (p:Addr) (bs:List Bool),xs=[.ref p]/\SqL K H p (bs.map V.bl)/\Q (.bl (bs.all id)) H
theorem zmw:bootBuiltins "sum" = some (.builtin "sum"):=by decide +kernel
theorem zfS:bootBuiltins "all" = some (.builtin "all"):=by decide +kernel
section
variable {X:Cx}
theorem zgH(hc:X.calm=true):CallR X (.builtin "sum") (zvQ X.K):=by
 intro zn s σ H xs us Q I r h;obtain⟨p,ns,rfl,hq,q⟩:=h;obtain⟨u,rfl,rx⟩:=vals1 r;cases (show u=Value.ref p from rx);obtain⟨its,rv,pl,_⟩:=I.list hq;obtain⟨ys,e,hns⟩:=zhc (zaT rv);refine sum_intListG (I.ok.hd hc) (by rw [<- e]; exact pl.isList) fun h' tk t' hk=>⟨.int ns.sum,H,I.kept (t':=tk) hk,⟨t',?_⟩,q⟩;have es:preSum (numAt ys) ys.size=ns.sum:=by
  rw [preSum_eq,hns,take_of_length_le (by simp)]
 rw [es]
theorem ziw:∀ {bs:List Bool} {us:List Value} {i:Nat} {v:Value},Vals (bs.map V.bl) us->us[i]? = some v->∃ b,bs[i]? = some b/\v=.bool b
 | [],_,i,v,.nil,e=>by simp at e
 | b :: bs,_,0,v,.cons r _,e=>by
  rw [getElem?_cons_zero] at e;cases e;exact⟨b,rfl,r⟩
 | b :: bs,_,i+1,v,.cons _ t,e=>by
  obtain⟨c,e1,e2⟩:=ziw (i:=i) (v:=v) t (by simpa using e);exact⟨c,by simpa using e1,e2⟩
theorem zrA(bs:List Bool):((List.range bs.length).all fun i=>(bs[i]?).getD true)=bs.all id:=by
 rw [Bool.eq_iff_iff,all_eq_true,all_eq_true];constructor
 ·intro h b hb;obtain⟨i,hi⟩:=mem_iff_getElem?.mp hb;have hl:=(List.getElem?_eq_some_iff.mp hi).1;have:=h i (mem_range.mpr hl);rw [hi] at this;exact this
 ·intro h i hi;have hl:=mem_range.mp hi;rw [getElem?_eq_getElem hl];exact h _ (getElem_mem hl)
theorem zcj(hc:X.calm=true):CallR X (.builtin "all") (zv8 X.K):=by
 intro zn s σ H xs us Q I r h;obtain⟨p,bs,rfl,hq,q⟩:=h;obtain⟨u,rfl,rx⟩:=vals1 r;cases (show u=Value.ref p from rx);obtain⟨its,rv,pl,_⟩:=I.list hq;have hl:=pl.isList;have hlt:p<s.heap.objs.size:=by
  obtain⟨_,e,_⟩:=hl;exact lt_size e
 refine call_all_walk (x:=Value.ref p) (wpAny_pyIter_list hl ?_);refine⟨s.heap.objs.size,[s.heap.objs.size,p],[s.heap.objs.size],its.toArray.size,_,_,fun i=>(bs[i]?).getD true,rfl,
  Walks.list (A:=X.A.in1) (I.ok.hd hc) _ p (ne_of_lt hlt) its.toArray,⟨⟨_,get?_push_size _ rfl,rfl,rfl⟩,hl.push _⟩,fun i v s' Q' E' hP hQ=>?_,fun h' tk hk=>?_⟩
 ·obtain⟨b,e,rfl⟩:=ziw (i:=i) (v:=v) rv (by simpa using hP);have hQ':Q' b s':=by simpa [e] using hQ
  exact wpAny_truthy_bool hQ'
 ·have hz:its.toArray.size=bs.length:=by
   have:=rv.length;rw [length_map] at this;simp [this]
  rw [hz,zrA];refine⟨.bl _,H,I.kept (t':=tk) fun b o e=>hk b o (fun hm=>?_) (get?_push_of_some _ e),rfl,q⟩;rw [mem_singleton.mp hm] at e;exact lt_irrefl _ (lt_size e)
end
def zsH:List XV->Sto->RX->Prop:=fun xs S R=>arg1 xs fun x=>∃ ds,zn1 S x=some ds/\∃ ns:List Int,ds=ns.map PyData.int/\R (.d (.int ns.sum)) S
theorem zkY{K:W.Frag}:RC (zvQ K) zsH:=fun h o H S xs vs R Q hs hx q c=>by
 obtain⟨x,rfl,ds,hd,ns,rfl,q1⟩:=za3 q;obtain⟨v,rfl,hx1⟩:=hxs1 hx;obtain⟨a,ws,rfl,ea,l⟩:=zbt hs hd hx1;rw [zbo l] at ea;exact⟨a,ns,rfl,.of ea,c o H S _ _ Ex.refl hs (xI _) q1⟩
theorem zgy{H:Hp}:∀ {ns:List Bool} {vs:List V},HasL H (ns.map PyData.bool) vs->vs=ns.map V.bl
 | [],vs,h=>zH.mp h
 | n :: ns,vs,h=>by
  obtain⟨v,r,rfl,h1,h2⟩:=zC.mp h;rw [zd5.mp h1,zgy h2];rfl
def zmY:List XV->Sto->RX->Prop:=fun xs S R=>arg1 xs fun x=>∃ ds,zn1 S x=some ds/\∃ ns:List Bool,ds=ns.map PyData.bool/\R (.d (.bool (ns.all id))) S
theorem zfd{K:W.Frag}:RC (zv8 K) zmY:=fun h o H S xs vs R Q hs hx q c=>by
 obtain⟨x,rfl,ds,hd,ns,rfl,q1⟩:=za3 q;obtain⟨v,rfl,hx1⟩:=hxs1 hx;obtain⟨a,ws,rfl,ea,l⟩:=zbt hs hd hx1;rw [zgy l] at ea;exact⟨a,ns,rfl,.of ea,c o H S _ _ Ex.refl hs (xB _) q1⟩
section
variable {S:Sto} {i:Int} {b:Bool} {z:Str} {ds:List PyData} {d:PyData} {k:Nat} {x y:XV} {R:RX} {c:String} {p:List PyData} {n:Nat} {v:V}
theorem zty{K:Int->Prop}:asI (.d (.int i)) K=K i:=rfl
theorem ztk{K:Bool->Prop}:asB (.d (.bool b)) K=K b:=rfl
theorem zuO{K:Str->Prop}:asS (.d (.str z)) K=K z:=rfl
theorem zt4{K:List PyData->Prop}:asT (.d (.tuple ds)) K=K ds:=rfl
theorem zte{K:PyData->Prop}:asD (.d d) K=K d:=rfl
theorem zq4:zn1 S (.d (.list ds))=some ds:=rfl
theorem ztV:asQ S (.d (.list ds))=some ds:=rfl
theorem zs5:asQ S (.d (.tuple ds))=some ds:=rfl
theorem ztg:asQ S (.l k)=S[k]?:=rfl
theorem zmJ:zi4 S (.d d)=some d:=rfl
theorem zne:zi4 S (.l k)=(S[k]?).map .list:=rfl
theorem zqq:ret0 S R (.d d) []=R (.d d) S:=rfl
theorem zrd:ret0 S R (.l 0) [ds]=R (.l S.length) (S++[ds]):=rfl
theorem zre:zu3 k S R (.d d) [p]=R (.d d) (S.set k p):=rfl
theorem zsY:fin n R (.d d) S=R (.d d) (S.take n):=rfl
theorem ztv:fin n R (.l k) S=if k<n then R (.l k) (S.take n) else ∃ ds,S[k]? = some ds/\(R (.d (.list ds)) (S.take n)\/R (.l n) (S.take n++[ds])):=rfl
theorem zqj{K:XV->Prop}:arg1 [x] K=K x:=rfl
theorem zqr{K:XV->XV->Prop}:arg2 [x,y] K=K x y:=rfl
theorem zri{K:String->Prop}:zvK (.o (.ty c)) K↔K c:=⟨fun⟨_,e,q⟩=>by cases e; exact q,fun q=>⟨c,rfl,q⟩⟩
theorem zqm{K:Int->Prop}:zvl (.d (.bool b)) K=K (if b then 1 else 0):=rfl
theorem znO{δ:XE}:(zbi n R).nx δ S=fin n R (.d .none) S:=rfl
theorem zn3:(zbi n R).rt x S=fin n R x S:=rfl
theorem zjX:datas []=some []:=rfl
theorem zh4{r:List XV}:datas (.d d :: r)=(datas r).map (d :: ·):=rfl
end
theorem zti{α:Type}{a:α}{l:List α}:atI (a :: l) 0=some a:=zcH (j:=0) rfl
theorem zur{α:Type}{a b:α}{l:List α}:atI (a :: b :: l) 1=some b:=zcH (j:=1) rfl
theorem ztI{α:Type}{a b c:α}{l:List α}:atI (a :: b :: c :: l) 2=some c:=zcH (j:=2) rfl
theorem zua{α:Type}{a b c d:α}{l:List α}:atI (a :: b :: c :: d :: l) 3=some d:=zcH (j:=3) rfl
theorem ztd{α:Type}{a b c d e:α}{l:List α}:atI (a :: b :: c :: d :: e :: l) 4=some e:=zcH (j:=4) rfl
def Shp(n:Nat)(d:PyData):Prop:=d.canLay0=true/\d.depth<=n
theorem zeL{n:Nat}{i:Int}:Shp n (.int i):=⟨rfl,zero_le _⟩
theorem zkE{n:Nat}:∀ {ds:List PyData},(∀ d∈ds,Shp n d)->PyData.canLayAll0 ds=true/\PyData.depthAll ds<=n
 | [],_=>⟨by simp only [PyData.canLayAll0],by simp only [PyData.depthAll]; exact zero_le _⟩
 | d :: ds,h=>by
  obtain⟨h1,h2⟩:=h d mem_cons_self;obtain⟨h3,h4⟩:=zkE (ds:=ds) fun e m=>h e (mem_cons_of_mem _ m);simp only [PyData.canLayAll0,PyData.depthAll,h1,h3,Bool.and_true,true_and];omega
theorem zk3{n:Nat}{ds:List PyData}(h:∀ d∈ds,Shp n d):Shp (n+1) (.list ds):=by
 obtain⟨h1,h2⟩:=zkE h;exact⟨by simp only [PyData.canLay0]; exact h1,by simp only [PyData.depth]; omega⟩
theorem zhr{n:Nat}{ds:List PyData}(h:∀ d∈ds,Shp n d):Shp (n+1) (.tuple ds):=by
 obtain⟨h1,h2⟩:=zkE h;exact⟨by simp only [PyData.canLay0]; exact h1,by simp only [PyData.depth]; omega⟩
theorem zi3{α:Type}{n:Nat}{f:α->PyData}{l:List α}(h:∀ x∈l,Shp n (f x)):∀ d∈l.map f,Shp n d:=fun d m=>by
 obtain⟨x,hx,rfl⟩:=mem_map.mp m;exact h x hx
theorem zrs{n:Nat}{a b:PyData}(h1:Shp n a)(h2:Shp n b):∀ d∈[a,b],Shp n d:=by
 intro d m;simp only [mem_cons,not_mem_nil,or_false] at m;rcases m with rfl | rfl
 ·exact h1
 ·exact h2
theorem Shp.ok{n:Nat}{d:PyData}(h:Shp n d)(hn:n<=64:=by decide):SeqAt.shaped d=true:=by
 unfold SeqAt.shaped;rw [h.1,decide_eq_true (le_trans h.2 hn)];rfl
theorem zab{g:DG}{b:DS}{E:DEnds}:∀ {ds:List PyData} {δ:XE} {S:Sto} (I:Nat->XE->Sto->Prop),I 0 δ S ->
  (∀ i d δ S (N:XE->Sto->Prop),ds[i]? = some d->I i δ S->(∀ δ' S',I (i+1) δ' S'->N δ' S')->g (.d d) δ S fun δ1 S1=>b { nx:=N,ct:=N,bk:=E.nx,rt:=E.rt } δ1 S1) ->
  (∀ δ S,I ds.length δ S->E.nx δ S)->zmh g b ds E δ S
 | [],δ,S,I,h0,_,fin=>fin δ S h0
 | d :: ds,δ,S,I,h0,step,fin=>by
  show g (.d d) δ S fun δ1 S1=>b _ δ1 S1;refine step 0 d δ S _ rfl h0 fun δ' S' h1=>?_;exact zab (ds:=ds) (fun i=>I (i+1)) h1 (fun i e δ S N hi=>step (i+1) e δ S N (by simpa using hi)) fin
theorem ziL{α:Type}{l:List α}{a b:α}{n:Nat}(h:l.length=n):(l++[a]).set n b=l++[b]:=by
 subst h;rw [List.set_append_right _ _ (le_refl _),Nat.sub_self];rfl
theorem zry{H:Hp}:RepS [] [] H []:=⟨rfl,nodup_nil,fun _ h=>(nomatch h),fun _ h=>(nomatch h),fun _ _ _ e=>(by simp at e)⟩
theorem Ex.same_nil{o':List Addr}{H H':Hp}(e:Ex [] H o' H'):Same H H':=fun b u q=>(e.kp b u (by simp) q).2
theorem zrP{K:W.Frag}{a:Addr}{ns:List Int}{N:Int}{j m:Nat}{tb:TS}{db:DS}{D:Ends}{σ:St}{H:Hp}(hb:RS tb db)(h0:σ[0]? = some (some (.ref a)))(hl:σ.length=m+1)(hS:SqL K H a (ns.map V.int))(hlen:ns.length<=63)
  (turn:∀ n:Int,db { nx:=fun δ _=>δ[0]? = some (some (.o (.ref a)))/\δ.length=m+1,ct:=fun δ _=>δ[0]? = some (some (.o (.ref a)))/\δ.length=m+1,rt:=fun _ _=>False } ((some (.o (.ref a)) :: List.replicate m none).set j (some (.d (.int n)))) [])
  (hj:j≠0) (done:∀ (σ:St) (H1:Hp),Same H H1->D.nx σ H1) :
  zs6 (zsq K (tOp zsL (zsF (ziZ (tC2 (zsn K) (zna 0) (tC (.int 0))) zrY)) (tSl (zuB K) (zna 0) (zmc (tC (.int 1))) (zmc (tC (.int N)))))) (zky j) tb D σ H:=by
 refine zn9 (a:=a) (ns:=ns) (fun σ=>σ[0]? = some (some (.ref a))/\σ.length=m+1) h0 hS hlen ⟨h0,hl⟩ ?_ fun σ H1 _ s=>done σ H1 s;rintro n σ1 H1 H2 ⟨z0,z1⟩ s1 s2;refine hb [] [] H2 _ _ [] _ _ ⟨by simp [z1],fun i x e=>?_⟩ zry (turn n) ⟨?_,fun _ _ _ _ _ _ _ _ q=>q.elim,fun _ _ _ _ _ _ _ _ q=>q.elim,?_⟩
 ·rw [List.getElem?_set] at e ⊢;by_cases hij:j=i
  ·rw [if_pos hij] at e ⊢;by_cases hjl:j<m+1
   ·rw [if_pos (by simpa using hjl)] at e;rw [if_pos (by rw [z1]; exact hjl)];cases e;exact⟨.int n,rfl,xI n⟩
   ·rw [if_neg (by simpa using hjl)] at e;cases e
  ·rw [if_neg hij] at e ⊢;cases i with
   | zero =>
    cases e;exact⟨.ref a,z0,rfl⟩
   | succ i =>
    rw [getElem?_cons_succ,List.getElem?_replicate] at e;split at e <;> cases e
 ·rintro o' H' δ' S' σ' e he hs ⟨q1,q2⟩;obtain⟨v,ev,hv⟩:=he.get 0 _ q1;cases hv;exact⟨s2.trans e.same_nil,ev,by rw [<- he.len]; exact q2⟩
 ·rintro o' H' δ' S' σ' e he hs ⟨q1,q2⟩;obtain⟨v,ev,hv⟩:=he.get 0 _ q1;cases hv;exact⟨s2.trans e.same_nil,ev,by rw [<- he.len]; exact q2⟩
end
section
theorem zoj{P:Program}{w:World}{K:W.Frag}{tg:Expr}(it:Addr)(lo:Int)(n:Nat):Turn P w K tg (Itr lo n) [it] it (fun i h=>IsLongIter h it (lo+(i:Nat)*1) ((n:Int) - (i:Nat)) 1) where
 mem:=by simp
 obj:=fun i h st b hb=>by
  have e:b=it:=by simpa using hb
  subst e;exact⟨_,st,fun v z=>by
   have z':Data.fields _=Data.cell v:=z;cases z'⟩
 keep:=fun i h h' st k=>k it (by simp) _ st
 item:=by
  intro X hP hw hK hc i zn s σ H E I hf st hg;subst hP hw hK;obtain⟨f0,f1,f2,f3,f4,f5⟩:=hf it (by simp);have W:=Walks.longrange (prog:=X.prog) (w:=X.w) (I.ok.hd hc) it lo 1 n;refine W.item i s _ _ hg st fun v h' tk hv st' kk=>?_;obtain⟨t,rfl⟩:=hv;have I1:Inv X zn σ H { s with heap:=h',toks:=tk }:=I.turned (fun b o hb e=>kk b o (by simpa using hb) e) f0 f1 f3 f4 f5;refine⟨_,rfl,zoX (s:={ s with heap:=h',toks:=tk }) (n:="longrange_iterator") st' rfl rfl dz ⟨.int (lo+i),H,I1,⟨t,?_⟩,⟨rfl,rfl⟩,st',fun b hb=>(hf b hb).1⟩⟩;rw [Int.mul_one]
 done:=by
  intro X hP hw hK hc i zn s σ H E I hf st hg;subst hP hw hK;obtain⟨f0,f1,f2,f3,f4,f5⟩:=hf it (by simp);exact wpAny_pyNext_long_end (I.ok.hd hc) st (by have:n<=i:=hg; omega) fun h' eb=>⟨rfl,I.turned (t':=s.toks) (fun b o hb e=>eb b o hb e) f0 f1 f3 f4 f5⟩
 self:=fun _ _ _ _ _ st h=>wpAny_pyIter_longiter st h
section
variable {X:Cx} {tg:Expr}
theorem znt{zn:List (Addr×Obj)}{σ:St}{H:Hp}{s:Shared}{R:It->Hp->Prop}{E:Value->Shared->Prop}{lo hi:Int}{t u v:Tok}{tk:Nat}(I:Inv X zn σ H s)
  (q:R (Itr lo (hi - lo).toNat) H):wpAny (model X.prog X.w) X.A (pyIter (.ref s.heap.objs.size)) (PIE X zn σ tg R) E { s with heap:=s.heap.push { cls:=.type "range",data:=.fields #[.int lo t,.int hi u,.int 1 v] },toks:=tk }:=by
 have I1:Inv X zn σ H { s with heap:=s.heap.push { cls:=.type "range",data:=.fields #[.int lo t,.int hi u,.int 1 v] },toks:=tk }:=I.kept fun b o e=>get?_push_of_some _ e;have e1:lo+((0:Nat):Int)*1=lo:=by simp
 have e2:(((hi - lo).toNat:Nat):Int) - ((0:Nat):Int)=Builtin.Range.rangeSize lo hi 1:=by rw [rangeSize_one]; split <;> omega
 cases hsm:Builtin.Range.small lo hi 1 with
 | true =>
  refine wpAny_pyIter_range (IsRange.new ..) hsm ?_;refine⟨(s.heap.push { cls:=.type "range",data:=.fields #[.int lo t,.int hi u,.int 1 v] }).objs.size,[(s.heap.push { cls:=.type "range",data:=.fields #[.int lo t,.int hi u,.int 1 v] }).objs.size],_,_,H,rfl,
   I1.kept (t':=tk) fun b o e=>get?_push_of_some _ e,zmi _ lo (hi - lo).toNat,?_,fun b hb=>?_,q⟩
  ·show IsRangeIter _ _ (lo+((0:Nat):Int)*1) ((((hi - lo).toNat:Nat):Int) - ((0:Nat):Int)) 1;rw [e1,e2];exact get?_push_size _ rfl
  ·have e:b=(s.heap.push { cls:=.type "range",data:=.fields #[.int lo t,.int hi u,.int 1 v] }).objs.size:=by simpa using hb
   subst e;exact I1.fpOk (le_refl _) (I1.hok.fresh (le_refl _))
 | false =>
  refine wpAny_pyIter_longrange (IsRange.new ..) hsm ?_;refine⟨(s.heap.push { cls:=.type "range",data:=.fields #[.int lo t,.int hi u,.int 1 v] }).objs.size,[(s.heap.push { cls:=.type "range",data:=.fields #[.int lo t,.int hi u,.int 1 v] }).objs.size],_,_,H,rfl,
   I1.kept (t':=tk) fun b o e=>get?_push_of_some _ e,zoj _ lo (hi - lo).toNat,?_,fun b hb=>?_,q⟩
  ·show IsLongIter _ _ (lo+((0:Nat):Int)*1) ((((hi - lo).toNat:Nat):Int) - ((0:Nat):Int)) 1;rw [e1,e2];exact get?_push_size _ rfl
  ·have e:b=(s.heap.push { cls:=.type "range",data:=.fields #[.int lo t,.int hi u,.int 1 v] }).objs.size:=by simpa using hb
   subst e;exact I1.fpOk (le_refl _) (I1.hok.fresh (le_refl _))
def zqA(ta:TA):TI:=fun σ H R=>ta σ H fun vs H1=>∃ j:Int,vs=[.int j]/\R (Itr 0 j.toNat) H1
theorem zaA{a:Expr}{ta:TA}{p pos:Pos}(hg:Gl X "range")(hm:X.mg "range" = none)(ha:PA X [a] ta)(hs:starEach [a] X.env=[(false,eval a X.env)]:=by rfl):PI X tg (.Call (.Name "range" p) [a] [] pos) (zqA ta):=by
 intro zn s σ H R I h;refine Call_ (zcR I hg hm boot_range (PyProof.Rows.callWith_type1 (thn (ha pos zn s σ H _ I h) fun us s1 ⟨vs,H1,I1,r1,q1⟩=>?_) hs rfl));obtain⟨j,e,q⟩:=q1;subst e;cases r1 with
 | cons r rr =>
  cases rr;obtain⟨t,rfl⟩:=r;exact call_range_1 (znt I1 (by simpa using q))
end
def zaM(a:DA):DI:=fun δ S R=>a δ S fun xs S1=>arg1 xs fun x=>asI x fun j=>R (zfb 0 j.toNat) S1
def zok(a:DA):DI:=fun δ S R=>a δ S fun xs S1=>arg2 xs fun x y=>asI x fun i=>asI y fun j=>R (zfb i (j - i).toNat) S1
theorem zds{ta:TA}{da:DA}(ha:RA ta da):RI (zqA ta) (zaM da):=fun h o H δ σ S R Q he hs q c =>
 ha h o H δ σ S _ _ he hs q fun o1 H1 S1 xs vs e1 s1 x1 d0=>by
  obtain⟨x,rfl,d2⟩:=za3 d0;obtain⟨j,rfl,d1⟩:=zbp d2;obtain⟨v,rfl,hv⟩:=hxs1 x1;rw [za1 hv];exact⟨j,rfl,c o1 H1 S1 _ _ e1 s1 zmU d1⟩
def zvW(K:W.Frag):List V->Hp->VK->Prop:=fun xs H Q=>∃ (p:Addr) (bs:List Bool),xs=[.ref p]/\SqL K H p (bs.map V.bl)/\Q (.bl (bs.any id)) H
theorem ztu:bootBuiltins "any" = some (.builtin "any"):=by decide +kernel
theorem zrV(bs:List Bool):((List.range bs.length).any fun i=>(bs[i]?).getD true)=bs.any id:=by
 rw [Bool.eq_iff_iff,any_eq_true,any_eq_true];constructor
 ·rintro⟨i,hi,h⟩;have hl:=mem_range.mp hi;rw [getElem?_eq_getElem hl] at h;exact⟨_,getElem_mem hl,h⟩
 ·rintro⟨b,hb,h⟩;obtain⟨i,hi⟩:=mem_iff_getElem?.mp hb;have hl:=(List.getElem?_eq_some_iff.mp hi).1;refine⟨i,mem_range.mpr hl,?_⟩;rw [hi];exact h
theorem znL{X:Cx}(hc:X.calm=true):CallR X (.builtin "any") (zvW X.K):=by
 intro zn s σ H xs us Q I r h;obtain⟨p,bs,rfl,hq,q⟩:=h;obtain⟨u,rfl,rx⟩:=vals1 r;cases (show u=Value.ref p from rx);obtain⟨its,rv,pl,_⟩:=I.list hq;have hl:=pl.isList;have hlt:p<s.heap.objs.size:=by
  obtain⟨_,e,_⟩:=hl;exact lt_size e
 refine call_any_walk (x:=Value.ref p) (wpAny_pyIter_list hl ?_);refine⟨s.heap.objs.size,[s.heap.objs.size,p],[s.heap.objs.size],its.toArray.size,_,_,fun i=>(bs[i]?).getD true,rfl,
  Walks.list (A:=X.A.in1) (I.ok.hd hc) _ p (ne_of_lt hlt) its.toArray,⟨⟨_,get?_push_size _ rfl,rfl,rfl⟩,hl.push _⟩,fun i v s' Q' E' hP hQ=>?_,fun h' tk hk=>?_⟩
 ·obtain⟨b,e,rfl⟩:=ziw (i:=i) (v:=v) rv (by simpa using hP);have hQ':Q' b s':=by simpa [e] using hQ
  exact wpAny_truthy_bool hQ'
 ·have hz:its.toArray.size=bs.length:=by
   have:=rv.length;rw [length_map] at this;simp [this]
  rw [hz,zrV];refine⟨.bl _,H,I.kept (t':=tk) fun b o e=>hk b o (fun hm=>?_) (get?_push_of_some _ e),rfl,q⟩;rw [mem_singleton.mp hm] at e;exact lt_irrefl _ (lt_size e)
def zu9:List XV->Sto->RX->Prop:=fun xs S R=>arg1 xs fun x=>∃ ds,zn1 S x=some ds/\∃ ns:List Bool,ds=ns.map PyData.bool/\R (.d (.bool (ns.any id))) S
theorem zqL{K:W.Frag}:RC (zvW K) zu9:=fun h o H S xs vs R Q hs hx q c=>by
 obtain⟨x,rfl,ds,hd,ns,rfl,q1⟩:=za3 q;obtain⟨v,rfl,hx1⟩:=hxs1 hx;obtain⟨a,ws,rfl,ea,l⟩:=zbt hs hd hx1;rw [zgy l] at ea;exact⟨a,ns,rfl,.of ea,c o H S _ _ Ex.refl hs (xB _) q1⟩
end
section
open Sem (wp)
open AutoSeq1 (wpAny_loadPart')
section
variable {X:Cx} {zn:List (Addr×Obj)} {σ:St} {H:Hp} {s:Shared} {h':Heap}
theorem Inv.turnLaid{t':Nat}{ch:List Addr}{T:Addr}{o:HO}(I:Inv X zn σ H s)(k:∀ b u,b∉ch->s.heap.get? b=some u->h'.get? b=some u)(hf:∀ b∈ch,FpOk X zn H b)(hT:s.heap.objs.size<=T)
  (new:ObjOk X.prog X.w (upd H T o) h' T o):Inv X zn σ (upd H T o) { s with heap:=h',toks:=t' }:=by
 have hn:H T=none:=I.hok.fresh hT;have nch:∀ b u,H b=some u->b∉ch:=fun b u e m=>by rw [(hf b m).1] at e; cases e
 have neT:∀ b u,s.heap.get? b=some u->b≠T:=fun b u e z=>absurd (lt_of_lt_of_le (lt_size e) hT) (by rw [z]; exact lt_irrefl _);have up:∀ b u,H b=some u->upd H T o b=some u:=fun b u e=>(zR (zQ e hn)).trans e;refine I.step (g':=s.gens) (d':=s.drawn) (ch:=ch) (fun b hb=>?_) (fun b u _ _ hc e _=>k b u hc e) (fun b u _ _ hc e _=>⟨u.slots,k b u hc e⟩) (fun b u _ e n=>(zR (neT b u e)).trans n)
  (fun b u hc e=>⟨u,k b u hc e⟩) (fun b xs e=>up b _ e) (fun b u v e=>up b _ e) (fun b ps e=>up b _ e) (fun m hm=>?_) (fun b u e=>?_) I.bare
 ·obtain⟨_,f1,_,f3,f4,f5⟩:=hf b hb;exact⟨f3,f1,f4,f5⟩
 ·obtain⟨ob,es,ep,ho,r⟩:=hm;exact⟨ob,es,ep,k _ ob (fun z=>(hf _ z).2.1 rfl) ho,r⟩
 ·by_cases hb:b=T
  ·subst hb;rw [zau] at e;cases e;exact new
  ·rw [zR hb] at e;refine(I.hok b u e).stay (fun c v hc q=>k c v ?_ q) (fun c q=>up c _ q) (fun c xs q=>up c _ q) fun c o u q=>up c _ q;rcases hc with z | z
   ·rw [z]; exact nch b u e
   ·exact nch c _ z
theorem Inv.turnedN{t':Nat}{ch:List Addr}(I:Inv X zn σ H s)(k:∀ b u,b∉ch->s.heap.get? b=some u->h'.get? b=some u)(hf:∀ b∈ch,FpOk X zn H b):Inv X zn σ H { s with heap:=h',toks:=t' }:=by
 have nch:∀ b u,H b=some u->b∉ch:=fun b u e m=>by rw [(hf b m).1] at e; cases e
 refine I.step (g':=s.gens) (d':=s.drawn) (ch:=ch) (fun b hb=>?_) (fun b u _ _ hc e _=>k b u hc e) (fun b u _ _ hc e _=>⟨u.slots,k b u hc e⟩) (fun b u _ e n=>n)
  (fun b u hc e=>⟨u,k b u hc e⟩) (fun b xs e=>e) (fun b u v e=>e) (fun b ps e=>e) (fun m hm=>?_) (fun b u e=>?_) I.bare
 ·obtain⟨_,f1,_,f3,f4,f5⟩:=hf b hb;exact⟨f3,f1,f4,f5⟩
 ·obtain⟨ob,es,ep,ho,r⟩:=hm;exact⟨ob,es,ep,k _ ob (fun z=>(hf _ z).2.1 rfl) ho,r⟩
 ·refine(I.hok b u e).stay (fun c v hc q=>k c v ?_ q) (fun _ q=>q) fun _ _ q=>q;rcases hc with z | z
  ·rw [z]; exact nch b u e
  ·exact nch c _ z
end
section
variable {prog:Program} {w:World} {A:Around} {E:Value->Shared->Prop} {s:Shared}
theorem zhZ{j t:Addr}{i:Nat}{vs:Array Value}{x:Value}{Q:Value->Shared->Prop}(hj:s.heap.IsTupleIter j t i)(ht:s.heap.IsTuple t vs)(hx:vs[i]? = some x)
  (hQ:∀ g,g.IsTupleIter j t (i+1)->Heap.SameBut j s.heap g->Q x { s with heap:=g }):wpAny (model prog w) A (Builtin.SmallTypes.nextOf (.ref j)) Q E s:=by
 obtain⟨oj,ej,cj,dj⟩:=id hj;obtain⟨ot,et,_,nt,dt⟩:=ht;unfold Builtin.SmallTypes.nextOf;refine wpAny_bind (wpAny_callSpecial?_slot (name:=Str.ofString "__next__") hj.typeIs F.slot_tuple_iterator_next (wpAny_call_entry F.slot_tuple_iterator_next hj.typeIs F.entry_tuple_iterator_next ?_ (F.args_tuple_iterator_next_1 _)));show wpAny _ _ (field (.ref j) 0 >>= _) _ _ s;refine wpAny_bind (wpAny_field ej dj (x:=.ref t) rfl ?_);show wpAny _ _ (ite ((Value.ref t == Value.none)=true) _ _) _ _ s;refine(if_neg (show ¬ ((Value.ref t == Value.none)=true) from Bool.false_ne_true))▸?_;show wpAny _ _ (field (.ref j) 1 >>= _) _ _ s;refine wpAny_bind (wpAny_field ej dj (x:=.int i 0) rfl ?_);refine wpAny_bind (m:=seqItems? (.ref t)) (wpAny_seqItems et dt ?_);simp only [hx,Int.toNat_natCast];refine wpAny_bind (wpAny_setField ej dj (by simp) (wpAny_pure ⟨x,rfl,wpAny_pure (hQ _ ⟨_,get?_update_self _ ej (Obj.isFreed_of_fields (Obj.data_mapFields dj _)),(Obj.cls_mapFields ..).trans cj,?_⟩ (Heap.SameBut.update ..))⟩));rw [Obj.data_mapFields dj];simp [rawInt]
theorem zen{j t:Addr}{i:Nat}{vs:Array Value}{Q:Value->Shared->Prop}(hh:A.handled=none)(hj:s.heap.IsTupleIter j t i)(ht:s.heap.IsTuple t vs)(hx:vs[i]? = none)
  (hE:∀ g e,Heap.ExtBut j s.heap g->(∃ o,g.get? e=some o/\o.cls=.type "StopIteration")->E (.ref e) { s with heap:=g }):wpAny (model prog w) A (Builtin.SmallTypes.nextOf (.ref j)) Q E s:=by
 obtain⟨oj,ej,cj,dj⟩:=id hj;obtain⟨ot,et,_,nt,dt⟩:=ht;unfold Builtin.SmallTypes.nextOf;refine wpAny_bind (wpAny_callSpecial?_slot (name:=Str.ofString "__next__") hj.typeIs F.slot_tuple_iterator_next (wpAny_call_entry F.slot_tuple_iterator_next hj.typeIs F.entry_tuple_iterator_next ?_ (F.args_tuple_iterator_next_1 _)));show wpAny _ _ (field (.ref j) 0 >>= _) _ _ s;refine wpAny_bind (wpAny_field ej dj (x:=.ref t) rfl ?_);show wpAny _ _ (ite ((Value.ref t == Value.none)=true) _ _) _ _ s;refine(if_neg (show ¬ ((Value.ref t == Value.none)=true) from Bool.false_ne_true))▸?_;show wpAny _ _ (field (.ref j) 1 >>= _) _ _ s;refine wpAny_bind (wpAny_field ej dj (x:=.int i 0) rfl ?_);refine wpAny_bind (m:=seqItems? (.ref t)) (wpAny_seqItems et dt ?_);simp only [hx,Int.toNat_natCast];refine wpAny_bind (wpAny_rule (wpAny_bind (wpAny_setField ej dj (by simp) ?_)));show wpAny _ _ (newExc (.type "StopIteration") [] >>= _) _ _ _;refine wpAny_bind ?_;simp only [newExc,newTuple];refine wpAny_bind (wpAny_newObj_type ?_ (by size_fits)); refine wpAny_bind (m:=firstArgMember _ _) (wpAny_of_eq (a:=Value.none) (by first | rfl | (simp only [firstArgMember]; rfl)) ?_);refine wpAny_newObj_type ?_ (by size_fits); simp only [raiseNew];refine wpAny_bind (wpAny_handled ?_)
 first | rw [show A.in1.handled=none from hh] | rw [hh]
 exact wpAny_bind (wpAny_pure (wpAny_throw (hE _ _ (((Heap.SameBut.update ..).extBut.push _).push _) ⟨_,get?_push_size _ rfl,rfl⟩)))
theorem zoi{e j:Addr}{i:Nat}{x old:Value}{J:Heap->Prop}{Q:Value->Shared->Prop}(he:IsEnum s.heap e j i old)(hne:e≠j)
  (hn:∀ (Q':Value->Shared->Prop) (E':Value->Shared->Prop),(∀ g,J g->Heap.SameBut j s.heap g->Q' x { s with heap:=g })->wpAny (model prog w) A (Builtin.SmallTypes.nextOf (.ref j)) Q' E' s)
  (hJ:∀ g g',J g->(∀ o,g.get? j=some o->g'.get? j=some o)->J g')
  (hQ:∀ g,IsEnumOut g e j ((i:Int)+1) x s.heap.objs.size->J g->g.get? s.heap.objs.size=some { cls:=.type "tuple",data:=.seq #[.int i s.toks,x] } ->
   (∀ b o,b≠e->b≠j->s.heap.get? b=some o->g.get? b=some o)->Q (.ref s.heap.objs.size) { s with heap:=g,toks:=s.toks+1 }) :
  wpAny (model prog w) A (Builtin.«enumerate.__next__» ⟨[.ref e],[]⟩) (fun fin s'=>∃ v,fin=.done (.ret v)/\Q v s') E s:=by
 obtain⟨h0,gs,dr,tk,os⟩:=s;show wpAny _ _ (field (.ref e) 2 >>= _) _ _ _;refine wpAny_bind (wpAny_field he rfl (x:=.ref j) rfl (wpAny_bind (hn _ _ fun g1 J1 b1=>?_)));replace b1:Heap.SameBut j h0 g1:=b1;have e1:IsEnum g1 e j i old:=(b1.2 e hne).trans he;show wpAny _ _ (field (.ref e) 3 >>= _) _ _ ⟨g1,gs,dr,tk,os⟩;refine wpAny_bind (wpAny_field e1 rfl (x:=rawInt i) rfl ?_);show wpAny _ _ (field (.ref e) 4 >>= _) _ _ ⟨g1,gs,dr,tk,os⟩;refine wpAny_bind (wpAny_field e1 rfl (x:=.none) rfl ?_);show wpAny _ _ (mkInt i >>= _) _ _ ⟨g1,gs,dr,tk,os⟩;refine wpAny_bind (wpAny_mkInt ?_);show wpAny _ _ (setField (.ref e) 3 (rawInt ((i:Int)+1)) >>= _) _ _ ⟨g1,gs,dr,tk+1,os⟩;refine wpAny_bind (wpAny_setField_rec e1 (by simp) fun g2 e2 b2=>?_);replace b2:Heap.SameBut e g1 g2:=b2;replace e2:IsEnum g2 e j ((i:Int)+1) old:=e2;show wpAny _ _ (setField (.ref e) 4 .none >>= _) _ _ ⟨g2,gs,dr,tk+1,os⟩;refine wpAny_bind (wpAny_setField_rec e2 (by simp) fun g3 e3 b3=>?_);replace b3:Heap.SameBut e g2 g3:=b3;replace e3:IsEnum g3 e j ((i:Int)+1) old:=e3;show wpAny _ _ (newTuple [.int i tk,x] >>= _) _ _ ⟨g3,gs,dr,tk+1,os⟩;refine wpAny_bind (wpAny_newTuple ?_);have sz:g3.objs.size=h0.objs.size:=by rw [b3.1,b2.1,b1.1]
 have lt:e<h0.objs.size:=lt_size he;have e4:IsEnum (g3.push { cls:=.type "tuple",data:=.seq #[.int i tk,x] }) e j ((i:Int)+1) old:=get?_push_of_some _ e3;have J3:J g3:=hJ _ _ (hJ _ _ J1 fun o q=>b2.extBut j o (Ne.symm hne) q) fun o q=>b3.extBut j o (Ne.symm hne) q;have J4:J (g3.push { cls:=.type "tuple",data:=.seq #[.int i tk,x] }):=hJ _ _ J3 fun o q=>get?_push_of_some _ q;have t4:(g3.push { cls:=.type "tuple",data:=.seq #[.int i tk,x] }).get? h0.objs.size=some { cls:=.type "tuple",data:=.seq #[.int i tk,x] }:=by rw [<- sz]; exact get?_push_size _ rfl
 have k4:∀ b o,b≠e->b≠j->h0.get? b=some o->(g3.push { cls:=.type "tuple",data:=.seq #[.int i tk,x] }).get? b=some o:=fun b o n1 n2 q=>get?_push_of_some _ (b3.extBut b o n1 (b2.extBut b o n1 (b1.extBut b o n2 q)));generalize g3.push { cls:=.type "tuple",data:=.seq #[.int i tk,x] } = g4 at e4 J4 t4 k4 ⊢;show wpAny _ _ (Builtin.SmallTypes.ownedTupleIsFree (.ref e) >>= _) _ _ ⟨g4,gs,dr,tk+1,os⟩;rw [sz];refine wpAny_bind ?_;unfold Builtin.SmallTypes.ownedTupleIsFree;refine wpAny_bind (wpAny_field e4 rfl (x:=.none) rfl (wpAny_pure ?_));simp only [if_true];refine wpAny_bind (wpAny_rule (wpAny_bind (wpAny_field e4 rfl (x:=old) rfl (wpAny_bind (wpAny_setField_rec e4 (by simp) fun g5 e5 b5=>?_)))));replace b5:Heap.SameBut e g4 g5:=b5;replace e5:IsEnum g5 e j ((i:Int)+1) x:=e5;show wpAny _ _ (Builtin.SmallTypes.ownedTupleHandOut (.ref e) (.ref h0.objs.size) >>= _) _ _ ⟨g5,gs,dr,tk+1,os⟩;refine wpAny_bind ?_;unfold Builtin.SmallTypes.ownedTupleHandOut;refine wpAny_bind (wpAny_setField_rec e5 (by simp) fun g6 e6 b6=>?_);replace b6:Heap.SameBut e g5 g6:=b6;replace e6:IsEnumOut g6 e j ((i:Int)+1) x h0.objs.size:=e6;refine wpAny_setField_rec e6 (by simp) fun g7 e7 b7=>?_;replace b7:Heap.SameBut e g6 g7:=b7;replace e7:IsEnumOut g7 e j ((i:Int)+1) x h0.objs.size:=e7;have k7:∀ b o,b≠e->g4.get? b=some o->g7.get? b=some o:=fun b o n q=>b7.extBut b o n (b6.extBut b o n (b5.extBut b o n q));exact wpAny_bind (wpAny_letGo (wpAny_pure ⟨_,rfl,hQ g7 e7 (hJ _ _ J4 fun o q=>k7 j o (Ne.symm hne) q) (k7 _ _ (ne_of_gt lt) t4) fun b o n1 n2 q=>k7 b o n1 (k4 b o n1 n2 q)⟩))
theorem zjC{e j:Addr}{i:Nat}{x old:Value}{J:Heap->Prop}{Q:Option Value->Shared->Prop}(he:IsEnum s.heap e j i old)(hne:e≠j)
  (hn:∀ (A:Around) (Q':Value->Shared->Prop) (E':Value->Shared->Prop),(∀ g,J g->Heap.SameBut j s.heap g->Q' x { s with heap:=g })->wpAny (model prog w) A (Builtin.SmallTypes.nextOf (.ref j)) Q' E' s)
  (hJ:∀ g g',J g->(∀ o,g.get? j=some o->g'.get? j=some o)->J g')
  (hQ:∀ g,IsEnumOut g e j ((i:Int)+1) x s.heap.objs.size->J g->g.get? s.heap.objs.size=some { cls:=.type "tuple",data:=.seq #[.int i s.toks,x] } ->
   (∀ b o,b≠e->b≠j->s.heap.get? b=some o->g.get? b=some o)->Q (some (.ref s.heap.objs.size)) { s with heap:=g,toks:=s.toks+1 }):wpAny (model prog w) A (pyNext (.ref e)) Q E s:=by
 have ty:s.TypeIs (.ref e) "enumerate":=⟨_,he,rfl⟩;unfold pyNext;exact wpAny_bind (wpAny_attempt (wpAny_callSpecial?_slot (name:=Str.ofString "__next__") ty F.slot_enumerate_next (wpAny_call_entry F.slot_enumerate_next ty F.entry_enumerate_next (zoi he hne (hn _) hJ fun g a b c k=>wpAny_pure (hQ g a b c k)) (F.args_enumerate_next_1 _))))
theorem zjv{e j:Addr}{i:Nat}{old:Value}{Q:Option Value->Shared->Prop}(hh:A.handled=none)(he:IsEnum s.heap e j i old)
  (hn:∀ (A:Around) (Q':Value->Shared->Prop) (E':Value->Shared->Prop),A.handled=none->(∀ g x,Heap.ExtBut j s.heap g->(∃ o,g.get? x=some o/\o.cls=.type "StopIteration")->E' (.ref x) { s with heap:=g })->wpAny (model prog w) A (Builtin.SmallTypes.nextOf (.ref j)) Q' E' s)
  (hQ:∀ g,Heap.ExtBut j s.heap g->Q none { s with heap:=g }):wpAny (model prog w) A (pyNext (.ref e)) Q E s:=by
 have ty:s.TypeIs (.ref e) "enumerate":=⟨_,he,rfl⟩;unfold pyNext;refine wpAny_bind (wpAny_attempt (wpAny_callSpecial?_slot (name:=Str.ofString "__next__") ty F.slot_enumerate_next (wpAny_call_entry F.slot_enumerate_next ty F.entry_enumerate_next ?_ (F.args_enumerate_next_1 _))));show wpAny _ _ (field (.ref e) 2 >>= _) _ _ _;refine wpAny_bind (wpAny_field he rfl (x:=.ref j) rfl (wpAny_bind (hn _ _ _ hh fun g x b hx=>?_)));obtain⟨o,ho,hc⟩:=hx;exact wpAny_bind (wpAny_isInstance (T:="StopIteration") (b:=true) ⟨o,ho,hc⟩ isSubtype_stop (wpAny_pure (hQ _ b)))
theorem zsc(t:Addr)(vs:Array Value)(n:Nat)(dct:Option Addr)(sl:Array (Option Value)):Meets (Builtin.«enumerate.__new__» ⟨[.type "enumerate",.ref t],[]⟩) (fun _ R s=>s.heap.get? t=some { cls:=.type "tuple",dict:=dct,data:=.seq vs n,slots:=sl } /\
   R (.ok (.ret (.ref (s.heap.push { cls:=.type "tuple_iterator",data:=.fields #[.ref t,.int 0 0] }).objs.size)))
    { s with heap:=(s.heap.push { cls:=.type "tuple_iterator",data:=.fields #[.ref t,.int 0 0] }).push { cls:=.type "enumerate",data:=.fields #[.none,.bool false,.ref s.heap.objs.size,rawInt 0,.none,.none] } }) :=
 .of_wp fun prog w A R s hyp=>by
  obtain⟨g0,gs,dr,tk,os⟩:=s;obtain⟨ht,hyp⟩:=hyp;have sub:=sub_enumerate;have hT:Heap.IsTuple (Shared.heap ⟨g0,gs,dr,tk,os⟩) t vs:=⟨_,ht,rfl,n,rfl⟩
  wp_walk using wpAny_loadPart' ht
  refine wpAny_stack_any fun _=>wpAny_pure ?_;split
  ·rename_i c _ _ _ _ _;cases (c == Value.type "enumerate") <;> (wp_walk using wpAny_loadPart' ht,wpAny_pyIter_tuple hT; exact⟨_,rfl,hyp⟩)
  ·wp_walk using wpAny_loadPart' ht,wpAny_pyIter_tuple hT
   exact⟨_,rfl,hyp⟩
theorem zin{t:Addr}{vs:Array Value}{Q:Value->Shared->Prop}(hT:s.heap.IsTuple t vs)
  (hyp:∀ g,IsEnum g (s.heap.objs.size+1) s.heap.objs.size 0 .none->g.IsTupleIter s.heap.objs.size t 0->(∀ b o,s.heap.get? b=some o->g.get? b=some o)->Q (.ref (s.heap.objs.size+1)) { s with heap:=g }):wpAny (model prog w) A (call (.type "enumerate") [.ref t]) Q E s:=by
 obtain⟨⟨c,dct,dt,sl⟩,ht,hc,n,hd⟩:=hT;replace hc:c=.type "tuple":=hc;replace hd:dt=.seq vs n:=hd;subst hc hd;refine callType_new F.called_enumerate dz (F.typeCall_enumerate_1 _) (F.newCall_enumerate_1 _) (fun ob=>F.args_object_init_2 ob _) F.entry_enumerate_new (zsc t vs n dct sl) ⟨ht,?_⟩;have sz:(s.heap.push { cls:=.type "tuple_iterator",data:=.fields #[.ref t,.int 0 0] }).objs.size=s.heap.objs.size+1:=size_push ..;show _/\_;rw [sz];have he:=get?_push_size (s.heap.push { cls:=.type "tuple_iterator",data:=.fields #[.ref t,.int 0 0] }) (o:={ cls:=.type "enumerate",data:=.fields #[.none,.bool false,.ref s.heap.objs.size,rawInt 0,.none,.none] }) rfl;rw [sz] at he;exact⟨⟨_,he,rfl⟩,hyp _ he ⟨_,get?_push_of_some _ (get?_push_size _ rfl),rfl,rfl⟩ fun b o q=>get?_push_of_some _ (get?_push_of_some _ q)⟩
end
def Ite(Sq:Hp->Addr->List V->Prop)(a:Addr):It :=
 ⟨fun i H=>∃ xs x,Sq H a xs/\xs[i]? = some x,fun i H x H'=>∃ p v,H p=none/\x=.ref p/\H'=upd H p (.tup [.int i,v])/\∀ xs,Sq H a xs->xs[i]? = some v,fun i H=>∃ xs,Sq H a xs/\xs.length<=i⟩
theorem zlX{P:Program}{w:World}{K:W.Frag}{elts:List Expr}{n:Nat}{pos:Pos}(a e j:Addr)(hej:e≠j):Turn P w K (.Tuple elts n pos) (Ite (SqT K) a) [e,j] e (fun i h=>(∃ old,IsEnum h e j i old)/\h.IsTupleIter j a i) where
 mem:=by simp
 obj:=fun i h ⟨⟨old,he⟩,hj⟩ b hb=>by
  rcases mem_cons.mp hb with rfl | hb
  ·exact⟨_,he,fun v z=>by
    have z':Data.fields _=Data.cell v:=z;cases z'⟩
  ·rw [mem_singleton.mp hb];obtain⟨o,q,c,d⟩:=hj;exact⟨o,q,fun v z=>by rw [d] at z; cases z⟩
 keep:=fun i h h' ⟨⟨old,he⟩,hj⟩ k=>⟨⟨old,k e (by simp) _ he⟩,hj.at fun o q=>k j (by simp) o q⟩
 item:=by
  intro X hP hw hK hc i zn s σ H E I hf ⟨⟨old,he⟩,hj⟩ hg;subst hP hw hK;obtain⟨xs,x,hq,hx⟩:=hg;obtain⟨its,rv,p,hz⟩:=I.tuple hq;obtain⟨u,hu,ru⟩:=rv.get hx;have hT:s.heap.IsTuple a its.toArray:=p;refine zjC (J:=fun g=>g.IsTupleIter j a (i+1)) he hej (fun A' Q' E' k=>zhZ hj hT (x:=u) (by simpa using hu) k) (fun g g' z k=>z.at k) fun g e1 j1 t1 k1=>?_;refine⟨_,rfl,wpAny_letOwnedTupleGo_enum (s:={ s with heap:=g,toks:=s.toks+1 }) e1 fun g' e2 b2=>?_⟩;have lt:e<s.heap.objs.size:=lt_size he;have ltj:j<s.heap.objs.size:=by
   obtain⟨_,q,_⟩:=hj;exact lt_size q
  have t2:g'.get? s.heap.objs.size=some { cls:=.type "tuple",data:=.seq #[.int i s.toks,u] }:=(b2.2 _ (ne_of_gt lt)).trans t1;have neT:H s.heap.objs.size=none:=I.hok.fresh (le_refl _);refine⟨.ref s.heap.objs.size,upd H s.heap.objs.size (.tup [.int i,x]),I.turnLaid (ch:=[e,j]) (t':=s.toks+1) (fun b o nb q=>(b2.2 b fun z=>nb (by simp [z])).trans (k1 b o (fun z=>nb (by simp [z])) (fun z=>nb (by simp [z])) q)) hf (le_refl _) ?_,rfl,
   ⟨_,x,neT,rfl,rfl,fun ys hy=>by rw [I.tuple_inj hy hq]; exact hx⟩,⟨⟨u,by simpa using e2⟩,j1.at fun o q=>(b2.2 j (Ne.symm hej)).trans q⟩,fun b hb=>?_⟩
  ·refine⟨⟨by show 2<=sizeLine; decide,_,t2,rfl⟩,[.int i s.toks,u],.cons ⟨s.toks,rfl⟩ (.cons ru .nil),⟨_,t2,rfl,_,rfl⟩⟩
  ·rcases mem_cons.mp hb with rfl | hb
   ·rw [zR (ne_of_lt lt)];exact(hf _ (by simp)).1
   ·rw [mem_singleton.mp hb,zR (ne_of_lt ltj)];exact(hf _ (by simp)).1
 done:=by
  intro X hP hw hK hc i zn s σ H E I hf ⟨⟨old,he⟩,hj⟩ hg;subst hP hw hK;obtain⟨xs,hq,hx⟩:=hg;obtain⟨its,rv,p,hz⟩:=I.tuple hq;have hT:s.heap.IsTuple a its.toArray:=p;have hl:=rv.length;exact zjv (I.ok.hd hc) he (fun A' Q' E' h0 k=>zen h0 hj hT (by simp; omega) k) fun g b=>⟨rfl,I.turnedN (ch:=[e,j]) (t':=s.toks) (fun b' o nb q=>b b' o (fun z=>nb (by simp [z])) q) hf⟩
 self:=fun _ _ _ _ _ st h=>by
  obtain⟨⟨old,he⟩,_⟩:=st;exact wpAny_pyIter_enum he h
theorem zl9{P:Program}{w:World}{K:W.Frag}{elts:List Expr}{n:Nat}{pos:Pos}(a e j:Addr)(hej:e≠j):Turn P w K (.Tuple elts n pos) (Ite (SqL K) a) [e,j] e (fun i h=>(∃ old,IsEnum h e j i old)/\h.IsListIter j a i) where
 mem:=by simp
 obj:=fun i h ⟨⟨old,he⟩,hj⟩ b hb=>by
  rcases mem_cons.mp hb with rfl | hb
  ·exact⟨_,he,fun v z=>by
    have z':Data.fields _=Data.cell v:=z;cases z'⟩
  ·rw [mem_singleton.mp hb];obtain⟨o,q,c,d⟩:=hj;exact⟨o,q,fun v z=>by rw [d] at z; cases z⟩
 keep:=fun i h h' ⟨⟨old,he⟩,hj⟩ k=>⟨⟨old,k e (by simp) _ he⟩,hj.at fun o q=>k j (by simp) o q⟩
 item:=by
  intro X hP hw hK hc i zn s σ H E I hf ⟨⟨old,he⟩,hj⟩ hg;subst hP hw hK;obtain⟨xs,x,hq,hx⟩:=hg;obtain⟨its,rv,p,hz⟩:=I.list hq;obtain⟨u,hu,ru⟩:=rv.get hx;have hT:s.heap.IsList a its.toArray:=p.isList;refine zjC (J:=fun g=>g.IsListIter j a (i+1)) he hej (fun A' Q' E' k=>wpAny_nextOf_list_item hj hT (x:=u) (by simpa using hu) k) (fun g g' z k=>z.at k) fun g e1 j1 t1 k1=>?_;refine⟨_,rfl,wpAny_letOwnedTupleGo_enum (s:={ s with heap:=g,toks:=s.toks+1 }) e1 fun g' e2 b2=>?_⟩;have lt:e<s.heap.objs.size:=lt_size he;have ltj:j<s.heap.objs.size:=by
   obtain⟨_,q,_⟩:=hj;exact lt_size q
  have t2:g'.get? s.heap.objs.size=some { cls:=.type "tuple",data:=.seq #[.int i s.toks,u] }:=(b2.2 _ (ne_of_gt lt)).trans t1;have neT:H s.heap.objs.size=none:=I.hok.fresh (le_refl _);refine⟨.ref s.heap.objs.size,upd H s.heap.objs.size (.tup [.int i,x]),I.turnLaid (ch:=[e,j]) (t':=s.toks+1) (fun b o nb q=>(b2.2 b fun z=>nb (by simp [z])).trans (k1 b o (fun z=>nb (by simp [z])) (fun z=>nb (by simp [z])) q)) hf (le_refl _) ?_,rfl,
   ⟨_,x,neT,rfl,rfl,fun ys hy=>by rw [I.list_inj hy hq]; exact hx⟩,⟨⟨u,by simpa using e2⟩,j1.at fun o q=>(b2.2 j (Ne.symm hej)).trans q⟩,fun b hb=>?_⟩
  ·refine⟨⟨by show 2<=sizeLine; decide,_,t2,rfl⟩,[.int i s.toks,u],.cons ⟨s.toks,rfl⟩ (.cons ru .nil),⟨_,t2,rfl,_,rfl⟩⟩
  ·rcases mem_cons.mp hb with rfl | hb
   ·rw [zR (ne_of_lt lt)];exact(hf _ (by simp)).1
   ·rw [mem_singleton.mp hb,zR (ne_of_lt ltj)];exact(hf _ (by simp)).1
 done:=by
  intro X hP hw hK hc i zn s σ H E I hf ⟨⟨old,he⟩,hj⟩ hg;subst hP hw hK;obtain⟨xs,hq,hx⟩:=hg;obtain⟨its,rv,p,hz⟩:=I.list hq;have hT:s.heap.IsList a its.toArray:=p.isList;have hl:=rv.length;exact zjv (I.ok.hd hc) he (fun A' Q' E' h0 k=>wpAny_nextOf_list_end h0 hj hT (by simp; omega) k) fun g b=>⟨rfl,I.turnedN (ch:=[e,j]) (t':=s.toks) (fun b' o nb q=>b b' o (fun z=>nb (by simp [z])) q) hf⟩
 self:=fun _ _ _ _ _ st h=>by
  obtain⟨⟨old,he⟩,_⟩:=st;exact wpAny_pyIter_enum he h
section
variable {X:Cx} {elts:List Expr} {n:Nat} {tpos:Pos}
theorem zhx:bootBuiltins "enumerate" = some (.type "enumerate"):=by decide +kernel
end
def ziv(i:Nat):List PyData->List PyData
 | []=>[]
 | d :: ds=>.tuple [.int i,d] :: ziv (i+1) ds
theorem zdK:∀ (ds:List PyData) (i:Nat),(ziv i ds).length=ds.length
 | [],_=>rfl
 | d :: ds,i=>by simp [ziv,zdK ds (i+1)]
theorem zfa:∀ (ds:List PyData) (i k:Nat) (d:PyData),(ziv i ds)[k]? = some d->∃ e,ds[k]? = some e/\d=.tuple [.int ((i+k:Nat):Int),e]
 | [],_,_,_,h=>by simp [ziv] at h
 | c :: ds,i,0,d,h=>by
  have e:PyData.tuple [.int i,c]=d:=by simpa [ziv] using h
  exact⟨c,rfl,by rw [<- e]; rfl⟩
 | c :: ds,i,k+1,d,h=>by
  obtain⟨e,h1,h2⟩:=zfa ds (i+1) k d (by simpa [ziv] using h);exact⟨e,by simpa using h1,by rw [h2]; congr 3; omega⟩
theorem zpg{X:Cx}{x:Str}{i:Int}{pos:Pos}(hg:Gl X x)(hm:∃ t,X.mg x=some (.int i t))(hd:(x == ("__debug__":Str))=false:=by decide):PE X (.Name x pos) (tC (.int i)):=by
 obtain⟨t,e⟩:=hm;exact zrG hg e ⟨t,rfl⟩ hd
end
section
def dIx:D2:=fun x y S R=>asI y fun i=>match x with
 | .d (.tuple ds)=>∃ d,atI ds i=some d/\R (.d d) S
 | .d (.list ds)=>∃ d,atI ds i=some d/\R (.d d) S
 | .l k=>∃ ds,S[k]? = some ds/\∃ d,atI ds i=some d/\R (.d d) S
 | .d (.str z)=>z.length<=sizeLine/\∃ c,atI z.cps.toList i=some c/\R (.d (.str ⟨#[c]⟩)) S
 | _=>False
theorem ztE:RO zvo (fun x y S R=>asS x fun z=>asI y fun i=>z.length<=sizeLine/\∃ c,atI z.cps.toList i=some c/\R (.d (.str ⟨#[c]⟩)) S):=fun h o H S x y v u R Q hs hx hy q c=>by
 replace q:=zqi q;obtain⟨z,rfl,q⟩:=q;replace q:=zbp q;obtain⟨i,rfl,hz,k,ek,q⟩:=q;exact⟨z,i,k,zeY hx,za1 hy,hz,ek,c o H S _ _ Ex.refl hs (xS _) q⟩
theorem zdI{K:W.Frag}:RO (rIx K) dIx:=fun h o H S x y v u R Q hs hx hy q c=>by
 replace q:=zbp q;obtain⟨i,rfl,q⟩:=q;split at q
 ·exact .inr (.inl (ztJ h o H S _ _ v u R Q hs hx hy q c))
 ·exact .inl (zqI h o H S _ _ v u R Q hs hx hy ⟨_,rfl,q⟩ c)
 ·exact .inl (zqI h o H S _ _ v u R Q hs hx hy q c)
 ·exact .inr (.inr (ztE h o H S _ _ v u R Q hs hx hy q c))
 ·exact q.elim
section
variable {S:Sto} {R:RX} {ds:List PyData} {i:Int} {k:Nat} {z:Str}
theorem zsX:dIx (.d (.tuple ds)) (.d (.int i)) S R=∃ d,atI ds i=some d/\R (.d d) S:=rfl
theorem zuJ:dIx (.d (.list ds)) (.d (.int i)) S R=∃ d,atI ds i=some d/\R (.d d) S:=rfl
theorem zsQ:dIx (.l k) (.d (.int i)) S R=∃ ds,S[k]? = some ds/\∃ d,atI ds i=some d/\R (.d d) S:=rfl
theorem zsO:dIx (.d (.str z)) (.d (.int i)) S R=(z.length<=sizeLine/\∃ c,atI z.cps.toList i=some c/\R (.d (.str ⟨#[c]⟩)) S):=rfl
end
def zv9(K:W.Frag):V->Option Int->Option Int->Hp->VK->Prop:=fun x a b H Q=>zuB K x a b H Q\/(zvF K x a b H Q\/zvY x a b H Q)
theorem zfQ{X:Cx}:SlR X (zv9 X.K):=zoB.or (zqe.or ztT)
def zla:D3:=fun x i j S R=>match x with
 | .d (.tuple ds)=>¬ (HT.sIx ds.length 0 i=0/\HT.sIx ds.length ds.length j=ds.length)/\R (.d (.tuple (zdJ ds i j))) S
 | .d (.list ds)=>R (.d (.list (zdJ ds i j))) S
 | .l k=>∃ ds,S[k]? = some ds/\R (.d (.list (zdJ ds i j))) S
 | .d (.str z)=>z.length<=sizeLine/\R (.d (.str (PySem.Txt.slice z i j))) S
 | _=>False
theorem znd{K:W.Frag}:RL (zv9 K) zla:=fun h o H S x v a b R Q hs hx q c=>by
 unfold zla at q;split at q
 ·exact .inr (.inl (zts h o H S _ v a b R Q hs hx q c))
 ·exact .inl (zot h o H S _ v a b R Q hs hx ⟨_,rfl,q⟩ c)
 ·exact .inl (zot h o H S _ v a b R Q hs hx q c)
 ·exact .inr (.inr ⟨_,zeY hx,q.1,c o H S _ _ Ex.refl hs (xS _) q.2⟩)
 ·exact q.elim
section
variable {S:Sto} {R:RX} {ds:List PyData} {i j:Option Int} {k:Nat} {z:Str}
theorem zqo:zla (.d (.tuple ds)) i j S R=(¬ (HT.sIx ds.length 0 i=0/\HT.sIx ds.length ds.length j=ds.length)/\R (.d (.tuple (zdJ ds i j))) S):=rfl
theorem zql:zla (.d (.list ds)) i j S R=R (.d (.list (zdJ ds i j))) S:=rfl
theorem zq0:zla (.l k) i j S R=∃ ds,S[k]? = some ds/\R (.d (.list (zdJ ds i j))) S:=rfl
theorem zqO:zla (.d (.str z)) i j S R=(z.length<=sizeLine/\R (.d (.str (PySem.Txt.slice z i j))) S):=rfl
end
def zqh(K:W.Frag):R2:=fun x y H Q=>∃ a b ys,x=.ref a/\y=.ref b/\SqT K H a []/\SqT K H b ys/\Q (.ref b) H
theorem zpH{X:Cx}:OpR X (binaryOp .Add) (zqh X.K):=by
 intro zn s σ H x y v u Q I rx ry h;obtain⟨a,b,ys,rfl,rfl,ha,hb,q⟩:=h;cases rx;cases ry;obtain⟨its,r1,p1,_⟩:=I.tuple ha;obtain⟨its2,r2,p2,_⟩:=I.tuple hb;cases r1;obtain⟨⟨c1,d1,e1,l1⟩,o1,w1,n1,k1⟩:=id p1;obtain⟨⟨c2,d2,e2,l2⟩,o2,w2,n2,k2⟩:=id p2;simp only at w1 k1 w2 k2;subst w1 k1 w2 k2;exact concat_meets ⟨_,o1,rfl⟩ ⟨_,o2,rfl⟩ noFill_tuple_add seq_tuple_add PySem.F.slot_tuple_add PySem.F.entry_tuple_add (PySem.F.args_tuple_add_2 _ _) (tuple_addW0 a b _ _ n1 n2 d1 d2 l1 l2 (by simp)) ⟨o1,o2,⟨.ref b,H,I,rfl,q⟩⟩
def ztf(K:W.Frag):R2:=fun x y H Q=>rI0 (fun i j=>.int (i+j)) x y H Q\/(zsL x y H Q\/(zrK K x y H Q\/(zqh K x y H Q\/∃ i j,x=.str i/\y=.str j/\i.length+j.length<=sizeLine/\Q (.str (i++j)) H)))
theorem zG{X:Cx}:OpR X (binaryOp .Add) (ztf X.K):=ztB.or (znQ.or (zr8.or (zpH.or zmf)))
def zbP:D2:=fun x y S R=>match x,y with
 | .d (.int i),.d (.int j)=>R (.d (.int (i+j))) S
 | .d (.tuple ds),.d (.tuple es)=>ds.length+es.length<=1000/\R (.d (.tuple (ds++es))) S
 | .d (.str a),.d (.str b)=>a.length+b.length<=sizeLine/\R (.d (.str (a++b))) S
 | x,y=>asL S x fun ds=>asL S y fun es=>ds.length+es.length<=1000/\R (.d (.list (ds++es))) S
theorem zbN{K:W.Frag}:RO (ztf K) zbP:=fun h o H S x y v u R Q hs hx hy q c=>by
 unfold zbP at q;split at q
 ·exact .inl (zoa h o H S _ _ v u R Q hs hx hy q c)
 ·rename_i ds es;cases ds with
  | cons d ds=>exact .inr (.inr (.inl (zrO h o H S _ _ v u R Q hs hx hy ⟨by simp,q⟩ c)))
  | nil =>
   obtain⟨a,vs,rfl,ea,l⟩:=zcQ hx;obtain⟨b,us,rfl,eb,l'⟩:=zcQ hy;rw [zH.mp l] at ea;exact .inr (.inr (.inr (.inl ⟨a,b,us,rfl,rfl,.of ea,.of eb,c o H S (.d (.tuple es)) _ Ex.refl hs hy q.2⟩)))
 ·exact .inr (.inr (.inr (.inr ⟨_,_,zeY hx,zeY hy,q.1,c o H S _ _ Ex.refl hs (xS _) q.2⟩)))
 ·exact .inr (.inl (ztm h o H S _ _ v u R Q hs hx hy q c))
section
variable {S:Sto} {R:RX} {ds es:List PyData} {i j:Int} {k l:Nat} {a b:Str}
theorem zqG:zbP (.d (.int i)) (.d (.int j)) S R=R (.d (.int (i+j))) S:=rfl
theorem zra:zbP (.d (.tuple ds)) (.d (.tuple es)) S R=(ds.length+es.length<=1000/\R (.d (.tuple (ds++es))) S):=rfl
theorem zmL:zbP (.d (.list ds)) (.d (.list es)) S R↔(ds.length+es.length<=1000/\R (.d (.list (ds++es))) S):=⟨fun⟨_,e,_,e',q⟩=>by cases e; cases e'; exact q,fun q=>⟨_,rfl,_,rfl,q⟩⟩
end
def zun:R2:=fun x y H Q=>rI IntMulOk (fun i j=>.int (i*j)) x y H Q\/(ztA x y H Q\/zv0 x y H Q)
theorem zbf{X:Cx}:OpR X (binaryOp .Mult) zun:=zsj.or (zr4.or ztL)
def zfX:D2:=fun x y S R=>asI y fun j=>match x with
 | .d (.int i)=>IntMulOk i j/\R (.d (.int (i*j))) S
 | .d (.str z)=>z.length<=1000/\j<=1000/\-1000<=j/\R (.d (.str (PySem.Txt.mul z j))) S
 | .d (.list ds)=>j<=1000/\-1000<=j/\ds.length*j.toNat<=1000/\R (.d (.list (List.replicate j.toNat ds).flatten)) S
 | _=>False
theorem HasL.rep{H:Hp}{ds:List PyData}{vs:List V}(l:HasL H ds vs):∀ n:Nat,HasL H (List.replicate n ds).flatten (List.replicate n vs).flatten
 | 0=>zH.mpr rfl
 | n+1=>by
  rw [replicate_succ,replicate_succ,flatten_cons,flatten_cons];exact l.append (HasL.rep l n)
theorem zid:RO zun zfX:=fun h o H S x y v u R Q hs hx hy q c=>by
 replace q:=zbp q;obtain⟨j,rfl,q⟩:=q;split at q
 ·exact .inl (zpx h o H S _ _ v u R Q hs hx hy q c)
 ·exact .inr (.inl ⟨_,_,zeY hx,za1 hy,q.1,q.2.1,q.2.2.1,c o H S _ _ Ex.refl hs (xS _) q.2.2.2⟩)
 ·obtain⟨a,vs,rfl,ea,l⟩:=zbt (x:=.d (.list _)) hs rfl hx;obtain⟨h1,h2,h3,q⟩:=q;exact .inr (.inr ⟨a,j,vs,rfl,za1 hy,ea,by omega,by omega,by rw [l.length]; exact le_of_lt (small1000 h3),zmn hs (l.rep j.toNat) c q⟩)
 ·exact q.elim
section
variable {S:Sto} {R:RX} {i j:Int} {z:Str} {ds:List PyData}
theorem zqV:zfX (.d (.list ds)) (.d (.int j)) S R=(j<=1000/\-1000<=j/\ds.length*j.toNat<=1000/\R (.d (.list (List.replicate j.toNat ds).flatten)) S):=rfl
theorem zqd:zfX (.d (.int i)) (.d (.int j)) S R=(IntMulOk i j/\R (.d (.int (i*j))) S):=rfl
theorem zqH:zfX (.d (.str z)) (.d (.int j)) S R=(z.length<=1000/\j<=1000/\-1000<=j/\R (.d (.str (PySem.Txt.mul z j))) S):=rfl
end
def zvV:R2:=fun x y H Q=>rI CDivX (fun i j=>.int (i / j)) x y H Q\/rI CDivN (fun i j=>.int (i.fdiv j)) x y H Q
theorem zm4{X:Cx}:OpR X (binaryOp .FloorDiv) zvV:=zoP.or zo2
def dFd:D2:=fun x y S R=>asI x fun i=>asI y fun j=>(CDivX i j/\R (.d (.int (i / j))) S)\/(CDivN i j/\R (.d (.int (i.fdiv j))) S)
theorem zvd:RO zvV dFd:=fun h o H S x y v u R Q hs hx hy q c=>by
 replace q:=zbp q;obtain⟨i,rfl,q⟩:=q;replace q:=zbp q;obtain⟨j,rfl,q⟩:=q;rcases q with q | q
 ·exact .inl (zpx (C:=CDivX) (g:=fun i j=>i / j) h o H S _ _ v u R Q hs hx hy q c)
 ·exact .inr (zpx (C:=CDivN) (g:=fun i j=>i.fdiv j) h o H S _ _ v u R Q hs hx hy q c)
def zu8(S:Sto):XV->Option Bool
 | .d .none=>some false
 | .d (.bool b)=>some b
 | .d (.int i)=>some (i != 0)
 | .d (.str z)=>if z.length<=sizeLine then some ((z.length:Int) != 0) else none
 | .d (.list ds)=>some (!ds.isEmpty)
 | .d (.tuple ds)=>some (!ds.isEmpty)
 | .l k=>(S[k]?).map fun ds=>!ds.isEmpty
 | _=>none
def zdO(a:DE):DT:=fun δ S R=>a δ S fun x S1=>∃ k,zu8 S1 x=some k/\R k S1
theorem zeI{H:Hp}{ds:List PyData}{vs:List V}(l:HasL H ds vs):(!ds.isEmpty) = !vs.isEmpty:=by
 have:=l.length;cases ds <;> cases vs <;> simp_all
theorem zdV{K:W.Frag}{ta:TE}{da:DE}(ha:RE ta da):RT (fun σ H Q=>ta σ H fun x H'=>∃ k,TruV K x H' k/\Q k H') (zdO da):=fun h o H δ σ S R Q he hs q c =>
 ha h o H δ σ S _ _ he hs q fun o1 H1 S1 x v e1 s1 x1 ⟨k,ek,d1⟩=>by
  refine⟨k,?_,c o1 H1 S1 k e1 s1 d1⟩;unfold zu8 at ek;split at ek
  ·cases ek; rw [(zfm (H:=vx h o1 H1)).mp x1]; rfl
  ·cases ek; rw [zdg x1]; rfl
  ·cases ek; rw [za1 x1]; rfl
  ·split at ek
   ·rename_i hz;cases ek; rw [zeY x1]; exact⟨hz,rfl⟩
   ·cases ek
  ·obtain⟨a,vs,rfl,ea,l⟩:=zbt (x:=.d (.list _)) s1 rfl x1;cases ek;exact .inl ⟨vs,.of ea,zeI l⟩
  ·obtain⟨a,vs,rfl,ea,l⟩:=zcQ x1;cases ek;exact .inr (.inl ⟨vs,.of ea,zeI l⟩)
  ·rename_i j _;cases hj:S1[j]? with
   | none=>rw [hj] at ek; cases ek
   | some ds =>
    rw [hj] at ek;cases ek;obtain⟨a,vs,rfl,ea,l⟩:=zbt (x:=.l j) s1 hj x1;exact .inl ⟨vs,.of ea,zeI l⟩
  ·cases ek
section
variable {S:Sto} {b:Bool} {i:Int} {ds:List PyData} {k:Nat}
theorem zqw:zu8 S (.d (.bool b))=some b:=rfl
theorem zqT:zu8 S (.l k)=(S[k]?).map fun ds=>!ds.isEmpty:=rfl
end
def zlI:DS:=fun _ _ _=>False
theorem zpY:RS zqX zlI:=fun h o H δ σ S E D he hs q c=>q.elim
def zvX(K:W.Frag)(tl:TE):TI:=fun σ H R=>tl σ H fun x H1=>∃ a,x=.ref a/\(((∃ xs,SqL K H1 a xs)/\R (Itl K a) H1)\/((∃ xs,SqT K H1 a xs)/\R (Itt K a) H1))
theorem zaq{X:Cx}{tg:Expr}{l:Expr}{tl:TE}(hl:PE X l tl):PI X tg l (zvX X.K tl):=by
 intro zn s σ H R I h;refine thn (hl zn s σ H _ I h) fun v s1 ⟨x,H1,I1,r1,q1⟩=>?_;obtain⟨a,e,⟨⟨xs,hq⟩,q⟩ | ⟨⟨xs,hq⟩,q⟩⟩:=q1
 ·subst e;cases r1;obtain⟨its,rv,p,hz⟩:=I1.list hq;refine wpAny_pyIter_list p.isList ?_;refine⟨s1.heap.objs.size,[s1.heap.objs.size],_,_,H1,rfl,I1.kept (t':=s1.toks) fun b o e=>get?_push_of_some _ e,zj2 a _,⟨_,get?_push_size _ rfl,rfl,rfl⟩,fun b hb=>?_,q⟩;have e:b=s1.heap.objs.size:=by simpa using hb
  subst e;exact I1.fpOk (le_refl _) (I1.hok.fresh (le_refl _))
 ·subst e;cases r1;obtain⟨its,rv,p,hz⟩:=I1.tuple hq;refine wpAny_pyIter_tuple (show s1.heap.IsTuple a its.toArray from p) ?_;refine⟨s1.heap.objs.size,[s1.heap.objs.size],_,_,H1,rfl,I1.kept (t':=s1.toks) fun b o e=>get?_push_of_some _ e,zlQ a _,⟨_,get?_push_size _ rfl,rfl,rfl⟩,fun b hb=>?_,q⟩;have e:b=s1.heap.objs.size:=by simpa using hb
  subst e;exact I1.fpOk (le_refl _) (I1.hok.fresh (le_refl _))
def zmk:XV->Option (List PyData)
 | .d (.list ds)=>some ds
 | .d (.tuple ds)=>some ds
 | _=>none
theorem zqz{ds:List PyData}:zmk (.d (.list ds))=some ds:=rfl
theorem zqQ{ds:List PyData}:zmk (.d (.tuple ds))=some ds:=rfl
def zaQ(e:DE):DI:=fun δ S R=>e δ S fun x S1=>∃ ds,zmk x=some ds/\R ds S1
theorem za6{K:W.Frag}{te:TE}{de:DE}(he':RE te de):RI (zvX K te) (zaQ de):=fun h o H δ σ S R Q he hs q c =>
 he' h o H δ σ S _ _ he hs q fun o1 H1 S1 x v e1 s1 x1 ⟨ds,ex,d1⟩=>by
  unfold zmk at ex;split at ex
  ·cases ex;obtain⟨a,vs,rfl,ea,l⟩:=za5.mp (show Has _ _ _ from x1);have hl:=l.length;refine⟨a,rfl,.inl ⟨⟨vs,.of (zaD _ _ ea)⟩,c o1 H1 S1 ds _ e1 s1 ⟨fun i o2 H2 e2 hi=>⟨vs,.of (zaD _ _ (e2.vx _ _ ea)),by omega⟩,fun i d o2 H2 e2 hi=>?_,fun i d o2 H2 x H3 S2 e2 s2 hi y=>?_⟩ d1⟩⟩
   ·obtain⟨v,ev,_⟩:=l.get hi;exact⟨vs,v,.of (zaD _ _ (e2.vx _ _ ea)),ev⟩
   ·obtain⟨v,ev,hv⟩:=l.get hi;have e3:H3=H2:=y.1;subst e3;have ex:=y.2 vs (.of (zaD _ _ (e2.vx _ _ ea)));rw [ev] at ex;cases ex;exact⟨Same.refl _,hv.mono e2.vx⟩
  ·cases ex;obtain⟨a,vs,rfl,ea,l⟩:=zaP.mp (show Has _ _ _ from x1);have hl:=l.length;refine⟨a,rfl,.inr ⟨⟨vs,.of (zaD _ _ ea)⟩,c o1 H1 S1 ds _ e1 s1 ⟨fun i o2 H2 e2 hi=>⟨vs,.of (zaD _ _ (e2.vx _ _ ea)),by omega⟩,fun i d o2 H2 e2 hi=>?_,fun i d o2 H2 x H3 S2 e2 s2 hi y=>?_⟩ d1⟩⟩
   ·obtain⟨v,ev,_⟩:=l.get hi;exact⟨vs,v,.of (zaD _ _ (e2.vx _ _ ea)),ev⟩
   ·obtain⟨v,ev,hv⟩:=l.get hi;have e3:H3=H2:=y.1;subst e3;have ex:=y.2 vs (.of (zaD _ _ (e2.vx _ _ ea)));rw [ev] at ex;cases ex;exact⟨Same.refl _,hv.mono e2.vx⟩
  ·cases ex
def zug(dt:DS):DS:=fun E δ S=>dt { E with nx:=fun δ' S'=>∃ S0 ds,S'=S0++[ds]/\S.length<=S0.length/\E.nx (δ'.map (frz S0.length ds)) S0 } δ S
theorem zq1{t:TS}{dt:DS}(ht:RS t dt):RS t (zug dt):=fun h o H δ σ S E D he hs q c=>by
 refine ht h o H δ σ S _ D he hs q ⟨fun o' H' δ' S' σ' e he' hs' ⟨S0,ds,eS,hl,n⟩=>?_,c.rt,c.bk,c.ct⟩;subst eS;obtain⟨r,rfl⟩:=e.pre;have hL:=hs'.len;simp only [length_append,length_singleton] at hL;have hS:=hs.len;have rne:r≠[]:=fun z=>by subst z; simp at hL; omega
 obtain⟨r0,a,rfl⟩:∃ r0 a,r=r0++[a]:=⟨r.dropLast,r.getLast rne,(List.dropLast_concat_getLast rne).symm⟩;have hS0:S0.length=(o++r0).length:=by simp at hL ⊢; omega
 rw [<- append_assoc] at hs' he' e;have nd:=nodup_append.mp hs'.nd;have na:a∉o++r0:=fun m=>nd.2.2 a m a (by simp) rfl;have nh:a∉h:=hs'.dis a (by simp);refine c.nx (o++r0) H' _ S0 σ' ⟨⟨r0,rfl⟩,fun b u hb eb=>?_⟩ ⟨by rw [length_map]; exact he'.len,fun i x ex=>?_⟩ (hs'.pop hS0) n
 ·obtain⟨z1,z2⟩:=e.kp b u hb eb;exact⟨fun m=>z1 (mem_append_left _ m),z2⟩
 ·rw [getElem?_map] at ex;obtain⟨y,ey,ex⟩:=map_eq_some_iff.mp ex
  match y,ey,ex with
  | none,ey,ex=>cases ex
  | some (.d d),ey,ex =>
   cases ex;obtain⟨v,e1,e2⟩:=he'.get i _ ey;exact⟨v,e1,Has.mono zf4 d v e2⟩
  | some (.o w),ey,ex =>
   cases ex;exact he'.get i _ ey
  | some (.x C fs),ey,ex =>
   cases ex;obtain⟨v,e1,e2⟩:=he'.get i _ ey;exact⟨v,e1,HasE.mono zf4 e2⟩
  | some (.l k),ey,ex =>
   obtain⟨v,e1,b,eb,rfl⟩:=he'.get i _ ey;unfold frz at ex;by_cases hk:k=S0.length
   ·simp only [hk,↓reduceIte] at ex;cases ex;rw [hk,hS0,getElem?_concat_length] at eb;cases eb;obtain⟨vs,ev,l⟩:=hs'.cont k a ds (by rw [hk,hS0,getElem?_concat_length]) (by rw [hk,getElem?_concat_length]);exact⟨_,e1,za5.mpr ⟨a,vs,rfl,zan.mpr ⟨nh,na,ev⟩,l.mono zf4⟩⟩
   ·simp only [hk,↓reduceIte] at ex;cases ex;have hlt:=(List.getElem?_eq_some_iff.mp eb).1;simp only [length_append,length_singleton] at hlt;simp only [length_append] at hS0;rw [getElem?_append_left (by simp only [length_append]; omega)] at eb;exact⟨_,e1,b,eb,rfl⟩
section
variable {t1 t2 t3 t4 t5 t6 t7 t8:TS} {d:DS}
theorem zqM(h:RS (zls (zls t1 t2) t3) d):RS (zls t1 (zls t2 t3)) d:=h
end
end
section
abbrev PN:=List XV->Sto->RX->Prop
def lfN(q:PN):List V->Hp->VK->Prop:=fun vs H Q=>∃ h o S xs R,RepS h o H S/\HasXs h o H xs vs/\q xs S R/\Cn h o H R Q
def spN(ps:List Str)(q:PN):Sp:=fun vs H Q _=>vs.length=ps.length/\lfN q vs H Q
theorem HasXs.len{h o:List Addr}{H:Hp}:∀ {xs:List XV} {vs:List V},HasXs h o H xs vs->vs.length=xs.length
 | [],vs,q=>by rw [show vs=[] from q]; rfl
 | x :: xs,vs,⟨v,r,e,_,l⟩=>by rw [e,length_cons,length_cons,HasXs.len l]
theorem HasXs.get{h o:List Addr}{H:Hp}:∀ {xs:List XV} {vs:List V} {i:Nat} {x:XV},HasXs h o H xs vs->xs[i]? = some x->∃ v,vs[i]? = some v/\HasX h o H x v
 | [],_,i,_,_,e=>by simp at e
 | y :: xs,vs,0,x,⟨v,r,e1,q,l⟩,e=>by
  rw [getElem?_cons_zero] at e;cases e;subst e1;exact⟨v,rfl,q⟩
 | y :: xs,vs,i+1,x,⟨v,r,e1,q,l⟩,e=>by
  subst e1;rw [getElem?_cons_succ] at e ⊢;exact HasXs.get l e
theorem zda{h o:List Addr}{H:Hp}{xs:List XV}{vs:List V}{n:Nat}(q:HasXs h o H xs vs):RepE h o H (xs.map some++List.replicate n none) (vs.map some++List.replicate n none):=by
 have hl:=q.len;refine⟨by simp [hl],fun i x e=>?_⟩;by_cases hi:i<xs.length
 ·rw [getElem?_append_left (by rw [length_map]; exact hi),getElem?_map] at e;obtain⟨y,ey,e⟩:=map_eq_some_iff.mp e;cases e;obtain⟨v,ev,hv⟩:=q.get ey;exact⟨v,by rw [getElem?_append_left (by rw [length_map,hl]; exact hi),getElem?_map,ev]; rfl,hv⟩
 ·rw [getElem?_append_right (by rw [length_map]; omega),List.getElem?_replicate] at e;split at e <;> cases e
section
variable {P:Program} {w:World} {K:W.Frag} {mg:Str->Option Value} {base:Heap} {x:Str} {st:Stmt} {N ps:List Str} {k:Nat}
theorem Df.dN{q:PN}(D:Dd K mg x st ps)(S:FnScope N ps (zi st))(n:Nat)(hn:N.length=ps.length+n)
  (hbody:∀ (f:Addr) (cdv:Value) (A:Around) (outer:List Env) (s:Shared) (H:Hp) (E:XK),Room k (A.deeper (envOfC x (zi st) s.heap.objs.size f cdv)) ->
   ∃ t dt,PSs (zkt CX0 P w K mg base N x (zi st) f cdv A outer s H E).nox (zbW st) t/\RS t dt/\∀ xs S R,q xs S R->dt (zbi S.length R) (xs.map some++List.replicate n none) S):Df P w K mg base x ps (k+1) (spN ps q):=by
 refine Df.of D S (fun vs H Q E h=>h.1) fun f cdv A outer s H vs Q E hr ⟨hl,h,o,S',xs,R,hs',hx,hq,c⟩=>?_;obtain⟨t,dt,h1,h2,h3⟩:=hbody f cdv A outer s H E hr;refine⟨t,h1,h2 h o H _ _ S' _ _ ?_ hs' (h3 xs S' R hq) (eok hs' c)⟩;have e:N.length - vs.length=n:=by omega
 unfold start;rw [e];exact zda hx
end
section
variable {X:Cx} {x:Str} {ps:List Str} {k j:Nat} {pos pos':Pos} {e:Expr} {es:List Expr} {t:TA}
theorem zr{q:PN}(D:Df X.prog X.w X.K X.mg X.base x ps k (spN ps q))(hr:Room j X.A)(hk:k<=j)(ha:PA X (e :: es) t)(hg:Gl X x:=by rfl)(hdb:(x == ("__debug__":Str))=false:=by decide)
  (q1:starEach (e :: es) X.env=(false,eval e X.env) :: starEach es X.env:=by rfl) (q2:((backTo pos (starEach es X.env)).any fun x=>x.fst)=false:=by rfl):PE X (.Call (.Name x pos') (e :: es) [] pos) (zl7 (spN ps q) [] E0 t):=by
 obtain⟨f,fd,F,hm,kp,hb⟩:=D.ex;exact zmO (dvs:=[]) (ds:=[]) (E:=E0) F (hr.mono hk) hg hm kp hb .nil pass0 ha hdb q1 q2
end
def zL(m:Nat)(q:PN)(da:DA):DE:=fun δ S R=>da δ S fun xs S1=>∃ ds,datas xs=some ds/\ds.length=m/\q (ds.map XV.d) [] (ret0 S1 R)
theorem hxs0{h o:List Addr}{H:Hp}:∀ {ds:List PyData} {vs:List V},HasXs h o H (ds.map XV.d) vs->HasXs (h++o) [] H (ds.map XV.d) vs
 | [],_,q=>q
 | d :: ds,vs,⟨v,r,e,q,l⟩=>⟨v,r,e,hx0 q,hxs0 l⟩
theorem zV{ps:List Str}{q:PN}{m:Nat}{t:TA}{da:DA}(ha:RA t da)(hm:ps.length=m:=by rfl):RE (zl7 (spN ps q) [] E0 t) (zL m q da):=fun h o H δ σ S R Q he hs w c =>
 ha h o H δ σ S _ _ he hs w fun o1 H1 S1 xs vs e1 s1 x1 ⟨ds,e,hl,d1⟩=>by
  have ex:=zdn e;subst ex;have hv:=x1.len;rw [append_nil];exact⟨by rw [hv,length_map,hl,hm],h++o1,[],[],_,_,rep0 s1,hxs0 x1,d1,cn0 s1 (c.pre e1)⟩
def zO(i m:Nat)(q:PN)(da:DA):DE:=fun δ S R=>da δ S fun xs S1=>∃ k,xs[i]? = some (.l k)/\∃ p,S1[k]? = some p/\∃ ds,datas (xs.set i (.d .none))=some ds/\ds.length=m/\q ((ds.map XV.d).set i (.l 0)) [p] (zu3 k S1 R)
theorem zvM{h o:List Addr}{H:Hp}{k:Nat}{a:Addr}(ea:o[k]? = some a):∀ {xs:List XV} {vs:List V} {ds:List PyData} {i:Nat},HasXs h o H xs vs->xs[i]? = some (.l k)->datas (xs.set i (.d .none))=some ds->HasXs (h++o.filter (fun b=>b≠a)) [a] H ((ds.map XV.d).set i (.l 0)) vs
 | [],_,_,i,_,e,_=>by simp at e
 | x :: xs,vs,ds,0,⟨v,r,e1,q,l⟩,e,ed=>by
  rw [getElem?_cons_zero] at e;cases e;rw [set_cons_zero] at ed;obtain⟨ds',rfl⟩:∃ ds',ds=.none :: ds':=by
   unfold datas at ed;cases hd:datas xs with
   | none=>rw [hd] at ed; cases ed
   | some y=>rw [hd] at ed; cases ed; exact⟨y,rfl⟩
  have ed':datas xs=some ds':=by
   unfold datas at ed;cases hd:datas xs with
   | none=>rw [hd] at ed; cases ed
   | some y=>rw [hd] at ed; cases ed; rfl
  have ex:=zdn ed';subst ex;obtain⟨b,eb,rfl⟩:=q;rw [ea] at eb;cases eb;exact⟨_,r,e1,⟨a,rfl,rfl⟩,go (ea:=ea) l⟩
 | x :: xs,vs,ds,i+1,⟨v,r,e1,q,l⟩,e,ed=>by
  rw [getElem?_cons_succ] at e;rw [set_cons_succ] at ed
  match x,q,ed with
  | .d d,q,ed =>
   unfold datas at ed;cases hd:datas (xs.set i (.d .none)) with
   | none=>rw [hd] at ed; cases ed
   | some ds' =>
    rw [hd] at ed;cases ed;exact⟨v,r,e1,hxP ea q,zvM ea l e hd⟩
  | .l j,q,ed=>cases ed
  | .o w,q,ed=>cases ed
  | .x _ _,q,ed=>cases ed
where
 go {h o:List Addr} {H:Hp} {k:Nat} {a:Addr} {ea:o[k]? = some a}:∀ {ds:List PyData} {vs:List V},HasXs h o H (ds.map XV.d) vs->HasXs (h++o.filter (fun b=>b≠a)) [a] H (ds.map XV.d) vs
 | [],_,q=>q
 | d :: ds,vs,⟨v,r,e,q,l⟩=>⟨v,r,e,hxP ea q,go (ea:=ea) l⟩
theorem zmx:∀ {xs:List XV} {ds:List PyData},datas xs=some ds->xs.length=ds.length:=fun e=>by
 rw [zdn e,length_map]
theorem zbF{ps:List Str}{q:PN}{i m:Nat}{t:TA}{da:DA}(ha:RA t da)(hm:ps.length=m:=by rfl):RE (zl7 (spN ps q) [] E0 t) (zO i m q da):=fun h o H δ σ S R Q he hs w c =>
 ha h o H δ σ S _ _ he hs w fun o1 H1 S1 xs vs e1 s1 x1 ⟨k,ek,p,ep,ds,e,hl,d1⟩=>by
  have hv:=x1.len;have hd:=zmx e;rw [length_set] at hd;obtain⟨v,_,a,ea,_⟩:=x1.get ek;rw [append_nil];exact⟨by rw [hv,hd,hl,hm],_,[a],[p],_,_,zu2 s1 ea ep,zvM ea x1 ek e,d1,cnP s1 ea ep (c.pre e1)⟩
end
section
def zuS(K:W.Frag):List V->Hp->VK->Prop:=fun xs H Q=>zvC K xs H Q\/∃ z,xs=[.str z]/\z.length<=sizeLine/\Q (.int z.length) H
theorem zE{X:Cx}:CallR X (.builtin "len") (zuS X.K):=zfT.or zjj
def zuf(S:Sto):XV->Option Nat
 | .d (.tuple ds)=>some ds.length
 | .d (.list ds)=>some ds.length
 | .l k=>(S[k]?).map List.length
 | .d (.str z)=>if z.length<=sizeLine then some z.length else none
 | _=>none
def zam:List XV->Sto->RX->Prop:=fun xs S R=>arg1 xs fun x=>∃ n,zuf S x=some n/\R (.d (.int n)) S
theorem zdT{K:W.Frag}:RC (zuS K) zam:=fun h o H S xs vs R Q hs hx q c=>by
 obtain⟨x,rfl,n,hd,q1⟩:=za3 q;unfold zuf at hd;split at hd
 ·cases hd;exact .inl (zm6 h o H S _ vs R Q hs hx ⟨_,rfl,q1⟩ c)
 ·cases hd;exact .inl (zm6 h o H S _ vs R Q hs hx ⟨_,rfl,q1⟩ c)
 ·rename_i k;cases hk:S[k]? with
  | none=>rw [hk] at hd; cases hd
  | some ds =>
   rw [hk] at hd;cases hd;exact .inl (zm6 h o H S _ vs R Q hs hx ⟨ds,hk,q1⟩ c)
 ·split at hd
  ·rename_i hz;cases hd;obtain⟨v,rfl,hx1⟩:=hxs1 hx;exact .inr ⟨_,by rw [zeY hx1],hz,c o H S _ _ Ex.refl hs (xI _) q1⟩
  ·cases hd
 ·cases hd
section
variable {S:Sto} {ds:List PyData} {k:Nat} {z:Str}
theorem zoE:zuf S (.d (.tuple ds))=some ds.length:=rfl
theorem zqP:zuf S (.d (.list ds))=some ds.length:=rfl
end
section
variable {X:Cx} {elts:List Expr} {n:Nat} {tpos:Pos}
def zrk(K:W.Frag)(ta:TA):TI:=fun σ H R=>ta σ H fun vs H1=>∃ a,vs=[.ref a]/\(((∃ xs,SqT K H1 a xs)/\R (Ite (SqT K) a) H1)\/((∃ xs,SqL K H1 a xs)/\R (Ite (SqL K) a) H1))
theorem zo4{a:Expr}{ta:TA}{p pos:Pos}(hg:Gl X "enumerate")(hm:X.mg "enumerate" = none)(ha:PA X [a] ta)(hs:starEach [a] X.env=[(false,eval a X.env)]:=by rfl):PI X (.Tuple elts n tpos) (.Call (.Name "enumerate" p) [a] [] pos) (zrk X.K ta):=by
 intro zn s σ H R I h;refine Call_ (zcR I hg hm zhx (PyProof.Rows.callWith_type1 (thn (ha pos zn s σ H _ I h) fun us s1 ⟨vs,H1,I1,r1,q1⟩=>?_) hs rfl));obtain⟨b,e,⟨⟨xs,hq⟩,q⟩ | ⟨⟨xs,hq⟩,q⟩⟩:=q1
 ·subst e;cases r1 with
  | cons r rr =>
   cases rr;cases r;obtain⟨its,rv,pl,hz⟩:=I1.tuple hq;refine zin (show s1.heap.IsTuple b its.toArray from pl) fun g he hj k=>?_;refine wpAny_pyIter_enum (s:={ s1 with heap:=g }) he ?_
   have I2:Inv X zn σ H1 { s1 with heap:=g }:=I1.kept (t':=s1.toks) k;refine⟨s1.heap.objs.size+1,[s1.heap.objs.size+1,s1.heap.objs.size],_,_,H1,rfl,I2,zlX b _ _ (succ_ne_self _),⟨⟨_,he⟩,hj⟩,fun c hc=>?_,q⟩;rcases mem_cons.mp hc with rfl | hc
   ·exact I1.fpOk (le_succ _) (I1.hok.fresh (le_succ _))
   ·rw [mem_singleton.mp hc];exact I1.fpOk (le_refl _) (I1.hok.fresh (le_refl _))
 ·subst e;cases r1 with
  | cons r rr =>
   cases rr;cases r;obtain⟨its,rv,pl,hz⟩:=I1.list hq;refine call_enumerate_list pl.isList fun g he hj _ k=>?_;refine wpAny_pyIter_enum (s:={ s1 with heap:=g }) he ?_
   have I2:Inv X zn σ H1 { s1 with heap:=g }:=I1.kept (t':=s1.toks) k;refine⟨s1.heap.objs.size+1,[s1.heap.objs.size+1,s1.heap.objs.size],_,_,H1,rfl,I2,zl9 b _ _ (succ_ne_self _),⟨⟨_,he⟩,hj⟩,fun c hc=>?_,q⟩;rcases mem_cons.mp hc with rfl | hc
   ·exact I1.fpOk (le_succ _) (I1.hok.fresh (le_succ _))
   ·rw [mem_singleton.mp hc];exact I1.fpOk (le_refl _) (I1.hok.fresh (le_refl _))
end
def ziK(a:DA):DI:=fun δ S R=>a δ S fun xs S1=>arg1 xs fun x=>∃ ds,zmk x=some ds/\R (ziv 0 ds) S1
theorem zpt{K:W.Frag}{ta:TA}{da:DA}(ha:RA ta da):RI (zrk K ta) (ziK da):=fun h o H δ σ S R Q he hs q c =>
 ha h o H δ σ S _ _ he hs q fun o1 H1 S1 xs vs e1 s1 x1 d0=>by
  obtain⟨x,rfl,ds,hd,d1⟩:=za3 d0;obtain⟨v,rfl,hv⟩:=hxs1 x1;have core:∀ {Sq:Hp->Addr->List V->Prop} {a:Addr} {ws:List V},(∀ {o2 H2},ExH h o1 H1 o2 H2->Sq H2 a ws)->HasL (vx h o1 H1) ds ws->WalkX h o1 H1 (Ite Sq a) (ziv 0 ds):=by
   intro Sq a ws ea' l;have hl:=l.length;refine⟨fun i o2 H2 e2 hi=>⟨ws,ea' e2,by rw [zdK] at hi; omega⟩,fun i d o2 H2 e2 hi=>?_,fun i d o2 H2 x H3 S2 e2 s2 hi y=>?_⟩
   ·obtain⟨e,h1,rfl⟩:=zfa ds 0 i d hi;obtain⟨u,eu,_⟩:=l.get h1;exact⟨ws,u,ea' e2,eu⟩
   ·obtain⟨e,h1,rfl⟩:=zfa ds 0 i d hi;obtain⟨u,eu,hu⟩:=l.get h1;obtain⟨p,v,hp,rfl,rfl,hy⟩:=y;have ev:=hy ws (ea' e2);rw [eu] at ev;cases ev;refine⟨Same.laid hp,zaP.mpr ⟨p,_,rfl,s2.laid hp,zC.mpr ⟨_,_,rfl,?_,zC.mpr ⟨_,_,rfl,(hu.mono e2.vx).mono (zeG (Same.laid hp)),zH.mpr rfl⟩⟩⟩⟩;rw [zero_add];exact zcG.mpr rfl
  unfold zmk at hd;split at hd
  ·cases hd;obtain⟨a,ws,rfl,ea,l⟩:=za5.mp (show Has (vx h o1 H1) (.list ds) v from hv);exact⟨a,rfl,.inr ⟨⟨ws,.of (zaD _ _ ea)⟩,c o1 H1 S1 _ _ e1 s1 (core (fun e2=>.of (zaD _ _ (e2.vx _ _ ea))) l) d1⟩⟩
  ·cases hd;obtain⟨a,ws,rfl,ea,l⟩:=zaP.mp (show Has (vx h o1 H1) (.tuple ds) v from hv);exact⟨a,rfl,.inl ⟨⟨ws,.of (zaD _ _ ea)⟩,c o1 H1 S1 _ _ e1 s1 (core (fun e2=>.of (zaD _ _ (e2.vx _ _ ea))) l) d1⟩⟩
  ·cases hd
def zu0:XV->List XV->Sto->RX->Prop:=fun x xs S R=>∃ k,x=.l k/\∃ ds,S[k]? = some ds/\xs=[]/\∃ d,ds[ds.length - 1]? = some d/\R (.d d) (S.set k ds.dropLast)
theorem HasL.dropLast{H:Hp}:∀ {ds:List PyData} {vs:List V},HasL H ds vs->HasL H ds.dropLast vs.dropLast
 | [],vs,l=>by rw [zH.mp l]; exact zH.mpr rfl
 | [d],vs,l=>by
  obtain⟨v,r,rfl,_,l⟩:=zC.mp l;rw [zH.mp l];exact zH.mpr rfl
 | d :: e :: ds,vs,l=>by
  obtain⟨v,r,rfl,hv,l⟩:=zC.mp l;obtain⟨w,r,rfl,hw,l'⟩:=zC.mp l;rw [List.dropLast_cons₂,List.dropLast_cons₂];exact zC.mpr ⟨v,_,rfl,hv,HasL.dropLast l⟩
theorem zut:RM zvS zu0:=fun h o H S x v xs vs R Q hs hx hxs q c=>by
 obtain⟨k,rfl,ds,e,rfl,d,ed,q1⟩:=q;obtain⟨a,ea,rfl⟩:=hx;obtain⟨ws,ew,l⟩:=hs.cont k a ds ea e;cases hxs;obtain⟨y,ey,hy⟩:=l.get ed;exact⟨a,ws,y,rfl,rfl,ew,by rw [l.length]; exact ey,c o _ _ (.d d) _ (Ex.upd ea) (hs.upd ea l.dropLast) (HasX.mono (x:=.d d) (Ex.upd ea) hy) q1⟩
def zuW(rd:XV->List XV->Sto->RX->Prop)(e:DE)(a:DA):DE:=fun δ S R=>e δ S fun x S1=>∃ z,x=.d (.str z)/\a δ S1 fun xs S2=>rd x xs S2 R
theorem zq3{K:W.Frag}{r:V->List V->Hp->VK->Prop}{rd:XV->List XV->Sto->RX->Prop}{te:TE}{de:DE}{tl:TA}{dl:DA}(hr:RM r rd)(he':RE te de)(ha:RA tl dl):RE (tBM K "str" r te tl) (zuW rd de dl):=fun h o H δ σ S R Q he hs q c =>
 he' h o H δ σ S _ _ he hs q fun o1 H1 S1 x v e1 s1 x1 ⟨z,ez,d1⟩=>by
  subst ez;cases zeY x1;exact⟨rfl,ha h o1 H1 δ σ S1 _ _ (he.mono e1) s1 d1 fun o2 H2 S2 xs vs e2 s2 x2 d2=>hr h o2 H2 S2 (.d (.str z)) _ xs vs R Q s2 (HasX.mono (x:=.d (.str z)) e2 x1) x2 d2 (c.pre (e1.trans e2))⟩
theorem zhS{H:Hp}:∀ {ns:List Str} {vs:List V},HasL H (ns.map PyData.str) vs->vs=ns.map V.str
 | [],vs,h=>zH.mp h
 | n :: ns,vs,h=>by
  obtain⟨v,r,rfl,h1,h2⟩:=zC.mp h;rw [zeA.mp h1,zhS h2];rfl
def zpK:XV->List XV->Sto->RX->Prop:=fun x xs S R=>asS x fun z=>arg1 xs fun y=>∃ ds,zn1 S y=some ds/\∃ zs:List Str,ds=zs.map PyData.str/\z.length<=16/\zs.length<=1000/\(∀ y∈zs,y.length<=1000)/\R (.d (.str (PySem.Txt.join z zs))) S
theorem zpa{K:W.Frag}:RM (ztb K) zpK:=fun h o H S x v xs vs R Q hs hx hxs q c=>by
 replace q:=zqi q;obtain⟨z,rfl,q⟩:=q;obtain⟨y,rfl,ds,e,zs,rfl,h1,h2,h3,q1⟩:=za3 q;obtain⟨u,rfl,hu⟩:=hxs1 hxs;obtain⟨a,ws,rfl,ea,l⟩:=zbt hs e hu;rw [zhS l] at ea;exact⟨z,a,zs,zeY hx,rfl,.of ea,h1,h2,h3,c o H S _ _ Ex.refl hs (xS _) q1⟩
def zpo:D2:=fun x y S R=>asL S x fun ds=>asL S y fun es=>ds.length+es.length<=1000/\R (.l S.length) (S++[ds++es])
theorem zsh:RO zsL zpo:=fun h o H S x y v u R Q hs hx hy q c=>by
 obtain⟨ds,e0,es,e1,hl,q⟩:=q;obtain⟨a,vs,rfl,ea,la⟩:=zbt hs e0 hx;obtain⟨b,us,rfl,eb,lb⟩:=zbt hs e1 hy;exact⟨a,b,vs,us,rfl,rfl,ea,eb,by rw [la.length,lb.length]; exact le_of_lt (small1000 hl),zrJ hs (la.append lb) c q⟩
abbrev zwi (a:Addr) (m:Nat):DEnds:={ nx:=fun δ _=>δ[0]? = some (some (.o (.ref a)))/\δ.length=m+1,ct:=fun δ _=>δ[0]? = some (some (.o (.ref a)))/\δ.length=m+1,rt:=fun _ _=>False }
end
section
open Sem (wp)
def ItK(t:Bool)(h:Heap)(j a:Addr)(k:Nat):Prop:=match t with
 | true=>h.IsTupleIter j a k
 | false=>h.IsListIter j a k
def SqK(t:Bool)(h:Heap)(a:Addr)(xs:Array Value):Prop:=match t with
 | true=>h.IsTuple a xs
 | false=>h.IsList a xs
theorem ItK.at{t:Bool}{h g:Heap}{j a:Addr}{k:Nat}(q:ItK t h j a k)(f:∀ o,h.get? j=some o->g.get? j=some o):ItK t g j a k:=by
 cases t
 ·exact Heap.IsListIter.at (show h.IsListIter j a k from q) f
 ·exact Heap.IsTupleIter.at (show h.IsTupleIter j a k from q) f
theorem ItK.here{t:Bool}{h:Heap}{j a:Addr}{k:Nat}(q:ItK t h j a k):∃ o,h.get? j=some o/\∀ v,o.data≠.cell v:=by
 cases t <;> (obtain⟨o,e,c,d⟩:=q; exact⟨o,e,fun v z=>by rw [d] at z; cases z⟩)
theorem SqK.at{t:Bool}{h g:Heap}{a:Addr}{xs:Array Value}(q:SqK t h a xs)(f:∀ o,h.get? a=some o->g.get? a=some o):SqK t g a xs:=by
 cases t <;> (obtain⟨o,e,r⟩:=q; exact⟨o,f o e,r⟩)
theorem SqK.here{t:Bool}{h:Heap}{a:Addr}{xs:Array Value}(q:SqK t h a xs):∃ o,h.get? a=some o:=by
 cases t <;> (obtain⟨o,e,r⟩:=q; exact⟨o,e⟩)
section
variable {prog:Program} {w:World} {A:Around} {E:Value->Shared->Prop} {s:Shared}
theorem zlY{t:Bool}{j a:Addr}{k:Nat}{xs:Array Value}{x:Value}{Q:Value->Shared->Prop}(hj:ItK t s.heap j a k)(ha:SqK t s.heap a xs)(hx:xs[k]? = some x)
  (hQ:∀ g,ItK t g j a (k+1)->Heap.SameBut j s.heap g->Q x { s with heap:=g }):wpAny (model prog w) A (Builtin.SmallTypes.nextOf (.ref j)) Q E s:=by
 cases t
 ·exact wpAny_nextOf_list_item hj ha hx hQ
 ·exact zhZ hj ha hx hQ
theorem zfi{t:Bool}{j a:Addr}{k:Nat}{xs:Array Value}{Q:Value->Shared->Prop}(hh:A.handled=none)(hj:ItK t s.heap j a k)(ha:SqK t s.heap a xs)(hx:xs[k]? = none)
  (hE:∀ g e,Heap.ExtBut j s.heap g->(∃ o,g.get? e=some o/\o.cls=.type "StopIteration")->E (.ref e) { s with heap:=g }):wpAny (model prog w) A (Builtin.SmallTypes.nextOf (.ref j)) Q E s:=by
 cases t
 ·exact wpAny_nextOf_list_end hh hj ha hx hE
 ·exact zen hh hj ha hx hE
theorem zsV{t:Bool}{a:Addr}{xs:Array Value}{Q:Value->Shared->Prop}(ha:SqK t s.heap a xs)(hQ:Q (.ref s.heap.objs.size) { s with heap:=s.heap.push { cls:=.type (if t then "tuple_iterator" else "list_iterator"),data:=.fields #[.ref a,.int 0 0] } }):wpAny (model prog w) A (pyIter (.ref a)) Q E s:=by
 cases t
 ·exact wpAny_pyIter_list ha hQ
 ·exact wpAny_pyIter_tuple ha hQ
theorem znu{T:Addr}{c d x:Value}{k:Nat}{Q:Unit->Shared->Prop}(hT:IsPair s.heap T c d)(hQ:∀ g,g.get? T=some { cls:=.type "tuple",data:=.seq ((#[c,d]:Array Value).setIfInBounds k x) }->Heap.SameBut T s.heap g->Q () { s with heap:=g }):
  wpAny (model prog w) A (updateSeq T (·.setIfInBounds k x)) Q E s:=wpAny_updateSeq_pair hT hQ
structure ZAp(z p r i j a b:Addr):Prop where
 pz:p≠z
 rz:r≠z
 iz:i≠z
 jz:j≠z
 pr:p≠r
 pi:p≠i
 pj:p≠j
 ri:r≠i
 rj:r≠j
 ij:i≠j
 az:a≠z
 ar:a≠r
 ai:a≠i
 aj:a≠j
 bz:b≠z
 br:b≠r
 bi:b≠i
 bj:b≠j
theorem zkb{t u:Bool}{z p r i j a b:Addr}{k m:Nat}{xs ys:Array Value}{x y c d:Value}{Q:Value->Shared->Prop}(D:ZAp z p r i j a b)(hz:IsZip s.heap z p r .none)(hp:IsPair s.heap p (.ref i) (.ref j))(hr:IsPair s.heap r c d)
  (hi:ItK t s.heap i a k) (hj:ItK u s.heap j b m) (ha:SqK t s.heap a xs) (hb:SqK u s.heap b ys) (hx:xs[k]? = some x) (hy:ys[m]? = some y)
  (hQ:∀ g,IsZip g z p r (rawInt s.heap.objs.size)->IsPair g r x y->ItK t g i a (k+1)->ItK u g j b (m+1)->IsPair g s.heap.objs.size x y ->
   (∀ q o,q≠z->q≠r->q≠i->q≠j->s.heap.get? q=some o->g.get? q=some o)->Q (.ref s.heap.objs.size) { s with heap:=g }) :
  wpAny (model prog w) A (Builtin.«zip.__next__» ⟨[.ref z],[]⟩) (fun fn s'=>∃ v,fn=.done (.ret v)/\Q v s') E s:=by
 obtain⟨h0,gs,dr,tk,os⟩:=s;show wpAny _ _ (field (.ref z) 2 >>= _) _ _ ⟨h0,gs,dr,tk,os⟩;refine wpAny_bind (wpAny_field hz rfl (x:=.bool false) rfl ?_);show wpAny _ _ (field (.ref z) 3 >>= _) _ _ ⟨h0,gs,dr,tk,os⟩;refine wpAny_bind (wpAny_field hz rfl (x:=.ref p) rfl (wpAny_bind (wpAny_seqItems hp rfl ?_)));show wpAny _ _ (Builtin.SmallTypes.ownedTupleIsFree (.ref z) >>= _) _ _ ⟨h0,gs,dr,tk,os⟩;refine wpAny_bind ?_;unfold Builtin.SmallTypes.ownedTupleIsFree;refine wpAny_bind (wpAny_field hz rfl (x:=.none) rfl (wpAny_pure ?_));simp only [if_true];refine wpAny_bind (wpAny_rule (wpAny_bind (wpAny_field hz rfl (x:=.ref r) rfl (wpAny_bind (wpAny_setField_rec hz (by simp) fun g1 z1 b1=>?_)))));replace z1:IsZip g1 z p r .ellipsis:=z1;replace b1:Heap.SameBut z h0 g1:=b1;refine wpAny_bind ?_;simp only [List.zipIdx_cons,List.zipIdx_nil,forIn_cons,forIn_nil];refine wpAny_bind (wpAny_bind (wpAny_onRaise ?_));show wpAny _ _ (Builtin.SmallTypes.nextOf (.ref i) >>= _) _ _ ⟨g1,gs,dr,tk,os⟩;refine wpAny_bind (zlY (s:=⟨g1,gs,dr,tk,os⟩) (hi.at fun o e=>b1.extBut i o D.iz e) (ha.at fun o e=>b1.extBut a o D.az e) hx fun g2 i2 b2=>wpAny_pure ?_);replace b2:Heap.SameBut i g1 g2:=b2;have r2:IsPair g2 r c d:=b2.extBut r _ D.ri (b1.extBut r _ D.rz hr);refine wpAny_bind (wpAny_seqItems (s:=⟨g2,gs,dr,tk,os⟩) r2 rfl (wpAny_bind (znu (s:=⟨g2,gs,dr,tk,os⟩) r2 fun g3 r3 b3=>?_)));replace r3:IsPair g3 r x d:=r3;replace b3:Heap.SameBut r g2 g3:=b3;refine wpAny_bind (wpAny_letGo (wpAny_pure (wpAny_bind (wpAny_bind (wpAny_onRaise ?_)))));show wpAny _ _ (Builtin.SmallTypes.nextOf (.ref j) >>= _) _ _ ⟨g3,gs,dr,tk,os⟩;have k13:∀ q o,q≠z->q≠r->q≠i->h0.get? q=some o->g3.get? q=some o:=fun q o n1 n2 n3 e=>b3.extBut q o n2 (b2.extBut q o n3 (b1.extBut q o n1 e));refine wpAny_bind (zlY (s:=⟨g3,gs,dr,tk,os⟩) (hj.at fun o e=>k13 j o D.jz (Ne.symm D.rj) (Ne.symm D.ij) e) (hb.at fun o e=>k13 b o D.bz D.br D.bi e) hy fun g4 j4 b4=>wpAny_pure ?_);replace b4:Heap.SameBut j g3 g4:=b4;have r4:IsPair g4 r x d:=b4.extBut r _ D.rj r3;refine wpAny_bind (wpAny_seqItems (s:=⟨g4,gs,dr,tk,os⟩) r4 rfl (wpAny_bind (znu (s:=⟨g4,gs,dr,tk,os⟩) r4 fun g5 r5 b5=>?_)));replace r5:IsPair g5 r x y:=r5;replace b5:Heap.SameBut r g4 g5:=b5;refine wpAny_bind (wpAny_letGo (wpAny_pure (wpAny_pure (wpAny_bind (wpAny_seqItems (s:=⟨g5,gs,dr,tk,os⟩) r5 rfl (wpAny_bind (wpAny_newTuple ?_)))))));have sz:g5.objs.size=h0.objs.size:=by rw [b5.1,b4.1,b3.1,b2.1,b1.1]
 have z5:IsZip g5 z p r .ellipsis:=b5.extBut z _ (Ne.symm D.rz) (b4.extBut z _ (Ne.symm D.jz) (b3.extBut z _ (Ne.symm D.rz) (b2.extBut z _ (Ne.symm D.iz) z1)));have k5:∀ q o,q≠z->q≠r->q≠i->q≠j->h0.get? q=some o->g5.get? q=some o:=fun q o n1 n2 n3 n4 e=>b5.extBut q o n2 (b4.extBut q o n4 (k13 q o n1 n2 n3 e));have i5:ItK t g5 i a (k+1):=ItK.at i2 fun o e=>b5.extBut i o (Ne.symm D.ri) (b4.extBut i o D.ij (b3.extBut i o (Ne.symm D.ri) e));have j5:ItK u g5 j b (m+1):=ItK.at j4 fun o e=>b5.extBut j o (Ne.symm D.rj) e;have zl:z<g5.objs.size:=lt_size z5;show wpAny _ _ (Builtin.SmallTypes.ownedTupleHandOut (.ref z) (.ref g5.objs.size) >>= _) _ _ _;refine wpAny_bind ?_;unfold Builtin.SmallTypes.ownedTupleHandOut;have z6:IsZip (g5.push { cls:=.type "tuple",data:=.seq #[x,y] }) z p r .ellipsis:=get?_push_of_some _ z5;refine wpAny_bind (wpAny_setField_rec z6 (by simp) fun g7 z7 b7=>?_);replace z7:IsZip g7 z p r (rawInt g5.objs.size):=z7;replace b7:Heap.SameBut z (g5.push { cls:=.type "tuple",data:=.seq #[x,y] }) g7:=b7;refine wpAny_setField_rec z7 (by simp) fun g8 z8 b8=>?_;replace z8:IsZip g8 z p r (rawInt g5.objs.size):=z8;replace b8:Heap.SameBut z g7 g8:=b8;have up:∀ q o,q≠z->g5.get? q=some o->g8.get? q=some o:=fun q o n e=>b8.extBut q o n (b7.extBut q o n (get?_push_of_some _ e));have t8:IsPair g8 g5.objs.size x y:=b8.extBut _ _ (ne_of_gt zl) (b7.extBut _ _ (ne_of_gt zl) (get?_push_size _ rfl));rw [sz] at z8 t8;refine wpAny_pure ⟨_,rfl,?_⟩;show Q (.ref g5.objs.size) _;rw [sz];exact hQ g8 z8 (up r _ D.rz r5) (i5.at fun o e=>up i o D.iz e) (j5.at fun o e=>up j o D.jz e) t8 fun q o n1 n2 n3 n4 e=>up q o n1 (k5 q o n1 n2 n3 n4 e)
theorem zj9{t u:Bool}{z p r i j a b:Addr}{k m:Nat}{xs ys:Array Value}{c d:Value}{Q:Fin->Shared->Prop}(hh:A.handled=none)(D:ZAp z p r i j a b)(hz:IsZip s.heap z p r .none)(hp:IsPair s.heap p (.ref i) (.ref j))(hr:IsPair s.heap r c d)
  (hi:ItK t s.heap i a k) (hj:ItK u s.heap j b m) (ha:SqK t s.heap a xs) (hb:SqK u s.heap b ys) (hend:xs[k]? = none\/ys[m]? = none)
  (hE:∀ g e,(∀ q o,q≠z->q≠r->q≠i->q≠j->s.heap.get? q=some o->g.get? q=some o)->(∃ o,g.get? e=some o/\o.cls=.type "StopIteration")->E (.ref e) { s with heap:=g }) :
  wpAny (model prog w) A (Builtin.«zip.__next__» ⟨[.ref z],[]⟩) Q E s:=by
 obtain⟨h0,gs,dr,tk,os⟩:=s;show wpAny _ _ (field (.ref z) 2 >>= _) _ _ ⟨h0,gs,dr,tk,os⟩;refine wpAny_bind (wpAny_field hz rfl (x:=.bool false) rfl ?_);show wpAny _ _ (field (.ref z) 3 >>= _) _ _ ⟨h0,gs,dr,tk,os⟩;refine wpAny_bind (wpAny_field hz rfl (x:=.ref p) rfl (wpAny_bind (wpAny_seqItems hp rfl ?_)));show wpAny _ _ (Builtin.SmallTypes.ownedTupleIsFree (.ref z) >>= _) _ _ ⟨h0,gs,dr,tk,os⟩;refine wpAny_bind ?_;unfold Builtin.SmallTypes.ownedTupleIsFree;refine wpAny_bind (wpAny_field hz rfl (x:=.none) rfl (wpAny_pure ?_));simp only [if_true];refine wpAny_bind (wpAny_rule (wpAny_bind (wpAny_field hz rfl (x:=.ref r) rfl (wpAny_bind (wpAny_setField_rec hz (by simp) fun g1 z1 b1=>?_)))));replace z1:IsZip g1 z p r .ellipsis:=z1;replace b1:Heap.SameBut z h0 g1:=b1;refine wpAny_bind ?_;simp only [List.zipIdx_cons,List.zipIdx_nil,forIn_cons,forIn_nil];refine wpAny_bind (wpAny_bind (wpAny_onRaise ?_));show wpAny _ _ (Builtin.SmallTypes.nextOf (.ref i) >>= _) _ _ ⟨g1,gs,dr,tk,os⟩;have notz:∀ {g:Heap} {e:Addr} {o:Obj},IsZip g z p r .ellipsis->g.get? e=some o->o.cls=.type "StopIteration"->e≠z:=fun h1 h2 h3 w=>by
  subst w;rw [h1] at h2;cases h2;simp at h3
 cases hx:xs[k]? with
 | none =>
  refine wpAny_bind (zfi (s:=⟨g1,gs,dr,tk,os⟩) hh (hi.at fun o e=>b1.extBut i o D.iz e) (ha.at fun o e=>b1.extBut a o D.az e) hx fun g2 e b2 he=>?_);obtain⟨oe,e1,e2⟩:=he;have z2:IsZip g2 z p r .ellipsis:=b2 z _ (Ne.symm D.iz) z1;exact wpAny_setField_rec z2 (by simp) fun g3 _ b3=>hE g3 e (fun q o n1 _ n3 _ w=>b3.extBut q o n1 (b2 q o n3 (b1.extBut q o n1 w))) ⟨oe,b3.extBut e oe (notz z2 e1 e2) e1,e2⟩
 | some x =>
  have hy:ys[m]? = none:=hend.elim (fun w=>by rw [hx] at w; cases w) id;refine wpAny_bind (zlY (s:=⟨g1,gs,dr,tk,os⟩) (hi.at fun o e=>b1.extBut i o D.iz e) (ha.at fun o e=>b1.extBut a o D.az e) hx fun g2 i2 b2=>wpAny_pure ?_);replace b2:Heap.SameBut i g1 g2:=b2;have r2:IsPair g2 r c d:=b2.extBut r _ D.ri (b1.extBut r _ D.rz hr);refine wpAny_bind (wpAny_seqItems (s:=⟨g2,gs,dr,tk,os⟩) r2 rfl (wpAny_bind (znu (s:=⟨g2,gs,dr,tk,os⟩) r2 fun g3 r3 b3=>?_)));replace b3:Heap.SameBut r g2 g3:=b3;refine wpAny_bind (wpAny_letGo (wpAny_pure (wpAny_bind (wpAny_bind (wpAny_onRaise ?_)))));show wpAny _ _ (Builtin.SmallTypes.nextOf (.ref j) >>= _) _ _ ⟨g3,gs,dr,tk,os⟩;have k13:∀ q o,q≠z->q≠r->q≠i->h0.get? q=some o->g3.get? q=some o:=fun q o n1 n2 n3 e=>b3.extBut q o n2 (b2.extBut q o n3 (b1.extBut q o n1 e));refine wpAny_bind (zfi (s:=⟨g3,gs,dr,tk,os⟩) hh (hj.at fun o e=>k13 j o D.jz (Ne.symm D.rj) (Ne.symm D.ij) e) (hb.at fun o e=>k13 b o D.bz D.br D.bi e) hy fun g4 e b4 he=>?_);obtain⟨oe,e1,e2⟩:=he;have z4:IsZip g4 z p r .ellipsis:=b4 z _ (Ne.symm D.jz) (b3.extBut z _ (Ne.symm D.rz) (b2.extBut z _ (Ne.symm D.iz) z1));exact wpAny_setField_rec z4 (by simp) fun g5 _ b5=>hE g5 e (fun q o n1 n2 n3 n4 w=>b5.extBut q o n1 (b4 q o n4 (k13 q o n1 n2 n3 w))) ⟨oe,b5.extBut e oe (notz z4 e1 e2) e1,e2⟩
abbrev zpA (t:Bool) (h:Heap) (a:Addr):Heap:=h.push { cls:=.type (if t then "tuple_iterator" else "list_iterator"),data:=.fields #[.ref a,.int 0 0] }
abbrev zpB (t u:Bool) (h:Heap) (a b:Addr):Heap:=(zpA t h a).push { cls:=.type (if u then "tuple_iterator" else "list_iterator"),data:=.fields #[.ref b,.int 0 0] }
abbrev zpC (t u:Bool) (h:Heap) (a b:Addr):Heap:=(zpB t u h a b).push { cls:=.type "tuple",data:=.seq #[.ref h.objs.size,.ref (zpA t h a).objs.size] }
abbrev zpD (t u:Bool) (h:Heap) (a b:Addr):Heap:=(zpC t u h a b).push { cls:=.type "tuple",data:=.seq #[.none,.none] }
abbrev zpE (t u:Bool) (h:Heap) (a b:Addr):Heap:=(zpD t u h a b).push { cls:=.type "zip",data:=.fields #[.none,.bool false,.bool false,.ref (zpB t u h a b).objs.size,.ref (zpC t u h a b).objs.size] }
theorem zrp(t u:Bool)(a b:Addr)(xs ys:Array Value):Meets (Builtin.«zip.__new__» ⟨[.type "zip",.ref a,.ref b],[]⟩) (fun _ R s=>SqK t s.heap a xs/\SqK u s.heap b ys /\
   ∀ g,IsZip g (s.heap.objs.size+4) (s.heap.objs.size+2) (s.heap.objs.size+3) .none->IsPair g (s.heap.objs.size+2) (.ref s.heap.objs.size) (.ref (s.heap.objs.size+1))->IsPair g (s.heap.objs.size+3) .none .none ->
    ItK t g s.heap.objs.size a 0->ItK u g (s.heap.objs.size+1) b 0->(∀ q o,s.heap.get? q=some o->g.get? q=some o)->R (.ok (.ret (.ref (s.heap.objs.size+4)))) { s with heap:=g }) :=
 .of_wp fun prog w A R s hyp=>by
  obtain⟨g0,gs,dr,tk,os⟩:=s;obtain⟨ha,hb,hyp⟩:=hyp;have sub:=sub_zip;have hA:SqK t (Shared.heap ⟨g0,gs,dr,tk,os⟩) a xs:=ha;have hB:SqK u (Shared.heap ⟨g0.push { cls:=.type (if t then "tuple_iterator" else "list_iterator"),data:=.fields #[.ref a,.int 0 0] },gs,dr,tk,os⟩) b ys:=SqK.at hb fun o e=>get?_push_of_some _ e
  wp_walk using zsV hA,zsV hB
  refine⟨_,rfl,?_⟩;have z1:(zpA t g0 a).objs.size=g0.objs.size+1:=size_push ..;have z2:(zpB t u g0 a b).objs.size=g0.objs.size+2:=by rw [size_push,z1]
  have z3:(zpC t u g0 a b).objs.size=g0.objs.size+3:=by rw [size_push,z2]
  have z4:(zpD t u g0 a b).objs.size=g0.objs.size+4:=by rw [size_push,z3]
  have f1:=get?_push_size g0 (o:={ cls:=.type (if t then "tuple_iterator" else "list_iterator"),data:=.fields #[.ref a,.int 0 0] }) (by cases t <;> rfl);have f2:=get?_push_size (zpA t g0 a) (o:={ cls:=.type (if u then "tuple_iterator" else "list_iterator"),data:=.fields #[.ref b,.int 0 0] }) (by cases u <;> rfl);have f3:=get?_push_size (zpB t u g0 a b) (o:={ cls:=.type "tuple",data:=.seq #[.ref g0.objs.size,.ref (zpA t g0 a).objs.size] }) rfl;have f4:=get?_push_size (zpC t u g0 a b) (o:={ cls:=.type "tuple",data:=.seq #[.none,.none] }) rfl;have f5:=get?_push_size (zpD t u g0 a b) (o:={ cls:=.type "zip",data:=.fields #[.none,.bool false,.bool false,.ref (zpB t u g0 a b).objs.size,.ref (zpC t u g0 a b).objs.size] }) rfl;have c1:∀ q o,g0.get? q=some o->(zpA t g0 a).get? q=some o:=fun q o e=>get?_push_of_some _ e;have c2:∀ q o,(zpA t g0 a).get? q=some o->(zpB t u g0 a b).get? q=some o:=fun q o e=>get?_push_of_some _ e;have c3:∀ q o,(zpB t u g0 a b).get? q=some o->(zpC t u g0 a b).get? q=some o:=fun q o e=>get?_push_of_some _ e;have c4:∀ q o,(zpC t u g0 a b).get? q=some o->(zpD t u g0 a b).get? q=some o:=fun q o e=>get?_push_of_some _ e;have c5:∀ q o,(zpD t u g0 a b).get? q=some o->(zpE t u g0 a b).get? q=some o:=fun q o e=>get?_push_of_some _ e;have y1:=c5 _ _ (c4 _ _ (c3 _ _ (c2 _ _ f1)));have y2:=c5 _ _ (c4 _ _ (c3 _ _ f2));have y3:=c5 _ _ (c4 _ _ f3);have y4:=c5 _ _ f4;have y5:(zpE t u g0 a b).get? (zpD t u g0 a b).objs.size=some { cls:=.type "zip",data:=.fields #[.none,.bool false,.bool false,.ref (zpB t u g0 a b).objs.size,.ref (zpC t u g0 a b).objs.size] }:=f5;have fin:R (.ok (.ret (.ref (zpD t u g0 a b).objs.size))) ⟨zpE t u g0 a b,gs,dr,tk,os⟩:=by
   rw [z4,z2,z3] at y5;rw [z2,z1] at y3;rw [z3] at y4;rw [z1] at y2;rw [z4];refine hyp _ y5 y3 y4 ?_ ?_ fun q o e=>c5 q o (c4 q o (c3 q o (c2 q o (c1 q o e))))
   ·cases t <;> exact⟨_,y1,rfl,rfl⟩
   ·cases u <;> exact⟨_,y2,rfl,rfl⟩
  exact fin
theorem zjr{t u:Bool}{a b:Addr}{xs ys:Array Value}{Q:Value->Shared->Prop}(ha:SqK t s.heap a xs)(hb:SqK u s.heap b ys)
  (hyp:∀ g,IsZip g (s.heap.objs.size+4) (s.heap.objs.size+2) (s.heap.objs.size+3) .none->IsPair g (s.heap.objs.size+2) (.ref s.heap.objs.size) (.ref (s.heap.objs.size+1))->IsPair g (s.heap.objs.size+3) .none .none ->
    ItK t g s.heap.objs.size a 0->ItK u g (s.heap.objs.size+1) b 0->(∀ q o,s.heap.get? q=some o->g.get? q=some o)->Q (.ref (s.heap.objs.size+4)) { s with heap:=g }):wpAny (model prog w) A (call (.type "zip") [.ref a,.ref b]) Q E s:=by
 refine callType_new F.called_zip dz (F.typeCall_zip_2 _ _) (F.newCall_zip_2 _ _) (fun ob=>F.args_object_init_3 ob _ _) F.entry_zip_new (zrp t u a b xs ys) ⟨ha,hb,fun g h1 h2 h3 h4 h5 h6=>?_⟩;exact⟨⟨_,h1,rfl⟩,hyp g h1 h2 h3 h4 h5 h6⟩
end
def Itz(S1 S2:Hp->Addr->List V->Prop)(a b:Addr):It :=
 ⟨fun i H=>∃ xs ys x y,S1 H a xs/\S2 H b ys/\xs[i]? = some x/\ys[i]? = some y,fun i H x H'=>∃ p v u,H p=none/\x=.ref p/\H'=upd H p (.tup [v,u])/\(∀ xs,S1 H a xs->xs[i]? = some v)/\(∀ ys,S2 H b ys->ys[i]? = some u),fun i H=>∃ xs ys,S1 H a xs/\S2 H b ys/\(xs.length<=i\/ys.length<=i)⟩
def SqV(K:W.Frag)(t:Bool)(H:Hp)(a:Addr)(xs:List V):Prop:=match t with
 | true=>SqT K H a xs
 | false=>SqL K H a xs
theorem Inv.seqK{X:Cx}{zn:List (Addr×Obj)}{σ:St}{H:Hp}{s:Shared}{t:Bool}{a:Addr}{xs:List V}(I:Inv X zn σ H s)(h:SqV X.K t H a xs):∃ its:List Value,Vals xs its/\SqK t s.heap a its.toArray/\∀ ys,SqV X.K t H a ys->ys=xs:=by
 cases t
 ·obtain⟨its,rv,p,_⟩:=I.list h;exact⟨its,rv,p.isList,fun ys hy=>I.list_inj hy h⟩
 ·obtain⟨its,rv,p,_⟩:=I.tuple h;exact⟨its,rv,p,fun ys hy=>I.tuple_inj hy h⟩
theorem zpL{P:Program}{w:World}{K:W.Frag}{elts:List Expr}{n:Nat}{pos:Pos}(t u:Bool)(z p r i j a b:Addr)(D:ZAp z p r i j a b):Turn P w K (.Tuple elts n pos) (Itz (SqV K t) (SqV K u) a b) [z,p,r,i,j] z
  (fun k h=>IsZip h z p r .none/\IsPair h p (.ref i) (.ref j)/\(∃ c d,IsPair h r c d)/\ItK t h i a k/\ItK u h j b k) where
 mem:=by simp
 obj:=fun k h ⟨h1,h2,⟨c,d,h3⟩,h4,h5⟩ q hq=>by
  simp only [mem_cons,not_mem_nil,or_false] at hq;rcases hq with rfl | rfl | rfl | rfl | rfl
  ·exact⟨_,h1,fun v e=>by cases (show Data.fields _=Data.cell v from e)⟩
  ·exact⟨_,h2,fun v e=>by cases (show Data.seq _ _=Data.cell v from e)⟩
  ·exact⟨_,h3,fun v e=>by cases (show Data.seq _ _=Data.cell v from e)⟩
  ·exact h4.here
  ·exact h5.here
 keep:=fun k h h' ⟨h1,h2,⟨c,d,h3⟩,h4,h5⟩ f=>⟨f z (by simp) _ h1,f p (by simp) _ h2,⟨c,d,f r (by simp) _ h3⟩,h4.at fun o e=>f i (by simp) o e,h5.at fun o e=>f j (by simp) o e⟩
 item:=by
  intro X hP hw hK hc k zn s σ H E I hf st hg;subst hP hw hK;obtain⟨xs,ys,x,y,q1,q2,ex,ey⟩:=hg;obtain⟨its,rv,sq,inj⟩:=I.seqK q1;obtain⟨its2,rv2,sq2,inj2⟩:=I.seqK q2;obtain⟨v1,e1,r1⟩:=rv.get ex;obtain⟨v2,e2,r2⟩:=rv2.get ey;obtain⟨h1,h2,⟨c,d,h3⟩,h4,h5⟩:=st;have ty:s.TypeIs (.ref z) "zip":=⟨_,h1,rfl⟩;unfold pyNext;refine wpAny_bind (wpAny_attempt (wpAny_callSpecial?_slot (name:=Str.ofString "__next__") ty F.slot_zip_next (wpAny_call_entry F.slot_zip_next ty F.entry_zip_next
   (zkb D h1 h2 h3 h4 h5 sq sq2 (by simpa using e1) (by simpa using e2) fun g a1 a2 a3 a4 a5 kk=>wpAny_pure ⟨_,rfl,?_⟩) (F.args_zip_next_1 _))))
  refine wpAny_letOwnedTupleGo_zip (s:={ s with heap:=g }) a1 fun g' z' b'=>?_;have lt:∀ {q o},s.heap.get? q=some o->s.heap.objs.size≠q:=fun e=>ne_of_gt (lt_size e);have b'':Heap.SameBut z g g':=b';have pT:IsPair g' s.heap.objs.size v1 v2:=b''.extBut _ _ (lt h1) a5;have hn:=I.hok.fresh (le_refl s.heap.objs.size);have kk':∀ q o,q∉[z,r,i,j]->s.heap.get? q=some o->g'.get? q=some o:=fun q o hq e=>by
   simp only [mem_cons,not_mem_nil,or_false,not_or] at hq;exact b''.extBut q o hq.1 (kk q o hq.1 hq.2.1 hq.2.2.1 hq.2.2.2 e)
  have I1:Inv X zn σ (upd H s.heap.objs.size (.tup [x,y])) { s with heap:=g' }:=I.turnLaid (t':=s.toks) (ch:=[z,r,i,j]) kk' (fun q hq=>hf q (by
   simp only [mem_cons,not_mem_nil,or_false] at hq ⊢;rcases hq with h | h | h | h
   ·exact .inl h
   ·exact .inr (.inr (.inl h))
   ·exact .inr (.inr (.inr (.inl h)))
   ·exact .inr (.inr (.inr (.inr h))))) (le_refl _) ⟨⟨by show 2<=sizeLine; decide,_,pT,rfl⟩,[v1,v2],.cons r1 (.cons r2 .nil),⟨_,pT,rfl,_,rfl⟩⟩
  have fresh:∀ q,q∈[z,p,r,i,j]->q≠s.heap.objs.size:=fun q hq w=>by
   simp only [mem_cons,not_mem_nil,or_false] at hq;obtain⟨o1,w1,_⟩:=h4.here;obtain⟨o2,w2,_⟩:=h5.here;rcases hq with h | h | h | h | h
   ·exact lt h1 (w.symm.trans h)
   ·exact lt h2 (w.symm.trans h)
   ·exact lt h3 (w.symm.trans h)
   ·exact lt w1 (w.symm.trans h)
   ·exact lt w2 (w.symm.trans h)
  refine⟨.ref s.heap.objs.size,_,I1,rfl,⟨_,x,y,hn,rfl,rfl,fun zs hz=>by rw [inj zs hz]; exact ex,fun zs hz=>by rw [inj2 zs hz]; exact ey⟩,⟨z',kk' p _ (by simp [D.pz,D.pr,D.pi,D.pj]) h2,⟨_,_,b''.extBut r _ D.rz a2⟩,a3.at fun o e=>b''.extBut i o D.iz e,a4.at fun o e=>b''.extBut j o D.jz e⟩,fun q hq=>?_⟩;rw [zR (fresh q hq)];exact(hf q hq).1
 done:=by
  intro X hP hw hK hc k zn s σ H E I hf st hg;subst hP hw hK;obtain⟨xs,ys,q1,q2,hl⟩:=hg;obtain⟨its,rv,sq,inj⟩:=I.seqK q1;obtain⟨its2,rv2,sq2,inj2⟩:=I.seqK q2;obtain⟨h1,h2,⟨c,d,h3⟩,h4,h5⟩:=st;have l1:=rv.length;have l2:=rv2.length;have ty:s.TypeIs (.ref z) "zip":=⟨_,h1,rfl⟩;unfold pyNext;refine wpAny_bind (wpAny_attempt (wpAny_callSpecial?_slot (name:=Str.ofString "__next__") ty F.slot_zip_next (wpAny_call_entry F.slot_zip_next ty F.entry_zip_next
   (zj9 (I.ok.hd hc) D h1 h2 h3 h4 h5 sq sq2 (hl.elim (fun h=>.inl (by simp; omega)) fun h=>.inr (by simp; omega)) fun g e kk he=>?_) (F.args_zip_next_1 _))))
  obtain⟨o,ho,hc'⟩:=he;refine wpAny_bind (wpAny_isInstance (T:="StopIteration") (b:=true) ⟨o,ho,hc'⟩ isSubtype_stop (wpAny_pure ⟨rfl,?_⟩));refine I.turnedN (t':=s.toks) (ch:=[z,r,i,j]) (fun q o hq e=>?_) fun q hq=>hf q (by
   simp only [mem_cons,not_mem_nil,or_false] at hq ⊢;rcases hq with h | h | h | h
   ·exact .inl h
   ·exact .inr (.inr (.inl h))
   ·exact .inr (.inr (.inr (.inl h)))
   ·exact .inr (.inr (.inr (.inr h))))
  simp only [mem_cons,not_mem_nil,or_false,not_or] at hq;exact kk q o hq.1 hq.2.1 hq.2.2.1 hq.2.2.2 e
 self:=fun _ _ _ _ _ st h=>wpAny_pyIter_zip st.1 h
theorem nne{a b:Nat}(h:a<b\/b<a):(show Addr from a)≠(show Addr from b):=fun e=>by
 have e':a=b:=e;omega
theorem zrh(N a b:Nat)(ha:a<N)(hb:b<N):ZAp (N+4) (N+2) (N+3) N (N+1) a b:=by
 constructor <;> exact nne (by omega)
theorem zrm(N q:Nat)(hq:q=N+4\/q=N+2\/q=N+3\/q=N\/q=N+1):N<=q:=by omega
section
variable {X:Cx} {elts:List Expr} {n:Nat} {tpos:Pos}
theorem zlj:bootBuiltins "zip" = some (.type "zip"):=by decide +kernel
def zup(K:W.Frag)(ta:TA):TI:=fun σ H R=>ta σ H fun vs H1=>∃ a b t u,vs=[.ref a,.ref b]/\(∃ xs,SqV K t H1 a xs)/\(∃ ys,SqV K u H1 b ys)/\R (Itz (SqV K t) (SqV K u) a b) H1
theorem zfL{e1 e2:Expr}{ta:TA}{p pos:Pos}(hg:Gl X "zip")(hm:X.mg "zip" = none)(ha:PA X [e1,e2] ta)(hs:starEach [e1,e2] X.env=[(false,eval e1 X.env),(false,eval e2 X.env)]:=by rfl)(hs2:starEach [e2] X.env=[(false,eval e2 X.env)]:=by rfl):
  PI X (.Tuple elts n tpos) (.Call (.Name "zip" p) [e1,e2] [] pos) (zup X.K ta):=by
 intro zn s σ H R I h;refine Call_ (zcR I hg hm zlj (PyProof.Rows.callWith_type1 (thn (ha pos zn s σ H _ I h) fun us s1 ⟨vs,H1,I1,r1,q1⟩=>?_) (by rw [hs,hs2]) (by rw [hs2]; rfl)));obtain⟨a,b,t,u,e,⟨xs,q1⟩,⟨ys,q2⟩,q⟩:=q1;subst e;cases r1 with
 | cons r rr =>
  cases rr with
  | cons r' rr =>
   cases rr;cases r;cases r';obtain⟨its,rv,sq,_⟩:=I1.seqK q1;obtain⟨its2,rv2,sq2,_⟩:=I1.seqK q2;refine zjr sq sq2 fun g h1 h2 h3 h4 h5 k=>?_;refine wpAny_pyIter_zip (s:={ s1 with heap:=g }) h1 ?_
   have I2:Inv X zn σ H1 { s1 with heap:=g }:=I1.kept (t':=s1.toks) k;obtain⟨oa,fa⟩:=sq.here;obtain⟨ob,fb⟩:=sq2.here;have la:=lt_size fa;have lb:=lt_size fb;have D:ZAp (s1.heap.objs.size+4) (s1.heap.objs.size+2) (s1.heap.objs.size+3) s1.heap.objs.size (s1.heap.objs.size+1) a b:=zrh _ _ _ la lb;refine⟨_,[s1.heap.objs.size+4,s1.heap.objs.size+2,s1.heap.objs.size+3,s1.heap.objs.size,s1.heap.objs.size+1],_,_,H1,rfl,I2,zpL t u _ _ _ _ _ a b D,⟨h1,h2,⟨_,_,h3⟩,h4,h5⟩,fun q hq=>?_,q⟩;have hl:s1.heap.objs.size<=q:=by
    simp only [mem_cons,not_mem_nil,or_false] at hq;exact zrm _ _ hq
   exact I1.fpOk hl (I1.hok.fresh hl)
end
def zhI:List PyData->List PyData->List PyData
 | d :: ds,e :: es=>.tuple [d,e] :: zhI ds es
 | _,_=>[]
theorem ziz:∀ (ds es:List PyData) (k:Nat) (x:PyData),(zhI ds es)[k]? = some x->∃ d e,ds[k]? = some d/\es[k]? = some e/\x=.tuple [d,e]
 | [],_,_,_,h=>by simp [zhI] at h
 | _ :: _,[],_,_,h=>by simp [zhI] at h
 | d :: ds,e :: es,0,x,h=>by
  have e':PyData.tuple [d,e]=x:=by simpa [zhI] using h
  exact⟨d,e,rfl,rfl,e'.symm⟩
 | d :: ds,e :: es,k+1,x,h=>by
  obtain⟨d',e',h1,h2,h3⟩:=ziz ds es k x (by simpa [zhI] using h);exact⟨d',e',by simpa using h1,by simpa using h2,h3⟩
theorem zll:∀ (ds es:List PyData),(zhI ds es).length=min ds.length es.length
 | [],_=>by simp [zhI]
 | _ :: _,[]=>by simp [zhI]
 | d :: ds,e :: es=>by simp [zhI,zll ds es]; try omega
theorem zcU{α β:Type}(f:α->PyData)(g:β->PyData):∀ (xs:List α) (ys:List β),zhI (xs.map f) (ys.map g)=(xs.zip ys).map fun q=>.tuple [f q.1,g q.2]
 | [],_=>by simp [zhI]
 | _ :: _,[]=>by simp [zhI]
 | x :: xs,y :: ys=>by simp [zhI,zcU f g xs ys]
def zfl(a:DA):DI:=fun δ S R=>a δ S fun xs S1=>arg2 xs fun x y=>∃ ds,zmk x=some ds/\∃ es,zmk y=some es/\R (zhI ds es) S1
theorem zgp{K:W.Frag}{h o:List Addr}{H:Hp}{x:XV}{v:V}{ds:List PyData}(e:zmk x=some ds)(q:HasX h o H x v):∃ t a ws,v=.ref a/\HasL (vx h o H) ds ws/\∀ {o2 H2},ExH h o H o2 H2->SqV K t H2 a ws:=by
 unfold zmk at e;split at e
 ·cases e;obtain⟨a,ws,rfl,ea,l⟩:=za5.mp (show Has (vx h o H) (.list ds) v from q);exact⟨false,a,ws,rfl,l,fun e2=>(SqL.of (zaD _ _ (e2.vx _ _ ea)):SqL K _ a ws)⟩
 ·cases e;obtain⟨a,ws,rfl,ea,l⟩:=zaP.mp (show Has (vx h o H) (.tuple ds) v from q);exact⟨true,a,ws,rfl,l,fun e2=>(SqT.of (zaD _ _ (e2.vx _ _ ea)):SqT K _ a ws)⟩
 ·cases e
theorem zfs{K:W.Frag}{ta:TA}{da:DA}(ha:RA ta da):RI (zup K ta) (zfl da):=fun h o H δ σ S R Q he hs q c =>
 ha h o H δ σ S _ _ he hs q fun o1 H1 S1 xs vs e1 s1 x1 d0=>by
  obtain⟨x,y,rfl,ds,hd,es,hes,d1⟩:=ziI d0;obtain⟨v,u,rfl,hv,hu⟩:=hxs2 x1;obtain⟨t,a,ws,rfl,l,k1⟩:=zgp (K:=K) hd hv;obtain⟨t',b,zs,rfl,l',k2⟩:=zgp (K:=K) hes hu;have hl:=l.length;have hl':=l'.length;refine⟨a,b,t,t',rfl,⟨ws,k1 ExH.refl⟩,⟨zs,k2 ExH.refl⟩,c o1 H1 S1 _ _ e1 s1 ⟨fun i o2 H2 e2 hi=>⟨ws,zs,k1 e2,k2 e2,by rw [zll] at hi; omega⟩,fun i d o2 H2 e2 hi=>?_,fun i d o2 H2 x H3 S2 e2 s2 hi y=>?_⟩ d1⟩
  ·obtain⟨d',e',h1,h2,rfl⟩:=ziz ds es i d hi;obtain⟨u1,eu1,_⟩:=l.get h1;obtain⟨u2,eu2,_⟩:=l'.get h2;exact⟨ws,zs,u1,u2,k1 e2,k2 e2,eu1,eu2⟩
  ·obtain⟨d',e',h1,h2,rfl⟩:=ziz ds es i d hi;obtain⟨u1,eu1,hu1⟩:=l.get h1;obtain⟨u2,eu2,hu2⟩:=l'.get h2;obtain⟨p,v,u,hp,rfl,rfl,y1,y2⟩:=y;have f1:=y1 ws (k1 e2);have f2:=y2 zs (k2 e2);rw [eu1] at f1;rw [eu2] at f2;cases f1;cases f2;exact⟨Same.laid hp,zaP.mpr ⟨p,_,rfl,s2.laid hp,zC.mpr ⟨_,_,rfl,(hu1.mono e2.vx).mono (zeG (Same.laid hp)),zC.mpr ⟨_,_,rfl,(hu2.mono e2.vx).mono (zeG (Same.laid hp)),zH.mpr rfl⟩⟩⟩⟩
end
section
open Sem (wp)
section
variable {prog:Program} {w:World} {A:Around} {R:Result->Shared->Prop} {I:Addr} {fp wr:List Addr} {n:Nat} {P:Nat->Value->Prop} {St:Nat->Heap->Prop}
def CmpH(prog:Program)(w:World)(A:Around)(g:Heap)(own:List Addr)(P:Nat->Value->Prop)(bt:Nat->Nat->Bool):Prop :=
 ∀ i j x y (s:Shared) (Q:Value->Shared->Prop) (E:Value->Shared->Prop),(∀ b o,b∉own->g.get? b=some o->s.heap.get? b=some o)->P i x->P j y->Q (.bool (bt i j)) s->wpAny (model prog w) A (richCompare .Lt x y) Q E s
theorem znz(W:Walks prog w A.in1 I fp wr n P St)(bt:Nat->Nat->Bool){g:Heap}(S:Addr)(cm:CmpH prog w A.in1 g (S :: wr) P bt)(nS:S∉fp):∀ (d j:Nat) (s:Shared) (best:Value) (c:Nat),n=j+1+d->(∀ b o,b∉S :: wr->g.get? b=some o->s.heap.get? b=some o)->St (j+1) s.heap->P (argBest bt j) best ->
   s.heap.get? S=some { cls:=.type "list",dict:=none,data:=.seq #[best,best] c,slots:=#[] } ->
   (∀ v h' tk,P (argBest bt (n - 1)) v->(∀ b o,b∉S :: wr->s.heap.get? b=some o->h'.get? b=some o)->R (.ok (.ret v)) { s with heap:=h',toks:=tk })->codeAny (model prog w) A (.builtin "min.loop" ⟨[.ref I,.none,.ref S],[]⟩) R s:=by
 have nw:S∉wr:=fun m=>nS (W.sub _ m);have nm:(toString "min" ++ toString ".loop":String) = "min.loop":=by decide
 intro d;induction d with
 | zero =>
  intro j s best c hd kg st hb hS fin;have hj:j+1=n:=by omega
  refine codeAny_builtin F.entry_min_loop ?_;rw [Around.under_plainId F.plain_min_loop _];show wpAny _ A.in1 (seqItems? (.ref S) >>= _) _ _ s;refine wpAny_bind (wpAny_seqItems hS rfl ?_);show wpAny _ A.in1 (tryCatch (pyNext (.ref I)) _ >>= _) _ _ s;refine wpAny_bind (wpAny_tryCatch (W.done s _ _ (by rw [<- hj]; exact st) fun h1 t1 k1=>?_));have hS1:=k1 S _ nw hS;show wpAny _ A.in1 (updateSeq S (fun _=>#[]) >>= _) _ _ _;refine wpAny_bind (wpAny_updateSeq hS1 rfl (wpAny_bind (wpAny_letGo (wpAny_pure (fin best _ t1 (by rw [<- hj]; exact hb) fun b o hn e=>?_)))));rw [mem_cons,not_or] at hn;exact(get?_update_other _ _ (Ne.symm hn.1)).trans (k1 b o hn.2 e)
 | succ d ih =>
  intro j s best c hd kg st hb hS fin;refine codeAny_builtin F.entry_min_loop ?_;rw [Around.under_plainId F.plain_min_loop _];show wpAny _ A.in1 (seqItems? (.ref S) >>= _) _ _ s;refine wpAny_bind (wpAny_seqItems hS rfl ?_);show wpAny _ A.in1 (tryCatch (pyNext (.ref I)) _ >>= _) _ _ s;refine wpAny_bind (wpAny_tryCatch (W.item (j+1) s _ _ (by omega) st fun x h1 t1 hx st1 k1=>?_));have hS1:=k1 S _ nw hS;have kg1:∀ b o,b∉S :: wr->g.get? b=some o->h1.get? b=some o:=fun b o hn e=>k1 b o (fun m=>hn (mem_cons_of_mem _ m)) (kg b o hn e);show wpAny _ A.in1 (tryCatch (holding [x,x] (richCompare .Lt x best >>= _)) _ >>= _) _ _ _;refine wpAny_bind (wpAny_tryCatch (wpAny_holding (wpAny_bind (cm (j+1) (argBest bt j) x best _ _ _ kg1 hx hb (wpAny_bind (wpAny_holding (wpAny_truthy_bool (wpAny_bind (wpAny_letGo (wpAny_pure ?_)))))))))) ;cases ht:bt (j+1) (argBest bt j) with
  | true =>
   simp only [if_true];refine wpAny_bind (wpAny_updateSeq hS1 rfl (wpAny_bind (wpAny_letGo ?_)));rw [nm];have keep:∀ b o,b∉S :: wr->s.heap.get? b=some o->(h1.update S (Obj.mapSeq fun _=>#[x,x])).get? b=some o:=fun b o hn e=>by
    rw [mem_cons,not_or] at hn;exact(get?_update_other _ _ (Ne.symm hn.1)).trans (k1 b o hn.2 e)
   refine wpAny_pure ⟨plainId_quiet F.plain_min_loop _,ih (j+1) _ x _ (by omega) (fun b o hn e=>keep b o hn (kg b o hn e)) (W.frame _ _ _ st1 fun b m o e=>?_) (by simp only [argBest,ht,if_true]; exact hx) (get?_update_self _ hS1 rfl) fun v h2 t2 hv k2=>fin v h2 t2 hv fun b o hn e=>k2 b o hn (keep b o hn e)⟩;exact(get?_update_other _ _ (fun z:S=b=>nS (by rw [z]; exact m))).trans e
  | false =>
   simp only [Bool.false_eq_true,if_false];refine wpAny_bind (wpAny_letGo ?_);rw [nm];exact wpAny_pure ⟨plainId_quiet F.plain_min_loop _,ih (j+1) _ best c (by omega) kg1 st1 (by simp only [argBest,ht,Bool.false_eq_true,if_false]; exact hb) hS1 fun v h2 t2 hv k2=>fin v h2 t2 hv fun b o hn e=>k2 b o hn (k1 b o (fun m=>hn (mem_cons_of_mem _ m)) e)⟩
theorem zlZ(W:Walks prog w A.in1 I fp wr n P St)(bt:Nat->Nat->Bool)(S:Addr)(nS:S∉fp)(hn:0<n){s:Shared}{c:Nat}(cm:CmpH prog w A.in1 s.heap (S :: wr) P bt)(st:St 0 s.heap)(hS:s.heap.get? S=some { cls:=.type "list",dict:=none,data:=.seq #[] c,slots:=#[] })
  (fin:∀ v h' tk,P (argBest bt (n - 1)) v->(∀ b o,b∉S :: wr->s.heap.get? b=some o->h'.get? b=some o)->R (.ok (.ret v)) { s with heap:=h',toks:=tk }):codeAny (model prog w) A (.builtin "min.loop" ⟨[.ref I,.none,.ref S],[]⟩) R s:=by
 have nw:S∉wr:=fun m=>nS (W.sub _ m);have nm:(toString "min" ++ toString ".loop":String) = "min.loop":=by decide
 refine codeAny_builtin F.entry_min_loop ?_;rw [Around.under_plainId F.plain_min_loop _];show wpAny _ A.in1 (seqItems? (.ref S) >>= _) _ _ s;refine wpAny_bind (wpAny_seqItems hS rfl ?_);show wpAny _ A.in1 (tryCatch (pyNext (.ref I)) _ >>= _) _ _ s;refine wpAny_bind (wpAny_tryCatch (W.item 0 s _ _ hn st fun x h1 t1 hx st1 k1=>?_));have hS1:=k1 S _ nw hS;show wpAny _ A.in1 (updateSeq S (fun _=>#[x,x]) >>= _) _ _ _;refine wpAny_bind (wpAny_updateSeq hS1 rfl ?_);rw [nm];have keep:∀ b o,b∉S :: wr->s.heap.get? b=some o->(h1.update S (Obj.mapSeq fun _=>#[x,x])).get? b=some o:=fun b o hn e=>by
  rw [mem_cons,not_or] at hn;exact(get?_update_other _ _ (Ne.symm hn.1)).trans (k1 b o hn.2 e)
 refine wpAny_pure ⟨plainId_quiet F.plain_min_loop _,znz W bt S cm nS (n - 1) 0 _ x _ (by omega) keep (W.frame _ _ _ st1 fun b m o e=>?_) hx (get?_update_self _ hS1 rfl) fun v h2 t2 hv k2=>fin v h2 t2 hv fun b o hn e=>k2 b o hn (keep b o hn e)⟩;exact(get?_update_other _ _ (fun z:S=b=>nS (by rw [z]; exact m))).trans e
end
section
variable {prog:Program} {w:World} {A:Around} {E:Value->Shared->Prop} {s:Shared}
theorem znl{l:Addr}{its:Array Value}{Q:Value->Shared->Prop}(hh:A.handled=none)(hl:s.heap.IsList l its)(hne:0<its.size)(bt:Nat->Nat->Bool)
  (cm:∀ i j x y (s':Shared) (Q:Value->Shared->Prop) (E:Value->Shared->Prop),(∀ b o,s.heap.get? b=some o->s'.heap.get? b=some o)->its[i]? = some x->its[j]? = some y->Q (.bool (bt i j)) s'->wpAny (model prog w) A.in1 (richCompare .Lt x y) Q E s')
  (fin:∀ v h' tk,its[argBest bt (its.size - 1)]? = some v->(∀ b o,s.heap.get? b=some o->h'.get? b=some o)->Q v { s with heap:=h',toks:=tk }):wpAny (model prog w) A (call (.builtin "min") [.ref l]) Q E s:=by
 have nm:(toString "min" ++ toString ".loop":String) = "min.loop":=by decide
 have lt:l<s.heap.objs.size:=by obtain⟨o,e,_⟩:=hl; exact lt_size e
 refine call_function_tree F.kind_min F.plain_min F.entry_min (F.args_min1 _) ?_;show wpAny _ A.in1 (Builtin.Builtins.bindParams "min" ["key","default"] 0 ⟨[],[]⟩ >>= _) _ _ s;refine wpAny_bind (wpAny_of_eq (show Builtin.Builtins.bindParams "min" ["key","default"] 0 ⟨[],[]⟩=pure [none,none] from rfl) (wpAny_bind (wpAny_pure (wpAny_bind (wpAny_pyIter_list hl ?_)))));refine wpAny_bind (wpAny_newObj_type ?_);rw [nm];have z1:(s.heap.push { cls:=.type "list_iterator",data:=.fields #[.ref l,.int 0 0] }).objs.size=s.heap.objs.size+1:=size_push ..;have nS:(s.heap.push { cls:=.type "list_iterator",data:=.fields #[.ref l,.int 0 0] }).objs.size∉[s.heap.objs.size,l]:=by
  rw [z1];simp only [mem_cons,not_mem_nil,or_false,not_or];exact⟨succ_ne_self _,ne_of_gt (lt_succ_of_lt lt)⟩
 have up:∀ b o,s.heap.get? b=some o->((s.heap.push { cls:=.type "list_iterator",data:=.fields #[.ref l,.int 0 0] }).push { cls:=.type "list",data:=.seq #[] }).get? b=some o:=fun b o e=>get?_push_of_some _ (get?_push_of_some _ e);have old:∀ b o,s.heap.get? b=some o->b∉(s.heap.push { cls:=.type "list_iterator",data:=.fields #[.ref l,.int 0 0] }).objs.size :: [s.heap.objs.size]:=fun b o e=>by
  rw [z1];simp only [mem_cons,not_mem_nil,or_false,not_or];have:=lt_size e;exact⟨ne_of_lt (lt_succ_of_lt this),ne_of_lt this⟩
 refine wpAny_pure ⟨plainId_quiet F.plain_min_loop _,zlZ (Walks.list (A:=A.in1) hh _ l (ne_of_lt lt) its) bt _ nS hne (fun i j x y s' Q' E' k hi hj q=>cm i j x y s' Q' E' (fun b o e=>k b o (old b o e) (up b o e)) hi hj q) ?_ (get?_push_size _ rfl) fun v h' tk hv k=>fin v h' tk hv fun b o e=>k b o (old b o e) (up b o e)⟩;exact⟨⟨_,get?_push_of_some _ (get?_push_size _ rfl),rfl,rfl⟩,(hl.push _).push _⟩
end
def zuD(K:W.Frag):List V->Hp->VK->Prop:=fun xs H Q=>∃ (p:Addr) (vs:List V) (nss:List (List Int)),xs=[.ref p]/\SqL K H p vs/\vs≠[]/\Paired (fun(v:V) (ns:List Int)=>∃ a,v=.ref a/\H a=some (.tup (ns.map V.int))) vs nss /\
 ∀ (i:Nat) v ns,vs[i]? = some v->nss[i]? = some ns->(∀ ms∈nss,HT.lexLt ms ns=false)->Q v H
theorem zhm{ns:Nat->List Int}(tr:∀ a b c:List Int,HT.lexLt a b=false->HT.lexLt b c=false->HT.lexLt a c=false)(as:∀ a b:List Int,HT.lexLt a b=true->HT.lexLt b a=false):∀ k,argBest (fun i j=>HT.lexLt (ns i) (ns j)) k<=k/\∀ j,j<=k->HT.lexLt (ns j) (ns (argBest (fun i j=>HT.lexLt (ns i) (ns j)) k))=false
 | 0=>⟨le_refl _,fun j hj=>by
   have:j=0:=by omega
   subst this;show HT.lexLt (ns 0) (ns 0)=false;cases h:HT.lexLt (ns 0) (ns 0) with
   | false=>rfl
   | true=>have:=as _ _ h; rw [h] at this; cases this⟩
 | k+1=>by
  obtain⟨h1,h2⟩:=zhm tr as (ns:=ns) k;simp only [argBest];by_cases hb:HT.lexLt (ns (k+1)) (ns (argBest (fun i j=>HT.lexLt (ns i) (ns j)) k))=true
  ·rw [if_pos hb];refine⟨le_refl _,fun j hj=>?_⟩;by_cases e:j=k+1
   ·subst e;cases h:HT.lexLt (ns (k+1)) (ns (k+1)) with
    | false=>rfl
    | true=>have:=as _ _ h; rw [h] at this; cases this
   ·exact tr _ _ _ (h2 j (by omega)) (as _ _ hb)
  ·rw [if_neg hb];refine⟨by omega,fun j hj=>?_⟩;by_cases e:j=k+1
   ·subst e; exact Bool.eq_false_iff.mpr hb
   ·exact h2 j (by omega)
theorem zk5:∀ a b:List Int,HT.lexLt a b=true->HT.lexLt b a=false
 | [],[],h=>by cases h
 | [],y :: ys,_=>rfl
 | x :: xs,[],h=>by cases h
 | x :: xs,y :: ys,h=>by
  rw [HT.lexLt_cons] at h ⊢;by_cases e:x=y
  ·subst e;rw [if_pos rfl] at h ⊢;exact zk5 xs ys h
  ·rw [if_neg e] at h;rw [if_neg (Ne.symm e)];simp only [decide_eq_true_eq] at h;simp only [decide_eq_false_iff_not];omega
theorem zhY:∀ a b c:List Int,HT.lexLt a b=false->HT.lexLt b c=false->HT.lexLt a c=false
 | _,_,[],_,_=>by rename_i a b _ _; cases a <;> rfl
 | [],[],z :: zs,_,h=>by cases h
 | [],y :: ys,z :: zs,h,_=>by cases h
 | x :: xs,[],z :: zs,_,h=>by cases h
 | x :: xs,y :: ys,z :: zs,h,k=>by
  rw [HT.lexLt_cons] at h k ⊢;by_cases e:x=y
  ·subst e;rw [if_pos rfl] at h;by_cases e2:x=z
   ·subst e2;rw [if_pos rfl] at k ⊢;exact zhY xs ys zs h k
   ·rw [if_neg e2] at k ⊢;exact k
  ·rw [if_neg e] at h;by_cases e2:y=z
   ·subst e2;rw [if_neg e];exact h
   ·rw [if_neg e2] at k;simp only [decide_eq_false_iff_not] at h k;rw [if_neg (by omega)];simp only [decide_eq_false_iff_not];omega
theorem znT{X:Cx}(hc:X.calm=true)(hu:X.A.units+64<cLine):CallR X (.builtin "min") (zuD X.K):=by
 intro zn s σ H xs us Q I r h;obtain⟨p,vs,nss,rfl,hq,hne,pr,q⟩:=h;obtain⟨u,rfl,rx⟩:=vals1 r;cases (show u=Value.ref p from rx);obtain⟨its,rv,pl,_⟩:=I.list hq;have hl:=rv.length;have hl2:=Paired.length pr;have hsz:0<its.toArray.size:=by
  rw [size_toArray,<- hl];exact List.length_pos_iff.mpr hne
 have at_:∀ (i:Nat) x,its.toArray[i]? = some x->∃ (v:V) (ns:List Int),vs[i]? = some v/\nss[i]? = some ns/\RelV v x/\∃ a,v=.ref a/\H a=some (.tup (ns.map V.int)):=fun i x hx=>by
  have hi:i<its.length:=by
   have:=(Array.getElem?_eq_some_iff.mp hx).1;simpa using this
  have e1:vs[i]? = some vs[i]:=getElem?_eq_getElem (by omega);have e2:nss[i]? = some nss[i]:=getElem?_eq_getElem (by omega);obtain⟨x',hx',rr⟩:=rv.get e1;have:x=x':=by
   have h2:its[i]? = some x:=by simpa using hx
   rw [hx'] at h2;exact(Option.some.inj h2).symm
  subst this;have pg:∀ {a:List V} {b:List (List Int)} {i:Nat} {v:V} {ns:List Int},Paired (fun(v:V) (ns:List Int)=>∃ a,v=.ref a/\H a=some (.tup (ns.map V.int))) a b->a[i]? = some v->b[i]? = some ns->∃ a,v=.ref a/\H a=some (.tup (ns.map V.int)):=by
   intro a b i v ns pq;induction pq generalizing i with
   | nil=>intro h; simp at h
   | cons r0 _ ih =>
    cases i with
    | zero =>
     intro h1 h2;rw [getElem?_cons_zero] at h1 h2;cases h1;cases h2;exact r0
    | succ i =>
     intro h1 h2;rw [getElem?_cons_succ] at h1 h2;exact ih h1 h2
  exact⟨_,_,e1,e2,rr,pg pr e1 e2⟩
 refine znl (I.ok.hd hc) pl.isList hsz (fun i j=>HT.lexLt (nss.getD i []) (nss.getD j [])) (fun i j x y s' Q' E' k hx hy q'=>?_) fun v h' tk hv k=>?_
 ·obtain⟨v1,n1,_,f1,r1,a1,rfl,e1⟩:=at_ i x hx;obtain⟨v2,n2,_,f2,r2,a2,rfl,e2⟩:=at_ j y hy;cases r1;cases r2;obtain⟨_,is1,w1,t1⟩:=(show ObjOk X.prog X.w H s.heap a1 (.tup (n1.map V.int)) from I.hok a1 _ e1);obtain⟨_,is2,w2,t2⟩:=(show ObjOk X.prog X.w H s.heap a2 (.tup (n2.map V.int)) from I.hok a2 _ e2);have g1:nss.getD i []=n1:=by rw [getD_eq_getElem?_getD,f1]; rfl
  have g2:nss.getD j []=n2:=by rw [getD_eq_getElem?_getD,f2]; rfl
  rw [g1,g2] at q';obtain⟨o1,b1,c1⟩:=t1;obtain⟨o2,b2,c2⟩:=t2;exact HT.lt_tupInts ⟨o1,k _ _ b1,c1⟩ ⟨o2,k _ _ b2,c2⟩ (zaT w1) (zaT w2) (by show X.A.units+1<cLine; omega) q'
 ·obtain⟨v1,n1,e1,f1,r1,_⟩:=at_ _ v hv;obtain⟨_,h2⟩:=zhm (ns:=fun i=>nss.getD i []) zhY zk5 (its.toArray.size - 1);refine⟨v1,H,I.kept (t':=tk) k,r1,q _ v1 n1 e1 f1 fun ms hm=>?_⟩;obtain⟨j,hj⟩:=mem_iff_getElem?.mp hm;have hjl:=(List.getElem?_eq_some_iff.mp hj).1;have:=h2 j (by rw [size_toArray]; omega);rw [show nss.getD j []=ms by rw [getD_eq_getElem?_getD,hj]; rfl] at this;rw [show nss.getD (argBest (fun i j=>HT.lexLt (nss.getD i []) (nss.getD j [])) (its.toArray.size - 1)) []=n1 by rw [getD_eq_getElem?_getD,f1]; rfl] at this;exact this
def ztU(K:W.Frag):List V->Hp->VK->Prop:=fun xs H Q=>zvf K xs H Q\/zuD K xs H Q
theorem zhb{X:Cx}(hc:X.calm=true)(hu:X.A.units+64<cLine):CallR X (.builtin "min") (ztU X.K):=(znH hc).or (znT hc hu)
def zsK(ns:List Int):PyData:=.tuple (ns.map PyData.int)
def zkP:List XV->Sto->RX->Prop:=fun xs S R=>zvT xs S R\/arg1 xs fun x=>∃ ds,zn1 S x=some ds/\∃ nss:List (List Int),ds=nss.map zsK/\nss≠[]/\∀ m,m∈nss->(∀ a,a∈nss->HT.lexLt a m=false)->R (.d (zsK m)) S
theorem zst{K:W.Frag}:RC (ztU K) zkP:=fun h o H S xs vs R Q hs hx q c=>by
 rcases q with q | q
 ·exact .inl (zuP h o H S xs vs R Q hs hx q c)
 ·obtain⟨x,rfl,ds,hd,nss,rfl,hn,q1⟩:=za3 q;obtain⟨v,rfl,hx1⟩:=hxs1 hx;obtain⟨a,ws,rfl,ea,l⟩:=zbt hs hd hx1;have hl:=l.length;refine .inr ⟨a,ws,nss,rfl,.of ea,fun z=>hn ?_,?_,fun i v ns e1 e2 hm=>?_⟩
  ·subst z;rw [length_map] at hl;exact eq_nil_of_length_eq_zero hl.symm
  ·have go:∀ {nss:List (List Int)} {ws:List V},HasL (vx h o H) (nss.map zsK) ws->Paired (fun(v:V) (ns:List Int)=>∃ a,v=.ref a/\H a=some (.tup (ns.map V.int))) ws nss:=by
    intro nss;induction nss with
    | nil=>intro ws l; rw [zH.mp l]; exact .nil
    | cons n nss ih =>
     intro ws l;obtain⟨v,r,rfl,h1,l2⟩:=zC.mp l;obtain⟨b,us,rfl,eb,lb⟩:=zaP.mp h1;rw [zbo lb] at eb;exact .cons ⟨b,rfl,zaD _ _ eb⟩ (ih l2)
   exact go l
  ·obtain⟨v',ev,hv⟩:=l.get (show (nss.map zsK)[i]? = some (zsK ns) by rw [getElem?_map,e2]; rfl);rw [e1] at ev;cases ev;exact c o H S (.d (zsK ns)) v Ex.refl hs hv (q1 ns (mem_of_getElem? e2) hm)
section
variable {S:Sto} {P:Sto->List PyData->Prop} {a b c d:List PyData} {x:List PyData}
theorem zg9{S0:Sto}:(∃ T ds,S0++[x]=T++[ds]/\P T ds)↔P S0 x:=by
 constructor
 ·rintro⟨T,ds,e,q⟩;obtain⟨rfl,e2⟩:=List.append_inj' e rfl;cases e2;exact q
 ·exact fun q=>⟨S0,x,rfl,q⟩
theorem zlz:(∃ T ds,[a]=T++[ds]/\P T ds)↔P [] a:=zg9 (S0:=[])
theorem zkT:(∃ T ds,[a,b]=T++[ds]/\P T ds)↔P [a] b:=zg9 (S0:=[a])
theorem zle:(∃ T ds,[a,b,c]=T++[ds]/\P T ds)↔P [a,b] c:=zg9 (S0:=[a,b])
end
section
variable {α:Type} {n:Nat} {g:DG} {tt:DT} {te:DE} {fin:Sto->Prop} {S0:Sto} {caps:XE}
theorem zrg{h:α->PyData}{f:α->PyData}(P:XE->Prop)(hn:S0.length=n)(l:List α)(τ:XE)(hP:P τ)(hl:l.length<=1000)
  (el:∀ x∈l,∀ τ acc (R:XE->RX),P τ->(∀ τ',P τ'->R τ' (.d (f x)) (S0++[acc]))->g (.d (h x)) τ (S0++[acc]) fun τ1 S1=>te τ1 S1 (R τ1)) (hf:fin (S0++[l.map f])):zeP n g zar te fin (l.map h) τ (S0++[[]]):=by
 have go:∀ (l:List α) (acc:List PyData) (τ:XE),P τ->acc.length+l.length<=1000->(∀ x∈l,∀ τ acc (R:XE->RX),P τ->(∀ τ',P τ'->R τ' (.d (f x)) (S0++[acc]))->g (.d (h x)) τ (S0++[acc]) fun τ1 S1=>te τ1 S1 (R τ1)) ->
   fin (S0++[acc++l.map f])->zeP n g zar te fin (l.map h) τ (S0++[acc]):=by
  intro l;induction l with
  | nil=>intro acc τ _ _ _ h; rw [map_nil,append_nil] at h; exact h
  | cons x l ih =>
   intro acc τ hP hl el hh;show g (.d (h x)) τ (S0++[acc]) fun τ1 S1=>zar τ1 S1 fun b S2=>if b=true then te τ1 S2 fun x S3=>asD x fun e=>∃ acc,S3[n]? = some acc/\acc.length<1000/\zeP n g zar te fin (l.map h) τ1 (S3.set n (acc++[e])) else zeP n g zar te fin (l.map h) τ1 S2
   simp only [zar,↓reduceIte];rw [length_cons] at hl;refine el x mem_cons_self τ acc (fun τ1 x S3=>asD x fun e=>∃ acc,S3[n]? = some acc/\acc.length<1000/\zeP n g zar te fin (l.map h) τ1 (S3.set n (acc++[e]))) hP fun τ' hP'=>?_;refine⟨acc,by rw [<- hn,getElem?_concat_length],by omega,?_⟩;rw [ziL hn];refine ih (acc++[f x]) τ' hP' (by rw [length_append,length_singleton]; omega) (fun e m=>el e (mem_cons_of_mem _ m)) ?_;rw [append_assoc];exact hh
 exact go l [] τ hP (by simpa using hl) el (by simpa using hf)
theorem cmp1{h:α->PyData}(f:α->PyData)(hn:S0.length=n)(l:List α){u:Option XV}(hl:l.length<=1000)
  (el:∀ x∈l,∀ (u:Option XV) acc (R:XE->RX),(∀ u',R (u' :: caps) (.d (f x)) (S0++[acc]))->g (.d (h x)) (u :: caps) (S0++[acc]) fun τ1 S1=>te τ1 S1 (R τ1)) (hf:fin (S0++[l.map f])):zeP n g zar te fin (l.map h) (u :: caps) (S0++[[]]) :=
 zrg (fun τ=>∃ u,τ=u :: caps) hn l _ ⟨u,rfl⟩ hl (fun x m τ acc R ⟨u,e⟩ k=>by subst e; exact el x m u acc R fun u'=>k _ ⟨u',rfl⟩) hf
theorem cmp2{h:α->PyData}(f:α->PyData)(hn:S0.length=n)(l:List α){u v:Option XV}(hl:l.length<=1000)
  (el:∀ x∈l,∀ (u v:Option XV) acc (R:XE->RX),(∀ u' v',R (u' :: v' :: caps) (.d (f x)) (S0++[acc]))->g (.d (h x)) (u :: v :: caps) (S0++[acc]) fun τ1 S1=>te τ1 S1 (R τ1)) (hf:fin (S0++[l.map f])):zeP n g zar te fin (l.map h) (u :: v :: caps) (S0++[[]]) :=
 zrg (fun τ=>∃ u v,τ=u :: v :: caps) hn l _ ⟨u,v,rfl⟩ hl (fun x m τ acc R ⟨u,v,e⟩ k=>by subst e; exact el x m u v acc R fun u' v'=>k _ ⟨u',v',rfl⟩) hf
theorem ztW{h:α->PyData}{f:α->PyData}{p:α->Bool}(P:XE->Prop)(hn:S0.length=n)(l:List α)(τ:XE)(hP:P τ)(hl:l.length<=1000)
  (el:∀ x∈l,∀ τ acc (R:XE->Bool->Sto->Prop),P τ->(∀ τ',P τ'->(p x=true->∀ T:RX,T (.d (f x)) (S0++[acc])->te τ' (S0++[acc]) T)->R τ' (p x) (S0++[acc]))->g (.d (h x)) τ (S0++[acc]) fun τ1 S1=>tt τ1 S1 (R τ1))
  (hf:fin (S0++[(l.filter p).map f])):zeP n g tt te fin (l.map h) τ (S0++[[]]):=by
 have go:∀ (l:List α) (acc:List PyData) (τ:XE),P τ->acc.length+l.length<=1000->(∀ x∈l,∀ τ acc (R:XE->Bool->Sto->Prop),P τ->(∀ τ',P τ'->(p x=true->∀ T:RX,T (.d (f x)) (S0++[acc])->te τ' (S0++[acc]) T)->R τ' (p x) (S0++[acc]))->g (.d (h x)) τ (S0++[acc]) fun τ1 S1=>tt τ1 S1 (R τ1)) ->
   fin (S0++[acc++(l.filter p).map f])->zeP n g tt te fin (l.map h) τ (S0++[acc]):=by
  intro l;induction l with
  | nil=>intro acc τ _ _ _ h; rw [List.filter_nil,map_nil,append_nil] at h; exact h
  | cons x l ih =>
   intro acc τ hP hl el hh;show g (.d (h x)) τ (S0++[acc]) fun τ1 S1=>tt τ1 S1 fun b S2=>if b=true then te τ1 S2 fun x S3=>asD x fun e=>∃ acc,S3[n]? = some acc/\acc.length<1000/\zeP n g tt te fin (l.map h) τ1 (S3.set n (acc++[e])) else zeP n g tt te fin (l.map h) τ1 S2
   rw [length_cons] at hl;refine el x mem_cons_self τ acc (fun τ1 b S2=>if b=true then te τ1 S2 fun x S3=>asD x fun e=>∃ acc,S3[n]? = some acc/\acc.length<1000/\zeP n g tt te fin (l.map h) τ1 (S3.set n (acc++[e])) else zeP n g tt te fin (l.map h) τ1 S2) hP fun τ' hP' ev=>?_;cases hp:p x with
   | false =>
    rw [List.filter_cons_of_neg (by rw [hp]; exact Bool.false_ne_true)] at hh;exact zmu (ih acc τ' hP' (by omega) (fun e m=>el e (mem_cons_of_mem _ m)) hh)
   | true =>
    rw [List.filter_cons_of_pos hp,map_cons] at hh;refine zmt (ev hp _ ⟨acc,by rw [<- hn,getElem?_concat_length],by omega,?_⟩);rw [ziL hn];exact ih (acc++[f x]) τ' hP' (by rw [length_append,length_singleton]; omega) (fun e m=>el e (mem_cons_of_mem _ m)) (by rw [append_assoc]; exact hh)
 exact go l [] τ hP (by simpa using hl) el (by simpa using hf)
theorem cmf1{h:α->PyData}(f:α->PyData)(p:α->Bool)(hn:S0.length=n)(l:List α){u:Option XV}(hl:l.length<=1000)
  (el:∀ x∈l,∀ (u:Option XV) acc (R:XE->Bool->Sto->Prop),(∀ u',(p x=true->∀ T:RX,T (.d (f x)) (S0++[acc])->te (u' :: caps) (S0++[acc]) T)->R (u' :: caps) (p x) (S0++[acc]))->g (.d (h x)) (u :: caps) (S0++[acc]) fun τ1 S1=>tt τ1 S1 (R τ1)) (hf:fin (S0++[(l.filter p).map f])):zeP n g tt te fin (l.map h) (u :: caps) (S0++[[]]) :=
 ztW (fun τ=>∃ u,τ=u :: caps) hn l _ ⟨u,rfl⟩ hl (fun x m τ acc R ⟨u,e⟩ k=>by subst e; exact el x m u acc R fun u' hh=>k _ ⟨u',rfl⟩ hh) hf
end
end
section
@[irreducible] def QSs (X:Cx) (st:List Stmt) (t:TS):Prop:=PSs X st t
theorem QSs.out{X:Cx}{st:List Stmt}{t:TS}(h:QSs X st t):PSs X st t:=by unfold QSs at h; exact h
@[irreducible] def QA (X:Cx) (es:List Expr) (t:TA):Prop:=PA X es t
theorem QA.out{X:Cx}{es:List Expr}{t:TA}(h:QA X es t):PA X es t:=by unfold QA at h; exact h
theorem QA.mk{X:Cx}{es:List Expr}{t:TA}(h:PA X es t):QA X es t:=by unfold QA; exact h
theorem zqJ{X:Cx}:QA X [] zrY:=QA.mk zd
theorem zcs{X:Cx}{e:Expr}{es:List Expr}{te:TE}{t:TA}(ha:PE X e te)(hr:QA X es t)(hs:starEach (e :: es) X.env=(false,eval e X.env) :: starEach es X.env:=by rfl):QA X (e :: es) (ziZ te t):=QA.mk (za ha hr.out hs)
theorem zog{X:Cx}{es:List Expr}{t:TA}{pos:Pos}(h:QA X es t):PE X (.List es pos) (zsF t):=zal h.out
@[irreducible] def QS (X:Cx) (st:Stmt) (t:TS):Prop:=PS X st t
theorem QS.out{X:Cx}{st:Stmt}{t:TS}(h:QS X st t):PS X st t:=by unfold QS at h; exact h
end
section
section
variable {prog:Program} {w:World} {A:Around} {E:Value->Shared->Prop} {s:Shared}
abbrev zsb (acc:Array Value) (c:Nat):Obj:={ cls:=.type "list",dict:=none,data:=.seq acc c,slots:=#[] }
abbrev zuV (lo hi:Int):Obj:={ cls:=.type "longrange_iterator",data:=.fields #[rawInt lo,rawInt (Builtin.Range.rangeSize lo hi 1),rawInt 1] }
abbrev IntsFrom (lo:Int) (acc:Array Value) (n:Nat):Prop:=ItemsOf (fun i v=>∃ t,v=.int (lo+(i:Nat)*1) t) acc n
theorem znj{R:Result->Shared->Prop}{lo:Int}{n L I:Nat}{res:Value}{c0 tk0:Nat}{h0:Heap}(hh:A.handled=none)(hn:n<=1000)(ne:L≠I)
  (hI:IsLongIter h0 I (lo+((0:Nat):Int)*1) ((n:Int) - ((0:Nat):Int)) 1) (hL:h0.get? L=some (zsb #[] c0))
  (hR:∀ h' tk acc c,(∀ b o,b≠L->b≠I->h0.get? b=some o->h'.get? b=some o)->h'.get? L=some (zsb acc c)->IntsFrom lo acc n->R (.ok (.ret res)) { s with heap:=h',toks:=tk }) :
  codeAny (model prog w) A (.builtin "list.extend.loop" ⟨[.ref L,.ref I,res],[]⟩) R { s with heap:=h0,toks:=tk0 }:=by
 have walk:=(Walks.longrange (prog:=prog) (w:=w) (A:=A.in1) hh I lo 1 n).toS;have small:n<=sizeLine:=by rw [sizeLine_eq]; omega
 have out:L∉[I]:=by simpa using ne
 refine codeAny_extend_loopS walk small L out res n 0 _ #[] c0 rfl (zero_le _) hI hL (ItemsOf.nil _) ?_;intro s' acc c moved hl' items;rw [Moved.eq_with moved];refine hR s'.heap s'.toks acc c (fun b o b1 b2 e=>moved.heap b o ?_ e) hl' items;simp only [mem_cons,not_mem_nil,or_false,not_or];exact⟨b1,b2⟩
theorem zp1{R:Result->Shared->Prop}{r L:Addr}{lo hi:Int}{t u v:Tok}{n:Nat}(hh:A.handled=none)(hr:IsRange s.heap r lo hi 1 t u v)(big:Builtin.Range.small lo hi 1=false)(hn:Builtin.Range.rangeSize lo hi 1=(n:Int))(hl:n<=1000)
  {c0:Nat} (hL:s.heap.get? L=some (zsb #[] c0))
  (hR:∀ h' tk acc c,(∀ b o,b≠L->s.heap.get? b=some o->h'.get? b=some o)->h'.get? L=some (zsb acc c)->IntsFrom lo acc n->R (.ok (.ret .none)) { s with heap:=h',toks:=tk }) :
  wpAny (model prog w) A.in1 (Builtin.List.listExtendWith (.ref L) (.ref r) .none)
   (fun f z=>match f with
    | .done g=>R (.ok g) z
    | .again c=>c.quiet=true/\codeAny (model prog w) A c R z) (fun e z=>R (.error e) z) s:=by
 have apart:L≠r:=fun e=>by
  rw [e,hr] at hL;simp at hL
 have low:L<s.heap.objs.size:=lt_size hL;have ne:L≠s.heap.objs.size:=ne_of_lt low;have same:Builtin.List.listSameRef (.ref L) (.ref r)=false:=by simp [Builtin.List.listSameRef,apart]
 have k1:(Value.type "range" == Value.type "list")=false:=by decide
 have k2:(Value.type "range" == Value.type "tuple")=false:=by decide
 unfold Builtin.List.listExtendWith;refine wpAny_bind (wpAny_typeOf (T:="range") ⟨_,hr,rfl⟩ ?_);simp only [same,k1,k2,Bool.or_false,Bool.false_eq_true,if_false];refine wpAny_bind (wpAny_pyIter_longrange hr big ?_);have hit:IsLongIter (s.heap.push (zuV lo hi)) s.heap.objs.size (lo+((0:Nat):Int)*1) ((n:Int) - ((0:Nat):Int)) 1:=by
  show IsLongIter _ _ _ _ _;rw [<- hn];simpa using get?_push_size _ rfl
 have hL1:=get?_push_of_some (zuV lo hi) hL;refine wpAny_bind (wpAny_holding (wpAny_hint_range (n:=n) (get?_push_of_some _ hr) hn (by omega) ?_));have go:∀ {h0:Heap} {c0 tk0:Nat},IsLongIter h0 s.heap.objs.size (lo+((0:Nat):Int)*1) ((n:Int) - ((0:Nat):Int)) 1->h0.get? L=some (zsb #[] c0)->(∀ b o,b≠L->s.heap.get? b=some o->h0.get? b=some o) ->
   codeAny (model prog w) A (.builtin "list.extend.loop" ⟨[.ref L,.ref s.heap.objs.size,.none],[]⟩) R { s with heap:=h0,toks:=tk0 }:=fun {h0 c0 tk0} a1 a2 a3 =>
  znj hh hl ne a1 a2 fun h' tk acc c q1 q2 q3=>hR h' tk acc c (fun b o nb e=>q1 b o nb (ne_of_lt (lt_size e)) (a3 b o nb e)) q2 q3
 have still:=plainId_quiet F.plain_extend_loop;refine wpAny_ite_split (fun _=>?_) fun _=>wpAny_pure ⟨still _,go hit hL1 fun b o _ e=>get?_push_of_some _ e⟩;refine wpAny_bind (wpAny_rule (wpAny_bind ?_));show wpAny _ _ (updateSeq L (·.push .none) >>= fun _=>updateSeq L (·.pop)) _ _ _;refine wpAny_bind (wpAny_updateSeq hL1 rfl ?_);have hL2:=get?_update_self (Obj.mapSeq (·.push Value.none)) hL1 rfl;refine wpAny_updateSeq (hz:=by seq_fits) hL2 rfl ?_;have hL3:=get?_update_self (Obj.mapSeq (·.pop)) hL2 rfl;have other:∀ b o,b≠L->(s.heap.push (zuV lo hi)).get? b=some o->(((s.heap.push (zuV lo hi)).update L (Obj.mapSeq (·.push Value.none))).update L (Obj.mapSeq (·.pop))).get? b=some o:=fun b o nb e =>
  (get?_update_other _ _ (Ne.symm nb)).trans ((get?_update_other _ _ (Ne.symm nb)).trans e)
 exact wpAny_pure ⟨still _,go (other _ _ (Ne.symm ne) hit) hL3 fun b o nb e=>other b o nb (get?_push_of_some _ e)⟩
theorem znU{R:Result->Shared->Prop}{r L:Addr}{lo hi:Int}{t u v:Tok}{n:Nat}(hh:A.handled=none)(hr:IsRange s.heap r lo hi 1 t u v)(big:Builtin.Range.small lo hi 1=false)(hn:Builtin.Range.rangeSize lo hi 1=(n:Int))(hl:n<=1000)
  (hL:s.heap.get? L=some { cls:=.type "list",data:=.seq #[] })
  (hR:∀ h' tk acc c,(∀ b o,b≠L->s.heap.get? b=some o->h'.get? b=some o)->h'.get? L=some (zsb acc c)->IntsFrom lo acc n->R (.ok (.ret .none)) { s with heap:=h',toks:=tk }) :
  wpAny (model prog w) A.in1 (Builtin.«list.__init__» ⟨[.ref L,.ref r],[]⟩)
   (fun f z=>match f with
    | .done g=>R (.ok g) z
    | .again c=>c.quiet=true/\codeAny (model prog w) A c R z) (fun e z=>R (.error e) z) s:=by
 have apart:L≠r:=fun e=>by
  rw [e,hr] at hL;simp at hL
 show wpAny _ _ (do
  let was <- Builtin.List.listItems (.ref L)
  Builtin.List.listUpdate (.ref L) (fun _=>#[])
  letGo was.toList.reverse
  Builtin.List.listExtendWith (.ref L) (.ref r) .none) _ _ s
 unfold Builtin.List.listItems;refine wpAny_bind (wpAny_bind (wpAny_seqItems hL rfl (wpAny_pure ?_)));show wpAny _ _ (updateSeq L (fun _=>#[]) >>= fun _=>letGo _ >>= fun _=>Builtin.List.listExtendWith (.ref L) (.ref r) .none) _ _ s;refine wpAny_bind (wpAny_updateSeq hL rfl ?_);have hL1:=get?_update_self (Obj.mapSeq (fun _=>(#[]:Array Value))) hL rfl;have other:∀ b o,b≠L->s.heap.get? b=some o->(s.heap.update L (Obj.mapSeq (fun _=>(#[]:Array Value)))).get? b=some o:=fun b o nb e=>(get?_update_other _ _ (Ne.symm nb)).trans e;refine wpAny_bind (wpAny_letGo ?_);refine zp1 hh (other r _ (Ne.symm apart) hr) big hn hl hL1 fun h' tk acc c q1 q2 q3=>?_;exact hR h' tk acc c (fun b o nb e=>q1 b o nb (other b o nb e)) q2 q3
theorem ziV{Q:Value->Shared->Prop}{r:Addr}{lo hi:Int}{t u v:Tok}{n:Nat}(hh:A.handled=none)(hr:IsRange s.heap r lo hi 1 t u v)(hn:Builtin.Range.rangeSize lo hi 1=(n:Int))(hl:n<=1000)
  (hQ:∀ h' tk acc c,(∀ b o,s.heap.get? b=some o->h'.get? b=some o)->h'.get? s.heap.objs.size=some (zsb acc c)->IntsFrom lo acc n->Q (.ref s.heap.objs.size) { s with heap:=h',toks:=tk }) :
  wpAny (model prog w) A (call (.type "list") [.ref r]) Q E s:=by
 cases sm:Builtin.Range.small lo hi 1 with
 | true=>exact call_list_range hh hr sm hn (by omega) hQ
 | false =>
  refine callType_codes (Q₁:=fun ob z=>ob=.ref s.heap.objs.size/\z = { s with heap:=s.heap.push { cls:=.type "list",data:=.seq #[] } }) F.called_list (F.typeCall_list_1 _) F.entry_list_init (code_list_new _ ⟨rfl,rfl⟩) ?_;rintro ob z ⟨rfl,rfl⟩;have hL:(s.heap.push { cls:=.type "list",data:=.seq #[] }).get? s.heap.objs.size=some { cls:=.type "list",data:=.seq #[] }:=get?_push_size _ rfl;refine⟨⟨_,hL,rfl⟩,F.args_list_init_2 _ _,?_⟩;refine znU (A:=A.in1) hh (get?_push_of_some _ hr) sm hn hl hL fun h' tk acc c q1 q2 q3=>⟨rfl,hQ h' tk acc c (fun b o e=>?_) q2 q3⟩;exact q1 b o (ne_of_lt (lt_size e)) (get?_push_of_some _ e)
end
theorem zim:∀ (xs:List V) (us:List Value),xs.length=us.length->(∀ (k:Nat) (x:V) (u:Value),xs[k]? = some x->us[k]? = some u->RelV x u)->Vals xs us
 | [],[],_,_=>.nil
 | x :: xs,u :: us,hl,h=>.cons (h 0 x u rfl rfl) (zim xs us (by simpa using hl) fun k y v e1 e2=>h (k+1) y v e1 e2)
 | [],_ :: _,hl,_=>by simp at hl
 | _ :: _,[],hl,_=>by simp at hl
theorem zsx{lo:Int}:∀ {n:Nat} {acc:Array Value},IntsFrom lo acc n->Vals ((List.range n).map fun k:Nat=>V.int (lo+k)) acc.toList:=by
 intro n acc h;obtain⟨hz,hv⟩:=h;refine zim _ _ (by simp [hz]) fun k x u ex eu=>?_;rw [getElem?_map] at ex;have hk:k<n:=by
  have:=(List.getElem?_eq_some_iff.mp eu).1;simpa [hz] using this
 rw [List.getElem?_range hk] at ex;cases ex;obtain⟨tk,rfl⟩:=hv k u (by simpa using eu);exact⟨tk,by rw [Int.mul_one]⟩
end
end L2
namespace HT
open PySem PyProof.Rows
section
variable {prog:Program} {w:World} {A:Around} {E:Value->Shared->Prop} {s:Shared}
theorem tup_whole{t sl:Addr}{items:Array Value}{vl vu:Value}{lo hi:Option Int}{Q:Value->Shared->Prop}(ht:IsTup s.heap t items)(hs:s.heap.IsSliceOf sl vl vu .none)(pl:IsPart vl lo)(pu:IsPart vu hi)
  (hw:sIx items.size 0 lo=0/\sIx items.size items.size hi=items.size) (h:Q (.ref t) s):wpAny (model prog w) A (getItem (.ref t) (.ref sl)) Q E s:=by
 obtain⟨os,hos,hcs,hds⟩:=id hs;have hTs:s.TypeIs (.ref sl) "slice":=⟨os,hos,hcs⟩;unfold getItem
 try with_reducible refine wpAny_holding ?_
 first | refine wpAny_bind (wpAny_pure ?_) | skip
 refine wpAny_bind (wpAny_sequenceKey ht.typeIs dz ?_);refine wpAny_bind (wpAny_callSpecial?_slot (name:=Str.ofString "__getitem__") ht.typeIs PyProof.Rows.slot_tuple_getitem
  (wpAny_call_entry PyProof.Rows.slot_tuple_getitem ht.typeIs entry_tuple_getitem ?_ (args_tuple_getitem _ _)))
 show wpAny _ _ (Builtin.Tuple.tupleItemsOf (.ref t) >>= _) _ _ s;refine wpAny_bind (tupleItemsOf_ ht (wpAny_bind (wpAny_typeOf hTs ?_)));rw [if_pos dz];refine wpAny_bind (zdB hs pl pu ?_);rw [hw.1,hw.2];show wpAny _ _ (if (((0:Nat):Int) == 0 && (1:Int) == 1 && (items.size - 0) == items.size)=true then _ else _) _ _ s;rw [if_pos (by simp)];unfold Builtin.Tuple.tupleIsExact;refine wpAny_bind (wpAny_bind (wpAny_typeOf ht.typeIs (wpAny_pure ?_)));rw [if_pos dz];exact wpAny_bind (wpAny_rule (wpAny_pure ⟨_,rfl,wpAny_pure h⟩))
end
end HT
namespace L2
open PySem PySem.Spec PyProof.Rows
section
section
variable {X:Cx} {e ek:Expr} {te tk:TE} {pos p2:Pos}
def zvr(K:W.Frag):V->Option Int->Option Int->Hp->VK->Prop:=fun x lo hi H Q=>∃ a xs,x=.ref a/\SqT K H a xs /\
 ((HT.sIx xs.length 0 lo=0/\HT.sIx xs.length xs.length hi=xs.length)->Q (.ref a) H)/\∀ p,H p=none->Q (.ref p) (upd H p (.tup (zlC xs lo hi)))
theorem zho:SlR X (zvr X.K):=by
 intro zn s σ H x v vl vu lo hi sl Q I rx hs pl pu h;obtain⟨a,xs,rfl,hx,hw,q⟩:=h;by_cases z:HT.sIx xs.length 0 lo=0/\HT.sIx xs.length xs.length hi=xs.length
 ·cases rx;obtain⟨its,r,ht,hz⟩:=I.tuple hx;have hlen:its.toArray.size=xs.length:=by rw [size_toArray]; exact r.length.symm
  refine⟨"tuple",_,PyProof.Rows.slot_tuple_getitem.lookup,ht.typeIs,?_⟩;exact HT.tup_whole ht hs pl pu (by rw [hlen]; exact z) ⟨.ref a,H,I,rfl,hw z⟩
 ·exact zqe zn s σ H _ v vl vu lo hi sl Q I rx hs pl pu ⟨a,xs,rfl,hx,z,q⟩
end
def zpv:D3:=fun x i j S R=>asT x fun ds=>R (.d (.tuple (zdJ ds i j))) S
theorem zlR{α:Type}(xs:List α)(lo hi:Option Int)(h:HT.sIx xs.length 0 lo=0/\HT.sIx xs.length xs.length hi=xs.length):zdJ xs lo hi=xs:=by
 unfold zdJ;rw [h.1,h.2];simp
theorem zhi{K:W.Frag}:RL (zvr K) zpv:=fun h o H S x v a b R Q hs hx q c=>by
 replace q:=zem q;obtain⟨ds,rfl,q⟩:=q;obtain⟨p,vs,rfl,ea,l⟩:=zcQ hx;refine⟨p,vs,rfl,.of ea,fun z=>?_,zn7 hs (l.cut a b) c q⟩;rw [l.length] at z;rw [zlR ds a b z] at q;exact c o H S _ _ Ex.refl hs hx q
end
section
theorem zlt{r:Addr}{lo hi x:Int}{t u v tx:Tok}:Meets (Builtin.«range.__contains__» ⟨[.ref r,.int x tx],[]⟩) (fun _ R s=>IsRange s.heap r lo hi 1 t u v/\R (.ok (.ret (.bool (decide (lo<=x/\x<hi))))) s):=by
 rintro prog w A R s ⟨hr,q⟩;have e:(Builtin.Range.rangePlace? lo hi 1 x).isSome=decide (lo<=x/\x<hi):=by
  unfold Builtin.Range.rangePlace?;by_cases h:lo<=x/\x<hi
  ·simp [h]
  ·simp [h]
 rw [<- e] at q;obtain⟨hp,g,d,tk,os⟩:=s
 wp_walk using AutoSeq1.wpAny_loadPart' hr
 exact q
def zvb(k:Bool):CmpOp:=if k=true then .NotIn else .In
theorem zsy{prog:Program}{w:World}{A:Around}{E:Value->Shared->Prop}{s:Shared}{r:Addr}{lo hi x:Int}{t u v tx:Tok}{Q:Value->Shared->Prop}{k:Bool}(hr:IsRange s.heap r lo hi 1 t u v)
  (h:Q (.bool (if k=true then !decide (lo<=x/\x<hi) else decide (lo<=x/\x<hi))) s):wpAny (model prog w) A (compareOp (zvb k) (.int x tx) (.ref r)) Q E s:=by
 cases k with
 | false=>exact SeqRoads2.in_meets ⟨_,hr,rfl⟩ F.slot_range_contains F.entry_range_contains (F.args_range_contains_2 _ _) (zlt (t:=t) (u:=u) (v:=v)) ⟨hr,_,rfl,h⟩
 | true=>exact SeqRoads2.notIn_meets ⟨_,hr,rfl⟩ F.slot_range_contains F.entry_range_contains (F.args_range_contains_2 _ _) (zlt (t:=t) (u:=u) (v:=v)) ⟨hr,_,rfl,h⟩
def zmW(vs:List V)(a b:Int):Prop:=(vs=[.int b]/\a=0)\/vs=[.int a,.int b]
def zsr(k:Bool)(ta:TE)(tb:TA):TE:=fun σ H Q=>ta σ H fun x H1=>tb σ H1 fun ys H2=>∃ i a b:Int,x=.int i/\zmW ys a b/\Q (.bl (if k=true then !decide (a<=i/\i<b) else decide (a<=i/\i<b))) H2
section
variable {X:Cx} {l e e':Expr} {es:List Expr} {ta:TE} {tb:TA} {p pos pos':Pos} {k:Bool}
theorem znA{zn:List (Addr×Obj)}{s:Shared}{σ:St}{H:Hp}{Q:Value->Shared->Prop}{vs:List V}{us:List Value}{a b:Int}(I:Inv X zn σ H s)(r:Vals vs us)(h:zmW vs a b)
  (q:∀ (r:Addr) (t u v:Tok) (s':Shared),IsRange s'.heap r a b 1 t u v->Inv X zn σ H s'->Q (.ref r) s'):wpAny (model X.prog X.w) X.A (call (.type "range") us) Q X.xe s:=by
 rcases h with ⟨rfl,rfl⟩ | rfl
 ·cases r with
  | cons r rr =>
   cases rr;obtain⟨t,rfl⟩:=r;exact call_range_1 (q _ _ _ _ _ (IsRange.new ..) (I.kept fun b o e=>get?_push_of_some _ e))
 ·cases r with
  | cons r rr =>
   cases rr with
   | cons r' rr =>
    cases rr;obtain⟨t,rfl⟩:=r;obtain⟨t',rfl⟩:=r';exact call_range_2 (q _ _ _ _ _ (IsRange.new ..) (I.kept fun b o e=>get?_push_of_some _ e))
theorem zlN{zn:List (Addr×Obj)}{s:Shared}{σ:St}{H:Hp}{Q:VK}(hg:Gl X "range")(hm:X.mg "range" = none)(ha:PE X l ta)(hb:PA X [e] tb)(hs:starEach [e] X.env=[(false,eval e X.env)])(I:Inv X zn σ H s)(h:zsr k ta tb σ H Q):
  wpAny (model X.prog X.w) X.A (eval l X.env) (fun a s1=>wpAny (model X.prog X.w) X.A (eval (.Call (.Name "range" p) [e] [] pos) X.env) (fun b s2=>wpAny (model X.prog X.w) X.A (compareOp (zvb k) a b) (EP X zn σ Q) X.xe s2) X.xe s1) X.xe s:=by
 refine thn (ha zn s σ H _ I h) fun a s1 ⟨x,H1,I1,r1,q1⟩=>?_;refine Call_ (zcR I1 hg hm boot_range (PyProof.Rows.callWith_type1 (thn (hb pos zn s1 σ H1 _ I1 q1) fun us s2 ⟨vs,H2,I2,r2,q2⟩=>?_) hs rfl));obtain⟨i,n,m,rfl,hv,q⟩:=q2;obtain⟨tx,rfl⟩:=r1;exact znA I2 r2 hv fun r t u v s' ir I3=>zsy ir ⟨.bl _,H2,I3,rfl,q⟩
theorem zp0(k:Bool){op:CmpOp}(hg:Gl X "range")(hm:X.mg "range" = none)(ha:PE X l ta)(hb:PA X [e] tb)(ho:op=zvb k:=by rfl)(hs:starEach [e] X.env=[(false,eval e X.env)]:=by rfl)(hk:behindInMarks op (.Call (.Name "range" p) [e] [] pos)=false:=by rfl):
  PT X (.Compare l [op] [.Call (.Name "range" p) [e] [] pos] pos') (znq (zsr k ta tb)):=by
 subst ho;intro zn s σ H Q I h;refine wpAny_isTrue_Compare1 (thn (zlN (Q:=fun x H'=>∃ k,x=.bl k/\Q k H') hg hm ha hb hs I h) fun a s1 q1=>thn q1 fun b s2 q2=>thn q2 fun c s3 ⟨z,H3,I3,r3,k,e,q3⟩=>?_) hk;subst e;cases r3;exact wpAny_truthy_bool ⟨H3,I3,q3⟩
end
def zjU(k:Bool)(a:DE)(b:DA):DE:=fun δ S R=>a δ S fun x S1=>b δ S1 fun ys S2=>asI x fun i=>arg1 ys fun y=>asI y fun n=>R (.d (.bool (if k=true then !decide (0<=i/\i<n) else decide (0<=i/\i<n)))) S2
theorem zp8{k:Bool}{ta:TE}{da:DE}{tb:TA}{db:DA}(ha:RE ta da)(hb:RA tb db):RE (zsr k ta tb) (zjU k da db):=fun h o H δ σ S R Q he hs q c =>
 ha h o H δ σ S _ _ he hs q fun o1 H1 S1 x v e1 s1 x1 d1=>hb h o1 H1 δ σ S1 _ _ (he.mono e1) s1 d1 fun o2 H2 S2 ys us e2 s2 y2 d2=>by
  obtain⟨i,rfl,d3⟩:=zbp d2;obtain⟨y,rfl,d4⟩:=za3 d3;obtain⟨n,rfl,d5⟩:=zbp d4;obtain⟨u,rfl,hu⟩:=hxs1 y2;refine⟨i,0,n,za1 (x1.mono e2),.inl ⟨by rw [za1 hu],rfl⟩,c o2 H2 S2 _ _ (e1.trans e2) s2 (xB _) d5⟩
end
section
def ztD:R2:=fun x y H Q=>∃ a b,x=.bl a/\y=.bl b/\Q (.bl (!decide (a=b))) H
theorem zsd{X:Cx}:OpR X (compareOp .IsNot) ztD:=by
 intro zn s σ H x y v u Q I rx ry h;obtain⟨a,b,rfl,rfl,q⟩:=h;cases rx;cases ry;exact wpAny_isNot_plain (by cases a <;> cases b <;> rfl) (zm5 I q (by cases a <;> cases b <;> rfl))
def zoU:D2:=fun x y S R=>asB x fun a=>asB y fun b=>R (.d (.bool (!decide (a=b)))) S
theorem zsi:RO ztD zoU:=fun h o H S x y v u R Q hs hx hy q c=>by
 replace q:=zha q;obtain⟨a,rfl,q⟩:=q;replace q:=zha q;obtain⟨b,rfl,q⟩:=q;exact⟨a,b,zdg hx,zdg hy,c o H S _ _ Ex.refl hs (xB _) q⟩
end
section
@[irreducible] def QE (X:Cx) (e:Expr) (t:TE):Prop:=PE X e t
theorem QE.out{X:Cx}{e:Expr}{t:TE}(h:QE X e t):PE X e t:=by unfold QE at h; exact h
end
end L2
namespace L2
open PySem PySem.Spec PySem.Calls PyProof.Rows PySem.W
end L2
namespace L2
open PySem PySem.Spec PyProof.Rows
section
def zu5:D2:=fun x y S R=>asT x fun ds=>asT y fun es=>∃ ns,ds=ns.map PyData.int/\∃ ms,es=ms.map PyData.int/\R (.d (.bool (HT.lexLt ns ms))) S
theorem zuR{K:W.Frag}:RO (zwa K) zu5:=fun h o H S x y v u R Q hs hx hy q c=>by
 replace q:=zem q;obtain⟨ds,rfl,q⟩:=q;replace q:=zem q;obtain⟨es,rfl,ns,rfl,ms,rfl,q⟩:=q;obtain⟨a,vs,rfl,ea,l1⟩:=zcQ hx;obtain⟨b,ws,rfl,eb,l2⟩:=zcQ hy;have e1:=zbo l1;have e2:=zbo l2;subst e1 e2;exact⟨a,b,ns,ms,rfl,rfl,.of ea,.of eb,c o H S _ _ Ex.refl hs (xB _) q⟩
end
section
open Sem (wp)
namespace F4
end F4
end
section
namespace F4
end F4
end
section
namespace F4
end F4
end
section
namespace F4
end F4
end
section
theorem HOk.stays{P:Program}{w:World}{H:Hp}{h h':Heap}(x:HOk P w H h)(k:∀ b u,H b=some u->∀ o,h.get? b=some o->h'.get? b=some o):HOk P w H h':=fun a o e =>
 (x a o e).stay (fun b u hb q=>by
  rcases hb with rfl | hb
  ·exact k _ _ e _ q
  ·exact k _ _ hb _ q) (fun _ q=>q) fun _ _ q=>q
end
end L2
namespace L2
open PySem PySem.Spec PySem.Calls PyProof.Rows PySem.W PySem.Builtin PySem.Builtin.ObjectAttr PySem.Builtin.Getset_descriptor
end L2
namespace L2
open PySem PySem.Spec PySem.Calls PyProof.Rows
end L2
namespace L2
open PySem PySem.Spec PyProof.Rows
section
abbrev EXD:=Addr->List (Str×PyData)->Prop
abbrev PX:=List XV->Sto->RX->EXD->Prop
def CnX(h o:List Addr)(H:Hp)(EX:EXD)(E:XK):Prop:=∀ o' H' S' C a fs,Ex o H o' H'->RepS h o' H' S'->HasE (vx h o' H') C fs (.ref a)->EX C fs->E (.ref C) (some a) H'
theorem CnX.pre{h o o':List Addr}{H H':Hp}{EX:EXD}{E:XK}(c:CnX h o H EX E)(e:Ex o H o' H'):CnX h o' H' EX E:=fun o2 H2 S2 C a fs e2=>c o2 H2 S2 C a fs (e.trans e2)
def RSx(E:XK)(EX:EXD)(t:TS)(dt:DS):Prop:=∀ (h o:List Addr) (H:Hp) (δ:XE) (σ:St) (S:Sto) (En:DEnds) (D:Ends),RepE h o H δ σ->RepS h o H S->dt En δ S->EOk h o H En D->CnX h o H EX E->t D σ H
section
variable {E:XK} {EX:EXD} {t u:TS} {dt du:DS}
theorem zrW(ht:RS t dt):RSx E EX t dt:=fun h o H δ σ S En D he hs q c _=>ht h o H δ σ S En D he hs q c
end
end
end L2
namespace L2
open PySem PySem.Spec PySem.Calls PyProof.Rows PySem.W PySem.Builtin PySem.Builtin.ObjectAttr
end L2
namespace L2
open PySem PySem.Spec PySem.Calls PyProof.Rows PySem.W
end L2
namespace L2
open PySem PySem.Spec PySem.Calls PyProof.Rows
end L2
namespace L2
open PySem PySem.Spec PySem.Calls PyProof.Rows
end L2
namespace L2
open PySem PySem.Spec PyProof.Rows
section
def znK(EX:EXD)(C:Addr)(ns:List Str)(da:DA):DS:=fun _ δ S=>da δ S fun xs _=>∃ ds,datas xs=some ds/\ds.length=ns.length/\EX C (ns.zip ds)
end
end L2
namespace L2
open PySem PySem.Spec PySem.Calls PyProof.Rows
end L2
namespace L2
open PySem PySem.Spec PyProof.Rows
section
abbrev Phi:=List Addr->List Addr->Hp->Prop
class Stb (Φ:Phi):Prop where
 st:∀ {h o o':List Addr} {H H':Hp},Φ h o H->Ex o H o' H'->Φ h o' H'
def REp(Φ:Phi)(t:TE)(dt:DE):Prop:=∀ (h o:List Addr) (H:Hp) (δ:XE) (σ:St) (S:Sto) (R:RX) (Q:VK),RepE h o H δ σ->RepS h o H S->dt δ S R->Cn h o H R Q->Φ h o H->t σ H Q
def RTp(Φ:Phi)(t:TT)(dt:DT):Prop:=∀ (h o:List Addr) (H:Hp) (δ:XE) (σ:St) (S:Sto) (R:Bool->Sto->Prop) (Q:Bool->Hp->Prop),RepE h o H δ σ->RepS h o H S->dt δ S R ->
 (∀ o' H' S' b,Ex o H o' H'->RepS h o' H' S'->R b S'->Q b H')->Φ h o H->t σ H Q
def RAp(Φ:Phi)(t:TA)(dt:DA):Prop:=∀ (h o:List Addr) (H:Hp) (δ:XE) (σ:St) (S:Sto) (R:List XV->Sto->Prop) (Q:List V->Hp->Prop),RepE h o H δ σ->RepS h o H S->dt δ S R ->
 (∀ o' H' S' xs vs,Ex o H o' H'->RepS h o' H' S'->HasXs h o' H' xs vs->R xs S'->Q vs H')->Φ h o H->t σ H Q
def RIp(Φ:Phi)(w:TI)(di:DI):Prop:=∀ (h o:List Addr) (H:Hp) (δ:XE) (σ:St) (S:Sto) (R:List PyData->Sto->Prop) (Q:It->Hp->Prop),RepE h o H δ σ->RepS h o H S->di δ S R ->
 (∀ o' H' S' ds J,Ex o H o' H'->RepS h o' H' S'->WalkX h o' H' J ds->R ds S'->Q J H')->Φ h o H->w σ H Q
section
variable {Φ:Phi} [Stb Φ] {ta tb te:TE} {da db de:DE} {tl:TA} {dl:DA} {tt tu:TT} {dt du:DT}
theorem zik(a:RE te de):REp Φ te de:=fun h o H δ σ S R Q he hs q c _=>a h o H δ σ S R Q he hs q c
theorem zro(a:RT tt dt):RTp Φ tt dt:=fun h o H δ σ S R Q he hs q c _=>a h o H δ σ S R Q he hs q c
theorem zrS(a:RA tl dl):RAp Φ tl dl:=fun h o H δ σ S R Q he hs q c _=>a h o H δ σ S R Q he hs q c
theorem zki{w:TI}{di:DI}(a:RI w di):RIp Φ w di:=fun h o H δ σ S R Q he hs q c _=>a h o H δ σ S R Q he hs q c
theorem zse(ha:REp Φ ta da)(hb:RAp Φ tl dl):RAp Φ (ziZ ta tl) (zc da dl):=fun h o H δ σ S R Q he hs q c x =>
 ha h o H δ σ S _ _ he hs q (fun o1 H1 S1 y v e1 s1 x1 d1=>hb h o1 H1 δ σ S1 _ _ (he.mono e1) s1 d1 (fun o2 H2 S2 xs vs e2 s2 x2 d2 =>
  c o2 H2 S2 (y :: xs) (v :: vs) (e1.trans e2) s2 ⟨v,vs,rfl,x1.mono e2,x2⟩ d2) (Stb.st x e1)) x
theorem zvu{r:List V->Hp->VK->Prop}{rd:List XV->Sto->RX->Prop}(hr:RC r rd)(ha:RAp Φ tl dl):REp Φ (tCB r tl) (dCB rd dl):=fun h o H δ σ S R Q he hs q c w =>
 ha h o H δ σ S _ _ he hs q (fun o1 H1 S1 xs vs e1 s1 x1 d1=>hr h o1 H1 S1 xs vs R Q s1 x1 d1 (c.pre e1)) w
end
section
variable {E:XK} {EX:EXD} {ta tb te:TE} {da db de:DE} {tl:TA} {dl:DA} {tt tu:TT} {dt du:DT}
def zqK(EX:EXD)(m:Nat)(q:PX)(da:DA):DE:=fun δ S R=>da δ S fun xs S1=>∃ ds,datas xs=some ds/\ds.length=m/\q (ds.map XV.d) [] (ret0 S1 R) EX
end
def zvG(N P:List Str)(sc:Scope):Bool:=decide (sc.kind=.function) && !sc.isCoroutine && !sc.isGenerator && decide N.Nodup && decide (N.take P.length=P) && P.all (fun x=>decide (sc.names.lookup x=some .local) || decide (sc.names.lookup x=some .cell)) && sc.names.all fun y=>decide (y.2≠.free)
theorem fsc{N P:List Str}{sc:Scope}(h:zvG N P sc=true):FnScope N P sc:=by
 simp only [zvG,Bool.and_eq_true,decide_eq_true_eq,Bool.not_eq_true',all_eq_true,Bool.or_eq_true] at h;obtain⟨⟨⟨⟨⟨⟨h1,h2⟩,h3⟩,h4⟩,h5⟩,h6⟩,h7⟩:=h;exact⟨h1,h2,h3,h4,h5,h6,h7⟩
end
section
section
variable {κ α:Type} [DecidableEq κ]
def lkA(m:List (κ×α))(k:κ):Option α:=(m.find? fun p=>decide (p.1=k)).map (·.2)
def ptA(m:List (κ×α))(k:κ)(v:α):List (κ×α):=if (m.any fun p=>decide (p.1=k))=true then m.map (fun p=>if p.1=k then (p.1,v) else p) else m++[(k,v)]
def HasM(H:Hp):List (κ×PyData)->List (κ×V)->Prop
 | [],m=>m=[]
 | p :: r,m=>∃ v m',m=(p.1,v) :: m'/\Has H p.2 v/\HasM H r m'
theorem HasM.mono{H H':Hp}(s:Same H H'):∀ {m:List (κ×PyData)} {m':List (κ×V)},HasM H m m'->HasM H' m m'
 | [],_,q=>q
 | p :: r,_,⟨v,t,e,q,l⟩=>⟨v,t,e,Has.mono s _ _ q,HasM.mono s l⟩
theorem HasM.length{H:Hp}:∀ {m:List (κ×PyData)} {m':List (κ×V)},HasM H m m'->m'.length=m.length
 | [],_,q=>by rw [show _=[] from q]; rfl
 | p :: r,_,⟨v,t,e,q,l⟩=>by rw [e,length_cons,length_cons,HasM.length l]
theorem HasM.val{H:Hp}(k:κ):∀ {m:List (κ×PyData)} {m':List (κ×V)},HasM H m m'->(lkA m k=none/\zmv m' k=none)\/∃ d v,lkA m k=some d/\zmv m' k=some v/\Has H d v
 | [],m',q=>by rw [show m'=[] from q]; exact .inl ⟨rfl,rfl⟩
 | p :: r,m',⟨v,t,e,q,l⟩=>by
  subst e;by_cases hk:p.1=k
  ·exact .inr ⟨p.2,v,by simp [lkA,hk],zgn hk,q⟩
  ·have e1:lkA (p :: r) k=lkA r k:=by simp [lkA,hk]
   rw [e1,zgm hk];exact HasM.val k l
theorem HasM.any{H:Hp}(k:κ):∀ {m:List (κ×PyData)} {m':List (κ×V)},HasM H m m'->(m'.any fun p=>decide (p.1=k))=m.any fun p=>decide (p.1=k)
 | [],m',q=>by rw [show m'=[] from q]; rfl
 | p :: r,m',⟨v,t,e,q,l⟩=>by
  subst e;rw [any_cons,any_cons,HasM.any k l]
theorem HasM.sets{H:Hp}{k:κ}{d:PyData}{v:V}(hv:Has H d v):∀ {m:List (κ×PyData)} {m':List (κ×V)},HasM H m m'->HasM H (m.map fun p=>if p.1=k then (p.1,d) else p) (m'.map fun p=>if p.1=k then (p.1,v) else p)
 | [],m',q=>by rw [show m'=[] from q]; rfl
 | p :: r,m',⟨u,t,e,q,l⟩=>by
  subst e;rw [map_cons,map_cons];by_cases hk:p.1=k
  ·exact⟨v,_,by simp [hk],by simpa [hk] using hv,HasM.sets hv l⟩
  ·exact⟨u,_,by simp [hk],by simpa [hk] using q,HasM.sets hv l⟩
theorem HasM.snoc{H:Hp}{k:κ}{d:PyData}{v:V}(hv:Has H d v):∀ {m:List (κ×PyData)} {m':List (κ×V)},HasM H m m'->HasM H (m++[(k,d)]) (m'++[(k,v)])
 | [],m',q=>by rw [show m'=[] from q]; exact⟨v,[],rfl,hv,rfl⟩
 | p :: r,m',⟨u,t,e,q,l⟩=>by subst e; exact⟨u,_,rfl,q,HasM.snoc hv l⟩
theorem HasM.put{H:Hp}{k:κ}{d:PyData}{v:V}{m:List (κ×PyData)}{m':List (κ×V)}(l:HasM H m m')(hv:Has H d v):HasM H (ptA m k d) (zkg m' k v):=by
 unfold ptA zkg;rw [l.any k];split
 ·exact l.sets hv
 ·exact l.snoc hv
end
inductive DD where
 | k (m:List (Key×PyData))
 | t (m:List (List Key×PyData))
def DD.pairs:DD->List (PyData×PyData)
 | .k m=>m.map fun p=>(kD p.1,p.2)
 | .t m=>m.map fun p=>(.tuple (p.1.map kD),p.2)
def DD.len:DD->Nat
 | .k m=>m.length
 | .t m=>m.length
def zoC:PyData->Option Key
 | .int i=>some (.inl i)
 | .str x=>some (.inr x)
 | _=>none
def zj8:List PyData->Option (List Key)
 | []=>some []
 | d :: ds=>(zoC d).bind fun k=>(zj8 ds).map (k :: ·)
def zoJ:PyData->Option (List Key)
 | .tuple ds=>zj8 ds
 | _=>none
def DD.get:DD->PyData->Option (Option PyData)
 | .k m,y=>(zoC y).map (lkA m)
 | .t m,y=>(zoJ y).map (lkA m)
def DD.put:DD->PyData->PyData->Option DD
 | .k m,y,d=>(zoC y).map fun k=>.k (ptA m k d)
 | .t m,y,d=>(zoJ y).map fun k=>.t (ptA m k d)
def RAt(G H:Hp)(a:Addr):DD->Prop
 | .k m=>∃ m',Rd H a (.dK m')/\HasM G m m'
 | .t m=>∃ m',Rd H a (.dT m')/\HasM G m m'
def DAt(G H:Hp)(a:Addr):DD->Prop
 | .k m=>∃ m',H a=some (.dK m')/\HasM G m m'
 | .t m=>∃ m',H a=some (.dT m')/\HasM G m m'
theorem ziU{H:Hp}{y:PyData}{v:V}{k:Key}(e:zoC y=some k)(q:Has H y v):v=kV k:=by
 cases y with
 | int i=>cases e; exact zcG.mp q
 | str x=>cases e; exact zeA.mp q
 | _=>cases e
theorem zjs{H:Hp}:∀ {ds:List PyData} {vs:List V} {ks:List Key},zj8 ds=some ks->HasL H ds vs->vs=ks.map kV
 | [],vs,ks,e,l=>by cases e; exact zH.mp l
 | d :: ds,vs,ks,e,l=>by
  obtain⟨v,r,rfl,q,l⟩:=zC.mp l;unfold zj8 at e;cases hk:zoC d with
  | none=>rw [hk] at e; cases e
  | some k =>
   rw [hk,Option.bind_some] at e;cases hs:zj8 ds with
   | none=>rw [hs] at e; cases e
   | some ks' =>
    rw [hs] at e;cases e;rw [ziU hk q,zjs hs l];rfl
theorem zk0{H:Hp}{y:PyData}{v:V}{ks:List Key}(e:zoJ y=some ks)(q:Has H y v):∃ b,v=.ref b/\H b=some (.tup (ks.map kV)):=by
 cases y with
 | tuple ds =>
  obtain⟨b,vs,rfl,eb,l⟩:=zaP.mp q;exact⟨b,rfl,by rw [<- zjs (show zj8 ds=some ks from e) l]; exact eb⟩
 | _=>cases e
theorem DAt.mono{G G' H H':Hp}{a:Addr}{D:DD}(s:Same G G')(e:∀ u,H a=some u->H' a=some u)(q:DAt G H a D):DAt G' H' a D:=by
 cases D with
 | k m=>obtain⟨m',e1,l⟩:=q; exact⟨m',e _ e1,l.mono s⟩
 | t m=>obtain⟨m',e1,l⟩:=q; exact⟨m',e _ e1,l.mono s⟩
theorem DAt.rd{G H:Hp}{a:Addr}{D:DD}(q:DAt G H a D):RAt G H a D:=by
 cases D with
 | k m=>obtain⟨m',e1,l⟩:=q; exact⟨m',.inl e1,l⟩
 | t m=>obtain⟨m',e1,l⟩:=q; exact⟨m',.inl e1,l⟩
theorem DAt.mo{G H:Hp}{a:Addr}{D:DD}(q:DAt G H a D):∃ u:MO,H a=some u.ho:=by
 cases D with
 | k m=>obtain⟨m',e1,l⟩:=q; exact⟨.k m',e1⟩
 | t m=>obtain⟨m',e1,l⟩:=q; exact⟨.t m',e1⟩
def RelD(G:Hp):Option PyData->Option V->Prop
 | none,r=>r=none
 | some d,r=>∃ u,r=some u/\Has G d u
theorem RAt.get{G H:Hp}{a:Addr}{D:DD}{y:PyData}{v:V}{o:Option PyData}(sv:Same G H)(q:RAt G H a D)(hy:Has G y v)(e:D.get y=some o):∃ r,DGet H a v r/\RelD G o r:=by
 cases D with
 | k m =>
  obtain⟨m',e1,l⟩:=q;replace e:(zoC y).map (lkA m)=some o:=e;cases hk:zoC y with
  | none=>rw [hk] at e; cases e
  | some k =>
   rw [hk] at e;cases e;rw [ziU hk hy];refine⟨_,.inl ⟨m',k,e1,rfl,rfl⟩,?_⟩;rcases l.val k with ⟨z1,z2⟩ | ⟨d,u,z1,z2,z3⟩
   ·rw [z1]; exact z2
   ·rw [z1]; exact⟨u,z2,z3⟩
 | t m =>
  obtain⟨m',e1,l⟩:=q;replace e:(zoJ y).map (lkA m)=some o:=e;cases hk:zoJ y with
  | none=>rw [hk] at e; cases e
  | some k =>
   rw [hk] at e;cases e;obtain⟨b,rfl,eb⟩:=zk0 hk hy;refine⟨_,.inr ⟨m',k,b,e1,rfl,sv _ _ eb,rfl⟩,?_⟩;rcases l.val k with ⟨z1,z2⟩ | ⟨d,u,z1,z2,z3⟩
   ·rw [z1]; exact z2
   ·rw [z1]; exact⟨u,z2,z3⟩
theorem DAt.put{G H:Hp}{a:Addr}{D D':DD}{y d:PyData}{v u:V}(sv:Same G H)(q:DAt G H a D)(hy:Has G y v)(hd:Has G d u)(e:D.put y d=some D')(hl:D.len<1000):
  ∃ x:MO,DPut H a v u (upd H a x.ho)/\∀ H',H' a=some x.ho->DAt G H' a D':=by
 cases D with
 | k m =>
  obtain⟨m',e1,l⟩:=q;replace e:((zoC y).map fun k=>DD.k (ptA m k d))=some D':=e;cases hk:zoC y with
  | none=>rw [hk] at e; cases e
  | some k =>
   rw [hk] at e;cases e;rw [ziU hk hy];exact⟨.k (zkg m' k u),DPut.k e1 (by rw [l.length]; exact small1000 (le_of_lt hl)),fun H' z=>⟨_,z,l.put hd⟩⟩
 | t m =>
  obtain⟨m',e1,l⟩:=q;replace e:((zoJ y).map fun k=>DD.t (ptA m k d))=some D':=e;cases hk:zoJ y with
  | none=>rw [hk] at e; cases e
  | some k =>
   rw [hk] at e;cases e;obtain⟨b,rfl,eb⟩:=zk0 hk hy;exact⟨.t (zkg m' k u),DPut.t e1 (sv _ _ eb) (by rw [l.length]; exact small1000 (le_of_lt hl)),fun H' z=>⟨_,z,l.put hd⟩⟩
theorem ztN{a b:Key}(e:kD a=kD b):a=b:=by
 cases a <;> cases b <;> cases e <;> rfl
theorem zol{H:Hp}:∀ {m:List (Key×PyData)} {m':List (Key×V)},HasM H m m'->HasV H (m.map fun p=>(kD p.1,p.2)) (m'.map (·.2))/\m'.map (fun p=>kD p.1)=m.map fun p=>kD p.1
 | [],m',q=>by rw [show m'=[] from q]; exact⟨zpS.mpr rfl,rfl⟩
 | p :: r,m',⟨v,t,e,q,l⟩=>by
  subst e;obtain⟨z1,z2⟩:=zol l;exact⟨zka.mpr ⟨v,_,rfl,q,z1⟩,by rw [map_cons,map_cons,z2]⟩
theorem zn0{H:Hp}:∀ {m:List (Key×PyData)} {m':List (Key×V)},HasV H (m.map fun p=>(kD p.1,p.2)) (m'.map (·.2))->m.map (fun p=>kD p.1)=m'.map (fun p=>kD p.1)->HasM H m m'
 | [],[],_,_=>rfl
 | [],_ :: _,_,e=>by simp at e
 | _ :: _,[],_,e=>by simp at e
 | p :: r,q :: t,h,e=>by
  rw [map_cons,map_cons] at h;obtain⟨v,s,e1,e2,e3⟩:=zka.mp h;rw [List.cons.injEq] at e1;rw [map_cons,map_cons,List.cons.injEq] at e;have z:=ztN e.1;obtain⟨q1,q2⟩:=q;refine⟨q2,t,by rw [z],?_,zn0 (by rw [e1.2]; exact e3) e.2⟩;have z1:q2=v:=e1.1;rw [z1];exact e2
theorem zqy{H:Hp}{m:List (Key×PyData)}{v:V}:Has H (.dict (DD.pairs (.k m))) v↔∃ a ob m',v=.ref a/\H a=some (.frz ob (.dK m'))/\HasM H m m':=by
 rw [zit];constructor
 ·rintro⟨a,vs,rfl,⟨ob,m',e,e1,e2⟩ | ⟨ob,p,m',e,e1,e2⟩,l⟩
  rotate_left
  ·cases m with
   | nil=>cases e1
   | cons q r =>
    have z:=congrArg List.head? e1;simp only [DD.pairs,map_cons,List.head?_cons,Option.some.injEq] at z;cases h:q.1 <;> rw [h] at z <;> cases z
  subst e2;refine⟨a,ob,m',rfl,e,zn0 l ?_⟩;rw [<- e1];simp [DD.pairs]
 ·rintro⟨a,ob,m',rfl,e,l⟩;obtain⟨z1,z2⟩:=zol l;exact⟨a,_,rfl,.inl ⟨ob,m',e,by rw [z2]; simp [DD.pairs],rfl⟩,z1⟩
abbrev DM:=List (Addr×DD)
def ad(M:DM):List Addr:=M.map (·.1)
structure RepM(h o:List Addr)(H:Hp)(M:DM):Prop where
 nd:(ad M).Nodup
 nh:∀ a∈ad M,a∉h/\a∉o
 ct:∀ a D,(a,D)∈M->DAt (vx (h++ad M) o H) H a D
section
variable {h o o':List Addr} {H H':Hp} {M:DM} {S:Sto}
theorem RepM.at(r:RepM h o H M){a:Addr}(m:a∈ad M):∃ D,(a,D)∈M/\DAt (vx (h++ad M) o H) H a D:=by
 obtain⟨p,mp,e⟩:=mem_map.mp m;obtain⟨b,D⟩:=p;cases e;exact⟨D,mp,r.ct _ D mp⟩
theorem RepM.mono(r:RepM h o H M)(e:Ex o H o' H'):RepM h o' H' M:=by
 have k1:∀ a∈ad M,∀ u,H a=some u->a∉o'/\H' a=some u:=fun a m u z=>e.kp a u (r.nh a m).2 z;refine⟨r.nd,fun a m=>⟨(r.nh a m).1,?_⟩,fun a D m=>?_⟩
 ·obtain⟨D,_,q⟩:=r.at m;obtain⟨u,z⟩:=q.mo;exact(k1 a m _ z).1
 ·exact(r.ct a D m).mono e.vx fun u z=>(k1 a (mem_map.mpr ⟨_,m,rfl⟩) u z).2
theorem RepM.nil:RepM h o H []:=⟨nodup_nil,fun a m=>(by cases m),fun a D m=>(by cases m)⟩
def zr9(M:DM)(a:Addr)(D:DD):DM:=M.map fun p=>if p.1=a then (a,D) else p
theorem zg6{a:Addr}{D:DD}:∀ {M:DM},ad (zr9 M a D)=ad M
 | []=>rfl
 | p :: r=>by
  have z:=zg6 (a:=a) (D:=D) (M:=r);unfold ad zr9 at z ⊢;rw [map_cons,map_cons,map_cons,z];by_cases e:p.1=a <;> simp [e]
theorem zgL{a:Addr}{u:HO}(m:a∈h):Same (vx h o H) (vx h o (upd H a u)):=fun b w e=>by
 obtain⟨z1,z2,z3⟩:=zan.mp e;exact zan.mpr ⟨z1,z2,by rw [zR (fun z=>z1 (by rw [z]; exact m))]; exact z3⟩
theorem HasX.view(s:Same (vx h o H) (vx h o H')):∀ {x:XV} {v:V},HasX h o H x v->HasX h o H' x v
 | .d d,v,q=>Has.mono s d v q
 | .l k,v,q=>q
 | .o w,v,q=>q
 | .x C fs,v,q=>HasE.mono s q
theorem RepE.view{δ:XE}{σ:St}(s:Same (vx h o H) (vx h o H'))(r:RepE h o H δ σ):RepE h o H' δ σ:=⟨r.len,fun i x e=>let ⟨v,e1,e2⟩:=r.get i x e; ⟨v,e1,e2.view s⟩⟩
theorem RepS.hidden{a:Addr}{u:MO}(r:RepS h o H S)(m:a∈h):RepS h o (L2.upd H a u.ho) S where
 len:=r.len
 nd:=r.nd
 dis:=r.dis
 hal:=fun b mb=>by
  by_cases e:b=a
  ·subst e; exact⟨u,zau⟩
  ·obtain⟨w,z⟩:=r.hal b mb;exact⟨w,by rw [zR e]; exact z⟩
 cont:=fun k b ds e1 e2=>by
  obtain⟨vs,e3,l⟩:=r.cont k b ds e1 e2;have ne:b≠a:=fun z=>r.dis b (mem_of_getElem? e1) (z▸m);exact⟨vs,by rw [zR ne]; exact e3,HasL.mono (zgL m) _ _ l⟩
theorem RepM.put{a:Addr}{D D':DD}{u:MO}(r:RepM h o H M)(m:(a,D)∈M)(q:∀ H',H' a=some u.ho->DAt (vx (h++ad M) o H) H' a D'):RepM h o (L2.upd H a u.ho) (zr9 M a D'):=by
 have ma:a∈ad M:=mem_map.mpr ⟨_,m,rfl⟩;refine⟨by rw [zg6]; exact r.nd,by rw [zg6]; exact r.nh,fun b D2 mb=>?_⟩;rw [zg6];have sv:Same (vx (h++ad M) o H) (vx (h++ad M) o (L2.upd H a u.ho)):=zgL (mem_append_right _ ma);obtain⟨p,mp,ep⟩:=mem_map.mp mb;by_cases e:p.1=a
 ·rw [if_pos e] at ep;cases ep;exact(q _ zau).mono sv fun _ z=>z
 ·rw [if_neg e] at ep;subst ep;exact(r.ct _ _ mp).mono sv fun w z=>by rw [zR e]; exact z
theorem RepS.less{l:List Addr}(r:RepS (h++l) o H S):RepS h o H S where
 len:=r.len
 nd:=r.nd
 dis:=fun a ma z=>r.dis a ma (mem_append_left _ z)
 hal:=fun b mb=>r.hal b (mem_append_left _ mb)
 cont:=fun k b ds e1 e2=>by
  obtain⟨vs,e3,q⟩:=r.cont k b ds e1 e2;exact⟨vs,e3,HasL.mono (fun c u z=>let ⟨z1,z2,z3⟩:=zan.mp z; zan.mpr ⟨fun mm=>z1 (mem_append_left _ mm),z2,z3⟩) _ _ q⟩
theorem zgJ{l:List Addr}:Same (vx (h++l) o H) (vx h o H):=fun c u z=>let ⟨z1,z2,z3⟩:=zan.mp z; zan.mpr ⟨fun mm=>z1 (mem_append_left _ mm),z2,z3⟩
theorem HasX.less{l:List Addr}:∀ {x:XV} {v:V},HasX (h++l) o H x v->HasX h o H x v
 | .d d,v,q=>Has.mono zgJ d v q
 | .l k,v,q=>q
 | .o w,v,q=>q
 | .x C fs,v,q=>HasE.mono zgJ q
end
end
section
structure DEndsM where
 nx:XE->Sto->DM->Prop
 rt:XV->Sto->DM->Prop
 bk:XE->Sto->DM->Prop:=fun _ _ _=>False
 ct:XE->Sto->DM->Prop:=fun _ _ _=>False
abbrev DSm:=DEndsM->XE->Sto->DM->Prop
def Fr(H:Hp)(M:DM):Prop:=∀ a∈ad M,H a=none
def NxM(h o:List Addr)(H:Hp)(A:List Addr)(N:XE->Sto->DM->Prop)(Y:St->Hp->Prop):Prop:=∀ o' H' δ' S' M' σ',Ex o H o' H'->ad M'=A->RepE (h++ad M') o' H' δ' σ'->RepS (h++ad M') o' H' S'->RepM h o' H' M'->N δ' S' M'->Y σ' H'
structure EOkM(h o:List Addr)(H:Hp)(A:List Addr)(E:DEndsM)(D:Ends):Prop where
 nx:NxM h o H A E.nx D.nx
 rt:∀ o' H' S' M' x v,Ex o H o' H'->ad M'=A->RepS (h++ad M') o' H' S'->RepM h o' H' M'->HasX (h++ad M') o' H' x v->E.rt x S' M'->D.rt v H'
 bk:NxM h o H A E.bk D.bk
 ct:NxM h o H A E.ct D.ct
def RSm(E:XK)(EX:EXD)(t:TS)(dt:DSm):Prop:=∀ (h o0:List Addr) (H0:Hp) (o:List Addr) (H:Hp) (δ:XE) (σ:St) (S:Sto) (M:DM) (En:DEndsM) (D:Ends),Ex o0 H0 o H->Fr H0 M->RepE (h++ad M) o H δ σ->RepS (h++ad M) o H S->RepM h o H M->dt En δ S M ->
 EOkM h o0 H0 (ad M) En D->CnX h o0 H0 EX E->t D σ H
theorem CnX.inn{E:XK}{EX:EXD}{h o0 o l:List Addr}{H0 H:Hp}(x:CnX h o0 H0 EX E)(e0:Ex o0 H0 o H):CnX (h++l) o H EX E:=fun o' H' S' C a fs e s' hE q=>x o' H' S' C a fs (e0.trans e) s'.less (HasE.mono zgJ hE) q
def zh8(dt:DS):DSm:=fun En δ S M=>dt { nx:=fun δ' S'=>En.nx δ' S' M,rt:=fun x S'=>En.rt x S' M,bk:=fun δ' S'=>En.bk δ' S' M,ct:=fun δ' S'=>En.ct δ' S' M } δ S
def zpq(t u:DSm):DSm:=fun En δ S M=>t { En with nx:=u En } δ S M
def zuZ(c:DM->DT)(t u:DSm):DSm:=fun En δ S M=>c M δ S fun b S1=>if b=true then t En δ S1 M else u En δ S1 M
def zfV(g:DG)(b:DSm):List PyData->DSm
 | [],E,δ,S,M=>E.nx δ S M
 | d :: ds,E,δ,S,M=>g (.d d) δ S fun δ1 S1=>b { nx:=fun δ2 S2 M2=>zfV g b ds E δ2 S2 M2,ct:=fun δ2 S2 M2=>zfV g b ds E δ2 S2 M2,bk:=E.nx,rt:=E.rt } δ1 S1 M
def zmZ(i:DM->DI)(g:DG)(b:DSm):DSm:=fun En δ S M=>i M δ S fun ds S1=>zfV g b ds En δ S1 M
def PhM(M:DM):Phi:=fun h' o H=>∃ h,h'=h++ad M/\RepM h o H M
instance {M:DM}:Stb (PhM M):=⟨fun⟨h,e,r⟩ x=>⟨h,e,r.mono x⟩⟩
section
variable {E:XK} {EX:EXD} {t u:TS} {dt du:DSm}
theorem zoO{ds:DS}(ht:RSx E EX t ds):RSm E EX t (zh8 ds):=fun h o0 H0 o H δ σ S M En D e0 fr he hs rm q c x =>
 ht (h++ad M) o H δ σ S _ D he hs q ⟨fun o' H' δ' S' σ' e he' hs' n=>c.nx o' H' δ' S' M σ' (e0.trans e) rfl he' hs' (rm.mono e) n,fun o' H' S' y v e hs' hy n=>c.rt o' H' S' M y v (e0.trans e) rfl hs' (rm.mono e) hy n,
  fun o' H' δ' S' σ' e he' hs' n=>c.bk o' H' δ' S' M σ' (e0.trans e) rfl he' hs' (rm.mono e) n,fun o' H' δ' S' σ' e he' hs' n=>c.ct o' H' δ' S' M σ' (e0.trans e) rfl he' hs' (rm.mono e) n⟩ (x.inn e0)
theorem zoA{ds:DS}(ht:RS t ds):RSm E EX t (zh8 ds):=zoO (zrW ht)
theorem zs9(ht:RSm E EX t dt)(hu:RSm E EX u du):RSm E EX (zls t u) (zpq dt du):=fun h o0 H0 o H δ σ S M En D e0 fr he hs rm q c x =>
 ht h o0 H0 o H δ σ S M _ _ e0 fr he hs rm q ⟨fun o1 H1 δ1 S1 M1 σ1 e1 ea he1 hs1 rm1 q1=>hu h o0 H0 o1 H1 δ1 σ1 S1 M1 En D e1 (by unfold Fr; rw [ea]; exact fr) he1 hs1 rm1 q1 (by rw [ea]; exact c) x,c.rt,c.bk,c.ct⟩ x
theorem zvv{tc:TT}{dc:DM->DT}(hc:∀ M,RTp (PhM M) tc (dc M))(ht:RSm E EX t dt)(hu:RSm E EX u du):RSm E EX (zuY tc t u) (zuZ dc dt du):=fun h o0 H0 o H δ σ S M En D e0 fr he hs rm q c x =>
 hc M (h++ad M) o H δ σ S _ _ he hs q (fun o1 H1 S1 b e1 s1 d1=>by
  cases b with
  | true=>exact zmt (ht h o0 H0 o1 H1 δ σ S1 M En D (e0.trans e1) fr (he.mono e1) s1 (rm.mono e1) (by simpa using d1) c x)
  | false=>exact zmu (hu h o0 H0 o1 H1 δ σ S1 M En D (e0.trans e1) fr (he.mono e1) s1 (rm.mono e1) (by simpa using d1) c x)) ⟨h,rfl,rm⟩
theorem zqS{wi:TI}{g:TG}{tb:TS}{di:DM->DI}{dg:DG}{db:DSm}(hi:∀ M,RIp (PhM M) wi (di M))(hg:RG g dg)(hb:RSm E EX tb db):RSm E EX (zs6 wi g tb) (zmZ di dg db):=fun h o0 H0 o H δ σ S M En D e0 fr he hs rm q c x =>
 hi M (h++ad M) o H δ σ S _ _ he hs q (fun o1 H1 S1 ds J e1 s1 wk d1=>by
  refine⟨fun i m σ2 H2=>m=ds.length - i/\i<=ds.length/\∃ o2 δ2 S2 M2,Ex o0 H0 o2 H2/\ExH (h++ad M) o1 H1 o2 H2/\ad M2=ad M/\RepE (h++ad M) o2 H2 δ2 σ2/\RepS (h++ad M) o2 H2 S2/\RepM h o2 H2 M2/\zfV dg db (ds.drop i) En δ2 S2 M2,
   ⟨ds.length,by simp,zero_le _,o1,δ,S1,M,e0.trans e1,ExH.refl,rfl,he.mono e1,s1,rm.mono e1,d1⟩,?_⟩
  rintro i m σ2 H2 ⟨rfl,hi,o2,δ2,S2,M2,e2,x2,ea,he2,hs2,rm2,d2⟩;by_cases hlt:i<ds.length
  ·have ed:ds[i]? = some ds[i]:=getElem?_eq_getElem hlt;rw [drop_eq_getElem_cons hlt] at d2;refine .inr ⟨wk.go i _ o2 H2 x2 ed,fun σ3 H3=>∃ o3 δ3 S3 M3,Ex o0 H0 o3 H3/\ExH (h++ad M) o1 H1 o3 H3/\ad M3=ad M/\RepE (h++ad M) o3 H3 δ3 σ3/\RepS (h++ad M) o3 H3 S3/\RepM h o3 H3 M3/\zfV dg db (ds.drop (i+1)) En δ3 S3 M3,fun σ3 H3 n=>⟨ds.length - (i+1),by omega,rfl,hlt,n⟩,fun y H3 yy=>?_⟩;obtain⟨s3,hx⟩:=wk.yld i _ o2 H2 y H3 S2 x2 hs2 ed yy;have e23:Ex o2 H2 o2 H3:=Ex.of_same s3;refine hg (h++ad M) o2 H3 δ2 σ2 S2 (.d ds[i]) y _ _ (he2.mono e23) (hs2.same s3) hx d2 fun o4 H4 δ4 S4 σ4 e4 he4 hs4 d4=>?_;have e24:Ex o2 H2 o4 H4:=e23.trans e4;have nM:∀ b u,H0 b=some u->b∉ad M:=fun b u z mb=>by
    rw [fr b mb] at z;cases z
   have e04:Ex o0 H0 o4 (fun b=>if b∈ad M then none else H4 b):=⟨(e2.trans e24).pre,fun b u nb z=>by
    obtain⟨z1,z2⟩:=(e2.trans e24).kp b u nb z;exact⟨z1,by show (if b∈ad M then none else H4 b)=some u; rw [if_neg (nM b u z)]; exact z2⟩⟩
   have exh:∀ {o5 H5},Ex o4 (fun b=>if b∈ad M then none else H4 b) o5 H5->ExH (h++ad M) o4 H4 o5 H5:=fun e5=>⟨e5.pre,fun b u n1 n2 z=>e5.kp b u n2 (by show (if b∈ad M then none else H4 b)=some u; rw [if_neg (fun mb=>n1 (mem_append_right _ mb))]; exact z)⟩;have again:∀ o5 H5 δ5 S5 M5 σ5,Ex o4 (fun b=>if b∈ad M then none else H4 b) o5 H5->ad M5=ad M2->RepE (h++ad M5) o5 H5 δ5 σ5->RepS (h++ad M5) o5 H5 S5->RepM h o5 H5 M5->zfV dg db (ds.drop (i+1)) En δ5 S5 M5 ->
     ∃ o3 δ3 S3 M3,Ex o0 H0 o3 H5/\ExH (h++ad M) o1 H1 o3 H5/\ad M3=ad M/\RepE (h++ad M) o3 H5 δ3 σ5/\RepS (h++ad M) o3 H5 S3/\RepM h o3 H5 M3/\zfV dg db (ds.drop (i+1)) En δ3 S3 M3:=fun o5 H5 δ5 S5 M5 σ5 e5 a5 he5 hs5 rm5 d5 =>
    ⟨o5,δ5,S5,M5,e04.trans e5,(x2.trans e24.hid).trans (exh e5),a5.trans ea,by rw [<- ea,<- a5]; exact he5,by rw [<- ea,<- a5]; exact hs5,rm5,d5⟩
   refine hb h o4 (fun b=>if b∈ad M then none else H4 b) o4 H4 δ4 σ4 S4 M2 _ _ ⟨⟨[],by simp⟩,fun b u nb eb=>?_⟩ (fun a ma=>by show (if a∈ad M then none else H4 a)=none; rw [if_pos (by rw [<- ea]; exact ma)]) (by rw [ea]; exact he4) (by rw [ea]; exact hs4) (rm2.mono e24) d4
    ⟨again,fun o5 H5 S5 M5 y5 v5 e5 a5 hs5 rm5 hx5 q5=>c.rt o5 H5 S5 M5 y5 v5 (e04.trans e5) (a5.trans ea) hs5 rm5 hx5 q5,fun o5 H5 δ5 S5 M5 σ5 e5 a5 he5 hs5 rm5 q5=>c.nx o5 H5 δ5 S5 M5 σ5 (e04.trans e5) (a5.trans ea) he5 hs5 rm5 q5,again⟩ (x.pre e04)
   refine⟨nb,?_⟩;by_cases mb:b∈ad M
   ·simp [mb] at eb
   ·simpa [mb] using eb
  ·have ei:i=ds.length:=by omega
   subst ei;rw [drop_length] at d2;exact .inl ⟨wk.stop _ o2 H2 x2 (le_refl _),c.nx o2 H2 δ2 S2 M2 σ2 e2 ea (by rw [ea]; exact he2) (by rw [ea]; exact hs2) rm2 d2⟩) ⟨h,rfl,rm⟩
end
end
section
section
variable {h h' o:List Addr} {H H':Hp}
theorem HasX.to(s:Same (vx h o H) (vx h' o H')):∀ {x:XV} {v:V},HasX h o H x v->HasX h' o H' x v
 | .d d,v,q=>Has.mono s d v q
 | .l k,v,q=>q
 | .o w,v,q=>q
 | .x C fs,v,q=>HasE.mono s q
theorem RepE.to{δ:XE}{σ:St}(s:Same (vx h o H) (vx h' o H'))(r:RepE h o H δ σ):RepE h' o H' δ σ:=⟨r.len,fun i x e=>let ⟨v,e1,e2⟩:=r.get i x e; ⟨v,e1,e2.to s⟩⟩
end
def zsU(a:Addr)(m:List (Key×PyData)):XV->XV
 | .o (.ref b)=>if b=a then .d (.dict (DD.pairs (.k m))) else .o (.ref b)
 | x=>x
theorem ztS{h h' o:List Addr}{H H':Hp}{a:Addr}{m:List (Key×PyData)}{m':List (Key×V)}{ob:Obj}(s:Same (vx h o H) (vx h' o H'))(e:vx h' o H' a=some (.frz ob (.dK m')))(l:HasM (vx h o H) m m'):∀ {x:XV} {v:V},HasX h o H x v->HasX h' o H' (zsU a m x) v
 | .d d,v,z=>Has.mono s d v z
 | .l k,v,z=>z
 | .x C fs,v,z=>HasE.mono s z
 | .o w,v,z=>by
  cases w with
  | ref b =>
   unfold zsU;dsimp only;split
   ·rename_i eb;subst eb;rw [show v=.ref b from z];exact zqy.mpr ⟨b,ob,m',rfl,e,l.mono s⟩
   ·exact z
  | _=>exact z
theorem zpF{h h' o:List Addr}{H H':Hp}{a:Addr}{m:List (Key×PyData)}{m':List (Key×V)}{ob:Obj}{δ:XE}{σ:St}(s:Same (vx h o H) (vx h' o H'))(e:vx h' o H' a=some (.frz ob (.dK m')))(l:HasM (vx h o H) m m')(r:RepE h o H δ σ):RepE h' o H' (δ.map (Option.map (zsU a m))) σ:=by
 refine⟨by rw [length_map]; exact r.len,fun i x ex=>?_⟩;rw [getElem?_map] at ex;cases hd:δ[i]? with
 | none=>rw [hd] at ex; cases ex
 | some y =>
  rw [hd] at ex;cases y with
  | none=>cases ex
  | some y =>
   cases ex;obtain⟨v,e1,e2⟩:=r.get i y hd;exact⟨v,e1,ztS s e l e2⟩
theorem zaC{M:DM}{a:Addr}{D:DD}:ad (M++[(a,D)])=ad M++[a]:=by simp [ad]
theorem RepM.init{h o:List Addr}{H:Hp}{M:DM}{a:Addr}{D:DD}(r:RepM h o H (M++[(a,D)])):RepM h o H M:=by
 have nd:=r.nd;rw [zaC] at nd;refine⟨(nodup_append.mp nd).1,fun b m=>r.nh b (by rw [zaC]; exact mem_append_left _ m),fun b D2 m=>?_⟩;have z:=r.ct b D2 (mem_append_left _ m);rw [zaC,<- append_assoc] at z;exact z.mono zgJ fun _ z=>z
def znJ(f:Bool)(i:Nat)(D0:DD)(b:DSm):DSm:=fun En δ S M=>∀ a,a∉ad M->b { nx:=(fun δ' S' M'=>if f=true then (∃ M1 m,M'=M1++[(a,.k m)]/\δ'[i]? = some (some (.o (.ref a)))/\En.nx (δ'.map (Option.map (zsU a m))) S' M1) else (∃ M1 D,M'=M1++[(a,D)]/\En.nx δ' S' M1)),rt:=(fun x S' M'=>∃ M1 D,M'=M1++[(a,D)]/\En.rt x S' M1),bk:=(fun δ' S' M'=>∃ M1 D,M'=M1++[(a,D)]/\En.bk δ' S' M1),ct:=(fun δ' S' M'=>∃ M1 D,M'=M1++[(a,D)]/\En.ct δ' S' M1) } (δ.set i (some (.o (.ref a)))) S (M++[(a,D0)])
section
variable {E:XK} {EX:EXD} {tb:TS} {db:DSm} {i:Nat}
theorem zoL{f:Bool}{u:MO}{D0:DD}(hD:∀ (G H:Hp) a,H a=some u.ho->DAt G H a D0)(hb:RSm E EX tb db){h o0:List Addr}{H0:Hp}{o:List Addr}{H:Hp}{δ:XE}{σ:St}{S:Sto}{M:DM}{En:DEndsM}{D:Ends}(e0:Ex o0 H0 o H)(fr:Fr H0 M)(he:RepE (h++ad M) o H δ σ)(hs:RepS (h++ad M) o H S)(rm:RepM h o H M)
  (q:znJ f i D0 db En δ S M) (c:EOkM h o0 H0 (ad M) En D) (x:CnX h o0 H0 EX E) (p:Addr) (hp:H p=none):(if f=true then zws i tb else tb) D (σ.set i (some (.ref p))) (upd H p u.ho):=by
 have nM:p∉ad M:=fun m=>by
  obtain⟨D2,_,z⟩:=rm.at m;obtain⟨w,ew⟩:=z.mo;rw [hp] at ew;cases ew
 have f1:=hs.fresh hp;have nh:p∉h:=fun m=>f1.1 (mem_append_left _ m);have sH:Same H (upd H p u.ho):=Same.laid hp;have e1:Ex o0 H0 o (upd H p u.ho):=e0.trans (Ex.of_same sH);have H0p:H0 p=none:=by
  cases z:H0 p with
  | none=>rfl
  | some w =>
   by_cases m:p∈o0
   ·obtain⟨r,er⟩:=e0.pre;exact absurd (show p∈o by rw [er]; exact mem_append_left _ m) f1.2
   ·have:=(e0.kp p w m z).2;rw [hp] at this;cases this
 have sv:Same (vx (h++ad M) o H) (vx (h++(ad M++[p])) o (upd H p u.ho)):=fun b w z=>by
  obtain⟨z1,z2,z3⟩:=zan.mp z;have ne:b≠p:=zQ z3 hp;refine zan.mpr ⟨fun m=>?_,z2,by rw [zR ne]; exact z3⟩;rw [<- append_assoc] at m;rcases mem_append.mp m with m | m
  ·exact z1 m
  ·exact ne (mem_singleton.mp m)
 have sM:RepS (h++ad (M++[(p,D0)])) o (upd H p u.ho) S:=by
  rw [zaC];refine⟨hs.len,hs.nd,fun a ma z=>?_,fun b mb=>?_,fun k b ds e1 e2=>?_⟩
  ·rw [<- append_assoc] at z;rcases mem_append.mp z with z | z
   ·exact hs.dis a ma z
   ·rw [mem_singleton.mp z] at ma;exact f1.2 ma
  ·rw [<- append_assoc] at mb;rcases mem_append.mp mb with m | m
   ·obtain⟨w,ew⟩:=hs.hal b m;exact⟨w,sH _ _ ew⟩
   ·rw [mem_singleton.mp m];exact⟨u,zau⟩
  ·obtain⟨vs,e3,l⟩:=hs.cont k b ds e1 e2;exact⟨vs,sH _ _ e3,HasL.mono sv _ _ l⟩
 have mM:RepM h o (upd H p u.ho) (M++[(p,D0)]):=by
  refine⟨by rw [zaC]; exact zcD rm.nd nM,fun a ma=>?_,fun a D2 m=>?_⟩
  ·rw [zaC] at ma;rcases mem_append.mp ma with m | m
   ·exact rm.nh a m
   ·rw [mem_singleton.mp m];exact⟨nh,f1.2⟩
  ·rw [zaC];rcases mem_append.mp m with m | m
   ·exact(rm.ct a D2 m).mono sv fun w z=>sH _ _ z
   ·have:=mem_singleton.mp m;cases this;exact hD _ _ _ zau
 have hE:RepE (h++ad (M++[(p,D0)])) o (upd H p u.ho) (δ.set i (some (.o (.ref p)))) (σ.set i (some (.ref p))):=by
  rw [zaC];exact(he.to sv).set (show HasX _ _ _ (.o (.ref p)) (.ref p) from rfl)
 have fr1:Fr H0 (M++[(p,D0)]):=fun a ma=>by
  rw [zaC] at ma;rcases mem_append.mp ma with m | m
  ·exact fr a m
  ·rw [mem_singleton.mp m]; exact H0p
 have back:∀ {N:XE->Sto->DM->Prop} {Y:St->Hp->Prop},NxM h o0 H0 (ad M) N Y->NxM h o0 H0 (ad (M++[(p,D0)])) (fun δ' S' M'=>∃ M1 D,M'=M1++[(p,D)]/\N δ' S' M1) Y:=fun {N Y} nx o' H' δ' S' M' σ' ex ea hE' hS' hM' ⟨M1,D2,eM,n⟩=>by
  subst eM;rw [zaC,zaC] at ea;rw [zaC,<- append_assoc] at hE' hS';exact nx o' H' _ S' M1 σ' ex (List.append_inj_left' ea rfl) (hE'.to zgJ) hS'.less hM'.init n
 have ret:∀ o' H' S' M' y v,Ex o0 H0 o' H'->ad M'=ad (M++[(p,D0)])->RepS (h++ad M') o' H' S'->RepM h o' H' M'->HasX (h++ad M') o' H' y v->(∃ M1 D,M'=M1++[(p,D)]/\En.rt y S' M1)->D.rt v H':=by
  rintro o' H' S' M' y v ex ea hS' hM' hx' ⟨M1,D2,eM,n⟩;subst eM;rw [zaC,zaC] at ea;rw [zaC,<- append_assoc] at hx' hS';exact c.rt o' H' S' M1 _ v ex (List.append_inj_left' ea rfl) hS'.less hM'.init hx'.less n
 have qq:=q p nM;cases f with
 | false =>
  refine hb h o0 H0 o _ _ _ S (M++[(p,D0)]) _ D e1 fr1 hE sM mM qq ⟨?_,ret,back c.bk,back c.ct⟩ x;exact fun o' H' δ' S' M' σ' ex ea hE' hS' hM' n=>back c.nx o' H' δ' S' M' σ' ex ea hE' hS' hM' (by simpa using n)
 | true =>
  refine hb h o0 H0 o _ _ _ S (M++[(p,D0)]) _ { D with nx:=fun σ' H'=>∃ a m,σ'[i]? = some (some (.ref a))/\H' a=some (.dK m)/\∀ ob,D.nx σ' (upd H' a (.frz ob (.dK m))) } e1 fr1 hE sM mM qq ⟨?_,ret,back c.bk,back c.ct⟩ x;intro o' H' δ' S' M' σ' ex ea hE' hS' hM' n;obtain⟨M1,m,eM,ei,n2⟩:∃ M1 m,M'=M1++[(p,DD.k m)]/\δ'[i]? = some (some (.o (.ref p)))/\En.nx (δ'.map (Option.map (zsU p m))) S' M1:=by simpa using n
  subst eM;obtain⟨v,ev,hv⟩:=hE'.get i _ ei;have evp:v=.ref p:=hv;subst evp;have nn:=hM'.nh p (by rw [zaC]; simp);have nd:=hM'.nd;rw [zaC,zaC] at ea;rw [zaC] at nd;have pn:p∉ad M1:=fun m=>(nodup_append.mp nd).2.2 p m p (by simp) rfl;obtain⟨m',em,l⟩:=hM'.ct p (.k m) (by simp);refine⟨p,m',ev,em,fun ob=>?_⟩;have np:p∉h++ad M1:=fun z=>(mem_append.mp z).elim nn.1 pn;have s2:Same (vx (h++ad (M1++[(p,DD.k m)])) o' H') (vx (h++ad M1) o' (upd H' p (.frz ob (.dK m')))):=fun b w z=>by
   obtain⟨z1,z2,z3⟩:=zan.mp z;rw [zaC,<- append_assoc] at z1;have ne:b≠p:=fun z=>z1 (by rw [z]; simp);exact zan.mpr ⟨fun mm=>z1 (mem_append_left _ mm),z2,by rw [zR ne]; exact z3⟩
  refine c.nx o' _ _ S' M1 σ' ⟨ex.pre,fun b w nb zb=>?_⟩ (List.append_inj_left' ea rfl) (zpF s2 (zan.mpr ⟨np,nn.2,zau⟩) l hE') ?_ ?_ n2
  ·obtain⟨z1,z3⟩:=ex.kp b w nb zb;exact⟨z1,by rw [zR (fun z=>by rw [z,H0p] at zb; cases zb)]; exact z3⟩
  ·refine⟨hS'.len,hS'.nd,fun a ma z=>hS'.dis a ma (by rw [zaC,<- append_assoc]; exact mem_append_left _ z),fun b mb=>?_,fun k b ds q1 q2=>?_⟩
   ·obtain⟨w,ew⟩:=hS'.hal b (by rw [zaC,<- append_assoc]; exact mem_append_left _ mb);exact⟨w,by rw [zR (fun z=>np (by rw [<- z]; exact mb))]; exact ew⟩
   ·obtain⟨vs,q3,l3⟩:=hS'.cont k b ds q1 q2;exact⟨vs,by rw [zR (fun z=>nn.2 (by rw [<- z]; exact mem_of_getElem? q1))]; exact q3,HasL.mono s2 _ _ l3⟩
  ·have r1:=hM'.init;refine⟨r1.nd,r1.nh,fun b D3 mb=>?_⟩;have nb:b≠p:=fun z=>pn (by rw [<- z]; exact mem_map.mpr ⟨_,mb,rfl⟩);exact(hM'.ct b D3 (mem_append_left _ mb)).mono s2 fun w z=>by rw [zR nb]; exact z
theorem zrF(hb:RSm E EX tb db):RSm E EX (zls (ztM zqB (zky i)) tb) (znJ false i (.t []) db):=fun h o0 H0 o H δ σ S M En D e0 fr he hs rm q c x p hp =>
 zoL (f:=false) (D0:=.t []) (u:=.t []) (fun G H a z=>⟨[],z,rfl⟩) hb e0 fr he hs rm q c x p hp
def zuC(dt:DSm):DS:=fun En δ S=>dt { nx:=fun δ' S' _=>En.nx δ' S',rt:=fun x S' _=>En.rt x S',bk:=fun δ' S' _=>En.bk δ' S',ct:=fun δ' S' _=>En.ct δ' S' } δ S []
theorem zss{t:TS}{dt:DSm}(ht:RSm E EX t dt):RSx E EX t (zuC dt):=fun h o H δ σ S En D he hs q c x=>by
 have z:h++ad []=h:=append_nil _;have nx:∀ {N:XE->Sto->Prop} {Y:St->Hp->Prop},Nx h o H N Y->NxM h o H (ad []) (fun δ' S' _=>N δ' S') Y:=fun {N Y} n o' H' δ' S' M' σ' ex ea he' hs' _ q'=>by
  rw [ea,z] at he' hs';exact n o' H' δ' S' σ' ex he' hs' q'
 refine ht h o H o H δ σ S [] _ D Ex.refl (fun a m=>by cases m) (by rw [z]; exact he) (by rw [z]; exact hs) RepM.nil q ⟨nx c.nx,?_,nx c.bk,nx c.ct⟩ x;rintro o' H' S' M' y v ex ea hs' _ hx' q';rw [ea,z] at hs' hx';exact c.rt o' H' S' y v ex hs' hx' q'
theorem zsp{t:TS}{dt:DSm}(ht:RSm E0 (fun _ _=>False) t dt):RS t (zuC dt):=fun h o H δ σ S En D he hs q c=>zss ht h o H δ σ S En D he hs q c fun _ _ _ _ _ _ _ _ _ z=>z.elim
end
end
section
def ROp(Φ:Phi)(r:R2)(rd:D2):Prop:=∀ (h o:List Addr) (H:Hp) (S:Sto) (x y:XV) (v u:V) (R:RX) (Q:VK),Φ h o H->RepS h o H S->HasX h o H x v->HasX h o H y u->rd x y S R->Cn h o H R Q->r v u H Q
section
variable {Φ:Phi} [Stb Φ] {ta tb:TE} {da db:DE}
theorem zsN{r:R2}{rd:D2}(hr:ROp Φ r rd)(ha:REp Φ ta da)(hb:REp Φ tb db):REp Φ (tOp r ta tb) (dOp rd da db):=fun h o H δ σ S R Q he hs q c w =>
 ha h o H δ σ S _ _ he hs q (fun o1 H1 S1 x v e1 s1 x1 d1=>hb h o1 H1 δ σ S1 _ _ (he.mono e1) s1 d1 (fun o2 H2 S2 y u e2 s2 y2 d2 =>
  hr h o2 H2 S2 x y v u R Q (Stb.st w (e1.trans e2)) s2 (x1.mono e2) y2 d2 (c.pre (e1.trans e2))) (Stb.st w e1)) w
theorem ztF{tt:TT}{dt:DT}(ha:RTp Φ tt dt):RTp Φ (zvz tt) (zet dt):=fun h o H δ σ S R Q he hs q c w=>ha h o H δ σ S _ _ he hs q (fun o1 H1 S1 b e1 s1 d1=>c o1 H1 S1 _ e1 s1 d1) w
end
def IsDD(M:DM)(x:XV)(D:DD):Prop:=(∃ a,x=.o (.ref a)/\(a,D)∈M)\/∃ m,D=.k m/\x=.d (.dict (DD.pairs (.k m)))
theorem zsu{M:DM}{h o:List Addr}{H:Hp}{x:XV}{D:DD}{v:V}(φ:PhM M h o H)(q:IsDD M x D)(hx:HasX h o H x v):∃ a,v=.ref a/\RAt (vx h o H) H a D:=by
 rcases q with ⟨a,rfl,m⟩ | ⟨m,rfl,rfl⟩
 ·obtain⟨h0,rfl,rm⟩:=φ;exact⟨a,hx,(rm.ct a D m).rd⟩
 ·obtain⟨a,ob,m',rfl,e,l⟩:=zqy.mp (show Has _ _ v from hx);exact⟨a,rfl,m',.inr ⟨ob,zaD _ _ e⟩,l⟩
def zwc(n:Bool):R2:=fun y x H Q=>∃ a o,x=.ref a/\DGet H a y o/\Q (.bl (if n=true then !o.isSome else o.isSome)) H
theorem zt2{X:Cx}(hu:X.A.units+64<cLine):OpR X (compareOp .In) (zwc false):=fun zn s σ H y x v u Q I ry rx ⟨a,o,e,g,q⟩=>by
 subst e;obtain rfl:u=Value.ref a:=rx;exact zwt (by omega) I g ry fun s3 I3=>⟨.bl o.isSome,H,I3,rfl,q⟩
def zu7(M:DM)(n:Bool):D2:=fun y x S R=>asD y fun k=>∃ D o,IsDD M x D/\D.get k=some o/\R (.d (.bool (if n=true then !o.isSome else o.isSome))) S
theorem zso{G:Hp}{o:Option PyData}{r:Option V}(q:RelD G o r):r.isSome=o.isSome:=by
 cases o with
 | none=>rw [show r=none from q]; rfl
 | some d=>obtain⟨u,rfl,_⟩:=q; rfl
theorem zta{M:DM}{n:Bool}:ROp (PhM M) (zwc n) (zu7 M n):=fun h o H S y x v u R Q φ hs hy hx q c=>by
 obtain⟨k,rfl,D,r,hD,e,q⟩:=ze9 q;obtain⟨a,rfl,da⟩:=zsu φ hD hx;obtain⟨r',g,rr⟩:=da.get zaD hy e;refine⟨a,r',rfl,g,?_⟩;rw [zso rr];exact c o H S _ _ Ex.refl hs (xB _) q
def zpk(j:Nat)(dk dv:DM->DE):DSm:=fun En δ S M=>dv M δ S fun x S1=>asD x fun d=>zg j δ S1 fun y S2=>∃ a,y=.o (.ref a)/\dk M δ S2 fun z S3=>asD z fun k=>∃ D D',(a,D)∈M/\D.put k d=some D'/\D.len<1000/\En.nx δ S3 (zr9 M a D')
theorem zs4{E:XK}{EX:EXD}{j:Nat}{ty tv:TE}{dk dv:DM->DE}(hk:∀ M,REp (PhM M) ty (dk M))(hv:∀ M,REp (PhM M) tv (dv M)):RSm E EX (zsR (zna j) ty tv) (zpk j dk dv):=fun h o0 H0 o H δ σ S M En D e0 fr he hs rm q c x =>
 hv M (h++ad M) o H δ σ S _ _ he hs q (fun o1 H1 S1 y v e1 s1 x1 d1=>by
  obtain⟨d,rfl,y1,ey,a,rfl,d2⟩:=ze9 d1;have he1:=he.mono e1;obtain⟨v1,ev,hv1⟩:=he1.get j _ ey;have ev1:v1=.ref a:=hv1;subst ev1;refine⟨_,ev,hk M (h++ad M) o1 H1 δ σ S1 _ _ he1 s1 d2 (fun o2 H2 S2 z u e2 s2 z2 d3=>?_) ⟨h,rfl,rm.mono e1⟩⟩;obtain⟨k,rfl,D1,D2,mD,eD,hl,n⟩:=ze9 d3;have e12:=e1.trans e2;have rm2:=rm.mono e12;have ma:a∈ad M:=mem_map.mpr ⟨_,mD,rfl⟩;obtain⟨w,pt,fin⟩:=(rm2.ct a D1 mD).put zaD z2 (x1.mono e2) eD hl;have mh:a∈h++ad M:=mem_append_right _ ma;refine⟨a,_,rfl,pt,c.nx o2 _ δ S2 (zr9 M a D2) σ ⟨(e0.trans e12).pre,fun b w' nb zb=>?_⟩ zg6 ?_ ?_ (rm2.put mD fin) n⟩
  ·obtain⟨z1,z3⟩:=(e0.trans e12).kp b w' nb zb;exact⟨z1,by rw [zR (fun z=>by rw [z,fr a ma] at zb; cases zb)]; exact z3⟩
  ·rw [zg6];exact(he1.mono e2).view (zgL mh)
  ·rw [zg6];exact s2.hidden mh) ⟨h,rfl,rm⟩
theorem zrC{t t':TS}{d:DS}(h:RS t d)(e:t'=t:=by rfl):RS t' d:=e▸h
end
end L2
namespace L2
open PySem PySem.Spec PySem.Calls PyProof.Rows
def DD.itemsD(m:List (Key×PyData)):List PyData:=m.map fun p=>.tuple [kD p.1,p.2]
def zoy(e:DE):DI:=fun δ S R=>e δ S fun x S1=>∃ m,x=.d (.dict (DD.pairs (.k m)))/\R (DD.itemsD m) S1
end L2
namespace L2
open PySem PySem.Spec PyProof.Rows
section
section
variable {E:XK} {EX:EXD} {a b c d e f u:TS} {dt du:DS} {i:Nat}
theorem zr1(h:RS (zls a (zls b c)) dt)(hu:RS u du):RS (zls a (zls b (zls c u))) (zM dt du):=zrC (zS h hu)
end
end
section
structure FnAt(P:Program)(w:World)(K:W.Frag)(mg:Str->Option Value)(base:Heap)(F:Addr)(ps:List Str)(k:Nat)(sp:Sp):Prop where
 ex:∃ fd,FnOk P w K mg base CX0 k F fd ps sp/\W.keepIn K (.ref F)=true/\Binds K fd ps []
def zqC(i:Nat)(F:Addr)(sp:Sp)(ta:TA):TE:=fun σ H Q=>σ[i]? = some (some (.ref F))/\zl7 sp [] E0 ta σ H Q
def zkX(i:Nat)(F:Addr)(m:Nat)(q:PN)(da:DA):DE:=fun δ S R=>δ[i]? = some (some (.o (.ref F)))/\zL m q da δ S R
theorem zp7{F:Addr}{i:Nat}{ps:List Str}{q:PN}{m:Nat}{t:TA}{da:DA}(ha:RA t da)(hm:ps.length=m:=by rfl):RE (zqC i F (spN ps q) t) (zkX i F m q da):=fun h o H δ σ S R Q he hs ⟨e,w⟩ c=>by
 obtain⟨v,e1,e2⟩:=he.get i _ e;have ev:v=.ref F:=e2;subst ev;exact⟨e1,zV ha hm h o H δ σ S R Q he hs w c⟩
end
end L2
namespace HT
open PySem PyProof.Rows
end HT
namespace L2
open PySem PySem.Spec PyProof.Rows
end L2
namespace L2
open PySem PySem.Spec PySem.Calls PyProof.Rows
end L2
namespace HT
open PySem PyProof.Rows
end HT
namespace L2
open PySem PySem.Spec PySem.Calls PyProof.Rows
end L2
namespace HT
open PySem PyProof.Rows
end HT
namespace L2
open PySem PySem.Spec PySem.Calls PyProof.Rows
end L2
namespace L2
open PySem PySem.Spec PyProof.Rows
section
def zmN(lo:Int)(n:Nat):List PyData:=(List.range n).map fun k:Nat=>.int (lo - k)
end
end L2
namespace L2
open PySem PyProof.Rows
section
variable {prog:Program} {w:World} {A:Around} {E:Value->Shared->Prop} {s:Shared} {kd:SortKind} {D:Keyed->Prop} {lt:Keyed->Keyed->Bool}
def flt(lt:Keyed->Keyed->Bool):Keyed->Keyed->Bool:=fun x y=>lt y x
def G(xs:Array Keyed)(i:Nat):Keyed:=(xs[i]?).getD (.none,.none)
structure Ts(kd:SortKind)(D:Keyed->Prop)(a₀:Array Keyed)(st:SortSt):Prop where
 kd:kindOf st=kd
 fl:failedOf st=none
 pm:(arrOf st).Perm a₀
 d:∀ x∈a₀.toList,D x
end
end L2
namespace L2
open PySem PySem.Spec PySem.Calls PyProof.Rows PySem.W
section
variable {X:Cx} {zn:List (Addr×Obj)} {σ:St} {H H':Hp} {s:Shared} {h':Heap}
theorem Inv.laidAll{t':Nat}(I:Inv X zn σ H s)(k:∀ b u,s.heap.get? b=some u->h'.get? b=some u)(gr:Same H H')(new:∀ b u,H' b=some u->H b=some u\/(s.heap.objs.size<=b/\ObjOk X.prog X.w H' h' b u)):Inv X zn σ H' { s with heap:=h',toks:=t' }:=by
 refine I.un ⟨fun b u q _ _ _=>k b u q,fun b u q _ _ _=>⟨u.slots,k b u q⟩,fun b u q n _=>?_,fun b u q _=>⟨u,k b u q⟩,fun b xs q=>gr b _ q,fun b u xs q=>gr b _ q,fun b ps q=>gr b _ q⟩ fun b u e=>?_
 ·cases e:H' b with
  | none=>rfl
  | some v =>
   rcases new b v e with z | ⟨z,_⟩
   ·rw [n] at z; cases z
   ·exact absurd (lt_of_lt_of_le (lt_size q) z) (lt_irrefl _)
 ·rcases new b u e with z | ⟨_,z⟩
  ·exact(I.hok b u z).stay (fun c v _ q=>k c v q) (fun c q=>gr c _ q) (fun c xs q=>gr c _ q) fun c o u q=>gr c _ q
  ·exact z
end
def zqU:List XV->Sto->RX->Prop:=fun xs S R=>arg1 xs fun x=>∃ m:List (Key×PyData),x=.d (.dict (DD.pairs (.k m)))/\∃ ns:List Int,m.map (·.1)=ns.map Sum.inl/\ns.length<=10000000/\∀ ms:List Int,ms.Perm ns->ms.Pairwise (· <= ·)->R (.d (.list (ms.map PyData.int))) S
end L2
namespace L2
open PySem PySem.Spec PyProof.Rows
section
section
open PySem.SeqAt
open PySem.AutoSeq1 (wpAny_loadPart')
open PySem.MeetsSeq PySem.MeetsSeq2 PySem.MeetsSeq3
theorem zl4{vs ws:List Value}{ns ms:List Int}{a b:Nat}(hz:[]=vs.zip ws)(hv:IntsAre vs ns)(hw:IntsAre ws ms)(hl:ns.length+b=ms.length+a):(!HT.lexLt ns ms)=decide (b<=a):=by
 cases hv with
 | nil=>cases hw with
  | nil=>simp only [length_nil] at hl; rw [HT.lexLt_nil_nil]; exact(decide_eq_true (by omega)).symm
  | cons c u _=>simp only [length_nil,length_cons] at hl; rw [HT.lexLt_nil_cons]; exact(decide_eq_false (by omega)).symm
 | cons x t _=>cases hw with
  | nil=>simp only [length_nil,length_cons] at hl; rw [HT.lexLt_cons_nil]; exact(decide_eq_true (by omega)).symm
  | cons c u _=>rw [zip_cons_cons] at hz; cases hz
theorem zpR(A:Around)(s:Shared)(a:Int)(t:Tok)(c:Int)(u:Tok)(prog:Program)(w:World)(E:Value->Shared->Prop)(Q:Value->Shared->Prop)(h:Q (.bool (decide (c<=a))) s):
  wpAny (model prog w) A (richCompare .GtE (.int a t) (.int c u)) Q E s :=
 (ge_int h:wpAny (model prog w) A (compareOp .GtE (.int a t) (.int c u)) Q E s)
theorem ziT(l b:Addr)(xs ys:Array Value)(n n2:Nat)(dd dd2:Option Addr)(sl sl2:Array (Option Value))(ns ms:List Int)(hi:IntsAre xs.toList ns)(hj:IntsAre ys.toList ms):
  Meets (Builtin.«tuple.__ge__» ⟨[.ref l,.ref b],[]⟩)
   (fun _ R s=>s.heap.get? l=some { cls:=.type "tuple",dict:=dd,data:=.seq xs n,slots:=sl }/\s.heap.get? b=some { cls:=.type "tuple",dict:=dd2,data:=.seq ys n2,slots:=sl2 }/\R (.ok (.ret (.bool (!HT.lexLt ns ms)))) s) :=
 .of_wp fun prog w A R s h=>by
  obtain⟨hp,g,d,tk,os⟩:=s;obtain⟨hl,hb,h⟩:=h;have f2:=AutoSeq1.sub_tuple_tuple;have z1:xs.size=ns.length:=by rw [<- hi.length]; simp
  have z2:ys.size=ms.length:=by rw [<- hj.length]; simp
  wp_walk using wpAny_loadPart' hl,wpAny_loadPart' hb,wpAny_forIn_list _ (fun rest c s'=>c.1=none/\s'=⟨hp,g,d,tk,os⟩/\∃ (vs ws:List Value) (ns' ms':List Int),rest=vs.zip ws /\
   IntsAre vs ns'/\IntsAre ws ms'/\ns'.length+ys.size=ms'.length+xs.size/\R (.ok (.ret (.bool (!HT.lexLt ns' ms')))) ⟨hp,g,d,tk,os⟩) _
  case turn =>
   rintro⟨y,x⟩ rest c s' ⟨hc,rfl,vs,ws,ns',ms',hz,hv,hw,hl2,hR⟩;cases hv with
   | nil=>rw [List.zip_nil_left] at hz; cases hz
   | cons a t hv =>
    cases hw with
    | nil=>rw [List.zip_nil_right] at hz; cases hz
    | cons c' u hw =>
     rw [zip_cons_cons] at hz;obtain⟨hyx,hrest⟩:=List.cons.inj hz;obtain⟨rfl,rfl⟩:=Prod.mk.inj hyx;rw [HT.lexLt_cons] at hR;simp only [length_cons] at hl2;obtain⟨e,he,hiff⟩:=HT.eqAt_int A.in1 ⟨hp,g,d,tk,os⟩ a t c' u;refine wpAny_bind (he prog w _ _ ?_);cases e with
     | true =>
      rw [if_pos (hiff.mp rfl)] at hR
      wp_walk
      exact⟨rfl,rfl,_,_,_,_,hrest,hv,hw,by omega,hR⟩
     | false =>
      have ne:a≠c':=fun q=>absurd (hiff.mpr q) Bool.false_ne_true;rw [if_neg ne,show (!decide (a<c'))=decide (c'<=a) by rw [<- decide_not,decide_eq_decide]; omega] at hR;have hri:=zpR A.in1 ⟨hp,g,d,tk,os⟩ a t c' u prog w
      wp_walk using hri
      exact⟨_,rfl,by simpa using hR⟩
  case fin =>
   rintro⟨b1,b2⟩ s' ⟨hc,rfl,vs,ws,ns',ms',hz,hv,hw,hl2,hR⟩;simp only at hc;subst hc;rw [zl4 hz hv hw hl2] at hR
   wp_walk
   exact⟨_,rfl,by simpa [Builtin.Tuple.tupleCompareSizes] using hR⟩
  case h=>exact⟨rfl,rfl,xs.toList,ys.toList,ns,ms,rfl,hi,hj,by omega,h⟩
end
theorem zms{prog:Program}{w:World}{A:Around}{E:Value->Shared->Prop}{s:Shared}{l b:Addr}{xs ys:Array Value}{ns ms:List Int}{Q:Value->Shared->Prop}(hl:IsTup s.heap l xs)(hb:IsTup s.heap b ys)(hi:IntsAre xs.toList ns)(hj:IntsAre ys.toList ms)
  (hu:A.units<cLine) (h:Q (.bool (!HT.lexLt ns ms)) s):wpAny (model prog w) A (compareOp .GtE (.ref l) (.ref b)) Q E s:=by
 obtain⟨⟨cls,dd,data,sl⟩,ho,hc,n,hd⟩:=id hl;obtain⟨⟨cls2,dd2,data2,sl2⟩,ho2,hc2,n2,hd2⟩:=id hb;simp only at hc hd hc2 hd2;subst hc hd hc2 hd2;exact richCompare_meets_room (op:=.GtE) ⟨_,ho,rfl⟩ ⟨_,ho2,rfl⟩ PySem.F.slot_tuple_ge PySem.F.entry_tuple_ge (PySem.F.args_tuple_ge_2 _ _) (ziT l b xs ys n n2 dd dd2 sl sl2 ns ms hi hj)
  ⟨ho,ho2,show Value.bool (!HT.lexLt ns ms)≠Value.notImplemented/\Q (.bool (!HT.lexLt ns ms)) s from⟨(fun x=>nomatch x),h⟩⟩ hu
def zv5(K:W.Frag):R2:=fun x y H Q=>∃ a b ns ms,x=.ref a/\y=.ref b/\SqT K H a (ns.map V.int)/\SqT K H b (ms.map V.int)/\Q (.bl (!HT.lexLt ns ms)) H
theorem ztn{X:Cx}(hu:X.A.units+64<cLine):OpR X (compareOp .GtE) (zv5 X.K):=by
 intro zn s σ H x y v u Q I rx ry h;obtain⟨a,b,ns,ms,rfl,rfl,ha,hb,q⟩:=h;cases rx;cases ry;obtain⟨its,r1,p1,_⟩:=I.tuple ha;obtain⟨its2,r2,p2,_⟩:=I.tuple hb;exact zms p1 p2 (zaT r1) (zaT r2) (by omega) ⟨.bl (!HT.lexLt ns ms),H,I,rfl,q⟩
def zud:D2:=fun x y S R=>asT x fun ds=>asT y fun es=>∃ ns,ds=ns.map PyData.int/\∃ ms,es=ms.map PyData.int/\R (.d (.bool (!HT.lexLt ns ms))) S
theorem zui{K:W.Frag}:RO (zv5 K) zud:=fun h o H S x y v u R Q hs hx hy q c=>by
 replace q:=zem q;obtain⟨ds,rfl,q⟩:=q;replace q:=zem q;obtain⟨es,rfl,ns,rfl,ms,rfl,q⟩:=q;obtain⟨a,vs,rfl,ea,l1⟩:=zcQ hx;obtain⟨b,ws,rfl,eb,l2⟩:=zcQ hy;have e1:=zbo l1;have e2:=zbo l2;subst e1 e2;exact⟨a,b,ns,ms,rfl,rfl,.of ea,.of eb,c o H S _ _ Ex.refl hs (xB _) q⟩
end
end L2
namespace L2
open PySem PySem.Spec PySem.Calls PyProof.Rows
end L2
namespace L2
open PySem PySem.Spec PySem.Calls PyProof.Rows
def zub(j:Nat)(dk dv:DM->DE):DSm:=fun En δ S M=>zg j δ S fun y S1=>∃ a m,y=.o (.ref a)/\(a,DD.k m)∈M/\dk M δ S1 fun z S2=>dv M δ S2 fun x S3=>asD z fun k=>asD x fun d=>∃ kk,zoC k=some kk/\m.length<1000/\if (lkA m kk).isSome=true then En.nx δ S3 M else En.nx δ S3 (zr9 M a (.k (ptA m kk d)))
def zqn(k:Int)(e:DE):DE:=fun δ S R=>e δ S fun x S1=>asD x fun d=>R (.d (.dict [(.int k,d)])) S1
end L2
namespace L2
open PySem PySem.Spec PySem.Calls PyProof.Rows
end L2
namespace L2
open PySem PySem.Spec PyProof.Rows
end L2
namespace L2
theorem len0{α:Type}{l:List α}(h:l.length=0):l=[]:=eq_nil_of_length_eq_zero h
theorem len1{α:Type}{l:List α}(h:l.length=1):∃ a0,l=[a0]:=by
 cases l with
 | nil=>cases h
 | cons x r =>
  obtain rfl:=len0 (Nat.succ.inj h);exact⟨x,rfl⟩
theorem len2{α:Type}{l:List α}(h:l.length=2):∃ a0 a1,l=[a0,a1]:=by
 cases l with
 | nil=>cases h
 | cons x r =>
  obtain⟨a1,rfl⟩:=len1 (Nat.succ.inj h);exact⟨x,a1,rfl⟩
theorem len3{α:Type}{l:List α}(h:l.length=3):∃ a0 a1 a2,l=[a0,a1,a2]:=by
 cases l with
 | nil=>cases h
 | cons x r =>
  obtain⟨a1,a2,rfl⟩:=len2 (Nat.succ.inj h);exact⟨x,a1,a2,rfl⟩
theorem len4{α:Type}{l:List α}(h:l.length=4):∃ a0 a1 a2 a3,l=[a0,a1,a2,a3]:=by
 cases l with
 | nil=>cases h
 | cons x r =>
  obtain⟨a1,a2,a3,rfl⟩:=len3 (Nat.succ.inj h);exact⟨x,a1,a2,a3,rfl⟩
theorem len5{α:Type}{l:List α}(h:l.length=5):∃ a0 a1 a2 a3 a4,l=[a0,a1,a2,a3,a4]:=by
 cases l with
 | nil=>cases h
 | cons x r =>
  obtain⟨a1,a2,a3,a4,rfl⟩:=len4 (Nat.succ.inj h);exact⟨x,a1,a2,a3,a4,rfl⟩
theorem len6{α:Type}{l:List α}(h:l.length=6):∃ a0 a1 a2 a3 a4 a5,l=[a0,a1,a2,a3,a4,a5]:=by
 cases l with
 | nil=>cases h
 | cons x r =>
  obtain⟨a1,a2,a3,a4,a5,rfl⟩:=len5 (Nat.succ.inj h);exact⟨x,a1,a2,a3,a4,a5,rfl⟩
end L2
namespace L2
open PySem PySem.Spec PyProof.Rows
end L2
namespace L2
open PySem PySem.Spec PySem.Calls PyProof.Rows
open Sem (wp)
abbrev IsZipO (h:Heap) (z p r a:Addr) (f:Bool):Prop :=
 h.get? z=some { cls:=.type "zip",dict:=none,data:=.fields #[rawInt a,.bool f,.bool false,.ref p,.ref r],slots:=#[] }
section
variable {prog:Program} {w:World} {A:Around} {E:Value->Shared->Prop} {s:Shared}
theorem znB{t u:Bool}{z p r i j a b a0:Addr}{f:Bool}{oa:Obj}{k m:Nat}{xs ys:Array Value}{x y:Value}{Q:Value->Shared->Prop}(D:ZAp z p r i j a b)(hz:IsZipO s.heap z p r a0 f)(h0:s.heap.get? a0=some oa)(n0:a0≠z)(hp:IsPair s.heap p (.ref i) (.ref j))
  (hi:ItK t s.heap i a k) (hj:ItK u s.heap j b m) (ha:SqK t s.heap a xs) (hb:SqK u s.heap b ys) (hx:xs[k]? = some x) (hy:ys[m]? = some y)
  (hQ:∀ g,IsZipO g z p r a0 true->ItK t g i a (k+1)->ItK u g j b (m+1)->IsPair g s.heap.objs.size x y ->
   (∀ q o,q≠z->q≠i->q≠j->s.heap.get? q=some o->g.get? q=some o)->Q (.ref s.heap.objs.size) { s with heap:=g }) :
  wpAny (model prog w) A (Builtin.«zip.__next__» ⟨[.ref z],[]⟩) (fun fn s'=>∃ v,fn=.done (.ret v)/\Q v s') E s:=by
 obtain⟨h0',gs,dr,tk,os⟩:=s;show wpAny _ _ (field (.ref z) 2 >>= _) _ _ ⟨h0',gs,dr,tk,os⟩;refine wpAny_bind (wpAny_field hz rfl (x:=.bool false) rfl ?_);show wpAny _ _ (field (.ref z) 3 >>= _) _ _ ⟨h0',gs,dr,tk,os⟩;refine wpAny_bind (wpAny_field hz rfl (x:=.ref p) rfl (wpAny_bind (wpAny_seqItems hp rfl ?_)));show wpAny _ _ (Builtin.SmallTypes.ownedTupleIsFree (.ref z) >>= _) _ _ ⟨h0',gs,dr,tk,os⟩;refine wpAny_bind ?_;unfold Builtin.SmallTypes.ownedTupleIsFree;refine wpAny_bind (wpAny_field hz rfl (x:=rawInt a0) rfl ?_);show wpAny _ _ (loadIfAlive ((a0:Int).toNat) >>= _) _ _ _;rw [Int.toNat_natCast];refine wpAny_bind (W.kdx_alive h0 ?_);simp only [Option.isNone_some,Bool.false_eq_true,if_false];refine wpAny_bind (wpAny_field hz rfl (x:=.bool f) rfl ?_);have fin:∀ g1:Heap,IsZipO g1 z p r a0 true->Heap.SameBut z h0' g1->∀ {F:Value->Option PySem.Fin×Array Value->Sem (ForInStep (Option PySem.Fin×Array Value))} {G:Option PySem.Fin×Array Value->Sem PySem.Fin},
   (∀ (it:Value) (acc:Array Value) (R:ForInStep (Option PySem.Fin×Array Value)->Shared->Prop) (s1:Shared),wpAny (model prog w) A (Builtin.SmallTypes.nextOf it) (fun v s2=>R (.yield (none,acc.push v)) s2) E s1->wpAny (model prog w) A (F it (none,acc)) R E s1) ->
   (∀ acc,G (none,acc)=(newTuple acc.toList >>= fun v=>ret v)) ->
   wpAny (model prog w) A (forIn (#[.ref i,.ref j]:Array Value) (none,#[]) F >>= G) (fun fn s'=>∃ v,fn=.done (.ret v)/\Q v s') E ⟨g1,gs,dr,tk,os⟩:=fun g1 z1 b1 F G hF hG=>by
  refine wpAny_bind ?_;rw [show (#[.ref i,.ref j]:Array Value)=[.ref i,.ref j].toArray from rfl,List.forIn_toArray];simp only [forIn_cons,forIn_nil];refine wpAny_bind (hF _ _ _ _ ?_);refine zlY (s:=⟨g1,gs,dr,tk,os⟩) (hi.at fun o e=>b1.extBut i o D.iz e) (ha.at fun o e=>b1.extBut a o D.az e) hx fun g2 i2 b2=>?_;replace b2:Heap.SameBut i g1 g2:=b2;refine wpAny_bind (hF _ _ _ _ ?_);have k2:∀ q o,q≠z->q≠i->h0'.get? q=some o->g2.get? q=some o:=fun q o n1 n2 e=>b2.extBut q o n2 (b1.extBut q o n1 e);refine zlY (s:=⟨g2,gs,dr,tk,os⟩) (hj.at fun o e=>k2 j o D.jz (Ne.symm D.ij) e) (hb.at fun o e=>k2 b o D.bz D.bi e) hy fun g3 j3 b3=>?_;replace b3:Heap.SameBut j g2 g3:=b3;refine wpAny_pure ?_;rw [hG];refine wpAny_bind (wpAny_newTuple (wpAny_pure ⟨_,rfl,?_⟩) (by show 2<=sizeLine; decide));have sz:g3.objs.size=h0'.objs.size:=by rw [b3.1,b2.1,b1.1]
  have k3:∀ q o,q≠z->q≠i->q≠j->h0'.get? q=some o->g3.get? q=some o:=fun q o n1 n2 n3 e=>b3.extBut q o n3 (k2 q o n1 n2 e);have z3:IsZipO g3 z p r a0 true:=b3.extBut z _ (Ne.symm D.jz) (b2.extBut z _ (Ne.symm D.iz) z1);have i3:ItK t g3 i a (k+1):=ItK.at i2 fun o e=>b3.extBut i o D.ij e;show Q (.ref g3.objs.size) _;have nw:=get?_push_size g3 (o:={ cls:=.type "tuple",data:=.seq #[x,y] }) rfl;rw [sz] at nw ⊢;exact hQ (g3.push { cls:=.type "tuple",data:=.seq #[x,y] }) (get?_push_of_some _ z3) (i3.at fun o e=>get?_push_of_some _ e) (ItK.at j3 fun o e=>get?_push_of_some _ e) nw fun q o n1 n2 n3 e=>get?_push_of_some _ (k3 q o n1 n2 n3 e)
 have tail:∀ g1:Heap,IsZipO g1 z p r a0 true->Heap.SameBut z h0' g1->∀ {M:Sem PySem.Fin},(∃ F G,M=(forIn (#[.ref i,.ref j]:Array Value) (none,#[]) F >>= G) /\
   (∀ (it:Value) (acc:Array Value) (R:ForInStep (Option PySem.Fin×Array Value)->Shared->Prop) (s1:Shared),wpAny (model prog w) A (Builtin.SmallTypes.nextOf it) (fun v s2=>R (.yield (none,acc.push v)) s2) E s1->wpAny (model prog w) A (F it (none,acc)) R E s1) /\
   (∀ acc,G (none,acc)=(newTuple acc.toList >>= fun v=>ret v)))->wpAny (model prog w) A M (fun fn s'=>∃ v,fn=.done (.ret v)/\Q v s') E ⟨g1,gs,dr,tk,os⟩:=fun g1 z1 b1 M ⟨F,G,e,hF,hG⟩=>by
  rw [e]; exact fin g1 z1 b1 hF hG
 cases f with
 | true =>
  rw [if_neg (show ¬ ((Value.bool true != Value.bool true)=true) from Bool.false_ne_true)];refine wpAny_pure ?_;simp only [Bool.false_eq_true,if_false];refine tail h0' hz (Heap.SameBut.refl _ _) ⟨_,_,rfl,fun it acc R s1 h=>?_,fun acc=>rfl⟩;refine wpAny_bind (wpAny_holding ?_);show wpAny _ _ (Builtin.SmallTypes.nextOf it >>= _) _ _ _;exact wpAny_bind (wpAny_mono h (fun v s2 q=>wpAny_pure (wpAny_pure q)) fun _ _ z=>z)
 | false =>
  rw [if_pos (show (Value.bool false != Value.bool true)=true from rfl)];refine wpAny_bind (wpAny_setField_rec hz (by simp) fun g1 z1 b1=>?_);refine wpAny_pure ?_;simp only [Bool.false_eq_true,if_false];refine tail g1 z1 b1 ⟨_,_,rfl,fun it acc R s1 h=>?_,fun acc=>rfl⟩;refine wpAny_bind (wpAny_holding ?_);show wpAny _ _ (Builtin.SmallTypes.nextOf it >>= _) _ _ _;exact wpAny_bind (wpAny_mono h (fun v s2 q=>wpAny_pure (wpAny_pure q)) fun _ _ z=>z)
theorem zoz{t u:Bool}{z p r i j a b a0:Addr}{f:Bool}{oa:Obj}{k m:Nat}{xs ys:Array Value}{Q:PySem.Fin->Shared->Prop}(hh:A.handled=none)(D:ZAp z p r i j a b)(hz:IsZipO s.heap z p r a0 f)(h0:s.heap.get? a0=some oa)(hp:IsPair s.heap p (.ref i) (.ref j))
  (hi:ItK t s.heap i a k) (hj:ItK u s.heap j b m) (ha:SqK t s.heap a xs) (hb:SqK u s.heap b ys) (hend:xs[k]? = none\/ys[m]? = none)
  (hE:∀ g e,(∀ q o,q≠z->q≠i->q≠j->s.heap.get? q=some o->g.get? q=some o)->(∃ o,g.get? e=some o/\o.cls=.type "StopIteration")->E (.ref e) { s with heap:=g }) :
  wpAny (model prog w) A (Builtin.«zip.__next__» ⟨[.ref z],[]⟩) Q E s:=by
 obtain⟨h0',gs,dr,tk,os⟩:=s;show wpAny _ _ (field (.ref z) 2 >>= _) _ _ ⟨h0',gs,dr,tk,os⟩;refine wpAny_bind (wpAny_field hz rfl (x:=.bool false) rfl ?_);show wpAny _ _ (field (.ref z) 3 >>= _) _ _ ⟨h0',gs,dr,tk,os⟩;refine wpAny_bind (wpAny_field hz rfl (x:=.ref p) rfl (wpAny_bind (wpAny_seqItems hp rfl ?_)));show wpAny _ _ (Builtin.SmallTypes.ownedTupleIsFree (.ref z) >>= _) _ _ ⟨h0',gs,dr,tk,os⟩;refine wpAny_bind ?_;unfold Builtin.SmallTypes.ownedTupleIsFree;refine wpAny_bind (wpAny_field hz rfl (x:=rawInt a0) rfl ?_);show wpAny _ _ (loadIfAlive ((a0:Int).toNat) >>= _) _ _ _;rw [Int.toNat_natCast];refine wpAny_bind (W.kdx_alive h0 ?_);simp only [Option.isNone_some,Bool.false_eq_true,if_false];refine wpAny_bind (wpAny_field hz rfl (x:=.bool f) rfl ?_);have tail:∀ g1:Heap,IsZipO g1 z p r a0 true->Heap.SameBut z h0' g1->∀ {M:Sem PySem.Fin},(∃ (F:Value->Option PySem.Fin×Array Value->Sem (ForInStep (Option PySem.Fin×Array Value))) (G:Option PySem.Fin×Array Value->Sem PySem.Fin),M=(forIn (#[.ref i,.ref j]:Array Value) (none,#[]) F >>= G) /\
   (∀ (it:Value) (acc:Array Value) (R:ForInStep (Option PySem.Fin×Array Value)->Shared->Prop) (s1:Shared),wpAny (model prog w) A (Builtin.SmallTypes.nextOf it) (fun v s2=>R (.yield (none,acc.push v)) s2) E s1->wpAny (model prog w) A (F it (none,acc)) R E s1))->wpAny (model prog w) A M Q E ⟨g1,gs,dr,tk,os⟩:=fun g1 z1 b1 M ⟨F,G,e,hF⟩=>by
  rw [e];refine wpAny_bind ?_;rw [show (#[.ref i,.ref j]:Array Value)=[.ref i,.ref j].toArray from rfl,List.forIn_toArray];simp only [forIn_cons,forIn_nil];refine wpAny_bind (hF _ _ _ _ ?_);cases hx:xs[k]? with
  | none =>
   refine zfi (s:=⟨g1,gs,dr,tk,os⟩) hh (hi.at fun o e=>b1.extBut i o D.iz e) (ha.at fun o e=>b1.extBut a o D.az e) hx fun g2 e b2 he=>?_;exact hE g2 e (fun q o n1 n2 _ e=>b2 q o n2 (b1.extBut q o n1 e)) he
  | some x =>
   have hy:ys[m]? = none:=hend.elim (fun w=>by rw [hx] at w; cases w) id;refine zlY (s:=⟨g1,gs,dr,tk,os⟩) (hi.at fun o e=>b1.extBut i o D.iz e) (ha.at fun o e=>b1.extBut a o D.az e) hx fun g2 i2 b2=>?_;replace b2:Heap.SameBut i g1 g2:=b2;refine wpAny_bind (hF _ _ _ _ ?_);have k2:∀ q o,q≠z->q≠i->h0'.get? q=some o->g2.get? q=some o:=fun q o n1 n2 e=>b2.extBut q o n2 (b1.extBut q o n1 e);refine zfi (s:=⟨g2,gs,dr,tk,os⟩) hh (hj.at fun o e=>k2 j o D.jz (Ne.symm D.ij) e) (hb.at fun o e=>k2 b o D.bz D.bi e) hy fun g3 e b3 he=>?_;exact hE g3 e (fun q o n1 n2 n3 e=>b3 q o n3 (k2 q o n1 n2 e)) he
 cases f with
 | true =>
  rw [if_neg (show ¬ ((Value.bool true != Value.bool true)=true) from Bool.false_ne_true)];refine wpAny_pure ?_;simp only [Bool.false_eq_true,if_false];refine tail h0' hz (Heap.SameBut.refl _ _) ⟨_,_,rfl,fun it acc R s1 h=>?_⟩;refine wpAny_bind (wpAny_holding ?_);show wpAny _ _ (Builtin.SmallTypes.nextOf it >>= _) _ _ _;exact wpAny_bind (wpAny_mono h (fun v s2 q=>wpAny_pure (wpAny_pure q)) fun _ _ z=>z)
 | false =>
  rw [if_pos (show (Value.bool false != Value.bool true)=true from rfl)];refine wpAny_bind (wpAny_setField_rec hz (by simp) fun g1 z1 b1=>?_);refine wpAny_pure ?_;simp only [Bool.false_eq_true,if_false];refine tail g1 z1 b1 ⟨_,_,rfl,fun it acc R s1 h=>?_⟩;refine wpAny_bind (wpAny_holding ?_);show wpAny _ _ (Builtin.SmallTypes.nextOf it >>= _) _ _ _;exact wpAny_bind (wpAny_mono h (fun v s2 q=>wpAny_pure (wpAny_pure q)) fun _ _ z=>z)
structure ZS(h:Heap)(t u:Bool)(z p r i j a b:Addr)(xs ys:Array Value)(k:Nat):Prop where
 z:IsZip h z p r .none\/∃ a0 f oa,IsZipO h z p r a0 f/\h.get? a0=some oa/\a0≠z/\a0≠r/\a0≠i/\a0≠j
 p:IsPair h p (.ref i) (.ref j)
 r:∃ c d,IsPair h r c d
 i:ItK t h i a k
 j:ItK u h j b k
 a:SqK t h a xs
 b:SqK u h b ys
theorem ZS.ty{t u:Bool}{z p r i j a b:Addr}{xs ys:Array Value}{k:Nat}(Z:ZS s.heap t u z p r i j a b xs ys k):s.TypeIs (.ref z) "zip":=by
 rcases Z.z with q | ⟨_,_,_,q,_⟩
 ·exact⟨_,q,rfl⟩
 ·exact⟨_,q,rfl⟩
theorem ZS.keep{h h':Heap}{t u:Bool}{z p r i j a b:Addr}{xs ys:Array Value}{k:Nat}(Z:ZS h t u z p r i j a b xs ys k)(S:Addr)(hS:S≠z/\S≠p/\S≠r/\S≠i/\S≠j/\S≠a/\S≠b)(f:∀ q o,q≠S->h.get? q=some o->h'.get? q=some o)(f0:∀ o,h.get? S=some o->∃ o',h'.get? S=some o'):ZS h' t u z p r i j a b xs ys k:=by
 obtain⟨s1,s2,s3,s4,s5,s6,s7⟩:=hS;refine⟨?_,f _ _ s2.symm Z.p,let ⟨c,d,q⟩:=Z.r; ⟨c,d,f _ _ s3.symm q⟩,Z.i.at fun o e=>f _ _ s4.symm e,Z.j.at fun o e=>f _ _ s5.symm e,Z.a.at fun o e=>f _ _ s6.symm e,Z.b.at fun o e=>f _ _ s7.symm e⟩;rcases Z.z with q | ⟨a0,g,oa,q,e,n⟩
 ·exact .inl (f _ _ s1.symm q)
 ·by_cases w:a0=S
  ·obtain⟨o',e'⟩:=f0 oa (by rw [<- w]; exact e);exact .inr ⟨a0,g,o',f _ _ s1.symm q,by rw [w]; exact e',n⟩
  ·exact .inr ⟨a0,g,oa,f _ _ s1.symm q,f _ _ w e,n⟩
theorem zr7{t u:Bool}{z p r i j a b:Addr}{k:Nat}{xs ys:Array Value}{x y:Value}{Q:Option Value->Shared->Prop}(D:ZAp z p r i j a b)(Z:ZS s.heap t u z p r i j a b xs ys k)(hx:xs[k]? = some x)(hy:ys[k]? = some y)
  (hQ:∀ g,ZS g t u z p r i j a b xs ys (k+1)->IsPair g s.heap.objs.size x y->(∀ q o,q≠z->q≠r->q≠i->q≠j->s.heap.get? q=some o->g.get? q=some o)->Q (some (.ref s.heap.objs.size)) { s with heap:=g }) :
  wpAny (model prog w) A (pyNext (.ref z)) Q E s:=by
 obtain⟨c,d,hr⟩:=Z.r;obtain⟨oi,ei,_⟩:=Z.i.here;obtain⟨oj,ej,_⟩:=Z.j.here;obtain⟨oz,ez,_⟩:=Z.ty;have lt:∀ {q o},s.heap.get? q=some o->s.heap.objs.size≠q:=fun e=>ne_of_gt (lt_size e);have go:∀ g,(∃ a0 f oa,IsZipO g z p r a0 f/\g.get? a0=some oa/\a0≠z/\a0≠r/\a0≠i/\a0≠j)->(∃ c d,IsPair g r c d)->ItK t g i a (k+1)->ItK u g j b (k+1)->IsPair g s.heap.objs.size x y->(∀ q o,q≠z->q≠r->q≠i->q≠j->s.heap.get? q=some o->g.get? q=some o)->Q (some (.ref s.heap.objs.size)) { s with heap:=g }:=fun g q1 q2 q3 q4 q5 kk =>
  hQ g ⟨.inr q1,kk p _ D.pz D.pr D.pi D.pj Z.p,q2,q3,q4,Z.a.at fun o e=>kk a o D.az D.ar D.ai D.aj e,Z.b.at fun o e=>kk b o D.bz D.br D.bi D.bj e⟩ q5 kk
 unfold pyNext;refine wpAny_bind (wpAny_attempt (wpAny_callSpecial?_slot (name:=Str.ofString "__next__") Z.ty F.slot_zip_next (wpAny_call_entry F.slot_zip_next Z.ty F.entry_zip_next ?_ (F.args_zip_next_1 _))));rcases Z.z with q | ⟨a0,f,oa,q,e,n1,n2,n3,n4⟩
 ·refine zkb D q Z.p hr Z.i Z.j Z.a Z.b hx hy fun g a1 a2 a3 a4 a5 kk=>wpAny_pure ?_;exact go g ⟨_,false,_,a1,a5,lt q,lt hr,lt ei,lt ej⟩ ⟨_,_,a2⟩ a3 a4 a5 kk
 ·refine znB D q e n1 Z.p Z.i Z.j Z.a Z.b hx hy fun g a1 a3 a4 a5 kk=>wpAny_pure ?_;exact go g ⟨a0,true,oa,a1,kk a0 oa n1 n3 n4 e,n1,n2,n3,n4⟩ ⟨c,d,kk r _ D.rz D.ri D.rj hr⟩ a3 a4 a5 fun q o w1 _ w3 w4 e=>kk q o w1 w3 w4 e
theorem zrI{t u:Bool}{z p r i j a b:Addr}{k:Nat}{xs ys:Array Value}{Q:Option Value->Shared->Prop}(hh:A.handled=none)(D:ZAp z p r i j a b)(Z:ZS s.heap t u z p r i j a b xs ys k)(hend:xs[k]? = none\/ys[k]? = none)
  (hQ:∀ g,(∀ q o,q≠z->q≠r->q≠i->q≠j->s.heap.get? q=some o->g.get? q=some o)->Q none { s with heap:=g }) :
  wpAny (model prog w) A (pyNext (.ref z)) Q E s:=by
 obtain⟨c,d,hr⟩:=Z.r;unfold pyNext;refine wpAny_bind (wpAny_attempt (wpAny_callSpecial?_slot (name:=Str.ofString "__next__") Z.ty F.slot_zip_next (wpAny_call_entry F.slot_zip_next Z.ty F.entry_zip_next ?_ (F.args_zip_next_1 _))));rcases Z.z with q | ⟨a0,f,oa,q,e,n1,n2,n3,n4⟩
 ·refine zj9 hh D q Z.p hr Z.i Z.j Z.a Z.b hend fun g e kk he=>?_;obtain⟨o,ho,hc'⟩:=he;exact wpAny_bind (wpAny_isInstance (T:="StopIteration") (b:=true) ⟨o,ho,hc'⟩ isSubtype_stop (wpAny_pure (hQ g kk)))
 ·refine zoz hh D q e Z.p Z.i Z.j Z.a Z.b hend fun g e kk he=>?_;obtain⟨o,ho,hc'⟩:=he;exact wpAny_bind (wpAny_isInstance (T:="StopIteration") (b:=true) ⟨o,ho,hc'⟩ isSubtype_stop (wpAny_pure (hQ g fun q o w1 _ w3 w4 e=>kk q o w1 w3 w4 e)))
def ZPs(h:Heap)(xs ys:Array Value)(Ts:List Addr)(N0:Nat):Prop:=∀ (l:Nat) (T:Addr),Ts[l]? = some T->N0<=T/\∃ x y,xs[l]? = some x/\ys[l]? = some y/\IsPair h T x y
theorem zrR{R:Result->Shared->Prop}{t u:Bool}{z p r i j a b S:Addr}{xs ys:Array Value}{N0 n:Nat}(hh:A.handled=none)(D:ZAp z p r i j a b)(hS:S≠z/\S≠p/\S≠r/\S≠i/\S≠j/\S≠a/\S≠b)(hn:n=min xs.size ys.size)(hz:n<=sizeLine)
  (l1:z<N0) (l2:r<N0) (l3:i<N0) (l4:j<N0) (l5:S<N0) (res:Value) :
  ∀ (k m:Nat) (s:Shared) (Ts:List Addr) (c:Nat),n - m=k->m<=n->N0<=s.heap.objs.size->ZS s.heap t u z p r i j a b xs ys m->s.heap.get? S=some { cls:=.type "list",dict:=none,data:=.seq (Ts.map Value.ref).toArray c,slots:=#[] }->Ts.length=m->ZPs s.heap xs ys Ts N0->Ts.Nodup ->
  (∀ h' Ts' c',(∀ q o,q≠z->q≠r->q≠i->q≠j->q≠S->s.heap.get? q=some o->h'.get? q=some o)->h'.get? S=some { cls:=.type "list",dict:=none,data:=.seq (Ts'.map Value.ref).toArray c',slots:=#[] }->Ts'.length=n->ZPs h' xs ys Ts' N0->Ts'.Nodup->R (.ok (.ret res)) { s with heap:=h' }) ->
  codeAny (model prog w) A (.builtin "list.extend.loop" ⟨[.ref S,.ref z,res],[]⟩) R s:=by
 obtain⟨s1,s2,s3,s4,s5,s6,s7⟩:=id hS;have ap:∀ {T:Addr},N0<=T->T≠z/\T≠r/\T≠i/\T≠j/\T≠S:=fun {T} h=>⟨ne_of_gt (lt_of_lt_of_le l1 h),ne_of_gt (lt_of_lt_of_le l2 h),ne_of_gt (lt_of_lt_of_le l3 h),ne_of_gt (lt_of_lt_of_le l4 h),ne_of_gt (lt_of_lt_of_le l5 h)⟩;have zps:∀ {h h':Heap} {Ts:List Addr},ZPs h xs ys Ts N0->(∀ q o,q≠z->q≠r->q≠i->q≠j->q≠S->h.get? q=some o->h'.get? q=some o)->ZPs h' xs ys Ts N0:=fun {h h' Ts} Z f l T e=>by
  obtain⟨g,x,y,e1,e2,e3⟩:=Z l T e;obtain⟨w1,w2,w3,w4,w5⟩:=ap g;exact⟨g,x,y,e1,e2,f _ _ w1 w2 w3 w4 w5 e3⟩
 intro k;induction k with
 | zero =>
  intro m s Ts c hk hm hN Z hL hl hP hD hR;have e:m=n:=by omega
  refine codeAny_builtin F.entry_extend_loop ?_;rw [Around.under_plainId F.plain_extend_loop _];show wpAny _ A.in1 (pyNext (.ref z) >>= _) _ _ s;refine wpAny_bind (zrI (A:=A.in1) hh D Z ?_ fun g kk=>?_)
  ·rcases Nat.le_total xs.size ys.size with w | w
   ·exact .inl (by simp; omega)
   ·exact .inr (by simp; omega)
  ·exact wpAny_pure (hR g Ts c (fun q o w1 w2 w3 w4 _ e=>kk q o w1 w2 w3 w4 e) (kk S _ s1 s3 s4 s5 hL) (by omega) (zps hP fun q o w1 w2 w3 w4 _ e=>kk q o w1 w2 w3 w4 e) hD)
 | succ k ih =>
  intro m s Ts c hk hm hN Z hL hl hP hD hR;have hx:xs[m]? = some xs[m]:=Array.getElem?_eq_getElem (by omega);have hy:ys[m]? = some ys[m]:=Array.getElem?_eq_getElem (by omega);refine codeAny_builtin F.entry_extend_loop ?_;rw [Around.under_plainId F.plain_extend_loop _];show wpAny _ A.in1 (pyNext (.ref z) >>= _) _ _ s;refine wpAny_bind (zr7 (A:=A.in1) D Z hx hy fun g Z' pT kk=>?_);have hL':=kk S _ s1 s3 s4 s5 hL;show wpAny _ A.in1 (updateSeq S (·.push (.ref s.heap.objs.size)) >>= _) _ _ _;refine wpAny_bind ?_;have oth:∀ q o,q≠S->g.get? q=some o->(g.update S (Obj.mapSeq (·.push (.ref s.heap.objs.size)))).get? q=some o:=fun q o w e=>(get?_update_other _ _ (Ne.symm w)).trans e;have up:=get?_update_self (Obj.mapSeq (·.push (Value.ref s.heap.objs.size))) hL' rfl;have ea:(Ts.map Value.ref).toArray.push (Value.ref s.heap.objs.size)=((Ts++[s.heap.objs.size]).map Value.ref).toArray:=by simp
  obtain⟨c2,hL2⟩:∃ c2,(g.update S (Obj.mapSeq (·.push (.ref s.heap.objs.size)))).get? S=some { cls:=.type "list",dict:=none,data:=.seq ((Ts++[s.heap.objs.size]).map Value.ref).toArray c2,slots:=#[] }:=by
   rw [<- ea];exact⟨_,up⟩
  have gsz:s.heap.objs.size<=g.objs.size:=le_of_lt (lt_size pT);refine wpAny_updateSeq hL' rfl (wpAny_pure ⟨plainId_quiet F.plain_extend_loop _,ih (m+1) { s with heap:=g.update S (Obj.mapSeq (·.push (.ref s.heap.objs.size))) } (Ts++[s.heap.objs.size]) c2 (by omega) (by omega) ?_ (Z'.keep S hS (fun q o w e=>oth q o w e) fun o e=>⟨_,up⟩) hL2 (by simp [hl]) (fun l T e=>?_) (zcD hD fun hm=>?_) fun h' Ts' c' f1 f2 f3 f4 f5=>?_⟩)
   (by simp [hl]; omega) (by simp [hl]; omega)
  ·show N0<=(g.update S _).objs.size;rw [size_update];omega
  ·rcases Nat.lt_or_ge l Ts.length with w | w
   ·rw [getElem?_append_left w] at e;obtain⟨g1,x,y,e1,e2,e3⟩:=hP l T e;obtain⟨w1,w2,w3,w4,w5⟩:=ap g1;exact⟨g1,x,y,e1,e2,oth _ _ w5 (kk _ _ w1 w2 w3 w4 e3)⟩
   ·rw [getElem?_append_right w] at e;have w2:l - Ts.length=0:=by
     rcases Nat.eq_zero_or_pos (l - Ts.length) with w | w
     ·exact w
     ·rw [List.getElem?_eq_none (by simp; omega)] at e; cases e
    have el:l=m:=by omega
    rw [w2] at e;have eT:s.heap.objs.size=T:=by simpa using e
    subst eT;subst el;exact⟨hN,_,_,hx,hy,oth _ _ (ap hN).2.2.2.2 pT⟩
  ·obtain⟨l,e⟩:=List.getElem?_of_mem hm;obtain⟨_,_,_,_,_,e3⟩:=hP l _ e;exact absurd (lt_size e3) (lt_irrefl _)
  ·exact hR h' Ts' c' (fun q o w1 w2 w3 w4 w5 e=>f1 q o w1 w2 w3 w4 w5 (oth q o w5 (kk q o w1 w2 w3 w4 e))) f2 f3 f4 f5
theorem zpU{z:Addr}{Q:Bool->Shared->Prop}(hT:s.TypeIs (.ref z) "zip")(h:Q true s):wpAny (model prog w) A (Builtin.List.listLengthHint (.ref z)) Q E s:=by
 unfold Builtin.List.listLengthHint;refine wpAny_bind (wpAny_specialOf hT (r:=none) (by rw [typeLookup_type,builtinLookup_eq_fast]; kernel_rfl) ?_);refine wpAny_ite_split (fun hab=>absurd hab dz) (fun _=>?_);refine wpAny_ite_split (fun hab=>absurd hab dz) (fun _=>?_);refine wpAny_bind (wpAny_specialOf hT (r:=none) (by rw [typeLookup_type,builtinLookup_eq_fast]; kernel_rfl) ?_);exact wpAny_pure h
theorem ziR{t u:Bool}{z p r i j a b:Addr}{xs ys:Array Value}{n:Nat}{Q:Value->Shared->Prop}(hh:A.handled=none)(D:ZAp z p r i j a b)(hn:n=min xs.size ys.size)(hz:n<=sizeLine)(Z:ZS s.heap t u z p r i j a b xs ys 0)
  (hQ:∀ h' Ts c',(∀ q o,q≠z->q≠r->q≠i->q≠j->s.heap.get? q=some o->h'.get? q=some o)->h'.get? s.heap.objs.size=some { cls:=.type "list",dict:=none,data:=.seq (Ts.map Value.ref).toArray c',slots:=#[] }->Ts.length=n->ZPs h' xs ys Ts (s.heap.objs.size+1)->Ts.Nodup->Q (.ref s.heap.objs.size) { s with heap:=h' }) :
  wpAny (model prog w) A (call (.type "list") [.ref z]) Q E s:=by
 refine callType_codes (Q₁:=fun obj s₁=>obj=.ref s.heap.objs.size/\s₁ = { s with heap:=s.heap.push { cls:=.type "list",data:=.seq #[] } }) PySem.F.called_list (PySem.F.typeCall_list_1 _) PySem.F.entry_list_init
  (code_list_new _ ⟨rfl,rfl⟩) fun obj s₁ h₁=>?_
 obtain⟨rfl,rfl⟩:=h₁;have hS:(s.heap.push { cls:=.type "list",data:=.seq #[] }).get? s.heap.objs.size=some { cls:=.type "list",data:=.seq #[] }:=get?_push_size _ rfl;obtain⟨oi,ei,_⟩:=Z.i.here;obtain⟨oj,ej,_⟩:=Z.j.here;obtain⟨oz,ez,_⟩:=Z.ty;obtain⟨oa,ea⟩:=Z.a.here;obtain⟨ob,eb⟩:=Z.b.here;obtain⟨cr,dr,er⟩:=Z.r;have lt:∀ {q o},s.heap.get? q=some o->s.heap.objs.size≠q:=fun e=>ne_of_gt (lt_size e);have hSs:s.heap.objs.size≠z/\s.heap.objs.size≠p/\s.heap.objs.size≠r/\s.heap.objs.size≠i/\s.heap.objs.size≠j/\s.heap.objs.size≠a/\s.heap.objs.size≠b:=⟨lt ez,lt Z.p,lt er,lt ei,lt ej,lt ea,lt eb⟩;refine⟨⟨_,hS,rfl⟩,PySem.F.args_list_init_2 _ _,?_⟩;have Z1:ZS (s.heap.push { cls:=.type "list",data:=.seq #[] }) t u z p r i j a b xs ys 0:=Z.keep s.heap.objs.size hSs (fun q o _ e=>get?_push_of_some _ e) fun o e=>⟨o,get?_push_of_some _ e⟩;show wpAny _ _ (do let old <- Builtin.List.listItems (.ref s.heap.objs.size); Builtin.List.listUpdate (.ref s.heap.objs.size) (fun _=>#[]); letGo old.toList.reverse; Builtin.List.listExtendWith (.ref s.heap.objs.size) (.ref z) .none) _ _ _;refine wpAny_bind ?_;unfold Builtin.List.listItems;refine wpAny_bind (wpAny_seqItems hS rfl (wpAny_pure ?_));show wpAny _ _ (updateSeq s.heap.objs.size (fun _=>#[]) >>= fun _=>letGo (#[]:Array Value).toList.reverse >>= fun _=>Builtin.List.listExtendWith (.ref s.heap.objs.size) (.ref z) .none) _ _ _;refine wpAny_bind (wpAny_updateSeq hS rfl ?_);have hS₂:=get?_update_self (Obj.mapSeq (fun _=>(#[]:Array Value))) hS rfl;generalize hg:(s.heap.push { cls:=.type "list",data:=.seq #[] }).update s.heap.objs.size (Obj.mapSeq (fun _=>(#[]:Array Value)))=g2 at hS₂ ⊢;have oth:∀ b o,b≠s.heap.objs.size->(s.heap.push { cls:=.type "list",data:=.seq #[] }).get? b=some o->g2.get? b=some o :=
  fun b o hb e=>by rw [<- hg]; exact(get?_update_other _ _ (Ne.symm hb)).trans e
 have sz2:g2.objs.size=s.heap.objs.size+1:=by rw [<- hg,size_update,size_push]
 have Z2:ZS g2 t u z p r i j a b xs ys 0:=Z1.keep s.heap.objs.size hSs (fun q o w e=>oth q o w e) fun o e=>⟨_,hS₂⟩;refine wpAny_bind (wpAny_letGo ?_);unfold Builtin.List.listExtendWith;refine wpAny_bind (wpAny_typeOf (T:="zip") Z2.ty ?_);have h1:Builtin.List.listSameRef (.ref s.heap.objs.size) (.ref z)=false:=by simp [Builtin.List.listSameRef,hSs.1]
 simp only [h1,show (Value.type "zip" == Value.type "list")=false from by decide,show (Value.type "zip" == Value.type "tuple")=false from by decide,Bool.or_false,Bool.false_eq_true,if_false];have fin:∀ (g3:Heap) (c:Nat),ZS g3 t u z p r i j a b xs ys 0->(∀ q o,q≠s.heap.objs.size->g2.get? q=some o->g3.get? q=some o)->g3.objs.size=s.heap.objs.size+1->g3.get? s.heap.objs.size=some { cls:=.type "list",dict:=none,data:=.seq #[] c,slots:=#[] } ->
   codeAny (model prog w) A.in1 (.builtin "list.extend.loop" ⟨[.ref s.heap.objs.size,.ref z,.none],[]⟩) (wants (fun r s₂=>r=Value.none/\Q (Value.ref s.heap.objs.size) s₂) E) { s with heap:=g3 }:=fun g3 c Z3 k3 s3 e3=>by
  refine zrR (A:=A.in1) (N0:=s.heap.objs.size+1) hh D hSs hn hz (lt_succ_of_lt (lt_size ez)) (lt_succ_of_lt (lt_size er)) (lt_succ_of_lt (lt_size ei)) (lt_succ_of_lt (lt_size ej)) (Nat.lt_succ_self _) .none (n - 0) 0 { s with heap:=g3 } [] c rfl (zero_le _) (le_of_eq s3.symm) Z3 (by simpa using e3) rfl (fun l T e=>by simp at e) nodup_nil fun h' Ts c' f1 f2 f3 f4 f5=>⟨rfl,hQ h' Ts c' (fun q o w1 w2 w3 w4 e=>?_) f2 f3 f4 f5⟩;have w5:q≠s.heap.objs.size:=ne_of_lt (lt_size e);exact f1 q o w1 w2 w3 w4 w5 (k3 q o w5 (oth q o w5 (get?_push_of_some _ e)))
 have it:∀ {Q':Value->Shared->Prop} {E':Value->Shared->Prop} {A':Around},Q' (.ref z) { s with heap:=g2 }->wpAny (model prog w) A' (pyIter (.ref z)) Q' E' { s with heap:=g2 }:=fun {Q' E' A'} h=>by
  have hT:Shared.TypeIs { s with heap:=g2 } (.ref z) "zip":=Z2.ty;refine wpAny_pyIter_slot hT F.slot_zip_iter (wpAny_call_entry F.slot_zip_iter hT F.entry_zip_iter ?_ (F.args_zip_iter_1 _));show wpAny _ _ (ret (.ref z)) _ _ _;exact wpAny_pure ⟨_,rfl,"zip",_,hT,F.slot_zip_next.lookup,h⟩
 refine wpAny_bind (it (wpAny_bind (wpAny_holding (zpU Z2.ty ?_))));simp only [Bool.true_or,if_true];refine wpAny_bind (wpAny_rule (wpAny_bind ?_));show wpAny _ _ (updateSeq s.heap.objs.size (·.push .none) >>= fun _=>updateSeq s.heap.objs.size (·.pop)) _ _ _;refine wpAny_bind (wpAny_updateSeq hS₂ rfl ?_);have hS₃:=get?_update_self (Obj.mapSeq (·.push Value.none)) hS₂ rfl;refine wpAny_updateSeq (hz:=by seq_fits) hS₃ rfl ?_;have hS₄:=get?_update_self (Obj.mapSeq (·.pop)) hS₃ rfl;have o4:∀ q o,q≠s.heap.objs.size->g2.get? q=some o->((g2.update s.heap.objs.size (Obj.mapSeq (·.push Value.none))).update s.heap.objs.size (Obj.mapSeq (·.pop))).get? q=some o:=fun q o w e=>(get?_update_other _ _ (Ne.symm w)).trans ((get?_update_other _ _ (Ne.symm w)).trans e);refine wpAny_pure ⟨plainId_quiet PySem.F.plain_extend_loop _,fin _ _ (Z2.keep s.heap.objs.size hSs o4 fun o e=>⟨_,hS₄⟩) o4 (by rw [size_update,size_update,sz2]) hS₄⟩
end
def zuI(K:W.Frag)(ta:TA):TE:=fun σ H Q=>ta σ H fun vs H1=>∃ a b t u xs ys,vs=[.ref a,.ref b]/\SqV K t H1 a xs/\SqV K u H1 b ys/\min xs.length ys.length<=1000 /\
 ∀ (l:Addr) (H2:Hp) (Ts:List Addr),Same H1 H2->H1 l=none->(∀ T∈Ts,H1 T=none)->H2 l=some (.lst (Ts.map V.ref))->Ts.length=min xs.length ys.length->(∀ (m:Nat) (T:Addr),Ts[m]? = some T->∃ x y,xs[m]? = some x/\ys[m]? = some y/\H2 T=some (.tup [x,y]))->Q (.ref l) H2
theorem zhU:∀ (Ts:List Addr),Vals (Ts.map V.ref) (Ts.map Value.ref)
 | []=>.nil
 | T :: r=>.cons rfl (zhU r)
theorem zqp{α:Type}:∀ {zs:List (Addr×α)} {b:Addr} {w:α},zs.lookup b=some w->(b,w)∈zs
 | [],_,_,e=>by cases e
 | (c,v) :: r,b,w,e=>by
  rw [lookup_cons] at e;by_cases hb:b=c
  ·subst hb;simp at e;subst e;exact mem_cons_self
  ·rw [show (b == c)=false from by simpa using hb] at e;exact mem_cons_of_mem _ (zqp e)
theorem zuK{α:Type}:∀ {Ts:List Addr} {ws:List α} {m:Nat} {T:Addr} {w:α},Ts.Nodup->Ts[m]? = some T->ws[m]? = some w->(Ts.zip ws).lookup T=some w
 | [],_,_,_,_,_,e,_=>by simp at e
 | _ :: _,[],_,_,_,_,_,e=>by simp at e
 | T0 :: Ts,w0 :: ws,0,T,w,_,e1,e2=>by
  simp at e1 e2;subst e1 e2;simp [lookup_cons]
 | T0 :: Ts,w0 :: ws,m+1,T,w,nd,e1,e2=>by
  rw [nodup_cons] at nd;have e1':Ts[m]? = some T:=by simpa using e1
  have ne:T≠T0:=fun z=>nd.1 (by rw [<- z]; exact mem_of_getElem? e1');rw [zip_cons_cons,lookup_cons,show (T == T0)=false from by simpa using ne];exact zuK nd.2 e1' (by simpa using e2)
theorem zsf{X:Cx}{a b:Expr}{ta:TA}{p p' pos pos':Pos}(hc:X.calm=true)(hgl:Gl X "list")(hml:X.mg "list" = none)(hg:Gl X "zip")(hm:X.mg "zip" = none)(ha:PA X [a,b] ta)
  (hs:starEach [a,b] X.env=[(false,eval a X.env),(false,eval b X.env)]:=by rfl) (hs2:starEach [b] X.env=[(false,eval b X.env)]:=by rfl)
  (hs3:starEach [.Call (.Name "zip" p) [a,b] [] pos] X.env=[(false,eval (.Call (.Name "zip" p) [a,b] [] pos) X.env)]:=by rfl) :
  PE X (.Call (.Name "list" p') [.Call (.Name "zip" p) [a,b] [] pos] [] pos') (zuI X.K ta):=by
 intro zn s σ H Q I h;refine wpAny_Call_Name_kw (zcR I hgl hml zfz ?_ dz dz);refine PyProof.Rows.callWith_type1 ?_ (by rw [hs3]; rfl) rfl;rw [hs3];show wpAny _ _ (spliced ((false,eval (.Call (.Name "zip" p) [a,b] [] pos) X.env) :: [])) _ _ s;refine Calls.spliced_cons (Call_ (zcR I hg hm zlj (PyProof.Rows.callWith_type1 (thn (ha pos zn s σ H _ I h) fun us s1 ⟨vs,H1,I1,r1,q1⟩=>?_) (by rw [hs,hs2]) (by rw [hs2]; rfl))));obtain⟨a1,b1,t,u,xs,ys,e,q1,q2,hl,q⟩:=q1;subst e;cases r1 with
 | cons r rr =>
  cases rr with
  | cons r' rr =>
   cases rr;cases r;cases r';obtain⟨its,rv,sq,_⟩:=I1.seqK q1;obtain⟨its2,rv2,sq2,_⟩:=I1.seqK q2;have l1:=rv.length;have l2:=rv2.length;obtain⟨oa,ea⟩:=sq.here;obtain⟨ob,eb⟩:=sq2.here;refine zjr sq sq2 fun g z1 z2 z3 z4 z5 kk=>Calls.spliced_nil ?_;have D:=zrh s1.heap.objs.size a1 b1 (lt_size ea) (lt_size eb);have I2:=I1.kept (h':=g) (t':=s1.toks) kk;have Z:ZS g t u (s1.heap.objs.size+4) (s1.heap.objs.size+2) (s1.heap.objs.size+3) s1.heap.objs.size (s1.heap.objs.size+1) a1 b1 its.toArray its2.toArray 0:=⟨.inl z1,z2,⟨_,_,z3⟩,z4,z5,sq.at fun o e=>kk _ _ e,sq2.at fun o e=>kk _ _ e⟩;have gsz:s1.heap.objs.size+4<g.objs.size:=lt_size z1;refine ziR (s:={ s1 with heap:=g }) (n:=min its.length its2.length) (I2.ok.hd hc) D (by simp) (by rw [<- l1,<- l2,sizeLine_eq]; omega) Z fun h' Ts c' f1 f2 f3 f4 f5=>?_
   have k2:∀ q o,s1.heap.get? q=some o->h'.get? q=some o:=fun q o e=>by
    have w:=lt_size e;exact f1 q o (ne_of_lt (lt_of_lt_of_le w (le_add_right _ _))) (ne_of_lt (lt_of_lt_of_le w (le_add_right _ _))) (ne_of_lt w) (ne_of_lt (lt_of_lt_of_le w (le_add_right _ _))) (kk q o e)
   let zs:List (Addr×HO):=Ts.zip ((xs.zip ys).map fun q=>HO.tup [q.1,q.2])
   let H2:Hp:=fun b=>if b=g.objs.size then some (.lst (Ts.map V.ref)) else (zs.lookup b).or (H1 b)
   have fr:∀ b,s1.heap.objs.size<=b->H1 b=none:=fun b w=>I1.hok.fresh w;have lk:∀ b w,zs.lookup b=some w->∃ m,Ts[m]? = some b/\∃ x y,xs[m]? = some x/\ys[m]? = some y/\w=.tup [x,y]:=fun b w e=>by
    have mm:=zqp e;obtain⟨m,em⟩:=List.getElem?_of_mem mm;rw [getElem?_zip_eq_some] at em;obtain⟨e1,e2⟩:=em;rw [getElem?_map] at e2;cases e3:(xs.zip ys)[m]? with
    | none=>rw [e3] at e2; cases e2
    | some pr =>
     rw [e3] at e2;obtain⟨e4,e5⟩:=getElem?_zip_eq_some.mp e3;exact⟨m,e1,_,_,e4,e5,(Option.some.inj e2).symm⟩
   have bT:∀ m T,Ts[m]? = some T->g.objs.size+1<=T:=fun m T e=>(f4 m T e).1;have f4':=f4;have lg:s1.heap.objs.size<=g.objs.size:=le_trans (le_add_right _ 4) (le_of_lt gsz);have bN:∀ m T,Ts[m]? = some T->s1.heap.objs.size<=T/\T≠g.objs.size:=fun m T e=>⟨le_trans lg (le_trans (le_succ _) (bT m T e)),ne_of_gt (bT m T e)⟩;have h2l:H2 g.objs.size=some (.lst (Ts.map V.ref)):=if_pos rfl;have h2T:∀ m T,Ts[m]? = some T->∃ x y,xs[m]? = some x/\ys[m]? = some y/\H2 T=some (.tup [x,y]):=fun m T e=>by
    obtain⟨_,v1,v2,e1,e2,_⟩:=f4 m T e;have m1:m<xs.length:=by
     have:=(Array.getElem?_eq_some_iff.mp e1).1;rw [l1]; simpa using this
    have m2:m<ys.length:=by
     have:=(Array.getElem?_eq_some_iff.mp e2).1;rw [l2]; simpa using this
    have ex:=getElem?_eq_getElem m1;have ey:=getElem?_eq_getElem m2;refine⟨_,_,ex,ey,?_⟩;show (if T=g.objs.size then _ else (zs.lookup T).or (H1 T))=_;rw [if_neg (bN m T e).2,zuK (ws:=(xs.zip ys).map fun q=>HO.tup [q.1,q.2]) (w:=HO.tup [xs[m],ys[m]]) f5 e (by rw [getElem?_map,(getElem?_zip_eq_some (z:=(xs[m],ys[m]))).mpr ⟨ex,ey⟩]; rfl)];rfl
   have I3:Inv X zn σ H2 { s1 with heap:=h' }:=by
    refine I1.laidAll (t':=s1.toks) k2 (fun b o e=>?_) fun b o e=>?_
    ·have w:=I1.hok.lt e;show (if b=g.objs.size then _ else (zs.lookup b).or (H1 b))=_;rw [if_neg (ne_of_lt (lt_of_lt_of_le w lg))];cases z:zs.lookup b with
     | none=>exact e
     | some v =>
      obtain⟨m,em,_⟩:=lk b v z;exact absurd (lt_of_lt_of_le w (bN m b em).1) (lt_irrefl _)
    ·by_cases hb:b=g.objs.size
     ·subst hb;rw [h2l] at e;cases e;refine .inr ⟨lg,by rw [length_map,f3,<- l1,<- l2,sizeLine_eq]; omega,Ts.map Value.ref,c',zhU Ts,f2⟩
     ·have e':(zs.lookup b).or (H1 b)=some o:=by rw [<- e]; exact(if_neg hb).symm
      cases z:zs.lookup b with
      | none=>rw [z] at e'; exact .inl e'
      | some v =>
       rw [z] at e';cases (show some v=some o from e');obtain⟨m,em,x,y,ex,ey,rfl⟩:=lk b o z;obtain⟨_,v1,v2,e1,e2,pT⟩:=f4 m b em;obtain⟨w1,e3,r1⟩:=rv.get ex;obtain⟨w2,e4,r2⟩:=rv2.get ey;have e1':its[m]? = some v1:=by simpa using e1
       have e2':its2[m]? = some v2:=by simpa using e2
       rw [e3] at e1';rw [e4] at e2';cases e1';cases e2';exact .inr ⟨(bN m b em).1,⟨by show 2<=sizeLine; decide,_,pT,rfl⟩,[v1,v2],.cons r1 (.cons r2 .nil),⟨_,pT,rfl,_,rfl⟩⟩
   refine⟨.ref g.objs.size,H2,I3,rfl,q g.objs.size H2 Ts (fun b o e=>?_) (fr _ lg) (fun T mT=>?_) h2l (by rw [f3,<- l1,<- l2]) h2T⟩
   ·have w:=I1.hok.lt e;show (if b=g.objs.size then _ else (zs.lookup b).or (H1 b))=_;rw [if_neg (ne_of_lt (lt_of_lt_of_le w lg))];cases z:zs.lookup b with
    | none=>exact e
    | some v =>
     obtain⟨m,em,_⟩:=lk b v z;exact absurd (lt_of_lt_of_le w (bN m b em).1) (lt_irrefl _)
   ·obtain⟨m,em⟩:=List.getElem?_of_mem mT;exact fr _ (bN m T em).1
def zpz(a:DA):DE:=fun δ S R=>a δ S fun xs S1=>arg2 xs fun x y=>∃ ds,zmk x=some ds/\∃ es,zmk y=some es/\min ds.length es.length<=1000/\R (.d (.list (zhI ds es))) S1
theorem zlB{H H':Hp}(gr:Same H H'):∀ {ds es:List PyData} {xs ys:List V} {Ts:List Addr},HasL H ds xs->HasL H es ys->Ts.length=min xs.length ys.length->(∀ (m:Nat) (T:Addr),Ts[m]? = some T->∃ x y,xs[m]? = some x/\ys[m]? = some y/\H' T=some (.tup [x,y]))->HasL H' (zhI ds es) (Ts.map V.ref)
 | [],es,xs,ys,Ts,h1,h2,hl,_=>by
  have e:=zH.mp h1;subst e;have:Ts=[]:=eq_nil_of_length_eq_zero (by simpa using hl);subst this;exact zH.mpr rfl
 | d :: ds,[],xs,ys,Ts,h1,h2,hl,_=>by
  have e:=zH.mp h2;subst e;have:Ts=[]:=eq_nil_of_length_eq_zero (by simpa using hl);subst this;exact zH.mpr rfl
 | d :: ds,e :: es,xs,ys,Ts,h1,h2,hl,hT=>by
  obtain⟨v,r,rfl,q1,l1⟩:=zC.mp h1;obtain⟨u,r2,rfl,q2,l2⟩:=zC.mp h2;cases Ts with
  | nil=>simp at hl
  | cons T Ts =>
   obtain⟨x,y,e1,e2,e3⟩:=hT 0 T rfl;cases e1;cases e2;refine zC.mpr ⟨_,_,rfl,zaP.mpr ⟨T,_,rfl,e3,zC.mpr ⟨_,_,rfl,Has.mono gr _ _ q1,zC.mpr ⟨_,_,rfl,Has.mono gr _ _ q2,zH.mpr rfl⟩⟩⟩,?_⟩;exact zlB gr l1 l2 (by simp only [length_cons] at hl; omega) fun m T' eT=>by
    obtain⟨x,y,e1,e2,e3⟩:=hT (m+1) T' (by simpa using eT);exact⟨x,y,by simpa using e1,by simpa using e2,e3⟩
theorem zrU{K:W.Frag}{ta:TA}{da:DA}(ha:RA ta da):RE (zuI K ta) (zpz da):=fun h o H δ σ S R Q he hs q c =>
 ha h o H δ σ S _ _ he hs q fun o1 H1 S1 xs vs e1 s1 x1 d0=>by
  obtain⟨x,y,rfl,ds,e2,es,e3,hl,d2⟩:=ziI d0;obtain⟨v,u,rfl,hv,hu⟩:=hxs2 x1;obtain⟨t,a,ws,rfl,l,k1⟩:=zgp (K:=K) e2 hv;obtain⟨t',b,zs,rfl,l',k2⟩:=zgp (K:=K) e3 hu;have g1:=l.length;have g2:=l'.length;refine⟨a,b,t,t',ws,zs,rfl,k1 ExH.refl,k2 ExH.refl,by omega,fun l0 H2 Ts gr f1 f2 f3 f4 f5=>?_⟩;have v1:∀ b u,H1 b=none->H2 b=some u->vx h o1 H2 b=some u:=fun b u n e=>by
   obtain⟨z1,z2⟩:=s1.fresh n;exact zan.mpr ⟨z1,z2,e⟩
  exact c o1 H2 S1 (.d (.list (zhI ds es))) _ (e1.trans (Ex.of_same gr)) (s1.same gr) (za5.mpr ⟨l0,_,rfl,v1 l0 _ f1 f3,zlB (zeG gr) l l' f4 fun m T e=>by
   obtain⟨x,y,q1,q2,q3⟩:=f5 m T e;exact⟨x,y,q1,q2,v1 T _ (f2 T (mem_of_getElem? e)) q3⟩⟩) d2
end L2
namespace L2
open PySem PySem.Spec PyProof.Rows
section
section
variable {Φ:Phi} [Stb Φ] {ta tb te:TE} {da db de:DE}
theorem zlW{caps:List (Option Nat)}{wi:TI}{g:TG}{tt:TT}{te:TE}{di:DI}{dg:DG}{dtt:DT}{dte:DE}(hi:RIp Φ wi di)(hg:RG g dg)(ht:RTp Φ tt dtt)(he':REp Φ te dte)
  {h o:List Addr} {H:Hp} {δ:XE} {σ:St} {S:Sto} {Q:VK} {fin:Nat->Sto->Prop} (w:Φ h o H) (he:RepE h o H δ σ) (hs:RepS h o H S) (q:di δ S fun ds S1=>zeP S1.length dg dtt dte (fin S1.length) ds (zo1 caps δ) (S1++[[]]))
  (c:∀ o1 H1 D o2 H2 S2,Ex o H o1 H1->H1 D=none->Ex (o1++[D]) (upd H1 D (.lst [])) o2 H2->RepS h o2 H2 S2->fin o1.length S2->Q (.ref D) H2):zkK caps wi g tt te σ H Q:=by
 refine hi h o H δ σ S _ _ he hs q (fun o1 H1 S1 ds J e1 s1 wk d1 D hD=>?_) w;have eN:Ex o1 H1 (o1++[D]) (upd H1 D (.lst [])):=Ex.new s1 hD;have sN:RepS h (o1++[D]) (upd H1 D (.lst [])) (S1++[[]]):=s1.new hD (zH.mpr rfl);have hn:S1.length=o1.length:=s1.len;refine⟨fun i m τ H2=>m=ds.length - i/\i<=ds.length/\∃ o2 δ2 S2,Ex (o1++[D]) (upd H1 D (.lst [])) o2 H2/\RepE h o2 H2 δ2 τ/\RepS h o2 H2 S2/\zeP S1.length dg dtt dte (fin S1.length) (ds.drop i) δ2 S2,⟨ds.length,by simp,zero_le _,_,_,_,Ex.refl,((he.mono e1).mono eN).tau,sN,d1⟩,?_⟩;rintro i m τ H2 ⟨rfl,hi,o2,δ2,S2,e2,he2,hs2,d2⟩;by_cases hlt:i<ds.length
 ·have ed:ds[i]? = some ds[i]:=getElem?_eq_getElem hlt;rw [drop_eq_getElem_cons hlt] at d2;refine .inr ⟨wk.go i _ o2 H2 (eN.trans e2).hid ed,fun x H3 y=>?_⟩;obtain⟨s3,hx⟩:=wk.yld i _ o2 H2 x H3 S2 (eN.trans e2).hid hs2 ed y;have e23:Ex o2 H2 o2 H3:=Ex.of_same s3;refine hg h o2 H3 δ2 τ S2 (.d ds[i]) x _ _ (he2.mono e23) (hs2.same s3) hx d2 fun o4 H4 δ4 S4 τ4 e4 he4 hs4 d4=>?_;refine ht h o4 H4 δ4 τ4 S4 _ _ he4 hs4 d4 (fun o5 H5 S5 b e5 s5 d5=>?_) (Stb.st w (e1.trans (eN.trans ((e2.trans e23).trans e4))));have e15:=((e2.trans e23).trans e4).trans e5;cases b with
  | false=>exact zmu ⟨ds.length - (i+1),by omega,rfl,hlt,o5,δ4,S5,e15,he4.mono e5,s5,by simpa using d5⟩
  | true =>
   refine zmt (he' h o5 H5 δ4 τ4 S5 _ _ (he4.mono e5) s5 (by simpa using d5) (fun o6 H6 S6 z v e6 s6 z6 d6=>?_) (Stb.st w (e1.trans (eN.trans e15))));replace d6:=ze9 d6;obtain⟨e,rfl,acc,ea,hl,d6⟩:=d6;have e16:=e15.trans e6;have eD:o6[S1.length]? = some D:=by
    obtain⟨r,rfl⟩:=e16.pre;rw [hn];exact zdX (by rw [getElem?_concat_length])
   obtain⟨vs,ev,l⟩:=s6.cont _ D acc eD ea;refine⟨vs,ev,by rw [l.length]; exact small1000 (le_of_lt hl),ds.length - (i+1),by omega,rfl,hlt,o6,δ4,_,e16.trans (Ex.upd eD),((he4.mono e5).mono e6).mono (Ex.upd eD),s6.upd eD (l.append (zC.mpr ⟨v,[],rfl,z6,zH.mpr rfl⟩)),d6⟩
 ·have ei:i=ds.length:=by omega
  subst ei;rw [drop_length] at d2;exact .inl ⟨wk.stop _ o2 H2 (eN.trans e2).hid (le_refl _),c o1 H1 D o2 H2 S2 e1 hD e2 hs2 (hn▸d2)⟩
theorem zp3{caps:List (Option Nat)}{wi:TI}{g:TG}{tt:TT}{te:TE}{di:DI}{dg:DG}{dtt:DT}{dte:DE}(hi:RIp Φ wi di)(hg:RG g dg)(ht:RTp Φ tt dtt)(he':REp Φ te dte):REp Φ (zkK caps wi g tt te) (zbK caps di dg dtt dte):=fun h o H δ σ S R Q he hs q c w=>by
 refine zlW (w:=w) (fin:=fun n S2=>∃ (S0:Sto) (acc:List PyData),S2=S0++[acc]/\S0.length=n/\R (.d (.list acc)) S0) hi hg ht he' he hs q fun o1 H1 D o2 H2 S2 e1 hD e2 s2 ⟨S0,acc,eS,hl,f⟩=>?_;subst eS;have eN:Ex o1 H1 (o1++[D]) (upd H1 D (.lst [])):=⟨⟨[D],rfl⟩,fun b w hb e=>by
  have ne:b≠D:=zQ e hD;exact⟨by simp [hb,ne],by rw [zR ne]; exact e⟩⟩
 have e12:=eN.trans e2;obtain⟨r,rfl⟩:=e2.pre;have er:r=[]:=by
  have:=s2.len;simp only [length_append,length_singleton,hl] at this;exact eq_nil_of_length_eq_zero (by omega)
 subst er;rw [append_nil] at s2 e12;have s0:RepS h o1 H2 S0:=s2.pop hl;refine c o1 H2 S0 (.d (.list acc)) _ (e1.trans (Ex.pop (o':=o1) e12)) s0 ?_ f;obtain⟨vs,ev,l⟩:=s2.cont o1.length D acc (by rw [getElem?_concat_length]) (by rw [<- hl,getElem?_concat_length]);have nD:D∉o1:=by
  have:=(nodup_append.mp s2.nd).2.2;intro m;exact this D m D (by simp) rfl
 exact za5.mpr ⟨D,vs,rfl,zan.mpr ⟨s2.dis D (by simp),nD,ev⟩,l.mono zf4⟩
theorem zux{K:W.Frag}(ha:REp Φ ta da):RTp Φ (fun σ H Q=>ta σ H fun x H'=>∃ k,TruV K x H' k/\Q k H') (zdO da):=fun h o H δ σ S R Q he hs q c w =>
 ha h o H δ σ S _ _ he hs q (fun o1 H1 S1 x v e1 s1 x1 d1=>by
  have z:=zdV (K:=K) (zk (i:=0)) h o1 H1 [some x] [some v] S1 R Q ⟨rfl,fun i y e=>by
   cases i with
   | zero=>cases e; exact⟨v,rfl,x1⟩
   | succ i=>simp at e⟩ s1 ⟨x,rfl,d1⟩ (fun o2 H2 S2 b e2=>c o2 H2 S2 b (e1.trans e2))
  obtain⟨v',e,z⟩:=z;cases e;exact z) w
end
theorem zph{X:Cx}{K:W.Frag}(hK:X.K=K):SlR X (zvr K):=by
 subst hK;exact zho
end
end L2
namespace L2
open PySem PySem.Spec PySem.Calls PyProof.Rows
open Sem (wp)
structure LamScope(ps caps:List Str)(sc:Scope):Prop where
 kind:sc.kind=.function
 co:sc.isCoroutine=false
 gen:sc.isGenerator=false
 nd:(ps++caps).Nodup
 par:∀ x∈ps,sc.names.lookup x=some .local
 cap:∀ x∈caps,sc.names.lookup x=some .free
 nocell:∀ y∈sc.names,y.2≠.cell
 free:∀ x,sc.names.lookup x=some .free->x∈caps
def cxL(P:Program)(w:World)(K:W.Frag)(mg:Str->Option Value)(base:Heap)(N:List Str)(qual:Str)(scope:Scope)(cl:List (Str×Addr))(f:Addr)(cd:Value)(A:Around)(outer:List Env)(s:Shared)(H:Hp):Cx where
 prog:=P
 w:=w
 K:=K
 mg:=mg
 base:=base
 A:=A.deeper (W.envX qual scope s.heap.objs.size f cd cl)
 N:=N
 s₀:=s
 H₀:=H
 env:=W.envX qual scope s.heap.objs.size f cd cl
 outer:=outer
 stack:=W.envX qual scope s.heap.objs.size f cd cl :: outer
 ex:=[]
 calm:=true
 fn:=fun _=>false
 pn:=[]
 xe:=fun _ _=>False
theorem zhK:∀ {ps:List Str} {us:List Value} {i:Nat} {y:Str} {u:Value},ps.Nodup->ps[i]? = some y->us[i]? = some u->((ps.zip us).reverse).lookup y=some u
 | [],_,_,_,_,_,e,_=>by simp at e
 | _ :: _,[],_,_,_,_,_,e=>by simp at e
 | p :: ps,v :: us,0,y,u,nd,e1,e2=>by
  simp at e1 e2;subst e1 e2;rw [nodup_cons] at nd;rw [zip_cons_cons,reverse_cons,List.lookup_append];have:((ps.zip us).reverse).lookup p=none:=by
   rw [List.lookup_eq_none_iff];intro q mq;have:=(of_mem_zip (mem_reverse.mp mq)).1;have ne:p≠q.1:=fun e=>nd.1 (by rw [e]; exact this);simpa using ne
  rw [this];simp [List.lookup]
 | p :: ps,v :: us,i+1,y,u,nd,e1,e2=>by
  rw [nodup_cons] at nd;rw [zip_cons_cons,reverse_cons,List.lookup_append,zhK nd.2 (by simpa using e1) (by simpa using e2)];rfl
section
variable {P:Program} {w:World} {K:W.Frag} {mg:Str->Option Value} {base:Heap} {A:Around} {outer:List Env} {s:Shared} {H:Hp}
structure Caps(H:Hp)(h:Heap)(cl:List (Str×Addr))(caps:List Str)(cs:List V):Prop where
 len:cs.length=caps.length
 inj:∀ x y c,cl.lookup x=some c->cl.lookup y=some c->x=y
 has:∀ x,x∈caps↔∃ c,cl.lookup x=some c
 at_:∀ (i:Nat) x v,caps[i]? = some x->cs[i]? = some v->∃ c u,cl.lookup x=some c/\RelV v u/\h.IsCell c (some u)
 free:∀ x c,cl.lookup x=some c->H c=none/\∃ v,h.IsCell c v
theorem znZ{k:Nat}{ps caps:List Str}{name qual:Str}{params:Arguments}{body:Expr}{scope:Scope}{cl:List (Str×Addr)}{pm ctv:Value}{c' f:Addr}{us:List Value}{vs cs:List V}{Q:VK}{t:TE}
  (S:LamScope ps caps scope) (hr:Room (k+1) A) (e0:Env0 P w K mg base A outer s H) (ho:s.heap.get? f=some (W.kla_obj name qual params body scope cl pm c' ctv)) (hcd:s.heap.CodeRec (.ref c') qual)
  (hbind:bindArgs (W.kla_fn name qual params body scope cl pm (.ref c') ctv) ⟨us,[]⟩=pure (ps.zip us)) (hl:vs.length=ps.length) (r:Vals vs us) (C:Caps H s.heap cl caps cs)
  (hb:PE (cxL P w K mg base (ps++caps) qual scope cl f (.ref c') A outer s H) body t) (q:t (vs.map some++cs.map some) H Q) :
  codeAny (model P w) A (.call (.ref f) ⟨us,[]⟩) (fun r' s'=>match r' with | .ok (.ret u)=>CE outer P w H s Q u s' | _=>False) s:=by
 have KX:K.In s.heap:=e0.mod.kin.keeps fun b o e=>(e0.bs b o e).1;have lim:s.heap.NoLimit:=e0.mod.nolimit.keeps fun b o e=>(e0.bs b o e).1;refine W.kla_callFunE hr.depth ho rfl S.co S.gen rfl hcd ?_;rw [hbind];refine wpAny_pure (wpAny_newFunctionEnv S.nocell (fun y hy=>S.par y.1 (of_mem_zip hy).1) (fun h₁ hns hsb=>⟨lim.fresh _ hsb,?_⟩) S.kind);show codeAny _ _ (.expr body (W.envX qual scope s.heap.objs.size f (.ref c') cl)) _ _;have hk:∀ b o,s.heap.get? b=some o->h₁.get? b=some o:=fun b o e=>hsb.extBut b o (ne_of_lt (lt_size e)) (get?_push_of_some _ e);have noA:∀ b:Addr,b∉(cxL P w K mg base (ps++caps) qual scope cl f (.ref c') A outer s H).ex:=fun b z=>absurd (show b∈([]:List Addr) from z) (by simp);have ul:us.length=ps.length:=by rw [<- r.length]; exact hl
 have I:Inv (cxL P w K mg base (ps++caps) qual scope cl f (.ref c') A outer s H) [] (vs.map some++cs.map some) H { s with heap:=h₁,toks:=s.toks+(ps.zip us).length }:=by
  refine⟨⟨e0.mod,S.kind,rfl,rfl,le_refl _,fun x y c h1 h2=>C.inj x y c h1 h2,fun y hy=>?_,fun y c h _=>absurd (show false=true from h) dz,fun _=>hr.hd,Around.frames_deeper e0.frames,.inr ⟨rfl,rfl⟩,fun b z=>absurd z (noA b),e0.bs,e0.bsz,fun b _ _=>noA b,fun b z=>absurd z (noA b),e0.funs,e0.frf⟩,
   rfl,e0.bare,Un.kept hk,⟨_,hns,fun i y v h1 h2 h3=>?_⟩,fun y c h=>?_,e0.hok.fresh (le_refl _),fun y c h=>(C.free y c h).1,fun p hp=>absurd (show p∈([]:List (Addr×Obj)) from hp) (by simp),e0.hok.kept hk,?_⟩
  ·have hy:scope.names.lookup y=some .cell\/scope.names.lookup y=some .free:=hy;rcases hy with hy | hy
   ·exact absurd rfl (S.nocell _ (PySem.mem_of_lookup hy))
   ·exact(C.has y).mp (S.free y hy)
  ·by_cases hi:i<ps.length
   ·have h1':ps[i]? = some y:=by
     have h1:(ps++caps)[i]? = some y:=h1
     rwa [getElem?_append_left hi] at h1
    have h2':vs[i]? = some v:=by
     rw [getElem?_append_left (by rw [length_map]; omega),getElem?_map] at h2;cases e:vs[i]? with
     | none=>rw [e] at h2; cases h2
     | some a=>rw [e] at h2; cases h2; rfl
    obtain⟨u,hu,rv⟩:=r.get h2';exact⟨u,rv,.inl ⟨S.par y (mem_of_getElem? h1'),zhK (nodup_append.mp S.nd).1 h1' hu⟩⟩
   ·have h1':caps[i - ps.length]? = some y:=by
     have h1:(ps++caps)[i]? = some y:=h1
     rwa [getElem?_append_right (by omega)] at h1
    have h2':cs[i - ps.length]? = some v:=by
     rw [getElem?_append_right (by rw [length_map]; omega),length_map,hl,getElem?_map] at h2;cases e:cs[i - ps.length]? with
     | none=>rw [e] at h2; cases h2
     | some a=>rw [e] at h2; cases h2; rfl
    obtain⟨c,u,e1,rv,cl'⟩:=C.at_ _ y v h1' h2';exact⟨u,rv,.inr ⟨.inr (S.cap y (mem_of_getElem? h1')),c,e1,cl'.keeps hk⟩⟩
  ·obtain⟨v,q⟩:=(C.free y c h).2;exact⟨v,q.keeps hk⟩
  ·show (vs.map some++cs.map some).length=(ps++caps).length;simp [hl,C.len]
 refine W.kla_codeExpr (wpAny_mono (hb [] _ _ H _ I q) (fun u s' hs=>?_) fun e s' z=>z.elim);obtain⟨v,H',J,rv,q'⟩:=hs;exact⟨v,H',J.os,J.bare,J.base,J.hok,rv,q'⟩
end
abbrev lamKey (qual:Str) (pos:Pos):Array Value:=#[rawInt pos.line,rawInt pos.col,.str qual 0]
abbrev zf9 (qual:Str) (params:Arguments) (body:Expr) (scope:Scope) (cl:List (Str×Addr)) (pm:Value) (c':Addr) (ctv:Value):Obj:=W.kla_obj "<lambda>" qual params body scope cl pm c' ctv
section
variable {X:Cx} {zn:List (Addr×Obj)} {σ:St} {H:Hp} {s:Shared} {M:Model} {A:Around} {E:Value->Shared->Prop} {Q:Value->Shared->Prop} {c P:Addr} {qual:Str} {params:Arguments} {body:Expr} {scope:Scope} {pos:Pos} {cl:List (Str×Addr)}
theorem zk9(I:Inv X zn σ H s)(hcode:X.env.code=.ref c)(hT:((c,P),lamKey qual pos)∈tabsG)(hcl:closureFor scope X.env=pure cl)
  (h:∀ (f c':Addr) (ctv pm:Value) (H':Hp) (s':Shared),Inv X zn σ H' s'->Same H H'->H f=none->H' f=some (.frz (zf9 qual params body scope cl pm c' ctv) (.own 0))->(∃ oc vs t',H' c'=some (.frz oc (.own 0))/\oc.data=.fields vs/\vs[1]? = some (.str qual t'))->Q (.ref f) s') :
  wpAny M A (makeFunction "<lambda>" qual params (.expr body) scope X.env [] [] [] pos pos.line) Q E s:=by
 have hH:H P=some (.tbl (lamKey qual pos)):=I.stkFree.tab _ hT;have C:W.CodeHd X.base c P:=I.mod.hd _ hT;have B:BltAt X.base X.mg:=I.mod.bm;obtain⟨qs,hP,hq⟩:=(show ObjOk X.prog X.w H s.heap P (.tbl (lamKey qual pos)) from I.hok P _ hH);have neP:∀ b o,X.base.get? b=some o->b≠P:=fun b o e z=>by
  have:=(I.bs b o e).2;rw [z,hH] at this;cases this
 have hg:s.heap.Ns mainGlobals X.mg:=I.mod.glob.keeps I.bk;have hgP:mainGlobals≠P:=by
  obtain⟨o,es,ep,e,_⟩:=I.mod.glob;exact neP _ o e
 have hB:s.heap.BuiltinsAt X.mg P:=by
  obtain⟨bm,ob,b1,b2,b3,b4,b5,b6⟩:=B;refine⟨bm,ob,b1,b2,fun z=>?_,neP _ _ b3,I.bk _ _ b3,b4,b5,b6⟩;obtain⟨o,es,ep,e,d,_⟩:=I.mod.glob;rw [z,e] at b3;cases b3;rw [d] at b6;cases b6
 have hC:=C.keeps I.bk;rcases hq with rfl | ⟨l,k,q,t,c',oc,vs,t',e1,rfl,e3,e4,e5⟩
 ·refine W.kla_makeFunction (mg:=X.mg) hcl I.ok.glob hg hcode hC hP trivial rfl hgP hB fun c' ctv h' tk hx hge hlt hrec htb=>?_;obtain⟨c₂,oc,vs,t',e2,hoc,hd,hv⟩:=hrec;cases e2;have hsz:s.heap.objs.size<=h'.objs.size:=le_of_lt (Nat.lt_of_le_of_lt hge hlt);have nc:H c'=none:=I.hok.fresh hge;have nf:H h'.objs.size=none:=I.hok.fresh hsz;have cf:c'≠h'.objs.size:=ne_of_lt hlt
  let fo:Obj:=zf9 qual params body scope cl ((X.mg "__name__").getD .none) c' ctv
  let H':Hp:=upd (upd H c' (.frz oc (.own 0))) h'.objs.size (.frz fo (.own 0))
  have gr:Same H H':=(Same.laid nc).trans (Same.laid (by rw [zR (Ne.symm cf)]; exact nf));have hpc:P≠c':=zQ hH nc;have hpf:P≠h'.objs.size:=zQ hH nf;have kp:∀ b o,b≠P->s.heap.get? b=some o->(h'.push fo).get? b=some o:=fun b o nb e=>get?_push_of_some _ (hx b o nb e);have eH:∀ b,b≠c'->b≠h'.objs.size->H' b=H b:=fun b n1 n2=>by show upd _ _ _ b=_; rw [zR n2,zR n1]
  have hc':H' c'=some (.frz oc (.own 0)):=by show upd _ _ _ c'=_; rw [zR cf,zau]
  have hf':H' h'.objs.size=some (.frz fo (.own 0)):=zau;refine h h'.objs.size c' ctv _ H' _ (I.un ⟨fun b o e n _ _=>kp b o (fun z=>by rw [z,hH] at n; cases n) e,fun b o e n _ _=>⟨o.slots,kp b o (fun z=>by rw [z,hH] at n; cases n) e⟩,fun b o e n _=>?_,fun b o e _=>?_,fun b xs e=>gr b _ e,fun b o u e=>gr b _ e,fun b ps e=>gr b _ e⟩ fun b u e=>?_) gr nf hf' ⟨oc,vs,t',hc',hd,hv⟩
  ·have lb:=lt_size e;rw [eH b (ne_of_lt (lt_of_lt_of_le lb hge)) (ne_of_lt (lt_of_lt_of_le lb hsz))];exact n
  ·by_cases hb:b=P
   ·subst hb;exact⟨_,get?_push_of_some _ htb⟩
   ·exact⟨o,kp b o hb e⟩
  ·by_cases h1:b=h'.objs.size
   ·subst h1;rw [hf'] at e;cases e;have g:=get?_push_size h' (o:=fo) rfl;exact⟨g,_,g⟩
   ·by_cases h2:b=c'
    ·subst h2;rw [hc'] at e;cases e;have g:=get?_push_of_some fo hoc;exact⟨g,_,g⟩
    ·rw [eH b h2 h1] at e;by_cases h3:b=P
     ·subst h3;rw [hH] at e;cases e;exact⟨_,get?_push_of_some _ htb,.inr ⟨_,_,qual,0,c',oc,vs,t',rfl,rfl,hc',hd,hv⟩⟩
     ·refine(I.hok b u e).stay (fun d v hd' q1=>kp d v (fun z=>?_) q1) (fun d q1=>gr d _ q1) (fun d xs q1=>gr d _ q1) fun d o u q1=>gr d _ q1;subst z;rcases hd' with z | z
      ·exact h3 z.symm
      ·rw [hH] at z; cases z
 ·have el:rawInt pos.line=l:=congrArg (fun a:Array Value=>a.getD 0 .none) e1;have ek:rawInt pos.col=k:=congrArg (fun a:Array Value=>a.getD 1 .none) e1;have eq:qual=q:=by
   have:=congrArg (fun a:Array Value=>a.getD 2 .none) e1;have z:Value.str qual 0=Value.str q t:=this;cases z;rfl
  subst eq;rw [<- el,<- ek] at hP;have hca:codeAmong pos (#[rawInt pos.line,rawInt pos.col,Value.ref c']:Array Value).toList=some (.ref c'):=by
   simp [codeAmong,rawInt]
  refine W.kla_makeFunctionHit (mg:=X.mg) hcl I.ok.glob hg hcode hC hP trivial hca hB fun ctv h' tk kp hsz=>?_;have nf:H h'.objs.size=none:=I.hok.fresh hsz
  let fo:Obj:=zf9 qual params body scope cl ((X.mg "__name__").getD .none) c' ctv
  have gr:Same H (upd H h'.objs.size (.frz fo (.own 0))):=Same.laid nf;have g:=get?_push_size h' (o:=fo) rfl;exact h h'.objs.size c' ctv _ _ _ (I.laid (t':=tk) (o:=.frz fo (.own 0)) (fun b o e=>get?_push_of_some _ (kp b o e)) hsz ⟨g,_,g⟩) gr nf zau ⟨oc,vs,t',gr _ _ e3,e4,e5⟩
end
end L2
namespace L2
open PySem PySem.Spec PySem.Calls PyProof.Rows
open Sem (wp)
section
variable {P:Program} {w:World} {K:W.Frag} {mg:Str->Option Value} {base:Heap} {A:Around} {outer:List Env} {s s':Shared} {H H' H0:Hp} {fs:List Addr} {h0 h h':Heap}
theorem zgV{a:Addr}(U:Un fs [] H0 H h0 h)(ha:h0.objs.size<=a)(k:∀ b o,b≠a->h.get? b=some o->h'.get? b=some o):Un fs [] H0 H h0 h':=by
 have ne:∀ b o,h0.get? b=some o->b≠a:=fun b o e=>ne_of_lt (lt_of_lt_of_le (lt_size e) ha);refine⟨fun b o e n hb hx=>k b o (ne b o e) (U.keep b o e n hb hx),fun b o e n hb hx=>?_,U.free,fun b o e hx=>?_,U.tups,U.frzs,U.tbls⟩
 ·obtain⟨sl,q⟩:=U.slot b o e n hb hx;exact⟨sl,k b _ (ne b o e) q⟩
 ·obtain⟨o',q⟩:=U.there b o e hx;exact⟨o',k b o' (ne b o e) q⟩
theorem Env0.after(e0:Env0 P w K mg base A outer s H)(U:Un (frs outer) [] H H' s.heap s'.heap)(hok:HOk P w H' s'.heap)(hb:AllBare s'.gens)(hz:base.objs.size<=s'.heap.objs.size):Env0 P w K mg base A outer s' H':=by
 have nofr:∀ b o,base.get? b=some o->b∉frs outer:=fun b o e hm=>by
  have:=(e0.funs.mem hm).1;rw [e] at this;cases this
 refine⟨e0.frames,e0.mod,fun b o e=>⟨U.keep b o (e0.bs b o e).1 (e0.bs b o e).2 (nofr b o e) (by simp),U.free b o (e0.bs b o e).1 (e0.bs b o e).2 (by simp)⟩,hz,?_,⟨fun b hb=>?_,fun q hq=>U.tbls _ _ (e0.frf.tab q hq)⟩,hok,hb⟩
 ·have go:∀ l:List Env,(∀ b∈frs l,b∈frs outer)->s.heap.FunFrames base l->s'.heap.FunFrames base l:=by
   intro l;induction l with
   | nil=>intro _ _; trivial
   | cons env r ih =>
    intro hs hl;obtain⟨hk,⟨L,o,hf,hn,ho,hd⟩,hr⟩:=hl;have hL:L∈frs outer:=hs L (by unfold frs; rw [filterMap_cons,hf]; exact mem_cons_self);obtain⟨sl,e⟩:=U.slot L o ho (e0.frf.free L hL) hL (by simp);exact⟨hk,⟨L,_,hf,hn,e,hd⟩,ih (fun b hb=>hs b (by unfold frs; rw [filterMap_cons,hf]; exact mem_cons_of_mem _ hb)) hr⟩
  exact go outer (fun _ h=>h) e0.funs
 ·obtain⟨_,o,ho,_⟩:=e0.funs.mem hb;exact U.free b o ho (e0.frf.free b hb) (by simp)
theorem Caps.after{cl:List (Str×Addr)}{caps:List Str}{cs:List V}(C:Caps H h cl caps cs)(U:Un fs [] H H' h h'):Caps H' h' cl caps cs:=by
 have kp:∀ c v,H c=none->h.IsCell c v->h'.IsCell c v:=fun c v n ⟨o,e,d⟩=>by
  obtain⟨sl,q⟩:=U.any e n (by simp);exact⟨_,q,d⟩
 refine⟨C.len,C.inj,C.has,fun i x v e1 e2=>?_,fun x c e=>?_⟩
 ·obtain⟨c,u,q1,q2,q3⟩:=C.at_ i x v e1 e2;exact⟨c,u,q1,q2,kp c _ (C.free x c q1).1 q3⟩
 ·obtain⟨n,v,q⟩:=C.free x c e;obtain⟨o,eo,_⟩:=id q;exact⟨U.free c o eo n (by simp),v,kp c v n q⟩
theorem Env0.own{a:Addr}(e0:Env0 P w K mg base A outer s H)(na:H a=none)(nb:base.objs.size<=a)(nf:a∉frs outer)(k:∀ b o,b≠a->s.heap.get? b=some o->h'.get? b=some o)(hz:s.heap.objs.size<=h'.objs.size)(tk:Nat):Env0 P w K mg base A outer { s with heap:=h',toks:=tk } H:=by
 refine⟨e0.frames,e0.mod,fun b o e=>⟨k b o (ne_of_lt (lt_of_lt_of_le (lt_size e) nb)) (e0.bs b o e).1,(e0.bs b o e).2⟩,le_trans e0.bsz hz,?_,e0.frf,e0.hok.stays fun b u e o q=>k b o (zQ e na) q,e0.bare⟩;have go:∀ l:List Env,(∀ b∈frs l,b∈frs outer)->s.heap.FunFrames base l->h'.FunFrames base l:=by
  intro l;induction l with
  | nil=>intro _ _; trivial
  | cons env r ih =>
   intro hs hl;obtain⟨hk,⟨L,o,hf,hn,ho,hd⟩,hr⟩:=hl;have hL:L∈frs outer:=hs L (by unfold frs; rw [filterMap_cons,hf]; exact mem_cons_self);exact⟨hk,⟨L,o,hf,hn,k L o (fun z=>nf (z▸hL)) ho,hd⟩,ih (fun b hb=>hs b (by unfold frs; rw [filterMap_cons,hf]; exact mem_cons_of_mem _ hb)) hr⟩
 exact go outer (fun _ h=>h) e0.funs
theorem Caps.own{a:Addr}{cl:List (Str×Addr)}{caps:List Str}{cs:List V}(C:Caps H h cl caps cs)(na:∀ x c,cl.lookup x=some c->c≠a)(k:∀ b o,b≠a->h.get? b=some o->h'.get? b=some o):Caps H h' cl caps cs:=by
 refine⟨C.len,C.inj,C.has,fun i x v e1 e2=>?_,fun x c e=>?_⟩
 ·obtain⟨c,u,q1,q2,o,q3,q4⟩:=C.at_ i x v e1 e2;exact⟨c,u,q1,q2,o,k c o (na x c q1) q3,q4⟩
 ·obtain⟨n,v,o,q,d⟩:=C.free x c e;exact⟨n,v,o,k c o (na x c e) q,d⟩
def CodeFz(H:Hp)(c':Addr)(qual:Str):Prop:=∃ oc vs t',H c'=some (.frz oc (.own 0))/\oc.data=.fields vs/\vs[1]? = some (.str qual t')
theorem CodeFz.rec{c':Addr}{qual:Str}(c:CodeFz H c' qual)(hok:HOk P w H h):h.CodeRec (.ref c') qual:=by
 obtain⟨oc,vs,t',e,d,q⟩:=c;obtain⟨g,_⟩:=(show ObjOk P w H h c' (.frz oc (.own 0)) from hok _ _ e);exact⟨c',oc,vs,t',rfl,g,d,q⟩
theorem CodeFz.un{c':Addr}{qual:Str}(c:CodeFz H c' qual)(U:Un fs [] H H' h h'):CodeFz H' c' qual:=by
 obtain⟨oc,vs,t',e,r⟩:=c;exact⟨oc,vs,t',U.frzs _ _ _ e,r⟩
theorem zlK{k:Nat}{x:Str}{caps:List Str}{qual:Str}{params:Arguments}{body:Expr}{scope:Scope}{cl:List (Str×Addr)}{pm ctv:Value}{c' f:Addr}{u:Value}{v:V}{cs:List V}{Q1:VK}{t:TE}{E:Value->Shared->Prop}{Q:Value->Shared->Prop}
  (S:LamScope [x] caps scope) (hr:Room (k+1) A) (e0:Env0 P w K mg base A outer s H) (hf:H f=some (.frz (zf9 qual params body scope cl pm c' ctv) (.own 0))) (hc:CodeFz H c' qual)
  (hbind:∀ u,bindArgs (W.kla_fn "<lambda>" qual params body scope cl pm (.ref c') ctv) ⟨[u],[]⟩=pure [(x,u)]) (r:RelV v u) (C:Caps H s.heap cl caps cs)
  (hb:PE (cxL P w K mg base ([x]++caps) qual scope cl f (.ref c') A outer s H) body t) (q:t (some v :: cs.map some) H Q1) (fin:∀ u' s',CE outer P w H s Q1 u' s'->Q u' s') :
  wpAny (model P w) A (call (.ref f) [u]) Q E s:=by
 obtain⟨g,_⟩:=(show ObjOk P w H s.heap f (.frz _ (.own 0)) from e0.hok _ _ hf);refine wpAny_call (codeAny_mono (znZ (ps:=[x]) (us:=[u]) (vs:=[v]) S hr e0 g (hc.rec e0.hok) (hbind u) rfl (.cons r .nil) C hb q) fun r' s' z=>?_);cases r' with
 | error e=>exact z.elim
 | ok fl =>
  cases fl with
  | ret u'=>exact fin u' s' z
  | next=>exact z.elim
  | brk=>exact z.elim
  | cont=>exact z.elim
end
section
variable {P:Program} {w:World} {K:W.Frag} {mg:Str->Option Value} {base:Heap} {A:Around} {outer:List Env} {s0:Shared} {H0:Hp} {k:Nat} {x:Str} {caps:List Str} {qual:Str} {params:Arguments} {body:Expr} {scope:Scope} {cl:List (Str×Addr)} {pm ctv:Value} {c' f l it S:Addr} {cs:List V} {Q:VK} {t:TE} {dv:Value}
def MinW(l:Addr)(L:Nat)(cs:List V)(t:TE)(Q:VK)(W:Nat->V->Int->Hp->Prop):Prop:=∀ n best kb H,W n best kb H->∃ xs,xs.length=L/\H l=some (.lst xs)/\(∀ v,xs[n]? = some v->t (some v :: cs.map some) H fun kv H'=>∃ j,kv=.int j/\if j<kb then W (n+1) v j H' else W (n+1) best kb H')/\(L=n->Q best H)
theorem zkC{L:Nat}{W:Nat->V->Int->Hp->Prop}(SC:LamScope [x] caps scope)(hr:Room (k+2) A)(hbind:∀ u,bindArgs (PySem.W.kla_fn "<lambda>" qual params body scope cl pm (.ref c') ctv) ⟨[u],[]⟩=pure [(x,u)])
  (hb:∀ s H,PE (cxL P w K mg base ([x]++caps) qual scope cl f (.ref c') A.in1 outer s H) body t) (hW:MinW l L cs t Q W)
  (b1:base.objs.size<=s0.heap.objs.size) (i1:s0.heap.objs.size<=it) (i2:s0.heap.objs.size<=S) (hIS:S≠it) (cb:∀ x c,cl.lookup x=some c->c<s0.heap.objs.size) (ffr:∀ b∈frs outer,b<s0.heap.objs.size) :
  ∀ (d n:Nat) (s:Shared) (H:Hp) (best:V) (bu:Value) (kb:Int) (tb:Tok) (c:Nat),n+d=L->Env0 P w K mg base A.in1 outer s H->Un (frs outer) [] H0 H s0.heap s.heap->s.os=s0.os->W n best kb H->s.heap.IsListIter it l n->H it=none ->
   s.heap.get? S=some (seqObj "list" #[bu,.int kb tb] c)->H S=none->RelV best bu->H f=some (.frz (zf9 qual params body scope cl pm c' ctv) (.own 0))->CodeFz H c' qual->Caps H s.heap cl caps cs ->
   codeAny (model P w) A (.builtin "min.loop" ⟨[.ref it,.ref f,.ref S],[(Str.ofString "default",dv)]⟩) (fun r s'=>match r with | .ok (.ret u)=>CE outer P w H0 s0 Q u s' | _=>False) s:=by
 have hname:(toString "min" ++ toString ".loop":String) = "min.loop":=by decide
 have hh:A.in1.handled=none:=hr.hd;have nIf:it∉frs outer:=fun m=>absurd (lt_of_lt_of_le (ffr _ m) i1) (lt_irrefl _);have nSf:S∉frs outer:=fun m=>absurd (lt_of_lt_of_le (ffr _ m) i2) (lt_irrefl _);intro d;induction d with
 | zero =>
  intro n s H best bu kb tb c hn e0 U os hw hit nI hS nS rb hf hc C;obtain⟨xs,hL,hl,_,hq⟩:=hW n best kb H hw;obtain⟨hz,its,cap,rv,el⟩:=(show ObjOk P w H s.heap l (.lst xs) from e0.hok l _ hl);have isl:s.heap.IsList l its.toArray:=⟨_,el,rfl,_,rfl⟩;refine codeAny_builtin F.entry_min_loop ?_;rw [Around.under_plainId F.plain_min_loop _];show wpAny _ A.in1 (seqItems? (.ref S) >>= _) _ _ s;refine wpAny_bind (wpAny_seqItems hS rfl ?_);show wpAny _ A.in1 (tryCatch (pyNext (.ref it)) _ >>= _) _ _ s;refine wpAny_bind (wpAny_tryCatch (wpAny_pyNext_list_end hh hit isl (by have:=rv.length; simp; omega) fun h1 k1=>?_));have hS1:=k1 S _ hIS hS;have s1:=Heap.SameBut.update h1 S (Obj.mapSeq fun _=>(#[]:Array Value));show wpAny _ A.in1 (updateSeq S (fun _=>#[]) >>= _) _ _ _;refine wpAny_bind (wpAny_updateSeq hS1 rfl (wpAny_bind (wpAny_letGo (wpAny_pure ?_))));have k2:∀ b o,b≠S->h1.get? b=some o->(h1.update S (Obj.mapSeq fun _=>(#[]:Array Value))).get? b=some o:=fun b o nb e=>(s1.2 b nb).trans e;refine⟨best,H,os,e0.bare,zgV (zgV U i1 fun b o nb e=>k1 b o nb e) i2 k2,e0.hok.stays fun b u e o q=>k2 b o (zQ e nS) (k1 b o (zQ e nI) q),rb,hq (by omega)⟩
 | succ d ih =>
  intro n s H best bu kb tb c hn e0 U os hw hit nI hS nS rb hf hc C;obtain⟨xs,hL,hl,hstep,_⟩:=hW n best kb H hw;obtain⟨hz,its,cap,rv,el⟩:=(show ObjOk P w H s.heap l (.lst xs) from e0.hok l _ hl);have isl:s.heap.IsList l its.toArray:=⟨_,el,rfl,_,rfl⟩;have hx:=getElem?_eq_getElem (show n<xs.length by omega);generalize xs[n]'(by omega)=v at hx;obtain⟨u,eu,ru⟩:=rv.get hx;refine codeAny_builtin F.entry_min_loop ?_;rw [Around.under_plainId F.plain_min_loop _];show wpAny _ A.in1 (seqItems? (.ref S) >>= _) _ _ s;refine wpAny_bind (wpAny_seqItems hS rfl ?_);show wpAny _ A.in1 (tryCatch (pyNext (.ref it)) _ >>= _) _ _ s;refine wpAny_bind (wpAny_tryCatch (wpAny_pyNext_list_item hit isl (x:=u) (by simpa using eu) fun h1 hit1 hs1=>?_));have k1:∀ b o,b≠it->s.heap.get? b=some o->h1.get? b=some o:=fun b o nb e=>hs1.extBut b o nb e;have hz1:s.heap.objs.size<=h1.objs.size:=le_of_eq hs1.1.symm;have e1:Env0 P w K mg base A.in1 outer { s with heap:=h1 } H:=e0.own nI (le_trans b1 i1) nIf k1 hz1 s.toks;have C1:Caps H h1 cl caps cs:=C.own (fun x c e=>ne_of_lt (lt_of_lt_of_le (cb x c e) i1)) k1;show wpAny _ A.in1 (tryCatch (holding [u] (call (.ref f) [u])) _ >>= _) _ _ _;refine wpAny_bind (wpAny_tryCatch (wpAny_holding (zlK (k:=k) (s:={ s with heap:=h1 }) SC hr.in1 e1 hf hc hbind ru C1 (hb _ _) (hstep v hx) fun u2 s2 z=>?_)));obtain⟨kv,H2,os2,bare2,U2,hok2,r2,j,rfl,hj⟩:=z;obtain⟨t2,rfl⟩:=r2;have hS1:=k1 S _ hIS hS;have hS2:=U2.keep S _ hS1 nS nSf (by simp);obtain⟨oI,eI,cI,dI⟩:=id hit1;have eI2:=U2.keep it _ eI nI nIf (by simp);have hit2:s2.heap.IsListIter it l (n+1):=⟨oI,eI2,cI,dI⟩;have nI2:H2 it=none:=U2.free it _ eI nI (by simp);have nS2:H2 S=none:=U2.free S _ hS1 nS (by simp);have bz:base.objs.size<=s2.heap.objs.size:=le_trans b1 (le_trans i1 (le_of_lt (lt_size eI2)));have e2:=e1.after U2 hok2 bare2 bz;have U02:Un (frs outer) [] H0 H2 s0.heap s2.heap:=(zgV U i1 k1).trans U2;have C2:=C1.after U2;have f2:=U2.frzs _ _ _ hf;have c2:=hc.un U2;have osz:s2.os=s0.os:=os2.trans os;show wpAny _ A.in1 (tryCatch (holding [u,.int j t2] (richCompare .Lt (.int j t2) (.int kb tb) >>= _)) _ >>= _) _ _ _;refine wpAny_bind (wpAny_tryCatch (wpAny_holding (wpAny_bind (CmpOf.ints_lt (prog:=P) (w:=w) (A:=A.in1) (P:=fun i v=>∃ t,v=.int (if i=0 then kb else j) t) (fun i=>if i=0 then kb else j) (fun i v h=>h) 1 0 _ _ _ _ _ ⟨t2,rfl⟩ ⟨tb,rfl⟩ ?_))));refine wpAny_bind (wpAny_holding (wpAny_truthy_bool ?_));refine wpAny_bind (wpAny_letGo (wpAny_pure ?_));by_cases hb':j<kb
  ·rw [if_pos hb'] at hj;have s3:=Heap.SameBut.update s2.heap S (Obj.mapSeq fun _=>#[u,.int j t2]);obtain⟨cc,hcc⟩:∃ cc,(s2.heap.update S (Obj.mapSeq fun _=>#[u,.int j t2])).get? S=some (seqObj "list" #[u,.int j t2] cc):=⟨_,get?_update_seq hS2 fun _=>#[u,.int j t2]⟩;have k3:∀ b o,b≠S->s2.heap.get? b=some o->(s2.heap.update S (Obj.mapSeq fun _=>#[u,.int j t2])).get? b=some o:=fun b o nb e=>(s3.2 b nb).trans e;simp only [if_true,Nat.one_ne_zero,if_false,hb',decide_true];refine wpAny_bind ?_;refine wpAny_updateSeq hS2 rfl (wpAny_bind (wpAny_letGo ?_));rw [hname];refine wpAny_pure ⟨plainId_quiet F.plain_min_loop _,ih (n+1) { s2 with heap:=s2.heap.update S (Obj.mapSeq fun _=>#[u,.int j t2]) } H2 v u j t2 cc (by omega) (e2.own nS2 (le_trans b1 i2) nSf k3 (le_of_eq s3.1.symm) s2.toks) (zgV U02 i2 k3) osz hj ⟨oI,k3 it oI (Ne.symm hIS) eI2,cI,dI⟩ nI2 hcc nS2 ru f2 c2 (C2.own (fun x c e=>ne_of_lt (lt_of_lt_of_le (cb x c e) i2)) k3)⟩
  ·rw [if_neg hb'] at hj;simp only [if_true,Nat.one_ne_zero,if_false,hb',decide_false,Bool.false_eq_true];refine wpAny_bind (wpAny_letGo ?_);rw [hname];exact wpAny_pure ⟨plainId_quiet F.plain_min_loop _,ih (n+1) s2 H2 best bu kb tb c (by omega) e2 U02 osz hj hit2 nI2 hS2 nS2 rb f2 c2 C2⟩
end
end L2
namespace L2
open PySem PySem.Spec PySem.Calls PyProof.Rows
open Sem (wp)
theorem zlL(a f v:Value):argsOk "min" ⟨[a],[(Str.ofString "key",f),(Str.ofString "default",v)]⟩:=by unfold argsOk; kernel_rfl
section
variable {X:Cx} {zn:List (Addr×Obj)} {σ:St} {H:Hp} {s:Shared} {k:Nat} {x:Str} {caps:List Str} {qual:Str} {params:Arguments} {body:Expr} {scope:Scope} {cl:List (Str×Addr)} {pm ctv:Value} {c' f l:Addr} {cs xs:List V} {Q:VK} {t:TE} {E:Value->Shared->Prop}
theorem zkm{W:Nat->V->Int->Hp->Prop}(SC:LamScope [x] caps scope)(hr:Room (k+2) X.A)(hbind:∀ u,bindArgs (PySem.W.kla_fn "<lambda>" qual params body scope cl pm (.ref c') ctv) ⟨[u],[]⟩=pure [(x,u)])
  (hb:∀ s H,PE (cxL X.prog X.w X.K X.mg X.base ([x]++caps) qual scope cl f (.ref c') X.A.in1 X.stack s H) body t) (hW:MinW l xs.length cs t Q W)
  (I:Inv X zn σ H s) (hl:H l=some (.lst xs)) (h0:xs=[]->Q .non H) (h1:∀ v,xs[0]? = some v->t (some v :: cs.map some) H fun kv H'=>∃ j,kv=.int j/\W 1 v j H')
  (hf:H f=some (.frz (zf9 qual params body scope cl pm c' ctv) (.own 0))) (hc:CodeFz H c' qual) (C:Caps H s.heap cl caps cs) :
  wpAny (model X.prog X.w) X.A (call (.builtin "min") [.ref l] [(Str.ofString "key",.ref f),(Str.ofString "default",.none)]) (EP X zn σ Q) E s:=by
 have nm:(toString "min" ++ toString ".loop":String) = "min.loop":=by decide
 have e0:Env0 X.prog X.w X.K X.mg X.base X.A.in1 X.stack s H:=I.env0.in1;have hh:X.A.in1.handled=none:=hr.hd;obtain⟨hz,its,cap,rv,el⟩:=(show ObjOk X.prog X.w H s.heap l (.lst xs) from I.hok l _ hl);have isl:s.heap.IsList l its.toArray:=⟨_,el,rfl,_,rfl⟩;have lt:l<s.heap.objs.size:=lt_size el;have ffr:∀ b∈frs X.stack,b<s.heap.objs.size:=fun b hb=>by
  obtain⟨_,o,ho,_⟩:=I.stack.mem hb;exact lt_size ho
 have cb:∀ x c,cl.lookup x=some c->c<s.heap.objs.size:=fun x c e=>by
  obtain⟨_,v,o,ho,_⟩:=C.free x c e;exact lt_size ho
 have b1:X.base.objs.size<=s.heap.objs.size:=e0.bsz;refine kmk_tree F.kind_min F.plain_min F.entry_min (zlL _ _ _) ?_;show wpAny _ X.A.in1 (Builtin.Builtins.bindParams "min" ["key","default"] 0 ⟨[],[(Str.ofString "key",.ref f),(Str.ofString "default",.none)]⟩ >>= _) _ _ s;refine wpAny_bind (wpAny_of_eq (show Builtin.Builtins.bindParams "min" ["key","default"] 0 ⟨[],[(Str.ofString "key",.ref f),(Str.ofString "default",.none)]⟩=pure [some (.ref f),some .none] from rfl) (wpAny_bind (wpAny_pure (wpAny_bind (wpAny_pyIter_list isl ?_)))));refine wpAny_bind (wpAny_newObj_type ?_);rw [nm];have z1:(s.heap.push { cls:=.type "list_iterator",data:=.fields #[.ref l,.int 0 0] }).objs.size=s.heap.objs.size+1:=size_push ..;generalize hg1:s.heap.push { cls:=.type "list_iterator",data:=.fields #[.ref l,.int 0 0] } = g1 at z1 ⊢;have gI:g1.get? s.heap.objs.size=some { cls:=.type "list_iterator",data:=.fields #[.ref l,.int 0 0] }:=by rw [<- hg1]; exact get?_push_size _ rfl
 have kp1:∀ b o,s.heap.get? b=some o->g1.get? b=some o:=fun b o e=>by rw [<- hg1]; exact get?_push_of_some _ e
 generalize hg2:g1.push { cls:=.type "list",data:=.seq #[] } = g2;have gS:g2.get? g1.objs.size=some (seqObj "list" #[] 0):=by rw [<- hg2]; exact get?_push_size _ rfl
 have kp2:∀ b o,g1.get? b=some o->g2.get? b=some o:=fun b o e=>by rw [<- hg2]; exact get?_push_of_some _ e
 have kp:∀ b o,s.heap.get? b=some o->g2.get? b=some o:=fun b o e=>kp2 b o (kp1 b o e);have zz:s.heap.objs.size<=g2.objs.size:=le_trans (show s.heap.objs.size<=g1.objs.size by rw [z1]; exact le_succ _) (le_of_lt (lt_size gS));have I2:Inv X zn σ H { s with heap:=g2 }:=I.kept (t':=s.toks) kp;have e2:Env0 X.prog X.w X.K X.mg X.base X.A.in1 X.stack { s with heap:=g2 } H:=I2.env0.in1;have hIS:g1.objs.size≠s.heap.objs.size:=by rw [z1]; exact succ_ne_self _
 have i2:s.heap.objs.size<=g1.objs.size:=by rw [z1]; exact le_succ _
 have nI:H s.heap.objs.size=none:=I.hok.fresh (le_refl _);have nS:H g1.objs.size=none:=I.hok.fresh i2;have nIf:s.heap.objs.size∉frs X.stack:=fun m=>absurd (ffr _ m) (lt_irrefl _);have nSf:g1.objs.size∉frs X.stack:=fun m=>absurd (lt_of_lt_of_le (ffr _ m) i2) (lt_irrefl _);have U2:Un (frs X.stack) [] H H s.heap g2:=Un.kept kp;have C2:Caps H g2 cl caps cs:=C.after U2;have isl2:g2.IsList l its.toArray:=⟨_,kp _ _ el,rfl,_,rfl⟩;have hit:g2.IsListIter s.heap.objs.size l 0:=⟨_,kp2 _ _ gI,rfl,rfl⟩;refine wpAny_pure ⟨plainId_quiet F.plain_min_loop _,?_⟩;show codeAny _ X.A (.builtin "min.loop" ⟨[.ref s.heap.objs.size,.ref f,.ref g1.objs.size],[(Str.ofString "default",.none)]⟩) _ { s with heap:=g2 };refine codeAny_mono (R:=fun r s'=>match r with | .ok (.ret u)=>CE X.stack X.prog X.w H s Q u s' | _=>False) ?_ fun r s' z=>?_
 rotate_left
 ·cases r with
  | error e=>exact z.elim
  | ok fl =>
   cases fl with
   | ret u=>exact I.after z
   | next=>exact z.elim
   | brk=>exact z.elim
   | cont=>exact z.elim
 refine codeAny_builtin F.entry_min_loop ?_;rw [Around.under_plainId F.plain_min_loop _];show wpAny _ X.A.in1 (seqItems? (.ref g1.objs.size) >>= _) _ _ _;refine wpAny_bind (wpAny_seqItems gS rfl ?_);show wpAny _ X.A.in1 (tryCatch (pyNext (.ref s.heap.objs.size)) _ >>= _) _ _ _;cases hxs:xs with
 | nil =>
  subst hxs;have hi:its=[]:=by cases rv; rfl
  refine wpAny_bind (wpAny_tryCatch (wpAny_pyNext_list_end (s:={ s with heap:=g2 }) hh hit isl2 (by rw [hi]; rfl) fun h3 k3=>?_));refine wpAny_bind (wpAny_rule (wpAny_pure ?_));exact⟨.non,H,rfl,I.bare,zgV U2 (le_refl _) k3,e2.hok.stays fun b u e o q=>k3 b o (zQ e nI) q,rfl,h0 rfl⟩
 | cons v r =>
  have hx:xs[0]? = some v:=by rw [hxs]; rfl
  obtain⟨u,eu,ru⟩:=rv.get hx;refine wpAny_bind (wpAny_tryCatch (wpAny_pyNext_list_item (s:={ s with heap:=g2 }) hit isl2 (x:=u) (by simpa using eu) fun h3 hit3 hs3=>?_));have k3:∀ b o,b≠s.heap.objs.size->g2.get? b=some o->h3.get? b=some o:=fun b o nb e=>hs3.extBut b o nb e;have e3:Env0 X.prog X.w X.K X.mg X.base X.A.in1 X.stack { s with heap:=h3 } H:=e2.own nI b1 nIf k3 (le_of_eq hs3.1.symm) s.toks;have C3:Caps H h3 cl caps cs:=C2.own (fun x c e=>ne_of_lt (cb x c e)) k3;show wpAny _ X.A.in1 (tryCatch (holding [u] (call (.ref f) [u])) _ >>= _) _ _ _;refine wpAny_bind (wpAny_tryCatch (wpAny_holding (zlK (k:=k) (s:={ s with heap:=h3 }) SC hr.in1 e3 hf hc hbind ru C3 (hb _ _) (h1 v hx) fun u2 s2 z=>?_)));obtain⟨kv,H2,os2,bare2,U3,hok2,r2,j,rfl,hj⟩:=z;obtain⟨t2,rfl⟩:=r2;have hS3:=k3 _ _ hIS gS;have hS2:=U3.keep _ _ hS3 nS nSf (by simp);obtain⟨oI,eI,cI,dI⟩:=id hit3;have eI2:=U3.keep _ _ eI nI nIf (by simp);have nI2:H2 s.heap.objs.size=none:=U3.free _ _ eI nI (by simp);have nS2:H2 g1.objs.size=none:=U3.free _ _ hS3 nS (by simp);have bz:X.base.objs.size<=s2.heap.objs.size:=le_trans b1 (le_of_lt (lt_size eI2));have e4:=e3.after U3 hok2 bare2 bz;have U4:Un (frs X.stack) [] H H2 s.heap s2.heap:=(zgV U2 (le_refl _) k3).trans U3;have s3:=Heap.SameBut.update s2.heap g1.objs.size (Obj.mapSeq fun _=>#[u,.int j t2]);obtain⟨cc,hcc⟩:∃ cc,(s2.heap.update g1.objs.size (Obj.mapSeq fun _=>#[u,.int j t2])).get? g1.objs.size=some (seqObj "list" #[u,.int j t2] cc):=⟨_,get?_update_seq hS2 fun _=>#[u,.int j t2]⟩;have k4:∀ b o,b≠g1.objs.size->s2.heap.get? b=some o->(s2.heap.update g1.objs.size (Obj.mapSeq fun _=>#[u,.int j t2])).get? b=some o:=fun b o nb e=>(s3.2 b nb).trans e;show wpAny _ X.A.in1 (updateSeq g1.objs.size (fun _=>#[u,.int j t2]) >>= _) _ _ _;refine wpAny_bind (wpAny_updateSeq hS2 rfl ?_);rw [nm];refine wpAny_pure ⟨plainId_quiet F.plain_min_loop _,zkC (k:=k) SC hr hbind hb hW b1 (le_refl _) i2 hIS cb ffr r.length 1 { s2 with heap:=s2.heap.update g1.objs.size (Obj.mapSeq fun _=>#[u,.int j t2]) } H2 v u j t2 cc (by rw [hxs,length_cons]; omega) (e4.own nS2 (le_trans b1 i2) nSf k4 (le_of_eq s3.1.symm) s2.toks) (zgV U4 i2 k4) os2 hj ⟨oI,k4 _ oI (Ne.symm hIS) eI2,cI,dI⟩ nI2 hcc nS2 ru (U3.frzs _ _ _ hf) (hc.un U3) ((C3.after U3).own (fun x c e=>ne_of_lt (lt_of_lt_of_le (cb x c e) i2)) k4)⟩
end
end L2
namespace L2
open PySem PySem.Spec PySem.Calls PyProof.Rows
open Sem (wp)
def zgd(DN:List Str)(dsc:List (Str×NameKind))(sc:Scope)(ps caps:List Str)(ks:List Nat):Bool :=
 (ks.length == caps.length) && decide ((ps++caps).Nodup) && ps.all (fun x=>sc.names.lookup x == some .local) && caps.all (fun x=>sc.names.lookup x == some .free && dsc.lookup x == some .cell) &&
 sc.names.all (fun y=>y.2 != .cell && (y.2 != .free || caps.contains y.1)) && (ks.zip caps).all (fun p=>DN[p.1]? == some p.2)
section
variable {X:Cx} {zn:List (Addr×Obj)} {σ:St} {H:Hp} {s:Shared} {dsc scope:Scope} {L:Nat} {ps caps:List Str} {ks:List Nat}
theorem zgM(hk:scope.kind=.function)(hco:scope.isCoroutine=false)(hg:scope.isGenerator=false)(h:zgd X.N dsc.names scope ps caps ks=true):LamScope ps caps scope:=by
 simp only [zgd,Bool.and_eq_true,all_eq_true,beq_iff_eq,decide_eq_true_eq] at h;obtain⟨⟨⟨⟨⟨_,nd⟩,hp⟩,hc⟩,hn⟩,_⟩:=h;refine⟨hk,hco,hg,nd,hp,fun x hx=>(hc x hx).1,fun y hy e=>?_,fun x e=>?_⟩
 ·have:=(hn y hy).1;rw [e] at this;simp at this
 ·have:=(hn _ (PySem.mem_of_lookup e)).2;simpa using this
theorem zi0(hd:X.env.scope=dsc)(hc:X.env.cells=cellsFrom L dsc.names [])(h:zgd X.N dsc.names scope ps caps ks=true):closureFor scope X.env=pure (zke X.env scope.names []):=by
 subst hd;simp only [zgd,Bool.and_eq_true,all_eq_true,beq_iff_eq,decide_eq_true_eq] at h;obtain⟨⟨⟨⟨⟨_,nd⟩,hp⟩,hcp⟩,hn⟩,_⟩:=h;refine zfo fun y hy e=>?_;have:=(hn y hy).2;rw [e] at this;rw [hc];exact W.cellsFrom_some _ _ _ (.inl (hcp _ (by simpa using this)).2)
theorem zlf{cs:List V}(I:Inv X zn σ H s)(hd:X.env.scope=dsc)(hc:X.env.cells=cellsFrom L dsc.names [])(h:zgd X.N dsc.names scope ps caps ks=true)(hσ:ks.map (fun i=>(σ[i]?).join)=cs.map some):Caps H s.heap (zke X.env scope.names []) caps cs:=by
 have hcl:=zi0 hd hc h;subst hd;simp only [zgd,Bool.and_eq_true,all_eq_true,beq_iff_eq,decide_eq_true_eq] at h;obtain⟨⟨⟨⟨⟨hl,nd⟩,hp⟩,hcp⟩,hn⟩,hz⟩:=h;have hsome:∀ x,X.env.scope.names.lookup x=some .cell->(X.env.cells.lookup x).isSome=true:=fun x e=>by
  rw [hc];exact W.cellsFrom_some _ _ _ (.inl e)
 have sub:∀ x c,(zke X.env scope.names []).lookup x=some c->X.env.cells.lookup x=some c/\x∈caps:=fun x c e=>by
  rcases zix (PySem.mem_of_lookup e) with q | ⟨q,ec⟩
  ·cases q
  ·have hx:x∈caps:=by have:=(hn _ q).2; simpa using this
   obtain⟨c',hc'⟩:=isSome_iff_exists.mp (hsome x (hcp x hx).2);refine⟨?_,hx⟩;rw [ec,hc'];rfl
 have has:∀ x∈caps,∃ c,(zke X.env scope.names []).lookup x=some c:=fun x hx=>by
  obtain⟨c,hm⟩:=zgw (env:=X.env) (acc:=[]) (PySem.mem_of_lookup (hcp x hx).1);exact zcy hm
 have lc:cs.length=caps.length:=by
  have:=congrArg List.length hσ;simp only [length_map] at this;omega
 refine⟨lc,fun x y c h1 h2=>I.ok.inj x y c (sub x c h1).1 (sub y c h2).1,fun x=>⟨has x,fun⟨c,e⟩=>(sub x c e).2⟩,fun i x v e1 e2=>?_,fun x c e=>⟨I.freeC x c (sub x c e).1,I.cell x c (sub x c e).1⟩⟩;obtain⟨c,ec⟩:=has x (mem_of_getElem? e1);have hi:i<ks.length:=by
  have:=(List.getElem?_eq_some_iff.mp e1).1;omega
 have ek:=getElem?_eq_getElem hi;have hsl:(σ[ks[i]]?).join=some v:=by
  have:=congrArg (fun l=>l[i]?) hσ;simp only [getElem?_map,e2,ek,map_some] at this;exact Option.some.inj this
 have hsv:σ[ks[i]]? = some (some v):=by
  cases q:σ[ks[i]]? with
  | none=>rw [q] at hsl; cases hsl
  | some a=>rw [q] at hsl; rw [show a=some v from hsl]
 have hN:X.N[ks[i]]? = some x:=hz (ks[i],x) (mem_of_getElem? (i:=i) (by rw [getElem?_zip_eq_some]; exact⟨ek,e1⟩));have hcell:=(hcp x (mem_of_getElem? e1)).2;obtain⟨m,_,hl'⟩:=I.loc;obtain⟨u,rv,lk⟩:=hl' _ x v hN hsv (.inr (.inl hcell));rcases lk with ⟨k1,_⟩ | ⟨_,c',q1,q2⟩
 ·exact absurd ((show X.env.kindOf x=some .cell from hcell).symm.trans k1) dz
 ·rw [(sub x c ec).1] at q1;cases q1;exact⟨c,u,ec,rv,q2⟩
end
def mlP(ks:List Nat)(tb:TE)(σ:St)(Q:VK)(x:V)(H1:Hp):Prop:=∃ l xs cs,x=.ref l/\H1 l=some (.lst xs)/\ks.map (fun i=>(σ[i]?).join)=cs.map some/\∀ H2,Same H1 H2 ->
 ∃ W,MinW l xs.length cs tb Q W/\(xs=[]->Q .non H2)/\∀ v,xs[0]? = some v->tb (some v :: cs.map some) H2 fun kv H'=>∃ j,kv=.int j/\W 1 v j H'
def mlQ(ks:List Nat)(tb:TE)(σ:St)(Q:VK):List V->Hp->Prop
 | [x],H1=>mlP ks tb σ Q x H1
 | _,_=>False
def zou(ks:List Nat)(te tb:TE):TE:=fun σ H Q=>te σ H fun x H1=>mlP ks tb σ Q x H1
theorem zop{X:Cx}{e body:Expr}{te tb:TE}{dsc scope:Scope}{L k:Nat}{x:Str}{caps:List Str}{ks:List Nat}{params:Arguments}{c P:Addr}{p pos kp kp2 cp lp:Pos}{cj:Nat}
  (hT:((c,P),lamKey (X.env.qual ++ "<lambda>") lp)∈tabsG) (hcode:X.env.code=.ref c) (hd:X.env.scope=dsc) (hc:X.env.cells=cellsFrom L dsc.names []) (hk:scope.kind=.function) (hco:scope.isCoroutine=false) (hgn:scope.isGenerator=false) (hl:zgd X.N dsc.names scope [x] caps ks=true)
  (hdf:defaultsOf params X.env=([],[])) (hbind:∀ cl pm c' ctv u,bindArgs (PySem.W.kla_fn "<lambda>" (X.env.qual ++ "<lambda>") params body scope cl pm (.ref c') ctv) ⟨[u],[]⟩=pure [(x,u)])
  (hr:Room (k+2) X.A) (hg:Gl X "min") (hm:X.mg "min" = none) (he':PE X e te)
  (hb:∀ cl f c' s H,Room k (X.A.in1.deeper (PySem.W.envX (X.env.qual ++ "<lambda>") scope s.heap.objs.size f (.ref c') cl))->PE (cxL X.prog X.w X.K X.mg X.base ([x]++caps) (X.env.qual ++ "<lambda>") scope cl f (.ref c') X.A.in1 X.stack s H) body tb)
  (he0:starEach [e] X.env=(false,eval e X.env) :: starEach [] X.env:=by rfl) (he:backTo pos (starEach [e] X.env)=(false,eval e X.env) :: backTo pos (starEach [] X.env):=by rfl) (hpl:(backTo pos (starEach [e] X.env)).any (·.1)=false:=by rfl) :
  PE X (.Call (.Name "min" p) [e] [⟨some "key",.Lambda params body scope lp,kp⟩,⟨some "default",.Constant .none cj cp,kp2⟩] pos) (zou ks te tb):=by
 intro zn s σ H Q I h;refine wpAny_Call_Name_kw (zcR I hg hm zhX ?_ dz dz);refine PyProof.Rows.callWith_kw (thn (za he' zd he0 pos zn s σ H (mlQ ks tb σ Q) I h) fun us s1 ⟨vs,H1,I1,r1,q1⟩=>?_) he hpl rfl rfl
 match vs,r1,q1 with
 | [v],.cons rv .nil,⟨l,xs,cs,ev,el,hcs,hW⟩ =>
  subst ev;cases rv;refine PyProof.Rows.kws_cons (PySem.W.kla_eval hdf (zk9 I1 hcode hT (zi0 hd hc hl) fun f c' ctv pm H2 s2 I2 sm nf hf hcf=>PyProof.Rows.kws_cons (Constant_none (PyProof.Rows.kws_nil ?_))));obtain⟨W,w1,w2,w3⟩:=hW H2 sm;exact zkm (k:=k) (zgM (X:=X) hk hco hgn hl) hr (fun u=>hbind _ _ _ _ u) (fun s H=>hb _ _ _ s H (hr.in1.deeper _)) w1 I2 (sm _ _ el) w2 w3 hf hcf (zlf I2 hd hc hl hcs)
def ziB(ks:List Nat)(de db:DE):DE:=fun δ S R=>de δ S fun x S1=>∃ (ds:List PyData) (cs:List XV) (kf:PyData->Int),zn1 S1 x=some ds/\ks.map (fun i=>(δ[i]?).join)=cs.map some /\
 (∀ d∈ds,∀ R':RX,R' (.d (.int (kf d))) S1->db (some (.d d) :: cs.map some) S1 R')/\(ds=[]->R (.d .none) S1) /\
 ∀ pre d post,ds=pre++d :: post->(∀ a∈pre,kf d<kf a)->(∀ a∈post,kf d<=kf a)->R (.d d) S1
theorem zgS{h o:List Addr}{H:Hp}{δ:XE}{σ:St}(r:RepE h o H δ σ):∀ {ks:List Nat} {cs:List XV},ks.map (fun i=>(δ[i]?).join)=cs.map some->∃ vs:List V,ks.map (fun i=>(σ[i]?).join)=vs.map some/\HasXs h o H cs vs
 | [],[],_=>⟨[],rfl,rfl⟩
 | [],_ :: _,e=>by simp at e
 | _ :: _,[],e=>by simp at e
 | k :: ks,x :: cs,e=>by
  simp only [map_cons,List.cons.injEq] at e;obtain⟨e1,e2⟩:=e;have e3:δ[k]? = some (some x):=by
   cases q:δ[k]? with
   | none=>rw [q] at e1; cases e1
   | some a=>rw [q] at e1; rw [show a=some x from e1]
  obtain⟨v,e4,hv⟩:=r.get k x e3;obtain⟨vs,e5,hl⟩:=zgS r e2;refine⟨v :: vs,?_,v,vs,rfl,hv,hl⟩;simp only [map_cons,e4,e5];rfl
theorem zns{ks:List Nat}{te tb:TE}{de db:DE}(h1:RE te de)(h2:RE tb db):RE (zou ks te tb) (ziB ks de db):=fun h o H δ σ S R Q he hs q c =>
 h1 h o H δ σ S _ _ he hs q fun o1 H1 S1 x v e1 s1 x1 ⟨ds,cs,kf,ek,hcs,hk,h0,hf⟩=>by
  obtain⟨a,vs,rfl,ea,l⟩:=zbt s1 ek x1;obtain⟨cvs,hcv,hx⟩:=zgS (he.mono e1) hcs;refine⟨a,vs,cvs,rfl,ea,hcv,fun H2 sm=>?_⟩;have lv:vs.length=ds.length:=l.length;have at_:∀ o' H',Ex o1 H1 o' H'->RepS h o' H' S1->∃ xs,xs.length=vs.length/\H' a=some (.lst xs)/\HasL (vx h o' H') ds xs:=fun o' H' e' s'=>by
   obtain⟨a',xs,ea',q1,q2⟩:=zbt s' ek (x1.mono e');cases ea';exact⟨xs,q2.length.trans lv.symm,q1,q2⟩
  have step:∀ o' H',Ex o1 H1 o' H'->RepS h o' H' S1->∀ d',d'∈ds->∀ v',HasX h o' H' (.d d') v'->∀ Q':VK,(∀ o2 H3,Ex o1 H1 o2 H3->RepS h o2 H3 S1->Ex o' H' o2 H3->Q' (.int (kf d')) H3)->tb (some v' :: cvs.map some) H' Q':=by
   intro o' H' e' s' d' hd v' hv Q' hQ;have rp:RepE h o' H' (some (.d d') :: cs.map some) (some v' :: cvs.map some):=by
    have:=zda (n:=0) (show HasXs h o' H' (.d d' :: cs) (v' :: cvs) from⟨v',cvs,rfl,hv,hx.mono e'⟩);simpa using this
   refine h2 h o' H' _ _ S1 (fun kv S'=>kv=.d (.int (kf d'))/\S'=S1) _ rp s' (hk d' hd _ ⟨rfl,rfl⟩) fun o2 H3 S2 x v e2 s2 x2 ⟨ex,eS⟩=>?_;subst ex eS;obtain rfl:=zcG.mp (show Has (vx h o2 H3) (.int (kf d')) v from x2);exact hQ o2 H3 (e'.trans e2) s2 e2
  refine⟨fun n best kb H'=>∃ o' pre d post post2,Ex o1 H1 o' H'/\RepS h o' H' S1/\ds=pre++d :: (post++post2)/\n=pre.length+1+post.length/\HasX h o' H' (.d d) best/\kb=kf d/\(∀ a∈pre,kf d<kf a)/\∀ a∈post,kf d<=kf a,fun n best kb H' ⟨o',pre,d,post,post2,ex,rs,ed,en,hb,ekb,hp,hq⟩=>?_,fun z=>?_,fun v hv=>?_⟩
  ·obtain⟨xs,lx,ex',lx2⟩:=at_ o' H' ex rs;have dl:ds.length=n+post2.length:=by rw [ed]; simp only [length_append,length_cons]; omega
   refine⟨xs,lx,ex',fun v' hv=>?_,fun hn=>?_⟩
   ·have hlt:n<ds.length:=by have:=(List.getElem?_eq_some_iff.mp hv).1; omega
    cases post2 with
    | nil=>simp only [length_nil] at dl; omega
    | cons d' post2 =>
     have edn:ds[n]? = some d':=by
      rw [ed,show pre++d :: (post++d' :: post2)=(pre++d :: post)++d' :: post2 by simp,getElem?_append_right (by simp only [length_append,length_cons]; omega),show n - (pre++d :: post).length=0 by simp only [length_append,length_cons]; omega];rfl
     obtain⟨v2,e2,hv2⟩:=lx2.get edn;rw [hv] at e2;cases e2;refine step o' H' ex rs d' (mem_of_getElem? edn) v' hv2 _ fun o2 H3 e3 s3 e4=>⟨kf d',rfl,?_⟩;by_cases hj:kf d'<kb
     ·rw [if_pos hj];refine⟨o2,pre++d :: post,d',[],post2,e3,s3,by rw [ed]; simp,by simp only [length_append,length_cons,length_nil]; omega,HasX.mono e4 (x:=.d d') hv2,rfl,fun a ha=>?_,fun a z=>nomatch z⟩;rcases mem_append.mp ha with ha | ha
      ·have:=hp a ha; omega
      ·rcases mem_cons.mp ha with rfl | ha
       ·omega
       ·have:=hq a ha; omega
     ·rw [if_neg hj];refine⟨o2,pre,d,post++[d'],post2,e3,s3,by rw [ed]; simp,by simp only [length_append,length_cons,length_nil]; omega,HasX.mono e4 (x:=.d d) hb,ekb,hp,fun a ha=>?_⟩;rcases mem_append.mp ha with ha | ha
      ·exact hq a ha
      ·rw [mem_singleton.mp ha]; omega
   ·have p2:post2=[]:=eq_nil_of_length_eq_zero (by omega);subst p2;exact c o' H' S1 (.d d) best (e1.trans ex) rs hb (hf pre d post (by rw [ed,append_nil]) hp hq)
  ·subst z;exact c o1 H2 S1 (.d .none) _ (e1.trans (Ex.of_same sm)) (s1.same sm) xN (h0 (eq_nil_of_length_eq_zero lv.symm))
  ·have ex:=Ex.of_same (o:=o1) sm;cases ds with
   | nil=>rw [eq_nil_of_length_eq_zero lv] at hv; cases hv
   | cons d rest =>
    obtain⟨v2,e2,hv2⟩:=l.get (i:=0) (d:=d) rfl;rw [hv] at e2;cases e2;refine step o1 H2 ex (s1.same sm) d mem_cons_self v (HasX.mono ex (x:=.d d) hv2) _ fun o2 H3 e3 s3 e4=>⟨kf d,rfl,o2,[],d,[],rest,e3,s3,rfl,rfl,HasX.mono e3 (x:=.d d) hv2,rfl,(fun a z=>nomatch z),fun a z=>nomatch z⟩
end L2
namespace L2
open PySem PySem.Spec PySem.Calls PyProof.Rows
def zqR(ta:TA):TE:=fun σ H Q=>ta σ H fun vs H1=>∃ j:Int,vs=[.int j]/\0<=j/\j<=1000/\∀ l,H1 l=none->Q (.ref l) (upd H1 l (.lst ((List.range j.toNat).map fun k:Nat=>V.int (0+k))))
theorem zoV{X:Cx}{a:Expr}{ta:TA}{p p' pos pos':Pos}(hc:X.calm=true)(hgl:Gl X "list")(hml:X.mg "list" = none)(hg:Gl X "range")(hm:X.mg "range" = none)(ha:PA X [a] ta)
  (hs:starEach [a] X.env=[(false,eval a X.env)]:=by rfl)
  (hs3:starEach [.Call (.Name "range" p) [a] [] pos] X.env=[(false,eval (.Call (.Name "range" p) [a] [] pos) X.env)]:=by rfl) :
  PE X (.Call (.Name "list" p') [.Call (.Name "range" p) [a] [] pos] [] pos') (zqR ta):=by
 intro zn s σ H Q I h;refine wpAny_Call_Name_kw (zcR I hgl hml zfz ?_ dz dz);refine PyProof.Rows.callWith_type1 ?_ (by rw [hs3]; rfl) rfl;rw [hs3];show wpAny _ _ (spliced ((false,eval (.Call (.Name "range" p) [a] [] pos) X.env) :: [])) _ _ s;refine Calls.spliced_cons (Call_ (zcR I hg hm boot_range (PyProof.Rows.callWith_type1 (thn (ha pos zn s σ H _ I h) fun us s1 ⟨vs,H1,I1,r1,q1⟩=>?_) hs rfl)));obtain⟨j,e,h0,hl,q⟩:=q1;subst e;cases r1 with
 | cons r rr =>
  cases rr;obtain⟨t,rfl⟩:=r;refine call_range_1 (Calls.spliced_nil ?_);have I2:=I1.kept (h':=s1.heap.push { cls:=.type "range",data:=.fields #[.int 0 s1.toks,.int j t,.int 1 (s1.toks+1)] }) (t':=s1.toks+2) fun b o e=>get?_push_of_some _ e;have en:Builtin.Range.rangeSize 0 j 1=((j.toNat:Nat):Int):=by rw [rangeSize_one]; split <;> omega
  refine ziV (I2.ok.hd hc) (IsRange.new ..) en (by omega) fun h' tk acc c kp e it=>?_;have hv:=zsx it;refine⟨.ref _,_,I2.laid (t':=tk) kp (le_refl _) (show ObjOk X.prog X.w _ h' _ (.lst _) from⟨?_,acc.toList,c,hv,?_⟩),rfl,q _ (I2.hok.fresh (le_refl _))⟩
  ·rw [length_map,length_range,sizeLine_eq];omega
  ·simpa using e
def zkU(a:DA):DE:=fun δ S R=>a δ S fun xs S1=>arg1 xs fun y=>asI y fun j=>(0<=j/\j<=1000)/\R (.d (.list (zfb 0 j.toNat))) S1
theorem zoW{ta:TA}{da:DA}(ha:RA ta da):RE (zqR ta) (zkU da):=fun h o H δ σ S R Q he hs q c =>
 ha h o H δ σ S _ _ he hs q fun o1 H1 S1 xs vs e1 s1 x1 d0=>by
  obtain⟨x,rfl,d2⟩:=za3 d0;obtain⟨j,rfl,hl,d4⟩:=zbp d2;obtain⟨v,rfl,hv⟩:=hxs1 x1;rw [za1 hv];have l:=zhq (H:=vx h o1 H1) ((List.range j.toNat).map fun k:Nat=>0+(k:Int));rw [map_map,map_map] at l;exact⟨j,rfl,hl.1,hl.2,zmn s1 l (c.pre e1) d4⟩
structure CodeAt(K:W.Frag)(mg:Str->Option Value)(x:Str)(c:Addr):Prop where
 ex:∀ f oc od fd osl,mg x=some (.ref f)->K.lookup f=some ⟨oc,od,.func fd,osl⟩->fd.code=.ref c
theorem CodeAt.of{K:W.Frag}{h:Heap}{mg:Str->Option Value}{x:Str}{c P:Addr}(X:K.In h)(G:h.Ns mainGlobals mg)(ht:W.tabIn K x=some (c,P)):CodeAt K mg x c :=
 ⟨fun f oc od fd osl hm hl=>W.law_code X G ht hm (X _ _ hl) rfl⟩
section
variable {P:Program} {w:World} {K:W.Frag} {mg:Str->Option Value} {base:Heap} {x:Str} {st:Stmt} {N ps:List Str} {k:Nat} {c:Addr}
theorem zq2{q:PN}(D:Dd K mg x st ps)(C:CodeAt K mg x c)(S:FnScope N ps (zi st))(n:Nat)(hn:N.length=ps.length+n)
  (hbody:∀ (f:Addr) (A:Around) (outer:List Env) (s:Shared) (H:Hp) (E:XK),Room k (A.deeper (envOfC x (zi st) s.heap.objs.size f (.ref c))) ->
   ∃ t dt,PSs (zkt CX0 P w K mg base N x (zi st) f (.ref c) A outer s H E).nox (zbW st) t/\RS t dt/\∀ xs S R,q xs S R->dt (zbi S.length R) (xs.map some++List.replicate n none) S):Df P w K mg base x ps (k+1) (spN ps q):=by
 obtain⟨f,fd,F,hm,hb⟩:=D.ex;have kp:=F.kp;obtain⟨oc,od,kV,doc,pm,an,cdv,ct,osl,rfl,lk,hcd⟩:=F.ex;obtain rfl:cdv=.ref c:=C.ex f _ _ _ _ hm lk;refine⟨f,_,ztc lk hcd S (fun vs H Q E h=>h.1) fun A outer s H vs Q E hr ⟨hl,h,o,S',xs,R,hs',hx,hq,c⟩=>?_,hm,kp,hb⟩;obtain⟨t,dt,h1,h2,h3⟩:=hbody f A outer s H E hr;refine⟨t,h1.nox,h2 h o H _ _ S' _ _ ?_ hs' (h3 xs S' R hq) (eok hs' c)⟩;have e:N.length - vs.length=n:=by omega
 unfold start;rw [e];exact zda hx
end
end L2
namespace L2
open PySem PySem.Spec PySem.Calls PyProof.Rows
def zrb(ta:TA):TE:=fun σ H Q=>ta σ H fun vs H1=>∃ i j:Int,vs=[.int i,.int j,.int (-1)]/\(-1000<=i/\i<=1000)/\(-1000<=j/\j<=1000)/\∀ l,H1 l=none->Q (.ref l) (upd H1 l (.lst ((List.range (i - j).toNat).map fun k:Nat=>V.int (i - k))))
theorem zlS{i j:Int}(h1:-1000<=i/\i<=1000)(h2:-1000<=j/\j<=1000):Builtin.Range.rangeSize i j (-1)=(((i - j).toNat:Nat):Int)/\Builtin.Range.small i j (-1)=true:=by
 have e2:Builtin.Range.rangeSize i j (-1)=(((i - j).toNat:Nat):Int):=by
  unfold Builtin.Range.rangeSize;rw [if_neg dz];split
  ·rw [show (- -1:Int)=1 by decide,Int.ediv_one];omega
  ·omega
 refine⟨e2,?_⟩;unfold Builtin.Range.small;rw [e2,if_neg dz];simp only [Builtin.Range.rangeFitsLong,Bool.and_eq_true,Bool.or_eq_true,decide_eq_true_eq,beq_iff_eq];omega
theorem znx{i:Int}{n:Nat}{acc:Array Value}(h:ItemsOf (fun k v=>∃ t,v=.int (i+(k:Int)*(-1)) t) acc n):Vals ((List.range n).map fun k:Nat=>V.int (i - k)) acc.toList:=by
 obtain⟨hz,hv⟩:=h;refine zim _ _ (by simp [hz]) fun k x u ex eu=>?_;rw [getElem?_map] at ex;have hk:k<n:=by
  have:=(List.getElem?_eq_some_iff.mp eu).1;simpa [hz] using this
 rw [List.getElem?_range hk] at ex;cases ex;obtain⟨tk,rfl⟩:=hv k u (by simpa using eu);exact⟨tk,by rw [show i+(k:Int)*(-1)=i - k by omega]⟩
theorem zp9{X:Cx}{a b c:Expr}{ta:TA}{p p' pos pos':Pos}(hc:X.calm=true)(hgl:Gl X "list")(hml:X.mg "list" = none)(hg:Gl X "range")(hm:X.mg "range" = none)(ha:PA X [a,b,c] ta)
  (hs:starEach [a,b,c] X.env=[(false,eval a X.env),(false,eval b X.env),(false,eval c X.env)]:=by rfl) (hs2:starEach [b,c] X.env=[(false,eval b X.env),(false,eval c X.env)]:=by rfl)
  (hs3:starEach [.Call (.Name "range" p) [a,b,c] [] pos] X.env=[(false,eval (.Call (.Name "range" p) [a,b,c] [] pos) X.env)]:=by rfl) :
  PE X (.Call (.Name "list" p') [.Call (.Name "range" p) [a,b,c] [] pos] [] pos') (zrb ta):=by
 intro zn s σ H Q I h;refine wpAny_Call_Name_kw (zcR I hgl hml zfz ?_ dz dz);refine PyProof.Rows.callWith_type1 ?_ (by rw [hs3]; rfl) rfl;rw [hs3];show wpAny _ _ (spliced ((false,eval (.Call (.Name "range" p) [a,b,c] [] pos) X.env) :: [])) _ _ s;refine Calls.spliced_cons (Call_ (zcR I hg hm boot_range (PyProof.Rows.callWith_type1 (thn (ha pos zn s σ H _ I h) fun us s1 ⟨vs,H1,I1,r1,q1⟩=>?_) (by rw [hs,hs2]) (by rw [hs2]; rfl))));obtain⟨i,j,e,h1,h2,q⟩:=q1;subst e;cases r1 with
 | cons r rr =>
  cases rr with
  | cons r' rr =>
   cases rr with
   | cons r'' rr =>
    cases rr;obtain⟨t,rfl⟩:=r;obtain⟨t',rfl⟩:=r';obtain⟨t'',rfl⟩:=r'';refine call_range_3 dz (Calls.spliced_nil ?_) (.inl (PyProof.noPylong_small (by omega)));have I2:=I1.kept (h':=s1.heap.push { cls:=.type "range",data:=.fields #[.int i t,.int j t',.int (-1) t''] }) (t':=s1.toks) fun b o e=>get?_push_of_some _ e;obtain⟨en,sm⟩:=zlS h1 h2;refine call_list_range (I2.ok.hd hc) (IsRange.new ..) sm en (by omega) fun h' tk acc c kp e it=>?_;have hv:=znx it;refine⟨.ref _,_,I2.laid (t':=tk) kp (le_refl _) (show ObjOk X.prog X.w _ h' _ (.lst _) from⟨?_,acc.toList,c,hv,?_⟩),rfl,q _ (I2.hok.fresh (le_refl _))⟩
    ·rw [length_map,length_range,sizeLine_eq];omega
    ·simpa using e
def zlG(a:DA):DE:=fun δ S R=>a δ S fun xs S1=>∃ i j:Int,xs=[.d (.int i),.d (.int j),.d (.int (-1))]/\(-1000<=i/\i<=1000)/\(-1000<=j/\j<=1000)/\R (.d (.list (zmN i (i - j).toNat))) S1
theorem zoQ{ta:TA}{da:DA}(ha:RA ta da):RE (zrb ta) (zlG da):=fun h o H δ σ S R Q he hs q c =>
 ha h o H δ σ S _ _ he hs q fun o1 H1 S1 xs vs e1 s1 x1 d0=>by
  obtain⟨i,j,rfl,h1,h2,d1⟩:=d0;obtain⟨v1,r1,rfl,hv1,l1⟩:=x1;obtain⟨v2,r2,rfl,hv2,l2⟩:=l1;obtain⟨v3,r3,rfl,hv3,l3⟩:=l2;have l4:r3=[]:=l3;subst l4;rw [za1 hv1,za1 hv2,za1 hv3];have l:=zhq (H:=vx h o1 H1) ((List.range (i - j).toNat).map fun k:Nat=>i - (k:Int));rw [map_map,map_map] at l;exact⟨i,j,rfl,h1,h2,zmn s1 l (c.pre e1) d1⟩
end L2
namespace L2
open PySem PySem.Spec PySem.Calls PyProof.Rows
open Sem (wp)
def vi(H:Hp):Hp:=fun a=>match H a with
 | some (.tup xs)=>some (.tup xs)
 | some (.frz o u)=>some (.frz o u)
 | _=>none
theorem zuk{H:Hp}{b:Addr}{u:HO}:vi H b=some u->H b=some u/\((∃ xs,u=.tup xs)\/∃ o w,u=.frz o w):=by
 intro e;unfold vi at e;cases q:H b with
 | none=>rw [q] at e; cases e
 | some z =>
  rw [q] at e;cases z <;> first | (cases e; exact⟨rfl,.inl ⟨_,rfl⟩⟩) | (cases e; exact⟨rfl,.inr ⟨_,_,rfl⟩⟩) | cases e
theorem zvq{fs ex h o:List Addr}{H0 H:Hp}{g g':Heap}{S:Sto}(U:Un fs ex H0 H g g')(r:RepS h o H S):Same (vi H0) (vx h o H):=fun b u e=>by
 obtain⟨e1,e2⟩:=zuk e;have eH:H b=some u:=by
  rcases e2 with ⟨xs,rfl⟩ | ⟨ob,w,rfl⟩
  ·exact U.tups _ _ e1
  ·exact U.frzs _ _ _ e1
 refine zan.mpr ⟨fun m=>?_,fun m=>?_,eH⟩
 ·obtain⟨z,ez⟩:=r.hal b m;rw [eH] at ez;rcases e2 with ⟨xs,rfl⟩ | ⟨ob,w,rfl⟩ <;> cases z <;> cases ez
 ·obtain⟨z,ez⟩:=r.oal b m;rw [eH] at ez;rcases e2 with ⟨xs,rfl⟩ | ⟨ob,w,rfl⟩ <;> cases ez
mutual
def ImD:PyData->Bool
 | .list _=>false
 | .dict _=>false
 | .tuple ds=>ImL ds
 | .none=>true
 | .bool _=>true
 | .int _=>true
 | .str _=>true
def ImL:List PyData->Bool
 | []=>true
 | d :: ds=>ImD d && ImL ds
end
theorem zjy{ds:List PyData}:ImD (.tuple ds)=ImL ds:=by simp only [ImD]
theorem zsC{i:Int}:ImD (.int i)=true:=by simp only [ImD]
theorem zht:∀ {ds:List PyData},(∀ d∈ds,ImD d=true)->ImL ds=true
 | [],_=>by simp only [ImL]
 | d :: ds,h=>by simp only [ImL,Bool.and_eq_true]; exact⟨h d mem_cons_self,zht fun e m=>h e (mem_cons_of_mem _ m)⟩
section
variable {H:Hp}
mutual
theorem Has.im{g o:List Addr}:∀ (d:PyData) (v:V),ImD d=true->Has (vx g o H) d v->Has (vi H) d v
 | .none,_,_,h=>by simp only [Has] at h ⊢; exact h
 | .bool _,_,_,h=>by simp only [Has] at h ⊢; exact h
 | .int _,_,_,h=>by simp only [Has] at h ⊢; exact h
 | .str _,_,_,h=>by simp only [Has] at h ⊢; exact h
 | .list ds,v,i,h=>by simp only [ImD,Bool.false_eq_true] at i
 | .dict ds,v,i,h=>by simp only [ImD,Bool.false_eq_true] at i
 | .tuple ds,v,i,h=>by
  simp only [Has] at h ⊢;simp only [ImD] at i;obtain⟨a,vs,e,q,l⟩:=h;have q':H a=some (.tup vs):=(zan.mp q).2.2;exact⟨a,vs,e,by unfold vi; rw [q'],HasL.im ds vs i l⟩
theorem HasL.im{g o:List Addr}:∀ (ds:List PyData) (vs:List V),ImL ds=true->HasL (vx g o H) ds vs->HasL (vi H) ds vs
 | [],_,_,h=>by simp only [HasL] at h ⊢; exact h
 | d :: ds,vs,i,h=>by
  simp only [HasL] at h ⊢;simp only [ImL,Bool.and_eq_true] at i;obtain⟨v,r,e,q,l⟩:=h;exact⟨v,r,e,Has.im d v i.1 q,HasL.im ds r i.2 l⟩
end
end
theorem zlr{h o:List Addr}{H:Hp}:∀ {ds:List PyData} {vs:List V},HasL (vx h o H) ds vs->HasXs h o H (ds.map XV.d) vs
 | [],vs,q=>by simp only [HasL] at q; exact q
 | d :: ds,vs,q=>by
  simp only [HasL] at q;obtain⟨v,r,e,hv,l⟩:=q;exact⟨v,r,e,hv,zlr l⟩
theorem zn6{h o:List Addr}{H:Hp}:∀ {ds:List PyData} {vs:List V},HasXs h o H (ds.map XV.d) vs->HasL (vx h o H) ds vs
 | [],vs,q=>by simp only [HasL]; exact q
 | d :: ds,vs,q=>by
  obtain⟨v,r,e,hv,l⟩:=q;simp only [HasL];exact⟨v,r,e,hv,zn6 l⟩
theorem zj4{h o:List Addr}{H:Hp}:∀ {xs ys:List XV} {vs ws:List V},HasXs h o H xs vs->HasXs h o H ys ws->HasXs h o H (xs++ys) (vs++ws)
 | [],ys,vs,ws,q,r=>by rw [show vs=[] from q]; exact r
 | x :: xs,ys,vs,ws,⟨v,r',e,hv,l⟩,r=>by subst e; exact⟨v,r'++ws,rfl,hv,zj4 l r⟩
structure LamOk(P:Program)(w:World)(K:W.Frag)(mg:Str->Option Value)(base:Heap)(k:Nat)(ps:List Str)(F:Addr)(q:PN)(s0:Shared)(H0:Hp):Prop where
 at_:∃ oc od fd sl,H0 F=some (.frz ⟨oc,od,.func fd,sl⟩ (.own 0))
 run:∀ (A:Around) (outer:List Env) (s:Shared) (H:Hp) (us:List Value) (vs:List V) (Q:VK),Room k A->Env0 P w K mg base A outer s H->(∃ fs,Un fs [] H0 H s0.heap s.heap)->Vals vs us->spN ps q vs H Q E0 ->
  codeAny (model P w) A (.call (.ref F) ⟨us,[]⟩) (fun r' s'=>match r' with | .ok (.ret u)=>CE outer P w H s Q u s' | _=>False) s
def zsG(db:DE)(cds:List PyData):PN:=fun xs S R=>db (xs.map some++cds.map (fun d=>some (XV.d d))) S R
section
variable {P:Program} {w:World} {K:W.Frag} {mg:Str->Option Value} {base:Heap} {s0:Shared} {H0:Hp}
theorem zo3{k:Nat}{ps caps:List Str}{qual:Str}{params:Arguments}{body:Expr}{scope:Scope}{cl:List (Str×Addr)}{pm ctv:Value}{c' F:Addr}{cs:List V}{cds:List PyData}{t:TE}{db:DE}
  (S:LamScope ps caps scope) (hf:H0 F=some (.frz (zf9 qual params body scope cl pm c' ctv) (.own 0))) (hc:CodeFz H0 c' qual)
  (hbind:∀ us:List Value,us.length=ps.length->bindArgs (W.kla_fn "<lambda>" qual params body scope cl pm (.ref c') ctv) ⟨us,[]⟩=pure (ps.zip us)) (C:Caps H0 s0.heap cl caps cs)
  (hb:∀ A outer s H,Room k (A.deeper (W.envX qual scope s.heap.objs.size F (.ref c') cl))->PE (cxL P w K mg base (ps++caps) qual scope cl F (.ref c') A outer s H) body t) (hd:RE t db) (him:HasL (vi H0) cds cs) :
  LamOk P w K mg base (k+1) ps F (zsG db cds) s0 H0:=by
 refine⟨⟨_,_,_,_,hf⟩,fun A outer s H us vs Q hr e0 ⟨fs,U⟩ r ⟨hl,h,o,S',xs,R,hs,hx,hq,c⟩=>?_⟩;have hf':=U.frzs _ _ _ hf;have hc':=hc.un U;have C':=C.after U;obtain⟨g,_⟩:=(show ObjOk P w H s.heap F (.frz _ (.own 0)) from e0.hok _ _ hf');refine znZ S hr e0 g (hc'.rec e0.hok) (hbind us (by rw [<- r.length]; exact hl)) hl r C' (hb A outer s H (hr.deeper _)) ?_;refine hd h o H _ _ S' R Q ?_ hs hq c;have hcs:HasXs h o H (cds.map XV.d) cs:=zlr (HasL.mono (zvq U hs) _ _ him);have:=zda (n:=0) (zj4 hx hcs);simpa [Function.comp_def] using this
end
section
variable {X:Cx}
theorem zmq{F:Addr}{i:Nat}{x:Str}{ps:List Str}{k j:Nat}{pos pos':Pos}{e:Expr}{es:List Expr}{t:TA}{q:PN}(L:LamOk X.prog X.w X.K X.mg X.base k ps F q X.s₀ X.H₀)(hr:Room j X.A)(hk:k<=j)(hv:PE X (.Name x pos') (zna i))(ha:PA X (e :: es) t)
  (hex:X.ex=[]:=by rfl) (q1:starEach (e :: es) X.env=(false,eval e X.env) :: starEach es X.env:=by rfl) (q2:((backTo pos (starEach es X.env)).any fun x=>x.fst)=false:=by rfl):PE X (.Call (.Name x pos') (e :: es) [] pos) (zqC i F (spN ps q) t):=by
 obtain⟨oc,od,fd,sl,hF⟩:=L.at_;have hat:∀ {zn σ H s},Inv X zn σ H s->W.FnAt F s.heap:=fun {zn σ H s} I=>by
  have e1:=I.base.frzs _ _ _ hF;obtain⟨g,_⟩:=(show ObjOk X.prog X.w H s.heap F (.frz _ (.own 0)) from I.hok _ _ e1);exact⟨oc,od,fd,sl,g⟩
 intro zn s σ H Q I h;obtain⟨hs,h⟩:=h;refine wpAny_Call_Name_kw (thn (hv zn s σ H (fun v H1=>v=.ref F/\zl7 (spN ps q) [] E0 t σ H1 Q) I ⟨_,hs,rfl,h⟩) fun u s1 ⟨v,H1,I1,rx,ex,q⟩=>?_);subst ex;obtain rfl:u=Value.ref F:=rx;refine W.callWith_F (hat I1) (thn (ha pos zn s1 σ H1 _ I1 q) fun us s2 ⟨vs,H2,I2,r,q3⟩=>⟨hat I2,?_⟩) q1 q2;replace q3:spN ps _ (vs++[]) H2 Q E0:=q3;rw [append_nil] at q3;have U:=I2.base;rw [hex] at U;refine wpAny_call (codeAny_mono (L.run X.A X.stack s2 H2 us vs Q (hr.mono hk) I2.env0 ⟨_,U⟩ r q3) fun r' s' z=>?_);cases r' with
 | error e=>exact z.elim
 | ok fl =>
  cases fl with
  | ret u'=>exact I2.after z
  | next=>exact z.elim
  | brk=>exact z.elim
  | cont=>exact z.elim
end
structure FnOkG(P:Program)(w:World)(K:W.Frag)(mg:Str->Option Value)(base:Heap)(k:Nat)(f:Addr)(fd:FuncData)(ps:List Str)(G:Shared->Hp->Prop)(sp:Sp):Prop where
 len:∀ vs H Q E,sp vs H Q E->vs.length=ps.length
 run:∀ (A:Around) (outer:List Env) (s:Shared) (H:Hp) (args:Args) (us:List Value) (vs:List V) (Q:VK) (E:XK),Room k A->Env0 P w K mg base A outer s H->BindsTo s fd args (ps.zip us)->Vals vs us->G s H->sp vs H Q E ->
  codeAny (model P w) A (.call (.ref f) args) (CR CX0 outer P w H s Q E) s
structure DfH(P:Program)(w:World)(K:W.Frag)(mg:Str->Option Value)(base:Heap)(x:Str)(ps:List Str)(k kl:Nat)(pl:List Str)(qc:Addr->PN->PN):Prop where
 ex:∃ f fd,(∀ F q,FnOkG P w K mg base k f fd ps (LamOk P w K mg base kl pl F q) (spN ps (qc F q)))/\mg x=some (.ref f)/\W.keepIn K (.ref f)=true/\Binds K fd ps []
theorem zt8{P:Program}{w:World}{K:W.Frag}{mg:Str->Option Value}{base:Heap}{k:Nat}{f:Addr}{name qual:Str}{params:Arguments}{body:List Stmt}{scope:Scope}{dV kV doc pm cdv ct oc:Value}{an od:Option Addr}{G:Shared->Hp->Prop}
  {osl:Array (Option Value)} {N ps:List Str} {sp:Sp} (lk:K.lookup f=some ⟨oc,od,.func (W.fnOf name qual params body scope dV kV doc pm an cdv ct),osl⟩) (hcd:W.codeIn K cdv qual=true) (S:FnScope N ps scope)
  (len:∀ vs H Q E,sp vs H Q E->vs.length=ps.length)
  (hbody:∀ (A:Around) (outer:List Env) (s:Shared) (H:Hp) (vs:List V) (Q:VK) (E:XK),Room k (A.deeper (envOfC qual scope s.heap.objs.size f cdv))->G s H->sp vs H Q E ->
   ∃ t,PSs (zkt CX0 P w K mg base N qual scope f cdv A outer s H E) body t/\t { nx:=fun _ H'=>Q .non H',rt:=Q } (start N vs) H) :
  FnOkG P w K mg base (k+1) f (W.fnOf name qual params body scope dV kV doc pm an cdv ct) ps G sp:=by
 refine⟨len,fun A outer s H args us vs Q E hr e0 hb r hG hsp=>?_⟩;have hl:=len _ _ _ _ hsp;have KX:K.In s.heap:=e0.mod.kin.keeps fun b o e=>(e0.bs b o e).1;have lim:s.heap.NoLimit:=e0.mod.nolimit.keeps fun b o e=>(e0.bs b o e).1;have hkind:∀ y∈ps.zip us,scope.names.lookup y.1=some .local\/(scope.names.lookup y.1=some .cell/\((cellsFrom (s.heap.objs.size+1) scope.names []).lookup y.1).isSome=true):=fun⟨n,v⟩ hy=>by
  rcases S.par n (of_mem_zip hy).1 with q | q
  ·exact .inl q
  ·exact .inr ⟨q,W.cellsFrom_some _ _ _ (.inl q)⟩
 refine codeAny_call_function hr.depth (KX _ _ lk) rfl S.co S.gen rfl (W.codeRec_of KX hcd) (hb _ _ _ _ ?_);refine wpAny_newFunctionEnv_cells S.kind hkind fun env he s1 x=>?_;subst he;refine⟨lim.keeps x.toInCall.keep,codeAny_func ?_⟩;obtain⟨t,ht,hq⟩:=hbody A outer s H vs Q E (hr.deeper _) hG hsp;have I:Inv (zkt CX0 P w K mg base N qual scope f cdv A outer s H E) [] (start N vs) H s1:=zjM S hr.hd e0 hl r x;refine wpAny_mono (ht [] s1 (start N vs) H _ I hq) (fun fl s' hs=>?_) fun e s' hs=>hs;have fin:∀ {σ':St} {H':Hp} {v:V} {u:Value},Inv (zkt CX0 P w K mg base N qual scope f cdv A outer s H E) [] σ' H' s'->RelV v u->Q v H'->CE outer P w H s Q u s' :=
  fun {σ' H' v u} J rv q=>⟨v,H',J.os,J.bare,J.base,J.hok,rv,q⟩
 cases fl with
 | ret u =>
  obtain⟨v,σ',H',J,rv,q⟩:=hs;exact fin J rv q
 | next =>
  obtain⟨σ',H',J,q⟩:=hs;exact fin (v:=V.non) (u:=Value.none) J rfl q
 | brk =>
  obtain⟨_,_,_,q⟩:=hs;exact False.elim q
 | cont =>
  obtain⟨_,_,_,q⟩:=hs;exact False.elim q
section
variable {P:Program} {w:World} {K:W.Frag} {mg:Str->Option Value} {base:Heap} {x:Str} {st:Stmt} {N ps pl:List Str} {k kl:Nat}
theorem ztH{qc:Addr->PN->PN}(D:Dd K mg x st ps)(S:FnScope N ps (zi st))(n:Nat)(hn:N.length=ps.length+n)
  (hbody:∀ (F:Addr) (ql:PN) (f:Addr) (cdv:Value) (A:Around) (outer:List Env) (s:Shared) (H:Hp) (E:XK),Room k (A.deeper (envOfC x (zi st) s.heap.objs.size f cdv))->LamOk P w K mg base kl pl F ql s H ->
   ∃ t dt,PSs (zkt CX0 P w K mg base N x (zi st) f cdv A outer s H E).nox (zbW st) t/\RS t dt/\∀ xs S R,qc F ql xs S R->dt (zbi S.length R) (xs.map some++List.replicate n none) S):DfH P w K mg base x ps (k+1) kl pl qc:=by
 obtain⟨f,fd,F,hm,hb⟩:=D.ex;have kp:=F.kp;obtain⟨oc,od,kV,doc,pm,an,cdv,ct,osl,rfl,lk,hcd⟩:=F.ex;refine⟨f,_,fun Fl ql=>zt8 lk hcd S (fun vs H Q E h=>h.1) fun A outer s H vs Q E hr hG ⟨hl,h,o,S',xs,R,hs',hx,hq,c⟩=>?_,hm,kp,hb⟩;obtain⟨t,dt,h1,h2,h3⟩:=hbody Fl ql f cdv A outer s H E hr hG;refine⟨t,h1.nox,h2 h o H _ _ S' _ _ ?_ hs' (h3 xs S' R hq) (eok hs' c)⟩;have e:N.length - vs.length=n:=by omega
 unfold start;rw [e];exact zda hx
end
def LamFz(X:Cx)(params:Arguments)(body:Expr)(scope:Scope)(H:Hp)(F:Addr):Prop:=∃ pm c' ctv,H F=some (.frz (zf9 (X.env.qual ++ "<lambda>") params body scope (zke X.env scope.names []) pm c' ctv) (.own 0))/\CodeFz H c' (X.env.qual ++ "<lambda>")
def zwb(X:Cx)(params:Arguments)(body:Expr)(scope:Scope):TE:=fun σ H Q=>∀ F H',Same H H'->LamFz X params body scope H' F->Q (.ref F) H'
def zqg(X:Cx)(params:Arguments)(body:Expr)(scope:Scope)(ks:List Nat)(qc:Addr->PN->PN)(db:DE)(ps:List Str)(t:TA):TE:=fun σ H Q=>t σ H fun vs H1 =>
 ∃ F cds cs,LamFz X params body scope H1 F/\ks.map (fun i=>(σ[i]?).join)=cs.map some/\HasL (vi H1) cds cs/\spN ps (qc F (zsG db cds)) vs H1 Q E0
section
variable {X:Cx} {dsc scope:Scope} {L kl k j:Nat} {pl caps ps:List Str} {ks:List Nat} {params:Arguments} {body:Expr} {c P:Addr} {lp pos pos':Pos} {x:Str} {qc:Addr->PN->PN} {e:Expr} {es:List Expr} {t:TA} {tb:TE} {db:DE}
theorem ztz(hT:((c,P),lamKey (X.env.qual ++ "<lambda>") lp)∈tabsG)(hcode:X.env.code=.ref c)(hd:X.env.scope=dsc)(hc:X.env.cells=cellsFrom L dsc.names [])(hl:zgd X.N dsc.names scope pl caps ks=true)(hdf:defaultsOf params X.env=([],[])):
  PE X (.Lambda params body scope lp) (zwb X params body scope):=by
 intro zn s σ H Q I h;exact W.kla_eval hdf (zk9 I hcode hT (zi0 hd hc hl) fun f c' ctv pm H2 s2 I2 sm nf hf hcf=>⟨.ref f,H2,I2,rfl,h f H2 sm ⟨pm,c',ctv,hf,hcf⟩⟩)
theorem zpd(D:DfH X.prog X.w X.K X.mg X.base x ps k (kl+1) pl qc)(hr:Room j X.A)(hk:k<=j)(hd:X.env.scope=dsc)(hc:X.env.cells=cellsFrom L dsc.names [])(hk1:scope.kind=.function)(hco:scope.isCoroutine=false)(hgn:scope.isGenerator=false)(hl:zgd X.N dsc.names scope pl caps ks=true)
  (hbind:∀ cl pm c' ctv (us:List Value),us.length=pl.length->bindArgs (W.kla_fn "<lambda>" (X.env.qual ++ "<lambda>") params body scope cl pm (.ref c') ctv) ⟨us,[]⟩=pure (pl.zip us))
  (hb:∀ cl f c' A outer s H,Room kl (A.deeper (W.envX (X.env.qual ++ "<lambda>") scope s.heap.objs.size f (.ref c') cl))->PE (cxL X.prog X.w X.K X.mg X.base (pl++caps) (X.env.qual ++ "<lambda>") scope cl f (.ref c') A outer s H) body tb) (hdb:RE tb db)
  (ha:PA X (e :: es) t) (hg:Gl X x:=by rfl) (hdg:(x == ("__debug__":Str))=false:=by decide)
  (q1:starEach (e :: es) X.env=(false,eval e X.env) :: starEach es X.env:=by rfl) (q2:((backTo pos (starEach es X.env)).any fun x=>x.fst)=false:=by rfl) :
  PE X (.Call (.Name x pos') (e :: es) [] pos) (zqg X params body scope ks qc db ps t):=by
 obtain⟨f,fd,Fo,hm,kp,hbi⟩:=D.ex;intro zn s σ H Q I h;refine wpAny_Call_Name_kw (zkl I hg hm ?_ hdg);refine W.callWith_K (h₀:=X.base) I.ok.mod.kin kp (thn (ha pos zn s σ H _ I h) fun us s1 ⟨vs,H1,I1,r,F,cds,cs,⟨pm,c',ctv,hf,hcf⟩,hcs,him,hq⟩=>⟨I1.kIn,?_⟩) q1 q2;have hlen:us.length=ps.length:=by rw [<- r.length]; exact hq.1
 have bd:=hbi s1 us I1.kIn (by rw [append_nil]; exact hlen);rw [append_nil] at bd;have LO:LamOk X.prog X.w X.K X.mg X.base (kl+1) pl F (zsG db cds) s1 H1:=zo3 (zgM (X:=X) hk1 hco hgn hl) hf hcf (fun us hu=>hbind _ _ _ _ us hu) (zlf I1 hd hc hl hcs) (fun A outer s H hr=>hb _ _ _ A outer s H hr) hdb him;refine wpAny_call (codeAny_mono ((Fo F _).run X.A X.stack s1 H1 ⟨us,[]⟩ us vs Q E0 (hr.mono hk) I1.env0 bd r LO hq) fun r' s' z=>?_);cases r' with
 | error e=>exact False.elim z
 | ok fl =>
  cases fl with
  | ret u=>exact I1.after z
  | next=>exact False.elim z
  | brk=>exact False.elim z
  | cont=>exact False.elim z
end
def ziO(ks:List Nat)(qc:Addr->PN->PN)(db de:DE):DE:=fun δ S R=>de δ S fun x S1=>∃ (d:PyData) (cds:List PyData),x=.d d/\ks.map (fun i=>(δ[i]?).join)=cds.map (fun d=>some (XV.d d))/\ImL cds=true /\
 ∀ F,qc F (zsG db cds) [.d d,.o (.ref F)] [] (ret0 S1 R)
theorem zor{X:Cx}{params:Arguments}{body:Expr}{scope:Scope}{ks:List Nat}{qc:Addr->PN->PN}{db de:DE}{te:TE}{a b:Str}(h1:RE te de):RE (zqg X params body scope ks qc db [a,b] (ziZ te (ziZ (zwb X params body scope) zrY))) (ziO ks qc db de):=fun h o H δ σ S R Q he hs q c =>
 h1 h o H δ σ S _ _ he hs q fun o1 H1 S1 x v e1 s1 x1 ⟨d,cds,ex,hcs,him,hq⟩=>by
  subst ex;intro F H2 sm hfz;have ex2:Ex o1 H1 o1 H2:=Ex.of_same sm;have s2:=s1.same sm;have hcs':ks.map (fun i=>(δ[i]?).join)=(cds.map XV.d).map some:=by rw [hcs,map_map]; rfl
  obtain⟨cvs,hcv,hx⟩:=zgS ((he.mono e1).mono ex2) hcs';refine⟨F,cds,cvs,hfz,hcv,HasL.im _ _ him (zn6 hx),rfl,h++o1,[],[],[.d d,.o (.ref F)],_,rep0 s2,⟨v,[.ref F],rfl,hx0 (x1.mono ex2),.ref F,[],rfl,rfl,rfl⟩,hq F,cn0 s2 (c.pre (e1.trans ex2))⟩
end L2
namespace L2
open PySem PySem.Spec PySem.Calls PyProof.Rows
end L2
namespace HT
open PySem PyProof.Rows
end HT
namespace L2
open PySem PySem.Spec PyProof.Rows
section
theorem lo{sc:Scope}{x:Str}(h:sc.names.lookup x=some .local:=by rfl):Loc sc x:=Or.inl h
theorem fsd{N P:List Str}{sc:Scope}(h:zvG N P sc=true:=by decide +kernel):FnScope N P sc:=fsc h
end
end L2
namespace My
open PySem L2
def zdb:PN:=fun xs S R=>(zao (ze2 (dCB zi1 (zc (zg 0) (zc (dO (.ty "int")) zo))) (zoh (dCB zi1 (zc (zg 0) (zc (dO (.ty "bool")) zo)))))) (zbi S.length R) (xs.map some++List.replicate 0 none) S
def zdc:PN:=fun xs S R=>(zM (zac (dOp (dI (fun _ j=>0<j) fun i j=>i % j) (dOp zbP (zg 0) (dC (.int 7919))) (dC (.int 2147483647))) (zj 0)) (zao (dOp (dI (fun _ j=>0<j) fun i j=>i % j) (dOp zbP (dOp zbP (dOp zfX (zg 0) (zg 0)) (dOp zfX (dC (.int 48271)) (zg 0))) (dC (.int 12345))) (dC (.int 2147483629))))) (zbi S.length R) (xs.map some++List.replicate 0 none) S
def zcS:PN:=fun xs S R=>(zM (zac (dCB (dI2 fun i j=>if j>i then j else i) (zc (zg 0) (zc (dOp (dI0 fun i j=>i - j) (dC (.int 0)) (zg 0)) zo))) (zj 1)) (zao (zdt (zc (zg 1) (zc (dCB zpb (zc (dOp (dIb fun i j=>decide (j<=i)) (zg 1) (dOp (dI CPow fun i j=>i ^ j.toNat) (dC (.int 10)) (dC (.int 18)))) zo)) (zc (dOp (dI (fun _ j=>0<j) fun i j=>i % j) (zg 1) (dC (.int 1000003))) zo)))))) (zbi S.length R) (xs.map some++List.replicate 1 none) S
def zb8:PN:=fun xs S R=>(zao (ze2 (dCB zi1 (zc (zg 0) (zc (dO (.ty "int")) zo))) (zoh (dCB zi1 (zc (zg 0) (zc (dO (.ty "bool")) zo)))))) (zbi S.length R) (xs.map some++List.replicate 0 none) S
def zt:PN:=fun xs S R=>(zM (zbI (dB (dOp zfH (dOp dIx (zg 0) (dC (.int 1))) (dC (.int 1)))) (zM (zac (dOp (dI (fun _ j=>0<j) fun i j=>i % j) (dOp dIx (zg 0) (dC (.int 0))) (zg 1)) (zj 2)) (zM (zac (dOp dFd (dOp dIx (zg 0) (dC (.int 0))) (zg 1)) (zlM (zg 0) (dC (.int 0)))) (zao (zg 2)))) zad) (zM (zac (zL 1 zdc (zc (dOp zbP (zL 1 zdc (zc (dOp dIx (zg 0) (dC (.int 2))) zo)) (dC (.int 7))) zo)) (zlM (zg 0) (dC (.int 2)))) (zao (dOp (dI (fun _ j=>0<j) fun i j=>i % j) (dOp dFd (dOp dIx (zg 0) (dC (.int 2))) (dC (.int 64))) (zg 1))))) (zbi S.length R) (xs.map some++List.replicate 1 none) S
def zlc:PN:=fun xs S R=>(zao (zc2 (zc (dOp zbP (dOp dIx (zg 0) (dC (.int 0))) (dOp dIx (zg 1) (dC (.int 0)))) (zc (dOp zbP (dOp dIx (zg 0) (dC (.int 1))) (dOp dIx (zg 1) (dC (.int 1)))) zo)))) (zbi S.length R) (xs.map some++List.replicate 0 none) S
def zcP:PN:=fun xs S R=>(zM (zac (zc2 (zc (dOp zfX (dOp dIx (zg 0) (dC (.int 0))) (zg 1)) (zc (dOp zfX (dOp dIx (zg 0) (dC (.int 1))) (zg 1)) zo))) (zj 2)) (zao (zc2 (zc (dCB zkP (zc (zg 2) zo)) (zc (dCB zsI (zc (zg 2) zo)) zo))))) (zbi S.length R) (xs.map some++List.replicate 1 none) S
def zbh:PN:=fun xs S R=>(zM (zac (zO 0 2 zt (zc (zg 0) (zc (dC (.int 8)) zo))) (zj 1)) (zM (zbI (dB (dOp (dIb fun i j=>decide (i<j)) (zg 1) (dC (.int 5)))) (zao (dOp (dI0 fun i j=>i - j) (zO 0 2 zt (zc (zg 0) (zc (dC (.int 13)) zo))) (dC (.int 6)))) zad) (zM (zbI (dB (dOp (dIb fun i j=>decide (i<j)) (zg 1) (dC (.int 7)))) (zao (dOp (dI0 fun i j=>i - j) (zO 0 2 zt (zc (zg 0) (zc (dC (.int 2001)) zo))) (dC (.int 1000)))) zad) (zao (dOp zfX (dOp (dI0 fun i j=>i - j) (zO 0 2 zt (zc (zg 0) (zc (dOp zfX (dC (.int 2)) (dOp (dI CPow fun i j=>i ^ j.toNat) (dC (.int 10)) (dC (.int 30)))) zo))) (dOp (dI CPow fun i j=>i ^ j.toNat) (dC (.int 10)) (dC (.int 30)))) (dOp (dI CPow fun i j=>i ^ j.toNat) (dC (.int 10)) (dC (.int 28)))))))) (zbi S.length R) (xs.map some++List.replicate 1 none) S
def zlv:PN:=fun xs S R=>(zM (zac (dCB (dI2 fun i j=>if j>i then j else i) (zc (dOp dIx (zg 0) (dC (.int 0))) (zc (dOp dIx (zg 1) (dC (.int 0))) zo))) (zj 2)) (zM (zac (dCB (dI2 fun i j=>if j<i then j else i) (zc (dOp dIx (zg 0) (dC (.int 1))) (zc (dOp dIx (zg 1) (dC (.int 1))) zo))) (zj 3)) (zao (dIf (dB (dOp (dIb fun i j=>decide (i<=j)) (zg 2) (zg 3))) (zc2 (zc (zg 2) (zc (zg 3) zo))) (dC .none))))) (zbi S.length R) (xs.map some++List.replicate 2 none) S
def zbw:PN:=fun xs S R=>(zM (zac (dC (.str "abcdefghijklmnopqrstuvwxyz")) (zj 1)) (zM (zac (zO 0 2 zt (zc (zg 0) (zc (dC (.int 3)) zo))) (zj 2)) (zM (zac (zO 0 2 zt (zc (zg 0) (zc (dC (.int 26)) zo))) (zj 3)) (zM (zac (ze8 [none,some 1,some 3] (zaM (zc (dC (.int 8)) zo)) (zj 0) zar (dOp zfX (dOp dIx (zg 1) (dOp (dI (fun _ j=>0<j) fun i j=>i % j) (dOp zbP (zg 2) (dOp zfX (dC (.int 5)) (zg 0))) (dC (.int 26)))) (dOp zbP (dC (.int 1)) (dOp (dI (fun _ j=>0<j) fun i j=>i % j) (dOp zbP (zg 2) (dOp zfX (dC (.int 3)) (zg 0))) (dC (.int 8)))))) (zj 4)) (zM (zbI (dB (dOp zfH (zg 2) (dC (.int 0)))) (zM (zac (zuW zpK (dC (.str "")) (zc (zbK [none,some 1,some 3] (zaM (zc (dC (.int 8)) zo)) (zj 0) zar (dOp dIx (zg 1) (dOp (dI (fun _ j=>0<j) fun i j=>i % j) (dOp zbP (zg 2) (dOp zfX (dC (.int 7)) (zg 0))) (dC (.int 26))))) zo)) (zj 5)) (zac (ze8 [none,some 5] (zaM (zc (dC (.int 8)) zo)) (zj 0) zar (dSl zla (zg 1) zbd (zdR (dOp zbP (zg 0) (dC (.int 1)))))) (zj 4))) zad) (zM (zbI (dB (dOp zfH (zg 2) (dC (.int 1)))) (zac (zdt (zc (dC (.str "part")) (zc (dC (.str "gap")) (zc (dC (.str "cut")) (zc (dC (.str "a")) (zc (dC (.str "aa")) (zc (dC (.str "dear")) (zc (dC (.str "b")) (zc (dC (.str "keeps")) zo))))))))) (zj 4)) zad) (zM (zac (zO 0 2 zt (zc (zg 0) (zc (dC (.int 8)) zo))) (zj 6)) (zM (zac (dOp zpo (dSl zla (zg 4) (zdR (zg 6)) zbd) (dSl zla (zg 4) zbd (zdR (zg 6)))) (zj 4)) (zM (zbI (dB (dOp zfH (zO 0 2 zt (zc (zg 0) (zc (dC (.int 2)) zo))) (dC (.int 1)))) (zdv (zth zgo (zg 4))) zad) (zao (zg 4))))))))))) (zbi S.length R) (xs.map some++List.replicate 6 none) S
def ze0:PN:=fun xs S R=>(zao (zc2 (zc (dOp dIx (zg 0) (dC (.int 1))) (zc (dOp dIx (zg 0) (dC (.int 2))) zo)))) (zbi S.length R) (xs.map some++List.replicate 0 none) S
def zaZ:PN:=fun xs S R=>(zM (zac (zdt zo) (zj 2)) (zM (zeO (zaQ (zg 0)) (zj 3) (zdv (dBM zfG (zg 2) (zc (zbK [none,some 3] (zaQ (zg 1)) (zj 0) zar (dOp zbP (zg 1) (zc2 (zc (zg 0) zo)))) zo)))) (zao (zg 2)))) (zbi S.length R) (xs.map some++List.replicate 2 none) S
def zgZ:PN:=fun xs S R=>(zM (zac (dOp dIx (zc4 (zc (zc4 (zc (dC (.int 1)) (zc (dUn (dUI fun i=>-i) (dC (.int 1))) (zc (dC (.int 2)) (zc (dUn (dUI fun i=>-i) (dC (.int 2))) (zc (dC (.int 3)) (zc (dUn (dUI fun i=>-i) (dC (.int 3))) zo))))))) (zc (zc4 (zc (dC (.int 1)) (zc (dUn (dUI fun i=>-i) (dC (.int 1))) zo))) (zc (zc4 (zc (dC (.int 2)) (zc (dUn (dUI fun i=>-i) (dC (.int 2))) zo))) (zc (zc4 (zc (dC (.int 3)) (zc (dUn (dUI fun i=>-i) (dC (.int 3))) zo))) (zc (zc4 (zc (dC (.int 2)) (zc (dC (.int 3)) (zc (dUn (dUI fun i=>-i) (dC (.int 2))) (zc (dUn (dUI fun i=>-i) (dC (.int 3))) zo))))) (zc (zc4 (zc (dC (.int 1)) (zc (dC (.int 3)) (zc (dUn (dUI fun i=>-i) (dC (.int 1))) (zc (dUn (dUI fun i=>-i) (dC (.int 3))) zo))))) zo))))))) (zO 0 2 zt (zc (zg 0) (zc (dC (.int 6)) zo)))) (zj 2)) (zM (zac (zdt zo) (zj 3)) (zM (zeO (zaM (zc (dCB zam (zc (zg 1) zo)) zo)) (zj 4) (zbI (dB (dOp (dIb fun i j=>decide (j<i)) (zO 0 2 zt (zc (zg 0) (zc (dC (.int 3)) zo))) (dC (.int 0)))) (zdv (dBM zb3 (zg 3) (zc (zc2 (zc (zg 4) (zc (dOp dIx (zg 2) (zO 0 2 zt (zc (zg 0) (zc (dCB zam (zc (zg 2) zo)) zo)))) zo))) zo))) zad)) (zM (zbI (dB (dOp zfH (zg 3) (zc4 zo))) (zac (zdt (zc (zc2 (zc (zO 0 2 zt (zc (zg 0) (zc (dCB zam (zc (zg 1) zo)) zo))) (zc (dOp dIx (zg 2) (zO 0 2 zt (zc (zg 0) (zc (dCB zam (zc (zg 2) zo)) zo)))) zo))) zo)) (zj 3)) zad) (zao (dCB zcv (zc (zg 3) zo))))))) (zbi S.length R) (xs.map some++List.replicate 3 none) S
def zec:PN:=fun xs S R=>(zao (dCB zsH (zc (zbK [none,none,some 1] (zaQ (dOp dIx (zg 0) (dC (.int 0)))) (zco 2 (zZ (zj 0) (zZ (zj 1) zcN))) zar (dOp zfX (zg 1) (dOp dIx (zg 2) (zg 0)))) zo))) (zbi S.length R) (xs.map some++List.replicate 0 none) S
def ziP:PN:=fun xs S R=>(zao (zfR (dIb fun i j=>decide (i<=j)) (dIb fun i j=>decide (i<=j)) (dOp dIx (zg 0) (dC (.int 1))) (zL 2 zec (zc (zg 0) (zc (zg 1) zo))) (dOp dIx (zg 0) (dC (.int 2))))) (zbi S.length R) (xs.map some++List.replicate 0 none) S
def zfe:PN:=fun xs S R=>(zM (zac (zdt zo) (zj 2)) (zM (zeO (zaQ (zg 1)) (zco 3 (zZ (zj 3) (zZ (zj 4) (zZ (zj 5) zcN)))) (zM (zac (zc4 (zc (zg 4) (zc (zg 5) (zc (dOp zbP (zg 4) (dOp dFd (dOp (dI0 fun i j=>i - j) (zg 5) (zg 4)) (dC (.int 2)))) (zc (dCB (dI2 fun i j=>if j<i then j else i) (zc (zg 5) (zc (dOp zbP (zg 4) (dC (.int 1))) zo))) (zc (dCB (dI2 fun i j=>if j>i then j else i) (zc (zg 4) (zc (dOp (dI0 fun i j=>i - j) (zg 5) (dC (.int 1))) zo))) zo)))))) (zj 6)) (zdv (dBM zb3 (zg 2) (zc (dOp dIx (dOp zbP (zg 6) (zc4 (zc (dOp zbP (zg 4) (dOp (dI (fun _ j=>0<j) fun i j=>i % j) (zO 0 2 zt (zc (zg 0) (zc (dOp (dI CPow fun i j=>i ^ j.toNat) (dC (.int 10)) (dC (.int 12))) zo))) (dOp zbP (dOp (dI0 fun i j=>i - j) (zg 5) (zg 4)) (dC (.int 1))))) zo))) (zO 0 2 zt (zc (zg 0) (zc (dC (.int 6)) zo)))) zo))))) (zao (dCB zcv (zc (zg 2) zo))))) (zbi S.length R) (xs.map some++List.replicate 5 none) S
def zby:PN:=fun xs S R=>(zM (zac (zc2 (zc (dC (.int 0)) (zc (dC (.int 0)) zo))) (zj 2)) (zM (zeO (zaQ (zg 1)) (zco 2 (zZ (zj 3) (zZ (zj 4) zcN))) (zac (zL 2 zlc (zc (zg 2) (zc (zL 2 zcP (zc (zL 1 ze0 (zc (dOp dIx (zg 0) (zg 3)) zo)) (zc (zg 4) zo))) zo))) (zj 2))) (zao (zg 2)))) (zbi S.length R) (xs.map some++List.replicate 3 none) S
def ziY:PN:=fun xs S R=>(zao (zL 2 zby (zc (zg 0) (zc (dOp dIx (zg 1) (dC (.int 0))) zo)))) (zbi S.length R) (xs.map some++List.replicate 0 none) S
def zdx:PN:=fun xs S R=>(zao (zc2 (zc (dOp dIx (zg 0) (dC (.int 1))) (zc (dOp dIx (zg 0) (dC (.int 2))) zo)))) (zbi S.length R) (xs.map some++List.replicate 0 none) S
def zdi:PN:=fun xs S R=>(zM (zac (dC (.int 0)) (zj 2)) (zM (zeO (zaQ (dOp dIx (zg 0) (dC (.int 0)))) (zco 2 (zZ (zj 3) (zZ (zj 4) zcN))) (zac (dOp zbP (zg 2) (dOp zfX (zg 4) (dOp dIx (zg 1) (zg 3)))) (zj 2))) (zao (zg 2)))) (zbi S.length R) (xs.map some++List.replicate 3 none) S
def zek:PN:=fun xs S R=>(zM (zac (dC (.int 0)) (zj 2)) (zM (zeO (zaQ (dOp dIx (zg 0) (dC (.int 0)))) (zco 2 (zZ (zj 3) (zZ (zj 4) zcN))) (zac (dOp zbP (zg 2) (dOp zfX (zg 4) (dOp dIx (zg 1) (zg 3)))) (zj 2))) (zao (zg 2)))) (zbi S.length R) (xs.map some++List.replicate 3 none) S
def zdp:PN:=fun xs S R=>(zao (ze8 [none,some 1] (zaQ (zg 0)) (zj 0) zar (zL 2 ziP (zc (zg 0) (zc (zg 1) zo))))) (zbi S.length R) (xs.map some++List.replicate 0 none) S
def zdY:PN:=fun xs S R=>(zM (zac (zO 0 1 zbw (zc (zg 0) zo)) (zj 2)) (zM (zac (zbK [none,some 0] (zaM (zc (dOp zbP (dC (.int 1)) (zO 0 2 zt (zc (zg 0) (zc (zg 1) zo)))) zo)) (zj 0) zar (dOp zbP (dC (.int 1)) (zO 0 2 zt (zc (zg 1) (zc (dC (.int 3)) zo))))) (zj 3)) (zM (zbI (dB (dOp zfH (zO 0 2 zt (zc (zg 0) (zc (dC (.int 12)) zo))) (dC (.int 0)))) (zac (dOp dIx (zc4 (zc (dOp zfX (zc4 (zc (dC (.int 2)) zo)) (dC (.int 8))) (zc (zc4 (zc (dC (.int 17)) (zc (dC (.int 17)) zo))) (zc (zc4 (zc (dC (.int 300)) zo)) (zc (dOp zfX (zc4 (zc (dC (.int 1)) zo)) (dC (.int 8))) zo))))) (zO 0 2 zt (zc (zg 0) (zc (dC (.int 4)) zo)))) (zj 3)) zad) (zM (zac (zdt zo) (zj 4)) (zM (zeO (zaM (zc (dCB zam (zc (zg 3) zo)) zo)) (zj 5) (zM (zac (zO 0 1 zbh (zc (zg 0) zo)) (zj 6)) (zdv (dBM zb3 (zg 4) (zc (zc2 (zc (dOp dIx (zg 2) (zg 5)) (zc (zg 6) (zc (dOp (dI0 fun i j=>i - j) (dOp zbP (zg 6) (dOp dIx (zg 3) (zg 5))) (dC (.int 1))) zo)))) zo))))) (zao (dCB zcv (zc (zg 4) zo)))))))) (zbi S.length R) (xs.map some++List.replicate 5 none) S
def zeQ:PN:=fun xs S R=>(zao (dOp zsM (zL 2 zlv (zc (zL 2 ziY (zc (zg 0) (zc (zg 1) zo))) (zc (zL 1 zdx (zc (zg 1) zo)) zo))) (dC .none))) (zbi S.length R) (xs.map some++List.replicate 0 none) S
def zcB:PN:=fun xs S R=>(zao (ze8 [none] (zaQ (zg 0)) (zj 0) zar (dCB zam (zc (zg 0) zo)))) (zbi S.length R) (xs.map some++List.replicate 0 none) S
def zce:PN:=fun xs S R=>(zM (zbI (dOr (zet (zdO (dCB zi1 (zc (zg 1) (zc (dO (.ty "tuple")) zo))))) (dB (dOp (dIb fun i j=>decide (j<i)) (dCB zam (zc (zg 1) zo)) (dCB zam (zc (zg 0) zo))))) (zao (dC (.bool false))) zad) (zao (dCB zmY (zc (zbK [none,none] (zfl (zc (zg 1) (zc (zg 0) zo))) (zco 2 (zZ (zj 0) (zZ (zj 1) zcN))) zar (ze2 (zL 1 zdb (zc (zg 0) zo)) (zfR (dIb fun i j=>decide (i<=j)) (dIb fun i j=>decide (i<j)) (dC (.int 0)) (zg 0) (zg 1)))) zo)))) (zbi S.length R) (xs.map some++List.replicate 0 none) S
def zaE:PN:=fun xs S R=>(zM (zac (dC (.int 1)) (zj 2)) (zM (zeO (zaQ (dSl zla (zg 0) (zdR (dCB zam (zc (zg 1) zo))) zbd)) (zj 3) (zac (dOp zfX (zg 2) (zg 3)) (zj 2))) (zao (zg 2)))) (zbi S.length R) (xs.map some++List.replicate 2 none) S
def zcA:PN:=fun xs S R=>(zM (zac (zc4 (zc (zc2 zo) zo)) (zj 1)) (zM (zeO (zaQ (zg 0)) (zj 2) (zac (zL 2 zaZ (zc (zg 1) (zc (zkU (zc (zg 2) zo)) zo))) (zj 1))) (zao (zg 1)))) (zbi S.length R) (xs.map some++List.replicate 2 none) S
def zaR:PN:=fun xs S R=>(zM (zac (zL 2 zaE (zc (zg 0) (zc (zc2 zo) zo))) (zj 1)) (zbI (dB (dOp (dIb fun i j=>decide (j<i)) (zg 1) (dC (.int 300)))) zlI zad)) (zbi S.length R) (xs.map some++List.replicate 1 none) S
def zbE(F:Addr)(ql:PN):PN:=fun xs S R=>(zM (zac (zdt zo) (zj 2)) (zM (zac (zdt (zc (zc2 zo) zo)) (zj 3)) (zM (zqW (zdO (zg 3)) (zM (zac (zth zu0 (zg 3)) (zj 4)) (zM (zac (zkX 1 F 1 ql (zc (zg 4) zo)) (zj 5)) (zbI (dB (dOp zjW (zg 5) (dC .none))) (zdv (dBM zb3 (zg 2) (zc (zc2 (zc (zg 4) (zc (zg 5) zo))) zo))) (zbI (dB (dOp zfH (dCB zam (zc (zg 4) zo)) (dCB zam (zc (zg 0) zo)))) (zao (dC .none)) (zdv (dBM zfG (zg 3) (zc (zL 2 zaZ (zc (zc4 (zc (zg 4) zo)) (zc (zlG (zc (dOp (dI0 fun i j=>i - j) (dOp dIx (zg 0) (dCB zam (zc (zg 4) zo))) (dC (.int 1))) (zc (dUn (dUI fun i=>-i) (dC (.int 1))) (zc (dUn (dUI fun i=>-i) (dC (.int 1))) zo)))) zo))) zo)))))))) (zao (zg 2))))) (zbi S.length R) (xs.map some++List.replicate 4 none) S
def zbb:PN:=fun xs S R=>(zM (zbI (zet (zdO (dCB zmY (zc (zbK [none,some 0] (zaQ (zg 1)) (zj 0) zar (zL 2 zce (zc (zg 1) (zc (zg 0) zo)))) zo)))) (zao (dC (.bool false))) zad) (zM (zbI (zet (zdO (dCB zmY (zc (zbK [none,none] (zfl (zc (zg 1) (zc (dSl zla (zg 1) (zdR (dC (.int 1))) zbd) zo))) (zco 2 (zZ (zj 0) (zZ (zj 1) zcN))) zar (ze2 (dOp zu5 (zg 0) (zg 1)) (dOp zk6 (dSl zpv (zg 1) zbd (zdR (dCB zam (zc (zg 0) zo)))) (zg 0)))) zo)))) (zao (dC (.bool false))) zad) (zao (dOp zfH (dCB zsH (zc (zbK [none,some 0] (zaQ (zg 1)) (zj 0) zar (zL 2 zaE (zc (zg 1) (zc (zg 0) zo)))) zo)) (zL 2 zaE (zc (zg 0) (zc (zc2 zo) zo))))))) (zbi S.length R) (xs.map some++List.replicate 0 none) S
def zea:PN:=fun xs S R=>(zM (zbI (zet (zdO (dCB zi1 (zc (zg 1) (zc (dO (.ty "list")) zo))))) (zao (dC (.bool false))) zad) (zM (zbI (zet (zdO (dCB zmY (zc (zbK [none] (zaQ (zg 1)) (zj 0) zar (ze2 (dCB zi1 (zc (zg 0) (zc (dO (.ty "tuple")) zo))) (dOp zfH (dCB zam (zc (zg 0) zo)) (dC (.int 2))))) zo)))) (zao (dC (.bool false))) zad) (zao (zL 2 zbb (zc (zg 0) (zc (zbK [none] (zaQ (zg 1)) (zj 0) zar (dOp dIx (zg 0) (dC (.int 0)))) zo)))))) (zbi S.length R) (xs.map some++List.replicate 0 none) S
def zcg:PN:=fun xs S R=>(zao (dCB zcv (zc (zbK [none] (zaQ (zg 0)) (zj 0) zar (dOp zbP (zc2 (zc (zc2 (zc (dC (.int 0)) (zc (dC (.int 0)) zo))) zo)) (zg 0))) zo))) (zbi S.length R) (xs.map some++List.replicate 0 none) S
def zaz:PN:=fun xs S R=>(zM (zac (dC (.int 0)) (zj 2)) (zM (zeO (zaM (zc (dCB zam (zc (zg 1) zo)) zo)) (zj 3) (zac (dOp zbP (zg 2) (dOp dIx (dOp zbP (zc4 (zc (dC (.int 0)) zo)) (zbK [none,none] (zaQ (dOp dIx (zg 0) (zg 3))) (zco 2 (zZ (zj 0) (zZ (zj 1) zcN))) zar (zg 1))) (dOp dIx (zg 1) (zg 3)))) (zj 2))) (zao (zg 2)))) (zbi S.length R) (xs.map some++List.replicate 2 none) S
def zbQ:PN:=fun xs S R=>(zao (ze8 [none,none] (zfl (zc (zL 1 zcg (zc (zg 0) zo)) (zc (zg 1) zo))) (zco 2 (zZ (zj 0) (zZ (zj 1) zcN))) zar (dOp dIx (zg 0) (zg 1)))) (zbi S.length R) (xs.map some++List.replicate 0 none) S
def zg1:PN:=fun xs S R=>(zao (dCB zcv (zc (zbK [none,none] (zfl (zc (zg 0) (zc (zL 2 zbQ (zc (zg 1) (zc (zg 2) zo))) zo))) (zco 2 (zZ (zj 0) (zZ (zj 1) zcN))) zar (dOp (dI0 fun i j=>i - j) (zg 0) (dOp dIx (zg 1) (dC (.int 0))))) zo))) (zbi S.length R) (xs.map some++List.replicate 0 none) S
def zaL:PN:=fun xs S R=>(zao (dCB zsH (zc (zbK [none] (zaQ (zL 2 zbQ (zc (zg 0) (zc (zg 1) zo)))) (zj 0) zar (dOp dIx (zg 0) (dC (.int 1)))) zo))) (zbi S.length R) (xs.map some++List.replicate 0 none) S
def zca:PN:=fun xs S R=>(zM (zac (zdt zo) (zj 2)) (zM (zeO (zaQ (zg 1)) (zj 3) (zM (zac (zdt zo) (zj 4)) (zM (zac (dC (.int 0)) (zj 5)) (zM (zac (dC (.int 0)) (zj 6)) (zM (zeO (zaM (zc (zO 0 2 zt (zc (zg 0) (zc (dC (.int 4)) zo))) zo)) (zj 7) (zM (zac (dOp zbP (dOp zbP (zg 5) (dC (.int 1))) (zO 0 2 zt (zc (zg 0) (zc (dOp dIx (zc4 (zc (dC (.int 3)) (zc (dC (.int 3)) (zc (dC (.int 3)) (zc (dOp (dI CPow fun i j=>i ^ j.toNat) (dC (.int 10)) (dC (.int 20))) zo))))) (zO 0 2 zt (zc (zg 0) (zc (dC (.int 4)) zo)))) zo)))) (zj 5)) (zM (zac (dOp zbP (dOp zbP (zg 6) (dC (.int 1))) (zO 0 2 zt (zc (zg 0) (zc (dC (.int 5)) zo)))) (zj 6)) (zdv (dBM zb3 (zg 4) (zc (zc2 (zc (zg 5) (zc (zg 6) zo))) zo)))))) (zdv (dBM zb3 (zg 2) (zc (dCB zcv (zc (zg 4) zo)) zo)))))))) (zao (dCB zcv (zc (zg 2) zo))))) (zbi S.length R) (xs.map some++List.replicate 6 none) S
def zbg:PN:=fun xs S R=>(zM (zac (dCB ziA (zc (zg 0) zo)) (zj 3)) (zM (zeO (zaM (zc (dCB zam (zc (zg 2) zo)) zo)) (zj 4) (zbI (dB (dOp (dIb fun i j=>decide (j<i)) (dOp dIx (zg 2) (zg 4)) (dC (.int 0)))) (zac (dOp (dI0 fun i j=>i - j) (dOp dIx (zg 3) (zg 4)) (dOp dIx (dOp dIx (dOp dIx (zg 1) (zg 4)) (dOp (dI0 fun i j=>i - j) (dOp dIx (zg 2) (zg 4)) (dC (.int 1)))) (dC (.int 0)))) (zlM (zg 3) (zg 4))) zad)) (zao (dCB zcv (zc (zg 3) zo))))) (zbi S.length R) (xs.map some++List.replicate 2 none) S
def zaX:PN:=fun xs S R=>(zM (zac (zc4 (zc (zc2 zo) zo)) (zj 1)) (zM (zeO (zaQ (zg 0)) (zj 2) (zM (zug (zM (zac (zdt zo) (zj 3)) (zeO (zaQ (zg 1)) (zj 4) (zdv (dBM zfG (zg 3) (zc (zbK [none,some 4] (zaM (zc (dOp zbP (dCB zam (zc (zg 2) zo)) (dC (.int 1))) zo)) (zj 0) zar (dOp zbP (zg 1) (zc2 (zc (zg 0) zo)))) zo)))))) (zac (zg 3) (zj 1)))) (zao (zg 1)))) (zbi S.length R) (xs.map some++List.replicate 4 none) S
def zc9:PN:=fun xs S R=>(zao (dCB zmY (zc (zbK [none,some 1] (zaQ (zg 0)) (zj 0) zar (zfR (dIb fun i j=>decide (i<=j)) (dIb fun i j=>decide (i<=j)) (dOp dIx (zg 0) (dC (.int 1))) (zL 2 zdi (zc (zg 0) (zc (zg 1) zo))) (dOp dIx (zg 0) (dC (.int 2))))) zo))) (zbi S.length R) (xs.map some++List.replicate 0 none) S
def zcX:PN:=fun xs S R=>(zM (zac (dOp dIx (zc4 (zc (zc4 (zc (dC (.int 1)) (zc (dUn (dUI fun i=>-i) (dC (.int 1))) (zc (dC (.int 2)) (zc (dUn (dUI fun i=>-i) (dC (.int 2))) (zc (dC (.int 3)) (zc (dUn (dUI fun i=>-i) (dC (.int 3))) zo))))))) (zc (zc4 (zc (dC (.int 1)) (zc (dUn (dUI fun i=>-i) (dC (.int 1))) zo))) (zc (zc4 (zc (dC (.int 2)) (zc (dUn (dUI fun i=>-i) (dC (.int 2))) zo))) (zc (zc4 (zc (dC (.int 3)) (zc (dUn (dUI fun i=>-i) (dC (.int 3))) zo))) (zc (zc4 (zc (dC (.int 2)) (zc (dC (.int 3)) (zc (dUn (dUI fun i=>-i) (dC (.int 2))) (zc (dUn (dUI fun i=>-i) (dC (.int 3))) zo))))) (zc (zc4 (zc (dC (.int 1)) (zc (dC (.int 3)) (zc (dUn (dUI fun i=>-i) (dC (.int 1))) (zc (dUn (dUI fun i=>-i) (dC (.int 3))) zo))))) zo))))))) (zO 0 2 zt (zc (zg 0) (zc (dC (.int 6)) zo)))) (zj 2)) (zM (zac (zdt zo) (zj 3)) (zM (zeO (zaM (zc (dCB zam (zc (zg 1) zo)) zo)) (zj 4) (zbI (dB (dOp (dIb fun i j=>decide (j<i)) (zO 0 2 zt (zc (zg 0) (zc (dC (.int 3)) zo))) (dC (.int 0)))) (zdv (dBM zb3 (zg 3) (zc (zc2 (zc (zg 4) (zc (dOp dIx (zg 2) (zO 0 2 zt (zc (zg 0) (zc (dCB zam (zc (zg 2) zo)) zo)))) zo))) zo))) zad)) (zM (zbI (dB (dOp zfH (zg 3) (zc4 zo))) (zac (zdt (zc (zc2 (zc (zO 0 2 zt (zc (zg 0) (zc (dCB zam (zc (zg 1) zo)) zo))) (zc (dOp dIx (zg 2) (zO 0 2 zt (zc (zg 0) (zc (dCB zam (zc (zg 2) zo)) zo)))) zo))) zo)) (zj 3)) zad) (zao (dCB zcv (zc (zg 3) zo))))))) (zbi S.length R) (xs.map some++List.replicate 3 none) S
def zaI:PN:=fun xs S R=>(zM (zug (zM (zac (ze8 [none] (zaQ (zL 3 zg1 (zc (zg 1) (zc (zg 2) (zc (zg 3) zo))))) (zj 0) zar (zc2 (zc (zg 0) (zc (zg 0) zo)))) (zj 4)) (zeO (zaQ (dSl zla (zpz (zc (zg 1) (zc (zL 1 zcg (zc (zg 2) zo)) zo))) (zdR (dCB zam (zc (zg 3) zo))) zbd)) (zco 2 (zZ (zj 5) (zZ (zj 6) zcN))) (zdv (dBM zb3 (zg 4) (zc (zc2 (zc (dOp (dI0 fun i j=>i - j) (zg 5) (dOp dIx (dOp dIx (zg 6) (dUn (dUI fun i=>-i) (dC (.int 1)))) (dC (.int 0)))) (zc (zg 5) zo))) zo)))))) (zao (dCB zcv (zc (zbK [none,none] (zfl (zc (zg 0) (zc (zg 4) zo))) (zco 2 (zZ (zj 0) (zZ (zj 1) zcN))) zar (zc2 (zc (dOp dIx (zg 0) (dC (.int 0))) (zc (dOp dIx (zg 1) (dC (.int 0))) (zc (dOp dIx (zg 1) (dC (.int 1))) zo))))) zo)))) (zbi S.length R) (xs.map some++List.replicate 3 none) S
def zch:PN:=fun xs S R=>(zM (zac (zdt zo) (zj 4)) (zM (zeO (zaM (zc (dOp zbP (dC (.int 1)) (zO 0 2 zt (zc (zg 0) (zc (dC (.int 3)) zo)))) zo)) (zj 5) (zM (zac (zO 0 2 zcX (zc (zg 0) (zc (zg 1) zo))) (zj 6)) (zM (zac (zL 1 zaX (zc (zg 3) zo)) (zj 7)) (zM (zac (zL 3 zbg (zc (zg 2) (zc (zg 3) (zc (dOp dIx (zg 7) (zO 0 2 zt (zc (zg 0) (zc (dCB zam (zc (zg 7) zo)) zo)))) zo)))) (zj 8)) (zM (zac (dOp (dI0 fun i j=>i - j) (dOp zbP (zL 2 zdi (zc (zc2 (zc (zg 6) (zc (dC (.int 0)) (zc (dC (.int 0)) zo)))) (zc (zg 8) zo))) (zO 0 2 zt (zc (zg 0) (zc (dC (.int 7)) zo)))) (dC (.int 5))) (zj 9)) (zdv (dBM zb3 (zg 4) (zc (zc2 (zc (zg 6) (zc (zg 9) (zc (dOp zbP (zg 9) (zO 0 2 zt (zc (zg 0) (zc (dC (.int 6)) zo)))) zo)))) zo)))))))) (zao (dCB zcv (zc (zg 4) zo))))) (zbi S.length R) (xs.map some++List.replicate 6 none) S
def zbX:PN:=fun xs S R=>(zM (zbI (dB (dOp (dIb fun i j=>decide (j<=i)) (zL 2 zaL (zc (zg 2) (zc (zg 4) zo))) (zg 3))) (zao (zc2 (zc (dC (.str "dear")) zo))) zad) (zM (zac (zL 4 zaI (zc (dOp dIx (zg 0) (dC (.int 0))) (zc (zg 1) (zc (zg 2) (zc (zg 4) zo))))) (zj 5)) (zM (zeO (ziK (zc (dOp dIx (zg 0) (dC (.int 1))) zo)) (zco 2 (zZ (zj 6) (zZ (zj 7) zcN))) (zbI (zdO (zL 2 zeQ (zc (zg 5) (zc (zg 7) zo)))) (zao (zc2 (zc (dC (.str "off")) (zc (zg 6) zo)))) zad)) (zao (dC .none))))) (zbi S.length R) (xs.map some++List.replicate 3 none) S
def zbm:PN:=fun xs S R=>(zM (zac (zL 1 zcB (zc (zL 1 zcg (zc (zg 2) zo)) zo)) (zj 3)) (zM (zdv (zL 1 zaR (zc (zg 3) zo))) (zM (zac (zbK [none,some 0,some 1,some 2] (zaQ (zL 1 zcA (zc (zg 3) zo))) (zj 0) (zdO (dCB zmY (zc (zL 2 zdp (zc (dOp dIx (zg 1) (dC (.int 1))) (zc (zL 3 zg1 (zc (zg 2) (zc (zg 3) (zc (zg 0) zo)))) zo))) zo))) (zg 0)) (zj 4)) (zao (ziB [2] (zg 4) (zL 2 zaL (zc (zg 1) (zc (zg 0) zo)))))))) (zbi S.length R) (xs.map some++List.replicate 2 none) S
def zgq:PN:=fun xs S R=>(zM (zac (zL 1 zcB (zc (zL 1 zcg (zc (zg 2) zo)) zo)) (zj 4)) (zM (zdv (zL 1 zaR (zc (zg 4) zo))) (zao (ziO [0,1,2,3] zbE (zL 5 zbX (zc (zg 1) (zc (zg 2) (zc (zg 3) (zc (zg 4) (zc (zg 0) zo)))))) (zg 4))))) (zbi S.length R) (xs.map some++List.replicate 1 none) S
def zaV:PN:=fun xs S R=>(zM (zbI (dB (dOp zfH (zg 2) (dC (.int 0)))) (zao (dC (.int 0))) zad) (zao (dOp dIx (dOp dIx (dOp dIx (zg 0) (zg 1)) (dOp (dI0 fun i j=>i - j) (zg 2) (dC (.int 1)))) (dC (.int 0))))) (zbi S.length R) (xs.map some++List.replicate 0 none) S
def zd1:PN:=fun xs S R=>(zM (zac (dC (.int 0)) (zj 4)) (zM (zac (dC (.int 0)) (zj 5)) (zM (zeO (zaQ (dOp dIx (zg 0) (dC (.int 0)))) (zco 2 (zZ (zj 6) (zZ (zj 7) zcN))) (zM (zac (dC (.int 0)) (zj 8)) (zM (zac (zL 3 zaV (zc (zg 2) (zc (zg 6) (zc (dCB zam (zc (dOp dIx (zg 2) (zg 6)) zo)) zo)))) (zj 9)) (zM (zbI (dB (dOp (dIb fun i j=>decide (i<j)) (zg 6) (dCB zam (zc (zg 3) zo)))) (zM (zac (zL 3 zaV (zc (zg 2) (zc (zg 6) (zc (dOp dIx (zg 3) (zg 6)) zo)))) (zj 8)) (zac (zg 8) (zj 9))) zad) (zM (zac (zc4 (zc (dOp zfX (zg 7) (dOp (dI0 fun i j=>i - j) (dOp dIx (zg 1) (zg 6)) (zg 8))) (zc (dOp zfX (zg 7) (dOp (dI0 fun i j=>i - j) (dOp dIx (zg 1) (zg 6)) (zg 9))) zo))) (zj 10)) (zM (zac (dOp zbP (zg 4) (dCB zkP (zc (zg 10) zo))) (zj 4)) (zac (dOp zbP (zg 5) (dCB zsI (zc (zg 10) zo))) (zj 5)))))))) (zao (zsJ (dOp (dIb fun i j=>decide (i<j)) (zg 5) (dOp dIx (zg 0) (dC (.int 1)))) (dOp (dIb fun i j=>decide (j<i)) (zg 4) (dOp dIx (zg 0) (dC (.int 2))))))))) (zbi S.length R) (xs.map some++List.replicate 7 none) S
def zaJ:PN:=fun xs S R=>(zM (zbI (dOr (zet (zdO (dCB zi1 (zc (zg 1) (zc (dO (.ty "tuple")) zo))))) (dB (dOp (dIb fun i j=>decide (j<i)) (dCB zam (zc (zg 1) zo)) (dCB zam (zc (zg 0) zo))))) (zao (dC (.bool false))) zad) (zao (dCB zmY (zc (zbK [none,none] (zfl (zc (zg 1) (zc (zg 0) zo))) (zco 2 (zZ (zj 0) (zZ (zj 1) zcN))) zar (ze2 (zL 1 zb8 (zc (zg 0) zo)) (zfR (dIb fun i j=>decide (i<=j)) (dIb fun i j=>decide (i<=j)) (dC (.int 0)) (zg 0) (dCB zam (zc (zg 1) zo))))) zo)))) (zbi S.length R) (xs.map some++List.replicate 0 none) S
def zbe:PN:=fun xs S R=>(zM (zuC (znJ false 2 (.t []) (zpq (zmZ (fun M=>(zaQ (zg 1))) (zj 3) (zpk 2 (fun M=>(zg 3)) (fun M=>(dC (.bool true))))) (zmZ (fun M=>(zaQ (zL 1 zaX (zc (zg 0) zo)))) (zj 4) (zuZ (fun M=>(zet (zdO (dCB zu9 (zc (zbK [none,some 2,some 4] (zaM (zc (dOp zbP (dCB zam (zc (zg 0) zo)) (dC (.int 1))) zo)) (zj 0) zar (dOp (zu7 M false) (dSl zpv (zg 2) zbd (zdR (zg 0))) (zg 1))) zo))))) (zh8 (zao (dC (.bool false)))) (zh8 zad)))))) (zao (dC (.bool true)))) (zbi S.length R) (xs.map some++List.replicate 3 none) S
def zcJ:PN:=fun xs S R=>(zM (zac (zg 4) (zco 2 (zZ (zj 5) (zZ (zj 6) zcN)))) (zM (zbI (dOr (zet (zdO (dCB zi1 (zc (zg 6) (zc (dO (.ty "tuple")) zo))))) (dB (dOp zfH (dCB zam (zc (zg 6) zo)) (dC (.int 0))))) (zao (dC (.bool false))) zad) (zM (zbI (dB (dOp zfH (dOp dIx (zg 6) (dC (.int 0))) (dC (.str "dear")))) (zao (ze2 (dOp zfH (dCB zam (zc (zg 6) zo)) (dC (.int 1))) (dOp (dIb fun i j=>decide (j<=i)) (zL 2 zaz (zc (zg 2) (zc (zg 5) zo))) (zg 3)))) zad) (zM (zbI (dOr (dB (dOp zk6 (dOp dIx (zg 6) (dC (.int 0))) (dC (.str "off")))) (dOr (dB (dOp zk6 (dCB zam (zc (zg 6) zo)) (dC (.int 2)))) (dOr (zet (zdO (zL 1 zb8 (zc (dOp dIx (zg 6) (dC (.int 1))) zo)))) (dB (zjU true (dOp dIx (zg 6) (dC (.int 1))) (zc (dCB zam (zc (zg 0) zo)) zo)))))) (zao (dC (.bool false))) zad) (zao (zL 4 zd1 (zc (dOp dIx (zg 0) (dOp dIx (zg 6) (dC (.int 1)))) (zc (zg 1) (zc (zg 2) (zc (zg 5) zo)))))))))) (zbi S.length R) (xs.map some++List.replicate 2 none) S
def zdo:PN:=fun xs S R=>(zM (zbI (zet (zdO (dCB zi1 (zc (zg 4) (zc (dO (.ty "list")) zo))))) (zao (dC (.bool false))) zad) (zM (zeO (zaQ (zg 4)) (zj 5) (zM (zbI (dOr (zet (zdO (dCB zi1 (zc (zg 5) (zc (dO (.ty "tuple")) zo))))) (dOr (dB (dOp zk6 (dCB zam (zc (zg 5) zo)) (dC (.int 2)))) (zet (zdO (zL 2 zaJ (zc (zg 2) (zc (dOp dIx (zg 5) (dC (.int 0))) zo))))))) (zao (dC (.bool false))) zad) (zbI (zet (zdO (zL 5 zcJ (zc (zg 0) (zc (zg 1) (zc (zg 2) (zc (zg 3) (zc (zg 5) zo)))))))) (zao (dC (.bool false))) zad))) (zM (zeO (zaM (zc (dOp (dI0 fun i j=>i - j) (dCB zam (zc (zg 4) zo)) (dC (.int 1))) zo)) (zj 6) (zM (zac (dOp dIx (dOp dIx (zg 4) (zg 6)) (dC (.int 0))) (zj 7)) (zM (zac (dOp dIx (dOp dIx (zg 4) (dOp zbP (zg 6) (dC (.int 1)))) (dC (.int 0))) (zj 8)) (zbI (dOr (dB (dOp zud (zg 7) (zg 8))) (dB (dOp zfH (dSl zpv (zg 8) zbd (zdR (dCB zam (zc (zg 7) zo)))) (zg 7)))) (zao (dC (.bool false))) zad)))) (zao (zL 2 zbe (zc (zg 2) (zc (zbK [none] (zaQ (zg 4)) (zj 0) zar (dOp dIx (zg 0) (dC (.int 0)))) zo))))))) (zbi S.length R) (xs.map some++List.replicate 4 none) S
def zba:PN:=fun xs S R=>(zM (zbI (dB (dOp zfH (zg 5) (zc2 (zc (dC (.str "dear")) zo)))) (zao (dOp (dIb fun i j=>decide (j<=i)) (zL 2 zaL (zc (zg 2) (zc (zg 4) zo))) (zg 3))) zad) (zM (zbI (dOr (zet (zdO (dCB zi1 (zc (zg 5) (zc (dO (.ty "tuple")) zo))))) (dOr (dB (dOp zk6 (dCB zam (zc (zg 5) zo)) (dC (.int 2)))) (dB (dOp zk6 (dOp dIx (zg 5) (dC (.int 0))) (dC (.str "off")))))) (zao (dC (.bool false))) zad) (zM (zbI (dOr (zet (zdO (zL 1 zdb (zc (dOp dIx (zg 5) (dC (.int 1))) zo)))) (zet (dB (zfR (dIb fun i j=>decide (i<=j)) (dIb fun i j=>decide (i<j)) (dC (.int 0)) (dOp dIx (zg 5) (dC (.int 1))) (dCB zam (zc (dOp dIx (zg 0) (dC (.int 1))) zo)))))) (zao (dC (.bool false))) zad) (zao (zL 2 zeQ (zc (zL 4 zaI (zc (dOp dIx (zg 0) (dC (.int 0))) (zc (zg 1) (zc (zg 2) (zc (zg 4) zo))))) (zc (dOp dIx (dOp dIx (zg 0) (dC (.int 1))) (dOp dIx (zg 5) (dC (.int 1)))) zo))))))) (zbi S.length R) (xs.map some++List.replicate 0 none) S
def zdh:PN:=fun xs S R=>(zM (zbI (zet (zdO (zL 2 zea (zc (zL 1 zcB (zc (zL 1 zcg (zc (zg 2) zo)) zo)) (zc (zg 4) zo))))) (zao (dC (.bool false))) zad) (zao (dCB zmY (zc (zbK [none,none,some 0,some 1,some 2,some 3] (zaQ (zg 4)) (zco 2 (zZ (zj 0) (zZ (zj 1) zcN))) zar (zL 6 zba (zc (zg 2) (zc (zg 3) (zc (zg 4) (zc (zg 5) (zc (zg 0) (zc (zg 1) zo)))))))) zo)))) (zbi S.length R) (xs.map some++List.replicate 0 none) S
def zbY:PN:=fun xs S R=>(zao (zsJ (dOp zsM (zg 1) (dC .none)) (ze2 (dOp zjW (zg 0) (dC .none)) (dOp (dIb fun i j=>decide (i<=j)) (zg 0) (zg 1))))) (zbi S.length R) (xs.map some++List.replicate 0 none) S
def zkd:PN:=fun xs S R=>(zM (zac (dC (.int 0)) (zj 4)) (zM (zac (dC (.int 0)) (zj 5)) (zM (zeO (zaQ (dOp dIx (zg 0) (dC (.int 0)))) (zco 2 (zZ (zj 6) (zZ (zj 7) zcN))) (zM (zac (dC (.int 0)) (zj 8)) (zM (zac (zL 3 zaV (zc (zg 2) (zc (zg 6) (zc (dCB zam (zc (dOp dIx (zg 2) (zg 6)) zo)) zo)))) (zj 9)) (zM (zbI (dB (dOp (dIb fun i j=>decide (i<j)) (zg 6) (dCB zam (zc (zg 3) zo)))) (zM (zac (zL 3 zaV (zc (zg 2) (zc (zg 6) (zc (dOp dIx (zg 3) (zg 6)) zo)))) (zj 8)) (zac (zg 8) (zj 9))) zad) (zM (zac (zc4 (zc (dOp zfX (zg 7) (dOp (dI0 fun i j=>i - j) (dOp dIx (zg 1) (zg 6)) (zg 8))) (zc (dOp zfX (zg 7) (dOp (dI0 fun i j=>i - j) (dOp dIx (zg 1) (zg 6)) (zg 9))) zo))) (zj 10)) (zM (zac (dOp zbP (zg 4) (dCB zkP (zc (zg 10) zo))) (zj 4)) (zac (dOp zbP (zg 5) (dCB zsI (zc (zg 10) zo))) (zj 5)))))))) (zao (zsJ (dOp (dIb fun i j=>decide (i<j)) (zg 5) (dOp dIx (zg 0) (dC (.int 1)))) (dOp (dIb fun i j=>decide (j<i)) (zg 4) (dOp dIx (zg 0) (dC (.int 2))))))))) (zbi S.length R) (xs.map some++List.replicate 7 none) S
def zdQ:PN:=fun xs S R=>(zM (zac (zg 4) (zco 2 (zZ (zj 5) (zZ (zj 6) zcN)))) (zM (zbI (dOr (zet (zdO (dCB zi1 (zc (zg 6) (zc (dO (.ty "tuple")) zo))))) (dB (dOp zfH (dCB zam (zc (zg 6) zo)) (dC (.int 0))))) (zao (dC (.bool false))) zad) (zM (zbI (dB (dOp zfH (dOp dIx (zg 6) (dC (.int 0))) (dC (.str "dear")))) (zao (ze2 (dOp zfH (dCB zam (zc (zg 6) zo)) (dC (.int 1))) (dOp (dIb fun i j=>decide (j<=i)) (zL 2 zaz (zc (zg 2) (zc (zg 5) zo))) (zg 3)))) zad) (zM (zbI (dOr (dB (dOp zk6 (dOp dIx (zg 6) (dC (.int 0))) (dC (.str "off")))) (dOr (dB (dOp zk6 (dCB zam (zc (zg 6) zo)) (dC (.int 2)))) (dOr (zet (zdO (zL 1 zb8 (zc (dOp dIx (zg 6) (dC (.int 1))) zo)))) (dB (zjU true (dOp dIx (zg 6) (dC (.int 1))) (zc (dCB zam (zc (zg 0) zo)) zo)))))) (zao (dC (.bool false))) zad) (zao (zL 4 zkd (zc (dOp dIx (zg 0) (dOp dIx (zg 6) (dC (.int 1)))) (zc (zg 1) (zc (zg 2) (zc (zg 5) zo)))))))))) (zbi S.length R) (xs.map some++List.replicate 2 none) S
def zbn:PN:=fun xs S R=>(zM (zac (zbK [none,some 0,some 1,some 2] (zaQ (zL 1 zaX (zc (zg 2) zo))) (zj 0) (zdO (zL 2 zc9 (zc (zg 1) (zc (zL 3 zbg (zc (zg 2) (zc (zg 3) (zc (zg 0) zo)))) zo)))) (zg 0)) (zj 3)) (zM (zac (zbK [none,some 2] (zaQ (zg 3)) (zj 0) zar (zL 2 zaz (zc (zg 1) (zc (zg 0) zo)))) (zj 4)) (zM (zbI (dB (dOp zfH (zg 4) (zc4 zo))) (zao (dC .none)) zad) (zao (dCB zkP (zc (zg 4) zo)))))) (zbi S.length R) (xs.map some++List.replicate 2 none) S
def zbx:PN:=fun xs S R=>(zM (zac (zO 0 2 zt (zc (zg 1) (zc (dCB zam (zc (zg 0) zo)) zo))) (zj 2)) (zM (zac (dOp dIx (zg 0) (zg 2)) (zj 3)) (zM (zbI (dOr (dB (dOp zfH (dCB zam (zc (zg 3) zo)) (dC (.int 3)))) (dB (dOp (dIb fun i j=>decide (j<i)) (dCB zam (zc (zL 1 zaX (zc (zg 0) zo)) zo)) (dC (.int 150))))) (zao (zg 0)) zad) (zM (zac (zc2 (zc (dC (.int 0)) (zc (dC (.int 0)) zo))) (zj 4)) (zM (zbI (dB (dOp zk6 (zg 3) (zc2 zo))) (zac (dOp dIx (zg 3) (dUn (dUI fun i=>-i) (dC (.int 1)))) (zj 4)) zad) (zM (zac (dOp zbP (zg 3) (zc2 (zc (zc2 (zc (dOp zbP (dOp zbP (dOp dIx (zg 4) (dC (.int 0))) (dC (.int 1))) (zO 0 2 zt (zc (zg 1) (zc (dC (.int 4)) zo)))) (zc (dOp zbP (dOp zbP (dOp dIx (zg 4) (dC (.int 1))) (dC (.int 1))) (zO 0 2 zt (zc (zg 1) (zc (dC (.int 4)) zo)))) zo))) zo))) (zj 5)) (zao (dOp zbP (dOp zbP (dSl zla (zg 0) zbd (zdR (zg 2))) (zc2 (zc (zg 5) zo))) (dSl zla (zg 0) (zdR (dOp zbP (zg 2) (dC (.int 1)))) zbd))))))))) (zbi S.length R) (xs.map some++List.replicate 4 none) S
def zcr:PN:=fun xs S R=>(zM (zbI (zet (zdO (dCB zi1 (zc (zg 4) (zc (dO (.ty "list")) zo))))) (zao (dC (.bool false))) zad) (zM (zeO (zaQ (zg 4)) (zj 5) (zM (zbI (dOr (zet (zdO (dCB zi1 (zc (zg 5) (zc (dO (.ty "tuple")) zo))))) (dOr (dB (dOp zk6 (dCB zam (zc (zg 5) zo)) (dC (.int 2)))) (zet (zdO (zL 2 zaJ (zc (zg 2) (zc (dOp dIx (zg 5) (dC (.int 0))) zo))))))) (zao (dC (.bool false))) zad) (zbI (zet (zdO (zL 5 zdQ (zc (zg 0) (zc (zg 1) (zc (zg 2) (zc (zg 3) (zc (zg 5) zo)))))))) (zao (dC (.bool false))) zad))) (zM (zeO (zaM (zc (dOp (dI0 fun i j=>i - j) (dCB zam (zc (zg 4) zo)) (dC (.int 1))) zo)) (zj 6) (zM (zac (dOp dIx (dOp dIx (zg 4) (zg 6)) (dC (.int 0))) (zj 7)) (zM (zac (dOp dIx (dOp dIx (zg 4) (dOp zbP (zg 6) (dC (.int 1)))) (dC (.int 0))) (zj 8)) (zbI (dOr (dB (dOp zud (zg 7) (zg 8))) (dB (dOp zfH (dSl zpv (zg 8) zbd (zdR (dCB zam (zc (zg 7) zo)))) (zg 7)))) (zao (dC (.bool false))) zad)))) (zao (zL 2 zbe (zc (zg 2) (zc (zbK [none] (zaQ (zg 4)) (zj 0) zar (dOp dIx (zg 0) (dC (.int 0)))) zo))))))) (zbi S.length R) (xs.map some++List.replicate 4 none) S
def zbl:PN:=fun xs S R=>(zM (zac (zL 3 zbm (zc (zc2 (zc (zg 0) (zc (zg 1) zo))) (zc (zg 2) (zc (zg 3) zo)))) (zj 4)) (zM (zbI (dB (dOp zsM (zg 4) (dC .none))) (zao (dC .none)) zad) (zM (zbI (zet (zdO (zL 2 zc9 (zc (zg 1) (zc (zL 3 zbg (zc (zg 2) (zc (zg 3) (zc (zg 4) zo)))) zo))))) (zao (dUn (dUI fun i=>-i) (dC (.int 1)))) zad) (zao (zL 2 zaL (zc (zg 3) (zc (zg 4) zo))))))) (zbi S.length R) (xs.map some++List.replicate 1 none) S
def zbz:PN:=fun xs S R=>(zM (zeO (zaQ (zg 5)) (zj 6) (zM (zac (zL 4 zgq (zc (zc2 (zc (zg 0) (zc (zg 1) zo))) (zc (zg 2) (zc (zg 3) (zc (zg 6) zo))))) (zj 7)) (zbI (zuX (dB (dOp zjW (zg 4) (dC .none))) (dB (dOp (dIb fun i j=>decide (j<i)) (zg 6) (zg 4)))) (zbI (dB (dOp zjW (zg 7) (dC .none))) (zao (dC (.bool false))) zad) (zbI (zet (zdO (zL 5 zcr (zc (zg 1) (zc (zg 2) (zc (zg 3) (zc (zg 6) (zc (zg 7) zo)))))))) (zao (dC (.bool false))) (zbI (dB (dOp zoU (zL 5 zdh (zc (zc2 (zc (zg 0) (zc (zg 1) zo))) (zc (zg 2) (zc (zg 3) (zc (zg 6) (zc (zg 7) zo)))))) (dC (.bool true)))) (zao (dC (.bool false))) zad))))) (zao (dC (.bool true)))) (zbi S.length R) (xs.map some++List.replicate 2 none) S
def zru:DS:=(zM (zac (zL 1 zcS (zc (zg 1) zo)) (zj 2)) (zM (zac (zO 0 2 zdY (zc (zg 2) (zc (dC (.int 4)) zo))) (zj 3)) (zM (zac (zO 0 2 zca (zc (zg 2) (zc (zg 3) zo))) (zj 4)) (zM (zbI (dB (dOp (dIb fun i j=>decide (j<i)) (dCB zam (zc (zg 3) zo)) (dC (.int 4)))) (zac (dCB zcv (zc (zbK [none] (zaQ (zg 4)) (zj 0) zar (dSl zpv (zg 0) zbd (zdR (dC (.int 1))))) zo)) (zj 4)) zad) (zM (zac (zO 0 2 zfe (zc (zg 2) (zc (zg 3) zo))) (zj 5)) (zM (zac (zO 0 4 zch (zc (zg 2) (zc (zg 3) (zc (zg 5) (zc (zg 4) zo))))) (zj 6)) (zM (zac (zL 3 zbn (zc (zg 6) (zc (zg 5) (zc (zg 4) zo)))) (zj 7)) (zM (zbI (dB (dOp zk6 (zL 4 zbl (zc (zg 3) (zc (zg 6) (zc (zg 5) (zc (zg 4) zo))))) (zg 7))) (zao (dC (.bool false))) zad) (zM (zac (zc4 (zc (dC (.int 0)) (zc (dOp (dI0 fun i j=>i - j) (dUn (dUI fun i=>-i) (dC (.int 1))) (zO 0 2 zt (zc (zg 2) (zc (dOp (dI CPow fun i j=>i ^ j.toNat) (dC (.int 10)) (dC (.int 9))) zo)))) (zc (dOp zbP (dC (.int 1)) (zO 0 2 zt (zc (zg 2) (zc (dC (.int 12)) zo)))) (zc (dOp zbP (dOp (dI CPow fun i j=>i ^ j.toNat) (dC (.int 10)) (dC (.int 30))) (zO 0 2 zt (zc (zg 2) (zc (dC (.int 9)) zo)))) zo))))) (zj 8)) (zM (zbI (dB (dOp zjW (zg 7) (dC .none))) (zac (dOp zbP (zg 8) (zc4 (zc (dOp (dI0 fun i j=>i - j) (zg 7) (dC (.int 1))) (zc (zg 7) (zc (dOp zbP (zg 7) (dC (.int 1))) zo))))) (zj 8)) zad) (zM (zbI (zet (zdO (zL 6 zbz (zc (zg 3) (zc (zg 6) (zc (zg 5) (zc (zg 4) (zc (zg 7) (zc (zg 8) zo))))))))) (zao (dC (.bool false))) zad) (zM (zac (dOp zbP (zg 6) (dSl zpv (zO 0 4 zch (zc (zg 2) (zc (zg 3) (zc (zg 5) (zc (zg 4) zo))))) zbd (zdR (dC (.int 1))))) (zj 9)) (zM (zbI (zet (zdO (zL 2 zbY (zc (zg 7) (zc (zL 4 zbl (zc (zg 3) (zc (zg 9) (zc (zg 5) (zc (zg 4) zo))))) zo))))) (zao (dC (.bool false))) zad) (zbI (zet (zdO (zL 2 zbY (zc (zL 4 zbl (zc (zg 3) (zc (zg 6) (zc (zg 5) (zc (zO 1 2 zbx (zc (zg 4) (zc (zg 2) zo))) zo))))) (zc (zg 7) zo))))) (zao (dC (.bool false))) zad))))))))))))))
end My
namespace My
open PySem L2
theorem seq1{t u:DS}{E:DEnds}{δ:XE}{S:Sto}(h:t { E with nx:=u E } δ S):zM t u E δ S:=h
theorem seqm{t u:DSm}{E:DEndsM}{δ:XE}{S:Sto}{M:DM}(h:t { E with nx:=u E } δ S M):zpq t u E δ S M:=h
theorem cut{t u:DS}{E:DEnds}{δ:XE}{S:Sto}(I:XE->Sto->Prop)(h1:∀ N:XE->Sto->Prop,(∀ δ' S',I δ' S'->N δ' S')->t { E with nx:=N } δ S)(h2:∀ δ' S',I δ' S'->u E δ' S'):zM t u E δ S:=h1 _ h2
theorem zil(i j:Int):PyData.eqv (.int i) (.int j)=decide (i=j):=rfl
theorem zuL(i:Int):SeqAt.shaped (.int i)=true:=rfl
theorem znc:("int" ∈ zpV)=True:=eq_true dz
theorem zlk:("bool" ∈ zpV)=True:=eq_true dz
theorem zj5:("tuple" ∈ zpV)=True:=eq_true dz
theorem zln:("list" ∈ zpV)=True:=eq_true dz
end My
namespace My
open PySem L2
local macro_rules | `(tactic| walk_at "d")=>`(tactic| (try simp only [zac,ziO,zsG,zpz,zkU,zlG,ziB,zkX,all_cons,List.all_nil,Bool.and_self,znK,zqK,zuC,znJ,zh8,zuZ,zmZ,zpk,zu7,zoy,zjU,zoU,zqU,zub,zqn,zu5,zpv,zj,zg,dC,dO,dOp,dUn,zo,zc,dCB,zc2,zc4,zdt,dB,zet,zuX,dOr,ze2,zsJ,zoh,dIf,zfR,dI,dI0,dIb,dUI,zfH,zk6,zsM,zjW,zsX,zuJ,zsQ,zsO,zqo,zql,zq0,zqO,zqG,zra,zmL,zqd,zqH,zqV,dFd,zdO,zqw,zqT,zbd,zdR,dSl,zam,zoE,zqP,zi1,zpb,dI2,zcv,ziA,dBM,zth,zuW,zb3,zgo,zfG,zu0,zpK,zpo,zsH,zmY,zu9,zL,zO,zty,ztk,zt4,zuO,asL,zq4,ztV,zs5,ztg,zte,zmJ,zne,zqq,zrd,zre,zsY,ztv,znO,zn3,zqj,zqr,zri,zqm,zao,zbI,zdv,zad,zlI,zeO,zaQ,zqz,zqQ,zaM,zok,ziK,zfl,zco,zZ,ztl,zti,zur,ztI,zua,ztd,zcN,zlM,zbK,ze8,zar,zo1,zug,zg9,zlz,zkT,zle,zjX,zh4,List.replicate,map_cons,map_nil,map_some,Option.bind_some,Option.bind_none,Option.join_some,getElem?_cons_zero,getElem?_cons_succ,set_cons_zero,set_cons_succ,List.take_succ_cons,take_zero,List.take_nil,length_cons,length_nil,nil_append,cons_append,Option.some.injEq,exists_eq_left',exists_eq_left,List.cons.injEq,XV.d.injEq,XV.l.injEq,XV.o.injEq,PyData.int.injEq,PyData.list.injEq,PyData.tuple.injEq,PyData.bool.injEq,PyData.str.injEq,and_true,true_and,decide_eq_true_eq,Bool.not_true,Bool.not_false,Bool.false_eq_true,Bool.true_eq_false,not_true_eq_false,not_false_eq_true,↓reduceIte,decide_true,decide_false,Bool.not_eq_true',znk,decide_eq_false_iff_not,Nat.reduceAdd,Nat.reduceMul,zero_add,Nat.reduceLT,Nat.reduceLeDiff,Nat.reduceEqDiff,Int.reduceLT,Int.reduceLE,Int.reduceNeg,Int.reducePow,Int.reduceToNat,Int.reduceEq,Int.reduceAdd,Int.reduceSub,Int.reduceMul,le_refl,zero_le,length_append,length_map,zil,zuL,List.isEmpty_nil,List.isEmpty_cons,Int.cast_ofNat_Int,Int.natCast_zero,Int.natCast_one,znc,zlk,zj5,zln,znw,zli,zj7,zlA,zud]))
local macro_rules | `(tactic| walk_at "n")=>`(tactic| (refine seq1 ?_; walk_at "d"))
local macro_rules | `(tactic| walk_at "dX")=>`(tactic| (try simp -implicitDefEqProofs only [zac,ziO,zsG,zpz,zkU,zlG,ziB,zkX,all_cons,List.all_nil,Bool.and_self,znK,zqK,zuC,znJ,zh8,zuZ,zmZ,zpk,zu7,zoy,zjU,zoU,zqU,zub,zqn,zu5,zpv,zj,zg,dC,dO,dOp,dUn,zo,zc,dCB,zc2,zc4,zdt,dB,zet,zuX,dOr,ze2,zsJ,zoh,dIf,zfR,dI,dI0,dIb,dUI,zfH,zk6,zsM,zjW,zsX,zuJ,zsQ,zsO,zqo,zql,zq0,zqO,zqG,zra,zmL,zqd,zqH,zqV,dFd,zdO,zqw,zqT,zbd,zdR,dSl,zam,zoE,zqP,zi1,zpb,dI2,zcv,ziA,dBM,zth,zuW,zb3,zgo,zfG,zu0,zpK,zpo,zsH,zmY,zu9,zL,zO,zty,ztk,zt4,zuO,asL,zq4,ztV,zs5,ztg,zte,zmJ,zne,zqq,zrd,zre,zsY,ztv,znO,zn3,zqj,zqr,zri,zqm,zao,zbI,zdv,zad,zlI,zeO,zaQ,zqz,zqQ,zaM,zok,ziK,zfl,zco,zZ,ztl,zti,zur,ztI,zua,ztd,zcN,zlM,zbK,ze8,zar,zo1,zug,zg9,zlz,zkT,zle,zjX,zh4,List.replicate,map_cons,map_nil,map_some,Option.bind_some,Option.bind_none,Option.join_some,getElem?_cons_zero,getElem?_cons_succ,set_cons_zero,set_cons_succ,List.take_succ_cons,take_zero,List.take_nil,length_cons,length_nil,nil_append,cons_append,Option.some.injEq,exists_eq_left',exists_eq_left,List.cons.injEq,XV.d.injEq,XV.l.injEq,XV.o.injEq,PyData.int.injEq,PyData.list.injEq,PyData.tuple.injEq,PyData.bool.injEq,PyData.str.injEq,and_true,true_and,decide_eq_true_eq,Bool.not_true,Bool.not_false,Bool.false_eq_true,Bool.true_eq_false,not_true_eq_false,not_false_eq_true,↓reduceIte,decide_true,decide_false,Bool.not_eq_true',znk,decide_eq_false_iff_not,Nat.reduceAdd,Nat.reduceMul,zero_add,Nat.reduceLT,Nat.reduceLeDiff,Nat.reduceEqDiff,Int.reduceLT,Int.reduceLE,Int.reduceNeg,Int.reducePow,Int.reduceToNat,Int.reduceEq,Int.reduceAdd,Int.reduceSub,Int.reduceMul,le_refl,zero_le,length_append,length_map,zil,zuL,List.isEmpty_nil,List.isEmpty_cons,Int.cast_ofNat_Int,Int.natCast_zero,Int.natCast_one,znc,zlk,zj5,zln,znw,zli,zj7,zlA,zud]))
local macro_rules | `(tactic| walk_at "e")=>`(tactic| (try simp only [zM,zac,ziO,zsG,zpz,zkU,zlG,ziB,zkX,all_cons,List.all_nil,Bool.and_self,znK,zqK,zuC,znJ,zh8,zpq,zuZ,zmZ,zpk,zu7,zoy,zjU,zoU,zqU,zub,zqn,zu5,zpv,zj,zg,dC,dO,dOp,dUn,zo,zc,dCB,zc2,zc4,zdt,dB,zet,zuX,dOr,ze2,zsJ,zoh,dIf,zfR,dI,dI0,dIb,dUI,zfH,zk6,zsM,zjW,zsX,zuJ,zsQ,zsO,zqo,zql,zq0,zqO,zqG,zra,zmL,zqd,zqH,zqV,dFd,zdO,zqw,zqT,zbd,zdR,dSl,zam,zoE,zqP,zi1,zpb,dI2,zcv,ziA,dBM,zth,zuW,zb3,zgo,zfG,zu0,zpK,zpo,zsH,zmY,zu9,zL,zO,zty,ztk,zt4,zuO,asL,zq4,ztV,zs5,ztg,zte,zmJ,zne,zqq,zrd,zre,zsY,ztv,znO,zn3,zqj,zqr,zri,zqm,zao,zbI,zdv,zad,zlI,zeO,zaQ,zqz,zqQ,zaM,zok,ziK,zfl,zco,zZ,ztl,zti,zur,ztI,zua,ztd,zcN,zlM,zbK,ze8,zar,zo1,zug,zg9,zlz,zkT,zle,zjX,zh4,List.replicate,map_cons,map_nil,map_some,Option.bind_some,Option.bind_none,Option.join_some,getElem?_cons_zero,getElem?_cons_succ,set_cons_zero,set_cons_succ,List.take_succ_cons,take_zero,List.take_nil,length_cons,length_nil,nil_append,cons_append,Option.some.injEq,exists_eq_left',exists_eq_left,List.cons.injEq,XV.d.injEq,XV.l.injEq,XV.o.injEq,PyData.int.injEq,PyData.list.injEq,PyData.tuple.injEq,PyData.bool.injEq,PyData.str.injEq,and_true,true_and,decide_eq_true_eq,Bool.not_true,Bool.not_false,Bool.false_eq_true,Bool.true_eq_false,not_true_eq_false,not_false_eq_true,↓reduceIte,decide_true,decide_false,Bool.not_eq_true',znk,decide_eq_false_iff_not,Nat.reduceAdd,Nat.reduceMul,zero_add,Nat.reduceLT,Nat.reduceLeDiff,Nat.reduceEqDiff,Int.reduceLT,Int.reduceLE,Int.reduceNeg,Int.reducePow,Int.reduceToNat,Int.reduceEq,Int.reduceAdd,Int.reduceSub,Int.reduceMul,le_refl,zero_le,length_append,length_map,zil,zuL,List.isEmpty_nil,List.isEmpty_cons,Int.cast_ofNat_Int,Int.natCast_zero,Int.natCast_one,znc,zlk,zj5,zln,znw,zli,zj7,zlA,zud]))
section
variable {R:RX}
theorem zgT{n:Int}(q:∀ m,0<=m->R (.d (.int m)) []):zdc [.d (.int n)] [] R:=by
 unfold zdc;walk_at "e";have h1:=Int.emod_nonneg (n+7919) (show (2147483647:Int)≠0 by decide);have h2:=Int.emod_lt_of_pos (n+7919) (show (0:Int)<2147483647 by decide);exact⟨zel (by omega) (by omega),zel dz dz,q _ (Int.emod_nonneg _ dz)⟩
theorem zy{p:List PyData}{n:Int}(hp:zaU p)(hn:0<n)(hb:n.natAbs.log2<9000)(q:∀ r p',0<=r->r<n->zaU p'->R (.d (.int r)) [p']):zt [.l 0,.d (.int n)] [p] R:=by
 obtain⟨l,g,sd,rfl,hl⟩:=hp;unfold zt;walk_at "e";split
 ·refine⟨hn,.inl ⟨⟨hn,hb⟩,0,rfl,?_⟩⟩;walk_at "e";exact q _ _ (Int.emod_nonneg _ (by omega)) (Int.emod_lt_of_pos _ hn) ⟨_,_,_,rfl,Int.ediv_nonneg hl (by omega)⟩
 ·refine zgT fun m _=>?_;walk_at "e";refine zgT fun m' h'=>?_;walk_at "e";refine⟨2,rfl,?_⟩;walk_at "e";exact .inl ⟨⟨by decide,by decide +kernel⟩,hn,q _ _ (Int.emod_nonneg _ (by omega)) (Int.emod_lt_of_pos _ hn) ⟨_,_,_,rfl,hl⟩⟩
theorem ziq{n:Int}(q:∀ p,zaU p->R (.l 0) [p]):zcS [.d (.int n)] [] R:=by
 unfold zcS;walk_at "e";refine⟨⟨by decide,by decide,by decide⟩,?_⟩;refine .inr (q _ ⟨_,_,_,rfl,?_⟩);split <;> omega
theorem zgh{p:List PyData}(hp:zaU p)(q:∀ r p',-10 ^ 58<=r->r<=10 ^ 58->zaU p'->R (.d (.int r)) [p']):zbh [.l 0] [p] R:=by
 unfold zbh;walk_at "e";refine zy hp dz (by decide +kernel) fun r p1 r0 r1 hp1=>?_;walk_at "e";split
 ·refine zy hp1 dz (by decide +kernel) fun r p2 r0 r1 hp2=>?_;walk_at "e";exact q _ _ (by omega) (by omega) hp2
 ·split
  ·refine zy hp1 dz (by decide +kernel) fun r p2 r0 r1 hp2=>?_;walk_at "e";exact q _ _ (by omega) (by omega) hp2
  ·refine⟨⟨by decide,by decide,by decide⟩,zel dz dz,?_⟩;have k1:(10:Int) ^ 30=1000000000000000000000000000000:=by decide +kernel
   have k2:(10:Int) ^ 28=10000000000000000000000000000:=by decide +kernel
   refine zy hp1 (by decide +kernel) (by decide +kernel) fun r p2 r0 r1 hp2=>?_;walk_at "e"
   try simp only [k1,k2] at r1 ⊢
   refine⟨⟨by decide,by decide,by decide⟩,⟨by decide,by decide,by decide⟩,zvH 128 128 (by omega) (by decide +kernel),q _ _ (by omega) (by omega) hp2⟩
end
section
variable {R:RX}
theorem zsP{α:Type}[Inhabited α]{l:List α}{i:Int}(h0:0<=i)(h1:i<l.length)(d:α):atI l i=some (l.getD i.toNat d):=by
 obtain⟨k,rfl⟩:=Int.eq_ofNat_of_zero_le h0;have hk:k<l.length:=by omega
 rw [zcH (getElem?_eq_getElem hk)];simp [getD_eq_getElem?_getD,hk]
theorem zlx:("abcdefghijklmnopqrstuvwxyz":Str).length=26:=by decide
theorem zpf:("abcdefghijklmnopqrstuvwxyz":Str).cps.toList.length=26:=by rw [<- zlx]; simp [Str.length]
theorem zjf:("abcdefghijklmnopqrstuvwxyz":Str).length<=sizeLine:=le_of_lt (small1000 (by rw [zlx]; decide))
theorem len1(c:Nat):(⟨#[c]⟩:Str).length=1:=rfl
abbrev lsgn (i:Int):Str:=⟨#[("abcdefghijklmnopqrstuvwxyz":Str).cps.toList.getD i.toNat 0]⟩
theorem znW{i:Int}(h0:0<=i)(h1:i<26):atI ("abcdefghijklmnopqrstuvwxyz":Str).cps.toList i=some (("abcdefghijklmnopqrstuvwxyz":Str).cps.toList.getD i.toNat 0):=zsP h0 (by rw [zpf]; exact h1) 0
theorem zmQ{ds:List PyData}{a b:Option Int}{d:PyData}(m:d∈zdJ ds a b):d∈ds:=by
 unfold zdJ at m;exact mem_of_mem_drop (mem_of_mem_take m)
def zf1(z:Str):Bool:=decide (z.length<=100) && PyData.strOk z && !decide (z = "zy")
theorem ztY:∀ f<26,∀ k<8,zf1 (PySem.Txt.mul (lsgn (((f:Nat)+5*(0+((k:Nat):Int))) % 26)) (1+((f:Nat)+3*(0+((k:Nat):Int))) % 8))=true:=by decide +kernel
theorem zuU:∀ f<26,∀ k<8,zf1 (PySem.Txt.slice (PySem.Txt.join "" ((List.range 8).map fun k:Nat=>lsgn (((f:Nat)+7*(0+(k:Int))) % 26))) none (some (0+((k:Nat):Int)+1)))=true:=by decide +kernel
theorem zr3{ds:List PyData}(h:∀ d∈ds,∃ z:Str,d=.str z/\zf1 z=true):∃ zs:List Str,ds=zs.map PyData.str/\zs.length=ds.length/\∀ z∈zs,zf1 z=true:=by
 induction ds with
 | nil=>exact⟨[],rfl,rfl,by simp⟩
 | cons d ds ih =>
  obtain⟨z,rfl,hz⟩:=h d mem_cons_self;obtain⟨zs,rfl,hl,hzs⟩:=ih fun d m=>h d (mem_cons_of_mem _ m);refine⟨z :: zs,rfl,by simp,fun y m=>?_⟩;rcases mem_cons.mp m with rfl | m
  ·exact hz
  ·exact hzs y m
theorem zoD(a b:Str):(a++b).length=a.length+b.length:=strLen_append a b
theorem zjS:∀ zs:List Str,(∀ z∈zs,z.length<=1)->(Str.join "" zs).length<=zs.length
 | [],_=>le_refl 0
 | [a],h=>h a mem_cons_self
 | a :: b :: r,h=>by
  show (a ++ "" ++ Str.join "" (b :: r)).length<=_;rw [zoD,zoD];have e:("":Str).length=0:=rfl;have h1:=h a mem_cons_self;have h2:=zjS (b :: r) fun z m=>h z (mem_cons_of_mem _ m);rw [e];simp only [length_cons] at h2 ⊢;omega
def zkc(ds:List PyData):Prop:=∀ d∈ds,∃ z:Str,d=.str z/\zf1 z=true
theorem zkA{ds:List PyData}{a:Int}(h0:0<=a)(h1:a<=ds.length):(zdJ ds (some a) none++zdJ ds none (some a)).length=ds.length:=by
 obtain⟨k,rfl⟩:=Int.eq_ofNat_of_zero_le h0;have e1:HT.sIx ds.length 0 (some (k:Int))=k:=by rw [HT.sIx_nat]; omega
 have e2:HT.sIx ds.length ds.length (some (k:Int))=k:=by rw [HT.sIx_nat]; omega
 have e3:HT.sIx ds.length ds.length none=ds.length:=rfl;have e4:HT.sIx ds.length 0 none=0:=rfl;unfold zdJ;rw [e1,e2,e3,e4,length_append,length_take,length_take,length_drop,length_drop];omega
def zmF:List Str:=["part","gap","cut","a","aa","dear","b","keeps"]
set_option maxHeartbeats 8000000 in
theorem zgP{p:List PyData}(hp:zaU p)(q:∀ (ns:List Str) p',ns.length=8->(∀ z∈ns,zf1 z=true)->zaU p'->R (.d (.list (ns.map PyData.str))) [p']):zbw [.l 0] [p] R:=by
 unfold zbw;walk_at "dX"
 (refine seq1 ?_; walk_at "dX")
 (refine seq1 ?_; walk_at "dX")
 refine zy hp dz (by decide +kernel) fun way p1 w0 w1 hp1=>?_;walk_at "dX"
 (refine seq1 ?_; walk_at "dX")
 refine zy hp1 dz (by decide +kernel) fun fst p2 f0 f1 hp2=>?_;walk_at "dX";refine cut (fun δ' S'=>∃ (ds:List PyData),zkc ds/\ds.length=8/\S'=[p2,ds]/\δ'=[some (.l 0),some (.d (.str ("abcdefghijklmnopqrstuvwxyz":Str))),some (.d (.int way)),some (.d (.int fst)),some (.l 1),none,none]) (fun N hN=>?_) ?_
 ·walk_at "dX";refine cmp1 (S0:=[p2]) (fun k:Nat=>.str (PySem.Txt.mul (lsgn ((fst+5*(0+k)) % 26)) (1+(fst+3*(0+k)) % 8))) rfl (List.range 8) (by simp) ?_ ?_
  ·intro k mk u acc R' hk;have b1:=Int.emod_nonneg (fst+5*(0+(k:Int))) (show (26:Int)≠0 by decide);have b2:=Int.emod_lt_of_pos (fst+5*(0+(k:Int))) (show (0:Int)<26 by decide);have b3:=Int.emod_nonneg (fst+3*(0+(k:Int))) (show (8:Int)≠0 by decide);have b4:=Int.emod_lt_of_pos (fst+3*(0+(k:Int))) (show (0:Int)<8 by decide);walk_at "dX";refine⟨zel dz dz,zjf,_,znW b1 b2,?_⟩;walk_at "dX";refine⟨zel dz dz,?_⟩;walk_at "dX";exact⟨by rw [len1]; decide,by omega,by omega,hk _⟩
  ·refine hN _ _ ⟨_,?_,by simp,rfl,rfl⟩;intro d m;obtain⟨k,mk,rfl⟩:=mem_map.mp m;obtain⟨f,rfl⟩:=Int.eq_ofNat_of_zero_le f0;exact⟨_,rfl,ztY f (by omega) k (mem_range.mp mk)⟩
 rintro _ _ ⟨ds,hds,hl,rfl,rfl⟩;refine cut (fun δ' S'=>∃ (ds:List PyData) (T:Sto) (k:Nat) (u:Option XV),zkc ds/\ds.length=8/\T[k]? = some ds/\S'=p2 :: T/\δ'=[some (.l 0),some (.d (.str ("abcdefghijklmnopqrstuvwxyz":Str))),some (.d (.int way)),some (.d (.int fst)),some (.l (k+1)),u,none]) (fun N hN=>?_) ?_
 ·walk_at "dX";split
  ·refine seq1 ?_;walk_at "dX";refine cmp1 (S0:=[p2,ds]) (fun k:Nat=>.str (lsgn ((fst+7*(0+k)) % 26))) rfl (List.range 8) (by simp) ?_ ?_
   ·intro k mk u acc R' hk;have b1:=Int.emod_nonneg (fst+7*(0+(k:Int))) (show (26:Int)≠0 by decide);have b2:=Int.emod_lt_of_pos (fst+7*(0+(k:Int))) (show (0:Int)<26 by decide);walk_at "dX";refine⟨zel dz dz,zjf,_,znW b1 b2,?_⟩;exact hk _
   ·walk_at "dX";refine⟨(List.range 8).map fun k:Nat=>lsgn ((fst+7*(0+k)) % 26),by rw [map_map]; rfl,by decide,by simp,fun y m=>?_,?_⟩
    ·obtain⟨k,_,rfl⟩:=mem_map.mp m;show 1<=1000;decide
    ·have wl:(PySem.Txt.join "" ((List.range 8).map fun k:Nat=>lsgn ((fst+7*(0+k)) % 26))).length<=8*1016:=by
      have:=zp2 (y:=("":Str)) (zs:=(List.range 8).map fun k:Nat=>lsgn ((fst+7*(0+k)) % 26)) dz (fun y m=>by
       obtain⟨k,_,rfl⟩:=mem_map.mp m;show 1<=1000;decide)
      simpa using this
     have wl':(PySem.Txt.join "" ((List.range 8).map fun k:Nat=>lsgn ((fst+7*(0+k)) % 26))).length<=8:=by
      show (Builtin.Str.glued _ _).length<=_;rw [StrLaws.glued_eq_join];have:=zjS ((List.range 8).map fun k:Nat=>lsgn ((fst+7*(0+k)) % 26)) (fun y m=>by
       obtain⟨k,_,rfl⟩:=mem_map.mp m;exact le_refl 1)
      simpa using this
     walk_at "dX";refine cmp1 (S0:=[p2,ds]) (fun k:Nat=>.str (PySem.Txt.slice (PySem.Txt.join "" ((List.range 8).map fun k:Nat=>lsgn ((fst+7*(0+k)) % 26))) none (some (0+k+1)))) rfl (List.range 8) (by simp) ?_ ?_
     ·intro k mk u acc R' hk;walk_at "dX";exact⟨le_trans wl (by rw [sizeLine_eq]; decide),hk _⟩
     ·refine hN _ _ ⟨_,[ds,_],1,_,?_,?_,rfl,rfl,rfl⟩
      ·intro d m;obtain⟨k,mk,rfl⟩:=mem_map.mp m;obtain⟨f,rfl⟩:=Int.eq_ofNat_of_zero_le f0;exact⟨_,rfl,zuU f (by omega) k (mem_range.mp mk)⟩
      ·simp
  ·exact hN _ _ ⟨ds,[ds],0,none,hds,hl,rfl,rfl,rfl⟩
 rintro _ _ ⟨ds,T,k,u,hds,hl,hk,rfl,rfl⟩;refine cut (fun δ' S'=>∃ (ds:List PyData) (T:Sto) (k:Nat),zkc ds/\ds.length=8/\T[k]? = some ds/\S'=p2 :: T/\δ'=[some (.l 0),some (.d (.str ("abcdefghijklmnopqrstuvwxyz":Str))),some (.d (.int way)),some (.d (.int fst)),some (.l (k+1)),u,none]) (fun N hN=>?_) ?_
 ·walk_at "dX";split
  ·refine hN _ _ ⟨zmF.map PyData.str,T++[zmF.map PyData.str],T.length,?_,rfl,by rw [getElem?_concat_length],rfl,rfl⟩;intro d m;obtain⟨z,hz,rfl⟩:=mem_map.mp m;refine⟨z,rfl,?_⟩;simp only [zmF,mem_cons,not_mem_nil,or_false] at hz;rcases hz with rfl | rfl | rfl | rfl | rfl | rfl | rfl | rfl <;> decide +kernel
  ·exact hN _ _ ⟨ds,T,k,hds,hl,hk,rfl,rfl⟩
 rintro _ _ ⟨ds,T,k,hds,hl,hk,rfl,rfl⟩
 (refine seq1 ?_; walk_at "dX")
 refine zy hp2 dz (by decide +kernel) fun at' p3 a0 a1 hp3=>?_;walk_at "dX"
 (refine seq1 ?_; walk_at "dX")
 refine⟨ds,hk,ds,hk,?_⟩;have hc:=zkA (ds:=ds) a0 (by omega);rw [length_append] at hc;refine⟨by omega,?_⟩;have hk2:(T++[zdJ ds (some at') none++zdJ ds none (some at')])[T.length]? = some (zdJ ds (some at') none++zdJ ds none (some at')):=by rw [getElem?_concat_length]
 have hs2:zkc (zdJ ds (some at') none++zdJ ds none (some at')):=fun d m=>(mem_append.mp m).elim (fun m=>hds d (zmQ m)) fun m=>hds d (zmQ m);have hl2:(zdJ ds (some at') none++zdJ ds none (some at')).length=8:=by rw [length_append]; omega
 generalize zdJ ds (some at') none++zdJ ds none (some at')=es at hk2 hs2 hl2 ⊢;refine seq1 ?_;walk_at "dX";refine zy hp3 dz (by decide +kernel) fun r p4 r0 r1 hp4=>?_;walk_at "dX";have fin':∀ (fs:List PyData),zkc fs->fs.length=8->R (.d (.list fs)) [p4]:=by
  intro fs h1 h2;obtain⟨zs,rfl,z1,z2⟩:=zr3 h1;exact q zs p4 (by omega) z2 hp4
 split
 ·refine⟨by simp,es,hk2,?_⟩;walk_at "dX";rw [if_neg (by omega)];refine⟨es.reverse,by simp [ziL],.inl (fin' _ (fun d m=>hs2 d (mem_reverse.mp m)) (by simpa using hl2))⟩
 ·rw [if_neg (by omega)];exact⟨es,hk2,.inl (fin' _ hs2 hl2)⟩
abbrev Part:=Str×Int×Int
def zlP(p:Part):PyData:=.tuple [.str p.1,.int p.2.1,.int p.2.2]
def zdf(ps:List Part):PyData:=.tuple (ps.map zlP)
structure Prt(p:Part):Prop where
 nm:zf1 p.1=true
 le:p.2.1<=p.2.2
 lo:-10 ^ 58<=p.2.1
 hi:p.2.2<=10 ^ 59
structure Drw(ps:List Part):Prop where
 l1:1<=ps.length
 l8:ps.length<=8
 all:∀ p∈ps,Prt p
theorem zaH{α:Type}{f:α->PyData}{l:List α}{k:Nat}{x:α}(e:l[k]? = some x):atI (l.map f) (k:Int)=some (f x):=zcH (by rw [getElem?_map,e]; rfl)
end
section
variable {R:RX} {S:Sto}
theorem zqc{a b m:Int}(h1:m∈[a,b])(h2:∀ x,x∈[a,b]->m<=x):m=min a b:=by
 have ha:=h2 a (by simp);have hb:=h2 b (by simp);simp only [mem_cons,not_mem_nil,or_false] at h1;omega
theorem zqf{a b m:Int}(h1:m∈[a,b])(h2:∀ x,x∈[a,b]->x<=m):m=max a b:=by
 have ha:=h2 a (by simp);have hb:=h2 b (by simp);simp only [mem_cons,not_mem_nil,or_false] at h1;omega
theorem zwq{a b:Int}(q:R (.d (.int (min a b))) S):zkP [.d (.list [.int a,.int b])] S R:=.inl ⟨_,rfl,[a,b],rfl,by simp,fun m h1 h2=>by rw [zqc h1 h2]; exact q⟩
theorem zwu{a b:Int}(q:R (.d (.int (min a b))) S):zkP [.d (.tuple [.int a,.int b])] S R:=.inl ⟨_,rfl,[a,b],rfl,by simp,fun m h1 h2=>by rw [zqc h1 h2]; exact q⟩
theorem zwr{a b:Int}(q:R (.d (.int (max a b))) S):zsI [.d (.list [.int a,.int b])] S R:=⟨_,rfl,[a,b],rfl,by simp,fun m h1 h2=>by rw [zqf h1 h2]; exact q⟩
theorem zwm{a b:Int}(q:R (.d (.int (max a b))) S):zsI [.d (.tuple [.int a,.int b])] S R:=⟨_,rfl,[a,b],rfl,by simp,fun m h1 h2=>by rw [zqf h1 h2]; exact q⟩
abbrev Term:=Nat×Int
def tmD(t:Term):PyData:=.tuple [.int t.1,.int t.2]
def zrc(ts:List Term):PyData:=.tuple (ts.map tmD)
structure Gap where
 ts:List Term
 lo:Int
 hi:Int
def zi2(g:Gap):PyData:=.tuple [zrc g.ts,.int g.lo,.int g.hi]
theorem zcL(g:Gap):zi2 g=.tuple [zrc g.ts,.int g.lo,.int g.hi]:=rfl
theorem zon(t:Term):tmD t=.tuple [.int t.1,.int t.2]:=rfl
theorem zov(p:Part):zlP p=.tuple [.str p.1,.int p.2.1,.int p.2.2]:=rfl
def zU(ns:List Int):PyData:=.tuple (ns.map PyData.int)
structure Tms(n:Nat)(ts:List Term):Prop where
 ne:ts≠[]
 len:ts.length<=n
 ok:∀ t∈ts,t.1<n/\t.2≠0/\-3<=t.2/\t.2<=3
 srt:ts.Pairwise fun t u=>t.1<u.1
structure Tm3(n:Nat)(ts:List Term):Prop where
 len:ts.length<=100
 ok:∀ t∈ts,t.1<n/\-3<=t.2/\t.2<=3
theorem Tms.tm3{n:Nat}{ts:List Term}(h:Tms n ts)(hn:n<=8):Tm3 n ts:=⟨by have:=h.len; omega,fun t m=>⟨(h.ok t m).1,(h.ok t m).2.2⟩⟩
theorem Tm3.of_cons{n:Nat}{t:Term}{ts:List Term}(h:Tm3 n (t :: ts)):Tm3 n ts:=⟨by have:=h.len; rw [length_cons] at this; omega,fun u m=>h.ok u (mem_cons_of_mem _ m)⟩
def worth(ts:List Term)(ns:List Int):Int:=(ts.map fun t=>t.2*ns.getD t.1 0).sum
theorem zkr{ns:List Int}{k:Nat}(h:k<ns.length):ns[k]? = some (ns.getD k 0):=by
 rw [getElem?_eq_getElem h,getD_eq_getElem?_getD,getElem?_eq_getElem h];rfl
def part(ps:List Part)(k:Nat):Part:=ps.getD k ("",0,0)
theorem ziW{ps:List Part}{k:Nat}(h:k<ps.length):ps[k]? = some (part ps k):=by
 unfold part;rw [getElem?_eq_getElem h,getD_eq_getElem?_getD,getElem?_eq_getElem h];rfl
def plo(ps:List Part)(k:Nat):Int:=(part ps k).2.1
def phi(ps:List Part)(k:Nat):Int:=(part ps k).2.2
def tLo(ps:List Part)(t:Term):Int:=min (t.2*plo ps t.1) (t.2*phi ps t.1)
def tHi(ps:List Part)(t:Term):Int:=max (t.2*plo ps t.1) (t.2*phi ps t.1)
def zb1(ps:List Part)(ts:List Term):Int:=(ts.map (tLo ps)).sum
def zc6(ps:List Part)(ts:List Term):Int:=(ts.map (tHi ps)).sum
theorem zg5{ps:List Part}{t:Term}{ts:List Term}:zb1 ps (t :: ts)=tLo ps t+zb1 ps ts:=by simp [zb1]
theorem zhW{ps:List Part}{t:Term}{ts:List Term}:zc6 ps (t :: ts)=tHi ps t+zc6 ps ts:=by simp [zc6]
theorem zmp{ns:List Int}{t:Term}{ts:List Term}:worth (t :: ts) ns=t.2*ns.getD t.1 0+worth ts ns:=by simp [worth]
theorem zgx{ps:List Part}{ts:List Term}{i:Nat}{t:Term}(h:ts[i]? = some t):zb1 ps (ts.take (i+1))=zb1 ps (ts.take i)+tLo ps t:=by
 unfold zb1;rw [take_add_one,h];simp
theorem zh9{ps:List Part}{ts:List Term}{i:Nat}{t:Term}(h:ts[i]? = some t):zc6 ps (ts.take (i+1))=zc6 ps (ts.take i)+tHi ps t:=by
 unfold zc6;rw [take_add_one,h];simp
theorem zl1{ns:List Int}{ts:List Term}{i:Nat}{t:Term}(h:ts[i]? = some t):worth (ts.take (i+1)) ns=worth (ts.take i) ns+t.2*ns.getD t.1 0:=by
 unfold worth;rw [take_add_one,h];simp
theorem zdj(ps:List Part):∀ ts:List Term,zb1 ps ts<=zc6 ps ts
 | []=>by simp [zb1,zc6]
 | t :: ts=>by
  have:=zdj ps ts;rw [zg5,zhW];unfold tLo tHi;omega
theorem zbG{α:Type}{f:α->PyData}{l:List α}{i:Nat}{d:PyData}(h:(l.map f)[i]? = some d):∃ x,l[i]? = some x/\d=f x:=by
 rw [getElem?_map] at h;obtain⟨x,e,rfl⟩:=map_eq_some_iff.mp h;exact⟨x,e,rfl⟩
theorem zpu{ds:List PyData}{r:Int}{P:PyData->Prop}(h0:0<=r)(h1:r<ds.length)(hP:∀ d∈ds,P d):∃ d,atI ds r=some d/\P d:=by
 obtain⟨k,rfl⟩:=Int.eq_ofNat_of_zero_le h0;have hk:k<ds.length:=by omega
 exact⟨ds[k],zcH (getElem?_eq_getElem hk),hP _ (getElem_mem hk)⟩
theorem zmX(ds:List PyData):PyData.eqv (.list ds) (.list [])=decide (ds=[]):=by
 cases ds with
 | nil=>rfl
 | cons d ds=>rfl
theorem zuT(t:Term):Shp 1 (tmD t):=zhr (zrs zeL zeL)
theorem zlU(ts:List Term):SeqAt.shaped (.list (ts.map tmD))=true:=(zk3 (zi3 fun t _=>zuT t)).ok
def zci(gs:List Gap):PyData:=.tuple (gs.map zi2)
theorem zvP{g:DG}{te:DE}{fin:Sto->Prop}{α:Type}(F:α->Prop)(f:α->PyData)(P:XE->Prop):∀ (ds:List PyData) (acc:List α) (p:List PyData) (τ:XE),P τ->zaU p->acc.length+ds.length<=1000 ->
  (∀ d∈ds,∀ τ p acc (R:XE->RX),P τ->zaU p->(∀ τ' x p',P τ'->zaU p'->F x->R τ' (.d (f x)) [p',acc])->g (.d d) τ [p,acc] fun τ1 S1=>te τ1 S1 (R τ1)) ->
  (∀ xs p',zaU p'->(∀ x∈xs,F x)->xs.length=ds.length->fin [p',(acc++xs).map f])->zeP 1 g zar te fin ds τ [p,acc.map f]
 | [],acc,p,τ,_,hp,_,_,h=>by
  have:=h [] p hp (by simp) rfl;rw [append_nil] at this;exact this
 | d :: ds,acc,p,τ,hP,hp,hl,el,h=>by
  show g (.d d) τ [p,acc.map f] fun τ1 S1=>zar τ1 S1 fun b S2=>if b=true then te τ1 S2 fun x S3=>asD x fun e=>∃ acc,S3[1]? = some acc/\acc.length<1000/\zeP 1 g zar te fin ds τ1 (S3.set 1 (acc++[e])) else zeP 1 g zar te fin ds τ1 S2
  simp only [zar,↓reduceIte];rw [length_cons] at hl;refine el d mem_cons_self τ p (acc.map f) (fun τ1 x S3=>asD x fun e=>∃ acc,S3[1]? = some acc/\acc.length<1000/\zeP 1 g zar te fin ds τ1 (S3.set 1 (acc++[e]))) hP hp fun τ' x p' hP' hp' hF=>?_;refine⟨acc.map f,rfl,by rw [length_map]; omega,?_⟩;have e:([p',acc.map f]:Sto).set 1 (acc.map f++[f x])=[p',(acc++[x]).map f]:=by simp
  rw [e];refine zvP F f P ds (acc++[x]) p' τ' hP' hp' (by rw [length_append,length_singleton]; omega) (fun e m=>el e (mem_cons_of_mem _ m)) fun xs p'' hp'' fs hl=>?_;rw [append_assoc];exact h (x :: xs) p'' hp'' (fun y m=>(mem_cons.mp m).elim (fun e=>e▸hF) (fs y)) (by simp [hl])
end
section
variable {R:RX} {S:Sto}
theorem zrt{a b c d:Int}(q:R (.d (spD (a+c) (b+d))) []):zlc [.d (spD a b),.d (spD c d)] [] R:=by
 unfold zlc spD;walk_at "e";exact q
theorem ziE{a b n:Int}(h1:-3<=n)(h2:n<=3)(q:R (.d (spD (min (a*n) (b*n)) (max (a*n) (b*n)))) []):zcP [.d (spD a b),.d (.int n)] [] R:=by
 unfold zcP spD;walk_at "e";refine⟨zmT (by omega) (by omega),zmT (by omega) (by omega),?_⟩;refine zwu ?_;walk_at "e";refine zwm ?_;walk_at "e";exact q
theorem zl8{p:Part}(q:R (.d (spD p.2.1 p.2.2)) []):ze0 [.d (zlP p)] [] R:=by
 unfold ze0 zlP;walk_at "e";exact q
theorem zve{ps:List Part}{t:Term}:min ((part ps t.1).2.1*t.2) ((part ps t.1).2.2*t.2)=tLo ps t:=by
 unfold tLo plo phi;rw [Int.mul_comm t.2,Int.mul_comm t.2]
theorem zvE{ps:List Part}{t:Term}:max ((part ps t.1).2.1*t.2) ((part ps t.1).2.2*t.2)=tHi ps t:=by
 unfold tHi plo phi;rw [Int.mul_comm t.2,Int.mul_comm t.2]
theorem zft{ps:List Part}{ts:List Term}{t:PyData}(ht:zmk (.d t)=some (ts.map tmD))(h3:Tm3 ps.length ts)(q:R (.d (spD (zb1 ps ts) (zc6 ps ts))) []):zby [.d (zdf ps),.d t] [] R:=by
 unfold zby zdf;walk_at "d"
 walk_at "n"
 walk_at "n";refine⟨_,ht,?_⟩;refine zab (fun i δ S=>∃ (u1 u2:Option XV),S=[]/\δ=[some (.d (.tuple (ps.map zlP))),some (.d t),some (.d (spD (zb1 ps (ts.take i)) (zc6 ps (ts.take i)))),u1,u2]) ⟨_,_,rfl,rfl⟩ ?_ ?_
 ·rintro i d _ _ N hi ⟨u1,u2,rfl,rfl⟩ hN;obtain⟨t,ht,rfl⟩:=zbG hi;obtain⟨t1,t2,t3⟩:=h3.ok t (mem_of_getElem? ht);have ep:=zaH (f:=zlP) (ziW t1);rw [zon];walk_at "d";refine⟨_,ep,?_⟩;refine zl8 ?_;walk_at "d";refine ziE t2 t3 ?_;walk_at "d";refine zrt ?_;walk_at "d";exact hN _ _ ⟨_,_,rfl,by rw [zgx ht,zh9 ht,<- zve,<- zvE]⟩
 ·rintro _ _ ⟨u1,u2,rfl,rfl⟩;rw [length_map,take_length];walk_at "d";exact q
theorem zkv{g:Gap}{ns:List Int}(h3:Tm3 ns.length g.ts)(q:R (.d (.int (worth g.ts ns))) []):zec [.d (zi2 g),.d (zU ns)] [] R:=by
 unfold zec zU;rw [zcL,zrc];walk_at "e";refine cmp2 (S0:=[]) (fun t:Term=>.int (t.2*ns.getD t.1 0)) rfl g.ts (by have:=h3.len; omega) ?_ ?_
 ·intro t mt u v acc R' hk;obtain⟨t1,t2,t3⟩:=h3.ok t mt;have e:=zaH (f:=PyData.int) (zkr t1);rw [zon];walk_at "e";refine⟨_,e,?_⟩;walk_at "e";exact⟨zel (by omega) (by omega),hk _ _⟩
 ·walk_at "e";refine⟨g.ts.map fun t:Term=>t.2*ns.getD t.1 0,by rw [map_map]; rfl,q⟩
def zdA(g:Gap)(ns:List Int):Bool:=decide (g.lo<=worth g.ts ns/\worth g.ts ns<=g.hi)
theorem zp6{g:Gap}{ns:List Int}(h3:Tm3 ns.length g.ts)(q:R (.d (.bool (zdA g ns))) []):ziP [.d (zi2 g),.d (zU ns)] [] R:=by
 unfold ziP;walk_at "e";rw [zcL];walk_at "e";rw [<- zcL];refine zkv h3 ?_;walk_at "e";unfold zdA at q;by_cases h:g.lo<=worth g.ts ns
 ·simp only [h,true_and] at q;rw [if_pos h];exact q
 ·simp only [h,false_and,decide_false] at q;rw [if_neg h];exact q
structure InBox(ps:List Part)(ns:List Int):Prop where
 len:ns.length=ps.length
 ok:∀ k,k<ps.length->plo ps k<=ns.getD k 0/\ns.getD k 0<=phi ps k
theorem ziH{ps:List Part}{ms:List Int}(hb:InBox ps ms):∀ {ts:List Term},Tm3 ps.length ts->zb1 ps ts<=worth ts ms/\worth ts ms<=zc6 ps ts
 | [],_=>by simp [zb1,zc6,worth]
 | t :: ts,h3=>by
  obtain⟨t1,t2,t3⟩:=h3.ok t mem_cons_self;obtain⟨b1,b2⟩:=hb.ok t.1 t1;have ih:=ziH hb h3.of_cons;rw [zg5,zhW,zmp];have k:tLo ps t<=t.2*ms.getD t.1 0/\t.2*ms.getD t.1 0<=tHi ps t:=by
   unfold tLo tHi;generalize plo ps t.1=lo at b1 b2 ⊢;generalize phi ps t.1=hi at b1 b2 ⊢;generalize ms.getD t.1 0=x at b1 b2 ⊢;have:t.2 = -3\/t.2 = -2\/t.2 = -1\/t.2=0\/t.2=1\/t.2=2\/t.2=3:=by omega
   rcases this with e | e | e | e | e | e | e <;> rw [e] <;> omega
  omega
theorem zjR{gs:List Gap}{ns:List Int}(hl:gs.length<=100)(h3:∀ g∈gs,Tm3 ns.length g.ts)(q:R (.d (.list (gs.map fun g=>.bool (zdA g ns)))) []):zdp [.d (zci gs),.d (zU ns)] [] R:=by
 unfold zdp;rw [zci];walk_at "e";refine cmp1 (S0:=[]) (fun g:Gap=>.bool (zdA g ns)) rfl gs (by omega) ?_ ?_
 ·intro g mg u acc R' hk;walk_at "e";refine zp6 (h3 g mg) ?_;walk_at "e";exact hk _
 ·walk_at "e";exact .inl q
end
section
variable {R:RX} {S:Sto}
def zic:PyData->Bool
 | .int _=>true
 | _=>false
end
section
variable {R:RX} {S:Sto}
def rng(lo:Int)(n:Nat):List Int:=(List.range n).map fun k:Nat=>lo+k
def zmM(p:Part):List Int:=rng p.2.1 (p.2.2 - p.2.1+1).toNat
theorem zoN(p:Part):(zmM p).length=(p.2.2 - p.2.1+1).toNat:=by simp [zmM,rng]
def ext(found:List (List Int))(p:Part):List (List Int):=found.flatMap fun a=>(zmM p).map fun x=>a++[x]
def zaa:List Nat->Nat
 | []=>1
 | x :: xs=>x*zaa xs
def zr0(ps:List Part):Nat:=zaa (ps.map fun p=>(p.2.2 - p.2.1+1).toNat)
theorem zdl{α β:Type}{f:α->List β}{n:Nat}:∀ {l:List α},(∀ x∈l,(f x).length=n)->(l.flatMap f).length=l.length*n
 | [],_=>by simp
 | x :: l,h=>by
  rw [List.flatMap_cons,length_append,h x mem_cons_self,zdl fun y m=>h y (mem_cons_of_mem _ m),length_cons,succ_mul,Nat.add_comm]
theorem zm8{found:List (List Int)}{p:Part}:(ext found p).length=found.length*(p.2.2 - p.2.1+1).toNat:=by
 unfold ext;exact zdl fun x _=>by rw [length_map,zoN]
theorem zc8:∀ {l:List Nat},(∀ x∈l,1<=x)->1<=zaa l
 | [],_=>le_refl _
 | x :: l,h=>mul_le_mul (h x mem_cons_self) (zc8 fun y m=>h y (mem_cons_of_mem _ m))
theorem zd2:∀ (a b:List Nat),zaa (a++b)=zaa a*zaa b
 | [],b=>by simp [zaa]
 | x :: a,b=>by simp [zaa,zd2 a b,Nat.mul_assoc]
theorem zdm{α:Type}{l:List α}{i:Nat}{x:α}(h:l[i]? = some x):l.take (i+1)=l.take i++[x]:=by rw [take_add_one,h]; rfl
theorem zjB(a:List Int)(x:Int):PyData.tuple (a.map PyData.int++[.int x])=zU (a++[x]):=by simp [zU]
end
section
variable {R:RX} {S:Sto}
structure Wds(ws:List Int):Prop where
 l1:1<=ws.length
 l8:ws.length<=8
 pos:∀ x∈ws,1<=x
 le:∀ x∈ws,x<=300
 prod:zaa (ws.map Int.toNat)<=300
theorem prod3:∀ {ws:List Int},(∀ x∈ws,1<=x/\x<=3)->zaa (ws.map Int.toNat)<=3 ^ ws.length
 | [],_=>by simp [zaa]
 | x :: ws,h=>by
  have h1:=h x mem_cons_self;have h2:=prod3 fun y m=>h y (mem_cons_of_mem _ m);rw [map_cons,zaa,length_cons,pow_succ,mul_comm];exact mul_le_mul h2 (by omega)
theorem wds3{ws:List Int}(l1:1<=ws.length)(l4:ws.length<=4)(h:∀ x∈ws,1<=x/\x<=3):Wds ws:=by
 refine⟨l1,by omega,fun x m=>(h x m).1,fun x m=>by have:=(h x m).2; omega,le_trans (prod3 h) ?_⟩;have:ws.length=1\/ws.length=2\/ws.length=3\/ws.length=4:=by omega
 rcases this with e | e | e | e <;> rw [e] <;> decide
theorem zoY{Q names number:PN}{p:List PyData}{m:Int}(hQ:Q=fun xs S R=>(zM (zac (zO 0 1 names (zc (zg 0) zo)) (zj 2)) (zM (zac (zbK [none,some 0] (zaM (zc (dOp zbP (dC (.int 1)) (zO 0 2 zt (zc (zg 0) (zc (zg 1) zo)))) zo)) (zj 0) zar (dOp zbP (dC (.int 1)) (zO 0 2 zt (zc (zg 1) (zc (dC (.int 3)) zo))))) (zj 3)) (zM (zbI (dB (dOp zfH (zO 0 2 zt (zc (zg 0) (zc (dC (.int 12)) zo))) (dC (.int 0)))) (zac (dOp dIx (zc4 (zc (dOp zfX (zc4 (zc (dC (.int 2)) zo)) (dC (.int 8))) (zc (zc4 (zc (dC (.int 17)) (zc (dC (.int 17)) zo))) (zc (zc4 (zc (dC (.int 300)) zo)) (zc (dOp zfX (zc4 (zc (dC (.int 1)) zo)) (dC (.int 8))) zo))))) (zO 0 2 zt (zc (zg 0) (zc (dC (.int 4)) zo)))) (zj 3)) zad) (zM (zac (zdt zo) (zj 4)) (zM (zeO (zaM (zc (dCB zam (zc (zg 3) zo)) zo)) (zj 5) (zM (zac (zO 0 1 number (zc (zg 0) zo)) (zj 6)) (zdv (dBM zb3 (zg 4) (zc (zc2 (zc (dOp dIx (zg 2) (zg 5)) (zc (zg 6) (zc (dOp (dI0 fun i j=>i - j) (dOp zbP (zg 6) (dOp dIx (zg 3) (zg 5))) (dC (.int 1))) zo)))) zo))))) (zao (dCB zcv (zc (zg 4) zo)))))))) (zbi S.length R) (xs.map some++List.replicate 5 none) S)
  (hnames:∀ {p:List PyData} {R:RX},zaU p->(∀ (ns:List Str) p',ns.length=8->(∀ z∈ns,zf1 z=true)->zaU p'->R (.d (.list (ns.map PyData.str))) [p'])->names [.l 0] [p] R)
  (hnumber:∀ {p:List PyData} {R:RX},zaU p->(∀ r p',-10 ^ 58<=r->r<=10 ^ 58->zaU p'->R (.d (.int r)) [p'])->number [.l 0] [p] R)
  (hp:zaU p) (m1:0<m) (m4:m<=4) (q:∀ (ps:List Part) p',Drw ps->zr0 ps<=300->zaU p'->R (.d (zdf ps)) [p']):Q [.l 0,.d (.int m)] [p] R:=by
 subst hQ;walk_at "d"
 walk_at "n"
 refine hnames hp fun ns p1 hn hz hp1=>?_;walk_at "d"
 walk_at "n"
 refine zy hp1 m1 (zcC m1 (by omega)) fun r p2 r0 r1 hp2=>?_;walk_at "d";refine zvP (α:=Int) (fun x=>1<=x/\x<=3) PyData.int (fun τ=>∃ u,τ=[u,some (.l 0)]) _ [] p2 _ ⟨_,rfl⟩ hp2 (by rw [zap]; simp; omega) ?_ ?_
 ·rintro d md _ p acc R' ⟨u,rfl⟩ hp hk;walk_at "d";refine zy hp dz (by decide +kernel) fun r p' r0 r1 hp'=>?_;walk_at "d";exact hk _ _ p' ⟨_,rfl⟩ hp' ⟨by omega,by omega⟩
 ·intro ws p3 hp3 hw hl;rw [zap] at hl;have hws:Wds ws:=wds3 (by omega) (by omega) hw;rw [nil_append];walk_at "d";refine cut (fun δ S=>∃ (p:List PyData) (ws:List Int),zaU p/\Wds ws/\S=[p]/\δ=[some (.l 0),some (.d (.int m)),some (.d (.list (ns.map PyData.str))),some (.d (.list (ws.map PyData.int))),none,none,none]) (fun N hN=>?_) ?_
  ·walk_at "d";refine zy hp3 dz (by decide +kernel) fun r2 p4 r3 r4 hp4=>?_;walk_at "d";split
   ·refine zy hp4 dz (by decide +kernel) fun r5 p5 r6 r7 hp5=>?_;obtain⟨d,ed,ws',rfl,hw'⟩:=zpu (P:=fun d=>∃ ws:List Int,d=.list (ws.map PyData.int)/\Wds ws) (ds:=[PyData.list (List.replicate 8 [PyData.int 2]).flatten,.list [.int 17,.int 17],.list [.int 300],.list (List.replicate 8 [PyData.int 1]).flatten]) r6 r7 (by
     intro d m;simp only [mem_cons,not_mem_nil,or_false] at m;rcases m with rfl | rfl | rfl | rfl
     ·exact⟨[2,2,2,2,2,2,2,2],rfl,by decide,by decide,by decide,by decide,by decide⟩
     ·exact⟨[17,17],rfl,by decide,by decide,by decide,by decide,by decide⟩
     ·exact⟨[300],rfl,by decide,by decide,by decide,by decide,by decide⟩
     ·exact⟨[1,1,1,1,1,1,1,1],rfl,by decide,by decide,by decide,by decide,by decide⟩)
    walk_at "d";refine⟨_,ed,hN _ _ ⟨p5,ws',hp5,hw',rfl,rfl⟩⟩
   ·exact hN _ _ ⟨p4,ws,hp4,hws,rfl,rfl⟩
  rintro _ _ ⟨p,ws,hp,hws,rfl,rfl⟩;have w8:=hws.l8
  walk_at "n"
  walk_at "n";refine zab (fun i δ S=>∃ (p:List PyData) (ps:List Part) (u1 u2:Option XV),zaU p/\ps.length=i/\(∀ p∈ps,Prt p)/\ps.map (fun p=>(p.2.2 - p.2.1+1).toNat)=(ws.take i).map Int.toNat/\S=[p,ps.map zlP]/\δ=[some (.l 0),some (.d (.int m)),some (.d (.list (ns.map PyData.str))),some (.d (.list (ws.map PyData.int))),some (.l 1),u1,u2]) ⟨p,[],_,_,hp,rfl,by simp,rfl,rfl,rfl⟩ ?_ ?_
  ·rintro i d _ _ N hi ⟨p,ps,u1,u2,hp,hl,ha,hs,rfl,rfl⟩ hN;obtain⟨hi',rfl⟩:=zbs hi;have iw:i<ws.length:=by simpa using hi'
   have i8:i<ns.length:=by omega
   have e:=zaH (f:=PyData.str) (getElem?_eq_getElem i8);have ew:=zaH (f:=PyData.int) (getElem?_eq_getElem iw);have w1:=hws.pos _ (getElem_mem iw);have w300:=hws.le _ (getElem_mem iw);have e0:(0:Int)+(i:Int)=(i:Int):=by omega
   walk_at "d"
   walk_at "n"
   refine hnumber hp fun lo p3 h1 h2 hp3=>?_;walk_at "d";rw [e0];refine⟨_,e,?_⟩;walk_at "d";refine⟨_,ew,?_⟩;walk_at "d";refine⟨by omega,hN _ _ ⟨p3,ps++[(ns[i],lo,lo+ws[i] - 1)],_,_,hp3,by simp [hl],fun x hx=>?_,?_,by simp [zlP],rfl⟩⟩
   ·rcases mem_append.mp hx with hx | hx
    ·exact ha x hx
    ·rw [mem_singleton.mp hx];exact⟨hz _ (getElem_mem i8),by simp only; omega,h1,by simp only; omega⟩
   ·rw [map_append,hs,zdm (getElem?_eq_getElem iw),map_append];congr 1;simp only [map_cons,map_nil,List.cons.injEq,and_true];omega
  ·rintro _ _ ⟨p,ps,u1,u2,hp,hl,ha,hs,rfl,rfl⟩;rw [zap] at hl hs;have hz':(ws.length:Int).toNat=ws.length:=by simp
   rw [hz'] at hl hs;rw [take_length] at hs;walk_at "d";have hw1:=hws.l1;exact q ps p ⟨by omega,by omega,ha⟩ (by unfold zr0; rw [hs]; exact hws.prod) hp
theorem zir{p:List PyData}{m:Int}(hp:zaU p)(m1:0<m)(m4:m<=4)(q:∀ (ps:List Part) p',Drw ps->zr0 ps<=300->zaU p'->R (.d (zdf ps)) [p']):zdY [.l 0,.d (.int m)] [p] R :=
 zoY (names:=zbw) (number:=zbh) rfl zgP zgh hp m1 m4 q
theorem zgC{g:Gap}{ns:List Int}(h3:Tm3 ns.length g.ts)(q:R (.d (.int (worth g.ts ns))) []):zek [.d (zi2 g),.d (zU ns)] [] R:=by
 unfold zek zU;rw [zcL,zrc];walk_at "d"
 walk_at "n"
 walk_at "n";refine zab (fun i δ S=>∃ (u1 u2:Option XV),S=[]/\δ=[some (.d (.tuple [.tuple (g.ts.map tmD),.int g.lo,.int g.hi])),some (.d (.tuple (ns.map PyData.int))),some (.d (.int (worth (g.ts.take i) ns))),u1,u2]) ⟨_,_,rfl,rfl⟩ ?_ ?_
 ·rintro i d _ _ N hi ⟨u1,u2,rfl,rfl⟩ hN;obtain⟨t,ht,rfl⟩:=zbG hi;obtain⟨t1,t2,t3⟩:=h3.ok t (mem_of_getElem? ht);have e:=zaH (f:=PyData.int) (zkr t1);rw [zon];walk_at "d";refine⟨_,e,?_⟩;walk_at "d";exact⟨zel (by omega) (by omega),hN _ _ ⟨_,_,rfl,by rw [zl1 ht]⟩⟩
 ·rintro _ _ ⟨u1,u2,rfl,rfl⟩;rw [length_map,take_length];walk_at "d";exact q
theorem zfZ{g:Gap}{ns:List Int}(h3:Tm3 ns.length g.ts)(q:R (.d (.int (worth g.ts ns))) []):zdi [.d (zi2 g),.d (zU ns)] [] R:=zgC h3 q
theorem zgz:∀ (a b:List Int),PyData.eqvAll (a.map PyData.int) (b.map PyData.int)=decide (a=b)
 | [],[]=>rfl
 | [],_ :: _=>rfl
 | _ :: _,[]=>rfl
 | x :: a,y :: b=>by
  show (PyData.eqv (.int x) (.int y) && PyData.eqvAll (a.map PyData.int) (b.map PyData.int))=_;rw [zil,zgz a b];by_cases h1:x=y <;> by_cases h2:a=b <;> simp [h1,h2]
theorem znR(a b:List Int):PyData.eqv (zU a) (zU b)=decide (a=b):=zgz a b
theorem zsz{n:Nat}(a:List Int):Shp (n+1) (zU a):=zhr (zi3 fun _ _=>zeL)
theorem zd8(a:List Int):SeqAt.shaped (zU a)=true:=(zsz (n:=0) a).ok
end
section
variable {R:RX}
theorem zhG{found:List (List Int)}{p:Part}(hl:(ext found p).length<=1000)(fl:∀ a∈found,a.length<=100)(h1:1<=found.length)(q:R (.d (.list ((ext found p).map zU))) []):zaZ [.d (.list (found.map zU)),.d (.list ((zmM p).map PyData.int))] [] R:=by
 unfold zaZ;walk_at "d"
 walk_at "n"
 walk_at "n";refine zab (fun j δ S=>∃ (u:Option XV),S=[(ext (found.take j) p).map zU]/\δ=[some (.d (.list (found.map zU))),some (.d (.list ((zmM p).map PyData.int))),some (.l 0),u]) ⟨_,rfl,rfl⟩ ?_ ?_
 ·rintro j d _ _ N hj ⟨u,rfl,rfl⟩ hN;obtain⟨a,ha,rfl⟩:=zbG hj;have al:=fl a (mem_of_getElem? ha);have ej:ext (found.take (j+1)) p=ext (found.take j) p++(zmM p).map fun x=>a++[x]:=by
   rw [zdm ha];unfold ext;rw [List.flatMap_append];simp
  have lj:(ext (found.take (j+1)) p).length<=(ext found p).length:=by
   rw [zm8,zm8,length_take];exact Nat.mul_le_mul_right _ (by omega)
  have sm:(ext (found.take j) p).length+(zmM p).length<=1000:=by
   rw [ej,length_append,length_map] at lj;omega
  rw [zU];walk_at "d";refine cmp1 (S0:=[(ext (found.take j) p).map zU]) (fun x:Int=>zU (a++[x])) rfl (zmM p) (by omega) ?_ ?_
  ·intro x mx u acc R' hk;walk_at "d";refine⟨by omega,?_⟩;rw [zjB];exact hk _
  ·walk_at "d";refine⟨sm,hN _ _ ⟨_,?_,rfl⟩⟩;rw [ej,map_append,map_map];rfl
 ·rintro _ _ ⟨u,rfl,rfl⟩;rw [length_map,take_length];walk_at "d";exact .inl q
def blk(n i:Nat):List (List Nat):=(List.range (n - (i+1))).map fun k=>[i,i+1+k]
end
section
variable {R:RX} {S:Sto}
def few0(s1 s2 r:Int):Int:=if (r - (s1+2*s2)+2) / 3>0 then (r - (s1+2*s2)+2) / 3 else 0
def few(s1 s2 r:Int):Int:=if s1=0/\(r - few0 s1 s2 r) % 2=1 then few0 s1 s2 r+1 else few0 s1 s2 r
theorem zqb{ps:List Part}{g:Gap}(h3:Tm3 ps.length g.ts)(q:R (.d (spD (zb1 ps g.ts) (zc6 ps g.ts))) []):ziY [.d (zdf ps),.d (zi2 g)] [] R:=by
 unfold ziY;rw [zcL];walk_at "d";refine zft rfl h3 ?_;walk_at "d";exact q
end
section
variable {R:RX} {S:Sto}
structure TimesL(l:List Int):Prop where
 l1:1<=l.length
 l6:l.length<=6
 ok:∀ x∈l,x≠0/\-3<=x/\x<=3
theorem zeb{l:List Int}(h:(decide (1<=l.length) && decide (l.length<=6) && l.all fun x=>decide (x≠0/\-3<=x/\x<=3))=true):TimesL l:=by
 simp only [Bool.and_eq_true,decide_eq_true_eq,all_eq_true] at h;exact⟨h.1.1,h.1.2,h.2⟩
theorem TimesL.at{l:List Int}(h:TimesL l){r:Int}(r0:0<=r)(r1:r<l.length):∃ n,atI (l.map PyData.int) r=some (.int n)/\n≠0/\-3<=n/\n<=3:=by
 obtain⟨k,rfl⟩:=Int.eq_ofNat_of_zero_le r0;have hk:k<l.length:=by omega
 exact⟨l[k],zaH (getElem?_eq_getElem hk),h.ok _ (getElem_mem hk)⟩
theorem zjI{p:List PyData}{ps:List Part}(hp:zaU p)(hd:Drw ps)(q:∀ ts p',Tms ps.length ts->zaU p'->R (.d (zrc ts)) [p']):zgZ [.l 0,.d (zdf ps)] [p] R:=by
 have h8:=hd.l8;have h1:=hd.l1;unfold zgZ;walk_at "d"
 walk_at "n"
 refine zy hp dz (by decide +kernel) fun r p1 r0 r1 hp1=>?_;obtain⟨d,ed,l,rfl,hl⟩:=zpu (P:=fun d=>∃ l:List Int,d=.list (l.map PyData.int)/\TimesL l) (ds:=[PyData.list [.int 1,.int (-1),.int 2,.int (-2),.int 3,.int (-3)],.list [.int 1,.int (-1)],.list [.int 2,.int (-2)],.list [.int 3,.int (-3)],.list [.int 2,.int 3,.int (-2),.int (-3)],.list [.int 1,.int 3,.int (-1),.int (-3)]]) r0 r1 (by
  intro d m;simp only [mem_cons,not_mem_nil,or_false] at m;rcases m with rfl | rfl | rfl | rfl | rfl | rfl
  ·exact⟨[1,-1,2,-2,3,-3],rfl,zeb dz⟩
  ·exact⟨[1,-1],rfl,zeb dz⟩
  ·exact⟨[2,-2],rfl,zeb dz⟩
  ·exact⟨[3,-3],rfl,zeb dz⟩
  ·exact⟨[2,3,-2,-3],rfl,zeb dz⟩
  ·exact⟨[1,3,-1,-3],rfl,zeb dz⟩)
 have l1:=hl.l1;have l6:=hl.l6;walk_at "d";refine⟨_,ed,?_⟩;walk_at "d"
 walk_at "n"
 refine cut (fun δ S=>∃ (p:List PyData) (ts:List Term) (u1:Option XV),zaU p/\ts.length<=ps.length/\(∀ t∈ts,t.1<ps.length/\t.2≠0/\-3<=t.2/\t.2<=3)/\(ts.Pairwise fun t u=>t.1<u.1)/\S=[p,ts.map tmD]/\δ=[some (.l 0),some (.d (zdf ps)),some (.d (.list (l.map PyData.int))),some (.l 1),u1]) (fun N hN=>?_) ?_
 ·walk_at "d";refine⟨ps.length,by unfold zdf; walk_at "d",?_⟩;refine zab (fun i δ S=>∃ (p:List PyData) (ts:List Term) (u1:Option XV),zaU p/\ts.length<=i/\(∀ t∈ts,t.1<i/\t.2≠0/\-3<=t.2/\t.2<=3)/\(ts.Pairwise fun t u=>t.1<u.1)/\S=[p,ts.map tmD]/\δ=[some (.l 0),some (.d (zdf ps)),some (.d (.list (l.map PyData.int))),some (.l 1),u1]) ⟨p1,[],_,hp1,le_refl _,by simp,.nil,rfl,rfl⟩ ?_ ?_
  ·rintro i d _ _ N hi ⟨p,ts,u1,hp,hl',ht,hw,rfl,rfl⟩ hN;obtain⟨hi',rfl⟩:=zbs hi;have hi8:i<ps.length:=by simpa using hi'
   walk_at "d";refine zy hp dz (by decide +kernel) fun r p2 r0 r1 hp2=>?_;walk_at "d";split
   ·refine zy hp2 (by omega) (zcC (by omega) (by omega)) fun r3 p3 r30 r31 hp3=>?_;obtain⟨n,en,hn⟩:=hl.at r30 r31;walk_at "d";refine⟨_,en,?_⟩;walk_at "d";refine⟨by omega,hN _ _ ⟨p3,ts++[(i,n)],_,hp3,by simp; omega,fun t m=>?_,?_,by simp [tmD],rfl⟩⟩
    ·rcases mem_append.mp m with m | m
     ·exact⟨by have:=(ht t m).1; omega,(ht t m).2⟩
     ·rw [mem_singleton.mp m];exact⟨by simp,hn⟩
    ·rw [List.pairwise_append];exact⟨hw,by simp,fun t m u m'=>by rw [mem_singleton.mp m']; exact(ht t m).1⟩
   ·exact hN _ _ ⟨p2,ts,_,hp2,by omega,fun t m=>⟨by have:=(ht t m).1; omega,(ht t m).2⟩,hw,rfl,rfl⟩
  ·rintro _ _ ⟨p,ts,u1,hp,hl',ht,hw,rfl,rfl⟩;rw [zap] at hl' ht;have hz:(ps.length:Int).toNat=ps.length:=by simp
   rw [hz] at hl' ht;exact hN _ _ ⟨p,ts,u1,hp,hl',ht,hw,rfl,rfl⟩
 rintro _ _ ⟨p,ts,u1,hp,hl',ht,hw,rfl,rfl⟩;refine cut (fun δ S=>∃ (p:List PyData) (ts:List Term) (T:Sto) (k:Nat),zaU p/\Tms ps.length ts/\T[k]? = some (ts.map tmD)/\S=p :: T/\δ=[some (.l 0),some (.d (zdf ps)),some (.d (.list (l.map PyData.int))),some (.l (k+1)),u1]) (fun N hN=>?_) ?_
 ·walk_at "d";refine⟨zlU ts,rfl,?_⟩;rw [zmX];walk_at "d";split
  ·refine⟨ps.length,by unfold zdf; walk_at "d",?_⟩;refine zy hp (by omega) (zcC (by omega) (by omega)) fun r p2 r0 r1 hp2=>?_;walk_at "d";refine zy hp2 (by omega) (zcC (by omega) (by omega)) fun r3 p3 r30 r31 hp3=>?_;obtain⟨n,en,hn⟩:=hl.at r30 r31;obtain⟨k,rfl⟩:=Int.eq_ofNat_of_zero_le r0;walk_at "d";refine⟨_,en,?_⟩;walk_at "d";refine hN _ _ ⟨p3,[(k,n)],[ts.map tmD,[tmD (k,n)]],1,hp3,⟨by simp,by simpa using h1,fun t m=>by rw [mem_singleton.mp m]; exact⟨by simp only; omega,hn⟩,by simp⟩,rfl,rfl,rfl⟩
  ·rename_i hne;exact hN _ _ ⟨p,ts,[ts.map tmD],0,hp,⟨fun z=>hne (by rw [z]; rfl),hl',ht,hw⟩,rfl,rfl,rfl⟩
 rintro _ _ ⟨p,ts,T,k,hp,hts,hk,rfl,rfl⟩;walk_at "d";exact⟨_,hk,q ts p hts hp⟩
end
section
variable {R:RX}
theorem len2{ds:List PyData}(h:ds.length=2):∃ x y,ds=[x,y]:=by
 match ds,h with
 | [x,y],_=>exact⟨x,y,rfl⟩
theorem Rb{x y:Bool}{S:Sto}(q:R (.d (.bool y)) S)(e:x=y):R (.d (.bool x)) S:=by rw [e]; exact q
end
section
variable {R:RX} {S:Sto}
def zfv(ps:List Part)(g:Gap):Bool:=decide (g.hi<zb1 ps g.ts\/zc6 ps g.ts<g.lo)
theorem zrZ{a b c d:Int}(q:R (.d (if max a c<=min b d then spD (max a c) (min b d) else .none)) []):zlv [.d (spD a b),.d (spD c d)] [] R:=by
 unfold zlv spD;unfold spD at q;have e1:(if c>a then c else a)=max a c:=by split <;> omega
 have e2:(if d<b then d else b)=min b d:=by split <;> omega
 walk_at "d"
 walk_at "n"
 walk_at "n"
 rw [e1,e2];split
 ·rename_i h;rw [if_pos h] at q;exact q
 ·rename_i h;rw [if_neg h] at q;exact q
theorem zjJ{g:Gap}(q:R (.d (spD g.lo g.hi)) []):zdx [.d (zi2 g)] [] R:=by
 unfold zdx;rw [zcL];walk_at "d";exact q
theorem zi6{ps:List Part}{g:Gap}(h3:Tm3 ps.length g.ts)(hle:g.lo<=g.hi)(q:R (.d (.bool (zfv ps g))) []):zeQ [.d (zdf ps),.d (zi2 g)] [] R:=by
 have lm:=zdj ps g.ts;unfold zeQ;walk_at "d";refine zqb h3 ?_;walk_at "d";refine zjJ ?_;walk_at "d";refine zrZ ?_;walk_at "d";refine Rb q ?_;unfold zfv;by_cases h:max (zb1 ps g.ts) g.lo<=min (zc6 ps g.ts) g.hi
 ·rw [if_pos h];show false=_
  symm
  rw [decide_eq_false_iff_not];omega
 ·rw [if_neg h];show true=_
  symm
  rw [decide_eq_true_eq];omega
inductive Hs:PyData->Prop
 | tup {ds:List PyData}:(∀ x r,ds=x :: r->SeqAt.shaped x=true)->(∀ y∈ds,Hs y)->Hs (.tuple ds)
 | oth {d:PyData}:(∀ ds,d≠.tuple ds)->Hs d
theorem Hs.hd{x:PyData}{r:List PyData}(h:Hs (.tuple (x :: r))):SeqAt.shaped x=true:=by
 cases h with
 | tup h1 h2=>exact h1 x r rfl
 | oth h=>exact absurd rfl (h _)
theorem Hs.item{ds:List PyData}(h:Hs (.tuple ds)):∀ y∈ds,Hs y:=by
 cases h with
 | tup h1 h2=>exact h2
 | oth h=>exact absurd rfl (h _)
theorem len5{ds:List PyData}(h:ds.length=5):∃ x y z u v,ds=[x,y,z,u,v]:=by
 match ds,h with
 | [x,y,z,u,v],_=>exact⟨x,y,z,u,v,rfl⟩
theorem zl3{ps:List Part}{ts:List Term}(h:∀ t∈ts,plo ps t.1=phi ps t.1):zb1 ps ts=zc6 ps ts:=by
 unfold zb1 zc6;congr 1;apply map_congr_left;intro t m;unfold tLo tHi;rw [h t m];omega
end
section
theorem zgX(a b:Int)(x y:List Int):HT.lexLt (a :: x) (b :: y)=true↔a<b\/a=b/\HT.lexLt x y=true:=by
 rw [HT.lexLt_cons];split
 ·rename_i h;exact⟨fun z=>.inr ⟨h,z⟩,fun z=>z.elim (fun z=>by omega) fun z=>z.2⟩
 ·rename_i h;rw [decide_eq_true_eq];exact⟨fun z=>.inl z,fun z=>z.elim id fun z=>absurd z.1 h⟩
theorem zju(x:List Int):HT.lexLt x []=false:=by cases x <;> rfl
theorem zum:∀ {x y z:List Int},HT.lexLt x y=true->HT.lexLt y z=true->HT.lexLt x z=true
 | x,y,[],_,h=>by rw [zju] at h; cases h
 | x,[],_,h,_=>by rw [zju] at h; cases h
 | [],_ :: _,_ :: _,_,_=>rfl
 | a :: x,b :: y,c :: z,h,k=>by
  rw [zgX] at h k ⊢;rcases h with h | ⟨h,h'⟩ <;> rcases k with k | ⟨k,k'⟩
  ·exact .inl (by omega)
  ·exact .inl (by omega)
  ·exact .inl (by omega)
  ·exact .inr ⟨by omega,zum h' k'⟩
theorem zoG:∀ {x y z:List Int},HT.lexLt x y=true->HT.lexLt y z=true->x <+: z->x <+: y
 | [],y,_,_,_,_=>List.nil_prefix
 | a :: x,[],_,h,_,_=>by rw [zju] at h; cases h
 | a :: x,b :: y,[],_,h,_=>by rw [zju] at h; cases h
 | a :: x,b :: y,c :: z,h,k,p=>by
  rw [zgX] at h k;rw [List.cons_prefix_cons] at p ⊢;obtain⟨rfl,p⟩:=p;rcases h with h | ⟨h,h'⟩ <;> rcases k with k | ⟨k,k'⟩
  ·omega
  ·omega
  ·omega
  ·exact⟨h,zoG h' k' p⟩
theorem zq6:∀ {x y:List Int},x <+: y->HT.lexLt y x=false
 | [],y,_=>zju y
 | a :: x,[],p=>by simp at p
 | a :: x,b :: y,p=>by
  rw [List.cons_prefix_cons] at p;obtain⟨rfl,p⟩:=p;cases h:HT.lexLt (a :: y) (a :: x) with
  | false=>rfl
  | true =>
   rcases(zgX a a y x).mp h with z | ⟨_,z⟩
   ·omega
   ·rw [zq6 p] at z; cases z
def zie:List (List Int)->Bool
 | x :: y :: r=>HT.lexLt x y && !(x.isPrefixOf y) && zie (y :: r)
 | _=>true
def Free(x y:List Int):Prop:=¬ x <+: y/\¬ y <+: x
theorem ziS:∀ {x:List Int} {B:List (List Int)},zie (x :: B)=true->∀ y∈B,HT.lexLt x y=true/\¬ x <+: y
 | x,[],_,y,m=>by cases m
 | x,z :: r,h,y,m=>by
  simp only [zie,Bool.and_eq_true,Bool.not_eq_true'] at h;obtain⟨⟨h1,h2⟩,h3⟩:=h;have n:¬ x <+: z:=fun p=>by rw [isPrefixOf_iff_prefix.mpr p] at h2; cases h2
  rcases mem_cons.mp m with rfl | m
  ·exact⟨h1,n⟩
  ·have k:=ziS h3 y m;exact⟨zum h1 k.1,fun p=>n (zoG h1 k.1 p)⟩
theorem zlH:∀ {B:List (List Int)},zie B=true->B.Pairwise Free
 | [],_=>.nil
 | x :: B,h=>by
  refine .cons (fun y m=>⟨(ziS h y m).2,fun p=>?_⟩) (zlH ?_)
  ·have:=zq6 p;rw [(ziS h y m).1] at this;cases this
  ·cases B with
   | nil=>rfl
   | cons z r =>
    simp only [zie,Bool.and_eq_true] at h;exact h.2
def fil:List Nat->List (List Int)
 | []=>[[]]
 | s :: r=>(List.range s).flatMap fun k:Nat=>(fil r).map fun z=>(k:Int) :: z
theorem zdu:∀ sz:List Nat,(fil sz).length=zaa sz
 | []=>rfl
 | s :: r=>by
  have:∀ (n:Nat),((List.range n).flatMap fun k:Nat=>(fil r).map fun z=>(k:Int) :: z).length=n*zaa r:=by
   intro n;induction n with
   | zero=>simp
   | succ n ih =>
    rw [List.range_succ,List.flatMap_append,length_append,ih];simp [zdu r,succ_mul]
  exact this s
def Bgn:List Nat->List Int->Prop
 | _,[]=>True
 | [],_ :: _=>False
 | s :: r,k :: b=>(0<=k/\k<s)/\Bgn r b
theorem zcq:∀ {sz:List Nat} {z:List Int},z∈fil sz↔z.length=sz.length/\Bgn sz z
 | [],z=>by
  cases z with
  | nil=>simp [fil,Bgn]
  | cons a z=>simp [fil,Bgn]
 | s :: r,z=>by
  simp only [fil,mem_flatMap,mem_range,mem_map];constructor
  ·rintro⟨k,hk,y,hy,rfl⟩;have:=(zcq (sz:=r)).mp hy;exact⟨by simp [this.1],⟨by omega,by omega⟩,this.2⟩
  ·rintro⟨h1,h2⟩;cases z with
   | nil=>simp at h1
   | cons k z =>
    obtain⟨⟨a,b⟩,c⟩:=h2;exact⟨k.toNat,by omega,z,(zcq (sz:=r)).mpr ⟨by simpa using h1,c⟩,by rw [Int.toNat_of_nonneg a]⟩
theorem zjd:∀ {sz:List Nat} {b:List Int},Bgn sz b->((fil sz).filter fun z=>b.isPrefixOf z).length=zaa (sz.drop b.length)
 | sz,[],_=>by
  rw [List.filter_eq_self.mpr (fun _ _=>by simp [List.isPrefixOf])];simp [zdu]
 | s :: r,k :: b,h=>by
  obtain⟨⟨h0,h1⟩,hb⟩:=h;have ih:=zjd (sz:=r) hb;have blk:∀ j:Nat,(((fil r).map fun z=>(j:Int) :: z).filter fun z=>(k :: b).isPrefixOf z).length=if (j:Int)=k then zaa (r.drop b.length) else 0:=by
   intro j;rw [List.filter_map,length_map];by_cases e:(j:Int)=k
   ·rw [if_pos e,<- ih];congr 1;apply List.filter_congr;intro z _;simp [List.isPrefixOf,e]
   ·rw [if_neg e];rw [List.length_eq_zero_iff,List.filter_eq_nil_iff];intro z _;simp [List.isPrefixOf,Ne.symm e]
  have all:∀ n:Nat,(((List.range n).flatMap fun j:Nat=>(fil r).map fun z=>(j:Int) :: z).filter fun z=>(k :: b).isPrefixOf z).length=if k<n then zaa (r.drop b.length) else 0:=by
   intro n;induction n with
   | zero=>rw [if_neg (by omega)]; rfl
   | succ n ih2 =>
    rw [List.range_succ,List.flatMap_append,List.filter_append,length_append,ih2];have:=blk n;simp only [List.flatMap_cons,List.flatMap_nil,append_nil];rw [this];by_cases e1:k<n
    ·rw [if_pos e1,if_neg (by omega),if_pos (by omega)]; rfl
    ·by_cases e2:(n:Int)=k
     ·rw [if_neg e1,if_pos e2,if_pos (by omega)]; omega
     ·rw [if_neg e1,if_neg e2,if_neg (by omega)]
  have:=all s;rw [if_pos h1] at this;exact this
theorem ziy{α β:Type}(p:α->β->Bool):∀ (A:List α) (B:List β),(A.map fun a=>(B.filter fun b=>p a b).length).sum=(B.map fun b=>(A.filter fun a=>p a b).length).sum
 | [],B=>by
  induction B with
  | nil=>rfl
  | cons b B ih=>simpa using ih
 | a :: A,B=>by
  have ih:=ziy p A B;rw [map_cons,sum_cons,ih];induction B with
  | nil=>rfl
  | cons b B ihB =>
   have ih':(B.filter fun b=>p a b).length+(B.map fun b=>(A.filter fun a=>p a b).length).sum=(B.map fun b=>((a :: A).filter fun a=>p a b).length).sum:=ihB (ziy p A B);rw [map_cons,map_cons,sum_cons,sum_cons,<- ih'];by_cases h:p a b=true
   ·simp only [filter_cons,h,if_true,length_cons];omega
   ·simp only [filter_cons,h,if_false,Bool.false_eq_true];omega
theorem zig:∀ {l:List Nat},(∀ x∈l,x<=1)->(l.sum=l.length↔∀ x∈l,x=1)
 | [],_=>by simp
 | a :: l,h=>by
  have h1:=h a mem_cons_self;have ih:=zig (l:=l) fun x m=>h x (mem_cons_of_mem _ m);have le:l.sum<=l.length:=by
   have:∀ {l:List Nat},(∀ x∈l,x<=1)->l.sum<=l.length:=by
    intro l;induction l with
    | nil=>simp
    | cons b l ih=>intro h; have:=h b mem_cons_self; have:=ih fun x m=>h x (mem_cons_of_mem _ m); simp; omega
   exact this fun x m=>h x (mem_cons_of_mem _ m)
  rw [sum_cons,length_cons];constructor
  ·intro e x m;rcases mem_cons.mp m with rfl | m
   ·omega
   ·exact ih.mp (by omega) x m
  ·intro e;have:=e a mem_cons_self;have:=ih.mpr fun x m=>e x (mem_cons_of_mem _ m);omega
theorem zio:∀ {B:List (List Int)} (z:List Int),B.Pairwise Free->(B.filter fun b=>b.isPrefixOf z).length<=1
 | [],_,_=>by simp
 | b :: B,z,h=>by
  rw [List.pairwise_cons] at h;by_cases p:b.isPrefixOf z=true
  ·have:B.filter (fun b=>b.isPrefixOf z)=[]:=by
    rw [List.filter_eq_nil_iff];intro c mc pc;have p1:=isPrefixOf_iff_prefix.mp p;have p2:=isPrefixOf_iff_prefix.mp pc;have fr:=h.1 c mc;rcases Nat.le_total b.length c.length with w | w
    ·exact fr.1 (List.prefix_of_prefix_length_le p1 p2 w)
    ·exact fr.2 (List.prefix_of_prefix_length_le p2 p1 w)
   simp [filter_cons,p,this]
  ·simp only [filter_cons,p,if_false,Bool.false_eq_true];exact zio z h.2
def zr2(sz:List Nat)(B:List (List Int)):Nat:=(B.map fun b=>zaa (sz.drop b.length)).sum
theorem zjb{sz:List Nat}{B:List (List Int)}(hB:∀ b∈B,Bgn sz b)(ha:zie B=true):zr2 sz B=zaa sz↔∀ z∈fil sz,∃ b∈B,b <+: z:=by
 have e1:zr2 sz B=((fil sz).map fun z=>(B.filter fun b=>b.isPrefixOf z).length).sum:=by
  rw [<- ziy (fun(b:List Int) (z:List Int)=>b.isPrefixOf z) B (fil sz)];unfold zr2;congr 1;apply map_congr_left;intro b mb;exact(zjd (hB b mb)).symm
 have fr:=zlH ha;have one:∀ x∈(fil sz).map fun z=>(B.filter fun b=>b.isPrefixOf z).length,x<=1:=by
  intro x m;obtain⟨z,_,rfl⟩:=mem_map.mp m;exact zio z fr
 have:=zig one;rw [length_map,zdu] at this;rw [e1,this];constructor
 ·intro h z mz;have:=h _ (mem_map_of_mem mz);cases hf:B.filter fun b=>b.isPrefixOf z with
  | nil=>rw [hf] at this; cases this
  | cons b r =>
   have mb:b∈B.filter fun b=>b.isPrefixOf z:=by rw [hf]; exact mem_cons_self
   obtain⟨m1,m2⟩:=mem_filter.mp mb;exact⟨b,m1,isPrefixOf_iff_prefix.mp m2⟩
 ·intro h x m;obtain⟨z,mz,rfl⟩:=mem_map.mp m;obtain⟨b,mb,p⟩:=h z mz;have le:=zio z fr;have:0<(B.filter fun b=>b.isPrefixOf z).length:=List.length_pos_of_mem (mem_filter.mpr ⟨mb,isPrefixOf_iff_prefix.mpr p⟩);omega
end
section
variable {R:RX} {S:Sto}
abbrev Trm:=Int×Int
def zf7(p:Trm):PyData:=.tuple [.int p.1,.int p.2]
def zfq(l:List Trm):PyData:=.tuple (l.map zf7)
def zbD(tr:List (List Trm)):PyData:=.tuple (tr.map zfq)
theorem zdL(p:Trm):zf7 p=.tuple [.int p.1,.int p.2]:=rfl
theorem zbJ(l:List Trm):zfq l=.tuple (l.map zf7):=rfl
def wys(l:List Trm):List Trm:=(0,0) :: l
def szT(tr:List (List Trm)):List Nat:=tr.map fun l=>l.length+1
def szD(sz:List Nat):PyData:=.list (sz.map fun n:Nat=>.int n)
def way(l:List Trm)(k:Int):Trm:=(wys l).getD k.toNat (0,0)
structure Trs(n:Nat)(tr:List (List Trm)):Prop where
 len:tr.length=n
 l3:∀ l∈tr,l.length<=3
 n8:n<=8
theorem zbH{n:Nat}{tr:List (List Trm)}(h:Trs n tr):tr.length<=8:=by have:=h.len; have:=h.n8; omega
theorem zdd{n:Nat}{tr:List (List Trm)}(ht:Trs n tr)(q:R (.d (zbD (tr.map wys))) []):zcg [.d (zbD tr)] [] R:=by
 have h8:=zbH ht;unfold zcg zbD;walk_at "d";refine cmp1 (S0:=[]) (fun l:List Trm=>zfq (wys l)) rfl tr (by omega) ?_ ?_
 ·intro l ml u acc R' hk;have:=ht.l3 l ml;rw [zbJ];walk_at "d";refine⟨by first | omega | (simp only [length_map]; omega),?_⟩;exact hk _
 ·walk_at "d";unfold zbD at q;rw [map_map] at q;exact q
theorem zgK{n:Nat}{tr:List (List Trm)}(ht:Trs n tr)(q:R (.d (szD (szT tr))) []):zcB [.d (zbD (tr.map wys))] [] R:=by
 have h8:=zbH ht;unfold zcB zbD;walk_at "d";rw [map_map];refine cmp1 (S0:=[]) (fun l:List Trm=>.int ((l.length+1:Nat):Int)) rfl tr (by omega) ?_ ?_
 ·intro l ml u acc R' hk;show zj 0 (.d (zfq (wys l))) _ _ _;rw [zbJ];walk_at "d";have:=hk (some (.d (.tuple ((wys l).map zf7))));simpa [wys] using this
 ·walk_at "d";unfold szD szT at q;rw [map_map] at q;exact .inl q
theorem zeu:∀ {sz:List Nat} {b:List Int} {i:Nat} {k:Int} {s:Nat},Bgn sz b->b[i]? = some k->sz[i]? = some s->0<=k/\k<s
 | _,[],_,_,_,_,e,_=>by simp at e
 | [],_ :: _,_,_,_,h,_,_=>by cases h
 | s0 :: sz,k0 :: b,0,k,s,h,e1,e2=>by
  simp at e1 e2;subst e1 e2;exact h.1
 | s0 :: sz,k0 :: b,i+1,k,s,h,e1,e2=>zeu h.2 (by simpa using e1) (by simpa using e2)
theorem zcM:∀ {sz:List Nat} {b:List Int},Bgn sz b->b.length<=sz.length
 | _,[],_=>zero_le _
 | [],_ :: _,h=>by cases h
 | s :: sz,k :: b,h=>by have:=zcM h.2; simp; omega
theorem zuj{tr:List (List Trm)}{b:List Int}(hb:Bgn (szT tr) b){i:Nat}{l:List Trm}{k:Int}(h1:tr[i]? = some l)(h2:b[i]? = some k):atI ((wys l).map zf7) k=some (zf7 (way l k)):=by
 have:=zeu hb h2 (s:=l.length+1) (by unfold szT; rw [getElem?_map,h1]; rfl);obtain⟨n,rfl⟩:=Int.eq_ofNat_of_zero_le this.1;refine zcH ?_;have hn:n<(wys l).length:=by simp [wys]; omega
 rw [getElem?_map,getElem?_eq_getElem hn];simp [way,getD_eq_getElem?_getD,getElem?_eq_getElem hn]
theorem zei{n:Nat}{tr:List (List Trm)}{b:List Int}(ht:Trs n tr)(hb:Bgn (szT tr) b)(q:R (.d (.list ((tr.zip b).map fun q=>zf7 (way q.1 q.2)))) []):zbQ [.d (zbD tr),.d (zU b)] [] R:=by
 have h8:=zbH ht;unfold zbQ;walk_at "d";refine zdd ht ?_;unfold zbD zU;walk_at "d";rw [map_map,zcU];refine cmp2 (S0:=[]) (fun q:List Trm×Int=>zf7 (way q.1 q.2)) rfl (tr.zip b) (by simp; omega) ?_ ?_
 ·intro x mx u v acc R' hk;obtain⟨i,hi⟩:=mem_iff_getElem?.mp mx;rw [getElem?_zip_eq_some] at hi;have e:=zuj hb hi.1 hi.2;show zco 2 _ (.d (.tuple [zfq (wys x.1),.int x.2])) _ _ _;rw [zbJ];walk_at "d";refine⟨_,e,?_⟩;exact hk _ _
 ·walk_at "d";exact .inl q
def prc(tr:List (List Trm))(b:List Int):Int:=((tr.zip b).map fun q=>(way q.1 q.2).2).sum
theorem zbZ{n:Nat}{tr:List (List Trm)}{b:List Int}(ht:Trs n tr)(hb:Bgn (szT tr) b)(q:R (.d (.int (prc tr b))) []):zaL [.d (zbD tr),.d (zU b)] [] R:=by
 have h8:=zbH ht;unfold zaL;walk_at "d";refine zei ht hb ?_;walk_at "d";refine cmp1 (S0:=[]) (fun q:List Trm×Int=>.int (way q.1 q.2).2) rfl (tr.zip b) (by simp; omega) ?_ ?_
 ·intro x mx u acc R' hk;rw [zdL];walk_at "d";exact hk _
 ·walk_at "d";exact⟨_,by rw [map_map]; rfl,q⟩
def fld(ns:List Int)(tr:List (List Trm))(b:List Int):List Int:=(ns.zip (tr.zip b)).map fun q=>q.1 - (way q.2.1 q.2.2).1
theorem zlD{n:Nat}{ns:List Int}{tr:List (List Trm)}{b:List Int}(ht:Trs n tr)(hb:Bgn (szT tr) b)(q:R (.d (zU (fld ns tr b))) []):zg1 [.d (zU ns),.d (zbD tr),.d (zU b)] [] R:=by
 have h8:=zbH ht;unfold zg1;walk_at "d";refine zei ht hb ?_;unfold zU;walk_at "d";rw [zcU];refine cmp2 (S0:=[]) (fun q:Int×(List Trm×Int)=>.int (q.1 - (way q.2.1 q.2.2).1)) rfl (ns.zip (tr.zip b)) (by simp; omega) ?_ ?_
 ·intro x mx u v acc R' hk;show zco 2 _ (.d (.tuple [.int x.1,zf7 (way x.2.1 x.2.2)])) _ _ _;rw [zdL];walk_at "d";exact hk _ _
 ·walk_at "d";unfold zU fld at q;rw [map_map] at q;exact q
def mst(l:List Trm):Int:=((wys l).getLastD (0,0)).1
def spn(ns:List Int)(tr:List (List Trm))(b:List Int):List (Int×Int):=(fld ns tr b).map (fun x=>(x,x))++((ns.zip tr).drop b.length).map fun q=>(q.1 - mst q.2,q.1)
def lft(ps:List Part)(ns:List Int)(tr:List (List Trm))(b:List Int):List Part:=(ps.zip (spn ns tr b)).map fun q=>(q.1.1,q.2.1,q.2.2)
theorem zey{ns:List Int}{tr:List (List Trm)}{b:List Int}(h1:ns.length=tr.length)(hb:b.length<=tr.length):(fld ns tr b).length=b.length:=by
 simp [fld];omega
theorem zrX{ns:List Int}{tr:List (List Trm)}{b:List Int}(h1:ns.length=tr.length)(hb:b.length<=tr.length):(spn ns tr b).length=tr.length:=by
 simp only [spn,length_append,length_map,zey h1 hb,length_drop,List.length_zip];omega
theorem zfK{ps:List Part}{ns:List Int}{tr:List (List Trm)}{b:List Int}(h0:ps.length=tr.length)(h1:ns.length=tr.length)(hb:b.length<=tr.length):(lft ps ns tr b).length=ps.length:=by
 simp only [lft,length_map,List.length_zip,zrX h1 hb];omega
theorem zjD{α:Type}(l:List α)(x:α):atI (l++[x]) (-1)=some x:=by
 have h:ixN (l++[x]).length (-1)=some l.length:=by
  unfold ixN;rw [length_append,length_singleton,if_neg (by omega),if_pos (by omega)];congr 1;omega
 unfold atI;rw [h];simp
theorem zsE{l:List Trm}:atI ((wys l).map zf7) (-1)=some (zf7 ((wys l).getLastD (0,0))):=by
 have e:wys l=(wys l).dropLast++[(wys l).getLastD (0,0)]:=by
  have h:wys l≠[]:=by simp [wys]
  have:=List.dropLast_concat_getLast h;rw [List.getLastD_eq_getLast?,List.getLast?_eq_some_getLast h];exact this.symm
 rw [e,map_append];simp only [map_cons,map_nil];rw [zjD];congr 2;simp
theorem zis{α:Type}{ds:List α}{k:Nat}(h:k<=ds.length):zdJ ds (some (k:Int)) none=ds.drop k:=by
 have e1:HT.sIx ds.length 0 (some (k:Int))=k:=by rw [HT.sIx_nat]; omega
 have e2:HT.sIx ds.length ds.length none=ds.length:=rfl;unfold zdJ;rw [e1,e2,take_of_length_le (by simp)]
theorem zcI{n:Nat}{ps:List Part}{ns:List Int}{tr:List (List Trm)}{b:List Int}(ht:Trs n tr)(hb:Bgn (szT tr) b)(h0:ps.length=tr.length)(h1:ns.length=tr.length)(q:R (.d (zdf (lft ps ns tr b))) []):zaI [.d (zdf ps),.d (zU ns),.d (zbD tr),.d (zU b)] [] R:=by
 have h8:=zbH ht;have bl:=zcM hb;have bl':b.length<=tr.length:=by simpa [szT] using bl
 have fl:=zey h1 bl';unfold zaI;walk_at "d"
 walk_at "n"
 walk_at "n"
 refine zlD ht hb ?_;unfold zU;walk_at "d";refine cmp1 (S0:=[]) (fun x:Int=>.tuple [.int x,.int x]) rfl (fld ns tr b) (by omega) ?_ ?_
 ·intro x mx u acc R' hk;walk_at "d";exact hk _
 walk_at "d";refine zdd ht ?_;unfold zbD;walk_at "d";refine⟨by omega,?_⟩;rw [map_map,zcU,zis (by simp; omega),<- List.map_drop];refine zab (fun i δ S=>∃ (u v:Option XV),S=[((fld ns tr b).map (fun x=>(x,x))++(((ns.zip tr).drop b.length).take i).map fun q=>(q.1 - mst q.2,q.1)).map fun s:Int×Int=>.tuple [.int s.1,.int s.2]]/\δ=[some (.d (zdf ps)),some (.d (.tuple (ns.map PyData.int))),some (.d (.tuple (tr.map zfq))),some (.d (.tuple (b.map PyData.int))),some (.l 0),u,v]) ⟨none,none,by simp,rfl⟩ ?_ ?_
 ·rintro i d _ _ N hi ⟨u,v,rfl,rfl⟩ hN;obtain⟨x,hx,rfl⟩:=zbG hi;show zco 2 _ (.d (.tuple [.int x.1,zfq (wys x.2)])) _ _ _;rw [zbJ];walk_at "d";refine⟨_,zsE,?_⟩;rw [zdL];walk_at "d";have il:i<((ns.zip tr).drop b.length).length:=(List.getElem?_eq_some_iff.mp hx).1;refine⟨by simp at il ⊢; omega,hN _ _ ⟨_,_,?_,rfl⟩⟩;rw [take_add_one,hx];simp [mst]
 ·rintro _ _ ⟨u,v,rfl,rfl⟩;rw [take_of_length_le (by simp)];refine⟨[],_,rfl,_,rfl,_,rfl,_,rfl,_,rfl,?_⟩;show zeP 0 _ _ _ _ (zhI (ps.map zlP) ((spn ns tr b).map fun s:Int×Int=>.tuple [.int s.1,.int s.2])) _ _;rw [zcU];refine cmp2 (S0:=[]) (fun q:Part×(Int×Int)=>zlP (q.1.1,q.2.1,q.2.2)) rfl (ps.zip (spn ns tr b)) (by simp; omega) ?_ ?_
  ·intro x mx u v acc R' hk;rw [zov];walk_at "d";exact hk _ _
  ·walk_at "d";unfold zdf lft at q;rw [map_map] at q;exact q
def Sz(sz:List Nat):Prop:=sz.length<=8/\∀ s∈sz,s<=4
theorem zhO{n:Nat}{tr:List (List Trm)}(ht:Trs n tr):Sz (szT tr):=by
 refine⟨by simp [szT]; exact zbH ht,fun s m=>?_⟩;obtain⟨l,ml,rfl⟩:=mem_map.mp m;have:=ht.l3 l ml;omega
theorem zkR:∀ {sz:List Nat},(∀ s∈sz,s<=4)->zaa sz<=4 ^ sz.length
 | [],_=>by decide
 | s :: sz,h=>by
  have h1:=h s mem_cons_self;have h2:=zkR (sz:=sz) fun x m=>h x (mem_cons_of_mem _ m);show s*zaa sz<=4 ^ (sz.length+1);rw [pow_succ,mul_comm];exact mul_le_mul h2 h1
theorem zfC(l:List Nat)(x:Nat):zaa (l++[x])=zaa l*x:=by
 rw [zd2];simp [zaa]
theorem zb5{sz:List Nat}{ds:List PyData}(hz:Sz sz)(hl:ds.length<=sz.length)(q:R (.d (.int (zaa (sz.drop ds.length)))) []):zaE [.d (szD sz),.d (.tuple ds)] [] R:=by
 obtain⟨h8,h4⟩:=hz;unfold zaE szD;walk_at "d"
 walk_at "n"
 walk_at "n"
 rw [zis (by simpa using hl),<- List.map_drop];refine zab (fun i δ S=>∃ (u:Option XV),S=[]/\δ=[some (.d (.list (sz.map fun n:Nat=>PyData.int n))),some (.d (.tuple ds)),some (.d (.int (zaa ((sz.drop ds.length).take i):Nat))),u]) ⟨none,rfl,by simp [zaa]⟩ ?_ ?_
 ·rintro i d _ _ N hi ⟨u,rfl,rfl⟩ hN;obtain⟨x,hx,rfl⟩:=zbG hi;walk_at "d";have mx:x∈sz:=mem_of_mem_drop (mem_of_getElem? hx);have x4:=h4 x mx;refine⟨zmT (by omega) (by omega),hN _ _ ⟨some (.d (.int x)),rfl,?_⟩⟩;rw [take_add_one,hx];simp [zfC]
 ·rintro _ _ ⟨u,rfl,rfl⟩;rw [length_map,take_length];walk_at "d";exact q
def chN(n:Nat):PyData->Bool
 | .int k=>decide (0<=k/\k<n)
 | _=>false
def bgN(sz:List Nat):PyData->Bool
 | .tuple ds=>decide (ds.length<=sz.length) && ((ds.zip sz).map fun q=>chN q.2 q.1).all id
 | _=>false
theorem zh0{sz:List Nat}{ds:List PyData}:bgN sz (.tuple ds)=(decide (ds.length<=sz.length) && ((ds.zip sz).map fun q=>chN q.2 q.1).all id):=rfl
theorem zfU{d:PyData}(q:R (.d (.bool (zic d))) []):zdb [.d d] [] R:=by
 unfold zdb;cases d <;> (walk_at "e"; exact q)
theorem zgb{sz:List Nat}{d:PyData}(hz:Sz sz)(q:R (.d (.bool (bgN sz d))) []):zce [.d (szD sz),.d d] [] R:=by
 obtain⟨h8,h4⟩:=hz;unfold zce szD;cases d with
 | tuple ds =>
  walk_at "d"
  walk_at "n"
  by_cases h:ds.length<=sz.length
  ·rw [if_neg (by omega)];walk_at "d";rw [zh0,decide_eq_true h] at q;have ez:zhI ds (sz.map fun n:Nat=>PyData.int n)=(ds.zip sz).map fun q=>.tuple [q.1,.int (q.2:Nat)]:=by
    have:=zcU (fun d:PyData=>d) (fun n:Nat=>PyData.int n) ds sz
    rwa [map_id'] at this
   rw [ez];refine cmp2 (S0:=[]) (fun q:PyData×Nat=>.bool (chN q.2 q.1)) rfl (ds.zip sz) (by simp; omega) ?_ ?_
   ·intro x mx u v acc R' hk;obtain⟨d,l⟩:=x;walk_at "d";refine zfU ?_;cases d with
    | int k =>
     simp only [zic];walk_at "d";have e0:chN l (.int k)=decide (0<=k/\k<l):=rfl;by_cases h0:0<=k
     ·rw [if_pos h0];have:=hk (some (.d (.int k))) (some (.d (.int l)));rw [e0] at this;simpa [h0] using this
     ·rw [if_neg h0];have:=hk (some (.d (.int k))) (some (.d (.int l)));rw [e0] at this;simpa [h0] using this
    | none=>exact hk _ _
    | bool b=>exact hk _ _
    | str b=>exact hk _ _
    | list b=>exact hk _ _
    | dict b=>exact hk _ _
    | tuple b=>exact hk _ _
   ·walk_at "d";refine⟨(ds.zip sz).map fun q=>chN q.2 q.1,by rw [map_map]; rfl,?_⟩;exact q
  ·rw [if_pos (by omega)];rw [zh0,decide_eq_false h] at q;exact q
 | none=>(walk_at "d"; walk_at "n"; exact q)
 | bool b=>(walk_at "d"; walk_at "n"; exact q)
 | int b=>(walk_at "d"; walk_at "n"; exact q)
 | str b=>(walk_at "d"; walk_at "n"; exact q)
 | list b=>(walk_at "d"; walk_at "n"; exact q)
 | dict b=>(walk_at "d"; walk_at "n"; exact q)
def bgO:PyData->List Int
 | .tuple ds=>ds.map fun d=>match d with | .int k=>k | _=>0
 | _=>[]
theorem zof:∀ {sz:List Nat} {ds:List PyData},ds.length<=sz.length->((ds.zip sz).map fun q=>chN q.2 q.1).all id=true->∃ b:List Int,ds=b.map PyData.int/\Bgn sz b
 | sz,[],_,_=>⟨[],rfl,by cases sz <;> trivial⟩
 | [],_ :: _,h,_=>by simp at h
 | s :: sz,d :: ds,h,k=>by
  simp only [zip_cons_cons,map_cons,all_cons,Bool.and_eq_true,id] at k;obtain⟨b,rfl,hb⟩:=zof (by simpa using h) k.2;cases d with
  | int i=>exact⟨i :: b,rfl,of_decide_eq_true k.1,hb⟩
  | _=>cases k.1
theorem zgI{sz:List Nat}{d:PyData}:bgN sz d=true↔∃ b,d=zU b/\Bgn sz b:=by
 constructor
 ·intro h;cases d with
  | tuple ds =>
   rw [zh0,Bool.and_eq_true,decide_eq_true_eq] at h;obtain⟨b,rfl,hb⟩:=zof h.1 h.2;exact⟨b,rfl,hb⟩
  | _=>cases h
 ·rintro⟨b,rfl,hb⟩;have hl:=zcM hb;unfold zU;rw [zh0,Bool.and_eq_true,decide_eq_true_eq];refine⟨by simpa using hl,?_⟩;rw [all_eq_true];intro x m;obtain⟨q,mq,rfl⟩:=mem_map.mp m;obtain⟨i,hi⟩:=mem_iff_getElem?.mp mq;rw [getElem?_zip_eq_some] at hi;obtain⟨k,hk,e⟩:=zbG hi.1;rw [e];exact decide_eq_true (zeu hb hk hi.2)
theorem zdN(b:List Int):bgO (zU b)=b:=by
 show (b.map PyData.int).map _=b;rw [map_map];exact map_id' b
def zoR(sz:List Nat)(ds:List PyData):Bool:=ds.all (bgN sz) && (zie (ds.map bgO) && decide (zr2 sz (ds.map bgO)=zaa sz))
theorem zmS:∀ B:List (List Int),zie B=((B.zip B.tail).map fun q=>HT.lexLt q.1 q.2 && !(q.1.isPrefixOf q.2)).all id
 | []=>rfl
 | [x]=>rfl
 | x :: y :: r=>by
  have:=zmS (y :: r);simp only [zie,this,List.tail_cons,zip_cons_cons,map_cons,all_cons,id]
theorem zld{x y:List Int}:x.isPrefixOf y=decide (y.take x.length=x):=by
 have:x.isPrefixOf y=true↔y.take x.length=x:=by
  rw [isPrefixOf_iff_prefix,List.prefix_iff_eq_take];exact eq_comm
 cases h:x.isPrefixOf y with
 | true=>rw [decide_eq_true (this.mp h)]
 | false =>
  rw [decide_eq_false];intro e;rw [this.mpr e] at h;cases h
theorem zfI{α:Type}{ds:List α}{k:Nat}:zdJ ds none (some (k:Int))=ds.take k:=by
 have e1:HT.sIx ds.length ds.length (some (k:Int))=min k ds.length:=by rw [HT.sIx_nat]
 have e2:HT.sIx ds.length 0 none=0:=rfl;unfold zdJ;rw [e1,e2];rcases Nat.le_total k ds.length with h | h
 ·rw [Nat.min_eq_left h];simp
 ·rw [Nat.min_eq_right h,take_of_length_le (by simp),take_of_length_le h];simp
theorem cmp1dT{n:Nat}{S0:Sto}{g:DG}{te:DE}{fin:Sto->Prop}{caps:XE}(f:PyData->PyData)(hn:S0.length=n)(l:List PyData){u:Option XV}(hl:l.length<=1000)
  (el:∀ x∈l,∀ (u:Option XV) acc (R:XE->RX),(∀ u',R (u' :: caps) (.d (f x)) (S0++[acc]))->g (.d x) (u :: caps) (S0++[acc]) fun τ1 S1=>te τ1 S1 (R τ1)) (hf:fin (S0++[l.map f])):zeP n g zar te fin l (u :: caps) (S0++[[]]):=by
 have:=cmp1 (h:=fun d:PyData=>d) (g:=g) (te:=te) (fin:=fin) (caps:=caps) (u:=u) f hn l hl el hf
 rwa [map_id'] at this
theorem cmp2dT{n:Nat}{S0:Sto}{g:DG}{te:DE}{fin:Sto->Prop}{caps:XE}(f:PyData->PyData)(hn:S0.length=n)(l:List PyData){u v:Option XV}(hl:l.length<=1000)
  (el:∀ x∈l,∀ (u v:Option XV) acc (R:XE->RX),(∀ u' v',R (u' :: v' :: caps) (.d (f x)) (S0++[acc]))->g (.d x) (u :: v :: caps) (S0++[acc]) fun τ1 S1=>te τ1 S1 (R τ1)) (hf:fin (S0++[l.map f])):zeP n g zar te fin l (u :: v :: caps) (S0++[[]]):=by
 have:=cmp2 (h:=fun d:PyData=>d) (g:=g) (te:=te) (fin:=fin) (caps:=caps) (u:=u) (v:=v) f hn l hl el hf
 rwa [map_id'] at this
theorem zpw{α:Type}:∀ ds:List α,zdJ ds (some 1) none=ds.tail
 | []=>by
  unfold zdJ;simp
 | x :: r=>by
  have:=zis (ds:=x :: r) (k:=1) (by simp);rw [List.drop_one] at this;exact this
theorem Rb'{b c:Bool}{S:Sto}(q:R (.d (.bool b)) S)(e:b=c):R (.d (.bool c)) S:=e▸q
theorem zkk{sz:List Nat}{ds:List PyData}(hz:Sz sz)(hl:ds.length<=900)(q:R (.d (.bool (zoR sz ds))) []):zbb [.d (szD sz),.d (.list ds)] [] R:=by
 unfold zbb;walk_at "d"
 walk_at "n"
 refine cmp1dT (S0:=[]) (fun d=>.bool (bgN sz d)) rfl ds (by omega) ?_ ?_
 ·intro x mx u acc R' hk;walk_at "d";refine zgb hz ?_;walk_at "d";exact hk _
 walk_at "d";refine⟨ds.map (bgN sz),by rw [map_map]; rfl,?_⟩;have ea:(ds.map (bgN sz)).all id=ds.all (bgN sz):=by rw [all_map]; rfl
 rw [ea];cases h:ds.all (bgN sz) with
 | false =>
  walk_at "d";unfold zoR at q;rw [h] at q;exact q
 | true =>
  have hB:∃ B:List (List Int),ds=B.map zU/\∀ b∈B,Bgn sz b:=by
   rw [all_eq_true] at h
   clear ea q hl
   induction ds with
   | nil=>exact⟨[],rfl,fun b m=>by cases m⟩
   | cons d ds ih =>
    obtain⟨b,rfl,hb⟩:=zgI.mp (h d mem_cons_self);obtain⟨B,rfl,hB⟩:=ih fun x m=>h x (mem_cons_of_mem _ m);exact⟨b :: B,rfl,fun x m=>(mem_cons.mp m).elim (fun e=>e▸hb) (hB x)⟩
  obtain⟨B,rfl,hB⟩:=hB;have eo:(B.map zU).map bgO=B:=by
   rw [map_map]
   conv=>rhs; rw [<- List.map_id B]
   exact map_congr_left fun b _=>zdN b
  unfold zoR at q;rw [h,eo,Bool.true_and] at q;rw [length_map] at hl;walk_at "d"
  walk_at "n"
  rw [zpw,<- List.map_tail,zcU];refine cmp2 (S0:=[]) (fun q:List Int×List Int=>.bool (HT.lexLt q.1 q.2 && !(q.1.isPrefixOf q.2))) rfl (B.zip B.tail) (by simp; omega) ?_ ?_
  ·intro x mx u v acc R' hk;unfold zU;walk_at "d";refine⟨x.1,rfl,x.2,rfl,?_⟩;cases hx:HT.lexLt x.1 x.2 with
   | false =>
    have:=hk (some (.d (.tuple (x.1.map PyData.int)))) (some (.d (.tuple (x.2.map PyData.int))));rw [hx] at this;exact this
   | true =>
    have:=hk (some (.d (.tuple (x.1.map PyData.int)))) (some (.d (.tuple (x.2.map PyData.int))));rw [hx,Bool.true_and,zld] at this;walk_at "d";rw [zfI,<- map_take];have e:=znR (x.2.take x.1.length) x.1;unfold zU at e;rw [e];exact⟨zd8 _,zd8 _,this⟩
  walk_at "d";refine⟨(B.zip B.tail).map fun q=>HT.lexLt q.1 q.2 && !(q.1.isPrefixOf q.2),by rw [map_map]; rfl,?_⟩;rw [<- zmS];cases ha:zie B with
  | false =>
   rw [ha] at q;walk_at "d";exact q
  | true =>
   rw [ha,Bool.true_and] at q;walk_at "d";refine cmp1 (S0:=[]) (fun b:List Int=>.int (zaa (sz.drop b.length):Nat)) rfl B (by omega) ?_ ?_
   ·intro b mb u acc R' hk;have bl:=zcM (hB b mb);unfold zU;walk_at "d";refine zb5 hz (by simpa using bl) ?_;rw [length_map];walk_at "d";exact hk _
   walk_at "d";refine⟨B.map fun b=>((zaa (sz.drop b.length):Nat):Int),by rw [map_map]; rfl,?_⟩;refine zb5 (ds:=[]) hz (zero_le _) ?_;walk_at "d";rw [drop_zero];have e:(B.map fun b=>((zaa (sz.drop b.length):Nat):Int)).sum=((zr2 sz B:Nat):Int):=by
    unfold zr2
    clear q hB hl ea h eo ha
    induction B with
    | nil=>rfl
    | cons b B ih=>simp [ih]
   rw [e];refine Rb' q ?_;simp only [decide_eq_decide];omega
def t2:PyData->Bool
 | .tuple [_,_]=>true
 | _=>false
def fs1:PyData->PyData
 | .tuple (a :: _)=>a
 | _=>.none
def sn1:PyData->PyData
 | .tuple [_,b]=>b
 | _=>.none
theorem zpc{d:PyData}(h:t2 d=true):d=.tuple [fs1 d,sn1 d]:=by
 unfold t2 at h;split at h
 ·rfl
 ·cases h
def arB(sz:List Nat):PyData->Bool
 | .list rows=>rows.all t2 && zoR sz (rows.map fs1)
 | _=>false
theorem zhN{sz:List Nat}{rows:List PyData}:arB sz (.list rows)=(rows.all t2 && zoR sz (rows.map fs1)):=rfl
theorem zvJ{d:PyData}{T:RX}(q:T (.d (.bool (t2 d))) S):ze2 (dCB zi1 (zc (zg 0) (zc (dO (.ty "tuple")) zo))) (dOp zfH (dCB zam (zc (zg 0) zo)) (dC (.int 2))) [some (.d d)] S T:=by
 cases d with
 | tuple ds =>
  walk_at "d"
  match ds,q with
  | [],q=>exact q
  | [_],q=>exact q
  | [_,_],q=>exact q
  | _ :: _ :: _ :: r,q =>
   rw [decide_eq_false (by simp; omega)];exact q
 | none=>(walk_at "d"; exact q)
 | bool b=>(walk_at "d"; exact q)
 | int b=>(walk_at "d"; exact q)
 | str b=>(walk_at "d"; exact q)
 | list b=>(walk_at "d"; exact q)
 | dict b=>(walk_at "d"; exact q)
theorem zks{sz:List Nat}{d:PyData}(hz:Sz sz)(hl:∀ rows,d=.list rows->rows.length<=900)(q:R (.d (.bool (arB sz d))) []):zea [.d (szD sz),.d d] [] R:=by
 unfold zea;cases d with
 | list rows =>
  have hl:=hl rows rfl;walk_at "d"
  walk_at "n"
  walk_at "n"
  refine cmp1dT (S0:=[]) (fun d=>.bool (t2 d)) rfl rows (by omega) ?_ ?_
  ·intro x mx u acc R' hk;show ze2 _ _ [some (.d x)] _ _;exact zvJ (hk _)
  walk_at "d";refine⟨rows.map t2,by rw [map_map]; rfl,?_⟩;have ea:(rows.map t2).all id=rows.all t2:=by rw [all_map]; rfl
  rw [ea];cases h:rows.all t2 with
  | false =>
   walk_at "d";rw [zhN,h] at q;exact q
  | true =>
   rw [zhN,h,Bool.true_and] at q;rw [all_eq_true] at h;walk_at "d";refine cmp1dT (S0:=[]) fs1 rfl rows (by omega) ?_ ?_
   ·intro x mx u acc R' hk;have:=hk (some (.d x));rw [zpc (h x mx)] at this ⊢;walk_at "d";exact this
   walk_at "d";refine zkk hz (by simpa using hl) ?_;walk_at "d";exact q
 | none=>(walk_at "d"; walk_at "n"; exact q)
 | bool b=>(walk_at "d"; walk_at "n"; exact q)
 | int b=>(walk_at "d"; walk_at "n"; exact q)
 | str b=>(walk_at "d"; walk_at "n"; exact q)
 | tuple b=>(walk_at "d"; walk_at "n"; exact q)
 | dict b=>(walk_at "d"; walk_at "n"; exact q)
def zhR:PyData->Bool
 | .tuple [.str x]=>decide (x = "dear")
 | _=>false
theorem zpX(w:PyData):PyData.eqv w (.tuple [.str "dear"])=zhR w:=by
 cases w with
 | tuple ds =>
  match ds with
  | []=>rfl
  | [x] =>
   show (PyData.eqv x (.str "dear") && true)=_;rw [Bool.and_true];cases x <;> rfl
  | x :: y :: r =>
   show (PyData.eqv x (.str "dear") && false)=_;rw [Bool.and_false];cases x <;> rfl
 | _=>rfl
def zhJ:PyData->Bool
 | .tuple [.str x,_]=>decide (x = "off")
 | _=>false
def zwg:PyData->PyData
 | .tuple [_,k]=>k
 | _=>.none
def zqN(gs:List Gap)(k:Int):Gap:=gs.getD k.toNat ⟨[],0,0⟩
def ztX(ps:List Part)(gs:List Gap)(ns:List Int)(tr:List (List Trm))(b:List Int):PyData->Bool
 | .int k=>decide (0<=k/\k<gs.length) && zfv (lft ps ns tr b) (zqN gs k)
 | _=>false
theorem ziF{ps:List Part}{gs:List Gap}{ns:List Int}{tr:List (List Trm)}{b:List Int}(k:Int):ztX ps gs ns tr b (.int k)=(decide (0<=k/\k<gs.length) && zfv (lft ps ns tr b) (zqN gs k)):=rfl
def zkf(ps:List Part)(gs:List Gap)(ns:List Int)(tr:List (List Trm))(price:Int)(b:List Int)(w:PyData):Bool :=
 if zhR w then decide (price<=prc tr b) else zhJ w && ztX ps gs ns tr b (zwg w)
structure GsT(n:Nat)(gs:List Gap):Prop where
 t3:∀ g∈gs,Tm3 n g.ts
 le:∀ g∈gs,g.lo<=g.hi
structure WT(w:PyData):Prop where
 sh:SeqAt.shaped w=true
 el:∀ ds,w=.tuple ds->∀ x∈ds,SeqAt.shaped x=true
theorem zqx{gs:List Gap}{k:Int}(h0:0<=k)(h1:k<gs.length):atI (gs.map zi2) k=some (zi2 (zqN gs k))/\zqN gs k∈gs:=by
 obtain⟨n,rfl⟩:=Int.eq_ofNat_of_zero_le h0;have hn:n<gs.length:=by omega
 have e:zqN gs (n:Int)=gs[n]:=by simp [zqN,getD_eq_getElem?_getD,getElem?_eq_getElem hn]
 rw [e];exact⟨zaH (getElem?_eq_getElem hn),getElem_mem hn⟩
theorem zvg{ps:List Part}{gs:List Gap}{ns:List Int}{tr:List (List Trm)}{price:Int}{b:List Int}{w:PyData}(h:zhR w=true):zkf ps gs ns tr price b w=decide (price<=prc tr b):=by
 unfold zkf;rw [if_pos h]
theorem ztZ{ps:List Part}{gs:List Gap}{ns:List Int}{tr:List (List Trm)}{price:Int}{b:List Int}{w:PyData}(h:zhR w=false)(k:zhJ w=false):zkf ps gs ns tr price b w=false:=by
 unfold zkf;rw [h,k];rfl
theorem zmE{n:Nat}{ps:List Part}{gs:List Gap}{ns:List Int}{tr:List (List Trm)}{price:Int}{b:List Int}{w:PyData}(ht:Trs n tr)(hb:Bgn (szT tr) b)(h0:ps.length=tr.length)(h1:ns.length=tr.length)(hg:GsT ps.length gs)(hw:WT w)
  (q:R (.d (.bool (zkf ps gs ns tr price b w))) []):zba [.d (.tuple [zdf ps,zci gs]),.d (zU ns),.d (zbD tr),.d (.int price),.d (zU b),.d w] [] R:=by
 unfold zba;walk_at "d"
 walk_at "n"
 refine⟨hw.sh,by decide +kernel,?_⟩;rw [zpX];cases hd:zhR w with
 | true =>
  rw [zvg hd] at q;walk_at "d";refine zbZ ht hb ?_;walk_at "d";exact q
 | false =>
  have bl:=zcM hb;have bl':b.length<=tr.length:=by simpa [szT] using bl
  have fal:zhJ w=false->R (.d (.bool false)) []:=fun k=>by rw [ztZ hd k] at q; exact q
  walk_at "d"
  walk_at "n"
  cases w with
  | tuple ds =>
   match ds with
   | []=>(walk_at "d"; exact fal rfl)
   | [x] =>
    walk_at "d";exact fal (by cases x <;> rfl)
   | x :: y :: z :: r =>
    walk_at "d";have:zhJ (.tuple (x :: y :: z :: r))=false:=by cases x <;> rfl
    rw [if_pos (by omega)];exact fal this
   | [x,k] =>
    have e2:zhJ (.tuple [x,k])=PyData.eqv x (.str "off"):=by cases x <;> rfl
    walk_at "d";refine⟨hw.el _ rfl x (by simp),by decide +kernel,?_⟩;rw [<- e2];cases hoff:zhJ (.tuple [x,k]) with
    | false=>exact fal hoff
    | true =>
     have ew:zkf ps gs ns tr price b (.tuple [x,k])=ztX ps gs ns tr b k:=by
      unfold zkf;rw [hd,hoff];rfl
     rw [ew] at q;walk_at "d"
     walk_at "n"
     refine zfU ?_;cases k with
     | int k =>
      rw [ziF] at q;simp only [zic];walk_at "d";unfold zci;by_cases hk0:0<=k
      ·rw [if_pos hk0];walk_at "d";by_cases hk1:k<gs.length
       ·rw [if_neg (by simpa using hk1)];walk_at "d";refine zcI ht hb h0 h1 ?_;obtain⟨e3,m3⟩:=zqx hk0 hk1;walk_at "d";refine⟨_,e3,?_⟩;refine zi6 (by rw [zfK h0 h1 bl']; exact hg.t3 _ m3) (hg.le _ m3) ?_;walk_at "d";simpa [hk0,hk1] using q
       ·rw [if_pos (by simpa using hk1)];simpa [hk0,hk1] using q
      ·rw [if_neg hk0];walk_at "d";simpa [hk0] using q
     | none=>(walk_at "d"; exact q)
     | bool b=>(walk_at "d"; exact q)
     | str b=>(walk_at "d"; exact q)
     | list b=>(walk_at "d"; exact q)
     | dict b=>(walk_at "d"; exact q)
     | tuple b=>(walk_at "d"; exact q)
  | none=>(walk_at "d"; exact fal rfl)
  | bool b=>(walk_at "d"; exact fal rfl)
  | int b=>(walk_at "d"; exact fal rfl)
  | str b=>(walk_at "d"; exact fal rfl)
  | list b=>(walk_at "d"; exact fal rfl)
  | dict b=>(walk_at "d"; exact fal rfl)
def rwB(ps:List Part)(gs:List Gap)(ns:List Int)(tr:List (List Trm))(price:Int)(r:PyData):Bool:=zkf ps gs ns tr price (bgO (fs1 r)) (sn1 r)
def zpG(ps:List Part)(gs:List Gap)(ns:List Int)(tr:List (List Trm))(price:Int):PyData->Bool
 | .list rows=>arB (szT tr) (.list rows) && rows.all (rwB ps gs ns tr price)
 | _=>false
theorem zhk{ps:List Part}{gs:List Gap}{ns:List Int}{tr:List (List Trm)}{price:Int}{rows:List PyData}:zpG ps gs ns tr price (.list rows)=(arB (szT tr) (.list rows) && rows.all (rwB ps gs ns tr price)):=rfl
structure ThB(d:PyData):Prop where
 len:∀ rows,d=.list rows->rows.length<=900
 why:∀ rows,d=.list rows->∀ r∈rows,∀ b w,r=.tuple [b,w]->WT w
theorem zfW{n:Nat}{ps:List Part}{gs:List Gap}{ns:List Int}{tr:List (List Trm)}{price:Int}{d:PyData}(ht:Trs n tr)(h0:ps.length=tr.length)(h1:ns.length=tr.length)(hg:GsT ps.length gs)(hd:ThB d)
  (q:R (.d (.bool (zpG ps gs ns tr price d))) []):zdh [.d (.tuple [zdf ps,zci gs]),.d (zU ns),.d (zbD tr),.d (.int price),.d d] [] R:=by
 unfold zdh;walk_at "d"
 walk_at "n"
 refine zdd ht ?_;walk_at "d";refine zgK ht ?_;walk_at "d";refine zks (zhO ht) hd.len ?_;walk_at "d";cases ha:arB (szT tr) d with
 | false =>
  walk_at "d";have:zpG ps gs ns tr price d=false:=by
   cases d with
   | list rows=>rw [zhk,ha]; rfl
   | _=>rfl
  rw [this] at q;exact q
 | true =>
  cases d with
  | list rows =>
   have hl:=hd.len rows rfl;rw [zhk,ha,Bool.true_and] at q;rw [zhN,Bool.and_eq_true] at ha;obtain⟨h2,h3⟩:=ha;unfold zoR at h3;rw [Bool.and_eq_true] at h3;obtain⟨h3,_⟩:=h3;rw [all_eq_true] at h2 h3;walk_at "d";refine cmp2dT (S0:=[]) (fun r=>.bool (rwB ps gs ns tr price r)) rfl rows (by omega) ?_ ?_
   ·intro x mx u v acc R' hk;have e:=zpc (h2 x mx);obtain⟨b,e1,hb⟩:=zgI.mp (h3 _ (mem_map_of_mem mx));have ew:rwB ps gs ns tr price x=zkf ps gs ns tr price b (sn1 x):=by
     unfold rwB;rw [e1,zdN]
    rw [e1] at e;have wt:=hd.why rows rfl x mx _ _ e;have hk':=hk (some (.d (zU b))) (some (.d (sn1 x)));rw [ew] at hk';generalize sn1 x=w at e wt hk';subst e;walk_at "d";refine zmE ht hb h0 h1 hg wt ?_;walk_at "d";exact hk'
   walk_at "d";refine⟨rows.map (rwB ps gs ns tr price),by rw [map_map]; rfl,?_⟩;rw [all_map];exact q
  | _=>cases ha
end
section
variable {R:RX} {S:Sto}
theorem zml{p:List PyData}{ps:List Part}(hp:zaU p)(hd:Drw ps)(q:∀ ns p',InBox ps ns->zaU p'->R (.d (zU ns)) [p']):zfe [.l 0,.d (zdf ps)] [p] R:=by
 have l8:=hd.l8;unfold zfe;rw [zdf];walk_at "d"
 walk_at "n"
 walk_at "n";refine zab (fun i δ S=>∃ (p:List PyData) (ns:List Int) (u1 u2 u3 u4:Option XV),S=[p,ns.map PyData.int]/\zaU p/\δ=[some (.l 0),some (.d (.tuple (ps.map zlP))),some (.l 1),u1,u2,u3,u4]/\ns.length=i/\∀ j,j<i->plo ps j<=ns.getD j 0/\ns.getD j 0<=phi ps j) ⟨p,[],_,_,_,_,rfl,hp,rfl,rfl,fun j hj=>by omega⟩ ?_ ?_
 ·rintro i d _ _ N hi ⟨p,ns,u1,u2,u3,u4,rfl,hp,rfl,hl,hns⟩ hN;obtain⟨t,ht,rfl⟩:=zbG hi;have mt:=mem_of_getElem? ht;have lo:=(hd.all t mt).le;have il:i<ps.length:=(List.getElem?_eq_some_iff.mp ht).1;have et:part ps i=t:=Option.some.inj ((ziW il).symm.trans ht);rw [zov];walk_at "d";walk_at "n";refine .inl ⟨⟨by decide,by decide +kernel⟩,?_⟩;walk_at "d";refine⟨⟨by decide,by decide,by decide⟩,?_⟩;refine zy hp dz (by decide +kernel) fun r p1 r0 r1 hp1=>?_;walk_at "d";refine⟨by omega,?_⟩;refine zy hp1 dz (by decide +kernel) fun r' p2 r2 r3 hp2=>?_;have b1:=Int.emod_nonneg r (show t.2.2 - t.2.1+1≠0 by omega);have b2:=Int.emod_lt_of_pos r (show 0<t.2.2 - t.2.1+1 by omega);obtain⟨d,ed,n,rfl,n0,n1⟩:=zpu (P:=fun d=>∃ n,d=.int n/\t.2.1<=n/\n<=t.2.2) (ds:=[PyData.int t.2.1,PyData.int t.2.2,PyData.int (t.2.1+(t.2.2 - t.2.1) / 2),PyData.int (if t.2.1+1<t.2.2 then t.2.1+1 else t.2.2),PyData.int (if t.2.2 - 1>t.2.1 then t.2.2 - 1 else t.2.1),PyData.int (t.2.1+r % (t.2.2 - t.2.1+1))]) r2 r3 (by
   intro d m;simp only [mem_cons,not_mem_nil,or_false] at m;rcases m with rfl | rfl | rfl | rfl | rfl | rfl
   ·exact⟨_,rfl,by omega,by omega⟩
   ·exact⟨_,rfl,by omega,by omega⟩
   ·exact⟨_,rfl,by omega,by omega⟩
   ·exact⟨_,rfl,by split <;> omega,by split <;> omega⟩
   ·exact⟨_,rfl,by split <;> omega,by split <;> omega⟩
   ·exact⟨_,rfl,by omega,by omega⟩)
  walk_at "d";refine⟨_,ed,?_⟩;walk_at "d";refine⟨by omega,hN _ _ ⟨p2,ns++[n],_,_,_,_,by simp,hp2,rfl,by simp [hl],fun j hj=>?_⟩⟩;by_cases hji:j<i
  ·have e:(ns++[n]).getD j 0=ns.getD j 0:=by
    rw [getD_eq_getElem?_getD,getD_eq_getElem?_getD,getElem?_append_left (by omega)]
   rw [e];exact hns j hji
  ·have hj2:j=ns.length:=by omega
   subst hj2;have e:(ns++[n]).getD ns.length 0=n:=by
    rw [getD_eq_getElem?_getD,getElem?_concat_length];rfl
   rw [e,hl];unfold plo phi;rw [et];exact⟨n0,n1⟩
 ·rintro _ _ ⟨p,ns,u1,u2,u3,u4,rfl,hp,rfl,hl,hns⟩;rw [length_map] at hl hns;walk_at "d";exact q ns p ⟨hl,hns⟩ hp
end
section
variable {R:RX} {S:Sto}
theorem zeU{d:PyData}(q:R (.d (.bool (zic d))) []):zb8 [.d d] [] R:=by
 unfold zb8;cases d <;> (walk_at "e"; exact q)
theorem zez{n:Nat}{tr:List (List Trm)}{d:PyData}(ht:Trs n tr)(q:R (.d (.bool (bgN (szT tr) d))) []):zaJ [.d (zbD tr),.d d] [] R:=by
 have h8:=zbH ht;unfold zaJ zbD;cases d with
 | tuple ds =>
  walk_at "d"
  walk_at "n"
  have hs:(szT tr).length=tr.length:=by simp [szT]
  by_cases h:ds.length<=tr.length
  ·rw [if_neg (by omega)];walk_at "d";rw [zh0,decide_eq_true (by omega)] at q;have ez:zhI ds (tr.map zfq)=(ds.zip tr).map fun q=>.tuple [q.1,zfq q.2]:=by
    have:=zcU (fun d:PyData=>d) zfq ds tr
    rwa [map_id'] at this
   rw [ez];refine cmp2 (S0:=[]) (fun q:PyData×List Trm=>.bool (chN (q.2.length+1) q.1)) rfl (ds.zip tr) (by simp; omega) ?_ ?_
   ·intro x mx u v acc R' hk;obtain⟨d,l⟩:=x;rw [zbJ];walk_at "d";refine zeU ?_;cases d with
    | int k =>
     simp only [zic];walk_at "d";have e0:chN (l.length+1) (.int k)=decide (0<=k/\k<((l.length+1:Nat):Int)):=rfl;have:=hk (some (.d (.int k))) (some (.d (.tuple (l.map zf7))));rw [e0] at this;by_cases h0:0<=k
     ·rw [if_pos h0];refine Rb' this ?_;simp only [decide_eq_decide];omega
     ·rw [if_neg h0];refine Rb' this ?_;rw [decide_eq_false];omega
    | none=>exact hk _ _
    | bool b=>exact hk _ _
    | str b=>exact hk _ _
    | list b=>exact hk _ _
    | dict b=>exact hk _ _
    | tuple b=>exact hk _ _
   ·walk_at "d";refine⟨(ds.zip tr).map fun q=>chN (q.2.length+1) q.1,by rw [map_map]; rfl,?_⟩;have e1:(ds.zip (szT tr)).map (fun q=>chN q.2 q.1)=(ds.zip tr).map fun q=>chN (q.2.length+1) q.1:=by
     unfold szT;rw [List.zip_map_right,map_map];rfl
    rw [e1] at q;exact q
  ·rw [if_pos (by omega)];rw [zh0,decide_eq_false (by omega)] at q;exact q
 | none=>(walk_at "d"; walk_at "n"; exact q)
 | bool b=>(walk_at "d"; walk_at "n"; exact q)
 | int b=>(walk_at "d"; walk_at "n"; exact q)
 | str b=>(walk_at "d"; walk_at "n"; exact q)
 | list b=>(walk_at "d"; walk_at "n"; exact q)
 | dict b=>(walk_at "d"; walk_at "n"; exact q)
theorem zmB{α β:Type}:∀ (a:List α) (b:List β) (j:Nat),a.zip (b.take j)=(a.zip b).take j
 | [],b,j=>by simp
 | x :: a,[],j=>by simp
 | x :: a,y :: b,0=>by simp
 | x :: a,y :: b,j+1=>by simp [zmB a b j]
theorem zlq{tr:List (List Trm)}{b:List Int}{i:Nat}{l:List Trm}{k:Int}(h1:tr[i]? = some l)(h2:b[i]? = some k):prc tr (b.take (i+1))=prc tr (b.take i)+(way l k).2:=by
 unfold prc;rw [zmB,zmB,take_add_one,(getElem?_zip_eq_some (z:=(l,k))).mpr ⟨h1,h2⟩];simp
theorem zsa{tr:List (List Trm)}{b:List Int}(hb:Bgn (szT tr) b){i:Nat}{l:List Trm}{k:Int}(h1:tr[i]? = some l)(h2:b[i]? = some k):atI (PyData.int 0 :: l.map fun p=>PyData.int p.2) k=some (.int (way l k).2):=by
 have:=zeu hb h2 (s:=l.length+1) (by unfold szT; rw [getElem?_map,h1]; rfl);obtain⟨n,rfl⟩:=Int.eq_ofNat_of_zero_le this.1;refine zcH ?_;have hn:n<(wys l).length:=by simp [wys]; omega
 have e:(PyData.int 0 :: l.map fun p=>PyData.int p.2)=(wys l).map fun p=>PyData.int p.2:=rfl;rw [e,getElem?_map,getElem?_eq_getElem hn];simp [way,getD_eq_getElem?_getD,getElem?_eq_getElem hn]
theorem zdZ{n:Nat}{tr:List (List Trm)}{b:List Int}(ht:Trs n tr)(hb:Bgn (szT tr) b)(q:R (.d (.int (prc tr b))) []):zaz [.d (zbD tr),.d (zU b)] [] R:=by
 have h8:=zbH ht;have bl:=zcM hb;have bl':b.length<=tr.length:=by simpa [szT] using bl
 unfold zaz;walk_at "d"
 walk_at "n"
 walk_at "n"
 refine⟨b.length,by unfold zU; walk_at "d",?_⟩;refine zab (fun i δ S=>∃ (u:Option XV),S=[]/\δ=[some (.d (zbD tr)),some (.d (zU b)),some (.d (.int (prc tr (b.take i)))),u]) ⟨none,rfl,by simp [prc]⟩ ?_ ?_
 ·rintro i d _ _ N hi ⟨u,rfl,rfl⟩ hN;obtain⟨hi',rfl⟩:=zbs hi;have hi8:i<b.length:=by simpa using hi'
  have hb1:=getElem?_eq_getElem hi8;have ht1:=getElem?_eq_getElem (show i<tr.length by omega);have e1:atI (tr.map zfq) (i:Int)=some (zfq tr[i]):=zaH ht1;have l3:=ht.l3 _ (getElem_mem (show i<tr.length by omega));unfold zbD zU;simp only [Int.zero_add];walk_at "d";refine⟨_,e1,?_⟩;rw [zbJ];walk_at "d";refine cmp2 (S0:=[]) (fun p:Trm=>.int p.2) rfl tr[i] (by omega) ?_ ?_
  ·intro x mx u v acc R' hk;rw [zdL];walk_at "d";exact hk _ _
  walk_at "d";refine⟨by omega,_,zaH hb1,?_⟩;walk_at "d";refine⟨_,zsa hb ht1 hb1,?_⟩;walk_at "d";refine hN _ _ ⟨some (.d (.int i)),rfl,?_⟩;rw [zlq ht1 hb1];rfl
 ·rintro _ _ ⟨u,rfl,rfl⟩;rw [zap,Int.toNat_natCast,take_length];walk_at "d";exact q
theorem zes{tr:List (List Trm)}{i:Nat}{l:List Trm}{k:Int}(h1:tr[i]? = some l)(k0:0<=k)(k1:k<=l.length)(q:R (.d (.int (way l k).1)) []):zaV [.d (zbD tr),.d (.int i),.d (.int k)] [] R:=by
 unfold zaV;walk_at "d"
 walk_at "n"
 by_cases h:k=0
 ·rw [if_pos h];subst h;exact q
 ·rw [if_neg h];unfold zbD;walk_at "d";refine⟨_,zaH h1,?_⟩;rw [zbJ];walk_at "d";obtain⟨m,rfl⟩:=Int.eq_ofNat_of_zero_le k0;have hm:m - 1<l.length:=by omega
  have e:(m:Int) - 1=((m - 1:Nat):Int):=by omega
  rw [e];refine⟨_,zaH (getElem?_eq_getElem hm),?_⟩;rw [zdL];walk_at "d";have e2:way l (m:Int)=l[m - 1]:=by
   unfold way wys;rw [Int.toNat_natCast];obtain⟨j,rfl⟩:∃ j,m=j+1:=⟨m - 1,by omega⟩;have hj:j<l.length:=by omega
   simp [getD_eq_getElem?_getD,getElem?_eq_getElem hj]
  rw [e2] at q;exact q
theorem zmz(l:List Trm):mst l=(way l l.length).1:=by
 unfold mst way wys;rw [Int.toNat_natCast,List.getLastD_eq_getLast?,List.getLast?_eq_getElem?,getD_eq_getElem?_getD];simp
theorem zqs{ps:List Part}{ns:List Int}{tr:List (List Trm)}{b:List Int}(h0:ps.length=tr.length)(h1:ns.length=tr.length)(hb:b.length<=tr.length){i:Nat}{x:Int}{l:List Trm}(e1:ns[i]? = some x)(e2:tr[i]? = some l):
  (∀ k,b[i]? = some k->plo (lft ps ns tr b) i=x - (way l k).1/\phi (lft ps ns tr b) i=x - (way l k).1)/\(b[i]? = none->plo (lft ps ns tr b) i=x - mst l/\phi (lft ps ns tr b) i=x):=by
 have il:i<tr.length:=(List.getElem?_eq_some_iff.mp e2).1;have hp:=ziW (ps:=lft ps ns tr b) (k:=i) (by rw [zfK h0 h1 hb]; omega);have e3:∀ s,(spn ns tr b)[i]? = some s->plo (lft ps ns tr b) i=s.1/\phi (lft ps ns tr b) i=s.2:=fun s es=>by
  have e4:=ziW (ps:=ps) (k:=i) (by omega);unfold lft at hp;rw [getElem?_map,(getElem?_zip_eq_some (z:=(part ps i,s))).mpr ⟨e4,es⟩] at hp;have:=(Option.some.inj hp).symm;unfold plo phi;show (part (lft ps ns tr b) i).2.1=_/\(part (lft ps ns tr b) i).2.2=_;unfold lft;rw [this];exact⟨rfl,rfl⟩
 have fl:=zey h1 hb;constructor
 ·intro k ek;have ib:i<b.length:=(List.getElem?_eq_some_iff.mp ek).1;refine e3 (x - (way l k).1,x - (way l k).1) ?_;unfold spn;rw [getElem?_append_left (by simp; omega),getElem?_map];unfold fld;rw [getElem?_map,(getElem?_zip_eq_some (z:=(x,(l,k)))).mpr ⟨e1,(getElem?_zip_eq_some (z:=(l,k))).mpr ⟨e2,ek⟩⟩];rfl
 ·intro ek;have ib:b.length<=i:=List.getElem?_eq_none_iff.mp ek;refine e3 (x - mst l,x) ?_;unfold spn;rw [getElem?_append_right (by simp; omega),length_map,fl,getElem?_map,List.getElem?_drop,show b.length+(i - b.length)=i by omega,(getElem?_zip_eq_some (z:=(x,l))).mpr ⟨e1,e2⟩];rfl
theorem ziu{n:Nat}{ps:List Part}{g:Gap}{ns:List Int}{tr:List (List Trm)}{b:List Int}(ht:Trs n tr)(hb:Bgn (szT tr) b)(h0:ps.length=tr.length)(h1:ns.length=tr.length)(h3:Tm3 ps.length g.ts)
  (q:R (.d (.bool (zfv (lft ps ns tr b) g))) []):zd1 [.d (zi2 g),.d (zU ns),.d (zbD tr),.d (zU b)] [] R:=by
 have h8:=zbH ht;have bl:=zcM hb;have bl':b.length<=tr.length:=by simpa [szT] using bl
 unfold zd1;walk_at "dX"
 (refine seq1 ?_; walk_at "dX")
 (refine seq1 ?_; walk_at "dX")
 (refine seq1 ?_; walk_at "dX")
 rw [zcL];unfold zrc;walk_at "dX";refine zab (fun i δ S=>∃ (u1 u2 u3 u4 u5:Option XV),S=[]/\δ=[some (.d (zi2 g)),some (.d (zU ns)),some (.d (zbD tr)),some (.d (zU b)),some (.d (.int (zb1 (lft ps ns tr b) (g.ts.take i)))),some (.d (.int (zc6 (lft ps ns tr b) (g.ts.take i)))),u1,u2,u3,u4,u5]) ⟨none,none,none,none,none,rfl,rfl⟩ ?_ ?_
 ·rintro i d _ _ N hi ⟨u1,u2,u3,u4,u5,rfl,rfl⟩ hN;obtain⟨t,et,rfl⟩:=zbG hi;obtain⟨t1,t2,t3⟩:=h3.ok t (mem_of_getElem? et);have el:=getElem?_eq_getElem (show t.1<tr.length by omega);have en:=getElem?_eq_getElem (show t.1<ns.length by omega);obtain⟨at1,at2⟩:=zqs h0 h1 bl' en el;unfold tmD;walk_at "dX"
  (refine seq1 ?_; walk_at "dX")
  (refine seq1 ?_; walk_at "dX")
  unfold zbD;walk_at "dX";refine⟨_,zaH el,?_⟩;rw [zbJ];walk_at "dX";refine zes (tr:=tr) el (by omega) (by omega) ?_;walk_at "dX";refine cut (fun δ S=>∃ (f l:Int) (u5:Option XV),S=[]/\δ=[some (.d (zi2 g)),some (.d (zU ns)),some (.d (.tuple (tr.map zfq))),some (.d (zU b)),some (.d (.int (zb1 (lft ps ns tr b) (g.ts.take i)))),some (.d (.int (zc6 (lft ps ns tr b) (g.ts.take i)))),some (.d (.int t.1)),some (.d (.int t.2)),some (.d (.int f)),some (.d (.int l)),u5] /\
   plo (lft ps ns tr b) t.1=ns[t.1] - l/\phi (lft ps ns tr b) t.1=ns[t.1] - f) (fun N hN=>?_) ?_
  ·unfold zU;walk_at "dX";by_cases hlt:t.1<b.length
   ·rw [if_pos (by omega)];have eb:=getElem?_eq_getElem hlt;have bb:=zeu hb eb (s:=(tr[t.1]'(by omega)).length+1) (by unfold szT; rw [getElem?_map,el]; rfl)
    (refine seq1 ?_; walk_at "dX")
    refine⟨_,zaH eb,?_⟩;refine zes (tr:=tr) el bb.1 (by omega) ?_;walk_at "dX";exact hN _ _ ⟨_,_,_,rfl,rfl,(at1 _ eb).1,(at1 _ eb).2⟩
   ·rw [if_neg (by omega)];have eb:b[t.1]? = none:=List.getElem?_eq_none_iff.mpr (by omega);refine hN _ _ ⟨_,_,_,rfl,rfl,?_,?_⟩
    ·rw [(at2 eb).1,zmz]
    ·rw [(at2 eb).2]; omega
  rintro _ _ ⟨f,l,u5,rfl,rfl,e1,e2⟩;unfold zU
  (refine seq1 ?_; walk_at "dX")
  refine⟨_,zaH en,?_⟩;walk_at "dX";refine⟨zel (by omega) (by omega),_,zaH en,?_⟩;walk_at "dX";refine⟨zel (by omega) (by omega),?_⟩
  (refine seq1 ?_; walk_at "dX")
  refine zwq ?_;walk_at "dX";refine zwr ?_;walk_at "dX";exact hN _ _ ⟨_,_,_,_,_,rfl,by rw [zgx et,zh9 et]; unfold tLo tHi; rw [e1,e2,Int.min_comm,Int.max_comm]; rfl⟩
 ·rintro _ _ ⟨u1,u2,u3,u4,u5,rfl,rfl⟩;rw [length_map,take_length,zcL];walk_at "dX";unfold zfv at q;have lm:=zdj (lft ps ns tr b) g.ts;by_cases hm:zc6 (lft ps ns tr b) g.ts<g.lo
  ·rw [if_pos hm];rw [decide_eq_true (.inr hm)] at q;exact q
  ·rw [if_neg hm];refine Rb' q ?_;simp only [decide_eq_decide];omega
theorem ziJ{n:Nat}{ps:List Part}{gs:List Gap}{ns:List Int}{tr:List (List Trm)}{price:Int}{b:List Int}{w:PyData}(ht:Trs n tr)(hb:Bgn (szT tr) b)(h0:ps.length=tr.length)(h1:ns.length=tr.length)(hg:GsT ps.length gs)(hw:WT w)
  (q:R (.d (.bool (zkf ps gs ns tr price b w))) []):zcJ [.d (zci gs),.d (zU ns),.d (zbD tr),.d (.int price),.d (.tuple [zU b,w])] [] R:=by
 unfold zcJ;walk_at "d"
 walk_at "n"
 walk_at "n"
 cases w with
 | tuple ds =>
  match ds with
  | []=>(walk_at "d"; exact q)
  | x :: r =>
   walk_at "d";rw [if_neg (by omega)]
   walk_at "n"
   have sx:=hw.el _ rfl x (by simp);refine⟨sx,by decide +kernel,?_⟩;by_cases hx:PyData.eqv x (.str "dear")=true
   ·rw [if_pos hx];obtain⟨z,rfl⟩:∃ z,x=.str z:=by
     cases x with
     | str z=>exact⟨z,rfl⟩
     | _=>cases hx
    have ez:z = "dear":=of_decide_eq_true hx;subst ez;walk_at "d";cases r with
    | nil =>
     rw [zvg rfl] at q;walk_at "d";refine zdZ ht hb ?_;walk_at "d";exact q
    | cons y r =>
     rw [if_neg (by simp; omega)];rw [ztZ rfl (by cases r <;> rfl)] at q;exact q
   ·rw [if_neg hx];have hd:zhR (.tuple (x :: r))=false:=by
     cases r with
     | nil =>
      cases x with
      | str z=>exact decide_eq_false fun e=>hx (decide_eq_true e)
      | _=>rfl
     | cons y r=>cases x <;> rfl
    walk_at "d"
    walk_at "n"
    refine⟨sx,by decide +kernel,?_⟩;cases hoff:PyData.eqv x (.str "off") with
    | false =>
     have:zhJ (.tuple (x :: r))=false:=by
      match r with
      | []=>cases x <;> rfl
      | [y]=>(cases x with
       | str z=>exact hoff
       | _=>rfl)
      | y :: z :: r=>cases x <;> rfl
     rw [ztZ hd this] at q;exact q
    | true =>
     rw [if_neg dz]
     match r,hw,hd,q with
     | [],hw,hd,q =>
      have:zhJ (.tuple [x])=false:=by cases x <;> rfl
      rw [ztZ hd this] at q;exact q
     | y :: z :: r,hw,hd,q =>
      have:zhJ (.tuple (x :: y :: z :: r))=false:=by cases x <;> rfl
      rw [ztZ hd this] at q;rw [if_pos (by simp; omega)];exact q
     | [k],hw,hd,q =>
      have ho:zhJ (.tuple [x,k])=true:=by
       cases x with
       | str z=>exact hoff
       | _=>cases hoff
      have ew:zkf ps gs ns tr price b (.tuple [x,k])=ztX ps gs ns tr b k:=by
       unfold zkf;rw [hd,ho];rfl
      rw [ew] at q;rw [if_neg (by simp)];walk_at "d";refine zeU ?_;cases k with
      | int k =>
       rw [ziF] at q;simp only [zic];walk_at "d";unfold zci;walk_at "d";by_cases hk:0<=k/\k<(gs.length:Int)
       ·rw [if_neg (by simpa using hk)];obtain⟨e3,m3⟩:=zqx hk.1 hk.2;walk_at "d";refine⟨_,e3,?_⟩;walk_at "d";refine ziu ht hb h0 h1 (hg.t3 _ m3) ?_;rw [decide_eq_true hk,Bool.true_and] at q;walk_at "d";exact q
       ·rw [if_pos hk];rw [decide_eq_false hk] at q;exact q
      | none=>(walk_at "d"; exact q)
      | bool b=>(walk_at "d"; exact q)
      | str b=>(walk_at "d"; exact q)
      | list b=>(walk_at "d"; exact q)
      | dict b=>(walk_at "d"; exact q)
      | tuple b=>(walk_at "d"; exact q)
 | none=>(walk_at "d"; exact q)
 | bool b=>(walk_at "d"; exact q)
 | int b=>(walk_at "d"; exact q)
 | str b=>(walk_at "d"; exact q)
 | list b=>(walk_at "d"; exact q)
 | dict b=>(walk_at "d"; exact q)
theorem zkV:∀ (sz:List Nat) (F:List (List Int)),sz.foldl (fun F s=>F.flatMap fun a=>(List.range s).map fun k:Nat=>a++[(k:Int)]) F=F.flatMap fun a=>(fil sz).map fun z=>a++z
 | [],F=>by simp [fil]
 | s :: sz,F=>by
  rw [List.foldl_cons,zkV sz,List.flatMap_assoc];congr 1;funext a;simp only [fil,List.flatMap_map,List.map_flatMap,map_map];congr 1;funext k;congr 1;funext z;simp
theorem zdS(sz:List Nat):sz.foldl (fun F s=>F.flatMap fun a=>(List.range s).map fun k:Nat=>a++[(k:Int)]) [[]]=fil sz:=by
 rw [zkV];simp
def stp(F:List (List Int))(s:Nat):List (List Int):=F.flatMap fun a=>(List.range s).map fun k:Nat=>a++[(k:Int)]
theorem zi5(l:List Nat)(x:Nat):(l++[x]).foldl stp [[]]=stp (l.foldl stp [[]]) x:=by simp
theorem zkQ(l:List Nat):(l.foldl stp [[]]).length=zaa l:=by
 have:=zdS l;rw [<- zdu,<- this];rfl
structure TrC(n:Nat)(tr:List (List Trm)):Prop extends Trs n tr where
 few:zaa (szT tr)<=256
theorem zng{sz:List Nat}(h:∀ s∈sz,1<=s)(i:Nat):zaa (sz.take i)<=zaa sz:=by
 have:=zd2 (sz.take i) (sz.drop i);rw [List.take_append_drop] at this;rw [this];exact Nat.le_mul_of_pos_right _ (zc8 fun x m=>h x (mem_of_mem_drop m))
theorem zhh{tr:List (List Trm)}:∀ s∈szT tr,1<=s:=fun s m=>by
 obtain⟨l,_,rfl⟩:=mem_map.mp m;omega
theorem zcc{n:Nat}{tr:List (List Trm)}(ht:TrC n tr)(q:R (.d (.list ((fil (szT tr)).map zU))) []):zaX [.d (zbD tr)] [] R:=by
 have h8:=zbH ht.toTrs;unfold zaX zbD;walk_at "d"
 walk_at "n"
 walk_at "n"
 refine zab (fun i δ S=>∃ (u1 u2 u3:Option XV),S=[]/\δ=[some (.d (.tuple (tr.map zfq))),some (.d (.list ((((szT tr).take i).foldl stp [[]]).map zU))),u1,u2,u3]) ⟨_,_,_,rfl,rfl⟩ ?_ ?_
 ·rintro i d _ _ N hi ⟨u1,u2,u3,rfl,rfl⟩ hN;obtain⟨l,hl,rfl⟩:=zbG hi;have l3:=ht.l3 l (mem_of_getElem? hl);have es:(szT tr)[i]? = some (l.length+1):=by unfold szT; rw [getElem?_map,hl]; rfl
  have pl:=zng (sz:=szT tr) zhh (i+1);have pf:=ht.few;rw [take_add_one,es] at pl;simp only [toList_some] at pl;rw [zfC] at pl;generalize hF:((szT tr).take i).foldl stp [[]]=F;have lF:F.length=zaa ((szT tr).take i):=by rw [<- hF,zkQ]
  rw [zbJ];walk_at "d"
  walk_at "n"
  walk_at "n"
  refine zab (fun j δ S=>∃ (u3:Option XV),S=[(stp (F.take j) (l.length+1)).map zU]/\δ=[some (.d (.tuple (tr.map zfq))),some (.d (.list (F.map zU))),some (.d (.tuple (l.map zf7))),some (.l 0),u3]) ⟨_,by simp [stp],rfl⟩ ?_ ?_
  ·rintro j d _ _ N hj ⟨u3,rfl,rfl⟩ hN;obtain⟨a,ha,rfl⟩:=zbG hj;have jl:j<F.length:=(List.getElem?_eq_some_iff.mp ha).1;have e1:stp (F.take (j+1)) (l.length+1)=stp (F.take j) (l.length+1)++(List.range (l.length+1)).map fun k:Nat=>a++[(k:Int)]:=by
    rw [take_add_one,ha];simp [stp]
   have e2:(stp (F.take j) (l.length+1)).length=j*(l.length+1):=by
    unfold stp;rw [zdl (n:=l.length+1) (fun x _=>by simp),length_take];rw [Nat.min_eq_left (by omega)]
   have e3:j*(l.length+1)<=256:=le_trans (Nat.mul_le_mul_right _ (by omega)) (le_trans pl pf);have ei:zfb 0 ((l.length:Int)+1).toNat=(List.range (l.length+1)).map fun k:Nat=>PyData.int (0+(k:Int)):=by
    rw [show ((l.length:Int)+1).toNat=l.length+1 by omega];simp [zfb]
   unfold zU;walk_at "d";rw [ei];refine cmp1 (S0:=[_]) (fun k:Nat=>zU (a++[(k:Int)])) rfl (List.range (l.length+1)) (by simp; omega) ?_ ?_
   ·intro k mk u acc R' hk;have:=hk (some (.d (.int (0+(k:Int)))));unfold zU at this;walk_at "d";have al:a.length<=8:=by
     have ea:F=fil ((szT tr).take i):=by rw [<- hF]; exact zdS _
     have ma:a∈fil ((szT tr).take i):=by rw [<- ea]; exact mem_of_getElem? ha
     have:=(zcq.mp ma).1;simp [szT] at this;omega
    refine⟨by omega,?_⟩;simpa using this
   ·walk_at "d";rw [e2,length_range];refine⟨by omega,hN _ _ ⟨_,?_,rfl⟩⟩;rw [e1,map_append,map_map];rfl
  ·rintro _ _ ⟨u3,rfl,rfl⟩;rw [length_map,take_length];refine⟨[],_,rfl,_,rfl,?_⟩;have e5:((szT tr).take (i+1)).foldl stp [[]]=stp F (l.length+1):=by
    rw [take_add_one,es,<- hF];exact zi5 _ _
   exact hN _ _ ⟨_,_,_,rfl,by rw [e5]; rfl⟩
 ·rintro _ _ ⟨u1,u2,u3,rfl,rfl⟩;rw [length_map,show tr.length=(szT tr).length by simp [szT],take_length];walk_at "d";have:=zdS (szT tr);rw [<- this] at q;exact q
def zsl(sz:List Nat)(B:List (List Int)):Bool:=(fil sz).all fun z=>B.any fun b=>b.isPrefixOf z
theorem zpZ{sz:List Nat}{B:List (List Int)}(hB:∀ b∈B,Bgn sz b)(ha:zie B=true):decide (zr2 sz B=zaa sz)=zsl sz B:=by
 have:=zjb hB ha;have e:zsl sz B=true↔∀ z∈fil sz,∃ b∈B,b <+: z:=by
  unfold zsl;simp only [all_eq_true,any_eq_true,isPrefixOf_iff_prefix]
 cases hb:zsl sz B with
 | true=>exact decide_eq_true (this.mpr (e.mp hb))
 | false =>
  refine decide_eq_false fun z=>?_;rw [e.mpr (this.mp z)] at hb;cases hb
theorem zfD{g:DG}{b:DSm}{E:DEndsM}:∀ {ds:List PyData} {δ:XE} {S:Sto} {M:DM} (I:Nat->XE->Sto->DM->Prop),I 0 δ S M ->
  (∀ i d δ S M (N:XE->Sto->DM->Prop),ds[i]? = some d->I i δ S M->(∀ δ' S' M',I (i+1) δ' S' M'->N δ' S' M')->g (.d d) δ S fun δ1 S1=>b { nx:=N,ct:=N,bk:=E.nx,rt:=E.rt } δ1 S1 M) ->
  (∀ δ S M,I ds.length δ S M->E.nx δ S M)->zfV g b ds E δ S M
 | [],δ,S,M,I,h0,_,fin=>fin δ S M h0
 | d :: ds,δ,S,M,I,h0,step,fin=>by
  show g (.d d) δ S fun δ1 S1=>b _ δ1 S1 M;refine step 0 d δ S M _ rfl h0 fun δ' S' M' h1=>?_;exact zfD (ds:=ds) (fun i=>I (i+1)) h1 (fun i e δ S M N hi=>step (i+1) e δ S M N (by simpa using hi)) fin
def zoK(m:List (List Key×PyData))(k:List Key):Bool:=m.any fun p=>decide (p.1=k)
theorem zo6{m:List (List Key×PyData)}{k k':List Key}{v:PyData}:zoK (ptA m k v) k'=(zoK m k' || decide (k=k')):=by
 unfold zoK ptA;split
 ·rename_i h;rw [List.any_map];have e:(m.any ((fun p=>decide (p.1=k'))∘fun p=>if p.1=k then (p.1,v) else p))=m.any fun p=>decide (p.1=k'):=by
   congr 1;funext p;simp only [Function.comp];split <;> rfl
  rw [e];by_cases hk:k=k'
  ·subst hk;rw [h];rfl
  ·simp [hk]
 ·rw [List.any_append];simp
theorem zvj{m:List (List Key×PyData)}{k:List Key}:(lkA m k).isSome=zoK m k:=by
 unfold lkA zoK;rw [isSome_map];induction m with
 | nil=>rfl
 | cons p m ih =>
  rw [find?_cons,any_cons];cases decide (p.1=k) with
  | true=>rfl
  | false=>simpa using ih
theorem ztC{m:List (List Key×PyData)}{k:List Key}{v:PyData}:(ptA m k v).length<=m.length+1:=by
 unfold ptA;split <;> simp
theorem zk1(b:List Int):zoJ (zU b)=some (b.map Sum.inl):=by
 show zj8 (b.map PyData.int)=_;induction b with
 | nil=>rfl
 | cons x b ih=>simp [zj8,zoC,ih]
theorem zgc{n:Nat}{tr:List (List Trm)}{B:List (List Int)}(ht:TrC n tr)(hl:B.length<=900)(q:R (.d (.bool (zsl (szT tr) B))) []):zbe [.d (zbD tr),.d (.list (B.map zU))] [] R:=by
 have h8:=zbH ht.toTrs;unfold zbe;walk_at "d"
 walk_at "n"
 intro a _;refine seqm ?_;walk_at "d";refine zfD (fun i δ S M=>∃ (m:List (List Key×PyData)) (u:Option XV),S=[]/\M=[(a,.t m)]/\m.length<=i/\(∀ k,zoK m k=true↔∃ b∈B.take i,k=b.map Sum.inl)/\δ=[some (.d (zbD tr)),some (.d (.list (B.map zU))),some (.o (.ref a)),u,none]) ⟨[],none,rfl,rfl,le_refl _,by simp [zoK],rfl⟩ ?_ ?_
 ·rintro i d _ _ _ N hi ⟨m,u,rfl,rfl,hm,hk,rfl⟩ hN;obtain⟨b,eb,rfl⟩:=zbG hi;have il:i<B.length:=(List.getElem?_eq_some_iff.mp eb).1;walk_at "d";have pl:=ztC (m:=m) (k:=b.map Sum.inl) (v:=.bool true);refine⟨a,rfl,.t m,.t (ptA m (b.map Sum.inl) (.bool true)),by simp,by show (zoJ (zU b)).map _=_; rw [zk1]; rfl,by show m.length<1000; omega,?_⟩;refine hN _ _ _ ⟨ptA m (b.map Sum.inl) (.bool true),_,rfl,by simp [zr9],by omega,fun k=>?_,rfl⟩;rw [zo6,Bool.or_eq_true,hk,decide_eq_true_eq,take_add_one,eb];simp only [toList_some,mem_append,mem_singleton];constructor
  ·rintro(⟨x,mx,e⟩ | e)
   ·exact⟨x,.inl mx,e⟩
   ·exact⟨b,.inr rfl,e.symm⟩
  ·rintro⟨x,mx | rfl,e⟩
   ·exact .inl ⟨x,mx,e⟩
   ·exact .inr e.symm
 ·rintro _ _ _ ⟨m,u,rfl,rfl,hm,hk,rfl⟩;rw [length_map] at hm hk;rw [take_length] at hk;walk_at "d";refine zcc ht ?_;walk_at "d";refine zfD (fun i δ S M=>∃ (u4:Option XV),S=[]/\M=[(a,.t m)]/\zsl (szT tr) B=((fil (szT tr)).drop i).all (fun z=>B.any fun b=>b.isPrefixOf z)/\δ=[some (.d (zbD tr)),some (.d (.list (B.map zU))),some (.o (.ref a)),u,u4]) ⟨none,rfl,rfl,rfl,rfl⟩ ?_ ?_
  ·rintro i d _ _ _ N hi ⟨u4,rfl,rfl,hq,rfl⟩ hN;obtain⟨z,ez,rfl⟩:=zbG hi;have il:i<(fil (szT tr)).length:=(List.getElem?_eq_some_iff.mp ez).1;have zl:=(zcq.mp (mem_of_getElem? ez)).1;have zl':z.length=tr.length:=by simpa [szT] using zl
   rw [drop_eq_getElem_cons il,all_cons] at hq;have ezz:(fil (szT tr))[i]=z:=by rw [getElem?_eq_getElem il] at ez; exact Option.some.inj ez
   rw [ezz] at hq;have ei:zfb 0 ((tr.length:Int)+1).toNat=(List.range (tr.length+1)).map fun k:Nat=>PyData.int (0+(k:Int)):=by
    rw [show ((tr.length:Int)+1).toNat=tr.length+1 by omega];simp [zfb]
   have ea:((List.range (tr.length+1)).map fun k=>zoK m ((z.take k).map Sum.inl)).any id=B.any fun b=>b.isPrefixOf z:=by
    rw [Bool.eq_iff_iff];simp only [any_eq_true,mem_map,mem_range,id];constructor
    ·rintro⟨_,⟨k,hk1,rfl⟩,h⟩;obtain⟨b,mb,e⟩:=(hk _).mp h;have eb:z.take k=b:=(List.map_inj_right fun _ _ e=>Sum.inl.inj e).mp e;exact⟨b,mb,isPrefixOf_iff_prefix.mpr (by rw [<- eb]; exact List.take_prefix _ _)⟩
    ·rintro⟨b,mb,p⟩;have p':=isPrefixOf_iff_prefix.mp p;have e:=List.prefix_iff_eq_take.mp p';have:=p'.length_le;exact⟨_,⟨b.length,by omega,rfl⟩,(hk _).mpr ⟨b,mb,by rw [<- e]⟩⟩
   unfold zbD;walk_at "d";rw [ei];refine cmp1 (S0:=[]) (fun k:Nat=>.bool (zoK m ((z.take k).map Sum.inl))) rfl (List.range (tr.length+1)) (by simp; omega) ?_ ?_
   ·intro k mk u acc R' hk';have:=hk' (some (.d (.int (0+(k:Int)))));unfold zU at this ⊢;rw [Int.zero_add] at this ⊢;walk_at "d";rw [zfI,<- map_take];refine⟨.t m,lkA m ((z.take k).map Sum.inl),.inl ⟨a,rfl,by simp⟩,by show (zoJ (zU (z.take k))).map _=_; rw [zk1]; rfl,?_⟩;rw [zvj];exact this
   walk_at "d";refine⟨(List.range (tr.length+1)).map fun k=>zoK m ((z.take k).map Sum.inl),by rw [map_map]; rfl,?_⟩;rw [ea];cases hp:B.any fun b=>b.isPrefixOf z with
   | false =>
    rw [hp,Bool.false_and] at hq;rw [hq] at q;exact⟨[],_,rfl,q⟩
   | true =>
    rw [hp,Bool.true_and] at hq;exact hN _ _ _ ⟨_,rfl,rfl,hq,rfl⟩
  ·rintro _ _ _ ⟨u4,rfl,rfl,hq,rfl⟩;rw [length_map,drop_length] at hq;refine⟨[],_,rfl,?_⟩;rw [hq] at q;exact q
theorem zuF{ps:List Part}{gs:List Gap}{ns:List Int}{tr:List (List Trm)}{price:Int}{rows:List PyData}{r:PyData}(m:r∈rows)(h:t2 r=false\/bgN (szT tr) (fs1 r)=false\/rwB ps gs ns tr price r=false):zpG ps gs ns tr price (.list rows)=false:=by
 cases hb:zpG ps gs ns tr price (.list rows) with
 | false=>rfl
 | true =>
  rw [zhk,zhN] at hb;unfold zoR at hb;simp only [Bool.and_eq_true,all_eq_true] at hb;obtain⟨⟨h2,h3,_⟩,h4⟩:=hb;rcases h with h | h | h
  ·rw [h2 r m] at h; cases h
  ·rw [h3 _ (mem_map_of_mem m)] at h; cases h
  ·rw [h4 r m] at h; cases h
theorem zeh{n:Nat}{ps:List Part}{gs:List Gap}{ns:List Int}{tr:List (List Trm)}{price:Int}{d:PyData}(ht:TrC n tr)(h0:ps.length=tr.length)(h1:ns.length=tr.length)(hg:GsT ps.length gs)(hd:ThB d)
  (q:R (.d (.bool (zpG ps gs ns tr price d))) []):zdo [.d (zci gs),.d (zU ns),.d (zbD tr),.d (.int price),.d d] [] R:=by
 unfold zdo;cases d with
 | list rows =>
  have hl:=hd.len rows rfl;have hw:=hd.why rows rfl;walk_at "d"
  walk_at "n"
  walk_at "n"
  refine zab (fun i δ S=>∃ (u:Option XV),S=[]/\(∀ r∈rows.take i,t2 r=true/\bgN (szT tr) (fs1 r)=true/\rwB ps gs ns tr price r=true)/\δ=[some (.d (zci gs)),some (.d (zU ns)),some (.d (zbD tr)),some (.d (.int price)),some (.d (.list rows)),u,none,none,none]) ⟨none,rfl,by simp,rfl⟩ ?_ ?_
  ·rintro i r _ _ N hi ⟨u,rfl,hr,rfl⟩ hN;have mr:=mem_of_getElem? hi;have F:(t2 r=false\/bgN (szT tr) (fs1 r)=false\/rwB ps gs ns tr price r=false)->R (.d (.bool false)) []:=fun h=>by rw [zuF mr h] at q; exact q
   walk_at "d"
   walk_at "n"
   cases h2:t2 r with
   | false =>
    cases r with
    | tuple ds =>
     match ds,h2 with
     | [],h2=>(walk_at "d"; exact F (.inl h2))
     | [_],h2=>(walk_at "d"; exact F (.inl h2))
     | _ :: _ :: _ :: ds,h2 =>
      walk_at "d";rw [if_pos (by omega)];exact F (.inl h2)
    | none=>(walk_at "d"; exact F (.inl h2))
    | bool b=>(walk_at "d"; exact F (.inl h2))
    | int b=>(walk_at "d"; exact F (.inl h2))
    | str b=>(walk_at "d"; exact F (.inl h2))
    | list b=>(walk_at "d"; exact F (.inl h2))
    | dict b=>(walk_at "d"; exact F (.inl h2))
   | true =>
    have e:=zpc h2;have ew:=hw r mr _ _ e;generalize hb0:fs1 r=b0 at e F;generalize hw0:sn1 r=w at e ew;rw [e];walk_at "d";refine zez ht.toTrs ?_;cases hb:bgN (szT tr) b0 with
    | false=>(walk_at "d"; exact F (.inr (.inl hb)))
    | true =>
     obtain⟨b,rfl,hbg⟩:=zgI.mp hb;have er:rwB ps gs ns tr price r=zkf ps gs ns tr price b w:=by
      unfold rwB;rw [hb0,hw0,zdN]
     walk_at "d";refine ziJ ht.toTrs hbg h0 h1 hg ew ?_;rw [<- er];cases hy:rwB ps gs ns tr price r with
     | false=>(walk_at "d"; exact F (.inr (.inr hy)))
     | true =>
      walk_at "d";rw [<- e];refine hN _ _ ⟨_,rfl,fun x mx=>?_,rfl⟩;rw [take_add_one,hi] at mx;rcases mem_append.mp mx with mx | mx
      ·exact hr x mx
      ·have:x=r:=by simpa using mx
       subst this;exact⟨h2,by rw [hb0]; exact hb,hy⟩
  ·rintro _ _ ⟨u,rfl,hr,rfl⟩;rw [take_length] at hr;have hB:∃ L:List (List Int×PyData),rows=L.map (fun q=>.tuple [zU q.1,q.2])/\∀ q∈L,Bgn (szT tr) q.1:=by
    have:∀ l:List PyData,(∀ r∈l,t2 r=true/\bgN (szT tr) (fs1 r)=true)->∃ L:List (List Int×PyData),l=L.map (fun q=>.tuple [zU q.1,q.2])/\∀ q∈L,Bgn (szT tr) q.1:=by
     intro l;induction l with
     | nil=>exact fun _=>⟨[],rfl,fun q m=>by cases m⟩
     | cons r l ih =>
      intro h;obtain⟨L,rfl,hL⟩:=ih fun x m=>h x (mem_cons_of_mem _ m);obtain⟨a1,a2⟩:=h r mem_cons_self;obtain⟨b,e1,hb⟩:=zgI.mp a2;refine⟨(b,sn1 r) :: L,?_,fun q m=>?_⟩
      ·rw [map_cons];congr 1;rw [zpc a1,e1];rfl
      ·rcases mem_cons.mp m with rfl | m
       ·exact hb
       ·exact hL q m
    exact this rows fun r m=>⟨(hr r m).1,(hr r m).2.1⟩
   obtain⟨L,rfl,hL⟩:=hB;have ebar:zpG ps gs ns tr price (.list (L.map (fun q=>.tuple [zU q.1,q.2])))=(zie (L.map (·.1)) && zsl (szT tr) (L.map (·.1))):=by
    rw [zhk,zhN];unfold zoR;have e1:((L.map (fun q=>PyData.tuple [zU q.1,q.2])).map fs1).map bgO=L.map (·.1):=by
     rw [map_map,map_map];exact map_congr_left fun q _=>zdN q.1
    rw [e1];have a1:(L.map (fun q=>PyData.tuple [zU q.1,q.2])).all t2=true:=all_eq_true.mpr fun r m=>(hr r m).1;have a2:((L.map (fun q=>PyData.tuple [zU q.1,q.2])).map fs1).all (bgN (szT tr))=true:=all_eq_true.mpr fun x m=>by
     obtain⟨r,mr,rfl⟩:=mem_map.mp m;exact(hr r mr).2.1
    have a3:(L.map (fun q=>PyData.tuple [zU q.1,q.2])).all (rwB ps gs ns tr price)=true:=all_eq_true.mpr fun r m=>(hr r m).2.2;rw [a1,a2,a3];simp only [Bool.true_and,Bool.and_true];cases ha:zie (L.map (·.1)) with
    | false=>rfl
    | true =>
     rw [Bool.true_and,Bool.true_and];exact zpZ (fun b m=>by obtain⟨q,mq,rfl⟩:=mem_map.mp m; exact hL q mq) ha
   rw [ebar] at q;rw [length_map] at hl;have at0:∀ (k:Nat) (x:List Int×PyData),L[k]? = some x->atI (L.map (fun q=>PyData.tuple [zU q.1,q.2])) (k:Int)=some (.tuple [zU x.1,x.2]):=fun k x e=>zaH e
   walk_at "n"
   walk_at "n"
   refine zab (fun k δ S=>∃ (u6 u7 u8:Option XV),S=[]/\zie (L.map (·.1))=zie ((L.map (·.1)).drop k)/\δ=[some (.d (zci gs)),some (.d (zU ns)),some (.d (zbD tr)),some (.d (.int price)),some (.d (.list (L.map (fun q=>.tuple [zU q.1,q.2])))),u,u6,u7,u8]) ⟨none,none,none,rfl,rfl,rfl⟩ ?_ ?_
   ·rintro k d _ _ N hk ⟨u6,u7,u8,rfl,ha,rfl⟩ hN;obtain⟨hk',rfl⟩:=zbs hk;have hk8:k+1<L.length:=by omega
    have ex:=getElem?_eq_getElem (show k<L.length by omega);have ey:=getElem?_eq_getElem hk8;have ed:(L.map (·.1)).drop k=(L[k]'(by omega)).1 :: (L[k+1]'hk8).1 :: (L.map (·.1)).drop (k+1+1):=by
     rw [drop_eq_getElem_cons (show k<(L.map (·.1)).length by simp; omega),drop_eq_getElem_cons (show k+1<(L.map (·.1)).length by simp; omega)];simp
    have ed2:(L.map (·.1)).drop (k+1)=(L[k+1]'hk8).1 :: (L.map (·.1)).drop (k+1+1):=by
     rw [drop_eq_getElem_cons (show k+1<(L.map (·.1)).length by simp; omega)];simp
    rw [ed] at ha;simp only [zie] at ha;rw [<- ed2] at ha;generalize hx0:L[k]'(by omega)=x at *;generalize hy0:L[k+1]'hk8=y at *;rw [Int.zero_add];walk_at "d"
    walk_at "n"
    refine⟨_,at0 k x ex,?_⟩;walk_at "d"
    walk_at "n"
    have ek:(k:Int)+1=((k+1:Nat):Int):=by omega
    rw [ek];refine⟨_,at0 (k+1) y ey,?_⟩;unfold zU;walk_at "d";refine⟨x.1,rfl,y.1,rfl,?_⟩;cases hx:HT.lexLt x.1 y.1 with
    | false =>
     rw [hx] at ha;rw [ha] at q;walk_at "d";exact q
    | true =>
     rw [hx,Bool.true_and,zld] at ha;walk_at "d";rw [zfI,<- map_take];have e:=znR (y.1.take x.1.length) x.1;unfold zU at e;rw [e];refine⟨zd8 _,zd8 _,?_⟩;by_cases hp:y.1.take x.1.length=x.1
     ·rw [if_pos (decide_eq_true hp)];rw [decide_eq_true hp] at ha;rw [ha] at q;exact q
     ·rw [if_neg (by simpa using hp)];rw [decide_eq_false hp] at ha;exact hN _ _ ⟨_,_,_,rfl,ha,rfl⟩
   ·rintro _ _ ⟨u6,u7,u8,rfl,ha,rfl⟩;rw [zap] at ha;have one:zie ((L.map (·.1)).drop ((L.length:Int) - 1).toNat)=true:=by
     have hle:((L.map (·.1)).drop ((L.length:Int) - 1).toNat).length<=1:=by simp; omega
     match hm:(L.map (·.1)).drop ((L.length:Int) - 1).toNat,hle with
     | [],_=>rfl
     | [_],_=>rfl
     | _ :: _ :: _,h=>simp at h
    rw [one] at ha;rw [ha,Bool.true_and] at q;walk_at "d";refine cmp1 (S0:=[]) (fun q:List Int×PyData=>zU q.1) rfl L (by omega) ?_ ?_
    ·intro x mx u acc R' hk;walk_at "d";exact hk _
    walk_at "d";have e2:L.map (fun q=>zU q.1)=(L.map (·.1)).map zU:=by rw [map_map]; rfl
    rw [e2];refine zgc ht (by simpa using hl) ?_;walk_at "d";exact q
 | none=>(walk_at "d"; walk_at "n"; exact q)
 | bool b=>(walk_at "d"; walk_at "n"; exact q)
 | int b=>(walk_at "d"; walk_at "n"; exact q)
 | str b=>(walk_at "d"; walk_at "n"; exact q)
 | tuple b=>(walk_at "d"; walk_at "n"; exact q)
 | dict b=>(walk_at "d"; walk_at "n"; exact q)
theorem zsT{sz:List Nat}(h:∀ s∈sz,1<=s):1<=(fil sz).length:=by rw [zdu]; exact zc8 h
theorem zjw{n:Nat}{ns:List Int}{tr:List (List Trm)}{b:List Int}(ht:Trs n tr)(hb:Bgn (szT tr) b)(h1:ns.length=tr.length)(hbl:b.length=tr.length)(q:∀ ms:List Int,ms.length=ns.length->R (.d (zU ms)) []):zbg [.d (zU ns),.d (zbD tr),.d (zU b)] [] R:=by
 have h8:=zbH ht;unfold zbg zU;walk_at "d"
 walk_at "n"
 walk_at "n"
 refine zab (fun i δ S=>∃ (ms:List Int) (u:Option XV),S=[ms.map PyData.int]/\ms.length=ns.length/\δ=[some (.d (.tuple (ns.map PyData.int))),some (.d (zbD tr)),some (.d (.tuple (b.map PyData.int))),some (.l 0),u]) ⟨ns,none,rfl,rfl,rfl⟩ ?_ ?_
 ·rintro i d _ _ N hi ⟨ms,u,rfl,hms,rfl⟩ hN;obtain⟨hi',rfl⟩:=zbs hi;have hi8:i<b.length:=by simpa using hi'
  have eb:=getElem?_eq_getElem hi8;have et:=getElem?_eq_getElem (show i<tr.length by omega);have em:=getElem?_eq_getElem (show i<ms.length by omega);have bb:=zeu hb eb (s:=(tr[i]'(by omega)).length+1) (by unfold szT; rw [getElem?_map,et]; rfl);rw [Int.zero_add];walk_at "d";refine⟨_,zaH eb,?_⟩;walk_at "d";by_cases h0:0<b[i]
  ·rw [if_pos h0];unfold zbD;walk_at "d";obtain⟨c,hc⟩:=Int.eq_ofNat_of_zero_le bb.1;have hm:c - 1<(tr[i]'(by omega)).length:=by omega
   have e:(c:Int) - 1=((c - 1:Nat):Int):=by omega
   refine⟨_,zaH em,_,zaH et,_,zaH eb,?_⟩;rw [hc,zbJ];walk_at "d";rw [e];refine⟨_,zaH (getElem?_eq_getElem hm),?_⟩;rw [zdL];walk_at "d";refine⟨i,by unfold ixN; rw [if_pos (by omega),if_pos (by simp; omega)]; simp,?_⟩;rw [<- map_set];exact hN _ _ ⟨ms.set i _,_,rfl,by simp [hms],rfl⟩
  ·rw [if_neg h0];exact hN _ _ ⟨ms,_,rfl,hms,rfl⟩
 ·rintro _ _ ⟨ms,u,rfl,hms,rfl⟩;walk_at "d";exact q ms hms
theorem zgW{p:List PyData}{ps:List Part}(hp:zaU p)(hd:Drw ps)(q:∀ ts p',Tms ps.length ts->zaU p'->R (.d (zrc ts)) [p']):zcX [.l 0,.d (zdf ps)] [p] R:=zjI hp hd q
theorem zfj{p:List PyData}{ps:List Part}{ns:List Int}{tr:List (List Trm)}(hp:zaU p)(hd:Drw ps)(ht:TrC ps.length tr)(h1:ns.length=tr.length)(q:∀ gs p',GsT ps.length gs->1<=gs.length->gs.length<=3->zaU p'->R (.d (zci gs)) [p']):zch [.l 0,.d (zdf ps),.d (zU ns),.d (zbD tr)] [p] R:=by
 have l8:=hd.l8;have tl:=ht.len;unfold zch;walk_at "d"
 walk_at "n"
 walk_at "n"
 refine zy hp dz (by decide +kernel) fun r p1 r0 r1 hp1=>?_;walk_at "d";refine zab (fun i δ S=>∃ (p:List PyData) (gs:List Gap) (u5 u6 u7 u8 u9:Option XV),S=[p,gs.map zi2]/\zaU p/\gs.length=i/\GsT ps.length gs/\δ=[some (.l 0),some (.d (zdf ps)),some (.d (zU ns)),some (.d (zbD tr)),some (.l 1),u5,u6,u7,u8,u9]) ⟨p1,[],_,_,_,_,_,rfl,hp1,rfl,⟨by simp,by simp⟩,rfl⟩ ?_ ?_
 ·rintro i d _ _ N hi ⟨p,gs,u5,u6,u7,u8,u9,rfl,hp,hgl,hgs,rfl⟩ hN;obtain⟨hi',rfl⟩:=zbs hi;walk_at "d"
  walk_at "n"
  refine zgW hp hd fun ts p2 hts hp2=>?_;walk_at "d"
  walk_at "n"
  refine zcc ht ?_;walk_at "d"
  walk_at "n"
  have fl:=zsT (sz:=szT tr) zhh;have fl2:=zdu (szT tr);have few:=ht.few;refine zy hp2 (by omega) (zcC (by omega) (by omega)) fun r2 p3 r20 r21 hp3=>?_;obtain⟨k,rfl⟩:=Int.eq_ofNat_of_zero_le r20;have hk:k<(fil (szT tr)).length:=by omega
  have ez:=getElem?_eq_getElem hk;have mz:=zcq.mp (mem_of_getElem? ez);walk_at "d";refine⟨_,zaH ez,?_⟩;walk_at "d";refine zjw ht.toTrs mz.2 h1 (by simpa [szT] using mz.1) fun ms hms=>?_;walk_at "d"
  walk_at "n"
  have h3:Tm3 ms.length ts:=by rw [hms,h1,tl]; exact hts.tm3 l8
  refine zfZ (g:=⟨ts,0,0⟩) h3 ?_;walk_at "d";refine zy hp3 dz (by decide +kernel) fun r4 p4 r40 r41 hp4=>?_;walk_at "d";refine zy hp4 dz (by decide +kernel) fun r5 p5 r50 r51 hp5=>?_;walk_at "d";refine⟨by omega,hN _ _ ⟨p5,gs++[⟨ts,worth ts ms+r4 - 5,worth ts ms+r4 - 5+r5⟩],_,_,_,_,_,by simp [zi2],hp5,by simp [hgl],⟨fun g mg=>?_,fun g mg=>?_⟩,rfl⟩⟩
  ·rcases mem_append.mp mg with mg | mg
   ·exact hgs.t3 g mg
   ·rw [mem_singleton.mp mg];exact hts.tm3 l8
  ·rcases mem_append.mp mg with mg | mg
   ·exact hgs.le g mg
   ·rw [mem_singleton.mp mg];show worth ts ms+r4 - 5<=worth ts ms+r4 - 5+r5;omega
 ·rintro _ _ ⟨p,gs,u5,u6,u7,u8,u9,rfl,hp,hgl,hgs,rfl⟩;rw [zap] at hgl;walk_at "d";exact q gs p hgs (by omega) (by omega) hp
def whG(w:PyData):Prop:=w=.tuple [.str "dear"]\/∃ k:Int,w=.tuple [.str "off",.int k]
theorem zlp:∀ {sz:List Nat} {b:List Int} {s:Nat} {k:Int},Bgn sz b->sz[b.length]? = some s->0<=k->k<s->Bgn sz (b++[k])
 | [],[],_,_,_,e,_,_=>by simp at e
 | s0 :: sz,[],s,k,_,e,k0,k1=>by
  simp at e;subst e;exact⟨⟨k0,k1⟩,by cases sz <;> trivial⟩
 | [],_ :: _,_,_,h,_,_,_=>by cases h
 | s0 :: sz,x :: b,s,k,h,e,k0,k1=>⟨h.1,zlp h.2 (by simpa using e) k0 k1⟩
def RT(d:PyData):Prop:=∀ b w,d=.tuple [b,w]->WT w
theorem ztr{w:PyData}(h:whG w):WT w:=by
 rcases h with rfl | ⟨k,rfl⟩
 ·exact⟨by decide +kernel,fun ds e x m=>by cases e; rw [mem_singleton.mp m]; decide +kernel⟩
 ·exact⟨(zhr (zrs (n:=0) ⟨by decide +kernel,by decide +kernel⟩ zeL)).ok,fun ds e x m=>by
   cases e;simp only [mem_cons,not_mem_nil,or_false] at m;rcases m with rfl | rfl
   ·decide +kernel
   ·rfl⟩
theorem zuv{b w:PyData}(h:WT w):RT (.tuple [b,w]):=fun b' w' e=>by cases e; exact h
theorem zpe{rows:List PyData}(hl:rows.length<=900)(h:∀ r∈rows,RT r):ThB (.list rows):=⟨fun _ e=>by cases e; exact hl,fun _ e r m b w eq=>by cases e; exact h r m b w eq⟩
theorem zlg:∀ {sz:List Nat},(∀ s∈sz,s<=2)->zaa sz<=2 ^ sz.length
 | [],_=>by decide
 | s :: sz,h=>by
  have h1:=h s mem_cons_self;have h2:=zlg (sz:=sz) fun x m=>h x (mem_cons_of_mem _ m);show s*zaa sz<=2 ^ (sz.length+1);rw [pow_succ,mul_comm];exact mul_le_mul h2 h1
end
section
variable {R:RX} {S:Sto}
theorem znI{n:Nat}(h:1<=n):zmM ("",0,(n:Int) - 1)=(List.range n).map fun k:Nat=>(k:Int):=by
 unfold zmM rng;rw [show ((n:Int) - 1 - 0+1).toNat=n by omega];simp
theorem zrE{n:Nat}(h:1<=n)(F:List (List Int)):ext F ("",0,(n:Int) - 1)=stp F n:=by
 unfold ext stp;rw [znI h];simp [map_map,Function.comp_def]
theorem zhE{sz:List Nat}(hz:Sz sz)(h1:∀ s∈sz,1<=s)(hf:zaa sz<=300)(q:R (.d (.list ((fil sz).map zU))) []):zcA [.d (szD sz)] [] R:=by
 obtain⟨h8,h4⟩:=hz;unfold zcA szD;walk_at "d"
 walk_at "n"
 walk_at "n";refine zab (fun i δ S=>∃ (u:Option XV),S=[]/\δ=[some (.d (.list (sz.map fun n:Nat=>.int n))),some (.d (.list (((sz.take i).foldl stp [[]]).map zU))),u]) ⟨_,rfl,rfl⟩ ?_ ?_
 ·rintro i d _ _ N hi ⟨u,rfl,rfl⟩ hN;obtain⟨n,en,rfl⟩:=zbG hi;have il:i<sz.length:=(List.getElem?_eq_some_iff.mp en).1;have n1:=h1 n (mem_of_getElem? en);have n4:=h4 n (mem_of_getElem? en);have pl:=zng h1 (i+1);rw [take_add_one,en] at pl;simp only [toList_some] at pl;rw [zfC] at pl;generalize hF:(sz.take i).foldl stp [[]]=F;have lF:F.length=zaa (sz.take i):=by rw [<- hF,zkQ]
  have F1:1<=F.length:=by rw [lF]; exact zc8 fun x m=>h1 x (mem_of_mem_take m)
  walk_at "d";refine⟨⟨by omega,by omega⟩,?_⟩;have ei:zfb 0 ((n:Int)).toNat=(zmM ("",0,(n:Int) - 1)).map PyData.int:=by
   rw [znI n1,map_map,Int.toNat_natCast];simp [zfb]
  rw [ei];have es:=zrE n1 F;refine zhG (by rw [es]; unfold stp; rw [zdl (n:=n) (fun x _=>by simp),lF]; omega) (fun a ma=>?_) F1 ?_
  ·have ea:F=fil (sz.take i):=by rw [<- hF]; exact zdS _
   rw [ea] at ma;have:=(zcq.mp ma).1;rw [length_take] at this;omega
  ·rw [es];have e5:(sz.take (i+1)).foldl stp [[]]=stp F n:=by
    rw [take_add_one,en,<- hF];exact zi5 _ _
   exact hN _ _ ⟨_,rfl,by rw [e5]⟩
 ·rintro _ _ ⟨u,rfl,rfl⟩;rw [length_map,take_length];walk_at "d";have:=zdS sz;rw [<- this] at q;exact q
theorem zh7{sz:List Nat}(hz:Sz sz)(hf:zaa sz<=300)(q:R (.d .none) []):zaR [.d (szD sz)] [] R:=by
 unfold zaR;walk_at "d"
 walk_at "n"
 refine zb5 hz (by simp) ?_;walk_at "d";rw [drop_zero,if_neg (by omega)];exact q
theorem zkO:∀ {sz:List Nat} {z:List Int},z.length=sz.length->((∀ i,i<sz.length->0<=z.getD i 0/\z.getD i 0<(sz.getD i 0:Int))↔Bgn sz z)
 | [],[],_=>⟨fun _=>trivial,fun _ i hi=>by simp at hi⟩
 | [],_ :: _,h=>by simp at h
 | _ :: _,[],h=>by simp at h
 | s :: sz,k :: z,h=>by
  have ih:=zkO (sz:=sz) (z:=z) (by simpa using h);constructor
  ·intro q;refine⟨by simpa using q 0 (by simp),ih.mp fun i hi=>by simpa using q (i+1) (by simpa using hi)⟩
  ·rintro⟨q0,q⟩ i hi;cases i with
   | zero=>simpa using q0
   | succ i=>simpa using ih.mpr q i (by simpa using hi)
theorem zlh{sz:List Nat}{z:List Int}:z∈fil sz↔z.length=sz.length/\∀ i,i<sz.length->0<=z.getD i 0/\z.getD i 0<(sz.getD i 0:Int):=by
 rw [zcq];constructor
 ·rintro⟨h1,h2⟩;exact⟨h1,(zkO h1).mpr h2⟩
 ·rintro⟨h1,h2⟩;exact⟨h1,(zkO h1).mp h2⟩
end
section
variable {R:RX} {S:Sto}
theorem zgG{b:List Int}{ns:List Int}(hl:ns.length<=1000)(bl:b.length<=100)(q:R (.d (.list ((ns.map fun k=>b++[k]).map zU))) []):zaZ [.d (.list [zU b]),.d (.list (ns.map PyData.int))] [] R:=by
 unfold zaZ;walk_at "d"
 walk_at "n"
 walk_at "n";refine zab (fun j δ S=>∃ (u:Option XV),S=[(([b].take j).flatMap fun a=>ns.map fun k=>a++[k]).map zU]/\δ=[some (.d (.list [zU b])),some (.d (.list (ns.map PyData.int))),some (.l 0),u]) ⟨_,rfl,rfl⟩ ?_ ?_
 ·rintro j d _ _ N hj ⟨u,rfl,rfl⟩ hN;have j0:j=0:=by
   have:=(List.getElem?_eq_some_iff.mp hj).1;simp at this;omega
  subst j0;obtain rfl:zU b=d:=by simpa using hj
  rw [zU];walk_at "d";refine cmp1 (S0:=[(([b].take 0).flatMap fun a=>ns.map fun k=>a++[k]).map zU]) (fun x:Int=>zU (b++[x])) rfl ns (by omega) ?_ ?_
  ·intro x mx u acc R' hk;walk_at "d";refine⟨by omega,?_⟩;rw [zjB];exact hk _
  ·walk_at "d";refine⟨by simp; omega,hN _ _ ⟨_,?_,rfl⟩⟩;simp [map_map,Function.comp_def]
 ·rintro _ _ ⟨u,rfl,rfl⟩;walk_at "d";refine .inl ?_;simpa using q
def zfr{α:Type}:List (Option (List α))->Option (List α)
 | []=>some []
 | none :: _=>none
 | some x :: l=>(zfr l).map fun y=>x++y
theorem zk8{α:Type}:∀ (l m:List (Option (List α))),zfr (l++m)=(zfr l).bind fun x=>(zfr m).map fun y=>x++y
 | [],m=>by simp [zfr]
 | none :: l,m=>by simp [zfr]
 | some x :: l,m=>by
  simp only [cons_append,zfr];rw [zk8 l m];cases zfr l with
  | none=>rfl
  | some a =>
   cases zfr m with
   | none=>rfl
   | some c=>simp
theorem zn8{α:Type}(l m:List (Option (List α))):zfr (zfr l :: m)=zfr (l++m):=by
 rw [zk8];cases zfr l <;> rfl
abbrev Rwp:=List Int×PyData
def rwF(wf:List Int->Option PyData):List Nat->List Int->Option (List Rwp)
 | [],b=>(wf b).map fun w=>[(b,w)]
 | s :: r,b=>match wf b with
  | some w=>some [(b,w)]
  | none=>zfr ((List.range s).map fun k:Nat=>rwF wf r (b++[(k:Int)]))
theorem zvc{wf:List Int->Option PyData}{r:List Nat}{b:List Int}{w:PyData}(h:wf b=some w):rwF wf r b=some [(b,w)]:=by
 cases r <;> simp [rwF,h]
def ndS:List Nat->Nat
 | []=>1
 | s :: r=>1+s*ndS r
theorem zjP{α:Type}(c:Nat):∀ l:List α,(l.map fun _=>c).sum=l.length*c
 | []=>by simp
 | x :: l=>by rw [map_cons,sum_cons,zjP c l,length_cons,succ_mul]; omega
theorem zuo:∀ l:List Nat,1<=ndS l
 | []=>le_refl _
 | s :: r=>by unfold ndS; omega
def zoI(p:Rwp):PyData:=.tuple [zU p.1,p.2]
def whD:Option PyData->PyData
 | none=>.none
 | some w=>w
def zv7:Option (List Rwp)->PyData
 | none=>.none
 | some rows=>.list (rows.map zoI)
theorem zee{α β:Type}{f:β->Option (List α)}:∀ {l:List β} {rows:List α},zfr (l.map f)=some rows->(∀ k∈l,∃ y,f k=some y)/\rows=l.flatMap fun k=>(f k).getD []
 | [],rows,h=>by
  simp only [map_nil,zfr,Option.some.injEq] at h;subst h;simp
 | k :: l,rows,h=>by
  simp only [map_cons] at h;cases e:f k with
  | none=>rw [e] at h; simp [zfr] at h
  | some x =>
   rw [e] at h;simp only [zfr,map_eq_some_iff] at h;obtain⟨y,hy,rfl⟩:=h;obtain⟨h1,h2⟩:=zee hy;refine⟨fun j m=>?_,?_⟩
   ·rcases mem_cons.mp m with rfl | m
    ·exact⟨x,e⟩
    ·exact h1 j m
   ·simp [e,h2]
theorem zjL{α β:Type}{f:β->Option (List α)}:∀ {l:List β},(∀ k∈l,(f k).isSome=true)->(zfr (l.map f)).isSome=true
 | [],_=>rfl
 | k :: l,h=>by
  obtain⟨x,e⟩:=isSome_iff_exists.mp (h k mem_cons_self);simp only [map_cons,e,zfr,isSome_map];exact zjL fun j m=>h j (mem_cons_of_mem _ m)
theorem zoe{α β:Type}{f:β->Option (List α)}{l:List β}{k:β}(m:k∈l)(h:f k=none):zfr (l.map f)=none:=by
 cases e:zfr (l.map f) with
 | none=>rfl
 | some rows =>
  obtain⟨y,ey⟩:=(zee e).1 k m;rw [h] at ey;cases ey
section
variable {wf:List Int->Option PyData}
theorem zkz:∀ {r:List Nat} {b:List Int} {rows:List Rwp},rwF wf r b=some rows->∀ p∈rows,wf p.1=some p.2/\∃ z,p.1=b++z/\Bgn r z
 | [],b,rows,h,p,m=>by
  simp only [rwF,map_eq_some_iff] at h;obtain⟨w,hw,rfl⟩:=h;rw [mem_singleton.mp m];exact⟨hw,[],by simp,trivial⟩
 | s :: r,b,rows,h,p,m=>by
  simp only [rwF] at h;cases e:wf b with
  | some w =>
   rw [e] at h;cases h;rw [mem_singleton.mp m];exact⟨e,[],by simp,trivial⟩
  | none =>
   rw [e] at h;obtain⟨h1,h2⟩:=zee h;rw [h2,mem_flatMap] at m;obtain⟨k,mk,m⟩:=m;obtain⟨y,ey⟩:=h1 k mk;rw [ey] at m;obtain⟨q1,z,q2,q3⟩:=zkz ey p m;refine⟨q1,(k:Int) :: z,by rw [q2]; simp,⟨by omega,?_⟩,q3⟩;have:=mem_range.mp mk;omega
theorem zjQ:∀ {r:List Nat} {b:List Int} {rows:List Rwp},rwF wf r b=some rows->∀ z∈fil r,∃ p∈rows,p.1 <+: b++z
 | [],b,rows,h,z,m=>by
  simp only [rwF,map_eq_some_iff] at h;obtain⟨w,hw,rfl⟩:=h;exact⟨_,mem_singleton.mpr rfl,List.prefix_append _ _⟩
 | s :: r,b,rows,h,z,m=>by
  simp only [rwF] at h;cases e:wf b with
  | some w =>
   rw [e] at h;cases h;exact⟨_,mem_singleton.mpr rfl,List.prefix_append _ _⟩
  | none =>
   rw [e] at h;obtain⟨h1,h2⟩:=zee h;unfold fil at m;rw [mem_flatMap] at m;obtain⟨k,mk,m⟩:=m;obtain⟨z',mz,rfl⟩:=mem_map.mp m;obtain⟨y,ey⟩:=h1 k mk;obtain⟨p,mp,hp⟩:=zjQ ey z' mz;refine⟨p,?_,by simpa using hp⟩;rw [h2,mem_flatMap];exact⟨k,mk,by rw [ey]; exact mp⟩
theorem zlJ:∀ {r:List Nat} {b:List Int},(∀ z∈fil r,(wf (b++z)).isSome=true)->(rwF wf r b).isSome=true
 | [],b,h=>by
  have:=h [] (by simp [fil]);simp only [rwF,isSome_map];simpa using this
 | s :: r,b,h=>by
  simp only [rwF];cases e:wf b with
  | some w=>rfl
  | none =>
   refine zjL fun k mk=>zlJ fun z mz=>?_;have:=h ((k:Int) :: z) (by unfold fil; rw [mem_flatMap]; exact⟨k,mk,mem_map_of_mem mz⟩);simpa using this
theorem zlw:∀ {r:List Nat} {b z:List Int},z∈fil r->(∀ j,wf (b++z.take j)=none)->rwF wf r b=none
 | [],b,z,m,h=>by
  have:=h 0;simp only [rwF];rw [take_zero,append_nil] at this;rw [this];rfl
 | s :: r,b,z,m,h=>by
  have h0:=h 0;rw [take_zero,append_nil] at h0;simp only [rwF,h0];unfold fil at m;rw [mem_flatMap] at m;obtain⟨k,mk,m⟩:=m;obtain⟨z',mz,rfl⟩:=mem_map.mp m;refine zoe (f:=fun k:Nat=>rwF wf r (b++[(k:Int)])) mk (zlw mz fun j=>?_);have:=h (j+1);simpa using this
theorem zoc:∀ (b x y:List Int),HT.lexLt (b++x) (b++y)=true↔HT.lexLt x y=true
 | [],x,y=>Iff.rfl
 | a :: b,x,y=>by
  rw [cons_append,cons_append,zgX];constructor
  ·rintro(h | ⟨_,h⟩)
   ·omega
   ·exact(zoc b x y).mp h
  ·intro h;exact .inr ⟨rfl,(zoc b x y).mpr h⟩
def Lxp(x y:List Int):Prop:=HT.lexLt x y=true/\x.isPrefixOf y=false
theorem zqD:∀ {r:List Nat} {b:List Int} {rows:List Rwp},rwF wf r b=some rows->rows.Pairwise fun p q=>Lxp p.1 q.1
 | [],b,rows,h=>by
  simp only [rwF,map_eq_some_iff] at h;obtain⟨w,hw,rfl⟩:=h;exact List.pairwise_singleton _ _
 | s :: r,b,rows,h=>by
  simp only [rwF] at h;cases e:wf b with
  | some w =>
   rw [e] at h;cases h;exact List.pairwise_singleton _ _
  | none =>
   rw [e] at h;obtain⟨h1,h2⟩:=zee h;rw [h2,List.pairwise_flatMap];have at_:∀ k∈List.range s,∀ p∈(rwF wf r (b++[(k:Int)])).getD [],∃ z,p.1=b++(k:Int) :: z:=fun k mk p mp=>by
    obtain⟨y,ey⟩:=h1 k mk;rw [ey] at mp;obtain⟨_,z,q2,_⟩:=zkz ey p mp;exact⟨z,by rw [q2]; simp⟩
   refine⟨fun k mk=>?_,?_⟩
   ·obtain⟨y,ey⟩:=h1 k mk;rw [ey];exact zqD ey
   ·refine List.Pairwise.imp_of_mem (fun {k1 k2} m1 m2 hk p mp q mq=>?_) List.pairwise_lt_range;obtain⟨z1,e1⟩:=at_ k1 m1 p mp;obtain⟨z2,e2⟩:=at_ k2 m2 q mq;have hk:k1<k2:=hk;rw [e1,e2];refine⟨(zoc _ _ _).mpr ((zgX _ _ _ _).mpr (.inl (by omega))),?_⟩;cases hp:(b++(k1:Int) :: z1).isPrefixOf (b++(k2:Int) :: z2) with
    | false=>rfl
    | true =>
     have:=isPrefixOf_iff_prefix.mp hp;rw [List.prefix_append_right_inj] at this;have:=(List.cons_prefix_cons.mp this).1;omega
theorem zrf:∀ {B:List (List Int)},B.Pairwise Lxp->zie B=true
 | [],_=>rfl
 | [_],_=>rfl
 | x :: y :: r,h=>by
  rw [List.pairwise_cons] at h;have hy:=h.1 y mem_cons_self;simp only [zie,Bool.and_eq_true];exact⟨⟨hy.1,by rw [hy.2]; rfl⟩,zrf h.2⟩
end
theorem zo7(s:Nat)(h:1<=s):zmN ((s:Int) - 1) (((s:Int) - 1) - (-1)).toNat=((List.range s).reverse.map fun k:Nat=>(k:Int)).map PyData.int:=by
 rw [show ((s:Int) - 1 - -1).toNat=s by omega];apply List.ext_getElem
 ·simp [zmN]
 ·intro i h1 h2;have hi:i<s:=by simpa [zmN] using h1
  simp [zmN];omega
theorem zjO{α:Type}{l:List α}{n:Nat}{x:α}(h:l[n]? = some x):l.drop n=x :: l.drop (n+1):=by
 obtain⟨hn,e⟩:=List.getElem?_eq_some_iff.mp h;rw [drop_eq_getElem_cons hn,e]
theorem zfM{sz:List Nat}{wf:List Int->Option PyData}{F:Addr}{ql:PN}(hz:Sz sz)(h1:∀ s∈sz,1<=s)(hf:zaa sz<=300)(hn:∀ b w,wf b=some w->w≠.none)
  (hw:∀ b,Bgn sz b->∀ R':RX,R' (.d (whD (wf b))) []->ql [.d (zU b)] [] R') (q:R (.d (zv7 (rwF wf sz []))) []):zbE F ql [.d (szD sz),.o (.ref F)] [] R:=by
 obtain⟨h8,h4⟩:=hz;have pos:∀ n,1<=zaa (sz.drop n):=fun n=>zc8 fun x m=>h1 x (mem_of_mem_drop m);unfold zbE szD;walk_at "d"
 walk_at "n"
 walk_at "n"
 walk_at "n";refine⟨fun m δ S=>∃ (st:List (List Int)) (rows:List Rwp) (u v:Option XV),(∀ b∈st,Bgn sz b)/\m=(st.map fun b=>ndS (sz.drop b.length)).sum/\rows.length+(st.map fun b=>zaa (sz.drop b.length)).sum<=300 /\
   (zfr (st.reverse.map fun b=>rwF wf (sz.drop b.length) b)).map (fun y=>rows++y)=rwF wf sz [] /\
   S=[rows.map zoI,st.map zU]/\δ=[some (.d (.list (sz.map fun n:Nat=>.int n))),some (.o (.ref F)),some (.l 0),some (.l 1),u,v],⟨_,[[]],[],none,none,?_,rfl,?_,?_,rfl,rfl⟩,?_⟩
 ·intro b m;rw [mem_singleton.mp m];cases sz <;> trivial
 ·simpa using hf
 ·simp only [reverse_cons,List.reverse_nil,nil_append,map_cons,map_nil,zfr,length_nil,drop_zero];cases rwF wf sz [] <;> simp [zfr]
 ·rintro m _ _ ⟨st,rows,u,v,hb,rfl,hl,hq,rfl,rfl⟩;walk_at "d";rcases List.eq_nil_or_concat st with rfl | ⟨st',b,rfl⟩
  ·simp only [map_nil,List.isEmpty_nil,Bool.true_eq_false,if_false];refine .inl ?_;simp only [List.reverse_nil,map_nil,zfr,map_some,append_nil] at hq;rw [<- hq] at q;exact q
  ·rw [List.concat_eq_append] at *;rw [if_pos (by simp)];have hbb:=hb b (by simp);have hb':∀ c∈st',Bgn sz c:=fun c m=>hb c (by simp [m]);have bl:=zcM hbb;rw [List.reverse_append,List.reverse_singleton,List.singleton_append,map_cons] at hq;rw [map_append,sum_append] at hl ⊢;simp only [map_cons,map_nil,sum_cons,List.sum_nil,Nat.add_zero] at hl ⊢;have pb:=pos b.length;refine⟨_,fun _ _ h=>h,?_⟩;walk_at "d"
   walk_at "n"
   refine⟨zU b,by simp,?_⟩;have edl:(List.map zU (st'++[b])).dropLast=st'.map zU:=by simp
   rw [edl]
   walk_at "n"
   refine hw b hbb _ ?_;cases ew:wf b with
   | some w =>
    rw [zvc ew] at hq;have wn:=hn b w ew;show ret0 _ _ (.d w) [];walk_at "d";have np:=zuo (sz.drop b.length);refine⟨by omega,_,?_,st',rows++[(b,w)],_,_,hb',rfl,?_,?_,⟨by simp [zoI],rfl⟩,rfl,rfl⟩
    ·omega
    ·rw [length_append,length_singleton];omega
    ·rw [<- hq];simp only [zfr,Option.map_map];congr 1;funext y;simp
   | none =>
    show ret0 _ _ (.d .none) [];walk_at "d";have lx:∀ S,zuf S (.d (zU b))=some b.length:=fun S=>by
     unfold zU;rw [zoE,length_map]
    refine⟨_,lx _,?_⟩;by_cases hfl:b.length=sz.length
    ·rw [if_pos (by omega)];have e0:sz.drop b.length=[]:=by rw [hfl,drop_length]
     rw [e0] at hq;simp only [rwF,ew,Option.map_none,zfr] at hq;rw [<- hq] at q;exact q
    ·rw [if_neg (by omega)];have il:b.length<sz.length:=by omega
     have es:=getElem?_eq_getElem il;generalize sz[b.length]'il=s at es;have s1:=h1 s (mem_of_getElem? es);have s4:=h4 s (mem_of_getElem? es);have ed:=zjO es;refine⟨_,lx _,_,zaH es,?_⟩;walk_at "d";refine⟨_,_,⟨rfl,rfl⟩,⟨by omega,by omega⟩,⟨by decide,by decide⟩,?_⟩;rw [zo7 s s1];refine zgG (by simp; omega) (by omega) ?_;walk_at "d";have eN:∀ f:List Nat->Nat,(((List.range s).reverse.map fun k:Nat=>b++[(k:Int)]).map fun c=>f (sz.drop c.length)).sum=s*f (sz.drop (b.length+1)):=fun f=>by
      rw [map_map,map_congr_left (g:=fun _=>f (sz.drop (b.length+1))) fun k _=>by simp];rw [zjP,List.length_reverse,length_range]
     have stl:st'.length<=300:=by
      have:st'.length<=(st'.map fun b=>zaa (sz.drop b.length)).sum:=by
       clear hq hl hb hb' edl
       induction st' with
       | nil=>simp
       | cons c l ih=>simp only [length_cons,map_cons,sum_cons]; have:=pos c.length; omega
      omega
     rw [ed] at hl hq ⊢;refine⟨by simp; omega,_,?_,st'++((List.range s).reverse.map fun k:Nat=>b++[(k:Int)]),rows,_,_,?_,rfl,?_,?_,⟨rfl,by simp⟩,rfl,rfl⟩
     ·rw [map_append,sum_append,eN ndS];simp only [ndS];omega
     ·intro c m;rcases mem_append.mp m with m | m
      ·exact hb' c m
      ·obtain⟨k,mk,rfl⟩:=mem_map.mp m;have:=mem_range.mp (mem_reverse.mp mk);exact zlp hbb es (by omega) (by omega)
     ·rw [map_append,sum_append,eN zaa];simp only [zaa] at hl;omega
     ·rw [<- hq];simp only [rwF,ew];rw [zn8,List.reverse_append,map_append];congr 3;rw [<- List.map_reverse,List.reverse_reverse,map_map];refine map_congr_left fun k _=>?_;simp
end
section
variable {R:RX} {S:Sto}
def Rsg(l:List Trm):Prop:=∀ i j:Nat,i<=j->j<=l.length->(way l i).1<=(way l j).1/\(way l i).2<=(way l j).2
theorem ziD{l:List Trm}{x:Trm}{i:Nat}(h:i<=l.length):way (l++[x]) i=way l i:=by
 unfold way wys;rw [Int.toNat_natCast,<- cons_append,getD_eq_getElem?_getD,getD_eq_getElem?_getD,getElem?_append_left (by simp; omega)]
theorem zgs{l:List Trm}{x:Trm}:way (l++[x]) ((l.length+1:Nat):Int)=x:=by
 unfold way wys;rw [Int.toNat_natCast,<- cons_append,getD_eq_getElem?_getD,getElem?_append_right (by simp)];simp
theorem zk2(l:List Trm):way l ((0:Nat):Int)=(0,0):=rfl
theorem zrH:Rsg []:=fun i j h1 h2=>by
 have:i=j:=by simp at h2; omega
 subst this;exact⟨Int.le_refl _,Int.le_refl _⟩
theorem zk4{l:List Trm}{x:Trm}(h:Rsg l)(hx:(way l l.length).1<=x.1/\(way l l.length).2<=x.2):Rsg (l++[x]):=fun i j h1 h2=>by
 rw [length_append,length_singleton] at h2;by_cases hj:j<=l.length
 ·rw [ziD (by omega),ziD hj];exact h i j h1 hj
 ·have ej:j=l.length+1:=by omega
  subst ej;rw [zgs];by_cases hi:i<=l.length
  ·rw [ziD hi];have:=h i l.length hi (le_refl _);omega
  ·have ei:i=l.length+1:=by omega
   subst ei;rw [zgs];exact⟨Int.le_refl _,Int.le_refl _⟩
theorem zlF{l:List Trm}{n i:Nat}(h:i<=n):way (l.take n) i=way l i:=by
 unfold way wys;rw [Int.toNat_natCast,getD_eq_getElem?_getD,getD_eq_getElem?_getD];cases i with
 | zero=>rfl
 | succ i=>rw [getElem?_cons_succ,getElem?_cons_succ,List.getElem?_take,if_pos (by omega)]
theorem zpl{l:List Trm}(h:Rsg l)(n:Nat):Rsg (l.take n):=fun i j h1 h2=>by
 rw [length_take] at h2;rw [zlF (by omega),zlF (by omega)];exact h i j h1 (by omega)
theorem znN{l:List Trm}{k:Int}(h:Rsg l)(k0:0<=k)(k1:k<=l.length):0<=(way l k).1/\(way l k).1<=mst l/\0<=(way l k).2:=by
 obtain⟨i,rfl⟩:=Int.eq_ofNat_of_zero_le k0;have a:=h 0 i (zero_le _) (by omega);have b:=h i l.length (by omega) (le_refl _);rw [zk2] at a;rw [zmz];exact⟨a.1,b.1,a.2⟩
structure TrR(n:Nat)(tr:List (List Trm)):Prop extends Trs n tr where
 up:∀ l∈tr,Rsg l
theorem zgj{p:List PyData}{ps:List Part}(hp:zaU p)(hd:Drw ps)(q:∀ tr p',TrR ps.length tr->zaU p'->R (.d (zbD tr)) [p']):zca [.l 0,.d (zdf ps)] [p] R:=by
 have l8:=hd.l8;unfold zca;rw [zdf];walk_at "d"
 walk_at "n"
 walk_at "n"
 refine zab (fun i δ S=>∃ (p:List PyData) (tr:List (List Trm)) (T:Sto) (u3 u4 u5 u6 u7:Option XV),S=p :: tr.map zfq :: T/\zaU p/\tr.length=i/\(∀ l∈tr,l.length<=3/\Rsg l)/\δ=[some (.l 0),some (.d (.tuple (ps.map zlP))),some (.l 1),u3,u4,u5,u6,u7]) ⟨p,[],[],none,none,none,none,none,rfl,hp,rfl,by simp,rfl⟩ ?_ ?_
 ·rintro i d _ _ N hi ⟨p,tr,T,u3,u4,u5,u6,u7,rfl,hp,htl,htr,rfl⟩ hN;have il:i<ps.length:=by
   have:=(List.getElem?_eq_some_iff.mp hi).1;simpa using this
  walk_at "d"
  walk_at "n"
  walk_at "n"
  walk_at "n"
  walk_at "n"
  refine zy hp dz (by decide +kernel) fun r p1 r0 r1 hp1=>?_;walk_at "d";refine zab (fun j δ S=>∃ (p:List PyData) (row:List Trm) (m pr:Int) (u7:Option XV),S=p :: tr.map zfq :: (T++[row.map zf7])/\zaU p/\row.length=j/\Rsg row/\way row row.length=(m,pr)/\δ=[some (.l 0),some (.d (.tuple (ps.map zlP))),some (.l 1),some (.d d),some (.l (T.length+1+1)),some (.d (.int m)),some (.d (.int pr)),u7]) ⟨p1,[],0,0,_,rfl,hp1,rfl,zrH,rfl,rfl⟩ ?_ ?_
  ·rintro j e _ _ N hj ⟨p,row,m,pr,u7,rfl,hp,hrow,hsg,hlast,rfl⟩ hN;obtain⟨hj',rfl⟩:=zbs hj;walk_at "d"
   walk_at "n"
   refine⟨⟨by decide,by decide,by decide⟩,?_⟩;refine zy hp dz (by decide +kernel) fun r2 p2 r20 r21 hp2=>?_;obtain⟨d2,ed2,n2,rfl,n20,n21⟩:=zpu (P:=fun d=>∃ n:Int,d=.int n/\0<n/\n.natAbs.log2<9000) (ds:=[PyData.int 3,.int 3,.int 3,.int ((10:Int) ^ (20:Int).toNat)]) r20 (by simpa using r21) (by
    intro d m;simp only [mem_cons,not_mem_nil,or_false] at m;rcases m with rfl | rfl | rfl | rfl
    ·exact⟨3,rfl,by decide,by decide +kernel⟩
    ·exact⟨3,rfl,by decide,by decide +kernel⟩
    ·exact⟨3,rfl,by decide,by decide +kernel⟩
    ·exact⟨_,rfl,by decide,by decide +kernel⟩)
   walk_at "d";refine⟨_,ed2,?_⟩;refine zy hp2 n20 n21 fun r3 p3 r30 r31 hp3=>?_;walk_at "d"
   walk_at "n"
   refine zy hp3 dz (by decide +kernel) fun r4 p4 r40 r41 hp4=>?_;have gl:(T++[row.map zf7])[T.length]? = some (row.map zf7):=by simp
   have sl:∀ x,(T++[row.map zf7]).set T.length x=T++[x]:=fun x=>by simp
   walk_at "d";refine⟨by omega,row.map zf7,gl,by simp; omega,?_⟩;rw [sl];refine hN _ _ ⟨p4,row++[(m+1+r3,pr+1+r4)],_,_,_,by simp [zf7],hp4,by simp [hrow],zk4 hsg ?_,?_,rfl⟩
   ·rw [hlast];constructor
    ·show m<=m+1+r3;omega
    ·show pr<=pr+1+r4;omega
   ·rw [length_append,length_singleton];exact zgs
  ·rintro _ _ ⟨p,row,m,pr,u7,rfl,hp,hrow,hsg,hlast,rfl⟩;rw [zap] at hrow;walk_at "d";refine⟨by omega,_,by simp; rfl,by omega,hN _ _ ⟨p,tr++[row],_,_,_,_,_,_,by simp [zfq]; rfl,hp,by simp [htl],fun l ml=>?_,rfl⟩⟩;rcases mem_append.mp ml with ml | ml
   ·exact htr l ml
   ·rw [mem_singleton.mp ml];exact⟨by omega,hsg⟩
 ·rintro _ _ ⟨p,tr,T,u3,u4,u5,u6,u7,rfl,hp,htl,htr,rfl⟩;walk_at "d";exact q tr p ⟨⟨by simpa using htl,fun l m=>(htr l m).1,l8⟩,fun l m=>(htr l m).2⟩ hp
theorem zo8{n:Nat}{tr:List (List Trm)}{z:List Int}(ht:TrR n tr)(hz:Bgn (szT tr) z)(j:Nat):prc tr (z.take j)<=prc tr (z.take (j+1)):=by
 cases e:z[j]? with
 | none =>
  have:=List.getElem?_eq_none_iff.mp e;rw [take_of_length_le this,take_of_length_le (by omega)];exact Int.le_refl _
 | some k =>
  have hj:=(List.getElem?_eq_some_iff.mp e).1;have bl:=zcM hz;have jl:j<tr.length:=by simp [szT] at bl; omega
  have et:=getElem?_eq_getElem jl;rw [zlq et e];have hk:=zeu hz e (s:=(tr[j]).length+1) (by unfold szT; rw [getElem?_map,et]; rfl);have:=znN (ht.up _ (getElem_mem jl)) hk.1 (by omega);omega
theorem zob{n:Nat}{tr:List (List Trm)}{z:List Int}(ht:TrR n tr)(hz:Bgn (szT tr) z):∀ (d j:Nat),j+d=z.length->prc tr (z.take j)<=prc tr z
 | 0,j,h=>by rw [take_of_length_le (by omega)]; exact Int.le_refl _
 | d+1,j,h=>by
  have:=zob ht hz d (j+1) (by omega);have:=zo8 ht hz j;omega
theorem zsW{n:Nat}{tr:List (List Trm)}{z:List Int}(ht:TrR n tr)(hz:Bgn (szT tr) z)(j:Nat):prc tr (z.take j)<=prc tr z:=by
 by_cases h:j<=z.length
 ·exact zob ht hz (z.length - j) j (by omega)
 ·rw [take_of_length_le (by omega)];exact Int.le_refl _
theorem zqE{ns:List Int}{tr:List (List Trm)}{z:List Int}{i:Nat}{x k:Int}{l:List Trm}(e1:ns[i]? = some x)(e2:tr[i]? = some l)(e3:z[i]? = some k):(fld ns tr z).getD i 0=x - (way l k).1:=by
 unfold fld;rw [getD_eq_getElem?_getD,getElem?_map,(getElem?_zip_eq_some (z:=(x,(l,k)))).mpr ⟨e1,(getElem?_zip_eq_some (z:=(l,k))).mpr ⟨e2,e3⟩⟩];rfl
section
variable {n:Nat} {ps:List Part} {gs:List Gap} {ns:List Int} {tr:List (List Trm)} {price:Int}
theorem zow(ht:TrR n tr)(h0:ps.length=tr.length)(h1:ns.length=tr.length){z:List Int}(hz:z∈fil (szT tr))(j:Nat):InBox (lft ps ns tr (z.take j)) (fld ns tr z)/\(z.length<=j->∀ k,k<ps.length->plo (lft ps ns tr (z.take j)) k=phi (lft ps ns tr (z.take j)) k):=by
 obtain⟨hl,hb⟩:=zcq.mp hz;have zl:z.length=tr.length:=by rw [hl]; simp [szT]
 have tl:(z.take j).length<=tr.length:=by rw [length_take]; omega
 have key:∀ k,k<ps.length->(plo (lft ps ns tr (z.take j)) k<=(fld ns tr z).getD k 0/\(fld ns tr z).getD k 0<=phi (lft ps ns tr (z.take j)) k)/\(z.length<=j->plo (lft ps ns tr (z.take j)) k=phi (lft ps ns tr (z.take j)) k):=fun k hk=>by
  have e1:=getElem?_eq_getElem (show k<ns.length by omega);have e2:=getElem?_eq_getElem (show k<tr.length by omega);have e3:=getElem?_eq_getElem (show k<z.length by omega);obtain⟨a1,a2⟩:=zqs h0 h1 tl e1 e2;have hw:=zeu hb e3 (s:=(tr[k]'(by omega)).length+1) (by unfold szT; rw [getElem?_map,e2]; rfl);have hr:=znN (ht.up _ (getElem_mem (show k<tr.length by omega))) hw.1 (by omega);rw [zqE e1 e2 e3];by_cases kj:k<j
  ·obtain⟨q1,q2⟩:=a1 _ (by rw [List.getElem?_take,if_pos kj]; exact e3);rw [q1,q2];exact⟨⟨Int.le_refl _,Int.le_refl _⟩,fun _=>rfl⟩
  ·obtain⟨q1,q2⟩:=a2 (by rw [List.getElem?_take,if_neg kj]);rw [q1,q2];exact⟨by omega,fun z=>by omega⟩
 have ll:=zfK (ps:=ps) (ns:=ns) (tr:=tr) (b:=z.take j) h0 h1 tl;have fl:=zey (ns:=ns) (tr:=tr) (b:=z) h1 (by omega);exact⟨⟨by rw [ll,fl]; omega,fun k hk=>(key k (by omega)).1⟩,fun hj k hk=>(key k hk).2 hj⟩
def zhn(gs:List Gap)(ms:List Int):Bool:=gs.all fun g=>zdA g ms
def wfB(ps:List Part)(gs:List Gap)(ns:List Int)(tr:List (List Trm))(price:Int)(b:List Int):Option PyData :=
 if price<=prc tr b then some (.tuple [.str "dear"]) else (gs.findIdx? (zfv (lft ps ns tr b))).map fun k:Nat=>.tuple [.str "off",.int k]
theorem zpM(ht:TrR n tr)(h0:ps.length=tr.length)(h1:ns.length=tr.length)(hg:GsT ps.length gs){z:List Int}(hz:z∈fil (szT tr))(hd:zhn gs (fld ns tr z)=true)(hp:prc tr z<price)(j:Nat):wfB ps gs ns tr price (z.take j)=none:=by
 have hb:=(zcq.mp hz).2;have h2:=zsW ht hb j;have tl:(z.take j).length<=tr.length:=by have:=zcM hb; simp [szT] at this; rw [length_take]; omega
 unfold wfB;rw [if_neg (by omega),Option.map_eq_none_iff,List.findIdx?_eq_none_iff];intro g mg;have hk:=all_eq_true.mp hd g mg;have ib:=(zow (ps:=ps) ht h0 h1 hz j).1;have hl:=ziH ib (ts:=g.ts) (by rw [zfK h0 h1 tl]; exact hg.t3 g mg);unfold zdA at hk;have hk:=of_decide_eq_true hk;unfold zfv;rw [decide_eq_false_iff_not];omega
theorem zpO(ht:TrR n tr)(h0:ps.length=tr.length)(h1:ns.length=tr.length)(hg:GsT ps.length gs){z:List Int}(hz:z∈fil (szT tr))(h:zhn gs (fld ns tr z)=true->price<=prc tr z):(wfB ps gs ns tr price z).isSome=true:=by
 have hb:=(zcq.mp hz).2;have zl:z.length=tr.length:=by rw [(zcq.mp hz).1]; simp [szT]
 unfold wfB;by_cases hp:price<=prc tr z
 ·rw [if_pos hp]; rfl
 ·rw [if_neg hp,isSome_map];cases hd:zhn gs (fld ns tr z) with
  | true=>exact absurd (h hd) hp
  | false =>
   have:∃ g∈gs,zdA g (fld ns tr z)=false:=by
    unfold zhn at hd;rw [List.all_eq_false] at hd;obtain⟨g,mg,e⟩:=hd;exact⟨g,mg,by simpa using e⟩
   obtain⟨g,mg,e⟩:=this;rw [List.findIdx?_isSome,any_eq_true];refine⟨g,mg,?_⟩;obtain⟨ib,pt⟩:=zow (ps:=ps) ht h0 h1 hz z.length;rw [take_length] at ib pt;have t3:=hg.t3 g mg;have hl:=ziH ib (ts:=g.ts) (by rw [zfK h0 h1 (by omega)]; exact t3);have lm:=zl3 (ps:=lft ps ns tr z) (ts:=g.ts) fun t m=>pt (le_refl _) t.1 (t3.ok t m).1;unfold zdA at e;rw [decide_eq_false_iff_not] at e;unfold zfv;rw [decide_eq_true_eq];omega
theorem zrq{b:List Int}{w:PyData}(h:wfB ps gs ns tr price b=some w):whG w/\zkf ps gs ns tr price b w=true:=by
 unfold wfB at h;by_cases hp:price<=prc tr b
 ·rw [if_pos hp] at h;cases h;refine⟨.inl rfl,?_⟩;rw [zvg (by rfl)];exact decide_eq_true hp
 ·rw [if_neg hp,map_eq_some_iff] at h;obtain⟨k,hk,rfl⟩:=h;refine⟨.inr ⟨k,rfl⟩,?_⟩;obtain⟨h1,h2,_⟩:=List.findIdx?_eq_some_iff_getElem.mp hk;unfold zkf;rw [if_neg (fun h=>by cases (show false=true from h))];show (decide (("off":Str) = "off") && ztX ps gs ns tr b (.int k))=true;rw [ziF];have e:zqN gs (k:Int)=gs[k]:=by
   unfold zqN;rw [Int.toNat_natCast,getD_eq_getElem?_getD,getElem?_eq_getElem h1];rfl
  rw [e,h2];simp;omega
theorem zoT{rows:List Rwp}(hl:rows.length<=900)(hr:rwF (wfB ps gs ns tr price) (szT tr) []=some rows):zpG ps gs ns tr price (.list (rows.map zoI))=true/\ThB (.list (rows.map zoI)):=by
 have mem:=zkz hr;have bg:∀ p∈rows,Bgn (szT tr) p.1:=fun p m=>by
  obtain⟨_,z,e,hz⟩:=mem p m;rw [e];exact hz
 constructor
 ·rw [zhk,zhN,Bool.and_eq_true,Bool.and_eq_true];have e1:(rows.map zoI).map fs1=rows.map fun p=>zU p.1:=by rw [map_map]; rfl
  have e2:(rows.map fun p=>zU p.1).map bgO=rows.map (·.1):=by
   rw [map_map];exact map_congr_left fun p _=>zdN p.1
  refine⟨⟨?_,?_⟩,?_⟩
  ·rw [all_map,all_eq_true];intro p _;rfl
  ·rw [e1];unfold zoR;rw [e2,Bool.and_eq_true,Bool.and_eq_true];have ad:zie (rows.map (·.1))=true:=zrf (List.pairwise_map.mpr (zqD hr));refine⟨?_,ad,?_⟩
   ·rw [all_map,all_eq_true];intro p m;exact zgI.mpr ⟨p.1,rfl,bg p m⟩
   ·rw [decide_eq_true_eq];refine(zjb (fun b m=>?_) ad).mpr fun z hz=>?_
    ·obtain⟨p,mp,rfl⟩:=mem_map.mp m;exact bg p mp
    ·obtain⟨p,mp,hp⟩:=zjQ hr z hz;exact⟨p.1,mem_map_of_mem mp,by simpa using hp⟩
  ·rw [all_map,all_eq_true];intro p m;show zkf ps gs ns tr price (bgO (zU p.1)) p.2=true;rw [zdN];exact(zrq (mem p m).1).2
 ·refine zpe (by simpa using hl) fun r m=>?_;obtain⟨p,mp,rfl⟩:=mem_map.mp m;exact zuv (ztr (zrq (mem p mp).1).1)
end
theorem zul(ns:List Int):ImD (zU ns)=true:=by
 unfold zU;rw [zjy];refine zht fun d m=>?_;obtain⟨i,_,rfl⟩:=mem_map.mp m;exact zsC
theorem zs3(ps:List Part):ImD (zdf ps)=true:=by
 unfold zdf;rw [zjy];refine zht fun d m=>?_;obtain⟨p,_,rfl⟩:=mem_map.mp m;rfl
theorem zrL(gs:List Gap):ImD (zci gs)=true:=by
 unfold zci;rw [zjy];refine zht fun d m=>?_;obtain⟨g,_,rfl⟩:=mem_map.mp m;rw [zcL,zjy];simp only [ImL,zsC,Bool.and_true];unfold zrc;rw [zjy];refine zht fun d m=>?_;obtain⟨t,_,rfl⟩:=mem_map.mp m;rfl
theorem ztx(tr:List (List Trm)):ImD (zbD tr)=true:=by
 unfold zbD;rw [zjy];refine zht fun d m=>?_;obtain⟨l,_,rfl⟩:=mem_map.mp m;rw [zbJ,zjy];refine zht fun d m=>?_;obtain⟨t,_,rfl⟩:=mem_map.mp m;rfl
theorem zga{n:Nat}{ps:List Part}{gs:List Gap}{ns:List Int}{tr:List (List Trm)}{price:Int}{b:List Int}(ht:Trs n tr)(h0:ps.length=tr.length)(h1:ns.length=tr.length)(hg:GsT ps.length gs)(gl:gs.length<=900)(hb:Bgn (szT tr) b)
  (q:R (.d (whD (wfB ps gs ns tr price b))) []):zbX [.d (.tuple [zdf ps,zci gs]),.d (zU ns),.d (zbD tr),.d (.int price),.d (zU b)] [] R:=by
 have bl:b.length<=tr.length:=by have:=zcM hb; simpa [szT] using this
 unfold zbX;walk_at "d"
 walk_at "n"
 refine zbZ ht hb ?_;walk_at "d";unfold wfB at q;by_cases hp:price<=prc tr b
 ·rw [if_pos hp] at q ⊢;walk_at "d";exact q
 ·rw [if_neg hp] at q ⊢
  walk_at "n"
  refine zcI ht hb h0 h1 ?_;unfold zci;walk_at "d";walk_at "n";refine zab (fun i δ S=>∃ (u2 u3:Option XV),S=[]/\(∀ j g,j<i->gs[j]? = some g->zfv (lft ps ns tr b) g=false)/\δ=[some (.d (.tuple [zdf ps,.tuple (gs.map zi2)])),some (.d (zU ns)),some (.d (zbD tr)),some (.d (.int price)),some (.d (zU b)),some (.d (zdf (lft ps ns tr b))),u2,u3]) ⟨_,_,rfl,by intro j g h; omega,rfl⟩ ?_ ?_
  ·rintro i d _ _ N hi ⟨u2,u3,rfl,hm,rfl⟩ hN;obtain⟨d',e1,rfl⟩:=zfa _ 0 i d hi;rw [zero_add];obtain⟨g,eg,rfl⟩:=zbG e1;have mg:=mem_of_getElem? eg;walk_at "d";refine zi6 (by rw [zfK h0 h1 bl]; exact hg.t3 g mg) (hg.le g mg) ?_;cases hg:zfv (lft ps ns tr b) g with
   | false =>
    walk_at "d";refine hN _ _ ⟨_,_,rfl,fun j g' hj e'=>?_,rfl⟩;rcases Nat.lt_or_ge j i with h1 | h1
    ·exact hm j g' h1 e'
    ·obtain rfl:j=i:=by omega
     rw [eg] at e';cases e';exact hg
   | true =>
    walk_at "d";have hf:gs.findIdx? (zfv (lft ps ns tr b))=some i:=by
     obtain⟨il,eil⟩:=List.getElem?_eq_some_iff.mp eg;refine List.findIdx?_eq_some_iff_getElem.mpr ⟨il,by rw [eil]; exact hg,fun j hj=>?_⟩;rw [hm j gs[j] hj (getElem?_eq_getElem (by omega))];decide
    rw [hf] at q;exact q
  ·rintro _ _ ⟨u2,u3,rfl,hm,rfl⟩;rw [zdK,length_map] at hm;have hf:gs.findIdx? (zfv (lft ps ns tr b))=none:=by
    refine List.findIdx?_eq_none_iff.mpr fun g m=>?_;obtain⟨j,hj,e⟩:=List.getElem_of_mem m;exact hm j g hj (by rw [getElem?_eq_getElem hj,e])
   rw [hf] at q;walk_at "d";exact q
theorem znS{n:Nat}{ps:List Part}{gs:List Gap}{ns:List Int}{tr:List (List Trm)}{price:Int}(ht:Trs n tr)(few:zaa (szT tr)<=300)(h0:ps.length=tr.length)(h1:ns.length=tr.length)(hg:GsT ps.length gs)(gl:gs.length<=900)
  (q:R (.d (zv7 (rwF (wfB ps gs ns tr price) (szT tr) []))) []):zgq [.d (.tuple [zdf ps,zci gs]),.d (zU ns),.d (zbD tr),.d (.int price)] [] R:=by
 unfold zgq;walk_at "d"
 walk_at "n"
 refine zdd ht ?_;walk_at "d";refine zgK ht ?_;walk_at "d"
 walk_at "n"
 refine zh7 (zhO ht) few ?_;walk_at "d";refine⟨_,[.tuple [zdf ps,zci gs],zU ns,zbD tr,.int price],rfl,rfl,?_,fun F=>?_⟩
 ·simp only [ImL,zsC,zjy,zul,zs3,zrL,ztx,Bool.and_self]
 ·refine zfM (wf:=wfB ps gs ns tr price) (zhO ht) zhh few (fun b w e=>?_) (fun b hb R' hR=>?_) ?_
  ·rcases(zrq e).1 with rfl | ⟨k,rfl⟩ <;> simp
  ·walk_at "d";exact zga ht h0 h1 hg gl hb hR
  ·exact q
theorem zfg{n:Nat}{ns:List Int}{tr:List (List Trm)}{b:List Int}(ht:Trs n tr)(hb:Bgn (szT tr) b)(h1:ns.length=tr.length)(hbl:b.length=tr.length)(q:R (.d (zU (fld ns tr b))) []):zbg [.d (zU ns),.d (zbD tr),.d (zU b)] [] R:=by
 have h8:=zbH ht;unfold zbg zU;walk_at "d"
 walk_at "n"
 walk_at "n"
 refine zab (fun i δ S=>∃ (ms:List Int) (u:Option XV),S=[ms.map PyData.int]/\ms=(fld ns tr b).take i++ns.drop i/\δ=[some (.d (.tuple (ns.map PyData.int))),some (.d (zbD tr)),some (.d (.tuple (b.map PyData.int))),some (.l 0),u]) ⟨ns,none,rfl,by simp,rfl⟩ ?_ ?_
 ·rintro i d _ _ N hi ⟨ms,u,rfl,hms,rfl⟩ hN;obtain⟨hi',rfl⟩:=zbs hi;have hi8:i<b.length:=by simpa using hi'
  have eb:=getElem?_eq_getElem hi8;have et:=getElem?_eq_getElem (show i<tr.length by omega);have inl:i<ns.length:=by omega
  have en:=getElem?_eq_getElem inl;have fl:=zey (ns:=ns) (tr:=tr) (b:=b) h1 (by omega);have em:ms[i]? = some (ns[i]'inl):=by
   rw [hms,getElem?_append_right (by simp; omega),length_take,List.getElem?_drop,show i+(i - min i (fld ns tr b).length)=i by omega];exact en
  have ml:ms.length=ns.length:=by rw [hms]; simp; omega
  have bb:=zeu hb eb (s:=(tr[i]'(by omega)).length+1) (by unfold szT; rw [getElem?_map,et]; rfl);have ef:=zqE en et eb;have nx:∀ x:Int,x=(fld ns tr b).getD i 0->ms.set i x=(fld ns tr b).take (i+1)++ns.drop (i+1):=fun x ex=>by
   have e1:(fld ns tr b)[i]? = some x:=by rw [ex]; exact zkr (by omega)
   rw [hms,List.set_append_right _ _ (by simp; omega),length_take,show i - min i (fld ns tr b).length=0 by omega,zjO en,set_cons_zero,zdm e1,append_assoc];rfl
  rw [Int.zero_add];walk_at "d";refine⟨_,zaH eb,?_⟩;walk_at "d";by_cases h0:0<b[i]
  ·rw [if_pos h0];unfold zbD;walk_at "d";obtain⟨c,hc⟩:=Int.eq_ofNat_of_zero_le bb.1;have hm:c - 1<(tr[i]'(by omega)).length:=by omega
   have e:(c:Int) - 1=((c - 1:Nat):Int):=by omega
   refine⟨_,zaH em,_,zaH et,_,zaH eb,?_⟩;rw [hc,zbJ];walk_at "d";rw [e];refine⟨_,zaH (getElem?_eq_getElem hm),?_⟩;rw [zdL];walk_at "d";refine⟨i,by unfold ixN; rw [if_pos (by omega),if_pos (by simp; omega)]; simp,?_⟩;rw [<- map_set];refine hN _ _ ⟨ms.set i _,_,rfl,nx _ ?_,rfl⟩;rw [ef,hc];congr 2;unfold way wys;rw [Int.toNat_natCast,getD_eq_getElem?_getD];obtain⟨c',rfl⟩:∃ c',c=c'+1:=⟨c - 1,by omega⟩;rw [getElem?_cons_succ,getElem?_eq_getElem (by omega)];rfl
  ·rw [if_neg h0];refine hN _ _ ⟨ms.set i (ns[i]'inl),_,?_,nx _ ?_,rfl⟩
   ·have:ms.set i (ns[i]'inl)=ms:=by
     obtain⟨hh,e⟩:=List.getElem?_eq_some_iff.mp em;rw [<- e];exact List.set_getElem_self hh
    rw [this]
   ·rw [ef,show b[i]=((0:Nat):Int) by omega,zk2];omega
 ·rintro _ _ ⟨ms,u,rfl,hms,rfl⟩;walk_at "d";have fl:=zey (ns:=ns) (tr:=tr) (b:=b) h1 (by omega);rw [zap] at hms;have e:ms=fld ns tr b:=by
   rw [hms,take_of_length_le (by simp; omega),List.drop_of_length_le (by simp; omega),append_nil]
  rw [e];exact q
theorem zgO{gs:List Gap}{ms:List Int}(gl:gs.length<=900)(h3:∀ g∈gs,Tm3 ms.length g.ts)(q:R (.d (.bool (zhn gs ms))) []):zc9 [.d (zci gs),.d (zU ms)] [] R:=by
 unfold zc9 zci;walk_at "d";refine cmp1 (S0:=[]) (fun g:Gap=>PyData.bool (zdA g ms)) rfl gs (by omega) ?_ ?_
 ·intro g mg u acc R' hk;rw [zcL];walk_at "d";rw [<- zcL];refine zfZ (h3 g mg) ?_;walk_at "d";unfold zdA at hk;by_cases h1:g.lo<=worth g.ts ms
  ·rw [if_pos h1];have e:decide (g.lo<=worth g.ts ms/\worth g.ts ms<=g.hi)=decide (worth g.ts ms<=g.hi):=by simp [h1]
   rw [e] at hk;exact hk _
  ·rw [if_neg h1];have e:decide (g.lo<=worth g.ts ms/\worth g.ts ms<=g.hi)=false:=by simp [h1]
   rw [e] at hk;exact hk _
 ·walk_at "d";refine⟨gs.map fun g=>zdA g ms,by rw [map_map]; rfl,?_⟩;unfold zhn at q;rw [all_map];exact q
end
section
variable {R:RX} {S:Sto}
def zc1(gs:List Gap)(ns:List Int)(tr:List (List Trm)):List (List Int):=(fil (szT tr)).filter fun z=>zhn gs (fld ns tr z)
def oD:Option Int->PyData
 | none=>.none
 | some m=>.int m
def IsL(gs:List Gap)(ns:List Int)(tr:List (List Trm)):Option Int->Prop
 | none=>zc1 gs ns tr=[]
 | some m=>(∃ z∈zc1 gs ns tr,prc tr z=m)/\∀ z∈zc1 gs ns tr,m<=prc tr z
theorem IsL.uniq{gs:List Gap}{ns:List Int}{tr:List (List Trm)}:∀ {o p:Option Int},IsL gs ns tr o->IsL gs ns tr p->o=p
 | none,none,_,_=>rfl
 | none,some m,h,⟨⟨z,mz,_⟩,_⟩=>by rw [show zc1 gs ns tr=[] from h] at mz; cases mz
 | some m,none,⟨⟨z,mz,_⟩,_⟩,h=>by rw [show zc1 gs ns tr=[] from h] at mz; cases mz
 | some m,some k,⟨⟨z,mz,e1⟩,h1⟩,⟨⟨y,my,e2⟩,h2⟩=>by
  have a:=h1 y my;have b:=h2 z mz;have:m=k:=by omega
  rw [this]
def zm3(tr:List (List Trm))(d:PyData):Int:=prc tr (bgO d)
structure TrF(n:Nat)(tr:List (List Trm)):Prop extends TrR n tr where
 few:zaa (szT tr)<=300
theorem zd0{tr:List (List Trm)}{z:List Int}(h:z∈fil (szT tr)):Bgn (szT tr) z/\z.length=tr.length:=by
 obtain⟨h1,h2⟩:=zcq.mp h;exact⟨h2,by rw [h1]; simp [szT]⟩
section
variable {n:Nat} {ps:List Part} {gs:List Gap} {ns:List Int} {tr:List (List Trm)} {price:Int}
theorem zkI(h0:ps.length=tr.length)(h1:ns.length=tr.length)(hg:GsT ps.length gs){z:List Int}(hz:z∈fil (szT tr)):∀ g∈gs,Tm3 (fld ns tr z).length g.ts:=fun g mg=>by
 rw [zey h1 (by rw [(zd0 hz).2]; exact le_refl _),(zd0 hz).2,<- h0];exact hg.t3 g mg
theorem zfh(hT:Trs n tr)(few:zaa (szT tr)<=300)(h0:ps.length=tr.length)(h1:ns.length=tr.length)(hg:GsT ps.length gs)(gl:gs.length<=100)(no:zc1 gs ns tr=[]->R (.d .none) [])
  (yes:∀ pre b post,zc1 gs ns tr=pre++b :: post->(∀ a∈pre,prc tr b<prc tr a)->(∀ a∈post,prc tr b<=prc tr a)->R (.d (zU b)) []):zbm [.d (.tuple [zdf ps,zci gs]),.d (zU ns),.d (zbD tr)] [] R:=by
 unfold zbm;walk_at "d"
 walk_at "n"
 refine zdd hT ?_;walk_at "d";refine zgK hT ?_;walk_at "d"
 walk_at "n"
 refine zh7 (zhO hT) few ?_;walk_at "d"
 walk_at "n"
 refine zhE (zhO hT) zhh few ?_;walk_at "d";refine cmf1 (S0:=[]) (h:=zU) (f:=zU) (p:=fun z=>zhn gs (fld ns tr z)) rfl (fil (szT tr)) (by rw [zdu]; omega) ?_ ?_
 ·intro z mz u acc R' hk';obtain⟨hb,zl⟩:=zd0 mz;walk_at "d";refine zlD hT hb ?_;walk_at "d";refine zjR gl (zkI h0 h1 hg mz) ?_;walk_at "d";refine⟨gs.map fun g=>zdA g (fld ns tr z),by rw [map_map]; rfl,?_⟩;rw [all_map];exact hk' _ fun _ T hT=>⟨_,rfl,hT⟩
 ·walk_at "d";refine⟨_,[.d (zbD tr)],zm3 tr,rfl,rfl,fun d md R' hR=>⟨_,rfl,[zbD tr,d],rfl,rfl,?_⟩,fun z=>no (List.map_eq_nil_iff.mp z),fun pre d post e hp hq=>?_⟩
  ·obtain⟨z,mz,rfl⟩:=mem_map.mp md;obtain⟨hb,_⟩:=zd0 (mem_filter.mp mz).1;have e:zm3 tr (zU z)=prc tr z:=by unfold zm3; rw [zdN]
   rw [e] at hR;exact zbZ hT hb hR
  ·obtain⟨p1,r1,e1,rfl,e2⟩:=List.map_eq_append_iff.mp e;obtain⟨b,q1,rfl,rfl,rfl⟩:=List.map_eq_cons_iff.mp e2;have e:∀ z,zm3 tr (zU z)=prc tr z:=fun z=>by unfold zm3; rw [zdN]
   refine yes p1 b q1 e1 (fun a ma=>?_) fun a ma=>?_
   ·have:=hp (zU a) (mem_map_of_mem ma)
    rwa [e,e] at this
   ·have:=hq (zU a) (mem_map_of_mem ma)
    rwa [e,e] at this
theorem zeJ(ht:TrF n tr)(h0:ps.length=tr.length)(h1:ns.length=tr.length)(hg:GsT ps.length gs)(gl:gs.length<=100)(q:∀ o,IsL gs ns tr o->R (.d (oD o)) []):zbl [.d (zdf ps),.d (zci gs),.d (zU ns),.d (zbD tr)] [] R:=by
 have hT:=ht.toTrs;unfold zbl;walk_at "d"
 walk_at "n"
 refine zfh hT ht.few h0 h1 hg gl (fun h=>?_) fun pre b post e hp hq=>?_
 ·walk_at "d"
  walk_at "n"
  exact q none h
 ·have mb:b∈zc1 gs ns tr:=by rw [e]; simp
  obtain⟨mf,hd⟩:=mem_filter.mp mb;obtain⟨hb,bl⟩:=zd0 mf;walk_at "d"
  walk_at "n"
  rw [if_neg (fun h=>by cases (show false=true from h))]
  walk_at "n"
  refine zfg hT hb h1 bl ?_;walk_at "d";refine zgO (by omega) (zkI h0 h1 hg mf) ?_;rw [hd];walk_at "d";refine zbZ hT hb ?_;refine q (some (prc tr b)) ⟨⟨b,mb,rfl⟩,fun z mz=>?_⟩;rw [e] at mz;rcases mem_append.mp mz with mz | mz
  ·exact Int.le_of_lt (hp z mz)
  ·rcases mem_cons.mp mz with rfl | mz
   ·exact Int.le_refl _
   ·exact hq z mz
theorem zgE(ht:TrC n tr)(h0:ps.length=tr.length)(h1:ns.length=tr.length)(hg:GsT ps.length gs)(gl:gs.length<=100)(q:∀ o,IsL gs ns tr o->R (.d (oD o)) []):zbn [.d (zci gs),.d (zU ns),.d (zbD tr)] [] R:=by
 have hT:=ht.toTrs;have l256:(fil (szT tr)).length<=256:=by rw [zdu]; exact ht.few
 unfold zbn;walk_at "d"
 walk_at "n"
 refine zcc ht ?_;walk_at "d";refine cmf1 (S0:=[]) (h:=zU) (f:=zU) (p:=fun z=>zhn gs (fld ns tr z)) rfl (fil (szT tr)) (by omega) ?_ ?_
 ·intro z mz u acc R' hk';obtain⟨hb,zl⟩:=zd0 mz;walk_at "d";refine zfg hT hb h1 zl ?_;walk_at "d";refine zgO (by omega) (zkI h0 h1 hg mz) ?_;walk_at "d";exact hk' _ fun _ T hT=>⟨_,rfl,hT⟩
 ·have gl:(zc1 gs ns tr).length<=256:=le_trans (List.length_filter_le _ _) l256;walk_at "d"
  walk_at "n"
  show zeP _ _ _ _ _ ((zc1 gs ns tr).map zU) _ _;refine cmp1 (S0:=[]) (fun z:List Int=>PyData.int (prc tr z)) rfl (zc1 gs ns tr) (by omega) ?_ ?_
  ·intro z mz u acc R' hk;obtain⟨hb,_⟩:=zd0 (mem_filter.mp mz).1;walk_at "d";refine zdZ hT hb ?_;walk_at "d";exact hk _
  ·walk_at "d"
   walk_at "n"
   refine⟨(zk3 (n:=0) (zi3 fun z m=>zeL)).ok,rfl,?_⟩;rw [zmX];by_cases hn:zc1 gs ns tr=[]
   ·rw [hn];exact q none hn
   ·have hm:List.map (fun z=>PyData.int (prc tr z)) (zc1 gs ns tr)≠[]:=fun h=>hn (List.map_eq_nil_iff.mp h);rw [decide_eq_false hm,if_neg dz];refine .inl ⟨_,rfl,(zc1 gs ns tr).map (prc tr),by rw [map_map]; rfl,?_,fun m h1 h2=>?_⟩
    ·intro h;exact hn (List.map_eq_nil_iff.mp h)
    ·refine q (some m) ⟨?_,fun z mz=>h2 _ (mem_map_of_mem mz)⟩;obtain⟨z,mz,e⟩:=mem_map.mp h1;exact⟨z,mz,e⟩
theorem zev{p o:Option Int}(h:∀ m,o=some m->∃ k,p=some k/\k<=m)(q:R (.d (.bool true)) []):zbY [.d (oD p),.d (oD o)] [] R:=by
 unfold zbY;cases o with
 | none =>
  unfold oD;walk_at "d";exact q
 | some m =>
  obtain⟨k,rfl,hk⟩:=h m rfl;unfold oD;walk_at "d";rw [decide_eq_true hk];exact q
theorem zhM{α:Type}{f:α->Nat}{c:Nat}:∀ {l:List α},(∀ a∈l,f a<=c)->(l.map f).sum<=l.length*c
 | [],_=>by simp
 | a :: l,h=>by
  rw [map_cons,sum_cons,length_cons,succ_mul];have:=h a mem_cons_self;have:=zhM (l:=l) fun b m=>h b (mem_cons_of_mem _ m);omega
theorem zm1{wf:List Int->Option PyData}:∀ {r:List Nat} {b:List Int} {rows:List Rwp},(∀ s∈r,1<=s)->rwF wf r b=some rows->rows.length<=zaa r
 | [],b,rows,h1,h=>by
  simp only [rwF,map_eq_some_iff] at h;obtain⟨w,hw,rfl⟩:=h;exact le_refl _
 | s :: r,b,rows,h1,h=>by
  simp only [rwF] at h;cases e:wf b with
  | some w =>
   rw [e] at h;cases h;exact zc8 h1
  | none =>
   rw [e] at h;obtain⟨a1,a2⟩:=zee h;rw [a2,List.length_flatMap];refine le_trans (zhM (c:=zaa r) fun k mk=>?_) (by simp [zaa]);obtain⟨y,ey⟩:=a1 k mk;rw [ey];exact zm1 (fun s m=>h1 s (mem_cons_of_mem _ m)) ey
theorem zjk:zcr=zdo:=rfl
theorem zd6{z:List Int}:z∈zc1 gs ns tr↔z∈fil (szT tr)/\zhn gs (fld ns tr z)=true:=mem_filter
theorem zfN{o:Option Int}{prices:List Int}(hR:TrR n tr)(ht:TrC n tr)(h0:ps.length=tr.length)(h1:ns.length=tr.length)(hg:GsT ps.length gs)(gl:gs.length<=100)(hL:IsL gs ns tr o)(q:R (.d (.bool true)) []):zbz [.d (zdf ps),.d (zci gs),.d (zU ns),.d (zbD tr),.d (oD o),.d (.list (prices.map PyData.int))] [] R:=by
 have few:=ht.few;have yes:∀ price:Int,(∀ z∈zc1 gs ns tr,price<=prc tr z)->∃ rows,rwF (wfB ps gs ns tr price) (szT tr) []=some rows/\zpG ps gs ns tr price (.list (rows.map zoI))=true/\ThB (.list (rows.map zoI)):=fun price hp=>by
  have:=zlJ (wf:=wfB ps gs ns tr price) (r:=szT tr) (b:=[]) fun z hz=>zpO hR h0 h1 hg hz fun hd=>hp z (zd6.mpr ⟨hz,hd⟩);obtain⟨rows,e⟩:=isSome_iff_exists.mp this;have:=zm1 zhh e;exact⟨rows,e,zoT (by omega) e⟩
 unfold zbz;walk_at "d";walk_at "n";refine zab (fun i δ S=>∃ (u6 u7:Option XV),S=[]/\δ=[some (.d (zdf ps)),some (.d (zci gs)),some (.d (zU ns)),some (.d (zbD tr)),some (.d (oD o)),some (.d (.list (prices.map PyData.int))),u6,u7]) ⟨_,_,rfl,rfl⟩ ?_ ?_
 ·rintro i d _ _ N hi ⟨u6,u7,rfl,rfl⟩ hN;obtain⟨price,_,rfl⟩:=zbG hi;walk_at "d"
  walk_at "n"
  refine znS hR.toTrs (by omega) h0 h1 hg (by omega) ?_;cases o with
  | none =>
   obtain⟨rows,e,hb,hth⟩:=yes price fun z mz=>by rw [show zc1 gs ns tr=[] from hL] at mz; cases mz
   rw [e];show ret0 _ _ (.d (.list (rows.map zoI))) [];unfold oD;walk_at "d";rw [zjk];refine zeh ht h0 h1 hg hth ?_;rw [hb];walk_at "d";refine zfW hR.toTrs h0 h1 hg hth ?_;rw [hb];walk_at "d";exact hN _ _ ⟨_,_,rfl,rfl⟩
  | some m =>
   by_cases hm:m<price
   ·obtain⟨⟨z,mz,ez⟩,_⟩:=hL;obtain⟨mf,hd⟩:=zd6.mp mz;have e:rwF (wfB ps gs ns tr price) (szT tr) []=none:=zlw mf fun j=>zpM hR h0 h1 hg mf hd (by omega) j;rw [e];show ret0 _ _ (.d .none) [];unfold oD;walk_at "d";rw [if_pos hm];exact hN _ _ ⟨_,_,rfl,rfl⟩
   ·obtain⟨rows,e,hb,hth⟩:=yes price fun z mz=>by have:=hL.2 z mz; omega
    rw [e];show ret0 _ _ (.d (.list (rows.map zoI))) [];unfold oD;walk_at "d";rw [if_neg hm];rw [zjk];refine zeh ht h0 h1 hg hth ?_;rw [hb];walk_at "d";refine zfW hR.toTrs h0 h1 hg hth ?_;rw [hb];walk_at "d";exact hN _ _ ⟨_,_,rfl,rfl⟩
 ·rintro _ _ ⟨u6,u7,rfl,rfl⟩;walk_at "d";exact q
theorem zjx:∀ {sz:List Nat} {i s:Nat},sz[i]? = some s->1<=s->zaa (sz.set i (s+1))<=2*zaa sz
 | [],i,s,e,_=>by simp at e
 | x :: sz,0,s,e,h=>by
  simp at e;subst e;simp only [set_cons_zero,zaa];rw [<- Nat.mul_assoc];exact Nat.mul_le_mul_right _ (by omega)
 | x :: sz,i+1,s,e,h=>by
  simp only [set_cons_succ,zaa];have:=zjx (sz:=sz) (i:=i) (s:=s) (by simpa using e) h
  calc x*zaa (sz.set i (s+1))<=x*(2*zaa sz):=Nat.mul_le_mul_left _ this
   _=2*(x*zaa sz):=by rw [Nat.mul_left_comm]
def Wd(tr tr':List (List Trm)):Prop:=∀ (ns:List Int) (z:List Int),z∈fil (szT tr)->z∈fil (szT tr')/\fld ns tr' z=fld ns tr z/\prc tr' z=prc tr z
theorem zmI(tr:List (List Trm)):Wd tr tr:=fun _ _ h=>⟨h,rfl,rfl⟩
theorem zuq{tr:List (List Trm)}{i:Nat}{l:List Trm}{x:Trm}(e:tr[i]? = some l):Wd tr (tr.set i (l++[x])):=fun ns z hz=>by
 obtain⟨hb,zl⟩:=zd0 hz;have il:i<tr.length:=(List.getElem?_eq_some_iff.mp e).1;have key:∀ (j:Nat) (m:List Trm) (k:Int),tr[j]? = some m->z[j]? = some k->∃ m',(tr.set i (l++[x]))[j]? = some m'/\way m' k=way m k:=fun j m k e1 e2=>by
  by_cases hj:i=j
  ·subst hj;rw [e] at e1;cases e1;refine⟨l++[x],by rw [getElem?_set_self il],?_⟩;have hk:=zeu hb e2 (s:=l.length+1) (by unfold szT; rw [getElem?_map,e]; rfl);obtain⟨k',rfl⟩:=Int.eq_ofNat_of_zero_le hk.1;exact ziD (by omega)
  ·exact⟨m,by rw [getElem?_set_ne hj]; exact e1,rfl⟩
 have zp:∀ {β:Type} (g:List Trm×Int->β),(∀ m m' k,way m' k=way m k->g (m',k)=g (m,k))->((tr.set i (l++[x])).zip z).map g=(tr.zip z).map g:=fun g hg=>by
  apply List.ext_getElem?;intro j;rw [getElem?_map,getElem?_map];by_cases hj:j<tr.length
  ·have e1:=getElem?_eq_getElem hj;have e2:=getElem?_eq_getElem (show j<z.length by omega);obtain⟨m',q1,q2⟩:=key j _ _ e1 e2;rw [(getElem?_zip_eq_some (z:=(m',z[j]'(by omega)))).mpr ⟨q1,e2⟩,(getElem?_zip_eq_some (z:=(tr[j],z[j]'(by omega)))).mpr ⟨e1,e2⟩];exact congrArg some (hg _ _ _ q2)
  ·rw [List.getElem?_eq_none (by simp; omega),List.getElem?_eq_none (by simp; omega)]
 refine⟨zlh.mpr ⟨by rw [zl]; simp [szT],fun j hj=>?_⟩,?_,?_⟩
 ·have h:=(zlh.mp hz).2 j (by simpa [szT] using hj);refine⟨h.1,Int.lt_of_lt_of_le h.2 ?_⟩;have es:szT (tr.set i (l++[x]))=(szT tr).set i (l.length+1+1):=by
   unfold szT;rw [map_set,length_append,length_singleton]
  rw [es,getD_eq_getElem?_getD,getD_eq_getElem?_getD];by_cases hj:i=j
  ·subst hj;rw [getElem?_set_self (by simpa [szT] using il),show (szT tr)[i]? = some (l.length+1) by unfold szT; rw [getElem?_map,e]; rfl];show ((l.length+1:Nat):Int)<=((l.length+1+1:Nat):Int);omega
  ·rw [getElem?_set_ne hj];exact Int.le_refl _
 ·have ef:∀ t:List (List Trm),fld ns t z=(ns.zip ((t.zip z).map fun q=>(way q.1 q.2).1)).map fun q=>q.1 - q.2:=fun t=>by
   rw [List.zip_map_right,map_map];rfl
  rw [ef,ef,zp (fun q=>(way q.1 q.2).1) fun m m' k h=>by rw [h]]
 ·unfold prc;rw [zp (fun q=>(way q.1 q.2).2) fun m m' k h=>by rw [h]]
theorem zfx{p:List PyData}(hp:zaU p)(n1:1<=n)(hR:TrR n tr)(ht:TrC n tr)(q:∀ tr' p',TrF n tr'->Wd tr tr'->zaU p'->R (.d (zbD tr')) [p']):zbx [.d (zbD tr),.l 0] [p] R:=by
 have tl:=ht.len;have h8:=zbH ht.toTrs;have few:=ht.few;unfold zbx zbD;walk_at "d"
 walk_at "n"
 refine zy hp (by omega) (zcC (by omega) (by omega)) fun r p1 r0 r1 hp1=>?_;obtain⟨i,rfl⟩:=Int.eq_ofNat_of_zero_le r0;have il:i<tr.length:=by simp at r1; omega
 have e:=getElem?_eq_getElem il;generalize tr[i]=l at e;walk_at "d"
 walk_at "n"
 refine⟨_,zaH e,?_⟩;rw [zbJ];walk_at "d"
 walk_at "n"
 by_cases h3:l.length=3
 ·rw [if_pos (by omega)];exact q tr p1 ⟨hR,by omega⟩ (zmI tr) hp1
 ·rw [if_neg (by omega)];refine zcc ht ?_;walk_at "d";rw [zdu];by_cases h150:150<zaa (szT tr)
  ·rw [if_pos (by omega)];exact q tr p1 ⟨hR,by omega⟩ (zmI tr) hp1
  ·rw [if_neg (by omega)]
   walk_at "n"
   refine cut (fun δ S=>S=[p1]/\δ=[some (.d (.tuple (tr.map zfq))),some (.l 0),some (.d (.int i)),some (.d (.tuple (l.map zf7))),some (.d (zf7 (way l l.length))),none]) (fun N hN=>?_) ?_
   ·rcases List.eq_nil_or_concat l with rfl | ⟨l',x,rfl⟩
    ·walk_at "d";exact⟨rfl,rfl,hN _ _ ⟨rfl,rfl⟩⟩
    ·rw [List.concat_eq_append] at *;have el:atI ((l'++[x]).map zf7) (-1)=some (zf7 x):=by rw [map_append]; exact zjD _ _
     walk_at "d";refine⟨(zhr (n:=1) (zi3 fun t _=>zhr (zrs (n:=0) zeL zeL))).ok,rfl,?_⟩;have en:(PyData.tuple ((l'++[x]).map zf7)).eqv (.tuple [])=false:=by
      cases l' <;> rfl
     rw [if_pos en];refine⟨_,el,?_⟩;refine hN _ _ ⟨rfl,?_⟩;rw [length_append,length_singleton,zgs]
   rintro _ _ ⟨rfl,rfl⟩;rw [zdL]
   walk_at "n"
   refine zy hp1 dz (by decide +kernel) fun r2 p2 r20 r21 hp2=>?_;walk_at "d";refine zy hp2 dz (by decide +kernel) fun r3 p3 r30 r31 hp3=>?_;walk_at "d";have hup:=hR.up l (mem_of_getElem? e);have hl3:=ht.l3 l (mem_of_getElem? e);have c1:zdJ (tr.map zfq) none (some (i:Int))=(tr.map zfq).take i:=zfI;have ei:((i+1:Nat):Int)=(i:Int)+1:=by omega
   have c2:zdJ (tr.map zfq) (some ((i:Int)+1)) none=(tr.map zfq).drop (i+1):=by
    have:=zis (ds:=tr.map zfq) (k:=i+1) (by simp; omega)
    rwa [ei] at this
   have s1:HT.sIx tr.length tr.length (some (i:Int))=i:=by rw [HT.sIx_nat]; omega
   have s2:HT.sIx tr.length 0 (some ((i:Int)+1))=i+1:=by
    rw [<- ei,HT.sIx_nat];omega
   rw [c1,c2];refine⟨by omega,fun h=>by rw [s1] at h; omega,by simp; omega,fun h=>by rw [s2] at h; omega,by simp; omega,?_⟩;have ed:∀ x:Trm,(tr.map zfq).take i++[PyData.tuple (l.map zf7++[zf7 x])]++(tr.map zfq).drop (i+1)=(tr.set i (l++[x])).map zfq:=fun x=>by
    rw [map_set,List.set_eq_take_append_cons_drop,if_pos (by simpa using il),append_assoc];rw [zbJ,map_append];rfl
   have key:=q (tr.set i (l++[((way l l.length).1+1+r2,(way l l.length).2+1+r3)])) p3 ⟨⟨⟨by simpa using tl,fun m mm=>?_,ht.n8⟩,fun m mm=>?_⟩,?_⟩ (zuq e) hp3
   ·unfold zbD at key;rw [<- ed] at key;exact key
   ·rcases List.mem_or_eq_of_mem_set mm with mm | rfl
    ·exact ht.l3 m mm
    ·rw [length_append,length_singleton];omega
   ·rcases List.mem_or_eq_of_mem_set mm with mm | rfl
    ·exact hR.up m mm
    ·exact zk4 hup ⟨by show _<=_+1+r2; omega,by show _<=_+1+r3; omega⟩
   ·have es:szT (tr.set i (l++[((way l l.length).1+1+r2,(way l l.length).2+1+r3)]))=(szT tr).set i (l.length+1+1):=by
     unfold szT;rw [map_set,length_append,length_singleton]
    rw [es];have:=zjx (sz:=szT tr) (i:=i) (s:=l.length+1) (by unfold szT; rw [getElem?_map,e]; rfl) (by omega);omega
end
theorem ztp(o:Option Int):PyData.eqv (oD o) (oD o)=true:=by
 cases o with
 | none=>rfl
 | some m=>unfold oD; rw [zil]; exact decide_eq_true rfl
theorem zqv(o:Option Int):SeqAt.shaped (oD o)=true:=by cases o <;> rfl
theorem zkL(a:Addr)(n:Int):zru (zwi a 9) ((some (.o (.ref a)) :: List.replicate 9 none).set 1 (some (.d (.int n)))) []:=by
 unfold zru;walk_at "d"
 walk_at "n"
 refine ziq fun p hp=>?_;walk_at "d"
 walk_at "n"
 refine zir hp dz dz fun ps p1 hd hsz hp1=>?_;have l8:=hd.l8;walk_at "d"
 walk_at "n"
 refine zgj hp1 hd fun tr p2 ht hp2=>?_;walk_at "d";refine cut (fun δ S=>∃ (tr:List (List Trm)),TrR ps.length tr/\zaa (szT tr)<=256/\S=[p2]/\δ=[some (.o (.ref a)),some (.d (.int n)),some (.l 0),some (.d (zdf ps)),some (.d (zbD tr)),none,none,none,none,none]) (fun N hN=>?_) ?_
 ·unfold zdf;walk_at "d";have tl:=ht.len;by_cases h4:4<ps.length
  ·rw [if_pos (by omega)];unfold zbD;walk_at "d";refine cmp1 (S0:=[p2]) (fun l:List Trm=>zfq (l.take 1)) rfl tr (by omega) ?_ ?_
   ·intro l ml u acc R' hk;rw [zbJ];walk_at "d";rw [show (some 1:Option Int)=some ((1:Nat):Int) from rfl,zfI,<- map_take];exact hk _
   refine⟨[p2],_,rfl,rfl,hN _ _ ⟨tr.map (·.take 1),⟨⟨by simpa using tl,fun l ml=>?_,l8⟩,fun l ml=>?_⟩,?_,rfl,?_⟩⟩
   ·obtain⟨l',_,rfl⟩:=mem_map.mp ml;rw [length_take];omega
   ·obtain⟨l',m',rfl⟩:=mem_map.mp ml;exact zpl (ht.up l' m') 1
   ·refine le_trans (zlg fun s m=>?_) ?_
    ·unfold szT at m;rw [map_map] at m;obtain⟨l',_,rfl⟩:=mem_map.mp m;simp only [Function.comp,length_take];omega
    ·have:(szT (tr.map (·.take 1))).length<=8:=by simp [szT]; omega
     exact le_trans (Nat.pow_le_pow_right dz this) dz
   ·unfold zdf zbD;rw [map_map];rfl
  ·rw [if_neg (by omega)];refine hN _ _ ⟨tr,ht,?_,rfl,rfl⟩;refine le_trans (zkR (zhO ht.toTrs).2) ?_;have:(szT tr).length<=4:=by simp [szT]; omega
   exact le_trans (Nat.pow_le_pow_right dz this) dz
 rintro _ _ ⟨tr,hR,few,rfl,rfl⟩;have ht:TrC ps.length tr:=⟨hR.toTrs,few⟩;have hF:TrF ps.length tr:=⟨hR,by omega⟩;have tl:=ht.len
 walk_at "n"
 refine zml hp2 hd fun ns p3 hns hp3=>?_;walk_at "d"
 walk_at "n"
 have nl:ns.length=tr.length:=by rw [hns.len,tl]
 refine zfj hp3 hd ht nl fun gs p4 hgs g1 g3 hp4=>?_;walk_at "d"
 walk_at "n"
 refine zgE ht tl.symm nl hgs (by omega) fun o hL=>?_;walk_at "d"
 walk_at "n"
 refine zeJ hF tl.symm nl hgs (by omega) fun o' hL'=>?_;obtain rfl:=hL'.uniq hL;refine⟨_,rfl,zqv _,zqv _,?_⟩;rw [ztp,if_neg dz]
 walk_at "n"
 walk_at "d";refine⟨⟨by decide,by decide,by decide⟩,?_⟩;refine zy hp4 dz (by decide +kernel) fun r5 p5 r50 r51 hp5=>?_;walk_at "d";refine zy hp5 dz (by decide +kernel) fun r6 p6 r60 r61 hp6=>?_;walk_at "d";refine⟨⟨by decide,by decide,by decide⟩,?_⟩;refine zy hp6 dz (by decide +kernel) fun r7 p7 r70 r71 hp7=>?_;walk_at "d";refine cut (fun δ S=>∃ (pr:List Int),S=[p7]/\δ=[some (.o (.ref a)),some (.d (.int n)),some (.l 0),some (.d (zdf ps)),some (.d (zbD tr)),some (.d (zU ns)),some (.d (zci gs)),some (.d (oD o')),some (.d (.list (pr.map PyData.int))),none]) (fun N hN=>?_) ?_
 ·cases o' with
  | none =>
   unfold oD;walk_at "d";exact hN _ _ ⟨[_,_,_,_],rfl,rfl⟩
  | some m =>
   unfold oD;walk_at "d";exact hN _ _ ⟨[_,_,_,_,_,_,_],rfl,rfl⟩
 rintro _ _ ⟨pr,rfl,rfl⟩
 walk_at "n"
 refine zfN hR ht tl.symm nl hgs (by omega) hL ?_;walk_at "d"
 walk_at "n"
 refine zfj hp7 hd ht nl fun gs2 p8 hgs2 g12 g32 hp8=>?_;unfold zci;walk_at "d";have c1:zdJ (gs2.map zi2) none (some 1)=(gs2.take 1).map zi2:=by
  rw [show (some 1:Option Int)=some ((1:Nat):Int) from rfl,zfI,map_take]
 rw [c1];refine⟨by simp; omega,?_⟩;rw [<- map_append];have hm:GsT ps.length (gs++gs2.take 1):=⟨fun g mg=>by
  rcases mem_append.mp mg with mg | mg
  ·exact hgs.t3 g mg
  ·exact hgs2.t3 g (mem_of_mem_take mg),fun g mg=>by
  rcases mem_append.mp mg with mg | mg
  ·exact hgs.le g mg
  ·exact hgs2.le g (mem_of_mem_take mg)⟩
 walk_at "n"
 refine zeJ (gs:=gs++gs2.take 1) hF tl.symm nl hm (by simp; omega) fun o2 hL2=>?_;walk_at "d";refine zev (fun m e=>?_) ?_
 ·subst e;obtain⟨⟨z,mz,ez⟩,_⟩:=hL2;obtain⟨mf,hz⟩:=zd6.mp mz;have mg:z∈zc1 gs ns tr:=zd6.mpr ⟨mf,by
   unfold zhn at hz ⊢;rw [List.all_append,Bool.and_eq_true] at hz;exact hz.1⟩
  cases o' with
  | none=>rw [show zc1 gs ns tr=[] from hL] at mg; cases mg
  | some k=>exact⟨k,rfl,by have:=hL.2 z mg; omega⟩
 ·walk_at "d";refine zfx hp8 hd.l1 hR ht fun tr' p9 hF' wd hp9=>?_;walk_at "d";have tl':=hF'.len;refine zeJ (gs:=gs) hF' tl'.symm (by omega) hgs (by omega) fun o3 hL3=>?_;walk_at "d";refine zev (fun m e=>?_) ?_
  ·subst e;obtain⟨⟨z,mz,ez⟩,_⟩:=hL;obtain⟨mf,hz⟩:=zd6.mp mz;obtain⟨w1,w2,w3⟩:=wd ns z mf;have mg:z∈zc1 gs ns tr':=zd6.mpr ⟨w1,by rw [w2]; exact hz⟩;cases o3 with
   | none=>rw [show zc1 gs ns tr'=[] from hL3] at mg; cases mg
   | some k=>exact⟨k,rfl,by have:=hL3.2 z mg; omega⟩
  ·walk_at "d"
end
end My
namespace My
open PySem L2
def top (i : Nat) : Stmt := PySem.Challenge.pw_gaugewright_k69_whole_nothing_cheaper_do.main.body.getD i (.Pass ⟨0, 0, 0, 0⟩)
abbrev ze4:Stmt:=top 46
theorem zhC:FnScope ["script","k"] ["script","k"] (zi ze4):=fsd
abbrev zfY:Stmt:=top 48
theorem zeT:FnScope ["cell","left"] ["cell"] (zi zfY):=fsd
abbrev zib:Stmt:=top 47
theorem zgU:FnScope ["seed"] ["seed"] (zi zib):=fsd
abbrev zhL:Stmt:=top 49
theorem zg4:FnScope ["pen","many","found"] ["pen","many"] (zi zhL):=fsd
abbrev zbv:Stmt:=top 52
theorem zW:FnScope ["pen","letters","way","first","names","word","at"] ["pen"] (zi zbv):=fsd
abbrev zd3:Stmt:=top 51
theorem zdC:FnScope ["pen","way"] ["pen"] (zi zd3):=fsd
abbrev zg3:Stmt:=top 53
theorem zb7:FnScope ["pen","most","names","wides","drawing","k","low"] ["pen","most"] (zi zg3):=fsd
abbrev zej:Stmt:=top 57
theorem zai:FnScope ["pen","drawing","found","part","row","much","price","k"] ["pen","drawing"] (zi zej):=fsd
abbrev zjV:Stmt:=top 55
theorem zcE:FnScope ["pen","drawing","one","name","low","high","some"] ["pen","drawing"] (zi zjV):=fsd
abbrev zer:Stmt:=top 54
theorem zbc:FnScope ["pen","drawing","some","terms","part"] ["pen","drawing"] (zi zer):=fsd
abbrev zdr:Stmt:=top 60
theorem za2:FnScope ["trims","found","one","rows","ahead"] ["trims"] (zi zdr):=fsd
abbrev zhd:Stmt:=top 58
theorem zdW:FnScope ["built","trims","filing","left","part"] ["built","trims","filing"] (zi zhd):=fsd
abbrev zgR:Stmt:=top 56
theorem zcl:FnScope ["gap","one","total","part","times"] ["gap","one"] (zi zgR):=fsd
abbrev zf8:Stmt:=top 61
theorem za0:FnScope ["pen","drawing","built","trims","gaps","k","terms","some","left","low"] ["pen","drawing","built","trims"] (zi zf8):=fsd
abbrev zcY:Stmt:=top 59
theorem zbR:FnScope ["trims","filing","total","part"] ["trims","filing"] (zi zcY):=fsd
abbrev zfE:Stmt:=top 62
theorem zkq:FnScope ["gaps","left"] ["gaps","left"] (zi zfE):=fsd
abbrev zcb:Stmt:=top 69
theorem zcF:FnScope ["gaps","built","trims","good","prices"] ["gaps","built","trims"] (zi zcb):=fsd
abbrev zfB:Stmt:=top 22
theorem zkN:FnScope ["offers"] ["offers"] (zi zfB):=fsd
abbrev zdH:Stmt:=top 27
theorem zbj:FnScope ["sizes","beginning","many","size"] ["sizes","beginning"] (zi zdH):=fsd
abbrev zc5:Stmt:=top 26
theorem zcV:FnScope ["sizes","many"] ["sizes"] (zi zc5):=fsd
abbrev zg2:Stmt:=top 35
theorem zl0:FnScope ["trims"] ["trims"] (zi zg2):=fsd
abbrev zdy:Stmt:=top 11
theorem zc3:FnScope ["beginnings","numbers","longer","beginning"] ["beginnings","numbers"] (zi zdy):=fsd
abbrev zeV:Stmt:=top 28
theorem zcd:FnScope ["sizes","choices","size"] ["sizes"] (zi zeV):=fsd
abbrev zfF:Stmt:=top 14
theorem zko:FnScope ["gap","one"] ["gap","one"] (zi zfF):=fsd
abbrev zoo:Stmt:=top 15
theorem zp4:FnScope ["gap","one"] ["gap","one"] (zi zoo):=fsd
abbrev zeD:Stmt:=top 20
theorem zjA:FnScope ["gaps","one"] ["gaps","one"] (zi zeD):=fsd
abbrev zdk:Stmt:=top 36
theorem zhv:FnScope ["trims","filing"] ["trims","filing"] (zi zdk):=fsd
abbrev zcW:Stmt:=top 38
theorem zhl:FnScope ["trims","filing"] ["trims","filing"] (zi zcW):=fsd
abbrev zkx:Stmt:=top 37
theorem zp5:FnScope ["built","trims","filing"] ["built","trims","filing"] (zi zkx):=fsd
abbrev zbk:Stmt:=top 39
theorem zbU:FnScope ["job","built","trims","sizes","found"] ["job","built","trims"] (zi zbk):=fsd
abbrev zia:Stmt:=top 70
theorem zg8:FnScope ["drawing","gaps","built","trims","found"] ["drawing","gaps","built","trims"] (zi zia):=fsd
abbrev zdz:Stmt:=top 29
theorem zaN:FnScope ["sizes","why_of","rows","left","beginning","why"] ["sizes","why_of"] (zi zdz):=fsd
abbrev za9:Stmt:=top 42
theorem zaW:FnScope ["drawing","built","trims","beginning","spans","number","ways"] ["drawing","built","trims","beginning"] (zi za9):=fsd
abbrev zqF:Stmt:=top 7
theorem zkM:FnScope ["one","other","low","high"] ["one","other"] (zi zqF):=fsd
abbrev zq8:Stmt:=top 6
theorem zrw:FnScope ["one","other"] ["one","other"] (zi zq8):=fsd
abbrev zfP:Stmt:=top 8
theorem zeX:FnScope ["one","by","ends"] ["one","by"] (zi zfP):=fsd
abbrev zjT:Stmt:=top 10
theorem zmd:FnScope ["part"] ["part"] (zi zjT):=fsd
abbrev zdG:Stmt:=top 18
theorem zaO:FnScope ["drawing","terms","ends","part","times"] ["drawing","terms"] (zi zdG):=fsd
abbrev znE:Stmt:=top 17
theorem zpQ:FnScope ["drawing","gap"] ["drawing","gap"] (zi znE):=fsd
abbrev zgN:Stmt:=top 13
theorem zjp:FnScope ["gap"] ["gap"] (zi zgN):=fsd
abbrev zly:Stmt:=top 33
theorem zmy:FnScope ["drawing","gap"] ["drawing","gap"] (zi zly):=fsd
abbrev zdP:Stmt:=top 41
theorem zbA:FnScope ["job","built","trims","price","beginning","left","number","gap"] ["job","built","trims","price","beginning"] (zi zdP):=fsd
abbrev zgv:Stmt:=top 40
theorem zjo:FnScope ["job","built","trims","price","sizes"] ["job","built","trims","price"] (zi zgv):=fsd
abbrev zcK:Stmt:=top 67
theorem zbC:FnScope ["trims","beginnings","there","beginning","filing"] ["trims","beginnings"] (zi zcK):=fsd
abbrev ze3:Stmt:=top 63
theorem zhw:FnScope ["trims","part","number"] ["trims","part","number"] (zi ze3):=fsd
abbrev zi9:Stmt:=top 64
theorem zaF:FnScope ["gap","built","trims","beginning","least","most","part","times","first","last","ends"] ["gap","built","trims","beginning"] (zi zi9):=fsd
abbrev zgQ:Stmt:=top 50
theorem zjt:FnScope ["found"] ["found"] (zi zgQ):=fsd
abbrev zf0:Stmt:=top 66
theorem zdq:FnScope ["gaps","built","trims","price","row","beginning","why"] ["gaps","built","trims","price","row"] (zi zf0):=fsd
abbrev zb0:Stmt:=top 65
theorem zex:FnScope ["trims","thing"] ["trims","thing"] (zi zb0):=fsd
abbrev zdw:Stmt:=top 68
theorem zbu:FnScope ["gaps","built","trims","price","thing","row","k","ahead","behind"] ["gaps","built","trims","price","thing"] (zi zdw):=fsd
abbrev zh2:Stmt:=top 4
theorem zkp:FnScope ["thing"] ["thing"] (zi zh2):=fsd
abbrev zc0:Stmt:=top 23
theorem zgD:FnScope ["sizes","thing"] ["sizes","thing"] (zi zc0):=fsd
abbrev zaK:Stmt:=top 31
theorem zeN:FnScope ["sizes","things"] ["sizes","things"] (zi zaK):=fsd
abbrev zef:Stmt:=top 30
theorem zkh:FnScope ["sizes","thing"] ["sizes","thing"] (zi zef):=fsd
abbrev zcT:Stmt:=top 44
theorem zeC:FnScope ["job","built","trims","price","beginning","why"] ["job","built","trims","price","beginning","why"] (zi zcT):=fsd
abbrev zeM:Stmt:=top 43
theorem zi7:FnScope ["job","built","trims","price","thing"] ["job","built","trims","price","thing"] (zi zeM):=fsd
abbrev zdD:Stmt:=top 71
theorem zb6:FnScope ["drawing","gaps","built","trims","least","prices","price","found"] ["drawing","gaps","built","trims","least","prices"] (zi zdD):=fsd
abbrev zeS:Stmt:=top 73
theorem zhB:FnScope ["price","other"] ["price","other"] (zi zeS):=fsd
abbrev zdE:Stmt:=top 72
theorem zay:FnScope ["trims","pen","at","one","last","more"] ["trims","pen"] (zi zdE):=fsd
abbrev s_law:Stmt:=top 74
theorem zdF:FnScope ["script","cell","pen","drawing","trims","built","gaps","least","prices","more"] ["script"] (zi s_law):=fsd
structure Txt(mg:Str->Option Value):Prop where
 n_len:mg "len" = none
 n_tuple:mg "tuple" = none
 n_max:mg "max" = none
 n_int:mg "int" = none
 n_range:mg "range" = none
 n_min:mg "min" = none
 n_list:mg "list" = none
 n_all:mg "all" = none
 n_sum:mg "sum" = none
 n_zip:mg "zip" = none
 n_enumerate:mg "enumerate" = none
 n_any:mg "any" = none
 n_isinstance:mg "isinstance" = none
 n_bool:mg "bool" = none
 g_MOST_CHOICES:∃ t,mg "MOST_CHOICES" = some (.int 300 t)
structure Dds(K:W.Frag)(mg:Str->Option Value):Prop where
 a0:Dd K mg "_law_cell_at" ze4 ["script","k"]
 a1:Dd K mg "_law_pen_of" zfY ["cell"]
 a2:Dd K mg "_law_next" zib ["seed"]
 a3:Dd K mg "_law_draw" zhL ["pen","many"]
 a4:Dd K mg "_law_names_of" zbv ["pen"]
 a5:Dd K mg "_law_number_of" zd3 ["pen"]
 a6:Dd K mg "_law_few" zg3 ["pen","most"]
 a7:Dd K mg "_law_trims_of" zej ["pen","drawing"]
 a8:Dd K mg "_law_set" zjV ["pen","drawing"]
 a9:Dd K mg "_law_terms_of" zer ["pen","drawing"]
 a10:Dd K mg "_law_filings" zdr ["trims"]
 a11:Dd K mg "_law_filed" zhd ["built","trims","filing"]
 a12:Dd K mg "_law_worth" zgR ["gap","one"]
 a13:Dd K mg "_law_wanted" zf8 ["pen","drawing","built","trims"]
 a14:Dd K mg "_law_price_of" zcY ["trims","filing"]
 a15:Dd K mg "_law_does" zfE ["gaps","left"]
 a16:Dd K mg "_law_least_of" zcb ["gaps","built","trims"]
 a17:Dd K mg "sizes_of" zfB ["offers"]
 a18:Dd K mg "choices_behind" zdH ["sizes","beginning"]
 a19:Dd K mg "refuse_too_many" zc5 ["sizes"]
 a20:Dd K mg "ways_of" zg2 ["trims"]
 a21:Dd K mg "each_longer" zdy ["beginnings","numbers"]
 a22:Dd K mg "all_choices" zeV ["sizes"]
 a23:Dd K mg "worth_of" zfF ["gap","one"]
 a24:Dd K mg "keeps" zoo ["gap","one"]
 a25:Dd K mg "kept_gaps" zeD ["gaps","one"]
 a26:Dd K mg "chosen_ways" zdk ["trims","filing"]
 a27:Dd K mg "filing_price" zcW ["trims","filing"]
 a28:Dd K mg "filed" zkx ["built","trims","filing"]
 a29:Dd K mg "cheapest_filing" zbk ["job","built","trims"]
 a30:Dd K mg "_law_told" zia ["drawing","gaps","built","trims"]
 a31:Dd K mg "rows_with_whys" zdz ["sizes","why_of"]
 a32:Dd K mg "what_may_be_left" za9 ["drawing","built","trims","beginning"]
 a33:Dd K mg "meet" zqF ["one","other"]
 a34:Dd K mg "plus" zq8 ["one","other"]
 a35:Dd K mg "multiplied" zfP ["one","by"]
 a36:Dd K mg "span_of" zjT ["part"]
 a37:Dd K mg "reach_of_terms" zdG ["drawing","terms"]
 a38:Dd K mg "reach" znE ["drawing","gap"]
 a39:Dd K mg "wanted_of" zgN ["gap"]
 a40:Dd K mg "misses" zly ["drawing","gap"]
 a41:Dd K mg "why_no_filing" zdP ["job","built","trims","price","beginning"]
 a42:Dd K mg "bar_of" zgv ["job","built","trims","price"]
 a43:Dd K mg "_law_all_begun" zcK ["trims","beginnings"]
 a44:Dd K mg "_law_much_of" ze3 ["trims","part","number"]
 a45:Dd K mg "_law_off" zi9 ["gap","built","trims","beginning"]
 a46:Dd K mg "_law_whole" zgQ ["found"]
 a47:Dd K mg "_law_why_of" zf0 ["gaps","built","trims","price","row"]
 a48:Dd K mg "_law_beginning_of" zb0 ["trims","thing"]
 a49:Dd K mg "_law_bar_due" zdw ["gaps","built","trims","price","thing"]
 a50:Dd K mg "is_whole" zh2 ["thing"]
 a51:Dd K mg "is_beginning" zc0 ["sizes","thing"]
 a52:Dd K mg "part_all_choices" zaK ["sizes","things"]
 a53:Dd K mg "are_rows" zef ["sizes","thing"]
 a54:Dd K mg "is_why_no_filing" zcT ["job","built","trims","price","beginning","why"]
 a55:Dd K mg "bar_holds" zeM ["job","built","trims","price","thing"]
 a56:Dd K mg "_law_bars_right" zdD ["drawing","gaps","built","trims","least","prices"]
 a57:Dd K mg "_law_no_less" zeS ["price","other"]
 a58:Dd K mg "_law_more_trims" zdE ["trims","pen"]
structure Lams(K:W.Frag)(mg:Str->Option Value):Prop where
 l_cheapest_filing:∃ c P,CodeAt K mg "cheapest_filing" c/\((c,P),L2.lamKey (("cheapest_filing" ++ ".<locals>.") ++ "<lambda>") ⟨112,26,0,0⟩)∈L2.tabsG
 l_bar_of:∃ c P,CodeAt K mg "bar_of" c/\((c,P),L2.lamKey (("bar_of" ++ ".<locals>.") ++ "<lambda>") ⟨116,33,0,0⟩)∈L2.tabsG
section
variable {P:Program} {w:World} {K:W.Frag} {mg:Str->Option Value} {base:Heap}
local macro_rules | `(tactic| walk_at "r")=>`(tactic| repeat' (first | with_reducible (first | refine zk | refine zh ?_ ?_ | refine zA | refine zT | refine zx | refine zS ?_ ?_ | refine za4 ?_ ?_ | refine zdI | refine zaB ?_ | refine zV ?_ ?_ | refine zcp | refine zgf ?_ ?_ ?_ | refine zbF ?_ ?_ | refine zS | refine zbN | refine zdT | refine zhp ?_ | refine zgA | refine znM ?_ | refine zjn | refine zh | refine zoa | refine zdV ?_ | refine zf6 ?_ | refine zhV ?_ ?_ ?_ | refine zaB | refine znY | refine zm2 | refine zuz ?_ ?_ | refine zv4 | refine za6 ?_ | refine zaw ?_ ?_ | refine zpx | refine zsk ?_ | refine zvD ?_ ?_ | refine zid | refine ziG ?_ | refine zfp | refine zqY | refine zvR | refine za4 | refine zpI ?_ ?_ ?_ | refine zku ?_ ?_ ?_ ?_ | refine zew ?_ | refine zeF | refine zod | refine zds ?_ | refine zeo ?_ | refine zcZ | refine zfd | refine zni | refine znd | refine zvI | refine zgf | refine zt5 | refine znP ?_ | refine zhV | refine zjz ?_ ?_ | refine zvd | refine zus ?_ ?_ | refine zgF | refine zst | refine zkY | refine zt6 ?_ | refine zf6 | refine zdV | refine zuh ?_ ?_ | refine ziG | refine zpI | refine zgt ?_ ?_ ?_ ?_ ?_ | refine zuy | refine zvA ?_ ?_ | refine zuw ?_ | refine zhi | refine zV ?_ | refine zsg | refine zq3 | refine zsh | refine zl6 | refine zmK | refine zpY | refine zoW ?_ | refine zqa ?_ ?_ | refine zut | refine zp7 ?_ ?_ | refine zoQ ?_ | refine zrU ?_ | refine zvh ?_ ?_ ?_ | refine zpt ?_ | refine zqL | refine zp8 ?_ ?_ | refine zui | refine ztq ?_ ?_ | refine zsi | refine zaj ?_ ?_ ?_ | refine zct ?_ ?_ | refine zu6 ?_ | refine zct | refine zaj) | rfl))
theorem ziX(T:Txt mg:=by assumption)(dd:Dds K mg:=by assumption):Df P w K mg base "_law_cell_at" ["script","k"] 1 (sp2 (zsn K)):=by
 refine Df.of2 dd.a0 zhC (fun v u=>[some v,some u]) (fun _ _=>rfl) fun f cdv A outer s H v u Q E hr h=>?_;obtain⟨a,ns,i,rfl,rfl,hS,h0,q⟩:=h;refine⟨_,(ze (zas (zN zkB (pv 1) (zq zox (by rfl) T.n_len zae (za (pv 0) zd)) (nomark _)) (zm (zw (zI znV (pv 0) (pv 1) (fun _ _=>rfl)))) zK) (zm (zw zf))),?_⟩;simp only [zls,zuY,znq,tOp,zpm,tCB,ziZ,zrY,zvw,tC,zrl,znD,getElem?_cons_zero,getElem?_cons_succ];refine⟨a,_,rfl,.inl hS,?_⟩;simp only [znD,zvB,decide_eq_true_eq];refine ite2 (fun hi=>?_) (fun _=>q 0);obtain⟨n,e⟩:=zrM h0 hi;exact⟨a,_,i,_,rfl,rfl,hS,e,q n⟩
variable (T:Txt mg:=by assumption) (dd:Dds K mg:=by assumption) (ll:Lams K mg:=by assumption)
include T dd ll
theorem zjG:Df P w K mg base "_law_pen_of" ["cell"] 1 (spN ["cell"] zcS):=by
 exact Df.dN dd.a1 zeT 1 rfl fun f cdv A outer s H E hr=>⟨_,_,(ze (zB (i:=1) zeT.nd rfl lo (zq (zhg rfl) (by rfl) T.n_max zjq (za (pv 0) (za (zF zbO zf (pv 0)) zd)))) (zm (zw (zal (za (pv 1) (za (zaS zmC (by rfl) T.n_int zmA (za (zbL zoS (pv 1) (zF zf5 zf zf) (nomark _)) zd)) (za (zF ze5 (pv 1) zf) zd))))))),(by walk_at "r"),fun xs S R q=>q⟩
theorem zh3:Df P w K mg base "_law_next" ["seed"] 1 (spN ["seed"] zdc):=by
 exact Df.dN dd.a2 zgU 0 rfl fun f cdv A outer s H E hr=>⟨_,_,(ze (zB (i:=0) zgU.nd rfl lo (zF ze5 (zF zG (pv 0) zf) zf)) (zm (zw (zF ze5 (zF zG (zF zG (zF zbf (pv 0) (pv 0)) (zF zbf zf (pv 0))) zf) zf)))),(by walk_at "r"),fun xs S R q=>q⟩
theorem zD:Df P w K mg base "_law_draw" ["pen","many"] 2 (spN ["pen","many"] zt):=by
 exact Df.dN dd.a3 zg4 1 rfl fun f cdv A outer s H E hr=>⟨_,_,(ze (zas (zN (zck hr.units) (zI zv (pv 0) zf (fun _ _=>rfl)) zf (nomark _)) (ze (zB (i:=2) zg4.nd rfl lo (zF ze5 (zI zv (pv 0) zf (fun _ _=>rfl)) (pv 1))) (ze (zkW (zF zm4 (zI zv (pv 0) zf (fun _ _=>rfl)) (pv 1)) (znp (pv 0) zf ziC)) (zm (zw (pv 2))))) zK) (ze (zkW (zr zh3 hr dz (za (zF zG (zr zh3 hr dz (za (zI zv (pv 0) zf (fun _ _=>rfl)) zd)) zf) zd)) (znp (pv 0) zf ziC)) (zm (zw (zF ze5 (zF zm4 (zI zv (pv 0) zf (fun _ _=>rfl)) zf) (pv 1)))))),(by walk_at "r"),fun xs S R q=>q⟩
theorem zhF:Df P w K mg base "_law_names_of" ["pen"] 3 (spN ["pen"] zbw):=by
 exact Df.dN dd.a4 zW 6 rfl fun f cdv A outer s H E hr=>⟨_,_,(ze (zB (i:=1) zW.nd rfl (Or.inr rfl) zcx) (ze (zB (i:=2) zW.nd rfl lo (zr zD hr dz (za (pv 0) (za zf zd)))) (ze (zB (i:=3) zW.nd rfl (Or.inr rfl) (zr zD hr dz (za (pv 0) (za zf zd)))) (ze (zeH (i:=4) (fun _ _ h=>h) rfl (zJ rfl rfl rfl rfl (N:=["k","letters","first"]) (caps:=[none,some 1,some 3]) (by show zat ["pen","letters","way","first","names","word","at"] (zi zbv).names _ _ _=true; decide +kernel)) zW.nd rfl rfl (zaA rfl T.n_range (za zf zd)) (fun _ _ _ _=>(zu (i:=0) (by show List.Nodup (["k","letters","first"]:List Str); decide) rfl (Or.inl rfl))) (fun _ _ _ _=>zag) (fun _ _ _ _=>(zF zbf (zI zv (pv 1) (zF ze5 (zF zG (pv 2) (zF zbf zf (pv 0))) zf) (fun _ _=>rfl)) (zF zG zf (zF ze5 (zF zG (pv 2) (zF zbf zf (pv 0))) zf))))) (ze (zas (zN (zck hr.units) (pv 2) zf (nomark _)) (ze (zB (i:=5) zW.nd rfl (Or.inr rfl) (zgi PySem.F.plainAttrs_str PySem.F.slot_str_join PySem.F.type_str_join zrB zcx (za (zax (fun _ _ h=>h) rfl (zJ rfl rfl rfl rfl (N:=["k","letters","first"]) (caps:=[none,some 1,some 3]) (by show zat ["pen","letters","way","first","names","word","at"] (zi zbv).names _ _ _=true; decide +kernel)) (zaA rfl T.n_range (za zf zd)) (fun _ _ _ _=>(zu (i:=0) (by show List.Nodup (["k","letters","first"]:List Str); decide) rfl (Or.inl rfl))) (fun _ _ _ _=>zag) (fun _ _ _ _=>(zI zv (pv 1) (zF ze5 (zF zG (pv 2) (zF zbf zf (pv 0))) zf) (fun _ _=>rfl)))) zd))) (zm (zeH (i:=4) (fun _ _ h=>h) rfl (zJ rfl rfl rfl rfl (N:=["k","word"]) (caps:=[none,some 5]) (by show zat ["pen","letters","way","first","names","word","at"] (zi zbv).names _ _ _=true; decide +kernel)) zW.nd rfl rfl (zaA rfl T.n_range (za zf zd)) (fun _ _ _ _=>(zu (i:=0) (by show List.Nodup (["k","word"]:List Str); decide) rfl (Or.inl rfl))) (fun _ _ _ _=>zag) (fun _ _ _ _=>(za7 zfQ (pv 1) zb4 (zbM (zF zG (pv 0) zf))))))) zK) (ze (zas (zN (zck hr.units) (pv 2) zf (nomark _)) (zm (zB (i:=4) zW.nd rfl lo (zal (za zcx (za zcx (za zcx (za zcx (za zcx (za zcx (za zcx (za zcx zd))))))))))) zK) (ze (zB (i:=6) zW.nd rfl lo (zr zD hr dz (za (pv 0) (za zf zd)))) (ze (zB (i:=4) zW.nd rfl lo (zF znQ (za7 zfQ (pv 4) (zbM (pv 6)) zb4) (za7 zfQ (pv 4) zb4 (zbM (pv 6))))) (ze (zas (zN (zck hr.units) (zr zD hr dz (za (pv 0) (za zf zd))) zf (nomark _)) (zm (zbS (zrj PySem.F.plainAttrs_list PySem.F.slot_list_reverse PySem.F.type_list_reverse zl5 (pv 4)))) zK) (zm (zw (pv 4)))))))))))),(zS (za4 zm2 zx) (zS (by walk_at "r") (zS (by walk_at "r") (zS (za4 (zd9 (zds (zh zT zA)) zx zaf (zaj zid (zaj zdI zk (zaj zpx (zaj zbN zk (zaj zid zT zk)) zT)) (zaj zbN zT (zaj zpx (zaj zbN zk (zaj zid zT zk)) zT)))) zx) (zS (zgf (by walk_at "r") (zS (za4 (zq3 zpa zm2 (zh (zav (zds (zh zT zA)) zx zaf (zaj zdI zk (zaj zpx (zaj zbN zk (zaj zid zT zk)) zT))) zA)) zx) (za4 (zd9 (zds (zh zT zA)) zx zaf (zku znd zk zeF (zew (zaj zbN zk zT)))) zx)) zcp) (by walk_at "r")))))),fun xs S R q=>q⟩
theorem zhe:Df P w K mg base "_law_number_of" ["pen"] 3 (spN ["pen"] zbh):=by
 exact Df.dN dd.a5 zdC 1 rfl fun f cdv A outer s H E hr=>⟨_,_,(ze (zB (i:=1) zdC.nd rfl lo (zr zD hr dz (za (pv 0) (za zf zd)))) (ze (zas (zN zkB (pv 1) zf (nomark _)) (zm (zw (zF zbO (zr zD hr dz (za (pv 0) (za zf zd))) zf))) zK) (ze (zas (zN zkB (pv 1) zf (nomark _)) (zm (zw (zF zbO (zr zD hr dz (za (pv 0) (za zf zd))) zf))) zK) (zm (zw (zF zbf (zF zbO (zr zD hr dz (za (pv 0) (za (zF zbf zf (zF zf5 zf zf)) zd))) (zF zf5 zf zf)) (zF zf5 zf zf))))))),(by walk_at "r"),fun xs S R q=>q⟩
theorem znr:Df P w K mg base "_law_few" ["pen","most"] 4 (spN ["pen","most"] zdY):=by
 exact Df.dN dd.a6 zb7 5 rfl fun f cdv A outer s H E hr=>⟨_,_,(ze (zB (i:=2) zb7.nd rfl lo (zr zhF hr dz (za (pv 0) zd))) (ze (zeH (i:=3) (fun _ _ h=>h) rfl (zJ rfl rfl rfl rfl (N:=["k","pen"]) (caps:=[none,some 0]) (by show zat ["pen","most","names","wides","drawing","k","low"] (zi zg3).names _ _ _=true; decide +kernel)) zb7.nd rfl rfl (zaA rfl T.n_range (za (zF zG zf (zr zD hr dz (za (pv 0) (za (pv 1) zd)))) zd)) (fun _ _ _ _=>(zu (i:=0) (by show List.Nodup (["k","pen"]:List Str); decide) rfl (Or.inl rfl))) (fun _ _ _ _=>zag) (fun _ _ _ _=>(zF zG zf (zr zD hr dz (za (pv 1) (za zf zd)))))) (ze (zas (zN (zck hr.units) (zr zD hr dz (za (pv 0) (za zf zd))) zf (nomark _)) (zm (zB (i:=3) zb7.nd rfl lo (zI zv (zal (za (zF zbf (zal (za zf zd)) zf) (za (zal (za zf (za zf zd))) (za (zal (za zf zd)) (za (zF zbf (zal (za zf zd)) zf) zd))))) (zr zD hr dz (za (pv 0) (za zf zd))) (fun _ _=>rfl)))) zK) (ze (zB (i:=4) zb7.nd rfl lo (zal zd)) (ze (za8 PassesOwn.never rfl (zaA rfl T.n_range (za (zq zE (by rfl) T.n_len zae (za (pv 3) zd)) zd)) (zu (i:=5) zb7.nd rfl (Or.inl rfl)) (ze (zB (i:=6) zb7.nd rfl lo (zr zhe hr dz (za (pv 0) zd))) (zm (zbS (zgi PySem.F.plainAttrs_list PySem.F.slot_list_append PySem.F.type_list_append zbT (pv 4) (za (zak (za (zI zv (pv 2) (pv 5) (fun _ _=>rfl)) (za (pv 6) (za (zF zbO (zF zG (pv 6) (zI zv (pv 3) (pv 5) (fun _ _=>rfl))) zf) zd)))) zd)))))) (zm (zw (zaS zah (by rfl) T.n_tuple zaG (za (pv 4) zd))))))))),(zS (by walk_at "r") (zS (za4 (zav (zds (zh (zaj zbN zT (zbF (i:=0) (zh zk (zh zk zA)))) zA)) zx zaf (zaj zbN zT (zbF (i:=0) (zh zk (zh zT zA))))) zx) (by walk_at "r"))),fun xs S R q=>q⟩
theorem zhH:Df P w K mg base "_law_trims_of" ["pen","drawing"] 3 (spN ["pen","drawing"] zca):=by
 exact Df.dN dd.a7 zai 6 rfl fun f cdv A outer s H E hr=>⟨_,_,(ze (zB (i:=2) zai.nd rfl lo (zal zd)) (ze (za8 PassesOwn.never rfl (zaq (pv 1)) (zu (i:=3) zai.nd rfl (Or.inl rfl)) (ze (zB (i:=4) zai.nd rfl lo (zal zd)) (ze (zB (i:=5) zai.nd rfl lo zf) (ze (zB (i:=6) zai.nd rfl lo zf) (ze (za8 PassesOwn.never rfl (zaA rfl T.n_range (za (zr zD hr dz (za (pv 0) (za zf zd))) zd)) (zu (i:=7) zai.nd rfl (Or.inl rfl)) (ze (zB (i:=5) zai.nd rfl lo (zF zG (zF zG (pv 5) zf) (zr zD hr dz (za (pv 0) (za (zI zv (zal (za zf (za zf (za zf (za (zF zf5 zf zf) zd))))) (zr zD hr dz (za (pv 0) (za zf zd))) (fun _ _=>rfl)) zd))))) (ze (zB (i:=6) zai.nd rfl lo (zF zG (zF zG (pv 6) zf) (zr zD hr dz (za (pv 0) (za zf zd))))) (zm (zbS (zgi PySem.F.plainAttrs_list PySem.F.slot_list_append PySem.F.type_list_append zbT (pv 4) (za (zak (za (pv 5) (za (pv 6) zd))) zd))))))) (zm (zbS (zgi PySem.F.plainAttrs_list PySem.F.slot_list_append PySem.F.type_list_append zbT (pv 2) (za (zaS zah (by rfl) T.n_tuple zaG (za (pv 4) zd)) zd))))))))) (zm (zw (zaS zah (by rfl) T.n_tuple zaG (za (pv 2) zd)))))),(by walk_at "r"),fun xs S R q=>q⟩
theorem zom:Df P w K mg base "_law_set" ["pen","drawing"] 3 (spN ["pen","drawing"] zfe):=by
 exact Df.dN dd.a8 zcE 5 rfl fun f cdv A outer s H E hr=>⟨_,_,(ze (zB (i:=2) zcE.nd rfl lo (zal zd)) (ze (za8 PassesOwn.never rfl (zaq (pv 1)) (zcw (n:=3) rfl (zP (zu (i:=3) zcE.nd rfl (Or.inl rfl)) (zP (zu (i:=4) zcE.nd rfl (Or.inl rfl)) (zP (zu (i:=5) zcE.nd rfl (Or.inl rfl)) zbr)))) (ze (zB (i:=6) zcE.nd rfl lo (zal (za (pv 4) (za (pv 5) (za (zF zG (pv 4) (zF zm4 (zF zbO (pv 5) (pv 4)) zf)) (za (zq (zj1 rfl) (by rfl) T.n_min zhX (za (pv 5) (za (zF zG (pv 4) zf) zd))) (za (zq (zhg rfl) (by rfl) T.n_max zjq (za (pv 4) (za (zF zbO (pv 5) zf) zd))) zd))))))) (zm (zbS (zgi PySem.F.plainAttrs_list PySem.F.slot_list_append PySem.F.type_list_append zbT (pv 2) (za (zI zv (zF zG (pv 6) (zal (za (zF zG (pv 4) (zF ze5 (zr zD hr dz (za (pv 0) (za (zF zf5 zf zf) zd))) (zF zG (zF zbO (pv 5) (pv 4)) zf))) zd))) (zr zD hr dz (za (pv 0) (za zf zd))) (fun _ _=>rfl)) zd)))))) (zm (zw (zaS zah (by rfl) T.n_tuple zaG (za (pv 2) zd)))))),(by walk_at "r"),fun xs S R q=>q⟩
theorem zhy:Df P w K mg base "_law_terms_of" ["pen","drawing"] 3 (spN ["pen","drawing"] zcX):=by
 exact Df.dN dd.a9 zbc 3 rfl fun f cdv A outer s H E hr=>⟨_,_,(ze (zB (i:=2) zbc.nd rfl lo (zI zv (zog (zcs (zog (zcs zf (zcs (zeg zcu zf) (zcs zf (zcs (zeg zcu zf) (zcs zf (zcs (zeg zcu zf) zqJ))))))) (zcs (zal (za zf (za (zeg zcu zf) zd))) (zcs (zal (za zf (za (zeg zcu zf) zd))) (zcs (zal (za zf (za (zeg zcu zf) zd))) (zcs (zal (za zf (za zf (za (zeg zcu zf) (za (zeg zcu zf) zd))))) (zcs (zal (za zf (za zf (za (zeg zcu zf) (za (zeg zcu zf) zd))))) zqJ))))))) (zr zD hr dz (za (pv 0) (za zf zd))) (fun _ _=>rfl))) (ze (zB (i:=3) zbc.nd rfl lo (zal zd)) (ze (za8 PassesOwn.never rfl (zaA rfl T.n_range (za (zq zE (by rfl) T.n_len zae (za (pv 1) zd)) zd)) (zu (i:=4) zbc.nd rfl (Or.inl rfl)) (zm (zas (zN zii (zr zD hr dz (za (pv 0) (za zf zd))) zf (nomark _)) (zm (zbS (zgi PySem.F.plainAttrs_list PySem.F.slot_list_append PySem.F.type_list_append zbT (pv 3) (za (zak (za (pv 4) (za (zI zv (pv 2) (zr zD hr dz (za (pv 0) (za (zq zE (by rfl) T.n_len zae (za (pv 2) zd)) zd))) (fun _ _=>rfl)) zd))) zd)))) zK))) (ze (zas (zN (zck hr.units) (pv 3) (zal zd) (nomark _)) (zm (zB (i:=3) zbc.nd rfl lo (zal (za (zak (za (zr zD hr dz (za (pv 0) (za (zq zE (by rfl) T.n_len zae (za (pv 1) zd)) zd))) (za (zI zv (pv 2) (zr zD hr dz (za (pv 0) (za (zq zE (by rfl) T.n_len zae (za (pv 2) zd)) zd))) (fun _ _=>rfl)) zd))) zd)))) zK) (zm (zw (zaS zah (by rfl) T.n_tuple zaG (za (pv 3) zd)))))))),(by walk_at "r"),fun xs S R q=>q⟩
theorem zcz:Df P w K mg base "_law_filings" ["trims"] 1 (spN ["trims"] zaX):=by
 exact Df.dN dd.a10 za2 4 rfl fun f cdv A outer s H E hr=>⟨_,_,(ze (zB (i:=1) za2.nd rfl lo (zal (za (zak zd) zd))) (ze (za8 PassesOwn.never rfl (zaq (pv 0)) (zu (i:=2) za2.nd rfl (Or.inl rfl)) (ze (zB (i:=3) za2.nd rfl lo (zal zd)) (ze (za8 PassesOwn.never rfl (zaq (pv 1)) (zu (i:=4) za2.nd rfl (Or.inr rfl)) (zm (zbS (zgi PySem.F.plainAttrs_list PySem.F.slot_list_extend PySem.F.type_list_extend zhf (pv 3) (za (zax (fun _ _ h=>h) rfl (zJ rfl rfl rfl rfl (N:=["number","ahead"]) (caps:=[none,some 4]) (by show zat ["trims","found","one","rows","ahead"] (zi zdr).names _ _ _=true; decide +kernel)) (zaA rfl T.n_range (za (zF zG (zq zE (by rfl) T.n_len zae (za (pv 2) zd)) zf) zd)) (fun _ _ _ _=>(zu (i:=0) (by show List.Nodup (["number","ahead"]:List Str); decide) rfl (Or.inl rfl))) (fun _ _ _ _=>zag) (fun _ _ _ _=>(zF zG (pv 1) (zak (za (pv 0) zd))))) zd))))) (zm (zB (i:=1) za2.nd rfl lo (pv 3)))))) (zm (zw (pv 1))))),(zS (by walk_at "r") (zS (zhV (za6 zk) zx (zqM (zS (zq1 (zS (by walk_at "r") (zhV (za6 zk) zx (ziG (zpI zgF zk (zh (zav (zds (zh (zaj zbN (zct zdT (zh zk zA)) zT) zA)) zx zaf (zaj zbN zk (zhp (zh zk zA)))) zA)))))) (za4 zk zx)))) (zaB zk))),fun xs S R q=>q⟩
theorem zeK:Df P w K mg base "_law_filed" ["built","trims","filing"] 1 (spN ["built","trims","filing"] zbg):=by
 exact Df.dN dd.a11 zdW 2 rfl fun f cdv A outer s H E hr=>⟨_,_,(ze (zB (i:=3) zdW.nd rfl lo (zaS zjF (by rfl) T.n_list zfz (za (pv 0) zd))) (ze (za8 PassesOwn.never rfl (zaA rfl T.n_range (za (zq zE (by rfl) T.n_len zae (za (pv 2) zd)) zd)) (zu (i:=4) zdW.nd rfl (Or.inl rfl)) (zm (zas (zN zii (zI zv (pv 2) (pv 4) (fun _ _=>rfl)) zf (nomark _)) (zm (zkW (zF zbO (zI zv (pv 3) (pv 4) (fun _ _=>rfl)) (zI zv (zI zv (zI zv (pv 1) (pv 4) (fun _ _=>rfl)) (zF zbO (zI zv (pv 2) (pv 4) (fun _ _=>rfl)) zf) (fun _ _=>rfl)) zf (fun _ _=>rfl))) (znp (pv 3) (pv 4) ziC))) zK))) (zm (zw (zaS zah (by rfl) T.n_tuple zaG (za (pv 3) zd)))))),(by walk_at "r"),fun xs S R q=>q⟩
theorem zg7:Df P w K mg base "_law_worth" ["gap","one"] 1 (spN ["gap","one"] zdi):=by
 exact Df.dN dd.a12 zcl 3 rfl fun f cdv A outer s H E hr=>⟨_,_,(ze (zB (i:=2) zcl.nd rfl lo zf) (ze (za8 PassesOwn.never rfl (zaq (zI zv (pv 0) zf (fun _ _=>rfl))) (zcw (n:=2) rfl (zP (zu (i:=3) zcl.nd rfl (Or.inl rfl)) (zP (zu (i:=4) zcl.nd rfl (Or.inl rfl)) zbr))) (zm (zB (i:=2) zcl.nd rfl lo (zF zG (pv 2) (zF zbf (pv 4) (zI zv (pv 1) (pv 3) (fun _ _=>rfl))))))) (zm (zw (pv 2))))),(by walk_at "r"),fun xs S R q=>q⟩
theorem zfO:Df P w K mg base "_law_wanted" ["pen","drawing","built","trims"] 4 (spN ["pen","drawing","built","trims"] zch):=by
 exact Df.dN dd.a13 za0 6 rfl fun f cdv A outer s H E hr=>⟨_,_,(ze (zB (i:=4) za0.nd rfl lo (zal zd)) (ze (za8 PassesOwn.never rfl (zaA rfl T.n_range (za (zF zG zf (zr zD hr dz (za (pv 0) (za zf zd)))) zd)) (zu (i:=5) za0.nd rfl (Or.inl rfl)) (ze (zB (i:=6) za0.nd rfl lo (zr zhy hr dz (za (pv 0) (za (pv 1) zd)))) (ze (zB (i:=7) za0.nd rfl lo (zr zcz hr dz (za (pv 3) zd))) (ze (zB (i:=8) za0.nd rfl lo (zr zeK hr dz (za (pv 2) (za (pv 3) (za (zI zv (pv 7) (zr zD hr dz (za (pv 0) (za (zq zE (by rfl) T.n_len zae (za (pv 7) zd)) zd))) (fun _ _=>rfl)) zd))))) (ze (zB (i:=9) za0.nd rfl lo (zF zbO (zF zG (zr zg7 hr dz (za (zak (za (pv 6) (za zf (za zf zd)))) (za (pv 8) zd))) (zr zD hr dz (za (pv 0) (za zf zd)))) zf)) (zm (zbS (zgi PySem.F.plainAttrs_list PySem.F.slot_list_append PySem.F.type_list_append zbT (pv 4) (za (zak (za (pv 6) (za (pv 9) (za (zF zG (pv 9) (zr zD hr dz (za (pv 0) (za zf zd)))) zd)))) zd))))))))) (zm (zw (zaS zah (by rfl) T.n_tuple zaG (za (pv 4) zd)))))),(by walk_at "r"),fun xs S R q=>q⟩
theorem zep:Df P w K mg base "_law_price_of" ["trims","filing"] 1 (spN ["trims","filing"] zaz):=by
 exact Df.dN dd.a14 zbR 2 rfl fun f cdv A outer s H E hr=>⟨_,_,(ze (zB (i:=2) zbR.nd rfl lo zf) (ze (za8 PassesOwn.never rfl (zaA rfl T.n_range (za (zq zE (by rfl) T.n_len zae (za (pv 1) zd)) zd)) (zu (i:=3) zbR.nd rfl (Or.inl rfl)) (zm (zB (i:=2) zbR.nd rfl lo (zF zG (pv 2) (zI zv (zF zG (zal (za zf zd)) (zax (fun _ _ h=>h) rfl (zJ (L:=0) rfl rfl rfl rfl (N:=["much","price"]) (caps:=[none,none]) (by show zat ["trims","filing","total","part"] (zi zcY).names _ _ _=true; decide +kernel)) (zaq (zI zv (pv 0) (pv 3) (fun _ _=>rfl))) (fun _ _ _ _=>(zcw (n:=2) rfl (zP (zu (i:=0) (by show List.Nodup (["much","price"]:List Str); decide) rfl (Or.inl rfl)) (zP (zu (i:=1) (by show List.Nodup (["much","price"]:List Str); decide) rfl (Or.inl rfl)) zbr)))) (fun _ _ _ _=>zag) (fun _ _ _ _=>(pv 1)))) (zI zv (pv 1) (pv 3) (fun _ _=>rfl)) (fun _ _=>rfl)))))) (zm (zw (pv 2))))),(zS (za4 zT zx) (zS (zhV (by walk_at "r") zx (za4 (zaj zbN zk (zaj zdI (zaj zbN (by walk_at "r") (zav (za6 (zaj zdI zk zk)) (zeo (zaw zx (zaw zx zcZ))) zaf zk)) (by walk_at "r"))) zx)) (zaB zk))),fun xs S R q=>q⟩
theorem zhQ:Df P w K mg base "_law_does" ["gaps","left"] 2 (spN ["gaps","left"] zc9):=by
 exact Df.dN dd.a15 zkq 0 rfl fun f cdv A outer s H E hr=>⟨_,_,(zm (zw (zq (zcj rfl) (by rfl) T.n_all zfS (za (zax (fun _ _ h=>h) rfl (zJ rfl rfl rfl rfl (N:=["gap","left"]) (caps:=[none,some 1]) (by show zat ["gaps","left"] (zi zfE).names _ _ _=true; decide +kernel)) (zaq (pv 0)) (fun _ _ _ _=>(zu (i:=0) (by show List.Nodup (["gap","left"]:List Str); decide) rfl (Or.inl rfl))) (fun _ _ _ _=>zag) (fun _ _ _ _=>(zgu zhA zhA (zI zv (pv 0) zf (fun _ _=>rfl)) (zr zg7 hr dz (za (pv 0) (za (pv 1) zd))) (zI zv (pv 0) zf (fun _ _=>rfl))))) zd)))),(zaB (zct zfd (zh (zav (za6 zk) zx zaf (zgt zjn zjn (zaj zdI zk zT) (zV (zh zk (zh zk zA))) (zaj zdI zk zT))) zA))),fun xs S R q=>q⟩
theorem zhD:Df P w K mg base "_law_least_of" ["gaps","built","trims"] 3 (spN ["gaps","built","trims"] zbn):=by
 exact Df.dN dd.a16 zcF 2 rfl fun f cdv A outer s H E hr=>⟨_,_,(ze (zeH (i:=3) (fun _ _ h=>h) rfl (zJ rfl rfl rfl rfl (N:=["one","gaps","built","trims"]) (caps:=[none,some 0,some 1,some 2]) (by show zat ["gaps","built","trims","good","prices"] (zi zcb).names _ _ _=true; decide +kernel)) zcF.nd rfl rfl (zaq (zr zcz hr dz (za (pv 2) zd))) (fun _ _ _ _=>(zu (i:=0) (by show List.Nodup (["one","gaps","built","trims"]:List Str); decide) rfl (Or.inl rfl))) (fun _ _ _ _=>(zmV (zY (zr zhQ hr dz (za (pv 1) (za (zr zeK hr dz (za (pv 2) (za (pv 3) (za (pv 0) zd)))) zd))) (fun _=>rfl)))) (fun _ _ _ _=>(pv 0))) (ze (zeH (i:=4) (fun _ _ h=>h) rfl (zJ rfl rfl rfl rfl (N:=["one","trims"]) (caps:=[none,some 2]) (by show zat ["gaps","built","trims","good","prices"] (zi zcb).names _ _ _=true; decide +kernel)) zcF.nd rfl rfl (zaq (pv 3)) (fun _ _ _ _=>(zu (i:=0) (by show List.Nodup (["one","trims"]:List Str); decide) rfl (Or.inl rfl))) (fun _ _ _ _=>zag) (fun _ _ _ _=>(zr zep hr dz (za (pv 1) (za (pv 0) zd))))) (ze (zas (zN (zck hr.units) (pv 4) (zal zd) (nomark _)) (zm (zw zc7)) zK) (zm (zw (zq (zhb rfl hr.units) (by rfl) T.n_min zhX (za (pv 4) zd))))))),(zS (za4 (zav (za6 (zV (zh zk zA))) zx (zdV (zV (zh zk (zh (zV (zh zk (zh zk (zh zk zA)))) zA)))) zk) zx) (zS (za4 (zav (za6 zk) zx zaf (zV (zh zk (zh zk zA)))) zx) (by walk_at "r"))),fun xs S R q=>q⟩
theorem zfu:Df P w K mg base "sizes_of" ["offers"] 1 (spN ["offers"] zcB):=by
 exact Df.dN dd.a17 zkN 0 rfl fun f cdv A outer s H E hr=>⟨_,_,(zm (zw (zax (fun _ _ h=>h) rfl (zJ (L:=0) rfl rfl rfl rfl (N:=["of_part"]) (caps:=[none]) (by show zat ["offers"] (zi zfB).names _ _ _=true; decide +kernel)) (zaq (pv 0)) (fun _ _ _ _=>(zu (i:=0) (by show List.Nodup (["of_part"]:List Str); decide) rfl (Or.inl rfl))) (fun _ _ _ _=>zag) (fun _ _ _ _=>(zq zE (by rfl) T.n_len zae (za (pv 0) zd)))))),(zaB (zd9 (za6 zk) zx zaf (zct zdT (zh zk zA)))),fun xs S R q=>q⟩
theorem zcm:Df P w K mg base "choices_behind" ["sizes","beginning"] 1 (spN ["sizes","beginning"] zaE):=by
 exact Df.dN dd.a18 zbj 2 rfl fun f cdv A outer s H E hr=>⟨_,_,(ze (zB (i:=2) zbj.nd rfl lo zf) (ze (za8 PassesOwn.never rfl (zaq (za7 zfQ (pv 0) (zbM (zq zE (by rfl) T.n_len zae (za (pv 1) zd))) zb4)) (zu (i:=3) zbj.nd rfl (Or.inl rfl)) (zm (zB (i:=2) zbj.nd rfl lo (zF zbf (pv 2) (pv 3))))) (zm (zw (pv 2))))),(by walk_at "r"),fun xs S R q=>q⟩
theorem zde:Df P w K mg base "refuse_too_many" ["sizes"] 3 (spN ["sizes"] zaR):=by
 exact Df.dN dd.a19 zcV 1 rfl fun f cdv A outer s H E hr=>⟨_,_,(ze (zB (i:=1) zcV.nd rfl lo (zr zcm hr dz (za (pv 0) (za (zak zd) zd)))) (zm (zas (zN zii (pv 1) (zpg rfl T.g_MOST_CHOICES) (nomark _)) (zm zpr) zK))),(by walk_at "r"),fun xs S R q=>q⟩
theorem zdM:Df P w K mg base "ways_of" ["trims"] 1 (spN ["trims"] zcg):=by
 exact Df.dN dd.a20 zl0 0 rfl fun f cdv A outer s H E hr=>⟨_,_,(zm (zw (zaS zah (by rfl) T.n_tuple zaG (za (zax (fun _ _ h=>h) rfl (zJ (L:=0) rfl rfl rfl rfl (N:=["of_part"]) (caps:=[none]) (by show zat ["trims"] (zi zg2).names _ _ _=true; decide +kernel)) (zaq (pv 0)) (fun _ _ _ _=>(zu (i:=0) (by show List.Nodup (["of_part"]:List Str); decide) rfl (Or.inl rfl))) (fun _ _ _ _=>zag) (fun _ _ _ _=>(zF zG (zak (za (zak (za zf (za zf zd))) zd)) (pv 0)))) zd)))),(zaB (zct zfp (zh (zav (za6 zk) zx zaf (zaj zbN (zhp (zh (zhp (zh zT (zh zT zA))) zA)) zk)) zA))),fun xs S R q=>q⟩
theorem ze6:Df P w K mg base "each_longer" ["beginnings","numbers"] 1 (spN ["beginnings","numbers"] zaZ):=by
 exact Df.dN dd.a21 zc3 2 rfl fun f cdv A outer s H E hr=>⟨_,_,(ze (zB (i:=2) zc3.nd rfl lo (zal zd)) (ze (za8 PassesOwn.never rfl (zaq (pv 0)) (zu (i:=3) zc3.nd rfl (Or.inr rfl)) (zm (zbS (zgi PySem.F.plainAttrs_list PySem.F.slot_list_extend PySem.F.type_list_extend zhf (pv 2) (za (zax (fun _ _ h=>h) rfl (zJ rfl rfl rfl rfl (N:=["number","beginning"]) (caps:=[none,some 3]) (by show zat ["beginnings","numbers","longer","beginning"] (zi zdy).names _ _ _=true; decide +kernel)) (zaq (pv 1)) (fun _ _ _ _=>(zu (i:=0) (by show List.Nodup (["number","beginning"]:List Str); decide) rfl (Or.inl rfl))) (fun _ _ _ _=>zag) (fun _ _ _ _=>(zF zG (pv 1) (zak (za (pv 0) zd))))) zd))))) (zm (zw (pv 2))))),(zS (by walk_at "r") (zS (zhV (za6 zk) zx (ziG (zpI zgF zk (zh (zav (za6 zk) zx zaf (zaj zbN zk (zhp (zh zk zA)))) zA)))) (zaB zk))),fun xs S R q=>q⟩
theorem zij:Df P w K mg base "all_choices" ["sizes"] 2 (spN ["sizes"] zcA):=by
 exact Df.dN dd.a22 zcd 2 rfl fun f cdv A outer s H E hr=>⟨_,_,(ze (zB (i:=1) zcd.nd rfl lo (zal (za (zak zd) zd))) (ze (za8 PassesOwn.never rfl (zaq (pv 0)) (zu (i:=2) zcd.nd rfl (Or.inl rfl)) (zm (zB (i:=1) zcd.nd rfl lo (zr ze6 hr dz (za (pv 1) (za (zoV rfl rfl T.n_list rfl T.n_range (za (pv 2) zd)) zd)))))) (zm (zw (pv 1))))),(by walk_at "r"),fun xs S R q=>q⟩
theorem zmb:Df P w K mg base "worth_of" ["gap","one"] 1 (spN ["gap","one"] zec):=by
 exact Df.dN dd.a23 zko 0 rfl fun f cdv A outer s H E hr=>⟨_,_,(zm (zw (zq (zgH rfl) (by rfl) T.n_sum zmw (za (zax (fun _ _ h=>h) rfl (zJ rfl rfl rfl rfl (N:=["part","times","one"]) (caps:=[none,none,some 1]) (by show zat ["gap","one"] (zi zfF).names _ _ _=true; decide +kernel)) (zaq (zI zv (pv 0) zf (fun _ _=>rfl))) (fun _ _ _ _=>(zcw (n:=2) rfl (zP (zu (i:=0) (by show List.Nodup (["part","times","one"]:List Str); decide) rfl (Or.inl rfl)) (zP (zu (i:=1) (by show List.Nodup (["part","times","one"]:List Str); decide) rfl (Or.inl rfl)) zbr)))) (fun _ _ _ _=>zag) (fun _ _ _ _=>(zF zbf (pv 1) (zI zv (pv 2) (pv 0) (fun _ _=>rfl))))) zd)))),(zaB (zct zkY (zh (zav (za6 (zaj zdI zk zT)) (zeo (zaw zx (zaw zx zcZ))) zaf (zaj zid zk (zaj zdI zk zk))) zA))),fun xs S R q=>q⟩
theorem zsw:Df P w K mg base "keeps" ["gap","one"] 2 (spN ["gap","one"] ziP):=by
 exact Df.dN dd.a24 zp4 0 rfl fun f cdv A outer s H E hr=>⟨_,_,(zm (zw (zgu zhA zhA (zI zv (pv 0) zf (fun _ _=>rfl)) (zr zmb hr dz (za (pv 0) (za (pv 1) zd))) (zI zv (pv 0) zf (fun _ _=>rfl))))),(by walk_at "r"),fun xs S R q=>q⟩
theorem zkn:Df P w K mg base "kept_gaps" ["gaps","one"] 3 (spN ["gaps","one"] zdp):=by
 exact Df.dN dd.a25 zjA 0 rfl fun f cdv A outer s H E hr=>⟨_,_,(zm (zw (zax (fun _ _ h=>h) rfl (zJ rfl rfl rfl rfl (N:=["gap","one"]) (caps:=[none,some 1]) (by show zat ["gaps","one"] (zi zeD).names _ _ _=true; decide +kernel)) (zaq (pv 0)) (fun _ _ _ _=>(zu (i:=0) (by show List.Nodup (["gap","one"]:List Str); decide) rfl (Or.inl rfl))) (fun _ _ _ _=>zag) (fun _ _ _ _=>(zr zsw hr dz (za (pv 0) (za (pv 1) zd))))))),(zaB (zd9 (za6 zk) zx zaf (zV (zh zk (zh zk zA))))),fun xs S R q=>q⟩
theorem zfk:Df P w K mg base "chosen_ways" ["trims","filing"] 2 (spN ["trims","filing"] zbQ):=by
 exact Df.dN dd.a26 zhv 0 rfl fun f cdv A outer s H E hr=>⟨_,_,(zm (zw (zax (fun _ _ h=>h) rfl (zJ (L:=0) rfl rfl rfl rfl (N:=["of_part","number"]) (caps:=[none,none]) (by show zat ["trims","filing"] (zi zdk).names _ _ _=true; decide +kernel)) (zfL rfl T.n_zip (za (zr zdM hr dz (za (pv 0) zd)) (za (pv 1) zd))) (fun _ _ _ _=>(zcw (n:=2) rfl (zP (zu (i:=0) (by show List.Nodup (["of_part","number"]:List Str); decide) rfl (Or.inl rfl)) (zP (zu (i:=1) (by show List.Nodup (["of_part","number"]:List Str); decide) rfl (Or.inl rfl)) zbr)))) (fun _ _ _ _=>zag) (fun _ _ _ _=>(zI zv (pv 0) (pv 1) (fun _ _=>rfl)))))),(zaB (zd9 (zfs (zh (zV (zh zk zA)) (zh zk zA))) (zeo (zaw zx (zaw zx zcZ))) zaf (zaj zdI zk zk))),fun xs S R q=>q⟩
theorem zb9:Df P w K mg base "filing_price" ["trims","filing"] 3 (spN ["trims","filing"] zaL):=by
 exact Df.dN dd.a27 zhl 0 rfl fun f cdv A outer s H E hr=>⟨_,_,(zm (zw (zq (zgH rfl) (by rfl) T.n_sum zmw (za (zax (fun _ _ h=>h) rfl (zJ (L:=0) rfl rfl rfl rfl (N:=["way"]) (caps:=[none]) (by show zat ["trims","filing"] (zi zcW).names _ _ _=true; decide +kernel)) (zaq (zr zfk hr dz (za (pv 0) (za (pv 1) zd)))) (fun _ _ _ _=>(zu (i:=0) (by show List.Nodup (["way"]:List Str); decide) rfl (Or.inl rfl))) (fun _ _ _ _=>zag) (fun _ _ _ _=>(zI zv (pv 0) zf (fun _ _=>rfl)))) zd)))),(zaB (zct zkY (zh (zav (za6 (zV (zh zk (zh zk zA)))) zx zaf (zaj zdI zk zT)) zA))),fun xs S R q=>q⟩
theorem zmH:Df P w K mg base "filed" ["built","trims","filing"] 3 (spN ["built","trims","filing"] zg1):=by
 exact Df.dN dd.a28 zp5 0 rfl fun f cdv A outer s H E hr=>⟨_,_,(zm (zw (zaS zah (by rfl) T.n_tuple zaG (za (zax (fun _ _ h=>h) rfl (zJ (L:=0) rfl rfl rfl rfl (N:=["number","way"]) (caps:=[none,none]) (by show zat ["built","trims","filing"] (zi zkx).names _ _ _=true; decide +kernel)) (zfL rfl T.n_zip (za (pv 0) (za (zr zfk hr dz (za (pv 1) (za (pv 2) zd))) zd))) (fun _ _ _ _=>(zcw (n:=2) rfl (zP (zu (i:=0) (by show List.Nodup (["number","way"]:List Str); decide) rfl (Or.inl rfl)) (zP (zu (i:=1) (by show List.Nodup (["number","way"]:List Str); decide) rfl (Or.inl rfl)) zbr)))) (fun _ _ _ _=>zag) (fun _ _ _ _=>(zF zbO (pv 0) (zI zv (pv 1) zf (fun _ _=>rfl))))) zd)))),(zaB (zct zfp (zh (zav (zfs (zh zk (zh (zV (zh zk (zh zk zA))) zA))) (zeo (zaw zx (zaw zx zcZ))) zaf (zaj zoa zk (zaj zdI zk zT))) zA))),fun xs S R q=>q⟩
theorem zfy:Df P w K mg base "cheapest_filing" ["job","built","trims"] 6 (spN ["job","built","trims"] zbm):=by
 obtain⟨c,P',hc,ht⟩:=ll.l_cheapest_filing;exact zq2 dd.a29 hc zbU 2 rfl fun f A outer s H E hr=>⟨_,_,(ze (zB (i:=3) zbU.nd rfl lo (zr zfu hr dz (za (zr zdM hr dz (za (pv 2) zd)) zd))) (ze (zbS (zr zde hr dz (za (pv 3) zd))) (ze (zeH (i:=4) (fun _ _ h=>h) rfl (zJ rfl rfl rfl rfl (N:=["filing","job","built","trims"]) (caps:=[none,some 0,some 1,some 2]) (by show zat ["job","built","trims","sizes","found"] (zi zbk).names _ _ _=true; decide +kernel)) zbU.nd rfl rfl (zaq (zr zij hr dz (za (pv 3) zd))) (fun _ _ _ _=>(zu (i:=0) (by show List.Nodup (["filing","job","built","trims"]:List Str); decide) rfl (Or.inl rfl))) (fun _ _ _ _=>(zmV (zY (zq (zcj rfl) (by rfl) T.n_all zfS (za (zr zkn hr dz (za (zI zv (pv 1) zf (fun _ _=>rfl)) (za (zr zmH hr dz (za (pv 2) (za (pv 3) (za (pv 0) zd)))) zd))) zd)) (fun _=>rfl)))) (fun _ _ _ _=>(pv 0))) (zm (zw (zop (k:=3) (x:="filing") (caps:=["trims"]) (ks:=[2]) ht rfl rfl rfl rfl rfl rfl (by show zgd ["job","built","trims","sizes","found"] (zi zbk).names _ _ _ _=true; decide +kernel) rfl (fun _ _ _ _ _=>rfl) hr rfl T.n_min (pv 4) (fun cl f c' s H hr=>(zr zb9 hr dz (za (pv 1) (za (pv 0) zd)))))))))),(zS (by walk_at "r") (zS (by walk_at "r") (zS (za4 (zav (za6 (zV (zh zk zA))) zx (zdV (zct zfd (zh (zV (zh (zaj zdI zk zT) (zh (zV (zh zk (zh zk (zh zk zA)))) zA))) zA))) zk) zx) (zaB (zns zk (zV (zh zk (zh zk zA)))))))),fun xs S R q=>q⟩
theorem zfw:Df P w K mg base "_law_told" ["drawing","gaps","built","trims"] 7 (spN ["drawing","gaps","built","trims"] zbl):=by
 exact Df.dN dd.a30 zg8 1 rfl fun f cdv A outer s H E hr=>⟨_,_,(ze (zB (i:=4) zg8.nd rfl lo (zr zfy hr dz (za (zak (za (pv 0) (za (pv 1) zd))) (za (pv 2) (za (pv 3) zd))))) (ze (zas (zN zkD (pv 4) zc7 (nomark _)) (zm (zw zc7)) zK) (ze (zas (zbq (zY (zr zhQ hr dz (za (pv 1) (za (zr zeK hr dz (za (pv 2) (za (pv 3) (za (pv 4) zd)))) zd))) (fun _=>rfl))) (zm (zw (zeg zcu zf))) zK) (zm (zw (zr zb9 hr dz (za (pv 3) (za (pv 4) zd)))))))),(by walk_at "r"),fun xs S R q=>q⟩
theorem zgl:DfH P w K mg base "rows_with_whys" ["sizes","why_of"] 7 (5+1) ["beginning"] zbE:=by
 exact ztH dd.a31 zaN 4 rfl fun F ql f cdv A outer s H E hr LA=>⟨_,_,(ze (zB (i:=2) zaN.nd rfl lo (zal zd)) (ze (zB (i:=3) zaN.nd rfl lo (zal (za (zak zd) zd))) (ze (zoM PassesOwn.never (zY (pv 3) (fun _=>rfl)) (ze (zB (i:=4) zaN.nd rfl lo (zrj PySem.F.plainAttrs_list PySem.F.slot_list_pop PySem.F.type_list_pop zuE (pv 3))) (ze (zB (i:=5) zaN.nd rfl lo (zmq LA hr dz (pv 1) (za (pv 4) zd))) (zm (zas (zN ze1 (pv 5) zc7 (nomark _)) (zm (zbS (zgi PySem.F.plainAttrs_list PySem.F.slot_list_append PySem.F.type_list_append zbT (pv 2) (za (zak (za (pv 4) (za (pv 5) zd))) zd)))) (zm (zas (zN (zck hr.units) (zq zE (by rfl) T.n_len zae (za (pv 4) zd)) (zq zE (by rfl) T.n_len zae (za (pv 0) zd)) (nomark _)) (zm (zw zc7)) (zm (zbS (zgi PySem.F.plainAttrs_list PySem.F.slot_list_extend PySem.F.type_list_extend zhf (pv 3) (za (zr ze6 hr dz (za (zal (za (pv 4) zd)) (za (zp9 rfl rfl T.n_list rfl T.n_range (za (zF zbO (zI zv (pv 0) (zq zE (by rfl) T.n_len zae (za (pv 4) zd)) (fun _ _=>rfl)) zf) (za (zeg zcu zf) (za (zeg zcu zf) zd)))) zd))) zd))))))))))) (zm (zw (pv 2)))))),(by walk_at "r"),fun xs S R q=>q⟩
theorem zcO:Df P w K mg base "what_may_be_left" ["drawing","built","trims","beginning"] 4 (spN ["drawing","built","trims","beginning"] zaI):=by
 exact Df.dN dd.a32 zaW 3 rfl fun f cdv A outer s H E hr=>⟨_,_,(ze (zeH (i:=4) (fun _ _ h=>h) rfl (zJ (L:=0) rfl rfl rfl rfl (N:=["number"]) (caps:=[none]) (by show zat ["drawing","built","trims","beginning","spans","number","ways"] (zi za9).names _ _ _=true; decide +kernel)) zaW.nd rfl rfl (zaq (zr zmH hr dz (za (pv 1) (za (pv 2) (za (pv 3) zd))))) (fun _ _ _ _=>(zu (i:=0) (by show List.Nodup (["number"]:List Str); decide) rfl (Or.inl rfl))) (fun _ _ _ _=>zag) (fun _ _ _ _=>(zak (za (pv 0) (za (pv 0) zd))))) (ze (za8 PassesOwn.never rfl (zaq (za7 zfQ (zsf rfl rfl T.n_list rfl T.n_zip (za (pv 1) (za (zr zdM hr dz (za (pv 2) zd)) zd))) (zbM (zq zE (by rfl) T.n_len zae (za (pv 3) zd))) zb4)) (zcw (n:=2) rfl (zP (zu (i:=5) zaW.nd rfl (Or.inl rfl)) (zP (zu (i:=6) zaW.nd rfl (Or.inl rfl)) zbr))) (zm (zbS (zgi PySem.F.plainAttrs_list PySem.F.slot_list_append PySem.F.type_list_append zbT (pv 4) (za (zak (za (zF zbO (pv 5) (zI zv (zI zv (pv 6) (zeg zcu zf) (fun _ _=>rfl)) zf (fun _ _=>rfl))) (za (pv 5) zd))) zd))))) (zm (zw (zaS zah (by rfl) T.n_tuple zaG (za (zax (fun _ _ h=>h) rfl (zJ (L:=0) rfl rfl rfl rfl (N:=["part","span"]) (caps:=[none,none]) (by show zat ["drawing","built","trims","beginning","spans","number","ways"] (zi za9).names _ _ _=true; decide +kernel)) (zfL rfl T.n_zip (za (pv 0) (za (pv 4) zd))) (fun _ _ _ _=>(zcw (n:=2) rfl (zP (zu (i:=0) (by show List.Nodup (["part","span"]:List Str); decide) rfl (Or.inl rfl)) (zP (zu (i:=1) (by show List.Nodup (["part","span"]:List Str); decide) rfl (Or.inl rfl)) zbr)))) (fun _ _ _ _=>zag) (fun _ _ _ _=>(zak (za (zI zv (pv 0) zf (fun _ _=>rfl)) (za (zI zv (pv 1) zf (fun _ _=>rfl)) (za (zI zv (pv 1) zf (fun _ _=>rfl)) zd)))))) zd)))))),(zqM (zS (zq1 (zS (za4 (zd9 (za6 (zV (zh zk (zh zk (zh zk zA))))) zx zaf (zhp (zh zk (zh zk zA)))) zx) (by walk_at "r"))) (zaB (zct zfp (zh (zav (zfs (zh zk (zh zk zA))) (zeo (zaw zx (zaw zx zcZ))) zaf (zhp (zh (zaj zdI zk zT) (zh (zaj zdI zk zT) (zh (zaj zdI zk zT) zA))))) zA))))),fun xs S R q=>q⟩
theorem ztj:Df P w K mg base "meet" ["one","other"] 1 (spN ["one","other"] zlv):=by
 exact Df.dN dd.a33 zkM 2 rfl fun f cdv A outer s H E hr=>⟨_,_,(ze (zB (i:=2) zkM.nd rfl lo (zq (zhg rfl) (by rfl) T.n_max zjq (za (zI zv (pv 0) zf (fun _ _=>rfl)) (za (zI zv (pv 1) zf (fun _ _=>rfl)) zd)))) (ze (zB (i:=3) zkM.nd rfl lo (zq (zj1 rfl) (by rfl) T.n_min zhX (za (zI zv (pv 0) zf (fun _ _=>rfl)) (za (zI zv (pv 1) zf (fun _ _=>rfl)) zd)))) (zm (zw (zpP (zN zhA (pv 2) (pv 3) (nomark _)) (zak (za (pv 2) (za (pv 3) zd))) zc7))))),(by walk_at "r"),fun xs S R q=>q⟩
theorem zs8:Df P w K mg base "plus" ["one","other"] 1 (spN ["one","other"] zlc):=by
 exact Df.dN dd.a34 zrw 0 rfl fun f cdv A outer s H E hr=>⟨_,_,(zm (zw (zak (za (zF zG (zI zv (pv 0) zf (fun _ _=>rfl)) (zI zv (pv 1) zf (fun _ _=>rfl))) (za (zF zG (zI zv (pv 0) zf (fun _ _=>rfl)) (zI zv (pv 1) zf (fun _ _=>rfl))) zd))))),(by walk_at "r"),fun xs S R q=>q⟩
theorem zje:Df P w K mg base "multiplied" ["one","by"] 1 (spN ["one","by"] zcP):=by
 exact Df.dN dd.a35 zeX 1 rfl fun f cdv A outer s H E hr=>⟨_,_,(ze (zB (i:=2) zeX.nd rfl lo (zak (za (zF zbf (zI zv (pv 0) zf (fun _ _=>rfl)) (pv 1)) (za (zF zbf (zI zv (pv 0) zf (fun _ _=>rfl)) (pv 1)) zd)))) (zm (zw (zak (za (zq (zhb rfl hr.units) (by rfl) T.n_min zhX (za (pv 2) zd)) (za (zq (zjN rfl) (by rfl) T.n_max zjq (za (pv 2) zd)) zd)))))),(by walk_at "r"),fun xs S R q=>q⟩
theorem zm9:Df P w K mg base "span_of" ["part"] 1 (spN ["part"] ze0):=by
 exact Df.dN dd.a36 zmd 0 rfl fun f cdv A outer s H E hr=>⟨_,_,(zm (zw (zak (za (zI zv (pv 0) zf (fun _ _=>rfl)) (za (zI zv (pv 0) zf (fun _ _=>rfl)) zd))))),(by walk_at "r"),fun xs S R q=>q⟩
theorem zgg:Df P w K mg base "reach_of_terms" ["drawing","terms"] 2 (spN ["drawing","terms"] zby):=by
 exact Df.dN dd.a37 zaO 3 rfl fun f cdv A outer s H E hr=>⟨_,_,(ze (zB (i:=2) zaO.nd rfl lo (zak (za zf (za zf zd)))) (ze (za8 PassesOwn.never rfl (zaq (pv 1)) (zcw (n:=2) rfl (zP (zu (i:=3) zaO.nd rfl (Or.inl rfl)) (zP (zu (i:=4) zaO.nd rfl (Or.inl rfl)) zbr))) (zm (zB (i:=2) zaO.nd rfl lo (zr zs8 hr dz (za (pv 2) (za (zr zje hr dz (za (zr zm9 hr dz (za (zI zv (pv 0) (pv 3) (fun _ _=>rfl)) zd)) (za (pv 4) zd))) zd)))))) (zm (zw (pv 2))))),(by walk_at "r"),fun xs S R q=>q⟩
theorem zrn:Df P w K mg base "reach" ["drawing","gap"] 3 (spN ["drawing","gap"] ziY):=by
 exact Df.dN dd.a38 zpQ 0 rfl fun f cdv A outer s H E hr=>⟨_,_,(zm (zw (zr zgg hr dz (za (pv 0) (za (zI zv (pv 1) zf (fun _ _=>rfl)) zd))))),(by walk_at "r"),fun xs S R q=>q⟩
theorem zkF:Df P w K mg base "wanted_of" ["gap"] 1 (spN ["gap"] zdx):=by
 exact Df.dN dd.a39 zjp 0 rfl fun f cdv A outer s H E hr=>⟨_,_,(zm (zw (zak (za (zI zv (pv 0) zf (fun _ _=>rfl)) (za (zI zv (pv 0) zf (fun _ _=>rfl)) zd))))),(by walk_at "r"),fun xs S R q=>q⟩
theorem zlE:Df P w K mg base "misses" ["drawing","gap"] 4 (spN ["drawing","gap"] zeQ):=by
 exact Df.dN dd.a40 zmy 0 rfl fun f cdv A outer s H E hr=>⟨_,_,(zm (zw (zbL zkD (zr ztj hr dz (za (zr zrn hr dz (za (pv 0) (za (pv 1) zd))) (za (zr zkF hr dz (za (pv 1) zd)) zd))) zc7 (nomark _)))),(by walk_at "r"),fun xs S R q=>q⟩
theorem zhs:Df P w K mg base "why_no_filing" ["job","built","trims","price","beginning"] 5 (spN ["job","built","trims","price","beginning"] zbX):=by
 exact Df.dN dd.a41 zbA 3 rfl fun f cdv A outer s H E hr=>⟨_,_,(ze (zas (zN zoS (zr zb9 hr dz (za (pv 2) (za (pv 4) zd))) (pv 3) (nomark _)) (zm (zw (zak (za zcx zd)))) zK) (ze (zB (i:=5) zbA.nd rfl lo (zr zcO hr dz (za (zI zv (pv 0) zf (fun _ _=>rfl)) (za (pv 1) (za (pv 2) (za (pv 4) zd)))))) (ze (za8 PassesOwn.never rfl (zo4 rfl T.n_enumerate (za (zI zv (pv 0) zf (fun _ _=>rfl)) zd)) (zcw (n:=2) rfl (zP (zu (i:=6) zbA.nd rfl (Or.inl rfl)) (zP (zu (i:=7) zbA.nd rfl (Or.inl rfl)) zbr))) (zm (zas (zY (zr zlE hr dz (za (pv 5) (za (pv 7) zd))) (fun _=>rfl)) (zm (zw (zak (za zcx (za (pv 6) zd))))) zK))) (zm (zw zc7))))),(by walk_at "r"),fun xs S R q=>q⟩
theorem zpj:Df P w K mg base "bar_of" ["job","built","trims","price"] 10 (spN ["job","built","trims","price"] zgq):=by
 obtain⟨c,P',hc,ht⟩:=ll.l_bar_of;exact zq2 dd.a42 hc zjo 1 rfl fun f A outer s H E hr=>⟨_,_,(ze (zB (i:=4) zjo.nd rfl lo (zr zfu hr dz (za (zr zdM hr dz (za (pv 2) zd)) zd))) (ze (zbS (zr zde hr dz (za (pv 4) zd))) (zm (zw (zpd (kl:=5) (pl:=["beginning"]) (caps:=["job","built","trims","price"]) (ks:=[0,1,2,3]) zgl hr dz rfl rfl rfl rfl rfl (by show zgd ["job","built","trims","price","sizes"] (zi zgv).names _ _ _ _=true; decide +kernel) (fun _ _ _ _ us hl=>by obtain⟨_,rfl⟩:=L2.len1 hl; rfl) (fun cl f c' A outer s H hr=>(zr zhs hr dz (za (pv 1) (za (pv 2) (za (pv 3) (za (pv 4) (za (pv 0) zd))))))) (zV (zh zk (zh zk (zh zk (zh zk (zh zk zA)))))) (za (pv 4) (za (ztz (pl:=["beginning"]) (caps:=["job","built","trims","price"]) (ks:=[0,1,2,3]) ht rfl rfl rfl (by show zgd ["job","built","trims","price","sizes"] (zi zgv).names _ _ _ _=true; decide +kernel) rfl) zd))))))),(zS (by walk_at "r") (zS (by walk_at "r") (zaB (zor zk)))),fun xs S R q=>q⟩
theorem zhj:Df P w K mg base "_law_all_begun" ["trims","beginnings"] 2 (spN ["trims","beginnings"] zbe):=by
 exact Df.dN dd.a43 zbC 3 rfl fun f cdv A outer s H E hr=>⟨_,_,(ze (zB (i:=2) zbC.nd rfl (Or.inr rfl) zpn) (ze (za8 PassesOwn.never rfl (zaq (pv 1)) (zu (i:=3) zbC.nd rfl (Or.inl rfl)) (zm (zsB (zva hr) (pv 2) (pv 3) zb2 rfl))) (ze (za8 PassesOwn.never rfl (zaq (zr zcz hr dz (za (pv 0) zd))) (zu (i:=4) zbC.nd rfl (Or.inr rfl)) (zm (zas (zbq (zY (zq (znL rfl) (by rfl) T.n_any ztu (za (zax (fun _ _ h=>h) rfl (zJ rfl rfl rfl rfl (N:=["size","there","filing"]) (caps:=[none,some 2,some 4]) (by show zat ["trims","beginnings","there","beginning","filing"] (zi zcK).names _ _ _=true; decide +kernel)) (zaA rfl T.n_range (za (zF zG (zq zE (by rfl) T.n_len zae (za (pv 0) zd)) zf) zd)) (fun _ _ _ _=>(zu (i:=0) (by show List.Nodup (["size","there","filing"]:List Str); decide) rfl (Or.inl rfl))) (fun _ _ _ _=>zag) (fun _ _ _ _=>(zbL (zt2 hr.units) (za7 zho (pv 2) zb4 (zbM (pv 0))) (pv 1) (by rfl)))) zd)) (fun _=>rfl))) (zm (zw zb2)) zK))) (zm (zw zb2))))),(zr1 (zsp (zrF (zs9 (zqS (fun M=>zki (za6 zk)) zx (zs4 (fun M=>(zik zk)) (fun M=>(zik zgA)))) (zqS (fun M=>zki (by walk_at "r")) zx (zvv (fun M=>(ztF (zux (zvu zqL (zse (zp3 (zki (zds (zh (zaj zbN (zct zdT (zh zk zA)) zT) zA))) zx (zro zaf) (zsN zta (zik (zku zhi zk zeF (zew zk))) (zik zk))) (zrS zA)))))) (zoA (zaB zgA)) (zoA zcp)))))) (zaB zgA)),fun xs S R q=>q⟩
theorem zfn:Df P w K mg base "_law_much_of" ["trims","part","number"] 1 (spN ["trims","part","number"] zaV):=by
 exact Df.dN dd.a44 zhw 0 rfl fun f cdv A outer s H E hr=>⟨_,_,(ze (zas (zN (zck hr.units) (pv 2) zf (nomark _)) (zm (zw zf)) zK) (zm (zw (zI zv (zI zv (zI zv (pv 0) (pv 1) (fun _ _=>rfl)) (zF zbO (pv 2) zf) (fun _ _=>rfl)) zf (fun _ _=>rfl))))),(by walk_at "r"),fun xs S R q=>q⟩
theorem zno:Df P w K mg base "_law_off" ["gap","built","trims","beginning"] 2 (spN ["gap","built","trims","beginning"] zkd):=by
 exact Df.dN dd.a45 zaF 7 rfl fun f cdv A outer s H E hr=>⟨_,_,(ze (zB (i:=4) zaF.nd rfl lo zf) (ze (zB (i:=5) zaF.nd rfl lo zf) (ze (za8 PassesOwn.never rfl (zaq (zI zv (pv 0) zf (fun _ _=>rfl))) (zcw (n:=2) rfl (zP (zu (i:=6) zaF.nd rfl (Or.inl rfl)) (zP (zu (i:=7) zaF.nd rfl (Or.inl rfl)) zbr))) (ze (zB (i:=8) zaF.nd rfl lo zf) (ze (zB (i:=9) zaF.nd rfl lo (zr zfn hr dz (za (pv 2) (za (pv 6) (za (zq zE (by rfl) T.n_len zae (za (zI zv (pv 2) (pv 6) (fun _ _=>rfl)) zd)) zd))))) (ze (zas (zN zkB (pv 6) (zq zE (by rfl) T.n_len zae (za (pv 3) zd)) (nomark _)) (ze (zB (i:=8) zaF.nd rfl lo (zr zfn hr dz (za (pv 2) (za (pv 6) (za (zI zv (pv 3) (pv 6) (fun _ _=>rfl)) zd))))) (zm (zB (i:=9) zaF.nd rfl lo (pv 8)))) zK) (ze (zB (i:=10) zaF.nd rfl lo (zal (za (zF zbf (pv 7) (zF zbO (zI zv (pv 1) (pv 6) (fun _ _=>rfl)) (pv 8))) (za (zF zbf (pv 7) (zF zbO (zI zv (pv 1) (pv 6) (fun _ _=>rfl)) (pv 9))) zd)))) (ze (zB (i:=4) zaF.nd rfl lo (zF zG (pv 4) (zq (zhb rfl hr.units) (by rfl) T.n_min zhX (za (pv 10) zd)))) (zm (zB (i:=5) zaF.nd rfl lo (zF zG (pv 5) (zq (zjN rfl) (by rfl) T.n_max zjq (za (pv 10) zd))))))))))) (zm (zw (ztw (zbL zkB (pv 5) (zI zv (pv 0) zf (fun _ _=>rfl)) (nomark _)) (zeq (zbL zii (pv 4) (zI zv (pv 0) zf (fun _ _=>rfl)) (nomark _))))))))),(by walk_at "r"),fun xs S R q=>q⟩
theorem zgY:Df P w K mg base "_law_whole" ["found"] 1 (spN ["found"] zb8):=by
 exact Df.dN dd.a46 zjt 0 rfl fun f cdv A outer s H E hr=>⟨_,_,(zm (zw (zf2 (zq zbB (by rfl) T.n_isinstance zX (za (pv 0) (za (zcn rfl T.n_int zmA (v:=.ty "int") rfl) zd))) (zeq (zq9 (zq zbB (by rfl) T.n_isinstance zX (za (pv 0) (za (zcn rfl T.n_bool znm (v:=.ty "bool") rfl) zd)))))))),(by walk_at "r"),fun xs S R q=>q⟩
theorem zjZ:Df P w K mg base "_law_why_of" ["gaps","built","trims","price","row"] 3 (spN ["gaps","built","trims","price","row"] zdQ):=by
 exact Df.dN dd.a47 zdq 2 rfl fun f cdv A outer s H E hr=>⟨_,_,(ze (zkW (pv 4) (zcw (n:=2) rfl (zP (zu (i:=5) zdq.nd rfl (Or.inl rfl)) (zP (zu (i:=6) zdq.nd rfl (Or.inl rfl)) zbr)))) (ze (zas (PW.pt (zfJ (zbq (zY (zq zbB (by rfl) T.n_isinstance zX (za (pv 6) (za (zcn rfl T.n_tuple zaG (v:=.ty "tuple") rfl) zd))) (fun _=>rfl))) (zeR (zN (zck hr.units) (zq zE (by rfl) T.n_len zae (za (pv 6) zd)) zf (nomark _))))) (zm (zw zb2)) zK) (ze (zas (zN (zck hr.units) (zI zv (pv 6) zf (fun _ _=>rfl)) zcx (nomark _)) (zm (zw (zf2 (zbL (zck hr.units) (zq zE (by rfl) T.n_len zae (za (pv 6) zd)) zf (nomark _)) (zeq (zbL zoS (zr zep hr dz (za (pv 2) (za (pv 5) zd))) (pv 3) (nomark _)))))) zK) (ze (zas (PW.pt (zfJ (zN (zf3 hr.units) (zI zv (pv 6) zf (fun _ _=>rfl)) zcx (nomark _)) (zfJ (zN (zf3 hr.units) (zq zE (by rfl) T.n_len zae (za (pv 6) zd)) zf (nomark _)) (zfJ (zbq (zY (zr zgY hr dz (za (zI zv (pv 6) zf (fun _ _=>rfl)) zd)) (fun _=>rfl))) (zeR (zp0 true rfl T.n_range (zI zv (pv 6) zf (fun _ _=>rfl)) (za (zq zE (by rfl) T.n_len zae (za (pv 0) zd)) zd))))))) (zm (zw zb2)) zK) (zm (zw (zr zno hr dz (za (zI zv (pv 0) (zI zv (pv 6) zf (fun _ _=>rfl)) (fun _ _=>rfl)) (za (pv 1) (za (pv 2) (za (pv 5) zd))))))))))),(by walk_at "r"),fun xs S R q=>q⟩
theorem zfc:Df P w K mg base "_law_beginning_of" ["trims","thing"] 2 (spN ["trims","thing"] zaJ):=by
 exact Df.dN dd.a48 zex 0 rfl fun f cdv A outer s H E hr=>⟨_,_,(ze (zas (PW.pt (zfJ (zbq (zY (zq zbB (by rfl) T.n_isinstance zX (za (pv 1) (za (zcn rfl T.n_tuple zaG (v:=.ty "tuple") rfl) zd))) (fun _=>rfl))) (zeR (zN zii (zq zE (by rfl) T.n_len zae (za (pv 1) zd)) (zq zE (by rfl) T.n_len zae (za (pv 0) zd)) (nomark _))))) (zm (zw zb2)) zK) (zm (zw (zq (zcj rfl) (by rfl) T.n_all zfS (za (zax (fun _ _ h=>h) rfl (zJ (L:=0) rfl rfl rfl rfl (N:=["number","one"]) (caps:=[none,none]) (by show zat ["trims","thing"] (zi zb0).names _ _ _=true; decide +kernel)) (zfL rfl T.n_zip (za (pv 1) (za (pv 0) zd))) (fun _ _ _ _=>(zcw (n:=2) rfl (zP (zu (i:=0) (by show List.Nodup (["number","one"]:List Str); decide) rfl (Or.inl rfl)) (zP (zu (i:=1) (by show List.Nodup (["number","one"]:List Str); decide) rfl (Or.inl rfl)) zbr)))) (fun _ _ _ _=>zag) (fun _ _ _ _=>(zf2 (zr zgY hr dz (za (pv 0) zd)) (zeq (zgu zhA zhA zf (pv 0) (zq zE (by rfl) T.n_len zae (za (pv 1) zd))))))) zd))))),(zS (by walk_at "r") (zaB (zct zfd (zh (zav (zfs (zh zk (zh zk zA))) (zeo (zaw zx (zaw zx zcZ))) zaf (zjz (zV (zh zk zA)) (zgt zjn zjn zT zk (zct zdT (zh zk zA))))) zA)))),fun xs S R q=>q⟩
theorem ziM:Df P w K mg base "_law_bar_due" ["gaps","built","trims","price","thing"] 4 (spN ["gaps","built","trims","price","thing"] zcr):=by
 exact Df.dN dd.a49 zbu 4 rfl fun f cdv A outer s H E hr=>⟨_,_,(ze (zas (zbq (zY (zq zbB (by rfl) T.n_isinstance zX (za (pv 4) (za (zcn rfl T.n_list zfz (v:=.ty "list") rfl) zd))) (fun _=>rfl))) (zm (zw zb2)) zK) (ze (za8 PassesOwn.never rfl (zaq (pv 4)) (zu (i:=5) zbu.nd rfl (Or.inl rfl)) (ze (zas (PW.pt (zfJ (zbq (zY (zq zbB (by rfl) T.n_isinstance zX (za (pv 5) (za (zcn rfl T.n_tuple zaG (v:=.ty "tuple") rfl) zd))) (fun _=>rfl))) (zfJ (zN (zf3 hr.units) (zq zE (by rfl) T.n_len zae (za (pv 5) zd)) zf (nomark _)) (zeR (zbq (zY (zr zfc hr dz (za (pv 2) (za (zI zv (pv 5) zf (fun _ _=>rfl)) zd))) (fun _=>rfl))))))) (zm (zw zb2)) zK) (zm (zas (zbq (zY (zr zjZ hr dz (za (pv 0) (za (pv 1) (za (pv 2) (za (pv 3) (za (pv 5) zd)))))) (fun _=>rfl))) (zm (zw zb2)) zK)))) (ze (za8 PassesOwn.never rfl (zaA rfl T.n_range (za (zF zbO (zq zE (by rfl) T.n_len zae (za (pv 4) zd)) zf) zd)) (zu (i:=6) zbu.nd rfl (Or.inl rfl)) (ze (zB (i:=7) zbu.nd rfl lo (zI zv (zI zv (pv 4) (pv 6) (fun _ _=>rfl)) zf (fun _ _=>rfl))) (ze (zB (i:=8) zbu.nd rfl lo (zI zv (zI zv (pv 4) (zF zG (pv 6) zf) (fun _ _=>rfl)) zf (fun _ _=>rfl))) (zm (zas (PW.pt (zfJ (zN (ztn hr.units) (pv 7) (pv 8) (nomark _)) (zeR (zN (zck hr.units) (za7 zho (pv 8) zb4 (zbM (zq zE (by rfl) T.n_len zae (za (pv 7) zd)))) (pv 7) (nomark _))))) (zm (zw zb2)) zK))))) (zm (zw (zr zhj hr dz (za (pv 2) (za (zax (fun _ _ h=>h) rfl (zJ (L:=0) rfl rfl rfl rfl (N:=["row"]) (caps:=[none]) (by show zat ["gaps","built","trims","price","thing","row","k","ahead","behind"] (zi zdw).names _ _ _=true; decide +kernel)) (zaq (pv 4)) (fun _ _ _ _=>(zu (i:=0) (by show List.Nodup (["row"]:List Str); decide) rfl (Or.inl rfl))) (fun _ _ _ _=>zag) (fun _ _ _ _=>(zI zv (pv 0) zf (fun _ _=>rfl)))) zd)))))))),(zS (by walk_at "r") (zS (by walk_at "r") (zS (by walk_at "r") (zaB (zV (zh zk (zh (zav (za6 zk) zx zaf (zaj zdI zk zT)) zA))))))),fun xs S R q=>q⟩
theorem zif:Df P w K mg base "is_whole" ["thing"] 1 (spN ["thing"] zdb):=by
 exact Df.dN dd.a50 zkp 0 rfl fun f cdv A outer s H E hr=>⟨_,_,(zm (zw (zf2 (zq zbB (by rfl) T.n_isinstance zX (za (pv 0) (za (zcn rfl T.n_int zmA (v:=.ty "int") rfl) zd))) (zeq (zq9 (zq zbB (by rfl) T.n_isinstance zX (za (pv 0) (za (zcn rfl T.n_bool znm (v:=.ty "bool") rfl) zd)))))))),(by walk_at "r"),fun xs S R q=>q⟩
theorem zhz:Df P w K mg base "is_beginning" ["sizes","thing"] 2 (spN ["sizes","thing"] zce):=by
 exact Df.dN dd.a51 zgD 0 rfl fun f cdv A outer s H E hr=>⟨_,_,(ze (zas (PW.pt (zfJ (zbq (zY (zq zbB (by rfl) T.n_isinstance zX (za (pv 1) (za (zcn rfl T.n_tuple zaG (v:=.ty "tuple") rfl) zd))) (fun _=>rfl))) (zeR (zN zii (zq zE (by rfl) T.n_len zae (za (pv 1) zd)) (zq zE (by rfl) T.n_len zae (za (pv 0) zd)) (nomark _))))) (zm (zw zb2)) zK) (zm (zw (zq (zcj rfl) (by rfl) T.n_all zfS (za (zax (fun _ _ h=>h) rfl (zJ (L:=0) rfl rfl rfl rfl (N:=["number","size"]) (caps:=[none,none]) (by show zat ["sizes","thing"] (zi zc0).names _ _ _=true; decide +kernel)) (zfL rfl T.n_zip (za (pv 1) (za (pv 0) zd))) (fun _ _ _ _=>(zcw (n:=2) rfl (zP (zu (i:=0) (by show List.Nodup (["number","size"]:List Str); decide) rfl (Or.inl rfl)) (zP (zu (i:=1) (by show List.Nodup (["number","size"]:List Str); decide) rfl (Or.inl rfl)) zbr)))) (fun _ _ _ _=>zag) (fun _ _ _ _=>(zf2 (zr zif hr dz (za (pv 0) zd)) (zeq (zgu zhA zkB zf (pv 0) (pv 1)))))) zd))))),(zS (by walk_at "r") (zaB (zct zfd (zh (zav (zfs (zh zk (zh zk zA))) (zeo (zaw zx (zaw zx zcZ))) zaf (zjz (zV (zh zk zA)) (zgt zjn zjn zT zk zk))) zA)))),fun xs S R q=>q⟩
theorem zeW:Df P w K mg base "part_all_choices" ["sizes","things"] 3 (spN ["sizes","things"] zbb):=by
 exact Df.dN dd.a52 zeN 0 rfl fun f cdv A outer s H E hr=>⟨_,_,(ze (zas (zbq (zY (zq (zcj rfl) (by rfl) T.n_all zfS (za (zax (fun _ _ h=>h) rfl (zJ rfl rfl rfl rfl (N:=["thing","sizes"]) (caps:=[none,some 0]) (by show zat ["sizes","things"] (zi zaK).names _ _ _=true; decide +kernel)) (zaq (pv 1)) (fun _ _ _ _=>(zu (i:=0) (by show List.Nodup (["thing","sizes"]:List Str); decide) rfl (Or.inl rfl))) (fun _ _ _ _=>zag) (fun _ _ _ _=>(zr zhz hr dz (za (pv 1) (za (pv 0) zd))))) zd)) (fun _=>rfl))) (zm (zw zb2)) zK) (ze (zas (zbq (zY (zq (zcj rfl) (by rfl) T.n_all zfS (za (zax (fun _ _ h=>h) rfl (zJ rfl rfl rfl rfl (N:=["ahead","thing"]) (caps:=[none,none]) (by show zat ["sizes","things"] (zi zaK).names _ _ _=true; decide +kernel)) (zfL rfl T.n_zip (za (pv 1) (za (za7 zfQ (pv 1) (zbM zf) zb4) zd))) (fun _ _ _ _=>(zcw (n:=2) rfl (zP (zu (i:=0) (by show List.Nodup (["ahead","thing"]:List Str); decide) rfl (Or.inl rfl)) (zP (zu (i:=1) (by show List.Nodup (["ahead","thing"]:List Str); decide) rfl (Or.inl rfl)) zbr)))) (fun _ _ _ _=>zag) (fun _ _ _ _=>(zf2 (zbL (zsZ hr.units0) (pv 0) (pv 1) (nomark _)) (zeq (zbL (zf3 hr.units) (za7 zho (pv 1) zb4 (zbM (zq zE (by rfl) T.n_len zae (za (pv 0) zd)))) (pv 0) (nomark _)))))) zd)) (fun _=>rfl))) (zm (zw zb2)) zK) (zm (zw (zbL (zck hr.units) (zq (zgH rfl) (by rfl) T.n_sum zmw (za (zax (fun _ _ h=>h) rfl (zJ rfl rfl rfl rfl (N:=["thing","sizes"]) (caps:=[none,some 0]) (by show zat ["sizes","things"] (zi zaK).names _ _ _=true; decide +kernel)) (zaq (pv 1)) (fun _ _ _ _=>(zu (i:=0) (by show List.Nodup (["thing","sizes"]:List Str); decide) rfl (Or.inl rfl))) (fun _ _ _ _=>zag) (fun _ _ _ _=>(zr zcm hr dz (za (pv 1) (za (pv 0) zd))))) zd)) (zr zcm hr dz (za (pv 0) (za (zak zd) zd))) (nomark _)))))),(zS (zgf (zf6 (zdV (zct zfd (zh (zav (za6 zk) zx zaf (zV (zh zk (zh zk zA)))) zA)))) (zaB zgA) zcp) (zS (zgf (zf6 (zdV (zct zfd (zh (zav (zfs (zh zk (zh (zku znd zk (zew zT) zeF) zA))) (zeo (zaw zx (zaw zx zcZ))) zaf (zjz (zaj zuR zk zk) (zaj zni (zku zhi zk zeF (zew (zct zdT (zh zk zA)))) zk))) zA)))) (zaB zgA) zcp) (zaB (zaj znY (zct zkY (zh (zav (za6 zk) zx zaf (zV (zh zk (zh zk zA)))) zA)) (by walk_at "r"))))),fun xs S R q=>q⟩
theorem zl2:Df P w K mg base "are_rows" ["sizes","thing"] 4 (spN ["sizes","thing"] zea):=by
 exact Df.dN dd.a53 zkh 0 rfl fun f cdv A outer s H E hr=>⟨_,_,(ze (zas (zbq (zY (zq zbB (by rfl) T.n_isinstance zX (za (pv 1) (za (zcn rfl T.n_list zfz (v:=.ty "list") rfl) zd))) (fun _=>rfl))) (zm (zw zb2)) zK) (ze (zas (zbq (zY (zq (zcj rfl) (by rfl) T.n_all zfS (za (zax (fun _ _ h=>h) rfl (zJ (L:=0) rfl rfl rfl rfl (N:=["row"]) (caps:=[none]) (by show zat ["sizes","thing"] (zi zef).names _ _ _=true; decide +kernel)) (zaq (pv 1)) (fun _ _ _ _=>(zu (i:=0) (by show List.Nodup (["row"]:List Str); decide) rfl (Or.inl rfl))) (fun _ _ _ _=>zag) (fun _ _ _ _=>(zf2 (zq zbB (by rfl) T.n_isinstance zX (za (pv 0) (za (zcn rfl T.n_tuple zaG (v:=.ty "tuple") rfl) zd))) (zeq (zbL (zck hr.units) (zq zE (by rfl) T.n_len zae (za (pv 0) zd)) zf (nomark _)))))) zd)) (fun _=>rfl))) (zm (zw zb2)) zK) (zm (zw (zr zeW hr dz (za (pv 0) (za (zax (fun _ _ h=>h) rfl (zJ (L:=0) rfl rfl rfl rfl (N:=["row"]) (caps:=[none]) (by show zat ["sizes","thing"] (zi zef).names _ _ _=true; decide +kernel)) (zaq (pv 1)) (fun _ _ _ _=>(zu (i:=0) (by show List.Nodup (["row"]:List Str); decide) rfl (Or.inl rfl))) (fun _ _ _ _=>zag) (fun _ _ _ _=>(zI zv (pv 0) zf (fun _ _=>rfl)))) zd))))))),(zS (by walk_at "r") (zS (zgf (zf6 (zdV (zct zfd (zh (zav (za6 zk) zx zaf (zjz (zct zqY (zh zk (zh zvR zA))) (zaj znY (zct zdT (zh zk zA)) zT))) zA)))) (zaB zgA) zcp) (zaB (zV (zh zk (zh (zav (za6 zk) zx zaf (zaj zdI zk zT)) zA)))))),fun xs S R q=>q⟩
theorem ze7:Df P w K mg base "is_why_no_filing" ["job","built","trims","price","beginning","why"] 5 (spN ["job","built","trims","price","beginning","why"] zba):=by
 exact Df.dN dd.a54 zeC 0 rfl fun f cdv A outer s H E hr=>⟨_,_,(ze (zas (zN (zck hr.units) (pv 5) (zak (za zcx zd)) (nomark _)) (zm (zw (zbL zoS (zr zb9 hr dz (za (pv 2) (za (pv 4) zd))) (pv 3) (nomark _)))) zK) (ze (zas (PW.pt (zfJ (zbq (zY (zq zbB (by rfl) T.n_isinstance zX (za (pv 5) (za (zcn rfl T.n_tuple zaG (v:=.ty "tuple") rfl) zd))) (fun _=>rfl))) (zfJ (zN (zf3 hr.units) (zq zE (by rfl) T.n_len zae (za (pv 5) zd)) zf (nomark _)) (zeR (zN (zf3 hr.units) (zI zv (pv 5) zf (fun _ _=>rfl)) zcx (nomark _)))))) (zm (zw zb2)) zK) (ze (zas (PW.pt (zfJ (zbq (zY (zr zif hr dz (za (zI zv (pv 5) zf (fun _ _=>rfl)) zd)) (fun _=>rfl))) (zeR (zbq (zoZ zhA zkB zf (zI zv (pv 5) zf (fun _ _=>rfl)) (zq zE (by rfl) T.n_len zae (za (zI zv (pv 0) zf (fun _ _=>rfl)) zd))))))) (zm (zw zb2)) zK) (zm (zw (zr zlE hr dz (za (zr zcO hr dz (za (zI zv (pv 0) zf (fun _ _=>rfl)) (za (pv 1) (za (pv 2) (za (pv 4) zd))))) (za (zI zv (zI zv (pv 0) zf (fun _ _=>rfl)) (zI zv (pv 5) zf (fun _ _=>rfl)) (fun _ _=>rfl)) zd)))))))),(by walk_at "r"),fun xs S R q=>q⟩
theorem zkJ:Df P w K mg base "bar_holds" ["job","built","trims","price","thing"] 6 (spN ["job","built","trims","price","thing"] zdh):=by
 exact Df.dN dd.a55 zi7 0 rfl fun f cdv A outer s H E hr=>⟨_,_,(ze (zas (zbq (zY (zr zl2 hr dz (za (zr zfu hr dz (za (zr zdM hr dz (za (pv 2) zd)) zd)) (za (pv 4) zd))) (fun _=>rfl))) (zm (zw zb2)) zK) (zm (zw (zq (zcj rfl) (by rfl) T.n_all zfS (za (zax (fun _ _ h=>h) rfl (zJ rfl rfl rfl rfl (N:=["beginning","why","job","built","trims","price"]) (caps:=[none,none,some 0,some 1,some 2,some 3]) (by show zat ["job","built","trims","price","thing"] (zi zeM).names _ _ _=true; decide +kernel)) (zaq (pv 4)) (fun _ _ _ _=>(zcw (n:=2) rfl (zP (zu (i:=0) (by show List.Nodup (["beginning","why","job","built","trims","price"]:List Str); decide) rfl (Or.inl rfl)) (zP (zu (i:=1) (by show List.Nodup (["beginning","why","job","built","trims","price"]:List Str); decide) rfl (Or.inl rfl)) zbr)))) (fun _ _ _ _=>zag) (fun _ _ _ _=>(zr ze7 hr dz (za (pv 2) (za (pv 3) (za (pv 4) (za (pv 5) (za (pv 0) (za (pv 1) zd))))))))) zd))))),(zS (by walk_at "r") (zaB (zct zfd (zh (zav (za6 zk) (zeo (zaw zx (zaw zx zcZ))) zaf (zV (zh zk (zh zk (zh zk (zh zk (zh zk (zh zk zA)))))))) zA)))),fun xs S R q=>q⟩
theorem zgk:Df P w K mg base "_law_bars_right" ["drawing","gaps","built","trims","least","prices"] 11 (spN ["drawing","gaps","built","trims","least","prices"] zbz):=by
 exact Df.dN dd.a56 zb6 2 rfl fun f cdv A outer s H E hr=>⟨_,_,(ze (za8 PassesOwn.never rfl (zaq (pv 5)) (zu (i:=6) zb6.nd rfl (Or.inl rfl)) (ze (zB (i:=7) zb6.nd rfl lo (zr zpj hr dz (za (zak (za (pv 0) (za (pv 1) zd))) (za (pv 2) (za (pv 3) (za (pv 6) zd)))))) (zm (zas (PW.pt (zuM (zN ze1 (pv 4) zc7 (nomark _)) (zsm (zN zii (pv 6) (pv 4) (nomark _))))) (zm (zas (zN ze1 (pv 7) zc7 (nomark _)) (zm (zw zb2)) zK)) (zm (zas (zbq (zY (zr ziM hr dz (za (pv 1) (za (pv 2) (za (pv 3) (za (pv 6) (za (pv 7) zd)))))) (fun _=>rfl))) (zm (zw zb2)) (zm (zas (zN zsd (zr zkJ hr dz (za (zak (za (pv 0) (za (pv 1) zd))) (za (pv 2) (za (pv 3) (za (pv 6) (za (pv 7) zd)))))) zb2 (nomark _)) (zm (zw zb2)) zK)))))))) (zm (zw zb2))),(by walk_at "r"),fun xs S R q=>q⟩
theorem zeZ:Df P w K mg base "_law_no_less" ["price","other"] 1 (spN ["price","other"] zbY):=by
 exact Df.dN dd.a57 zhB 0 rfl fun f cdv A outer s H E hr=>⟨_,_,(zm (zw (ztw (zbL zkD (pv 1) zc7 (nomark _)) (zeq (zf2 (zbL ze1 (pv 0) zc7 (nomark _)) (zeq (zbL zhA (pv 0) (pv 1) (nomark _)))))))),(by walk_at "r"),fun xs S R q=>q⟩
theorem zge:Df P w K mg base "_law_more_trims" ["trims","pen"] 3 (spN ["trims","pen"] zbx):=by
 exact Df.dN dd.a58 zay 4 rfl fun f cdv A outer s H E hr=>⟨_,_,(ze (zB (i:=2) zay.nd rfl lo (zr zD hr dz (za (pv 1) (za (zq zE (by rfl) T.n_len zae (za (pv 0) zd)) zd)))) (ze (zB (i:=3) zay.nd rfl lo (zI zv (pv 0) (pv 2) (fun _ _=>rfl))) (ze (zas (PW.pt (zfJ (zN (zck hr.units) (zq zE (by rfl) T.n_len zae (za (pv 3) zd)) zf (nomark _)) (zeR (zN zii (zq zE (by rfl) T.n_len zae (za (zr zcz hr dz (za (pv 0) zd)) zd)) zf (nomark _))))) (zm (zw (pv 0))) zK) (ze (zB (i:=4) zay.nd rfl lo (zak (za zf (za zf zd)))) (ze (zas (zN (zf3 hr.units) (pv 3) (zak zd) (nomark _)) (zm (zB (i:=4) zay.nd rfl lo (zI zv (pv 3) (zeg zcu zf) (fun _ _=>rfl)))) zK) (ze (zB (i:=5) zay.nd rfl lo (zF zG (pv 3) (zak (za (zak (za (zF zG (zF zG (zI zv (pv 4) zf (fun _ _=>rfl)) zf) (zr zD hr dz (za (pv 1) (za zf zd)))) (za (zF zG (zF zG (zI zv (pv 4) zf (fun _ _=>rfl)) zf) (zr zD hr dz (za (pv 1) (za zf zd)))) zd))) zd)))) (zm (zw (zF zG (zF zG (za7 zfQ (pv 0) zb4 (zbM (pv 2))) (zak (za (pv 5) zd))) (za7 zfQ (pv 0) (zbM (zF zG (pv 2) zf)) zb4)))))))))),(by walk_at "r"),fun xs S R q=>q⟩
theorem ok_law{f:Addr}{fd:FuncData}(F:Fun K "law" "law" s_law f fd):FnOk P w K mg base CX0 12 f fd ["script"] (sp1 (zvs K)):=by
 refine F.ok1 zdF (fun v=>[some v,none,none,none,none,none,none,none,none,none]) (fun _=>rfl) fun cdv A outer s H v Q E hr h=>?_;obtain⟨a,ns,rfl,hS,hlen,q⟩:=h;refine⟨_,(ze (za8 PassesOwn.never rfl (zr6 (zF znQ (zal (za (zuH ziX hr dz (pv 0) zf) zd)) (za7 zoB (pv 0) (zbM zf) (zbM zf)))) (zu (i:=1) zdF.nd rfl (Or.inl rfl)) (ze (zB (i:=2) zdF.nd rfl lo (zr zjG hr dz (za (pv 1) zd))) (ze (zB (i:=3) zdF.nd rfl lo (zr znr hr dz (za (pv 2) (za zf zd)))) (ze (zB (i:=4) zdF.nd rfl lo (zr zhH hr dz (za (pv 2) (za (pv 3) zd)))) (ze (zas (zN zii (zq zE (by rfl) T.n_len zae (za (pv 3) zd)) zf (nomark _)) (zm (zB (i:=4) zdF.nd rfl lo (zaS zah (by rfl) T.n_tuple zaG (za (zax (fun _ _ h=>h) rfl (zJ (L:=0) rfl rfl rfl rfl (N:=["one"]) (caps:=[none]) (by show zat ["script","cell","pen","drawing","trims","built","gaps","least","prices","more"] (zi s_law).names _ _ _=true; decide +kernel)) (zaq (pv 4)) (fun _ _ _ _=>(zu (i:=0) (by show List.Nodup (["one"]:List Str); decide) rfl (Or.inl rfl))) (fun _ _ _ _=>zag) (fun _ _ _ _=>(za7 (zph (K:=K) rfl) (pv 0) zb4 (zbM zf)))) zd)))) zK) (ze (zB (i:=5) zdF.nd rfl lo (zr zom hr dz (za (pv 2) (za (pv 3) zd)))) (ze (zB (i:=6) zdF.nd rfl lo (zr zfO hr dz (za (pv 2) (za (pv 3) (za (pv 5) (za (pv 4) zd)))))) (ze (zB (i:=7) zdF.nd rfl lo (zr zhD hr dz (za (pv 6) (za (pv 5) (za (pv 4) zd))))) (ze (zas (zN (zf3 hr.units) (zr zfw hr dz (za (pv 3) (za (pv 6) (za (pv 5) (za (pv 4) zd))))) (pv 7) (nomark _)) (zm (zw zb2)) zK) (ze (zB (i:=8) zdF.nd rfl lo (zal (za zf (za (zF zbO (zeg zcu zf) (zr zD hr dz (za (pv 2) (za (zF zf5 zf zf) zd)))) (za (zF zG zf (zr zD hr dz (za (pv 2) (za zf zd)))) (za (zF zG (zF zf5 zf zf) (zr zD hr dz (za (pv 2) (za zf zd)))) zd)))))) (ze (zas (zN ze1 (pv 7) zc7 (nomark _)) (zm (zB (i:=8) zdF.nd rfl lo (zF zG (pv 8) (zal (za (zF zbO (pv 7) zf) (za (pv 7) (za (zF zG (pv 7) zf) zd))))))) zK) (ze (zas (zbq (zY (zr zgk hr dz (za (pv 3) (za (pv 6) (za (pv 5) (za (pv 4) (za (pv 7) (za (pv 8) zd))))))) (fun _=>rfl))) (zm (zw zb2)) zK) (ze (zB (i:=9) zdF.nd rfl lo (zF zG (pv 6) (za7 zho (zr zfO hr dz (za (pv 2) (za (pv 3) (za (pv 5) (za (pv 4) zd))))) zb4 (zbM zf)))) (ze (zas (zbq (zY (zr zeZ hr dz (za (pv 7) (za (zr zfw hr dz (za (pv 3) (za (pv 9) (za (pv 5) (za (pv 4) zd))))) zd))) (fun _=>rfl))) (zm (zw zb2)) zK) (zm (zas (zbq (zY (zr zeZ hr dz (za (zr zfw hr dz (za (pv 3) (za (pv 6) (za (pv 5) (za (zr zge hr dz (za (pv 4) (za (pv 2) zd))) zd))))) (za (pv 7) zd))) (fun _=>rfl))) (zm (zw zb2)) zK)))))))))))))))) (zm (zw zb2))),?_⟩;exact zrP (m:=9) (db:=zru) (zS (za4 (zV (zh zk zA)) zx) (zS (za4 (zbF (i:=0) (zh zk (zh zT zA))) zx) (zS (za4 (zbF (i:=0) (zh zk (zh zk zA))) zx) (zS (zgf (zu6 (zaj zjn (zct zdT (zh zk zA)) zT)) (za4 (zct zfp (zh (zav (za6 zk) zx zaf (zku zhi zk zeF (zew zT))) zA)) zx) zcp) (zS (za4 (zbF (i:=0) (zh zk (zh zk zA))) zx) (zS (za4 (zbF (i:=0) (zh zk (zh zk (zh zk (zh zk zA))))) zx) (zS (za4 (zV (zh zk (zh zk (zh zk zA)))) zx) (zS (zgf (zu6 (zaj zni (zV (zh zk (zh zk (zh zk (zh zk zA))))) zk)) (zaB zgA) zcp) (zS (za4 (znM (zh zT (zh (zaj zoa (zuz zv4 zT) (zbF (i:=0) (zh zk (zh (zaj zpx zT zT) zA)))) (zh (zaj zbN zT (zbF (i:=0) (zh zk (zh zT zA)))) (zh (zaj zbN (zaj zpx zT zT) (zbF (i:=0) (zh zk (zh zT zA)))) zA))))) zx) (zS (zgf (zu6 (znP zk)) (za4 (zaj zbN zk (znM (zh (zaj zoa zk zT) (zh zk (zh (zaj zbN zk zT) zA))))) zx) zcp) (zS (zgf (zf6 (zdV (zV (zh zk (zh zk (zh zk (zh zk (zh zk (zh zk zA))))))))) (zaB zgA) zcp) (zS (za4 (zaj zbN zk (zku zhi (zbF (i:=0) (zh zk (zh zk (zh zk (zh zk zA))))) zeF (zew zT))) zx) (zS (zgf (zf6 (zdV (zV (zh zk (zh (zV (zh zk (zh zk (zh zk (zh zk zA))))) zA))))) (zaB zgA) zcp) (zgf (zf6 (zdV (zV (zh (zV (zh zk (zh zk (zh zk (zh (zbF (i:=1) (zh zk (zh zk zA))) zA))))) (zh zk zA))))) (zaB zgA) zcp)))))))))))))) rfl rfl hS hlen (fun n=>zkL a n) dz fun _ H2 _=>q H2
end
end My
theorem zd4:L2.tabsG=[((203,201),L2.lamKey (("cheapest_filing" ++ ".<locals>.") ++ "<lambda>") ⟨112,26,0,0⟩),((210,206),L2.lamKey (("bar_of" ++ ".<locals>.") ++ "<lambda>") ⟨116,33,0,0⟩)]:=rfl
namespace PySem.W.Fast
def tw12176112275132253969:Unit:=()
def tw8797117603604097252:Unit:=()
def tw11174493189605717462:Unit:=()
def tw12431382629091911128:Unit:=()
def tw9476988371688240841:Unit:=()
def tw12942495564007579734:Unit:=()
def tw13266640690047005806:Unit:=()
def tw4945328294499851403:Unit:=()
def tw2365982932566244799:Unit:=()
def tw1471567038448998757:Unit:=()
def tw13584494606081436906:Unit:=()
def tw392912553778701164:Unit:=()
def tw2356660913654803703:Unit:=()
def tw5050995947986867649:Unit:=()
def tw15058536809286672485:Unit:=()
def tw12845396298168463839:Unit:=()
def tw15725826233418532443:Unit:=()
def tw12274428927210100323:Unit:=()
def tw17487576731794717463:Unit:=()
def tw10740640332274650927:Unit:=()
def tw8142777989513829795:Unit:=()
def tw2323182521668453560:Unit:=()
def tw512318337702092614:Unit:=()
def tw12364820141582285062:Unit:=()
def tw1210682558411183555:Unit:=()
def tw1104650397050846987:Unit:=()
def tw15642610515397532857:Unit:=()
def tw6334993015510189749:Unit:=()
def tw17007095940839493020:Unit:=()
def tw1030427548772446324:Unit:=()
def tw11604067179567921698:Unit:=()
def tw1196747960072522208:Unit:=()
def tw5539332285639117827:Unit:=()
def tw10570212005243712382:Unit:=()
def tw12679843387460249512:Unit:=()
def tw9402872231723422479:Unit:=()
def tw3777518057103615825:Unit:=()
def tw6899833500136337227:Unit:=()
def tw17857140280426753947:Unit:=()
def tw15136608695316033031:Unit:=()
def tw7911388786896936788:Unit:=()
def tw17245279133224265731:Unit:=()
def tw4432910485274854623:Unit:=()
def tw13980631562126122522:Unit:=()
def tw9348194988138683867:Unit:=()
def tw17641191109302634264:Unit:=()
def tw18054964976047546598:Unit:=()
def tw2970136686389784068:Unit:=()
def tw14852099624131717099:Unit:=()
def tw13505669396060027670:Unit:=()
def tw105276850010920857:Unit:=()
def tw12727452680209735524:Unit:=()
def tw15328745629828172576:Unit:=()
def tw12098359091656505344:Unit:=()
def tw17587302631432832359:Unit:=()
def tw18086733920512224630:Unit:=()
def tw16364923284883658525:Unit:=()
def tw3381354093715162176:Unit:=()
def tw10045726877544216529:Unit:=()
def tw16385233758002930431:Unit:=()
def tw17085625354828804502:Unit:=()
def tw9972044505060058518:Unit:=()
def tw9224816368901153996:Unit:=()
def tw4951318686947518014:Unit:=()
def tw13890204042258500581:Unit:=()
def tw17451141753597870737:Unit:=()
def tw8892652741159442024:Unit:=()
def tw17493118458478223489:Unit:=()
def tw8720257717694924455:Unit:=()
def tw7016444490308608556:Unit:=()
def tw10509618900979245783:Unit:=()
def tw11623178435100967186:Unit:=()
def tw6725003420735529438:Unit:=()
def tw4944260633145538623:Unit:=()
def tw13884864126084761066:Unit:=()
def tw12378665507984148752:Unit:=()
def tw16873455803183691989:Unit:=()
def tw6292931845644293787:Unit:=()
def tw11857981836906870364:Unit:=()
def tw4335116837481608712:Unit:=()
def tw1082425347180552369:Unit:=()
def tw16364010883945628467:Unit:=()
def tw13127899458088899833:Unit:=()
def tw4098439332840798313:Unit:=()
def tw15242132146864584876:Unit:=()
def tw14623005812557787873:Unit:=()
def tw7636881401349225152:Unit:=()
def tw9028336207471390300:Unit:=()
def tw2966157547601511604:Unit:=()
def tw10002504679902959126:Unit:=()
def tw15033493456069728827:Unit:=()
def tw11771234261151274106:Unit:=()
def tw7920922992091523386:Unit:=()
def tw173516750040141574:Unit:=()
def tw16344903893489662740:Unit:=()
def tw2565344587596109479:Unit:=()
def tw9913510152287079139:Unit:=()
def tw4995539692647457984:Unit:=()
def tw4278204260519824646:Unit:=()
def tw6541492481554087919:Unit:=()
def tw3619054315467370445:Unit:=()
def tw9895899088257893214:Unit:=()
def tw17853290337773911073:Unit:=()
def tw9358651208737453569:Unit:=()
def tw1497486188080480400:Unit:=()
def tw3136967976583033057:Unit:=()
def tw6944268542813118575:Unit:=()
def tw14598982616216389802:Unit:=()
def tw17234740366582554662:Unit:=()
def tw1597249067400901819:Unit:=()
def tw3723034159387267443:Unit:=()
def tw17320658973642093786:Unit:=()
def tw12552052602417580454:Unit:=()
def tw13562969482928240316:Unit:=()
def tw15883006935830588901:Unit:=()
def tw17801862945183097535:Unit:=()
def tw13246751489089765382:Unit:=()
def tw2791488085838801043:Unit:=()
def tw9859429162125161798:Unit:=()
def tw10763743485556413309:Unit:=()
def tw669428816854224026:Unit:=()
def tw15431521932687800679:Unit:=()
def tw5462370724561816240:Unit:=()
def tw8536957144695983539:Unit:=()
def tw13648667309653289257:Unit:=()
def tw10755399423287973682:Unit:=()
def tw17917968871322518397:Unit:=()
def tw3697089162884320558:Unit:=()
def tw9695868410109555576:Unit:=()
def tw5648153638984563401:Unit:=()
def tw14581435254317780920:Unit:=()
def tw11253644263543861031:Unit:=()
def tw1345419379868856416:Unit:=()
def tw1389952506825379109:Unit:=()
def tw8183174754328943660:Unit:=()
def tw15992549270585019748:Unit:=()
def tw11808752040643361814:Unit:=()
def tw18213286068983502871:Unit:=()
def tw383391151518779233:Unit:=()
def tw2289095721354140305:Unit:=()
def tw10154715828466056601:Unit:=()
def tw1080978538747473349:Unit:=()
def tw16001321251810905439:Unit:=()
def tw540373069253519451:Unit:=()
def tw15386791019107252724:Unit:=()
def tw15911586460153957564:Unit:=()
def tw6045734810132690130:Unit:=()
def tw9659049755797713371:Unit:=()
def tw14716986688025379658:Unit:=()
def tw10983281344765956799:Unit:=()
def tw10556484291742148077:Unit:=()
def tw10433465138533658640:Unit:=()
def tw7576032343447271265:Unit:=()
def tw7263852581912373487:Unit:=()
def tw11095016653043763665:Unit:=()
def tw14459494009746407595:Unit:=()
def tw4851730168380244693:Unit:=()
def tw5182901932226828822:Unit:=()
def tw11458973681596685785:Unit:=()
def tw13890814737425564943:Unit:=()
def tw976145919515470821:Unit:=()
def tw14401961935327926450:Unit:=()
def tw17938157378632141810:Unit:=()
def tw2647546927405236337:Unit:=()
def tw13635550490415350079:Unit:=()
end PySem.W.Fast
open PySem PySem.W PyProof.Rows L2
set_option maxRecDepth 100000 in
set_option maxHeartbeats 0 in
theorem PySem.Challenge.cw_gaugewright_k69_whole_nothing_cheaper_do_holds : PySem.Challenge.rw_gaugewright_k69_whole_nothing_cheaper_do.Holds := by
 w_on; o_law; k_head; (case hw=>w_witness2)
 k_fill
 refine L2.walk_law (l := PySem.Challenge.rw_gaugewright_k69_whole_nothing_cheaper_do) (k := 12) rfl rfl ⟨rfl, by decide, by decide⟩ (fun w h Y => W.km_in_of Y) ?TT ?F
 case TT =>
  intro w h Y;have KX:=W.km_in_of Y;have t8:=W.km_tabs_of Y;refine⟨?nd,?hd,?em,?of⟩
  case nd=>rw [zd4]; show ([201,206]:List Nat).Nodup; decide
  case hd=>rw [zd4]; exact forall_mem_cons.mpr ⟨W.codeHd_of_K (c:=203) (P:=201) KX (by kernel_rfl),forall_mem_cons.mpr ⟨W.codeHd_of_K (c:=210) (P:=206) KX (by kernel_rfl),fun _ h=>nomatch h⟩⟩
  case em=>rw [zd4]; exact forall_mem_cons.mpr ⟨t8 201 (by k_mem),forall_mem_cons.mpr ⟨t8 206 (by k_mem),fun _ h=>nomatch h⟩⟩
  case of=>rw [zd4]; exact forall_mem_cons.mpr ⟨(by kernel_rfl),forall_mem_cons.mpr ⟨(by kernel_rfl),fun _ h=>nomatch h⟩⟩
 case F =>
  intro w mg fa h KX G hmg;have d_law:Dd (L2.KOf KX) mg "law" My.s_law ["script"]:=by
   dsimp only [L2.KOf];refine' Dd.mk' KX G ?a ?l ?c ?k ?b
   (case a=>k_is); (case l=>k_is); (case c=>k_is); (case k=>k_is); (case b=>intro _ _ _ _ _ _ us hl; obtain⟨_,rfl⟩:=L2.len1 hl; rfl)
  have g14:∃ t,mg "MOST_CHOICES" = some (.int 300 t):=by
   apply Exists.intro;apply W.mg_of KX G
   k_is
  have T:My.Txt mg:=by
   refine' ⟨W.mg_none_of KX G ?z0,W.mg_none_of KX G ?z1,W.mg_none_of KX G ?z2,W.mg_none_of KX G ?z3,W.mg_none_of KX G ?z4,W.mg_none_of KX G ?z5,W.mg_none_of KX G ?z6,W.mg_none_of KX G ?z7,W.mg_none_of KX G ?z8,W.mg_none_of KX G ?z9,W.mg_none_of KX G ?z10,W.mg_none_of KX G ?z11,W.mg_none_of KX G ?z12,W.mg_none_of KX G ?z13,g14⟩
   (case z0=>k_is); (case z1=>k_is); (case z2=>k_is); (case z3=>k_is); (case z4=>k_is); (case z5=>k_is); (case z6=>k_is); (case z7=>k_is); (case z8=>k_is); (case z9=>k_is); (case z10=>k_is); (case z11=>k_is); (case z12=>k_is); (case z13=>k_is)
  have dd:My.Dds (L2.KOf KX) mg:=by constructor <;> (dsimp only [L2.KOf]; refine' Dd.mk' KX G ?a ?l ?c ?k ?b; (case a=>k_is); (case l=>k_is); (case c=>k_is); (case k=>k_is); (case b=>(intro _ _ _ _ _ _ us hl; first | (obtain⟨_,rfl⟩:=L2.len1 hl; rfl) | (obtain⟨_,_,rfl⟩:=L2.len2 hl; rfl) | (obtain⟨_,_,_,rfl⟩:=L2.len3 hl; rfl) | (obtain⟨_,_,_,_,rfl⟩:=L2.len4 hl; rfl) | (obtain⟨_,_,_,_,_,rfl⟩:=L2.len5 hl; rfl) | (obtain⟨_,_,_,_,_,_,rfl⟩:=L2.len6 hl; rfl))))
  obtain⟨f,fd,F,hm,_⟩:=d_law.ex;have e0:=hmg.symm.trans hm;cases e0;have ll:My.Lams (L2.KOf KX) mg:=⟨⟨203,201,L2.CodeAt.of (P:=201) KX G (by dsimp only [L2.KOf]; kernel_rfl),by rw [zd4]; exact mem_cons_self⟩,⟨210,206,L2.CodeAt.of (P:=206) KX G (by dsimp only [L2.KOf]; kernel_rfl),by rw [zd4]; exact mem_cons_of_mem _ (mem_cons_self)⟩⟩;exact⟨fd,F.bind1 fun _ _ _ _ _ _ _=>rfl,fun base _ _=>My.ok_law T dd ll F⟩
#print axioms PySem.Challenge.cw_gaugewright_k69_whole_nothing_cheaper_do_holds
end