import PyProof.Rows.All
import Wide.All
import OpenK.AllK
import Wide.FinOn
import Lean
import PyProof.EqAt
import PyProof.EqKinds
import PyProof.TupleCall
import KE.KTupSum
import KE.KSortTup
import PyProof.SetKind
import PyProof.SetRoads
import PyProof.SetNew
import PyProof.DictKinds
import PyProof.NsDelKeeps
import PyProof.StrWalks
import KE.KEqDict
import KE.KDictList
import PyProof.AttrMissSeq
import PyProof.WalksMore
import KE.KDictOf
import PyProof.Rows.Range3
import KE.KItemsList
import PyProof.FactsAll.dict_3
import KE.KMinKey
import PyProof.Rows.CallKwBuiltin
import PyProof.TupleOfSeq
import KE.KLam
import KE.KNestM
import PySem.Challenge.RW_gaugewright_k66_trims_and_filings
open Option (isSome_iff_exists map_some)
open Nat (le_of_ble_eq_true le_of_lt le_refl le_succ le_trans lt_irrefl lt_of_lt_of_le mul_comm ne_of_gt ne_of_lt zero_add zero_le)
open List (all_cons all_eq_true all_map append_assoc append_nil cons_append drop_eq_getElem_cons drop_length eq_nil_of_length_eq_zero filterMap_cons flatten_cons forIn_cons getD_eq_getElem?_getD getElem?_append_left getElem?_append_right getElem?_concat_length getElem?_cons_succ getElem?_cons_zero getElem?_eq_getElem getElem?_map getElem?_replicate getElem?_set getElem?_set_ne getElem?_set_self getElem?_zip_eq_some getElem_mem length_append length_cons length_drop length_map length_nil length_set length_singleton length_take lookup_cons map_cons map_id' map_map map_nil mem_append mem_append_left mem_append_right mem_cons mem_cons_of_mem mem_cons_self mem_filter mem_iff_getElem? mem_map mem_of_getElem? mem_range mem_reverse mem_singleton nil_append nodup_append nodup_cons nodup_nil not_mem_nil of_mem_zip replicate_succ reverse_cons set_cons_succ set_cons_zero size_toArray take_zero zip_cons_cons)
open PySem.Heap (get?_push_of_some get?_push_size get?_update_ne get?_update_other get?_update_self lt_size size_push)
open Array (length_toList)
theorem dz{p:Prop}[Decidable p](h:decide p=true:=by rfl):p:=of_decide_eq_true h
set_option Elab.async false
set_option linter.all false
set_option maxRecDepth 100000
set_option maxHeartbeats 8000000
noncomputable section
namespace L2
open PySem PySem.Spec PyProof.Rows
section
abbrev Key:=Sum Int Str
def zpv:Key->Value->Bool
 | .inl k,v=>Value.isInt k v
 | .inr x,v=>Value.isStrOf x v
def zrH(w:World):Key->Int
 | .inl k=>hashInt k
 | .inr x=>hashStr w x
theorem zaq:∀ {k:Key} {v:Value},zpv k v=true->(∃ i t,k=Sum.inl i/\v=Value.int i t)\/(∃ x t,k=Sum.inr x/\v=Value.str x t)
 | .inl i,v,h=>by
  obtain⟨t,e⟩:=Value.isInt_shape (k:=i) (v:=v) h;exact .inl ⟨i,t,rfl,e⟩
 | .inr x,v,h=>by
  obtain⟨t,e⟩:=Value.isStrOf_shape (x:=x) (v:=v) h;exact .inr ⟨x,t,rfl,e⟩
theorem zqg(a b:Int):decide ((Sum.inl a:Key)=Sum.inl b)=(a == b):=by
 by_cases e:a=b
 ·subst e; simp
 ·have h:¬ (Sum.inl a:Key)=Sum.inl b:=fun q=>e (Sum.inl.inj q);rw [decide_eq_false h];exact(beq_eq_false_iff_ne.mpr e).symm
theorem zp0(a b:Str):decide ((Sum.inr a:Key)=Sum.inr b)=decide (a=b):=by
 by_cases e:a=b
 ·subst e; simp
 ·have h:¬ (Sum.inr a:Key)=Sum.inr b:=fun q=>e (Sum.inr.inj q);rw [decide_eq_false h,decide_eq_false e]
theorem zpp(a:Int)(b:Str):decide ((Sum.inl a:Key)=Sum.inr b)=false:=decide_eq_false (fun q=>nomatch q)
theorem zoY(a:Str)(b:Int):decide ((Sum.inr a:Key)=Sum.inl b)=false:=decide_eq_false (fun q=>nomatch q)
def zdM(prog:Program)(w:World):PySem.KeyKind prog w Key where
 is:=zpv
 hash:=zrH w
 inj:=fun v a b ha hb=>by
  rcases zaq ha with ⟨i,t,rfl,rfl⟩ | ⟨x,t,rfl,rfl⟩
  ·rcases zaq hb with ⟨j,u,rfl,e⟩ | ⟨y,u,rfl,e⟩
   ·injection e with e1 _; rw [e1]
   ·exact nomatch e
  ·rcases zaq hb with ⟨j,u,rfl,e⟩ | ⟨y,u,rfl,e⟩
   ·exact nomatch e
   ·injection e with e1 _; rw [e1]
 byValue:=fun k v h=>by
  rcases zaq h with ⟨i,t,rfl,rfl⟩ | ⟨x,t,rfl,rfl⟩ <;> rfl
 pyHash:=fun hv h=>by
  rcases zaq hv with ⟨i,t,rfl,rfl⟩ | ⟨x,t,rfl,rfl⟩
  ·exact wpAny_pyHash_int h
  ·exact wpAny_pyHash_str h
 eqBool:=fun hu hv h=>by
  rcases zaq hu with ⟨i,t,rfl,rfl⟩ | ⟨x,t,rfl,rfl⟩
  ·rcases zaq hv with ⟨j,u,rfl,rfl⟩ | ⟨y,u,rfl,rfl⟩
   ·rw [zqg] at h; exact wpAny_eqBool_int h
   ·rw [zpp] at h; exact SeqAt.EqAt.int_str i t y u _ _ _ _ h
  ·rcases zaq hv with ⟨j,u,rfl,rfl⟩ | ⟨y,u,rfl,rfl⟩
   ·rw [zoY] at h; exact SeqAt.EqAt.str_int x t j u _ _ _ _ h
   ·rw [zp0] at h; exact wpAny_eqBool_str h
 «strs»:=fun k x t v h=>by
  rcases zaq h with ⟨i,u,rfl,e⟩ | ⟨y,u,rfl,e⟩
  ·exact nomatch e
  ·injection e with e1 _
   subst e1;cases v <;> rfl
end
section
inductive V where
 | non | bl (b:Bool) | int (i:Int) | str (x:Str) | byt (b:Array UInt8) | flt (b:UInt64) | ref (a:Addr) | ty (n:String)
 deriving DecidableEq
def RelV:V->Value->Prop
 | .non,u=>u=Value.none
 | .bl b,u=>u=Value.bool b
 | .int i,u=>∃ t,u=Value.int i t
 | .str x,u=>∃ t,u=Value.str x t
 | .byt b,u=>∃ t,u=Value.bytes b t
 | .flt b,u=>∃ t,u=Value.float b t
 | .ref a,u=>u=Value.ref a
 | .ty n,u=>u=Value.type n
abbrev Vals:List V->List Value->Prop:=Paired RelV
theorem Vals.length{xs:List V}{us:List Value}(r:Vals xs us):xs.length=us.length:=Paired.length r
theorem Vals.get:∀ {xs:List V} {us:List Value} {i:Nat} {x:V},Vals xs us->xs[i]? = some x->∃ u,us[i]? = some u/\RelV x u
 | _,_,_,_,.nil,e=>by simp at e
 | _,_,0,_,.cons r _,e=>by simp at e; subst e; exact⟨_,rfl,r⟩
 | _,_,i+1,x,.cons _ t,e=>by
  obtain⟨u,h1,h2⟩:=Vals.get (i:=i) (x:=x) t (by simpa using e);exact⟨u,by simpa using h1,h2⟩
theorem Vals.set{x:V}{u:Value}(r:RelV x u):∀ {xs:List V} {us:List Value} (i:Nat),Vals xs us->Vals (xs.set i x) (us.set i u)
 | _,_,_,.nil=>.nil
 | _,_,0,.cons _ t=>.cons r t
 | _,_,i+1,.cons q t=>.cons q (Vals.set r i t)
theorem Vals.append:∀ {xs ys:List V} {us ws:List Value},Vals xs us->Vals ys ws->Vals (xs++ys) (us++ws)
 | _,_,_,_,.nil,s=>s
 | _,_,_,_,.cons r t,s=>.cons r (Vals.append t s)
theorem Vals.take:∀ {xs:List V} {us:List Value} (n:Nat),Vals xs us->Vals (xs.take n) (us.take n)
 | _,_,0,_=>.nil
 | _,_,_+1,.nil=>.nil
 | _,_,n+1,.cons r t=>.cons r (Vals.take n t)
theorem Vals.drop:∀ {xs:List V} {us:List Value} (n:Nat),Vals xs us->Vals (xs.drop n) (us.drop n)
 | _,_,0,r=>r
 | _,_,_+1,.nil=>.nil
 | _,_,n+1,.cons _ t=>Vals.drop n t
def RelO:Option V->Option Value->Prop
 | some v,some u=>RelV v u
 | none,none=>True
 | _,_=>False
def KV{κ:Type}:List (κ×V)->List (κ×Value)->Prop:=Paired fun(p:κ×V) (q:κ×Value)=>p.1=q.1/\RelV p.2 q.2
def kV:Key->V
 | .inl i=>.int i
 | .inr x=>.str x
inductive HO where
 | lst (xs:List V)
 | tup (xs:List V)
 | dK (kvs:List (Key×V)) | dT (kvs:List (List Key×V))
 | set (S:Int->Bool) (n:Nat)
 | ins (C dx:Addr) (fs:List (Str×V))
 | own (x:Addr)
 | xd (fs:List (Str×V))
 | met (f x:Addr)
 | rng (lo hi:Int)
 | frz (o:Obj) (u:HO)
 | tbl (ps:Array Value)
 | ext (φ:Heap->Prop)
abbrev Hp:=Addr->Option HO
def upd(H:Hp)(a:Addr)(o:HO):Hp:=fun b=>if b=a then some o else H b
theorem zQ{H:Hp}{a:Addr}{o:HO}:upd H a o a=some o:=by unfold upd; rw [if_pos rfl]
theorem zG{H:Hp}{a b:Addr}{o:HO}(h:b≠a):upd H a o b=H b:=by unfold upd; rw [if_neg h]
theorem znS{H:Hp}{a:Addr}{o u:HO}:upd (upd H a o) a u=upd H a u:=by
 funext b; unfold upd; split <;> rfl
theorem zD{H:Hp}{a b:Addr}{o:HO}(h:H a=some o)(h':H b=none):a≠b:=by
 intro e; subst e; rw [h] at h'; cases h'
def TblOk(H:Hp)(ps qs:Array Value):Prop:=qs = #[]\/∃ (l c:Value) (q:Str) (t:Tok) (k:Addr) (oc:Obj) (vs:Array Value) (t':Tok),ps = #[l,c,.str q t]/\qs = #[l,c,.ref k]/\H k=some (.frz oc (.own 0))/\oc.data=.fields vs/\vs[1]? = some (.str q t')
theorem TblOk.stay{H H':Hp}{ps qs:Array Value}(x:TblOk H ps qs)(hf:∀ b o u,H b=some (.frz o u)->H' b=some (.frz o u)):TblOk H' ps qs:=by
 rcases x with x | ⟨l,c,q,t,k,oc,vs,t',e1,e2,e3,r⟩
 ·exact .inl x
 ·exact .inr ⟨l,c,q,t,k,oc,vs,t',e1,e2,hf _ _ _ e3,r⟩
section
variable (P:Program) (w:World)
def ObjOk(H:Hp)(h:Heap)(a:Addr):HO->Prop
 | .lst xs=>xs.length<=sizeLine/\∃ (its:List Value) (n:Nat),Vals xs its/\h.get? a=some { cls:=.type "list",data:=.seq its.toArray n }
 | .tup xs=>(xs.length<=sizeLine/\∃ o:Obj,h.get? a=some o/\o.dict=none)/\∃ its:List Value,Vals xs its/\IsTup h a its.toArray
 | .dK kvs=>kvs.length<=sizeLine/\(a == sysModules)=false/\∃ vs,KV kvs vs/\h.DictOf (zdM P w) a vs
 | .dT kvs=>kvs.length<=sizeLine/\(a == sysModules)=false/\∃ xs:List (List Key×Addr×Value),
   Paired (fun(p:List Key×V) (q:List Key×Addr×Value)=>p.1=q.1/\H q.2.1=some (.tup (p.1.map kV))/\RelV p.2 q.2.2) kvs xs /\
   ∃ o es ep,h.get? a=some o/\o.ExactDict/\o.data=.dict es ep/\es.toList=xs.map (entryOfKey (tupleKind (zdM P w)))/\(xs.map (·.1)).Nodup
 | .set S n=>h.SetOf (intKind P w) a S n
 | .ins C dx fs=>H dx=some (.own a)/\fs.length<=1000/\dx≠a/\h.get? a=some (W.instObj C dx) /\
   ∃ mA,h.Ns1 dx mA/\(∀ f,RelO (fs.lookup f) (mA f))/\PySem.Within mA (fs.map (·.1))
 | .own _=>∃ o,h.get? a=some o
 | .xd fs=>∃ mA,h.Ns1 a mA/\∀ f,RelO (fs.lookup f) (mA f)
 | .rng lo hi=>∃ t u v,h.get? a=some { cls:=.type "range",data:=.fields #[.int lo t,.int hi u,.int 1 v] }
 | .frz o u=>h.get? a=some o/\ObjOk H h a u
 | .tbl ps=>∃ qs:Array Value,h.get? a=some { cls:=.none,data:=.fields qs }/\TblOk H ps qs
 | .met f x=>h.get? a=some (W.methodObj (.ref f) (.ref x))
 | .ext φ=>φ h/\(∃ o,h.get? a=some o)/\∀ h1 h2:Heap,φ h1->(∀ o,h1.get? a=some o->h2.get? a=some o)->φ h2
def HOk(H:Hp)(h:Heap):Prop:=∀ a o,H a=some o->ObjOk P w H h a o
end
section
variable {P:Program} {w:World} {H H':Hp} {h h':Heap} {a:Addr} {o:HO}
theorem ObjOk.lt(x:ObjOk P w H h a o):a<h.objs.size:=by
 cases o with
 | lst xs=>obtain⟨_,_,_,_,e⟩:=x; exact lt_size e
 | tup xs=>obtain⟨_,_,_,p⟩:=x; exact p.lt
 | dK kvs=>obtain⟨_,_,_,_,o,_,_,e,_⟩:=x; exact lt_size e
 | dT kvs=>obtain⟨_,_,_,_,o,_,_,e,_⟩:=x; exact lt_size e
 | set S n=>obtain⟨o,_,_,_,e,_⟩:=x; exact lt_size e
 | ins C dx fs=>obtain⟨_,_,_,e,_⟩:=x; exact lt_size e
 | own y=>obtain⟨_,e⟩:=x; exact lt_size e
 | xd fs=>obtain⟨_,⟨_,_,_,e,_⟩,_⟩:=x; exact lt_size e
 | rng lo hi=>obtain⟨_,_,_,e⟩:=x; exact lt_size e
 | frz ob u=>obtain⟨e,_⟩:=x; exact lt_size e
 | tbl ps=>obtain⟨_,e,_⟩:=x; exact lt_size e
 | met f y=>exact lt_size (show h.get? a=some _ from x)
 | ext φ=>obtain⟨_,⟨_,e⟩,_⟩:=x; exact lt_size e
theorem Paired.mapP{α β:Type}{F G:α->β->Prop}:∀ {l₁:List α} {l₂:List β},Paired F l₁ l₂->(∀ a b,F a b->G a b)->Paired G l₁ l₂
 | _,_,.nil,_=>.nil
 | _,_,.cons r t,f=>.cons (f _ _ r) (Paired.mapP t f)
theorem ObjOk.stay(x:ObjOk P w H h a o)(k:∀ b u,(b=a\/H b=some (.own a))->h.get? b=some u->h'.get? b=some u)
  (ho:∀ b,H b=some (.own a)->H' b=some (.own a)) (ht:∀ b xs,H b=some (.tup xs)->H' b=some (.tup xs))
  (hf:∀ b o u,H b=some (.frz o u)->H' b=some (.frz o u):=by first | exact fun _ _ _ q=>q | (intro b o u q; rw [zG (zD q (by assumption))]; exact q)):ObjOk P w H' h' a o:=by
 induction o with
 | lst xs=>obtain⟨z,its,n,r,e⟩:=x; exact⟨z,its,n,r,k _ _ (.inl rfl) e⟩
 | tup xs=>obtain⟨⟨z,o2,e2,d2⟩,its,r,ob,e,c⟩:=x; exact⟨⟨z,o2,k _ _ (.inl rfl) e2,d2⟩,its,r,ob,k _ _ (.inl rfl) e,c⟩
 | dK kvs=>obtain⟨z,y,vs,r,ob,es,ep,e,c⟩:=x; exact⟨z,y,vs,r,ob,es,ep,k _ _ (.inl rfl) e,c⟩
 | dT kvs =>
  obtain⟨z,y,xs,r,ob,es,ep,e,c⟩:=x;exact⟨z,y,xs,Paired.mapP r fun p q z=>⟨z.1,ht _ _ z.2.1,z.2.2⟩,ob,es,ep,k _ _ (.inl rfl) e,c⟩
 | set S n=>obtain⟨ob,es,ep,t,e,c⟩:=x; exact⟨ob,es,ep,t,k _ _ (.inl rfl) e,c⟩
 | ins C dx fs =>
  obtain⟨d,z,ne,e,mA,⟨od,es,ep,e2,c⟩,r⟩:=x;exact⟨ho _ d,z,ne,k _ _ (.inl rfl) e,mA,⟨od,es,ep,k _ _ (.inr d) e2,c⟩,r⟩
 | own y=>obtain⟨ob,e⟩:=x; exact⟨ob,k _ _ (.inl rfl) e⟩
 | xd fs=>obtain⟨mA,⟨od,es,ep,e,c⟩,r⟩:=x; exact⟨mA,⟨od,es,ep,k _ _ (.inl rfl) e,c⟩,r⟩
 | rng lo hi=>obtain⟨t,u,v,e⟩:=x; exact⟨t,u,v,k _ _ (.inl rfl) e⟩
 | frz ob u ih=>obtain⟨e,q⟩:=x; exact⟨k _ _ (.inl rfl) e,ih q⟩
 | tbl ps =>
  obtain⟨qs,e,q⟩:=x;exact⟨qs,k a _ (.inl rfl) e,q.stay hf⟩
 | met f y =>
  have e:h.get? a=some (W.methodObj (.ref f) (.ref y)):=x;show h'.get? a=some (W.methodObj (.ref f) (.ref y));exact k a _ (.inl rfl) e
 | ext φ=>obtain⟨p,⟨o,e⟩,st⟩:=x; exact⟨st _ _ p fun o q=>k _ _ (.inl rfl) q,⟨o,k _ _ (.inl rfl) e⟩,st⟩
theorem HOk.lt(x:HOk P w H h)(e:H a=some o):a<h.objs.size:=(x a o e).lt
theorem HOk.fresh(x:HOk P w H h)(e:h.objs.size<=a):H a=none:=by
 cases q:H a with
 | none=>rfl
 | some u=>exact absurd (lt_of_lt_of_le (x.lt q) e) (lt_irrefl _)
theorem HOk.kept(x:HOk P w H h)(k:∀ b u,h.get? b=some u->h'.get? b=some u):HOk P w H h':=fun a o e =>
 (x a o e).stay (fun b u _ q=>k b u q) (fun _ q=>q) fun _ _ q=>q
theorem HOk.laid(x:HOk P w H h)(k:∀ b u,h.get? b=some u->h'.get? b=some u)(hp:h.objs.size<=a)(new:ObjOk P w (upd H a o) h' a o):HOk P w (upd H a o) h':=fun b u e=>by
 have hn:=x.fresh hp;by_cases hb:b=a
 ·subst hb; rw [zQ] at e; cases e; exact new
 ·rw [zG hb] at e;exact(x b u e).stay (fun c v _ q=>k c v q) (fun c q=>by rw [zG (zD q hn)]; exact q) fun c xs q=>by rw [zG (zD q hn)]; exact q
end
def Rd(H:Hp)(a:Addr)(u:HO):Prop:=H a=some u\/∃ o,H a=some (.frz o u)
theorem Rd.ok{P:Program}{w:World}{H:Hp}{h:Heap}{a:Addr}{u:HO}(r:Rd H a u)(x:HOk P w H h):ObjOk P w H h a u:=by
 rcases r with r | ⟨o,r⟩
 ·exact x a u r
 ·obtain⟨_,q⟩:=x a _ r;exact q
def Mut:Option HO->Prop
 | some (.lst _)=>True
 | some (.dK _)=>True
 | some (.dT _)=>True
 | some (.set _ _)=>True
 | some (.ins _ _ _)=>True
 | some (.ext _)=>True
 | _=>False
section
variable {P:Program} {w:World} {H:Hp} {h h':Heap} {x e:Addr} {o':HO}
theorem HOk.write(ok:HOk P w H h)(mu:Mut (H x))(he:e=x\/H e=some (.own x))(k:∀ b u,b≠e->h.get? b=some u->h'.get? b=some u)(heo:∃ u,h'.get? e=some u)
  (new:ObjOk P w (upd H x o') h' x o'):HOk P w (upd H x o') h':=fun b u q=>by
 have nown:∀ c y,H c=some (.own y)->c≠x:=fun c y r z=>by subst z; rw [r] at mu; exact mu
 have ntup:∀ c xs,H c=some (.tup xs)->c≠x:=fun c xs r z=>by subst z; rw [r] at mu; exact mu
 have nfrz:∀ c o u,H c=some (.frz o u)->c≠x:=fun c o u r z=>by subst z; rw [r] at mu; exact mu
 by_cases hb:b=x
 ·subst hb; rw [zQ] at q; cases q; exact new
 ·rw [zG hb] at q;by_cases hbe:b=e
  ·have q':H b=some (.own x):=by
    rcases he with z | z
    ·exact absurd (hbe.trans z) hb
    ·rw [hbe]; exact z
   rw [q] at q'; cases q';obtain⟨v,hv⟩:=heo;exact⟨v,by rw [hbe]; exact hv⟩
  ·refine(ok b u q).stay (fun c v hc r=>k c v ?_ r) (fun c r=>by rw [zG (nown c b r)]; exact r) (fun c xs r=>by rw [zG (ntup c xs r)]; exact r) fun c o u r=>by rw [zG (nfrz c o u r)]; exact r
   rcases hc with rfl | hc
   ·exact hbe
   ·rintro rfl;rcases he with z | z
    ·exact nown c b hc z
    ·rw [hc] at z; cases z; exact hb rfl
end
structure Un(fs ex:List Addr)(H H':Hp)(h h':Heap):Prop where
 keep:∀ b o,h.get? b=some o->H b=none->b∉fs->b∉ex->h'.get? b=some o
 slot:∀ b o,h.get? b=some o->H b=none->b∈fs->b∉ex->∃ sl,h'.get? b=some { o with slots:=sl }
 free:∀ b o,h.get? b=some o->H b=none->b∉ex->H' b=none
 there:∀ b o,h.get? b=some o->b∉ex->∃ o',h'.get? b=some o'
 tups:∀ b xs,H b=some (.tup xs)->H' b=some (.tup xs)
 frzs:∀ b o u,H b=some (.frz o u)->H' b=some (.frz o u)
 tbls:∀ b ps,H b=some (.tbl ps)->H' b=some (.tbl ps)
section
variable {fs fs' ex ex':List Addr} {H H1 H2:Hp} {h h1 h2 h':Heap} {a x e:Addr} {o:HO}
theorem Un.any(u:Un fs ex H H1 h h1){b:Addr}{ob:Obj}(q:h.get? b=some ob)(n:H b=none)(hx:b∉ex):∃ sl,h1.get? b=some { ob with slots:=sl }:=by
 by_cases hb:b∈fs
 ·exact u.slot b ob q n hb hx
 ·exact⟨ob.slots,u.keep b ob q n hb hx⟩
theorem Un.trans(a:Un fs ex H H1 h h1)(b:Un fs ex H1 H2 h1 h2):Un fs ex H H2 h h2 where
 keep:=fun c ob q n hc hx=>b.keep c ob (a.keep c ob q n hc hx) (a.free c ob q n hx) hc hx
 slot:=fun c ob q n hc hx=>by
  obtain⟨sl,e1⟩:=a.slot c ob q n hc hx;obtain⟨sl',e2⟩:=b.slot c _ e1 (a.free c ob q n hx) hc hx;exact⟨sl',e2⟩
 free:=fun c ob q n hx=>by
  obtain⟨o',e1⟩:=a.there c ob q hx;exact b.free c o' e1 (a.free c ob q n hx) hx
 there:=fun c ob q hx=>by
  obtain⟨o',e1⟩:=a.there c ob q hx;exact b.there c o' e1 hx
 tups:=fun c xs q=>b.tups c xs (a.tups c xs q)
 frzs:=fun c ob xs q=>b.frzs c ob xs (a.frzs c ob xs q)
 tbls:=fun c ps q=>b.tbls c _ (a.tbls c ps q)
theorem Un.kept(k:∀ b u,h.get? b=some u->h'.get? b=some u):Un fs ex H H h h' :=
 ⟨fun b ob q _ _ _=>k b ob q,fun b ob q _ _ _=>⟨ob.slots,k b ob q⟩,fun _ _ _ n _=>n,fun b ob q _=>⟨ob,k b ob q⟩,fun _ _ q=>q,fun _ _ _ q=>q,fun _ _ q=>q⟩
theorem Un.refl:Un fs ex H H h h:=Un.kept fun _ _ q=>q
theorem Un.laid(k:∀ b u,h.get? b=some u->h'.get? b=some u)(hp:h.objs.size<=a)(hn:H a=none):Un fs ex H (upd H a o) h h' where
 keep:=fun b u q _ _ _=>k b u q
 slot:=fun b u q _ _ _=>⟨u.slots,k b u q⟩
 free:=fun b u q n _=>by rw [zG (ne_of_lt (lt_of_lt_of_le (lt_size q) hp))]; exact n
 there:=fun b u q _=>⟨u,k b u q⟩
 tups:=fun b xs q=>by rw [zG (zD q hn)]; exact q
 frzs:=fun b u xs q=>by rw [zG (zD q hn)]; exact q
 tbls:=fun b ps q=>by rw [zG (zD q hn)]; exact q
theorem Un.write(mu:Mut (H x))(he:e=x\/H e=some (.own x))(k:∀ b u,b≠e->h.get? b=some u->h'.get? b=some u)(heo:∃ u,h'.get? e=some u):Un fs ex H (upd H x o) h h':=by
 have hx:∀ b,H b=none->b≠x:=fun b n z=>by subst z; rw [n] at mu; exact mu
 have hb:∀ b,H b=none->b≠e:=fun b n z=>by
  subst z;rcases he with r | r
  ·exact hx b n r
  ·rw [n] at r; cases r
 have hm:∀ b u,H b=some u->¬ Mut (some u)->b≠x:=fun b u q nm z=>by subst z; rw [q] at mu; exact nm mu
 refine⟨fun b u q n _ _=>k b u (hb b n) q,fun b u q n _ _=>⟨u.slots,k b u (hb b n) q⟩,fun b u q n _=>by rw [zG (hx b n)]; exact n,fun b u q _=>?_,
  fun b xs q=>by rw [zG (hm b _ q fun z=>z)]; exact q,fun b u xs q=>by rw [zG (hm b _ q fun z=>z)]; exact q,fun b ps q=>by rw [zG (hm b _ q fun z=>z)]; exact q⟩
 by_cases hbe:b=e
 ·subst hbe; exact heo
 ·exact⟨u,k b u hbe q⟩
theorem Un.mono(u:Un fs ex H H1 h h1)(hs:∀ b∈fs,b∈fs')(hx:∀ b∈ex,b∈ex'):Un fs' ex' H H1 h h1 :=
 ⟨fun b ob q n hb he=>u.keep b ob q n (fun z=>hb (hs b z)) fun z=>he (hx b z),fun _ _ q n _ he=>u.any q n fun z=>he (hx _ z),fun b ob q n he=>u.free b ob q n fun z=>he (hx b z),fun b ob q he=>u.there b ob q fun z=>he (hx b z),u.tups,u.frzs,u.tbls⟩
end
def trk(h:Heap)(H:Hp):List Addr:=(List.range h.objs.size).filter fun a=>(H a).isSome
def zlC(h:Heap)(H:Hp):Heap:=W.hideAll h (trk h H)
theorem zk8(h:Heap)(H:Hp):(zlC h H).objs.size=h.objs.size:=W.hideAll_size _ _
theorem zlM{h:Heap}{H:Hp}{b:Addr}{o:Obj}(e:h.get? b=some o)(n:H b=none):(zlC h H).get? b=some o :=
 W.hideAll_get _ e fun hm=>by
  have q:(H b).isSome=true:=(mem_filter.mp hm).2;rw [n] at q; simp at q
theorem zof{h:Heap}{H:Hp}{b:Addr}{o:Obj}(e:(zlC h H).get? b=some o):h.get? b=some o/\H b=none:=by
 have e':h.get? b=some o:=W.of_hideAll (trk h H) e;refine⟨e',?_⟩;cases q:H b with
 | none=>rfl
 | some x =>
  have hm:b∈trk h H:=mem_filter.mpr ⟨mem_range.mpr (lt_size e'),by simp [q]⟩;have z:(zlC h H).get? b=none:=W.hideAll_none (trk h H) hm;rw [z] at e; cases e
def znC(g h:Heap)(L:Addr):List (Addr×Obj):=(List.range h.objs.size).filterMap fun a=>if a=L\/(g.get? a).isSome=true then none else (h.get? a).map fun o=>(a,o)
def rest(g h:Heap)(L d:Addr):List (Addr×Obj):=(znC g h L).filter fun p=>decide (p.1≠d)
end
section
def tabsG:List ((Addr×Addr)×Array Value):=[((226,222),#[rawInt ((59:Nat):Int),rawInt ((42:Nat):Int),.str (("trims_of" ++ ".<locals>.") ++ "<lambda>") 0])]
def BltAt(base:Heap)(mg:Str->Option Value):Prop:=∃ bm ob,mg "__builtins__" = some (.ref bm)/\bm≠builtinsNs/\base.get? bm=some ob/\ob.cls=.type "module"/\ob.dict=some builtinsNs/\ob.data=.plain
structure Frf(fs:List Addr)(H:Hp):Prop where
 free:∀ b∈fs,H b=none
 tab:∀ q∈tabsG,H q.1.2=some (.tbl q.2)
structure Mod(K:W.Frag)(mg:Str->Option Value)(base:Heap):Prop where
 kin:K.In base
 glob:base.Ns mainGlobals mg
 blt:∃ mb,base.Ns builtinsNs mb/\∀ x:Str,x ≠ "__name__"->mb x=bootBuiltins x
 nolimit:base.NoLimit
 bm:BltAt base mg
 hd:∀ q∈tabsG,W.CodeHd base q.1.1 q.1.2
structure Cx where
 prog:Program
 w:World
 K:W.Frag
 mg:Str->Option Value
 base:Heap
 A:Around
 N:List Str
 s₀:Shared
 H₀:Hp
 env:Env
 outer:List Env
 stack:List Env
 ex:List Addr
 fn:Str->Bool
 calm:Bool
 pn:List (Addr×Obj)
 xe:Value->Shared->Prop
def frs(l:List Env):List Addr:=l.filterMap (·.frame)
abbrev Cx.fs (X:Cx):List Addr:=frs X.outer
def Vis(sc:Scope)(x:Str):Prop:=sc.names.lookup x=some .local\/sc.names.lookup x=some .cell\/sc.names.lookup x=some .free
def Loc(sc:Scope)(x:Str):Prop:=sc.names.lookup x=some .local\/sc.names.lookup x=some .cell
def Look(env:Env)(h:Heap)(m:Str->Option Value)(x:Str)(u:Value):Prop :=
 (env.kindOf x=some .local/\m x=some u)\/((env.kindOf x=some .cell\/env.kindOf x=some .free)/\∃ c,env.cells.lookup x=some c/\h.IsCell c (some u))
structure Cx.Ok(X:Cx):Prop where
 mod:Mod X.K X.mg X.base
 kind:X.env.scope.kind=.function
 glob:X.env.globals=mainGlobals
 blt:X.env.builtins=builtinsNs
 above:X.s₀.heap.objs.size<=X.env.locals
 inj:∀ x y c,X.env.cells.lookup x=some c->X.env.cells.lookup y=some c->x=y
 has:∀ x,(X.env.kindOf x=some .cell\/X.env.kindOf x=some .free)->∃ c,X.env.cells.lookup x=some c
 cab:∀ x c,X.fn x=true->X.env.cells.lookup x=some c->X.s₀.heap.objs.size<=c
 hd:X.calm=true->X.A.handled=none
 frames:X.A.frames=some X.stack
 stk:X.stack=X.outer\/(X.stack=X.env :: X.outer/\X.env.frame=some X.env.locals)
 exf:∀ b∈X.ex,b≠X.env.locals/\∀ x c,X.env.cells.lookup x=some c->c≠b
 bs:∀ b o,X.base.get? b=some o->X.s₀.heap.get? b=some o/\X.H₀ b=none
 bsz:X.base.objs.size<=X.s₀.heap.objs.size
 noex:∀ b o,X.base.get? b=some o->b∉X.ex
 exfs:∀ b∈X.ex,b∉X.fs
 funs:X.s₀.heap.FunFrames X.base X.outer
 frf:Frf X.fs X.H₀
structure Inv(X:Cx)(ze:List (Addr×Obj))(σ:List (Option V))(H:Hp)(s:Shared):Prop where
 ok:X.Ok
 os:s.os=X.s₀.os
 bare:AllBare s.gens
 base:Un X.fs X.ex X.H₀ H X.s₀.heap s.heap
 loc:∃ m,s.heap.Ns X.env.locals m/\∀ (i:Nat) (x:Str) (v:V),X.N[i]? = some x->σ[i]? = some (some v)->Vis X.env.scope x->∃ u,RelV v u/\Look X.env s.heap m x u
 cell:∀ x c,X.env.cells.lookup x=some c->∃ v,s.heap.IsCell c v
 free:H X.env.locals=none
 freeC:∀ x c,X.env.cells.lookup x=some c->H c=none
 pin:∀ p∈X.pn++ze,s.heap.get? p.1=some p.2/\H p.1=none/\p.1≠X.env.locals/\p.1∉X.fs/\∀ v,p.2.data≠.cell v
 hok:HOk X.prog X.w H s.heap
 len:σ.length=X.N.length
section
variable {X:Cx} {ze:List (Addr×Obj)} {σ:List (Option V)} {H H':Hp} {s:Shared} {h':Heap}
theorem Cx.Ok.nofr(ok:X.Ok){b:Addr}{o:Obj}(e:X.base.get? b=some o):b∉X.fs:=fun hb=>by
 have:=(ok.funs.mem hb).1;rw [e] at this; cases this
theorem Inv.bs(I:Inv X ze σ H s):∀ b o,X.base.get? b=some o->s.heap.get? b=some o/\H b=none:=fun b o e =>
 ⟨I.base.keep b o (I.ok.bs b o e).1 (I.ok.bs b o e).2 (I.ok.nofr e) (I.ok.noex b o e),I.base.free b o (I.ok.bs b o e).1 (I.ok.bs b o e).2 (I.ok.noex b o e)⟩
theorem Inv.bk(I:Inv X ze σ H s):∀ b o,X.base.get? b=some o->s.heap.get? b=some o:=fun b o e=>(I.bs b o e).1
theorem Inv.mod(I:Inv X ze σ H s):Mod X.K X.mg X.base:=I.ok.mod
theorem Inv.kIn(I:Inv X ze σ H s):X.K.In s.heap:=I.ok.mod.kin.keeps I.bk
theorem Inv.lt(I:Inv X ze σ H s):X.env.locals<s.heap.objs.size:=let ⟨_,hn,_⟩:=I.loc; hn.lt
theorem Inv.sz(I:Inv X ze σ H s):X.s₀.heap.objs.size<=s.heap.objs.size:=le_trans I.ok.above (le_of_lt I.lt)
theorem Inv.nofs(I:Inv X ze σ H s){a:Addr}(h:s.heap.objs.size<=a):a∉X.fs:=fun hb=>by
 obtain⟨_,o,ho,_⟩:=I.ok.funs.mem hb;exact absurd (lt_of_lt_of_le (lt_size ho) (le_trans I.sz h)) (lt_irrefl _)
theorem Inv.cne(I:Inv X ze σ H s):∀ x c,X.env.cells.lookup x=some c->c≠X.env.locals:=fun x c e z=>by
 obtain⟨v,o,ho,hd⟩:=I.cell x c e;obtain⟨m,⟨o',es,ep,ho',hd',_⟩,_⟩:=I.loc;rw [z,ho'] at ho; cases ho; rw [hd'] at hd; cases hd
theorem Inv.funs(I:Inv X ze σ H s):s.heap.FunFrames X.base X.outer:=by
 have all:∀ (l:List Env),(∀ b∈frs l,b∈X.fs)->X.s₀.heap.FunFrames X.base l->s.heap.FunFrames X.base l:=by
  intro l;induction l with
  | nil=>intro _ _; trivial
  | cons env r ih =>
   intro hs hl;obtain⟨hk,⟨L,o,hf,hn,ho,hd⟩,hr⟩:=hl;have hL:L∈X.fs:=hs L (by unfold frs; rw [filterMap_cons,hf]; exact mem_cons_self);obtain⟨sl,e⟩:=I.base.slot L o ho (I.ok.frf.free L hL) hL fun z=>I.ok.exfs L z hL;exact⟨hk,⟨L,_,hf,hn,e,hd⟩,ih (fun b hb=>hs b (by unfold frs; rw [filterMap_cons,hf]; exact mem_cons_of_mem _ hb)) hr⟩
 exact all X.outer (fun _ hb=>hb) I.ok.funs
theorem Inv.stack(I:Inv X ze σ H s):s.heap.FunFrames X.base X.stack:=by
 rcases I.ok.stk with e | ⟨e,hf⟩
 ·rw [e]; exact I.funs
 ·rw [e];obtain⟨m,hn,_⟩:=I.loc;refine .cons (by rw [I.ok.kind]; decide) hf hn ?_ I.funs;exact Heap.get?_none_of_le (le_trans I.ok.bsz I.ok.above)
theorem Inv.stkSub(I:Inv X ze σ H s):∀ b∈frs X.stack,b∈X.env.locals :: X.fs:=fun b hb=>by
 rcases I.ok.stk with e | ⟨e,hf⟩
 ·rw [e] at hb; exact mem_cons_of_mem _ hb
 ·rw [e] at hb;unfold frs at hb;rw [filterMap_cons,hf] at hb;exact hb
theorem Inv.stkFree(I:Inv X ze σ H s):Frf (frs X.stack) H:=⟨fun b hb=>by
 rcases mem_cons.mp (I.stkSub b hb) with e | hb
 ·rw [e]; exact I.free
 ·obtain⟨_,o,ho,_⟩:=I.ok.funs.mem hb;exact I.base.free b o ho (I.ok.frf.free b hb) fun z=>I.ok.exfs b z hb,fun q hq=>I.base.tbls _ _ (I.ok.frf.tab q hq)⟩
theorem Inv.step{g':Array GenState}{t':Nat}{d':Drawn}{ch:List Addr}(I:Inv X ze σ H s)
  (hch:∀ b∈ch,(b∈X.ex\/X.s₀.heap.objs.size<=b)/\b≠X.env.locals/\(∀ x c,X.env.cells.lookup x=some c->c≠b)/\∀ p∈X.pn++ze,p.1≠b)
  (keep:∀ b o,b≠X.env.locals->b∉X.fs->b∉ch->s.heap.get? b=some o->H b=none->h'.get? b=some o)
  (slot:∀ b o,b≠X.env.locals->b∈X.fs->b∉ch->s.heap.get? b=some o->H b=none->∃ sl,h'.get? b=some { o with slots:=sl }) (free:∀ b o,b∉ch->s.heap.get? b=some o->H b=none->H' b=none)
  (there:∀ b o,b∉ch->s.heap.get? b=some o->∃ o',h'.get? b=some o')
  (tups:∀ b xs,H b=some (.tup xs)->H' b=some (.tup xs)) (frzs:∀ b o u,H b=some (.frz o u)->H' b=some (.frz o u)) (tbls:∀ b ps,H b=some (.tbl ps)->H' b=some (.tbl ps))
  (ns:∀ m,s.heap.Ns X.env.locals m->h'.Ns X.env.locals m) (hok:HOk X.prog X.w H' h') (hg:AllBare g') :
  Inv X ze σ H' { s with heap:=h',gens:=g',drawn:=d',toks:=t' }:=by
 have neL:∀ b o,X.s₀.heap.get? b=some o->b≠X.env.locals:=fun b o e=>ne_of_lt (lt_of_lt_of_le (lt_size e) I.ok.above);have neC:∀ b o,X.s₀.heap.get? b=some o->b∉X.ex->b∉ch:=fun b o e hx hb=>by
  rcases(hch b hb).1 with z | z
  ·exact hx z
  ·exact absurd (lt_of_lt_of_le (lt_size e) z) (lt_irrefl _)
 have cellK:∀ x c,X.env.cells.lookup x=some c->∀ v,s.heap.IsCell c v->h'.IsCell c v:=fun x c e v ⟨o,ho,hd⟩=>by
  have nch:c∉ch:=fun z=>(hch c z).2.2.1 x c e rfl;by_cases hc:c∈X.fs
  ·obtain⟨sl,q⟩:=slot c o (I.cne x c e) hc nch ho (I.freeC x c e);exact⟨_,q,hd⟩
  ·exact⟨o,keep c o (I.cne x c e) hc nch ho (I.freeC x c e),hd⟩
 refine⟨I.ok,I.os,hg,⟨fun b o e n hb hx=>?_,fun b o e n hb hx=>?_,fun b o e n hx=>?_,fun b o e hx=>?_,fun b xs e=>tups b xs (I.base.tups b xs e),fun b o xs e=>frzs b o xs (I.base.frzs b o xs e),fun b ps e=>?_⟩,?_,fun x c e=>?_,?_,fun x c e=>?_,fun p hp=>?_,hok,I.len⟩
 ·exact keep b o (neL b o e) hb (neC b o e hx) (I.base.keep b o e n hb hx) (I.base.free b o e n hx)
 ·obtain⟨sl,e1⟩:=I.base.slot b o e n hb hx;obtain⟨sl',e2⟩:=slot b _ (neL b o e) hb (neC b o e hx) e1 (I.base.free b o e n hx);exact⟨sl',e2⟩
 ·obtain⟨o',e1⟩:=I.base.there b o e hx;exact free b o' (neC b o e hx) e1 (I.base.free b o e n hx)
 ·obtain⟨o',e1⟩:=I.base.there b o e hx;exact there b o' (neC b o e hx) e1
 ·exact tbls b _ (I.base.tbls b ps e)
 ·obtain⟨m,hn,hl⟩:=I.loc;refine⟨m,ns m hn,fun i x v e1 e2 e3=>?_⟩;obtain⟨u,r,l⟩:=hl i x v e1 e2 e3;refine⟨u,r,?_⟩;rcases l with l | ⟨k,c,e,z⟩
  ·exact .inl l
  ·exact .inr ⟨k,c,e,cellK x c e _ z⟩
 ·obtain⟨v,z⟩:=I.cell x c e;exact⟨v,cellK x c e v z⟩
 ·obtain⟨m,⟨o,_,_,ho,_⟩,_⟩:=I.loc;exact free _ o (fun z=>(hch _ z).2.1 rfl) ho I.free
 ·obtain⟨v,o,ho,hd⟩:=I.cell x c e;exact free c o (fun z=>(hch c z).2.2.1 x c e rfl) ho (I.freeC x c e)
 ·obtain⟨e,n,ne,nf,d⟩:=I.pin p hp;have nch:p.1∉ch:=fun z=>(hch p.1 z).2.2.2 p hp rfl;exact⟨keep p.1 p.2 ne nf nch e n,free p.1 p.2 nch e n,ne,nf,d⟩
theorem Inv.un{t':Nat}(I:Inv X ze σ H s)(u:Un X.fs [] H H' s.heap h')(hok:HOk X.prog X.w H' h'):Inv X ze σ H' { s with heap:=h',toks:=t' }:=by
 obtain⟨m,⟨o,es,ep,ho,r⟩,_⟩:=id I.loc;obtain⟨sl,hL⟩:=u.any ho I.free (by simp);exact I.step (g':=s.gens) (d':=s.drawn) (ch:=[]) (fun _ z=>nomatch z) (fun b o _ hb _ e n=>u.keep b o e n hb (by simp)) (fun b o _ hb _ e n=>u.slot b o e n hb (by simp)) (fun b o _ e n=>u.free b o e n (by simp)) (fun b o _ e=>u.there b o e (by simp)) u.tups u.frzs u.tbls (fun m' hm=>by
  obtain⟨o',es',ep',ho',r'⟩:=hm;rw [ho] at ho'; cases ho';exact⟨_,es',ep',hL,r'⟩) hok I.bare
theorem Inv.call{g':Array GenState}{t':Nat}{d':Drawn}{ch:List Addr}(I:Inv X ze σ H s)(u:Un (frs X.stack) ch H H' s.heap h')(hok:HOk X.prog X.w H' h')(hg:AllBare g')
  (hch:∀ b∈ch,(b∈X.ex\/X.s₀.heap.objs.size<=b)/\b≠X.env.locals/\(∀ x c,X.env.cells.lookup x=some c->c≠b)/\∀ p∈X.pn++ze,p.1≠b) :
  Inv X ze σ H' { s with heap:=h',gens:=g',drawn:=d',toks:=t' }:=by
 obtain⟨m,⟨o,es,ep,ho,r⟩,_⟩:=id I.loc;obtain⟨sl,hL⟩:=u.any ho I.free fun z=>(hch _ z).2.1 rfl;exact I.step (ch:=ch) hch (fun b o hL hb hc e n=>u.keep b o e n (fun z=>(mem_cons.mp (I.stkSub b z)).elim hL hb) hc) (fun b o _ _ hc e n=>u.any e n hc) (fun b o hc e n=>u.free b o e n hc) (fun b o hc e=>u.there b o e hc) u.tups u.frzs u.tbls (fun m' hm=>by
  obtain⟨o',es',ep',ho',r'⟩:=hm;rw [ho] at ho'; cases ho';exact⟨_,es',ep',hL,r'⟩) hok hg
theorem Inv.turned{t':Nat}{it:Addr}(I:Inv X ze σ H s)(k:∀ b o,b≠it->s.heap.get? b=some o->h'.get? b=some o)(hn:H it=none)(hL:it≠X.env.locals)
  (h1:it∈X.ex\/X.s₀.heap.objs.size<=it) (h2:∀ x c,X.env.cells.lookup x=some c->c≠it) (h3:∀ p∈X.pn++ze,p.1≠it):Inv X ze σ H { s with heap:=h',toks:=t' }:=by
 have nit:∀ b u,H b=some u->b≠it:=fun b u e z=>by rw [z,hn] at e; cases e
 refine I.step (g':=s.gens) (d':=s.drawn) (ch:=[it]) (fun b hb=>?_) (fun b o _ _ hc e _=>k b o (fun z=>hc (by simp [z])) e) (fun b o _ _ hc e _=>⟨o.slots,k b o (fun z=>hc (by simp [z])) e⟩) (fun _ _ _ _ n=>n)
  (fun b o hc e=>⟨o,k b o (fun z=>hc (by simp [z])) e⟩) (fun _ _ e=>e) (fun _ _ _ e=>e) (fun _ _ e=>e) (fun m hm=>?_) (fun b u e=>?_) I.bare
 ·have e:b=it:=by simpa using hb
  subst e;exact⟨h1,hL,h2,h3⟩
 ·obtain⟨o,es,ep,ho,r⟩:=hm;exact⟨o,es,ep,k _ o (Ne.symm hL) ho,r⟩
 ·refine(I.hok b u e).stay (fun c v hc q=>k c v ?_ q) (fun _ q=>q) fun _ _ q=>q;rcases hc with z | z
  ·rw [z]; exact nit b u e
  ·exact nit c _ z
theorem Inv.tok(I:Inv X ze σ H s)(t:Nat):Inv X ze σ H { s with toks:=t }:=I.un (h':=s.heap) (t':=t) Un.refl I.hok
theorem Inv.kept{t':Nat}(I:Inv X ze σ H s)(k:∀ b u,s.heap.get? b=some u->h'.get? b=some u):Inv X ze σ H { s with heap:=h',toks:=t' }:=I.un (Un.kept k) (I.hok.kept k)
theorem Inv.laid{a:Addr}{o:HO}{t':Nat}(I:Inv X ze σ H s)(k:∀ b u,s.heap.get? b=some u->h'.get? b=some u)(hp:s.heap.objs.size<=a)(new:ObjOk X.prog X.w (upd H a o) h' a o):
  Inv X ze σ (upd H a o) { s with heap:=h',toks:=t' }:=I.un (Un.laid k hp (I.hok.fresh hp)) (I.hok.laid k hp new)
theorem Inv.write{x e:Addr}{o:HO}{t':Nat}(I:Inv X ze σ H s)(mu:Mut (H x))(he:e=x\/H e=some (.own x))(k:∀ b u,b≠e->s.heap.get? b=some u->h'.get? b=some u)(heo:∃ u,h'.get? e=some u)
  (new:ObjOk X.prog X.w (upd H x o) h' x o):Inv X ze σ (upd H x o) { s with heap:=h',toks:=t' }:=I.un (Un.write mu he k heo) (I.hok.write mu he k heo new)
theorem Inv.pins_of{pins':List (Addr×Obj)}(I:Inv X ze σ H s)(h:∀ p∈pins',s.heap.get? p.1=some p.2/\H p.1=none/\p.1≠X.env.locals/\p.1∉X.fs/\∀ v,p.2.data≠.cell v):Inv X pins' σ H s :=
 ⟨I.ok,I.os,I.bare,I.base,I.loc,I.cell,I.free,I.freeC,fun p hp=>(mem_append.mp hp).elim (fun z=>I.pin p (mem_append_left _ z)) (h p),I.hok,I.len⟩
theorem ziH{N:List Str}(hN:N.Nodup){i j:Nat}{x:Str}(a:N[i]? = some x)(b:N[j]? = some x):i=j:=by
 obtain⟨h1,e1⟩:=List.getElem?_eq_some_iff.mp a;obtain⟨h2,e2⟩:=List.getElem?_eq_some_iff.mp b;exact(List.getElem_inj hN).mp (e1.trans e2.symm)
theorem zkS{M:Model}{A:Around}{E:Value->Shared->Prop}{i:Nat}{x:Str}{v:V}{u:Value}{Q:Unit->Shared->Prop}(I:Inv X ze σ H s)(hN:X.N.Nodup)(hi:X.N[i]? = some x)(hx:Loc X.env.scope x)(r:RelV v u)
  (h:∀ s',Inv X ze (σ.set i (some v)) H s'->(∃ a,Heap.SameBut a s.heap s'.heap/\(a=X.env.locals\/X.env.cells.lookup x=some a))->Q () s') (hf:X.fn x=true\/X.env.scope.names.lookup x=some .local:=by first | exact .inl rfl | exact .inr rfl | assumption):wpAny M A (storeName X.env x u) Q E s:=by
 obtain⟨m,hn,hl⟩:=id I.loc;have hcls:(X.env.scope.kind == .class || (X.env.scope.kind == .module && X.env.locals != X.env.globals))=false:=by rw [I.ok.kind]; rfl
 have hiσ:i<σ.length:=by rw [I.len]; exact(List.getElem?_eq_some_iff.mp hi).1
 have cne:=I.cne;have tracked:∀ {a:Addr} {h':Heap},(∃ o,s.heap.get? a=some o/\H a=none)->Heap.SameBut a s.heap h'->HOk X.prog X.w H h':=fun {a h'} ha hs b ob e=>by
  obtain⟨_,_,hfree⟩:=ha;refine(I.hok b ob e).stay (fun c w' hc q=>(hs.2 c ?_).trans q) (fun _ q=>q) fun _ _ q=>q;rintro rfl;rcases hc with rfl | hc
  ·rw [hfree] at e; cases e
  ·rw [hfree] at hc; cases hc
 rcases hx with hk | hk
 ·refine wpAny_storeName_local hk hn (fun h' hn' hs=>?_) hcls;obtain⟨oL,_,_,hoL,_⟩:=id hn;refine h _ ⟨I.ok,I.os,I.bare,⟨fun b o e n hb hx=>?_,fun b o e n hb hx=>?_,I.base.free,fun b o e hx=>?_,I.base.tups,I.base.frzs,I.base.tbls⟩,⟨_,hn',fun j y v' e1 e2 e3=>?_⟩,fun y c e=>?_,I.free,I.freeC,fun p hp=>?_,tracked ⟨oL,hoL,I.free⟩ hs,by simpa using I.len⟩ ⟨_,hs,.inl rfl⟩
  ·exact(hs.2 b (ne_of_lt (lt_of_lt_of_le (lt_size e) I.ok.above))).trans (I.base.keep b o e n hb hx)
  ·obtain⟨sl,e1⟩:=I.base.slot b o e n hb hx;exact⟨sl,(hs.2 b (ne_of_lt (lt_of_lt_of_le (lt_size e) I.ok.above))).trans e1⟩
  ·obtain⟨o',e1⟩:=I.base.there b o e hx;exact⟨o',(hs.2 b (ne_of_lt (lt_of_lt_of_le (lt_size e) I.ok.above))).trans e1⟩
  ·by_cases hj:j=i
   ·subst hj;rw [hi] at e1; cases e1;rw [getElem?_set_self hiσ] at e2;cases e2;exact⟨u,r,.inl ⟨hk,by simp⟩⟩
   ·rw [getElem?_set_ne (Ne.symm hj)] at e2;obtain⟨u',r',q⟩:=hl j y v' e1 e2 e3;refine⟨u',r',?_⟩;rcases q with ⟨k,e⟩ | ⟨k,c,e,z⟩
    ·refine .inl ⟨k,?_⟩;have:y≠x:=fun e=>hj (ziH hN e1 (e▸hi));simp [this,e]
    ·exact .inr ⟨k,c,e,z.sameBut hs (cne y c e)⟩
  ·obtain⟨w',z⟩:=I.cell y c e;exact⟨w',z.sameBut hs (cne y c e)⟩
  ·obtain⟨e,n,ne,nf,d⟩:=I.pin p hp;exact⟨(hs.2 p.1 ne).trans e,n,ne,nf,d⟩
 ·have hfn:X.fn x=true:=by
   rcases hf with z | z
   ·exact z
   ·rw [z] at hk; cases hk
  obtain⟨c,hc⟩:=I.ok.has x (.inl hk);obtain⟨w',z⟩:=I.cell x c hc;refine wpAny_storeName_cell I.ok.kind hk hc z (fun h' hc' hs=>?_);obtain⟨oc,hoc,hocd⟩:=id z;refine h { s with heap:=h' } ⟨I.ok,I.os,I.bare,⟨fun b o e n hb hx=>?_,fun b o e n hb hx=>?_,I.base.free,fun b o e hx=>?_,I.base.tups,I.base.frzs,I.base.tbls⟩,⟨m,hn.sameBut hs (Ne.symm (cne x c hc)),fun j y v' e1 e2 e3=>?_⟩,fun y c' e=>?_,I.free,I.freeC,fun p hp=>?_,tracked ⟨oc,hoc,I.freeC x c hc⟩ hs,by simpa using I.len⟩ ⟨c,hs,.inr hc⟩
  ·exact(hs.2 b (ne_of_lt (lt_of_lt_of_le (lt_size e) (I.ok.cab x c hfn hc)))).trans (I.base.keep b o e n hb hx)
  ·obtain⟨sl,e1⟩:=I.base.slot b o e n hb hx;exact⟨sl,(hs.2 b (ne_of_lt (lt_of_lt_of_le (lt_size e) (I.ok.cab x c hfn hc)))).trans e1⟩
  ·obtain⟨o',e1⟩:=I.base.there b o e hx;exact⟨o',(hs.2 b (ne_of_lt (lt_of_lt_of_le (lt_size e) (I.ok.cab x c hfn hc)))).trans e1⟩
  ·by_cases hj:j=i
   ·subst hj;rw [hi] at e1; cases e1;rw [getElem?_set_self hiσ] at e2;cases e2;exact⟨u,r,.inr ⟨.inl hk,c,hc,hc'⟩⟩
   ·rw [getElem?_set_ne (Ne.symm hj)] at e2;obtain⟨u',r',q⟩:=hl j y v' e1 e2 e3;refine⟨u',r',?_⟩;rcases q with q | ⟨k,c',e,z'⟩
    ·exact .inl q
    ·refine .inr ⟨k,c',e,z'.sameBut hs ?_⟩;rintro rfl;exact hj (ziH hN e1 (I.ok.inj _ _ _ e hc▸hi))
  ·by_cases hcc:c'=c
   ·subst hcc; exact⟨_,hc'⟩
   ·obtain⟨w2,z2⟩:=I.cell y c' e;exact⟨w2,z2.sameBut hs hcc⟩
  ·obtain⟨e,n,ne,nf,d⟩:=I.pin p hp;refine⟨(hs.2 p.1 ?_).trans e,n,ne,nf,d⟩;intro q;rw [q,hoc] at e;have q':oc=p.2:=Option.some.inj e;exact d w' (by rw [<- q']; exact hocd)
theorem zdv{M:Model}{A:Around}{E:Value->Shared->Prop}{i:Nat}{x:Str}{v:V}{u:Value}{Q:Unit->Shared->Prop}(I:Inv X ze σ H s)(hN:X.N.Nodup)(hi:X.N[i]? = some x)(hx:Loc X.env.scope x)(r:RelV v u)
  (h:∀ s',Inv X ze (σ.set i (some v)) H s'->Q () s') (hf:X.fn x=true\/X.env.scope.names.lookup x=some .local:=by first | exact .inl rfl | exact .inr rfl | assumption):wpAny M A (storeName X.env x u) Q E s :=
 zkS I hN hi hx r (fun s' I' _=>h s' I') hf
theorem Inv.call'{s':Shared}{ch:List Addr}(I:Inv X ze σ H s)(ho:s'.os=s.os)(u:Un (frs X.stack) ch H H' s.heap s'.heap)(hok:HOk X.prog X.w H' s'.heap)(hg:AllBare s'.gens)
  (hch:∀ b∈ch,(b∈X.ex\/X.s₀.heap.objs.size<=b)/\b≠X.env.locals/\(∀ x c,X.env.cells.lookup x=some c->c≠b)/\∀ p∈X.pn++ze,p.1≠b):Inv X ze σ H' s':=by
 obtain⟨h',g',d',t',o'⟩:=s';have e:o'=s.os:=ho;subst e;exact I.call (g':=g') (t':=t') (d':=d') u hok hg hch
end
abbrev XK:=Value->Option Addr->Hp->Prop
abbrev St:=List (Option V)
abbrev VK:=V->Hp->Prop
abbrev TE:=St->Hp->VK->Prop
abbrev TT:=St->Hp->(Bool->Hp->Prop)->Prop
abbrev TA:=St->Hp->(List V->Hp->Prop)->Prop
structure Ends where
 nx:St->Hp->Prop
 rt:VK
 bk:St->Hp->Prop:=fun _ _=>False
 ct:St->Hp->Prop:=fun _ _=>False
abbrev TS:=Ends->St->Hp->Prop
def EP(X:Cx)(ze:List (Addr×Obj))(σ:St)(Q:VK)(u:Value)(s':Shared):Prop:=∃ v H',Inv X ze σ H' s'/\RelV v u/\Q v H'
def TP(X:Cx)(ze:List (Addr×Obj))(σ:St)(Q:Bool->Hp->Prop)(b:Bool)(s':Shared):Prop:=∃ H',Inv X ze σ H' s'/\Q b H'
def AP(X:Cx)(ze:List (Addr×Obj))(σ:St)(Q:List V->Hp->Prop)(us:List Value)(s':Shared):Prop:=∃ vs H',Inv X ze σ H' s'/\Vals vs us/\Q vs H'
def SP(X:Cx)(ze:List (Addr×Obj))(D:Ends)(f:Flow)(s':Shared):Prop :=
 match f with
 | .next=>∃ σ' H',Inv X ze σ' H' s'/\D.nx σ' H'
 | .brk=>∃ σ' H',Inv X ze σ' H' s'/\D.bk σ' H'
 | .cont=>∃ σ' H',Inv X ze σ' H' s'/\D.ct σ' H'
 | .ret u=>∃ v σ' H',Inv X ze σ' H' s'/\RelV v u/\D.rt v H'
def PE(X:Cx)(e:Expr)(t:TE):Prop :=
 ∀ (ze:List (Addr×Obj)) (s:Shared) (σ:St) (H:Hp) (Q:VK),Inv X ze σ H s->t σ H Q->wpAny (model X.prog X.w) X.A (eval e X.env) (EP X ze σ Q) X.xe s
def PT(X:Cx)(e:Expr)(t:TT):Prop :=
 ∀ (ze:List (Addr×Obj)) (s:Shared) (σ:St) (H:Hp) (Q:Bool->Hp->Prop),Inv X ze σ H s->t σ H Q->wpAny (model X.prog X.w) X.A (isTrue e X.env (eval e X.env)) (TP X ze σ Q) X.xe s
def PW(X:Cx)(e:Expr)(t:TT):Prop :=
 ∀ (whole:Sem Value) (ze:List (Addr×Obj)) (s:Shared) (σ:St) (H:Hp) (Q:Bool->Hp->Prop),Inv X ze σ H s->t σ H Q->wpAny (model X.prog X.w) X.A (isTrue e X.env whole) (TP X ze σ Q) X.xe s
theorem PW.pt{X:Cx}{e:Expr}{t:TT}(h:PW X e t):PT X e t:=h _
def PA(X:Cx)(es:List Expr)(t:TA):Prop :=
 ∀ (pos:Pos) (ze:List (Addr×Obj)) (s:Shared) (σ:St) (H:Hp) (Q:List V->Hp->Prop),Inv X ze σ H s->t σ H Q->wpAny (model X.prog X.w) X.A (spliced (backTo pos (starEach es X.env))) (AP X ze σ Q) X.xe s
def PS(X:Cx)(st:Stmt)(t:TS):Prop :=
 ∀ (ze:List (Addr×Obj)) (s:Shared) (σ:St) (H:Hp) (D:Ends),Inv X ze σ H s->t D σ H->wpAny (model X.prog X.w) X.A (exec st X.env) (SP X ze D) X.xe s
def PSs(X:Cx)(st:List Stmt)(t:TS):Prop :=
 ∀ (ze:List (Addr×Obj)) (s:Shared) (σ:St) (H:Hp) (D:Ends),Inv X ze σ H s->t D σ H->wpAny (model X.prog X.w) X.A (execs st X.env) (SP X ze D) X.xe s
theorem thn{α:Type}{t:Sem α}{Q Q':α->Shared->Prop}{M:Model}{A:Around}{E:Value->Shared->Prop}{s:Shared}(h:wpAny M A t Q E s)(hQ:∀ a s,Q a s->Q' a s):wpAny M A t Q' E s:=wpAny_mono h hQ fun _ _ x=>x
end
section
section
variable {X:Cx}
def zjD(i:Nat):TE:=fun σ H Q=>∃ v,σ[i]? = some (some v)/\Q v H
def tC(v:V):TE:=fun _ H Q=>Q v H
theorem zqe{i:Nat}{x:Str}{pos:Pos}(hN:X.N[i]? = some x)(hv:Vis X.env.scope x)(hd:(x == ("__debug__":Str))=false:=by decide)(hcd:(x == ("__classdict__":Str))=false:=by decide):PE X (.Name x pos) (zjD i):=by
 intro ze s σ H Q I h;obtain⟨v,e,h⟩:=h;obtain⟨m,hn,hl⟩:=I.loc;obtain⟨u,r,l⟩:=hl i x v hN e hv;have fin:EP X ze σ Q u s:=⟨v,H,I,r,h⟩;rcases l with ⟨hk,hm⟩ | ⟨hk,c,hc,hcell⟩
 ·exact wpAny_Name (wpAny_loadName_local I.ok.kind hk hn hm fin) hd
 ·rcases hk with hk | hk
  ·exact wpAny_Name (wpAny_loadName_cell I.ok.kind hk hc hcell fin) hd
  ·exact wpAny_Name (wpAny_loadName_free I.ok.kind hk hc hcell fin hcd) hd
theorem zd{i j pos}:PE X (.Constant (.int i) j pos) (tC (.int i)):=fun _ _ _ H _ I h=>wpAny_Constant_int ⟨.int i,H,I.tok _,⟨_,rfl⟩,h⟩
theorem zbS{b j pos}:PE X (.Constant (.bool b) j pos) (tC (.bl b)):=fun _ _ _ H _ I h=>Constant_bool ⟨.bl b,H,I,rfl,h⟩
theorem zeD{j pos}:PE X (.Constant .none j pos) (tC .non):=fun _ _ _ H _ I h=>Constant_none ⟨.non,H,I,rfl,h⟩
theorem zal{x j pos}:PE X (.Constant (.str x) j pos) (tC (.str x)):=fun _ _ _ H _ I h=>Calls.Constant_str ⟨.str x,H,I.tok _,⟨_,rfl⟩,h⟩
def Gl(X:Cx)(x:Str):Prop:=X.env.kindOf x=some .globalImplicit
theorem zdU{E:Value->Shared->Prop}{ze:List (Addr×Obj)}{s:Shared}{σ:St}{H:Hp}{x:Str}{u:Value}{pos:Pos}{Q:Value->Shared->Prop}(I:Inv X ze σ H s)(hg:Gl X x)(hm:X.mg x=some u)(h:Q u s)
  (hd:(x == ("__debug__":Str))=false:=by decide):wpAny (model X.prog X.w) X.A (eval (.Name x pos) X.env) Q E s :=
 Calls.Name_function_global I.ok.kind hg (Calls.loadGlobal_global (by rw [I.ok.glob]; exact I.mod.glob.keeps I.bk) hm h) hd
theorem zfH{E:Value->Shared->Prop}{ze:List (Addr×Obj)}{s:Shared}{σ:St}{H:Hp}{x:Str}{u:Value}{pos:Pos}{Q:Value->Shared->Prop}(I:Inv X ze σ H s)(hg:Gl X x)(hm:X.mg x=none)(hv:bootBuiltins x=some u)(h:Q u s)
  (hn:x ≠ "__name__":=by decide) (hd:(x == ("__debug__":Str))=false:=by decide):wpAny (model X.prog X.w) X.A (eval (.Name x pos) X.env) Q E s:=by
 obtain⟨mb,h1,h2⟩:=I.mod.blt;exact Calls.Name_function_global I.ok.kind hg (Calls.loadGlobal_builtin (by rw [I.ok.glob]; exact I.mod.glob.keeps I.bk) hm (by rw [I.ok.blt]; exact h1.keeps I.bk) ((h2 x hn).trans hv) h) hd
theorem zbL{x:Str}{v:V}{u:Value}{pos:Pos}(hg:Gl X x)(hm:X.mg x=some u)(r:RelV v u)(hd:(x == ("__debug__":Str))=false:=by decide):PE X (.Name x pos) (tC v) :=
 fun _ _ _ H _ I h=>zdU I hg hm ⟨v,H,I,r,h⟩ hd
theorem zaK{x:Str}{v:V}{u:Value}{pos:Pos}(hg:Gl X x)(hm:X.mg x=none)(hv:bootBuiltins x=some u)(r:RelV v u)(hn:x ≠ "__name__":=by decide)(hd:(x == ("__debug__":Str))=false:=by decide):PE X (.Name x pos) (tC v) :=
 fun _ _ _ H _ I h=>zfH I hg hm hv ⟨v,H,I,r,h⟩ hn hd
variable {a b:Expr} {ta tb:TE} {pos:Pos}
def tB(t:TE):TT:=fun σ H Q=>t σ H fun x H1=>∃ c,x=.bl c/\Q c H1
variable {tA tB':TT} {rest:List Expr}
def tOr(t u:TT):TT:=fun σ H Q=>t σ H fun c H1=>if c=true then Q true H1 else u σ H1 Q
def zrg(t:TT):TT:=fun σ H Q=>t σ H fun c H1=>Q (!c) H1
theorem zbC(ha:PT X a tA):PW X (.BoolOp .Or [a] pos) tA:=by
 intro wh ze s σ H Q I h;refine isTrue_or (thn (ha ze s σ H Q I h) fun c s1 e=>?_);cases c with
 | false=>exact isTrue_or_nil e
 | true=>exact e
theorem zch(ha:PT X a tA)(hb:PW X (.BoolOp .Or (b :: rest) pos) tB'):PW X (.BoolOp .Or (a :: b :: rest) pos) (tOr tA tB'):=by
 intro wh ze s σ H Q I h;refine isTrue_or (thn (ha ze s σ H _ I h) fun c s1 ⟨H1,I1,q1⟩=>?_);cases c with
 | true=>exact⟨H1,I1,q1⟩
 | false=>exact hb wh ze s1 σ H1 Q I1 q1
theorem zaT(ha:PT X a tA):PT X (.UnaryOp .Not a pos) (zrg tA):=by
 intro ze s σ H Q I h;exact isTrue_not (ha ze s σ H (fun c H1=>Q (!c) H1) I h)
def zqk(ta tb:TE):TE:=fun σ H Q=>ta σ H fun x H1=>∃ c,x=.bl c/\if c=true then tb σ H1 Q else Q (.bl false) H1
def zpN(ta:TE):TE:=fun σ H Q=>ta σ H fun x H1=>∃ c,x=.bl c/\Q (.bl (!c)) H1
theorem zcC{op}{t:TE}(h:PE X a t):PE X (.BoolOp op [a] pos) t:=fun ze s σ H Q I hw=>BoolOp_one (h ze s σ H Q I hw)
theorem zbJ(ha:PE X a ta)(hb:PE X (.BoolOp .And (b :: rest) pos) tb):PE X (.BoolOp .And (a :: b :: rest) pos) (zqk ta tb):=by
 intro ze s σ H Q I h;refine BoolOp_and (thn (ha ze s σ H _ I h) fun v s1 ⟨x,H1,I1,r1,q1⟩=>?_);obtain⟨c,rfl,q1⟩:=q1;cases r1;refine wpAny_truthy_bool ?_;cases c with
 | true=>exact hb ze s1 σ H1 Q I1 q1
 | false=>exact⟨.bl false,H1,I1,rfl,q1⟩
theorem zj7(ha:PE X a ta):PE X (.UnaryOp .Not a pos) (zpN ta):=by
 intro ze s σ H Q I h;refine UnaryOp_ (thn (ha ze s σ H _ I h) fun v s1 ⟨x,H1,I1,r1,q1⟩=>?_);obtain⟨c,rfl,q1⟩:=q1;cases r1;exact not_of (wpAny_truthy_bool ⟨.bl (!c),H1,I1,rfl,q1⟩)
end
end
section
def SqL(K:W.Frag)(H:Hp)(a:Addr)(xs:List V):Prop :=
 Rd H a (.lst xs) \/
  ∃ (o:Obj) (its:Array Value) (n:Nat),K.lookup a=some o/\o.cls=.type "list"/\o.dict=none/\o.data=.seq its n/\its.size<=sizeLine/\Vals xs its.toList
def SqT(K:W.Frag)(H:Hp)(a:Addr)(xs:List V):Prop :=
 Rd H a (.tup xs) \/
  ∃ (o:Obj) (its:Array Value) (n:Nat),K.lookup a=some o/\o.cls=.type "tuple"/\o.data=.seq its n/\its.size<=sizeLine/\Vals xs its.toList
def zrP:Value->Option V
 | .none=>some .non
 | .bool b=>some (.bl b)
 | .int i _=>some (.int i)
 | .str x _=>some (.str x)
 | .bytes b _=>some (.byt b)
 | .float b _=>some (.flt b)
 | .ref a=>some (.ref a)
 | .type n=>some (.ty n)
 | _=>none
theorem RelV.abs{x:V}{u:Value}(r:RelV x u):zrP u=some x:=by
 cases x with
 | non=>cases r; rfl
 | bl _=>cases r; rfl
 | int _=>obtain⟨t,rfl⟩:=r; rfl
 | str _=>obtain⟨t,rfl⟩:=r; rfl
 | byt _=>obtain⟨t,rfl⟩:=r; rfl
 | flt _=>obtain⟨t,rfl⟩:=r; rfl
 | ref _=>cases r; rfl
 | ty _=>cases r; rfl
theorem RelV.inj{x y:V}{u:Value}(r:RelV x u)(q:RelV y u):x=y:=Option.some.inj (r.abs.symm.trans q.abs)
theorem Vals.inj:∀ {xs ys:List V} {us:List Value},Vals xs us->Vals ys us->xs=ys
 | _,_,_,.nil,.nil=>rfl
 | _,_,_,.cons r t,.cons r' t'=>by rw [r.inj r',Vals.inj t t']
section
variable {X:Cx} {ze:List (Addr×Obj)} {σ:St} {H:Hp} {s:Shared} {a:Addr} {xs ys:List V}
theorem SqL.of{K:W.Frag}(h:H a=some (.lst xs)):SqL K H a xs:=.inl (.inl h)
theorem SqT.of{K:W.Frag}(h:H a=some (.tup xs)):SqT K H a xs:=.inl (.inl h)
theorem Inv.list(I:Inv X ze σ H s)(h:SqL X.K H a xs):∃ its:List Value,Vals xs its/\PlainL s.heap a its.toArray/\xs.length<=sizeLine:=by
 rcases h with h | ⟨o,its,n,hk,hc,hd,hs,hz,r⟩
 ·obtain⟨z,its,n,r,e⟩:=h.ok I.hok;exact⟨its,r,⟨_,n,e,rfl,rfl,rfl⟩,z⟩
 ·refine⟨its.toList,r,⟨o,n,I.kIn a o hk,hc,hd,by simpa using hs⟩,?_⟩;have e:=r.length;simp only [length_toList] at e;omega
theorem Inv.tuple(I:Inv X ze σ H s)(h:SqT X.K H a xs):∃ its:List Value,Vals xs its/\IsTup s.heap a its.toArray/\xs.length<=sizeLine:=by
 rcases h with h | ⟨o,its,n,hk,hc,hs,hz,r⟩
 ·obtain⟨z,its,r,p⟩:=h.ok I.hok;exact⟨its,r,p,z.1⟩
 ·refine⟨its.toList,r,⟨o,I.kIn a o hk,hc,n,by simpa using hs⟩,?_⟩;have e:=r.length;simp only [length_toList] at e;omega
theorem Inv.list_inj(I:Inv X ze σ H s)(h:SqL X.K H a xs)(h':SqL X.K H a ys):xs=ys:=by
 obtain⟨its,r,⟨o,n,e,_,_,d⟩,_⟩:=I.list h;obtain⟨its',r',⟨o',n',e',_,_,d'⟩,_⟩:=I.list h';rw [e] at e'; cases e';rw [d] at d';injection d' with d1 _
 have:its=its':=by simpa using congrArg Array.toList d1
 subst this;exact r.inj r'
theorem Inv.tuple_inj(I:Inv X ze σ H s)(h:SqT X.K H a xs)(h':SqT X.K H a ys):xs=ys:=by
 obtain⟨its,r,⟨o,e,_,n,d⟩,_⟩:=I.tuple h;obtain⟨its',r',⟨o',e',_,n',d'⟩,_⟩:=I.tuple h';rw [e] at e'; cases e';rw [d] at d';injection d' with d1 _
 have:its=its':=by simpa using congrArg Array.toList d1
 subst this;exact r.inj r'
end
abbrev Cx.wish (X:Cx) (E:Value->Shared->Prop):Cx:={ X with xe:=E }
abbrev Cx.nox (X:Cx):Cx:=X.wish fun _ _=>False
theorem Cx.Ok.wish{X:Cx}(ok:X.Ok)(E:Value->Shared->Prop):(X.wish E).Ok :=
 ⟨ok.mod,ok.kind,ok.glob,ok.blt,ok.above,ok.inj,ok.has,ok.cab,ok.hd,ok.frames,ok.stk,ok.exf,ok.bs,ok.bsz,ok.noex,ok.exfs,ok.funs,ok.frf⟩
theorem Cx.Ok.unwish{X:Cx}{E:Value->Shared->Prop}(ok:(X.wish E).Ok):X.Ok :=
 ⟨ok.mod,ok.kind,ok.glob,ok.blt,ok.above,ok.inj,ok.has,ok.cab,ok.hd,ok.frames,ok.stk,ok.exf,ok.bs,ok.bsz,ok.noex,ok.exfs,ok.funs,ok.frf⟩
section
variable {X:Cx} {ze:List (Addr×Obj)} {σ:St} {H:Hp} {s:Shared} {E:Value->Shared->Prop}
theorem Inv.wish(I:Inv X ze σ H s)(E:Value->Shared->Prop):Inv (X.wish E) ze σ H s:=⟨I.ok.wish E,I.os,I.bare,I.base,I.loc,I.cell,I.free,I.freeC,I.pin,I.hok,I.len⟩
theorem Inv.unwish(I:Inv (X.wish E) ze σ H s):Inv X ze σ H s:=⟨I.ok.unwish,I.os,I.bare,I.base,I.loc,I.cell,I.free,I.freeC,I.pin,I.hok,I.len⟩
theorem SP.unwish{D:Ends}{f:Flow}{s':Shared}(h:SP (X.wish E) ze D f s'):SP X ze D f s':=by
 cases f with
 | next=>obtain⟨σ',H',I,q⟩:=h; exact⟨σ',H',I.unwish,q⟩
 | brk=>obtain⟨σ',H',I,q⟩:=h; exact⟨σ',H',I.unwish,q⟩
 | cont=>obtain⟨σ',H',I,q⟩:=h; exact⟨σ',H',I.unwish,q⟩
 | ret u=>obtain⟨v,σ',H',I,r,q⟩:=h; exact⟨v,σ',H',I.unwish,r,q⟩
theorem PE.nox{e:Expr}{t:TE}(h:PE X.nox e t):PE X e t:=fun ze s σ H Q I hw =>
 wpAny_mono (h ze s σ H Q (I.wish _) hw) (fun _ _ ⟨v,H',I',r,q⟩=>⟨v,H',I'.unwish,r,q⟩) fun _ _ z=>False.elim z
theorem PT.nox{e:Expr}{t:TT}(h:PT X.nox e t):PT X e t:=fun ze s σ H Q I hw =>
 wpAny_mono (h ze s σ H Q (I.wish _) hw) (fun _ _ ⟨H',I',q⟩=>⟨H',I'.unwish,q⟩) fun _ _ z=>False.elim z
theorem PSs.nox{st:List Stmt}{t:TS}(h:PSs X.nox st t):PSs X st t:=fun ze s σ H D I hw =>
 wpAny_mono (h ze s σ H D (I.wish _) hw) (fun _ _ q=>q.unwish) fun _ _ z=>False.elim z
end
section
variable {X:Cx} {st:Stmt} {rest:List Stmt} {t u:TS} {e:Expr} {te:TE} {pos:Pos}
def zop:TS:=fun D σ H=>D.nx σ H
def znf(t u:TS):TS:=fun D σ H=>t { D with nx:=u D } σ H
theorem zM:PSs X [] zop:=fun _ _ σ H _ I h=>wpAny_execs_nil ⟨σ,H,I,h⟩
theorem zh(h1:PS X st t)(h2:PSs X rest u):PSs X (st :: rest) (znf t u):=by
 intro ze s σ H D I h;refine wpAny_execs_cons (thn (h1 ze s σ H { D with nx:=u D } I h) fun f s1 q=>?_);cases f with
 | next =>
  obtain⟨σ',H',I',q⟩:=q;exact h2 ze s1 σ' H' D I' q
 | ret v=>exact q
 | brk=>exact q
 | cont=>exact q
theorem zk(h1:PS X st t):PSs X [st] t:=by
 intro ze s σ H D I h;refine wpAny_execs_cons (thn (h1 ze s σ H D I h) fun f s1 q=>?_);cases f with
 | next=>exact wpAny_execs_nil q
 | ret v=>exact q
 | brk=>exact q
 | cont=>exact q
theorem Inv.quiet{ze:List (Addr×Obj)}{σ:St}{H:Hp}{s:Shared}(I:Inv X ze σ H s):interactive X.env=false:=by simp [interactive,I.ok.kind]
def zpj(te:TE):TS:=fun D σ H=>te σ H fun _ H1=>D.nx σ H1
theorem zcq(he:PE X e te)(hs:swapsWith e none pos.line X.env=pure false:=by rfl):PS X (.Expr e pos) (zpj te):=by
 intro ze s σ H D I h;exact wpAny_Expr_any (thn (he ze s σ H _ I h) fun v s1 ⟨x,H1,I1,r1,q1⟩=>⟨σ,H1,I1,q1⟩) I.quiet hs
def zqD(te:TE):TS:=fun D σ H=>te σ H D.rt
theorem zx(he:PE X e te):PS X (.Return (some e) pos) (zqD te):=by
 intro ze s σ H D I h;exact wpAny_Return_some (thn (he ze s σ H _ I h) fun v s1 ⟨x,H1,I1,r1,q1⟩=>⟨x,σ,H1,I1,r1,q1⟩)
def zqs(c:TT)(t u:TS):TS:=fun D σ H=>c σ H fun b H1=>if b=true then t D σ H1 else u D σ H1
theorem za5{c:Expr}{a b:List Stmt}{tc:TT}(hc:PT X c tc)(ha:PSs X a t)(hb:PSs X b u):PS X (.If c a b pos) (zqs tc t u):=by
 intro ze s σ H D I h;refine wpAny_If (thn (hc ze s σ H _ I h) fun d s1 ⟨H1,I1,q1⟩=>?_);cases d with
 | true=>exact ha ze s1 σ H1 D I1 q1
 | false=>exact hb ze s1 σ H1 D I1 q1
end
abbrev TG:=V->St->Hp->(St->Hp->Prop)->Prop
abbrev TGs:=List V->St->Hp->(St->Hp->Prop)->Prop
def PG(X:Cx)(target:Expr)(t:TG):Prop :=
 ∀ (ze:List (Addr×Obj)) (s:Shared) (σ:St) (H:Hp) (v:V) (u:Value) (Q:St->Hp->Prop),Inv X ze σ H s->RelV v u->t v σ H Q ->
  wpAny (model X.prog X.w) X.A (assign target X.env u) (fun _ s'=>∃ σ' H',Inv X ze σ' H' s'/\Q σ' H') X.xe s
def PGs(X:Cx)(ts:List Expr)(t:TGs):Prop :=
 ∀ (ze:List (Addr×Obj)) (s:Shared) (σ:St) (H:Hp) (vs:List V) (us:List Value) (Q:St->Hp->Prop),Inv X ze σ H s->Vals vs us->t vs σ H Q ->
  wpAny (model X.prog X.w) X.A (assignInOrder ((assignEach ts X.env).map (·.2)) us) (fun _ s'=>∃ σ' H',Inv X ze σ' H' s'/\Q σ' H') X.xe s
abbrev TSet:=V->V->V->Hp->(Hp->Prop)->Prop
def PSet(X:Cx)(t:TSet):Prop :=
 ∀ (ze:List (Addr×Obj)) (s:Shared) (σ:St) (H:Hp) (o i v:V) (ov iv u:Value) (Q:Hp->Prop),Inv X ze σ H s->RelV o ov->RelV i iv->RelV v u->t o i v H Q ->
  wpAny (model X.prog X.w) X.A (setItem ov iv u) (fun _ s'=>∃ H',Inv X ze σ H' s'/\Q H') X.xe s
section
variable {X:Cx} {pos:Pos}
def zgO(i:Nat):TG:=fun v σ H Q=>Q (σ.set i (some v)) H
theorem zC{i:Nat}{x:Str}(hN:X.N.Nodup)(hi:X.N[i]? = some x)(hx:Loc X.env.scope x)(hf:X.fn x=true\/X.env.scope.names.lookup x=some .local:=by first | exact .inl rfl | exact .inr rfl | assumption):PG X (.Name x pos) (zgO i):=by
 intro ze s σ H v u Q I r h;exact wpAny_assign_Name (zdv I hN hi hx r (fun s' I'=>⟨_,H,I',h⟩) hf)
def zrs:TGs:=fun vs σ H Q=>vs=[]/\Q σ H
def zpk(t:TG)(u:TGs):TGs:=fun vs σ H Q=>∃ v r,vs=v :: r/\t v σ H fun σ' H'=>u r σ' H' Q
theorem zcO:PGs X [] zrs:=by
 intro ze s σ H vs us Q I r h;obtain⟨e,h⟩:=h;subst e;cases r;exact assignInOrder_nil ⟨σ,H,I,h⟩
theorem zai{e:Expr}{es:List Expr}{t:TG}{u:TGs}(h1:PG X e t)(h2:PGs X es u)
  (hs:(assignEach (e :: es) X.env).map (·.2)=assign e X.env :: (assignEach es X.env).map (·.2):=by rfl):PGs X (e :: es) (zpk t u):=by
 intro ze s σ H vs us Q I r h;obtain⟨v,vr,e1,h⟩:=h;subst e1;cases r with
 | cons r rr =>
  rw [hs];refine assignInOrder_cons (thn (h1 ze s σ H _ _ _ I r h) fun _ s1 ⟨σ1,H1,I1,q1⟩=>?_);exact h2 ze s1 σ1 H1 _ _ Q I1 rr q1
def zra(K:W.Frag)(n:Nat)(t:TGs):TG:=fun v σ H Q=>∃ a xs,v=.ref a/\SqT K H a xs/\xs.length=n/\t xs σ H Q
theorem zd3{es:List Expr}{k:Nat}{t:TGs}{n:Nat}(hc:X.calm=true)(h:PGs X es t)
  (hn:(assignEach es X.env).length=n:=by rfl) (hst:(assignEach es X.env).findIdx? (·.1)=none:=by rfl):PG X (.Tuple es k pos) (zra X.K n t):=by
 intro ze s σ H v u Q I r hw;obtain⟨a,xs,e1,hq,hl,hw⟩:=hw;subst e1;cases r;obtain⟨its,rv,ht,hz⟩:=I.tuple hq;refine assign_Tuple_tuple (I.ok.hd hc) ht (by simp [hn,<- hl,rv.length]) hst fun h' hx=>?_;have I1:Inv X ze σ H { s with heap:=h' }:=I.kept (t':=s.toks) fun b o e=>hx b o (ne_of_lt (lt_size e)) e;exact h ze _ σ H xs _ Q I1 (by simpa using rv) hw
def zrC(to ti:TE)(t:TSet):TG:=fun v σ H Q=>to σ H fun o H1=>ti σ H1 fun i H2=>t o i v H2 fun H3=>Q σ H3
theorem zir{o i:Expr}{to ti:TE}{t:TSet}(ho:PE X o to)(hi:PE X i ti)(hs:PSet X t)
  (ha:∀ v,assign (.Subscript o i pos) X.env v=(do
   let ov <- holding [v] (eval o X.env)
   let iv <- holding [v,ov] (eval i X.env)
   standAt pos
   holding [v,ov,iv] (setItem ov iv v)
   release [v,ov,iv] []):=by intro _; rfl):PG X (.Subscript o i pos) (zrC to ti t):=by
 intro ze s σ H v u Q I r h;rw [ha];refine wpAny_bind (wpAny_holding (thn (ho ze s σ H _ I h) fun ov s1 ⟨x,H1,I1,r1,q1⟩=>?_));refine wpAny_bind (wpAny_holding (thn (hi ze s1 σ H1 _ I1 q1) fun iv s2 ⟨y,H2,I2,r2,q2⟩=>?_));refine wpAny_bind (wpAny_standAt (wpAny_bind (wpAny_holding (thn (hs ze s2 σ H2 x y v ov iv u _ I2 r1 r2 r q2) fun _ s3 ⟨H3,I3,q3⟩=>?_))));exact wpAny_release ⟨σ,H3,I3,q3⟩
def zou(te:TE)(g:TG):TS:=fun D σ H=>te σ H fun x H1=>g x σ H1 D.nx
theorem ziL{tg e:Expr}{te:TE}{g:TG}(he:PE X e te)(hg:PG X tg g)(hs:swapsWithSole [tg] e pos.line X.env=pure false:=by rfl)(hw:swappedStores [tg] e X.env=pure none:=by rfl)
  (h1:(assignEach [tg] X.env).map (·.2)=[assign tg X.env]:=by rfl):PS X (.Assign [tg] e pos) (zou te g):=by
 intro ze s σ H D I h;refine wpAny_Assign_stores (thn (he ze s σ H _ I h) fun v s1 ⟨x,H1,I1,r1,q1⟩=>?_) hs hw;rw [h1];exact thn (hg ze s1 σ H1 x v _ I1 r1 q1) fun _ s2 q=>q
theorem zI{i:Nat}{x:Str}{e:Expr}{te:TE}{pos':Pos}(hN:X.N.Nodup)(hi:X.N[i]? = some x)(hx:Loc X.env.scope x)(he:PE X e te)(hs:swapsWith e (some (.Name x pos')) pos.line X.env=pure false:=by rfl)(hf:X.fn x=true\/X.env.scope.names.lookup x=some .local:=by first | exact .inl rfl | exact .inr rfl | assumption):
  PS X (.Assign [.Name x pos'] e pos) (zou te (zgO i)):=by
 intro ze s σ H D I h;refine wpAny_Assign_Name (thn (he ze s σ H _ I h) fun v s1 ⟨y,H1,I1,r1,q1⟩=>?_) hs;exact zdv I1 hN hi hx r1 (fun s2 I2=>⟨_,H1,I2,q1⟩) hf
end
structure It where
 go:Nat->Hp->Prop
 yld:Nat->Hp->V->Hp->Prop
 stop:Nat->Hp->Prop
def FpOk(X:Cx)(ze:List (Addr×Obj))(H:Hp)(b:Addr):Prop :=
 H b=none/\b≠X.env.locals/\b∉X.fs/\(b∈X.ex\/X.s₀.heap.objs.size<=b)/\(∀ x c,X.env.cells.lookup x=some c->c≠b)/\∀ p∈X.pn++ze,p.1≠b
theorem Inv.fpOk{X:Cx}{ze:List (Addr×Obj)}{σ:St}{H H':Hp}{s:Shared}{b:Addr}(I:Inv X ze σ H s)(hb:s.heap.objs.size<=b)(hn:H' b=none):FpOk X ze H' b:=by
 refine⟨hn,ne_of_gt (lt_of_lt_of_le I.lt hb),I.nofs hb,.inr (le_trans I.sz hb),fun x c e z=>?_,fun p hp z=>?_⟩
 ·obtain⟨v,q⟩:=I.cell x c e;exact absurd (lt_of_lt_of_le q.lt (by rw [z]; exact hb)) (lt_irrefl _)
 ·exact absurd (lt_of_lt_of_le (lt_size (I.pin p hp).1) (by rw [z]; exact hb)) (lt_irrefl _)
structure Turn(P:Program)(w:World)(K:W.Frag)(tg:Expr)(J:It)(fp:List Addr)(it:Addr)(tn:Nat->Heap->Prop):Prop where
 mem:it∈fp
 obj:∀ i h,tn i h->∀ b∈fp,∃ o,h.get? b=some o/\∀ v,o.data≠.cell v
 keep:∀ i h h',tn i h->(∀ b∈fp,∀ o,h.get? b=some o->h'.get? b=some o)->tn i h'
 item:∀ (X:Cx),X.prog=P->X.w=w->X.K=K->X.calm=true->∀ (i:Nat) (ze:List (Addr×Obj)) (s:Shared) (σ:St) (H:Hp) (E:Value->Shared->Prop),Inv X ze σ H s->(∀ b∈fp,FpOk X ze H b)->tn i s.heap->J.go i H ->
  wpAny (model P w) X.A (pyNext (.ref it)) (fun r s1=>∃ u,r=some u /\
   wpAny (model P w) X.A (letOwnedTupleGo tg (.ref it) u) (fun _ s2=>∃ x H',Inv X ze σ H' s2/\RelV x u/\J.yld i H x H'/\tn (i+1) s2.heap/\∀ b∈fp,H' b=none) E s1) E s
 done:∀ (X:Cx),X.prog=P->X.w=w->X.K=K->X.calm=true->∀ (i:Nat) (ze:List (Addr×Obj)) (s:Shared) (σ:St) (H:Hp) (E:Value->Shared->Prop),Inv X ze σ H s->(∀ b∈fp,FpOk X ze H b)->tn i s.heap->J.stop i H ->
  wpAny (model P w) X.A (pyNext (.ref it)) (fun r s1=>r=none/\Inv X ze σ H s1) E s
 self:∀ (A:Around) (i:Nat) (s:Shared) (Q:Value->Shared->Prop) (E:Value->Shared->Prop),tn i s.heap->Q (.ref it) s->wpAny (model P w) A (pyIter (.ref it)) Q E s
abbrev TI:=St->Hp->(It->Hp->Prop)->Prop
def PIE(X:Cx)(ze:List (Addr×Obj))(σ:St)(tg:Expr)(R:It->Hp->Prop)(itv:Value)(s2:Shared):Prop :=
 ∃ (it:Addr) (fp:List Addr) (tn:Nat->Heap->Prop) (J:It) (H':Hp),itv=.ref it/\Inv X ze σ H' s2/\Turn X.prog X.w X.K tg J fp it tn/\tn 0 s2.heap/\(∀ b∈fp,FpOk X ze H' b)/\R J H'
def PI(X:Cx)(tg iter:Expr)(wi:TI):Prop :=
 ∀ (ze:List (Addr×Obj)) (s:Shared) (σ:St) (H:Hp) (R:It->Hp->Prop),Inv X ze σ H s->wi σ H R ->
  wpAny (model X.prog X.w) X.A (eval iter X.env) (fun v s1=>wpAny (model X.prog X.w) X.A (pyIter v) (PIE X ze σ tg R) X.xe s1) X.xe s
theorem zlo{M:Model}{A:Around}{E:Value->Shared->Prop}{s:Shared}{tg:Expr}{it:Addr}{u:Value}{o:Obj}{n:String}{vs:Array Value}{Q:Unit->Shared->Prop}(ho:s.heap.get? it=some o)(hc:o.cls=.type n)(hd:o.data=.fields vs)
    (hn:["enumerate","zip","dict_itemiterator","dict_reverseitemiterator","odict_iterator","itertools.zip_longest","itertools.pairwise"].contains n=false) (hQ:Q () s):wpAny M A (letOwnedTupleGo tg (.ref it) u) Q E s:=by
  unfold letOwnedTupleGo;cases tg <;> first
    | exact wpAny_pure hQ
    | (cases u <;> first
        | exact wpAny_pure hQ
        | (refine wpAny_bind (wpAny_load ho ?_)
           rw [hc,hd];show wpAny M A (if (["enumerate","zip","dict_itemiterator","dict_reverseitemiterator","odict_iterator","itertools.zip_longest","itertools.pairwise"].contains n && vs[0]? == some (rawInt _))=true then _ else _) Q E s;rw [if_neg (by intro h; rw [hn,Bool.false_and] at h; cases h)];exact wpAny_pure hQ))
def Itl(K:W.Frag)(a:Addr):It :=
 ⟨fun i H=>∃ xs x,SqL K H a xs/\xs[i]? = some x,fun i H x H'=>H'=H/\∀ xs,SqL K H a xs->xs[i]? = some x,fun i H=>∃ xs,SqL K H a xs/\xs.length<=i⟩
def Itt(K:W.Frag)(a:Addr):It :=
 ⟨fun i H=>∃ xs x,SqT K H a xs/\xs[i]? = some x,fun i H x H'=>H'=H/\∀ xs,SqT K H a xs->xs[i]? = some x,fun i H=>∃ xs,SqT K H a xs/\xs.length<=i⟩
def Itr(lo:Int)(n:Nat):It:=⟨fun i _=>i<n,fun i H x H'=>H'=H/\x=.int (lo+i),fun i _=>n<=i⟩
theorem zgT{P:Program}{w:World}{K:W.Frag}{tg:Expr}(a it:Addr):Turn P w K tg (Itl K a) [it] it (fun i h=>h.IsListIter it a i) where
 mem:=by simp
 obj:=fun i h st b hb=>by
  have e:b=it:=by simpa using hb
  subst e;obtain⟨o,e,c,d⟩:=st;exact⟨o,e,fun v z=>by rw [d] at z; cases z⟩
 keep:=fun i h h' st k=>st.at fun o e=>k it (by simp) o e
 item:=by
  intro X hP hw hK hc i ze s σ H E I hf st hg;subst hP hw hK;obtain⟨xs,x,hq,hx⟩:=hg;obtain⟨its,rv,p,hz⟩:=I.list hq;obtain⟨u,hu,ru⟩:=rv.get hx;obtain⟨f0,f1,f2,f3,f4,f5⟩:=hf it (by simp);refine wpAny_pyNext_list_item st p.isList (x:=u) (by simpa using hu) fun h' st' sb=>?_;have I1:Inv X ze σ H { s with heap:=h' }:=I.turned (t':=s.toks) (fun b o hb e=>(sb.2 b hb).trans e) f0 f1 f3 f4 f5;obtain⟨o,e,c,d⟩:=id st';exact⟨u,rfl,zlo (s:={ s with heap:=h' }) e c d dz ⟨x,H,I1,ru,⟨rfl,fun ys hy=>by rw [I.list_inj hy hq]; exact hx⟩,st',fun b hb=>(hf b hb).1⟩⟩
 done:=by
  intro X hP hw hK hc i ze s σ H E I hf st hg;subst hP hw hK;obtain⟨xs,hq,hx⟩:=hg;obtain⟨its,rv,p,hz⟩:=I.list hq;obtain⟨f0,f1,f2,f3,f4,f5⟩:=hf it (by simp);have hl:=rv.length;exact wpAny_pyNext_list_end (I.ok.hd hc) st p.isList (by simp; omega) fun h' eb=>⟨rfl,I.turned (t':=s.toks) (fun b o hb e=>eb b o hb e) f0 f1 f3 f4 f5⟩
 self:=fun _ _ _ _ _ st h=>wpAny_pyIter_listiter st h
theorem zjt{P:Program}{w:World}{K:W.Frag}{tg:Expr}(a it:Addr):Turn P w K tg (Itt K a) [it] it (fun i h=>h.IsTupleIter it a i) where
 mem:=by simp
 obj:=fun i h st b hb=>by
  have e:b=it:=by simpa using hb
  subst e;obtain⟨o,e,c,d⟩:=st;exact⟨o,e,fun v z=>by rw [d] at z; cases z⟩
 keep:=fun i h h' st k=>st.at fun o e=>k it (by simp) o e
 item:=by
  intro X hP hw hK hc i ze s σ H E I hf st hg;subst hP hw hK;obtain⟨xs,x,hq,hx⟩:=hg;obtain⟨its,rv,p,hz⟩:=I.tuple hq;obtain⟨u,hu,ru⟩:=rv.get hx;obtain⟨f0,f1,f2,f3,f4,f5⟩:=hf it (by simp);refine wpAny_pyNext_tuple_item st (show s.heap.IsTuple a its.toArray from p) (x:=u) (by simpa using hu) fun h' st' sb=>?_;have I1:Inv X ze σ H { s with heap:=h' }:=I.turned (t':=s.toks) (fun b o hb e=>(sb.2 b hb).trans e) f0 f1 f3 f4 f5;obtain⟨o,e,c,d⟩:=id st';exact⟨u,rfl,zlo (s:={ s with heap:=h' }) e c d dz ⟨x,H,I1,ru,⟨rfl,fun ys hy=>by rw [I.tuple_inj hy hq]; exact hx⟩,st',fun b hb=>(hf b hb).1⟩⟩
 done:=by
  intro X hP hw hK hc i ze s σ H E I hf st hg;subst hP hw hK;obtain⟨xs,hq,hx⟩:=hg;obtain⟨its,rv,p,hz⟩:=I.tuple hq;obtain⟨f0,f1,f2,f3,f4,f5⟩:=hf it (by simp);have hl:=rv.length;exact wpAny_pyNext_tuple_end (I.ok.hd hc) st (show s.heap.IsTuple a its.toArray from p) (by simp; omega) fun h' eb=>⟨rfl,I.turned (t':=s.toks) (fun b o hb e=>eb b o hb e) f0 f1 f3 f4 f5⟩
 self:=fun _ _ _ _ _ st h=>wpAny_pyIter_tupleiter st h
theorem zi9{P:Program}{w:World}{K:W.Frag}{tg:Expr}(it:Addr)(lo:Int)(n:Nat):Turn P w K tg (Itr lo n) [it] it (fun i h=>IsRangeIter h it (lo+(i:Nat)*1) ((n:Int) - (i:Nat)) 1) where
 mem:=by simp
 obj:=fun i h st b hb=>by
  have e:b=it:=by simpa using hb
  subst e;exact⟨_,st,fun v z=>by
   have z':Data.fields _=Data.cell v:=z;cases z'⟩
 keep:=fun i h h' st k=>k it (by simp) _ st
 item:=by
  intro X hP hw hK hc i ze s σ H E I hf st hg;subst hP hw hK;obtain⟨f0,f1,f2,f3,f4,f5⟩:=hf it (by simp);have W:=Walks.range (prog:=X.prog) (w:=X.w) (I.ok.hd hc) it lo 1 n;refine W.item i s _ _ hg st fun v h' tk hv st' kk=>?_;obtain⟨t,rfl⟩:=hv;have I1:Inv X ze σ H { s with heap:=h',toks:=tk }:=I.turned (fun b o hb e=>kk b o (by simpa using hb) e) f0 f1 f3 f4 f5;refine⟨_,rfl,zlo (s:={ s with heap:=h',toks:=tk }) (n:="range_iterator") st' rfl rfl dz ⟨.int (lo+i),H,I1,⟨t,?_⟩,⟨rfl,rfl⟩,st',fun b hb=>(hf b hb).1⟩⟩;rw [Int.mul_one]
 done:=by
  intro X hP hw hK hc i ze s σ H E I hf st hg;subst hP hw hK;obtain⟨f0,f1,f2,f3,f4,f5⟩:=hf it (by simp);exact wpAny_pyNext_range_end (I.ok.hd hc) st (by have:n<=i:=hg; omega) fun h' eb=>⟨rfl,I.turned (t':=s.toks) (fun b o hb e=>eb b o hb e) f0 f1 f3 f4 f5⟩
 self:=fun _ _ _ _ _ st h=>wpAny_pyIter_rangeiter st h
end
section
section
variable {X:Cx} {tg:Expr}
def zob(K:W.Frag)(tl:TE):TI:=fun σ H R=>tl σ H fun x H1=>∃ a,x=.ref a/\(∃ xs,SqL K H1 a xs)/\R (Itl K a) H1
theorem zog{l:Expr}{tl:TE}(hl:PE X l tl):PI X tg l (zob X.K tl):=by
 intro ze s σ H R I h;refine thn (hl ze s σ H _ I h) fun v s1 ⟨x,H1,I1,r1,q1⟩=>?_;obtain⟨a,e,⟨xs,hq⟩,q⟩:=q1;subst e;cases r1;obtain⟨its,rv,p,hz⟩:=I1.list hq;refine wpAny_pyIter_list p.isList ?_;refine⟨s1.heap.objs.size,[s1.heap.objs.size],_,_,H1,rfl,I1.kept (t':=s1.toks) fun b o e=>get?_push_of_some _ e,zgT a _,⟨_,get?_push_size _ rfl,rfl,rfl⟩,fun b hb=>?_,q⟩;have e:b=s1.heap.objs.size:=by simpa using hb
 subst e;exact I1.fpOk (le_refl _) (I1.hok.fresh (le_refl _))
def zpG(wi:TI)(g:TG)(tb:TS):TS:=fun D σ H=>wi σ H fun J H1=>∃ W:Nat->Nat->St->Hp->Prop,(∃ m,W 0 m σ H1)/\∀ i m σ H,W i m σ H ->
 (J.stop i H/\D.nx σ H)\/(J.go i H/\∃ N:St->Hp->Prop,(∀ σ' H',N σ' H'->∃ m',m'<m/\W (i+1) m' σ' H')/\∀ x H',J.yld i H x H'->g x σ H' fun σ2 H2=>tb { D with nx:=N,ct:=N,bk:=D.nx } σ2 H2)
def zhm(fp:List Addr)(h:Heap):List (Addr×Obj):=fp.filterMap fun b=>(h.get? b).map fun o=>(b,o)
theorem zcT{fp:List Addr}{h:Heap}{b:Addr}{o:Obj}(hb:b∈fp)(e:h.get? b=some o):(b,o)∈zhm fp h:=List.mem_filterMap.mpr ⟨b,hb,by rw [e]; rfl⟩
theorem zkg{fp:List Addr}{h:Heap}{p:Addr×Obj}(hp:p∈zhm fp h):p.1∈fp/\h.get? p.1=some p.2:=by
 obtain⟨b,hb,e⟩:=List.mem_filterMap.mp hp;cases q:h.get? b with
 | none=>rw [q] at e; cases e
 | some o =>
  rw [q] at e;have e':(b,o)=p:=Option.some.inj e;subst e';exact⟨hb,q⟩
theorem Inv.pinned{ze:List (Addr×Obj)}{σ:St}{H:Hp}{s:Shared}{fp:List Addr}(I:Inv X ze σ H s)(hf:∀ b∈fp,FpOk X ze H b)(ho:∀ b∈fp,∃ o,s.heap.get? b=some o/\∀ v,o.data≠.cell v):Inv X (ze++zhm fp s.heap) σ H s :=
 I.pins_of fun p hp=>(mem_append.mp hp).elim (fun z=>I.pin p (mem_append_right _ z)) fun z=>by
  obtain⟨hb,e⟩:=zkg z;obtain⟨f0,f1,f2,_⟩:=hf p.1 hb;obtain⟨o,e',d⟩:=ho p.1 hb;rw [e] at e'; cases e';exact⟨e,f0,f1,f2,d⟩
theorem Inv.unpinned{ze pl:List (Addr×Obj)}{σ:St}{H:Hp}{s:Shared}(I:Inv X (ze++pl) σ H s):Inv X ze σ H s:=I.pins_of fun p hp=>I.pin p (mem_append_right _ (mem_append_left _ hp))
theorem zb8{iter:Expr}{body:List Stmt}{wi:TI}{g:TG}{tb:TS}{pos:Pos}(hp:PassesOwn (model X.prog X.w) X.A X.env X.xe)(hc:X.calm=true)(hi:PI X tg iter wi)(hg:PG X tg g)(hb:PSs X body tb)
  (hs:∀ x,foldedSetIterable iter X.env x=pure x:=by intro _; rfl):PS X (.For tg iter body [] pos) (zpG wi g tb):=by
 intro ze s σ H D I h;refine wpAny_For (thn (hi ze s σ H _ I h) fun v s1 h1=>thn h1 fun itv s2 h2=>?_) hs;obtain⟨it,fp,tn,J,H2,e,I2,T,st2,f2,W,⟨m0,w0⟩,turn⟩:=h2;subst e
 -- what stays true of the iterator's objects through the loop
 have stat:∀ {H':Hp},(∀ b∈fp,H' b=none)->∀ b∈fp,FpOk X ze H' b:=fun hn b hb=>⟨hn b hb,(f2 b hb).2⟩;refine codeAny_forLoop_any (fun n s'=>∃ i σ' H',Inv X ze σ' H' s'/\tn i s'.heap/\(∀ b∈fp,H' b=none)/\W i n σ' H') ?_ m0 ⟨0,σ,H2,I2,st2,fun b hb=>(f2 b hb).1,w0⟩;rintro n s3 ⟨i,σ3,H3,I3,st3,fr3,w3⟩;rcases turn i n σ3 H3 w3 with ⟨stop,qn⟩ | ⟨go,N,hN,step⟩
 ·refine wpAny_passesOwn hp (thn (T.done X rfl rfl rfl hc i ze s3 σ3 H3 X.xe I3 (stat fr3) st3 stop) fun r s4 ⟨hr,I4⟩=>?_);subst hr;exact wpAny_execs_nil ⟨σ3,H3,I4,qn⟩
 ·refine wpAny_passesOwn hp (thn (T.item X rfl rfl rfl hc i ze s3 σ3 H3 X.xe I3 (stat fr3) st3 go) fun r s4 ⟨u,hr,h4⟩=>?_);subst hr;refine wpAny_passesOwn hp (thn h4 fun _ s5 ⟨x,H5,I5,r5,y5,st5,fr5⟩=>?_);have I5':=I5.pinned (stat fr5) (T.obj _ _ st5);refine wpAny_passesOwn hp (thn (hg _ s5 σ3 H5 x u _ I5' r5 (step x H5 y5)) fun _ s6 ⟨σ6,H6,I6,q6⟩=>?_);refine wpAny_passesOwn hp (thn (hb _ s6 σ6 H6 _ I6 q6) fun f s7 q7=>?_);have again:∀ {σ7:St} {H7:Hp},Inv X (ze++zhm fp s5.heap) σ7 H7 s7->N σ7 H7->∃ m,m<n/\∃ i σ' H',Inv X ze σ' H' s7/\tn i s7.heap/\(∀ b∈fp,H' b=none)/\W i m σ' H':=fun {σ7 H7} I7 n7=>by
   obtain⟨m',hm,w7⟩:=hN σ7 H7 n7;refine⟨m',hm,i+1,σ7,H7,I7.unpinned,T.keep _ _ _ st5 fun b hb o e=>(I7.pin (b,o) (mem_append_right _ (mem_append_right _ (zcT hb e)))).1,fun b hb=>?_,w7⟩;obtain⟨o,e,d⟩:=T.obj _ _ st5 b hb;exact(I7.pin (b,o) (mem_append_right _ (mem_append_right _ (zcT hb e)))).2.1
  cases f with
  | next=>obtain⟨σ7,H7,I7,n7⟩:=q7; exact again I7 n7
  | cont=>obtain⟨σ7,H7,I7,n7⟩:=q7; exact again I7 n7
  | brk=>obtain⟨σ7,H7,I7,q7⟩:=q7; exact⟨σ7,H7,I7.unpinned,q7⟩
  | ret v=>obtain⟨x7,σ7,H7,I7,r7,q7⟩:=q7; exact⟨x7,σ7,H7,I7.unpinned,r7,q7⟩
end
theorem zl9{K:W.Frag}{a:Addr}{xs:List V}{g:TG}{tb:TS}{D:Ends}{σ:St}{H:Hp}(Pv:Nat->St->Hp->Prop)(h0:Pv 0 σ H)(hl:∀ i σ H,i<=xs.length->Pv i σ H->SqL K H a xs)
  (hs:∀ i x σ H,xs[i]? = some x->Pv i σ H->g x σ H fun σ2 H2=>tb { D with nx:=Pv (i+1),ct:=Pv (i+1),bk:=D.nx } σ2 H2) (hd:∀ σ H,Pv xs.length σ H->D.nx σ H) :
  ∃ W:Nat->Nat->St->Hp->Prop,(∃ m,W 0 m σ H)/\∀ i m σ H,W i m σ H ->
   ((Itl K a).stop i H/\D.nx σ H)\/((Itl K a).go i H/\∃ N:St->Hp->Prop,(∀ σ' H',N σ' H'->∃ m',m'<m/\W (i+1) m' σ' H')/\∀ x H',(Itl K a).yld i H x H'->g x σ H' fun σ2 H2=>tb { D with nx:=N,ct:=N,bk:=D.nx } σ2 H2):=by
 refine⟨fun i m σ H=>m=xs.length - i/\i<=xs.length/\Pv i σ H,⟨xs.length,by simp,zero_le _,h0⟩,?_⟩;rintro i m σ H ⟨rfl,hi,p⟩;have q:=hl i σ H hi p;by_cases hlt:i<xs.length
 ·refine .inr ⟨⟨xs,xs[i],q,by simp [hlt]⟩,Pv (i+1),fun σ' H' p'=>⟨xs.length - (i+1),by omega,rfl,hlt,p'⟩,fun x H' y=>?_⟩;obtain⟨e,y⟩:=y;subst e;exact hs i x σ _ (y xs q) p
 ·have e:i=xs.length:=by omega
  subst e;exact .inl ⟨⟨xs,q,le_refl _⟩,hd σ H p⟩
end
section
abbrev R2:=V->V->Hp->VK->Prop
def OpR(X:Cx)(f:Value->Value->Sem Value)(r:R2):Prop :=
 ∀ (ze:List (Addr×Obj)) (s:Shared) (σ:St) (H:Hp) (x y:V) (v u:Value) (Q:VK),Inv X ze σ H s->RelV x v->RelV y u->r x y H Q ->
  wpAny (model X.prog X.w) X.A (f v u) (EP X ze σ Q) X.xe s
def UnR(X:Cx)(f:Value->Sem Value)(r:V->Hp->VK->Prop):Prop :=
 ∀ (ze:List (Addr×Obj)) (s:Shared) (σ:St) (H:Hp) (x:V) (v:Value) (Q:VK),Inv X ze σ H s->RelV x v->r x H Q ->
  wpAny (model X.prog X.w) X.A (f v) (EP X ze σ Q) X.xe s
def CallR(X:Cx)(f:Value)(r:List V->Hp->VK->Prop):Prop :=
 ∀ (ze:List (Addr×Obj)) (s:Shared) (σ:St) (H:Hp) (xs:List V) (us:List Value) (Q:VK),Inv X ze σ H s->Vals xs us->r xs H Q ->
  wpAny (model X.prog X.w) X.A (call f us) (EP X ze σ Q) X.xe s
def TruR(X:Cx)(r:V->Hp->(Bool->Hp->Prop)->Prop):Prop :=
 ∀ (ze:List (Addr×Obj)) (s:Shared) (σ:St) (H:Hp) (x:V) (v:Value) (Q:Bool->Hp->Prop),Inv X ze σ H s->RelV x v->r x H Q ->
  wpAny (model X.prog X.w) X.A (truthy v) (TP X ze σ Q) X.xe s
def tOp(r:R2)(ta tb:TE):TE:=fun σ H Q=>ta σ H fun x H1=>tb σ H1 fun y H2=>r x y H2 Q
def tUn(r:V->Hp->VK->Prop)(ta:TE):TE:=fun σ H Q=>ta σ H fun x H1=>r x H1 Q
def rI(C:Int->Int->Prop)(g:Int->Int->V):R2:=fun x y H Q=>∃ i j,x=.int i/\y=.int j/\C i j/\Q (g i j) H
def rI0(g:Int->Int->V):R2:=fun x y H Q=>∃ i j,x=.int i/\y=.int j/\Q (g i j) H
def rU(g:Int->V):V->Hp->VK->Prop:=fun x H Q=>∃ i,x=.int i/\Q (g i) H
section
variable {X:Cx} {a b c:Expr} {ta tb tc:TE} {pos:Pos}
theorem zqX(ha:PE X a ta)(hb:PE X b tb){ze:List (Addr×Obj)}{s:Shared}{σ:St}{H:Hp}{R:V->V->Hp->Prop}(I:Inv X ze σ H s)
  (h:ta σ H fun x H1=>tb σ H1 fun y H2=>R x y H2) {Q:Value->Shared->Prop} {f:Value->Value->Sem Value}
  (hf:∀ v u s2 x y H2,Inv X ze σ H2 s2->RelV x v->RelV y u->R x y H2->wpAny (model X.prog X.w) X.A (f v u) Q X.xe s2) :
  wpAny (model X.prog X.w) X.A (eval a X.env) (fun v s₁=>wpAny (model X.prog X.w) X.A (eval b X.env) (fun u s₂=>wpAny (model X.prog X.w) X.A (f v u) Q X.xe s₂) X.xe s₁) X.xe s:=by
 refine thn (ha ze s σ H _ I h) fun v s1 ⟨x,H1,I1,r1,q1⟩=>?_;refine thn (hb ze s1 σ H1 _ I1 q1) fun u s2 ⟨y,H2,I2,r2,q2⟩=>?_;exact hf v u s2 x y H2 I2 r1 r2 q2
theorem zB{op:Operator}{r:R2}(ho:OpR X (binaryOp op) r)(ha:PE X a ta)(hb:PE X b tb):PE X (.BinOp a op b pos) (tOp r ta tb):=by
 intro ze s σ H Q I h;exact wpAny_BinOp (zqX ha hb I h fun v u s2 x y H2 I2 rx ry q=>ho ze s2 σ H2 x y v u Q I2 rx ry q)
theorem znh{op:UnaryOp}{r:V->Hp->VK->Prop}(ho:UnR X (unaryOp op) r)(ha:PE X a ta):PE X (.UnaryOp op a pos) (tUn r ta):=by
 intro ze s σ H Q I h;exact UnaryOp_ (thn (ha ze s σ H _ I h) fun v s1 ⟨x,H1,I1,r1,q1⟩=>ho ze s1 σ H1 x v Q I1 r1 q1)
theorem opI{f:Value->Value->Sem Value}{C:Int->Int->Prop}{g:Int->Int->Int}
  (rule:∀ (i j:Int) (t u:Tok) (s:Shared) (Q:Value->Shared->Prop) (E:Value->Shared->Prop),C i j->Q (.int (g i j) s.toks) { s with toks:=s.toks+1 }->wpAny (model X.prog X.w) X.A (f (.int i t) (.int j u)) Q E s) :
  OpR X f (rI C fun i j=>.int (g i j)):=by
 intro ze s σ H x y v u Q I rx ry h;obtain⟨i,j,rfl,rfl,hc,q⟩:=h;obtain⟨t,rfl⟩:=rx;obtain⟨t',rfl⟩:=ry;exact rule i j t t' s _ _ hc ⟨.int (g i j),H,I.tok _,⟨_,rfl⟩,q⟩
theorem zrb{f:Value->Value->Sem Value}{g:Int->Int->Int}
  (rule:∀ (i j:Int) (t u:Tok) (s:Shared) (Q:Value->Shared->Prop) (E:Value->Shared->Prop),Q (.int (g i j) s.toks) { s with toks:=s.toks+1 }->wpAny (model X.prog X.w) X.A (f (.int i t) (.int j u)) Q E s) :
  OpR X f (rI0 fun i j=>.int (g i j)):=by
 intro ze s σ H x y v u Q I rx ry h;obtain⟨i,j,rfl,rfl,q⟩:=h;obtain⟨t,rfl⟩:=rx;obtain⟨t',rfl⟩:=ry;exact rule i j t t' s _ _ ⟨.int (g i j),H,I.tok _,⟨_,rfl⟩,q⟩
theorem zqn{f:Value->Value->Sem Value}{g:Int->Int->Bool}
  (rule:∀ (i j:Int) (t u:Tok) (s:Shared) (Q:Value->Shared->Prop) (E:Value->Shared->Prop),Q (.bool (g i j)) s->wpAny (model X.prog X.w) X.A (f (.int i t) (.int j u)) Q E s) :
  OpR X f (rI0 fun i j=>.bl (g i j)):=by
 intro ze s σ H x y v u Q I rx ry h;obtain⟨i,j,rfl,rfl,q⟩:=h;obtain⟨t,rfl⟩:=rx;obtain⟨t',rfl⟩:=ry;exact rule i j t t' s _ _ ⟨.bl (g i j),H,I,rfl,q⟩
def CDivN(i j:Int):Prop:=j≠0/\j.natAbs<1073741824
def CPow(i j:Int):Prop:=0<=j/\j<=1000000/\i.natAbs<2 ^ 64
theorem zpt:OpR X (binaryOp .Add) (rI0 fun i j=>.int (i+j)):=zrb fun _ _ _ _ _ _ _ q=>add_int q
theorem zcB:OpR X (binaryOp .Sub) (rI0 fun i j=>.int (i - j)):=zrb fun _ _ _ _ _ _ _ q=>sub_int q
theorem zlg:OpR X (binaryOp .FloorDiv) (rI CDivN fun i j=>.int (i.fdiv j)):=opI fun _ _ _ _ _ _ _ hc q=>floordiv_int hc.1 q (.inl (PyProof.noPylong_small hc.2))
theorem zdz:OpR X (binaryOp .Mod) (rI (fun _ j=>0<j) fun i j=>.int (i % j)):=opI fun i j _ _ _ _ _ hc q=>by
 have h1:(0:Int)<j:=hc;exact mod_int' (by omega) (by rw [Int.fmod_eq_emod_of_nonneg i (by omega)]; exact q)
theorem zcD:OpR X (binaryOp .Pow) (rI CPow fun i j=>.int (i ^ j.toNat)):=opI fun _ _ _ _ _ _ _ hc q=>pow_int_small hc.1 hc.2.1 hc.2.2 q
theorem unI{f:Value->Sem Value}{g:Int->Int}
  (rule:∀ (i:Int) (t:Tok) (s:Shared) (Q:Value->Shared->Prop) (E:Value->Shared->Prop),Q (.int (g i) s.toks) { s with toks:=s.toks+1 }->wpAny (model X.prog X.w) X.A (f (.int i t)) Q E s) :
  UnR X f (rU fun i=>.int (g i)):=by
 intro ze s σ H x v Q I rx h;obtain⟨i,rfl,q⟩:=h;obtain⟨t,rfl⟩:=rx;exact rule i t s _ _ ⟨.int (g i),H,I.tok _,⟨_,rfl⟩,q⟩
theorem zj2:UnR X (unaryOp .USub) (rU fun i=>.int (-i)):=unI fun _ _ _ _ _ q=>neg_int q
end
section
variable {X:Cx} {a b c:Expr} {ta tb tc:TE} {pos:Pos}
theorem zqm{ze:List (Addr×Obj)}{σ:St}{H:Hp}{s:Shared}{Q:VK}{k k':Bool}(I:Inv X ze σ H s)(q:Q (.bl k) H)(e:k=k'):EP X ze σ Q (.bool k') s:=by
 subst e;exact⟨.bl k,H,I,rfl,q⟩
theorem zd9:OpR X (compareOp .Lt) (rI0 fun i j=>.bl (decide (i<j))):=zqn fun _ _ _ _ _ _ _ q=>lt_int q
theorem zol:OpR X (compareOp .LtE) (rI0 fun i j=>.bl (decide (i<=j))):=zqn fun _ _ _ _ _ _ _ q=>le_int q
theorem zlR:OpR X (compareOp .Gt) (rI0 fun i j=>.bl (decide (j<i))):=zqn fun _ _ _ _ _ _ _ q=>gt_int q
theorem zju:OpR X (compareOp .GtE) (rI0 fun i j=>.bl (decide (j<=i))):=zqn fun _ _ _ _ _ _ _ q=>ge_int q
theorem znm:OpR X (compareOp .IsNot) (fun x y H Q=>y=.non/\Q (.bl (!decide (x=.non))) H):=by
 intro ze s σ H x y v u Q I rx ry h;obtain⟨rfl,q⟩:=h;cases ry;refine isnot_none_gen (zqm I q ?_);cases x <;> first
  | (cases rx; rfl)
  | (obtain⟨t,rfl⟩:=rx; rfl)
theorem OpR.or{f:Value->Value->Sem Value}{r r':R2}(h:OpR X f r)(h':OpR X f r'):OpR X f (fun x y H Q=>r x y H Q\/r' x y H Q):=by
 intro ze s σ H x y v u Q I rx ry q;rcases q with q | q
 ·exact h ze s σ H x y v u Q I rx ry q
 ·exact h' ze s σ H x y v u Q I rx ry q
theorem nomark(b:Expr){op:CmpOp}(h:op≠.In:=by decide)(h2:op≠.NotIn:=by decide):behindInMarks op b=false:=by
 have e1:(op == CmpOp.In)=false:=by cases op <;> first | rfl | exact absurd rfl h
 have e2:(op == CmpOp.NotIn)=false:=by cases op <;> first | rfl | exact absurd rfl h2
 cases b <;> simp [behindInMarks,e1,e2]
theorem zbw{op:CmpOp}{r:R2}(ho:OpR X (compareOp op) r)(ha:PE X a ta)(hb:PE X b tb)(hm:behindInMarks op b=false):PE X (.Compare a [op] [b] pos) (tOp r ta tb):=by
 intro ze s σ H Q I h;exact wpAny_Compare1 (zqX ha hb I h fun v u s2 x y H2 I2 rx ry q=>ho ze s2 σ H2 x y v u Q I2 rx ry q) hm
def zod(t:TE):TT:=fun σ H Q=>t σ H fun x H'=>∃ k,x=.bl k/\Q k H'
theorem zP{op:CmpOp}{r:R2}(ho:OpR X (compareOp op) r)(ha:PE X a ta)(hb:PE X b tb)(hm:behindInMarks op b=false):PT X (.Compare a [op] [b] pos) (zod (tOp r ta tb)):=by
 intro ze s σ H Q I h;refine wpAny_isTrue_Compare1 (thn (ha ze s σ H _ I h) fun v s1 ⟨x,H1,I1,r1,q1⟩=>thn (hb ze s1 σ H1 _ I1 q1) fun u s2 ⟨y,H2,I2,r2,q2⟩ =>
  thn (ho ze s2 σ H2 x y v u _ I2 r1 r2 q2) fun c s3 ⟨z,H3,I3,r3,k,e,q3⟩=>?_) hm
 subst e;cases r3;exact wpAny_truthy_bool ⟨H3,I3,q3⟩
def zmk(r r':R2)(ta tb tc:TE):TE:=fun σ H Q=>ta σ H fun x H1=>tb σ H1 fun y H2=>r x y H2 fun z H3=>∃ k,z=.bl k /\
 (if k=true then tc σ H3 fun w' H4=>r' y w' H4 Q else Q (.bl false) H3)
theorem zgg{op op':CmpOp}{r r':R2}(ho:OpR X (compareOp op) r)(ho':OpR X (compareOp op') r')(ha:PE X a ta)(hb:PE X b tb)(hc:PE X c tc)
  (hm:lastMarks [op,op'] [b,c]=false:=by with_unfolding_all rfl):PE X (.Compare a [op,op'] [b,c] pos) (zmk r r' ta tb tc):=by
 intro ze s σ H Q I h;refine Compare_chain (thn (ha ze s σ H _ I h) fun v s1 ⟨x,H1,I1,r1,q1⟩=>chain_link (thn (hb ze s1 σ H1 _ I1 q1) fun u s2 ⟨y,H2,I2,r2,q2⟩ =>
  thn (ho ze s2 σ H2 x y v u _ I2 r1 r2 q2) fun d s3 ⟨z,H3,I3,r3,k,e,q3⟩=>?_)) hm
 subst e;cases r3;refine wpAny_truthy_bool ?_;cases k with
 | false=>exact ite_ff ⟨.bl false,H3,I3,rfl,q3⟩
 | true=>exact ite_tt (chain_last (thn (hc ze s3 σ H3 _ I3 q3) fun w' s4 ⟨z',H4,I4,r4,q4⟩=>ho' ze s4 σ H4 y z' u w' Q I4 r2 r4 q4))
def TruV(K:W.Frag)(x:V)(H:Hp)(k:Bool):Prop :=
 match x with
 | .non=>k=false
 | .bl b=>k=b
 | .int i=>k=(i != 0)
 | .str y=>y.length<=sizeLine/\k=((y.length:Int) != 0)
 | .byt y=>y.size<=sizeLine/\k=((y.size:Int) != 0)
 | .ref p=>(∃ xs,SqL K H p xs/\k = !xs.isEmpty)\/(∃ xs,SqT K H p xs/\k = !xs.isEmpty)\/∃ kvs,H p=some (.dK kvs)/\k = !kvs.isEmpty
 | _=>False
theorem zi2{κ:Type}{kvs:List (κ×V)}{vs:List (κ×Value)}(r:KV kvs vs):(!vs.isEmpty) = !kvs.isEmpty:=by
 cases r <;> rfl
theorem zfL{xs:List V}{its:List Value}(r:Vals xs its):(!its.toArray.isEmpty) = !xs.isEmpty:=by
 cases r <;> simp
theorem line63:(sizeLine:Nat)<2 ^ 63:=by rw [sizeLine_eq]; decide
theorem zpb:TruR X (fun x H Q=>∃ k,TruV X.K x H k/\Q k H):=by
 intro ze s σ H x v Q I rx h;obtain⟨k,e,q⟩:=h;have hl:=line63;have hs:sizeLine=16777216:=sizeLine_eq;cases x with
 | non =>
  cases rx;have e':k=false:=e;subst e';exact truthy_none ⟨H,I,q⟩
 | bl b =>
  cases rx;have e':k=b:=e;subst e';exact wpAny_truthy_bool ⟨H,I,q⟩
 | int i =>
  obtain⟨t,rfl⟩:=rx;have e':k=(i != 0):=e;subst e';exact PySem.P.truthy_int ⟨H,I,q⟩
 | str y =>
  obtain⟨t,rfl⟩:=rx;obtain⟨hy,e'⟩:y.length<=sizeLine/\k=((y.length:Int) != 0):=e;subst e';exact PySem.P.truthy_str (by omega) ⟨H,I.tok _,q⟩
 | byt y =>
  obtain⟨t,rfl⟩:=rx;obtain⟨hy,e'⟩:y.size<=sizeLine/\k=((y.size:Int) != 0):=e;subst e';exact W.truthy_bytes (by omega) ⟨H,I.tok _,q⟩
 | ref p =>
  cases rx;have e':(∃ xs,SqL X.K H p xs/\k = !xs.isEmpty)\/(∃ xs,SqT X.K H p xs/\k = !xs.isEmpty)\/∃ kvs,H p=some (.dK kvs)/\k = !kvs.isEmpty:=e;rcases e' with ⟨xs,hx,e'⟩ | ⟨xs,hx,e'⟩ | ⟨kvs,hx,e'⟩
  ·subst e';obtain⟨its,r,pl,hz⟩:=I.list hx;have hlen:=r.length;exact wpAny_truthy_list pl.isList (by simp only [size_toArray]; omega) ⟨H,I.tok _,by rw [zfL r]; exact q⟩
  ·subst e';obtain⟨its,r,pl,hz⟩:=I.tuple hx;have hlen:=r.length;exact truthy_tuple pl (by simp only [size_toArray]; omega) ⟨H,I.tok _,by rw [zfL r]; exact q⟩
  ·subst e';obtain⟨hz,hS,vs,r,m⟩:kvs.length<=sizeLine/\(p == sysModules)=false/\∃ vs,KV kvs vs/\s.heap.DictOf (zdM X.prog X.w) p vs:=I.hok p _ hx;have hlen:kvs.length=vs.length:=Paired.length r;exact wpAny_truthy_dict hS m (by omega) ⟨H,I.tok _,by rw [zi2 r]; exact q⟩
 | _=>exact(show False from e).elim
theorem zU(ha:PE X a ta)(he:∀ whole,isTrue a X.env whole=(do let v <- whole; standAt a.pos; holding [v] (truthy v))):
  PT X a (fun σ H Q=>ta σ H fun x H'=>∃ k,TruV X.K x H' k/\Q k H'):=by
 intro ze s σ H Q I h;exact isTrue_plain (thn (ha ze s σ H _ I h) fun v s1 ⟨x,H1,I1,r1,q1⟩=>zpb ze s1 σ H1 x v Q I1 r1 q1) (he _)
theorem zi8:OpR X (binaryOp .Add) (fun x y H Q=>∃ i j,x=.str i/\y=.str j/\i.length+j.length<=sizeLine/\Q (.str (i++j)) H):=by
 intro ze s σ H x y v u Q I rx ry h;obtain⟨i,j,rfl,rfl,hz,q⟩:=h;obtain⟨t,rfl⟩:=rx;obtain⟨t',rfl⟩:=ry;exact add_str (fun t' tk=>⟨.str (i++j),H,I.tok _,⟨_,rfl⟩,q⟩) hz
theorem vals1{x:V}{us:List Value}(r:Vals [x] us):∃ u,us=[u]/\RelV x u:=by
 cases r with
 | cons r1 r2=>cases r2; exact⟨_,rfl,r1⟩
theorem vals2{x y:V}{us:List Value}(r:Vals [x,y] us):∃ u w',us=[u,w']/\RelV x u/\RelV y w':=by
 cases r with
 | cons r1 r2 =>
  cases r2 with
  | cons r3 r4=>cases r4; exact⟨_,_,rfl,r1,r3⟩
theorem zmb:CallR X (.builtin "abs") (fun xs H Q=>∃ i,xs=[.int i]/\Q (.int (if i<0 then -i else i)) H):=by
 intro ze s σ H xs us Q I r h;obtain⟨i,rfl,q⟩:=h;obtain⟨u,rfl,t,rfl⟩:=vals1 r;exact call_abs_int fun u tk=>⟨.int (if i<0 then -i else i),H,I.tok _,⟨_,rfl⟩,q⟩
theorem zg1(hc:X.calm=true):CallR X (.builtin "max") (fun xs H Q=>∃ i j,xs=[.int i,.int j]/\Q (.int (if j>i then j else i)) H):=by
 intro ze s σ H xs us Q I r h;obtain⟨i,j,rfl,q⟩:=h;obtain⟨u,w',rfl,⟨t,rfl⟩,⟨t',rfl⟩⟩:=vals2 r;refine max_two_ints (I.ok.hd hc) fun h' tk k=>⟨_,H,I.kept k,?_,q⟩;by_cases hj:j>i
 ·rw [if_pos hj,if_pos hj]; exact⟨_,rfl⟩
 ·rw [if_neg hj,if_neg hj]; exact⟨_,rfl⟩
theorem zjN(hc:X.calm=true):CallR X (.builtin "min") (fun xs H Q=>∃ i j,xs=[.int i,.int j]/\Q (.int (if j<i then j else i)) H):=by
 intro ze s σ H xs us Q I r h;obtain⟨i,j,rfl,q⟩:=h;obtain⟨u,w',rfl,⟨t,rfl⟩,⟨t',rfl⟩⟩:=vals2 r;refine min_two_ints (I.ok.hd hc) fun h' tk k=>⟨_,H,I.kept k,?_,q⟩;by_cases hj:j<i
 ·rw [if_pos hj,if_pos hj]; exact⟨_,rfl⟩
 ·rw [if_neg hj,if_neg hj]; exact⟨_,rfl⟩
theorem zkl:CallR X (.type "int") (fun xs H Q=>(∃ i,xs=[.int i]/\Q (.int i) H)\/∃ k,xs=[.bl k]/\Q (.int (if k then 1 else 0)) H):=by
 intro ze s σ H xs us Q I r h;rcases h with ⟨i,rfl,q⟩ | ⟨k,rfl,q⟩
 ·obtain⟨u,rfl,t,rfl⟩:=vals1 r;exact call_int_int ⟨.int i,H,I,⟨_,rfl⟩,q⟩
 ·obtain⟨u,rfl,r1⟩:=vals1 r;cases r1;exact call_int_bool ⟨.int (if k then 1 else 0),H,I.tok _,⟨_,rfl⟩,q⟩
end
end
section
structure ObjM(h:Heap)(x dx C:Addr)(mA:Str->Option Value):Prop where
 obj:h.get? x=some (W.instObj C dx)
 ns:h.Ns1 dx mA
 ne:dx≠x
theorem zho{h:Heap}{dx:Addr}{mA:Str->Option Value}(n:h.Ns1 dx mA):∃ od,h.get? dx=some od/\∀ name,W.lookIn name od=some (mA name):=by
 obtain⟨o,es,ep,ho,hd,hk,_,hm⟩:=n;refine⟨o,ho,fun name=>?_⟩;have e:=hm name;unfold nsFind findBy at e;rw [<- Array.find?_toList] at e;unfold W.lookIn;rw [hd];dsimp only;split
 ·rename_i y q;rw [q] at e;exact congrArg some e
 ·rename_i q;rw [q] at e;have a:es.toList.any (·.refKey)=false:=by
   rw [List.any_eq_false];intro y hy;obtain⟨z,t,hkey⟩:=hk y (Array.mem_toList_iff.mp hy);simp [DictEntry.refKey,hkey]
  have a':¬ es.toList.any (·.refKey)=true:=by rw [a]; exact Bool.false_ne_true
  rw [if_neg a'];exact congrArg some e
theorem ObjM.look{h:Heap}{x dx C:Addr}{mA:Str->Option Value}(I:ObjM h x dx C mA):∃ od,W.InstAt h x (W.instObj C dx) C (some od)/\∀ name,W.lookIn name od=some (mA name) :=
 let ⟨od,ho,hl⟩:=zho I.ns
 ⟨od,⟨I.obj,rfl,rfl,ho⟩,hl⟩
def zjc(f:Str)(v:V):List (Str×V)->List (Str×V)
 | []=>[(f,v)]
 | (g,x) :: r=>if g=f then (g,v) :: r else (g,x) :: zjc f v r
theorem zdp(f g:Str)(v:V):∀ fs:List (Str×V),(zjc f v fs).lookup g=if g=f then some v else fs.lookup g
 | []=>by
  show List.lookup g [(f,v)]=_;by_cases h:g=f
  ·have hb:(g == f)=true:=beq_iff_eq.mpr h;simp only [List.lookup,hb,if_pos h]
  ·have hb:(g == f)=false:=beq_eq_false_iff_ne.mpr h;simp only [List.lookup,hb,if_neg h]
 | (k,x) :: r=>by
  have ih:=zdp f g v r;rw [show zjc f v ((k,x) :: r)=(if k=f then (k,v) :: r else (k,x) :: zjc f v r) from rfl];by_cases hk:k=f
  ·rw [if_pos hk];by_cases h:g=k
   ·have hb:(g == k)=true:=beq_iff_eq.mpr h;simp only [List.lookup,hb,if_pos (h.trans hk)]
   ·have hb:(g == k)=false:=beq_eq_false_iff_ne.mpr h;simp only [List.lookup,hb,if_neg (fun e:g=f=>h (e.trans hk.symm))]
  ·rw [if_neg hk];by_cases h:g=k
   ·have hb:(g == k)=true:=beq_iff_eq.mpr h;simp only [List.lookup,hb,if_neg (fun e:g=f=>hk (h.symm.trans e))]
   ·have hb:(g == k)=false:=beq_eq_false_iff_ne.mpr h;simp only [List.lookup,hb];exact ih
theorem zeZ(f:Str)(v:V):∀ fs:List (Str×V),f∈(zjc f v fs).map (·.1)/\∀ g,g∈fs.map (·.1)->g∈(zjc f v fs).map (·.1)
 | []=>⟨by simp [zjc],fun g h=>by simp at h⟩
 | (k,x) :: r=>by
  obtain⟨i1,i2⟩:=zeZ f v r;rw [show zjc f v ((k,x) :: r)=(if k=f then (k,v) :: r else (k,x) :: zjc f v r) from rfl];by_cases hk:k=f
  ·rw [if_pos hk];subst hk;exact⟨by simp,fun g h=>by simpa using h⟩
  ·rw [if_neg hk];refine⟨?_,fun g h=>?_⟩
   ·rw [map_cons];exact mem_cons_of_mem _ i1
   ·rw [map_cons] at h ⊢;rcases mem_cons.mp h with e | e
    ·exact mem_cons.mpr (.inl e)
    ·exact mem_cons_of_mem _ (i2 g e)
theorem zk5{v:V}{u:Value}(r:RelV v u):W.handedIn u=true:=by
 cases v with
 | non=>cases (show u=Value.none from r); rfl
 | bl b=>cases (show u=Value.bool b from r); rfl
 | int i=>obtain⟨t,e⟩:=(show ∃ t,u=Value.int i t from r); cases e; rfl
 | str x=>obtain⟨t,e⟩:=(show ∃ t,u=Value.str x t from r); cases e; rfl
 | byt b=>obtain⟨t,e⟩:=(show ∃ t,u=Value.bytes b t from r); cases e; rfl
 | flt b=>obtain⟨t,e⟩:=(show ∃ t,u=Value.float b t from r); cases e; rfl
 | ref a=>cases (show u=Value.ref a from r); rfl
 | ty n=>cases (show u=Value.type n from r); rfl
section
variable {P:Program} {w:World} {H H':Hp} {h h':Heap} {a C dx:Addr} {fs fs':List (Str×V)}
theorem zoj(hok:HOk P w H h)(e:H a=some (.ins C dx fs)):∃ mA,ObjM h a dx C mA/\(∀ f,RelO (fs.lookup f) (mA f))/\PySem.Within mA (fs.map (·.1))/\fs.length<=1000/\H dx=some (.own a):=by
 obtain⟨d,z,ne,ob,mA,n,r,q⟩:=(show ObjOk P w H h a (.ins C dx fs) from hok a _ e);exact⟨mA,⟨ob,n,ne⟩,r,q,z,d⟩
end
structure Cls(K:W.Frag)(C:Addr):Prop where
 pg:W.plainGet K C Str.empty=true
 hd:W.hasDictIn K C=true
 po:W.plainOver K C=true
 sa:W.findIn K (.ref C) "__setattr__" = some (some (.builtin "object.__setattr__"))
theorem Cls.get{K:W.Frag}{C:Addr}(c:Cls K C)(f:Str):W.plainGet K C f=true:=c.pg
def NoAttr(K:W.Frag)(C:Addr)(f:Str):Prop:=W.findIn K (.ref C) f=some none
section
variable {X:Cx} {ze:List (Addr×Obj)} {σ:St} {H:Hp} {s:Shared} {a C dx:Addr} {fs:List (Str×V)} {f:Str} {v:V} {A:Around} {E:Value->Shared->Prop}
theorem znE{prog:Program}{w:World}{env:Env}{e:Expr}{f:Str}{pos:Pos}{s:Shared}{Q:Value->Shared->Prop}(hb:attributeBase e f env (eval e env)=eval e env)
  (h:wpAny (model prog w) A (eval e env) (fun o s₁=>wpAny (model prog w) A (getAttr o f true) Q E s₁) E s):wpAny (model prog w) A (eval (.Attribute e f pos) env) Q E s :=
 Attribute_any_ h (by rw [arm_eval_Attribute,hb])
end
section
variable {X:Cx} {ze:List (Addr×Obj)} {σ:St} {H:Hp} {s:Shared} {A:Around} {E:Value->Shared->Prop} {Q:Value->Shared->Prop} {c:Value} {b:Bool}
inductive TyOf (K:W.Frag) (H:Hp):V->Value->Prop where
 | non:TyOf K H .non (.type "NoneType")
 | bl (x:Bool):TyOf K H (.bl x) (.type "bool")
 | int (i:Int):TyOf K H (.int i) (.type "int")
 | str (x:Str):TyOf K H (.str x) (.type "str")
 | flt (x:UInt64):TyOf K H (.flt x) (.type "float")
 | lst {a:Addr} {xs:List V} (e:H a=some (.lst xs)):TyOf K H (.ref a) (.type "list")
 | frz {a:Addr} {o:Obj} {xs:List V} (e:H a=some (.frz o (.lst xs))):TyOf K H (.ref a) (.type "list")
 | tup {a:Addr} {xs:List V} (e:H a=some (.tup xs)):TyOf K H (.ref a) (.type "tuple")
 | dK {a:Addr} {kvs:List (Key×V)} (e:Rd H a (.dK kvs)):TyOf K H (.ref a) (.type "dict")
 | dT {a:Addr} {kvs:List (List Key×V)} (e:Rd H a (.dT kvs)):TyOf K H (.ref a) (.type "dict")
 | ins {a C dx:Addr} {fs:List (Str×V)} (e:H a=some (.ins C dx fs)) (cl:Cls K C) (ha:W.findIn K (.ref C) "__class__" = some (some (.builtin "object.__class__")))
   (hn:W.specialIn K (.builtin "object.__class__") "__get__" = some (some (.builtin "getset_descriptor.__get__"))) (htk:W.takesIn K (.builtin "object.__class__")=some true)
   (hm:W.mroIn K C (.type "object")=some true):TyOf K H (.ref a) (.ref C)
theorem zkp{x:V}{u t:Value}(I:Inv X ze σ H s)(rx:RelV x u)(ty:TyOf X.K H x t)(e:W.kitOne X.K t c=some b)(h:∀ tk,Q (.bool b) { s with toks:=tk }):
  wpAny (model X.prog X.w) A (call (.builtin "isinstance") [u,c]) Q E s:=by
 cases ty with
 | non=>cases (show u=Value.none from rx); exact W.kia_one W.kitx_none I.kIn True.intro e (fun z=>nomatch z) h
 | bl y=>cases (show u=Value.bool y from rx); exact W.kia_one W.kitx_bool I.kIn True.intro e (fun z=>nomatch z) h
 | int i=>obtain⟨t,q⟩:=(show ∃ t,u=Value.int i t from rx); cases q; exact W.kia_one W.kitx_int I.kIn True.intro e (fun z=>nomatch z) h
 | str y=>obtain⟨t,q⟩:=(show ∃ t,u=Value.str y t from rx); cases q; exact W.kia_one W.kitx_str I.kIn True.intro e (fun z=>nomatch z) h
 | flt y=>obtain⟨t,q⟩:=(show ∃ t,u=Value.float y t from rx); cases q; exact W.kia_one W.kitx_float I.kIn True.intro e (fun z=>nomatch z) h
 | @lst a xs ea =>
  cases (show u=Value.ref a from rx);obtain⟨_,_,n,_,h1⟩:=(show ObjOk X.prog X.w H s.heap a (.lst xs) from I.hok a _ ea);exact W.kia_one W.kitx_list I.kIn ⟨_,h1,rfl⟩ e (fun z=>nomatch z) h
 | @frz a ob xs ea =>
  cases (show u=Value.ref a from rx);obtain⟨_,_,_,n,_,h1⟩:=(show ObjOk X.prog X.w H s.heap a (.frz ob (.lst xs)) from I.hok a _ ea);exact W.kia_one W.kitx_list I.kIn ⟨_,h1,rfl⟩ e (fun z=>nomatch z) h
 | @tup a xs ea =>
  cases (show u=Value.ref a from rx);obtain⟨_,_,_,p⟩:=(show ObjOk X.prog X.w H s.heap a (.tup xs) from I.hok a _ ea);obtain⟨o,h1,h2,_⟩:=p;exact W.kia_one W.kitx_tuple I.kIn ⟨o,h1,h2⟩ e (fun z=>nomatch z) h
 | @dK a kvs ea =>
  cases (show u=Value.ref a from rx);obtain⟨_,_,vs,_,p⟩:=(show ObjOk X.prog X.w H s.heap a (.dK kvs) from ea.ok I.hok);obtain⟨o,es,ep,h1,h2,_⟩:=p;exact W.kia_one W.kitx_dict I.kIn ⟨o,h1,h2.1⟩ e (fun z=>nomatch z) h
 | @dT a kvs ea =>
  cases (show u=Value.ref a from rx);obtain⟨_,_,xs,_,o,es,ep,h1,h2,_⟩:=(show ObjOk X.prog X.w H s.heap a (.dT kvs) from ea.ok I.hok);exact W.kia_one W.kitx_dict I.kIn ⟨o,h1,h2.1⟩ e (fun z=>nomatch z) h
 | @ins a C dx fs ea cl ha hn htk hm =>
  cases (show u=Value.ref a from rx);obtain⟨mA,O,_⟩:=zoj I.hok ea;obtain⟨od,J,_⟩:=O.look;exact W.kia_one (W.kitx_own (cl.get _) cl.hd ha hn htk hm) I.kIn J e (fun z=>nomatch z) h
end
end
section
structure Room(k:Nat)(A:Around):Prop where
 hd:A.handled=none
 dp:A.depth+3*k+5<recursionLimit
 un:A.units+16*k+200<cLine
theorem Room.mono{j k:Nat}{A:Around}(r:Room k A)(h:j<=k):Room j A:=⟨r.hd,by have:=r.dp; omega,by have:=r.un; omega⟩
theorem Room.deeper{k:Nat}{A:Around}(r:Room (k+1) A)(env:Env):Room k (A.deeper env) :=
 ⟨r.hd,by have:=r.dp; show A.depth+1+3*k+5<_; omega,by have:=r.un; show A.units+3+16*k+200<_; omega⟩
theorem zjh{A:Around}{C:Addr}{us:List Value}{kw:List (Str×Value)}:(A.under (.builtin "type.__call__" ⟨.ref C :: us,kw⟩)).depth=A.depth+1:=by
 first | rfl | simp [Around.under,Code.weight,Code.isCreation,Code.isGuard,Code.isCaller,Code.frames,Code.isFrame,guardIds]
theorem zjn{A:Around}{C:Addr}{us:List Value}{kw:List (Str×Value)}:(A.under (.builtin "type.__call__" ⟨.ref C :: us,kw⟩)).units=A.units+1:=by
 first | rfl | simp [Around.under,Code.cUnits,Code.frames,Code.isFrame]
theorem Room.make{k:Nat}{A:Around}(r:Room (k+1) A)(C:Addr)(us:List Value)(kw:List (Str×Value)):Room k (A.under (.builtin "type.__call__" ⟨.ref C :: us,kw⟩)) :=
 ⟨r.hd,by have:=r.dp; rw [zjh]; omega,by have:=r.un; rw [zjn]; omega⟩
theorem Room.depth{k:Nat}{A:Around}(r:Room k A):A.depth<recursionLimit:=by have:=r.dp; omega
theorem Room.units{k:Nat}{A:Around}(r:Room k A):A.units+64<cLine:=by have:=r.un; omega
def zns:TA:=fun _ H Q=>Q [] H
def zdt(ta:TE)(tr:TA):TA:=fun σ H Q=>ta σ H fun x H1=>tr σ H1 fun xs H2=>Q (x :: xs) H2
section
variable {X:Cx} {e:Expr} {es:List Expr} {te:TE} {t:TA} {pos:Pos}
theorem zc:PA X [] zns:=fun _ _ _ _ H Q I h=>Calls.spliced_nil ⟨[],H,I,.nil,h⟩
theorem za(ha:PE X e te)(hr:PA X es t)(hs:starEach (e :: es) X.env=(false,eval e X.env) :: starEach es X.env:=by rfl):PA X (e :: es) (zdt te t):=by
 intro pos ze s σ H Q I h;rw [hs];show wpAny _ _ (spliced ((false,eval e X.env) :: backTo pos (starEach es X.env))) _ _ s;refine Calls.spliced_cons (thn (ha ze s σ H _ I h) fun u s1 ⟨x,H1,I1,r1,q1⟩=>?_);exact thn (hr pos ze s1 σ H1 _ I1 q1) fun us s2 ⟨xs,H2,I2,r2,q2⟩=>⟨x :: xs,H2,I2,.cons r1 r2,q2⟩
def zq0(t:TA):TE:=fun σ H Q=>t σ H fun xs H1=>xs.length<=sizeLine/\∀ p,H1 p=none->Q (.ref p) (upd H1 p (.tup xs))
def znM(t:TA):TE:=fun σ H Q=>t σ H fun xs H1=>xs.length<=sizeLine/\∀ p,H1 p=none->Q (.ref p) (upd H1 p (.lst xs))
theorem zaS{x1}(h:PA X es t):PE X (.Tuple es x1 pos) (zq0 t):=by
 intro ze s σ H Q I hq;refine wpAny_Tuple_spliced (thn (h pos ze s σ H _ I hq) fun us s1 ⟨xs,H1,I1,r,z,q⟩=>⟨by rw [<- r.length]; exact z,?_⟩);have hf:H1 s1.heap.objs.size=none:=I1.hok.fresh (le_refl _);refine⟨.ref s1.heap.objs.size,upd H1 s1.heap.objs.size (.tup xs),I1.laid (t':=s1.toks) (fun b u e=>get?_push_of_some _ e) (le_refl _) ?_,rfl,q _ hf⟩;exact⟨⟨z,_,get?_push_size _ rfl,rfl⟩,us,r,⟨_,get?_push_size _ rfl,rfl,_,rfl⟩⟩
theorem zbf(h:PA X es t):PE X (.List es pos) (znM t):=by
 intro ze s σ H Q I hq;refine wpAny_List_spliced (thn (h pos ze s σ H _ I hq) fun us s1 ⟨xs,H1,I1,r,z,q⟩=>⟨by rw [<- r.length]; exact z,?_⟩);have hf:H1 s1.heap.objs.size=none:=I1.hok.fresh (le_refl _);refine⟨.ref s1.heap.objs.size,upd H1 s1.heap.objs.size (.lst xs),I1.laid (t':=s1.toks) (fun b u e=>get?_push_of_some _ e) (le_refl _) ?_,rfl,q _ hf⟩;exact⟨z,us,0,r,get?_push_size _ rfl⟩
end
abbrev Sp:=List V->Hp->VK->XK->Prop
abbrev CXT:=List Env->Hp->Shared->XK->Value->Shared->Prop
structure Env0(P:Program)(w:World)(K:W.Frag)(mg:Str->Option Value)(base:Heap)(A:Around)(outer:List Env)(s:Shared)(H:Hp):Prop where
 frames:A.frames=some outer
 mod:Mod K mg base
 bs:∀ b o,base.get? b=some o->s.heap.get? b=some o/\H b=none
 bsz:base.objs.size<=s.heap.objs.size
 funs:s.heap.FunFrames base outer
 frf:Frf (frs outer) H
 hok:HOk P w H s.heap
 bare:AllBare s.gens
def CE(outer:List Env)(P:Program)(w:World)(H:Hp)(s:Shared)(Q:VK)(u:Value)(s':Shared):Prop :=
 ∃ v H',s'.os=s.os/\AllBare s'.gens/\Un (frs outer) [] H H' s.heap s'.heap/\HOk P w H' s'.heap/\RelV v u/\Q v H'
def CR(CX:CXT)(outer:List Env)(P:Program)(w:World)(H:Hp)(s:Shared)(Q:VK)(E:XK)(r:Result)(s':Shared):Prop :=
 match r with
 | .ok (.ret u)=>CE outer P w H s Q u s'
 | .ok _=>False
 | .error e=>CX outer H s E e s'
structure FnOk(P:Program)(w:World)(K:W.Frag)(mg:Str->Option Value)(base:Heap)(CX:CXT)(k:Nat)(f:Addr)(fd:FuncData)(ps:List Str)(sp:Sp):Prop where
 len:∀ vs H Q E,sp vs H Q E->vs.length=ps.length
 run:∀ (A:Around) (outer:List Env) (s:Shared) (H:Hp) (args:Args) (us:List Value) (vs:List V) (Q:VK) (E:XK),Room k A->Env0 P w K mg base A outer s H->BindsTo s fd args (ps.zip us)->Vals vs us->sp vs H Q E ->
  codeAny (model P w) A (.call (.ref f) args) (CR CX outer P w H s Q E) s
theorem Env0.make{P:Program}{w:World}{K:W.Frag}{mg:Str->Option Value}{base:Heap}{A:Around}{outer:List Env}{s:Shared}{H:Hp}(e:Env0 P w K mg base A outer s H)(C:Addr)(us:List Value)(kw:List (Str×Value)):
  Env0 P w K mg base (A.under (.builtin "type.__call__" ⟨.ref C :: us,kw⟩)) outer s H:=⟨by first | exact e.frames | (simpa [Around.under,Code.envs,Code.isFrame,pushEnvs] using e.frames),e.mod,e.bs,e.bsz,e.funs,e.frf,e.hok,e.bare⟩
section
variable {X:Cx} {ze:List (Addr×Obj)} {σ:St} {H:Hp} {s s':Shared}
theorem Inv.env0(I:Inv X ze σ H s):Env0 X.prog X.w X.K X.mg X.base X.A X.stack s H :=
 ⟨I.ok.frames,I.ok.mod,I.bs,le_trans I.ok.bsz I.sz,I.stack,I.stkFree,I.hok,I.bare⟩
theorem Inv.after{Q:VK}{u:Value}(I:Inv X ze σ H s)(h:CE X.stack X.prog X.w H s Q u s'):EP X ze σ Q u s':=by
 obtain⟨v,H',os,bare,un,hok,r,q⟩:=h;obtain⟨hh,g,d,t,os'⟩:=s';obtain rfl:os'=s.os:=os;exact⟨v,H',I.call (h':=hh) (g':=g) (d':=d) (t':=t) (ch:=[]) un hok bare (fun b z=>absurd z (by simp)),r,q⟩
end
def zgN(sp:Sp)(dvs:List V)(E:XK)(t:TA):TE:=fun σ H Q=>t σ H fun vs H1=>sp (vs++dvs) H1 Q E
def Binds(K:W.Frag)(fd:FuncData)(ps:List Str)(ds:List Value):Prop :=
 ∀ (s:Shared) (us:List Value),K.In s.heap->(us++ds).length=ps.length->BindsTo s fd ⟨us,[]⟩ (ps.zip (us++ds))
theorem Binds.all{K:W.Frag}{fd:FuncData}{ps:List Str}(h:∀ us:List Value,us.length=ps.length->bindArgs fd ⟨us,[]⟩=pure (ps.zip us)):Binds K fd ps []:=fun s us _ hl=>by
 rw [append_nil] at hl ⊢;exact .of_eq (h us hl)
def Passes(CX:CXT)(X:Cx)(E:XK):Prop:=∀ (ze:List (Addr×Obj)) (σ:St) (H:Hp) (s:Shared) (e:Value) (s':Shared),Inv X ze σ H s->CX X.stack H s E e s'->X.xe e s'
section
variable {X:Cx} {CX:CXT} {k:Nat} {f C:Addr} {fd:FuncData} {ps:List Str} {sp:Sp} {dvs:List V} {ds:List Value} {E:XK} {x m:Str} {p pos apos:Pos} {e o:Expr} {es:List Expr} {ta:TE} {t:TA}
theorem zph{ze:List (Addr×Obj)}{σ:St}{H:Hp}{s:Shared}{Q:VK}{us:List Value}{vs:List V}(F:FnOk X.prog X.w X.K X.mg X.base CX k f fd ps sp)(hr:Room k X.A)(hb:Binds X.K fd ps ds)(hd:Vals dvs ds)(hx:Passes CX X E)
  (I:Inv X ze σ H s) (r:Vals vs us) (h:sp (vs++dvs) H Q E):wpAny (model X.prog X.w) X.A (call (.ref f) us) (EP X ze σ Q) X.xe s:=by
 have r2:Vals (vs++dvs) (us++ds):=r.append hd;have hl:(us++ds).length=ps.length:=by rw [<- r2.length]; exact F.len _ _ _ _ h
 refine wpAny_call (codeAny_mono (F.run X.A X.stack s H ⟨us,[]⟩ (us++ds) (vs++dvs) Q E hr I.env0 (hb s us I.kIn hl) r2 h) fun r s' hq=>?_);cases r with
 | error e=>exact hx ze σ H s e s' I hq
 | ok fl =>
  cases fl with
  | ret u=>exact I.after hq
  | next=>exact False.elim hq
  | brk=>exact False.elim hq
  | cont=>exact False.elim hq
theorem zkQ(F:FnOk X.prog X.w X.K X.mg X.base CX k f fd ps sp)(hr:Room k X.A)(hg:Gl X x)(hm:X.mg x=some (.ref f))(hk:W.keepIn X.K (.ref f)=true)(hb:Binds X.K fd ps ds)(hd:Vals dvs ds)(hx:Passes CX X E)
  (ha:PA X (e :: es) t) (hdb:(x == ("__debug__":Str))=false:=by decide) (he:starEach (e :: es) X.env=(false,eval e X.env) :: starEach es X.env:=by rfl) (hpl:(backTo pos (starEach es X.env)).any (·.1)=false:=by rfl) :
  PE X (.Call (.Name x p) (e :: es) [] pos) (zgN sp dvs E t):=by
 intro ze s σ H Q I h;refine wpAny_Call_Name_kw (zdU I hg hm ?_ hdb);refine W.callWith_K (h₀:=X.base) I.ok.mod.kin hk (thn (ha pos ze s σ H _ I h) fun us s1 ⟨vs,H1,I1,r,q⟩=>⟨I1.kIn,?_⟩) he hpl;exact zph F hr hb hd hx I1 r q
end
structure FnScope(N P:List Str)(sc:Scope):Prop where
 kind:sc.kind=.function
 co:sc.isCoroutine=false
 gen:sc.isGenerator=false
 nd:N.Nodup
 pre:N.take P.length=P
 par:∀ x∈P,sc.names.lookup x=some .local\/sc.names.lookup x=some .cell
 nofree:∀ y∈sc.names,y.2≠.free
theorem zg8{kindOf:Str->Option NameKind}{x:Str}:∀ {binds:List (Str×Value)} {m:Str->Option Value},(∀ v,(x,v)∉binds)->bindL kindOf binds m x=m x
 | [],_,_=>rfl
 | (n,v) :: r,m,h=>by
  unfold bindL;rw [zg8 fun w hw=>h w (mem_cons_of_mem _ hw)];split
  ·have:x≠n:=by rintro rfl; exact h v mem_cons_self
   simp [this]
  ·rfl
theorem zgK{kindOf:Str->Option NameKind}{x:Str}:∀ {binds:List (Str×Value)} {m:Str->Option Value},(∀ v,(x,v)∉binds)->bindC kindOf binds m x=m x
 | [],_,_=>rfl
 | (n,v) :: r,m,h=>by
  unfold bindC;rw [zgK fun w hw=>h w (mem_cons_of_mem _ hw)];split
  ·rfl
  ·have:x≠n:=by rintro rfl; exact h v mem_cons_self
   simp [this]
theorem zgF{kindOf:Str->Option NameKind}{x:Str}{v:Value}:∀ {P:List Str} {vs:List Value} {i:Nat} {m:Str->Option Value},P.Nodup->P[i]? = some x->vs[i]? = some v->kindOf x=some .local ->
  bindL kindOf (P.zip vs) m x=some v
 | [],_,_,_,_,h,_,_=>by simp at h
 | _ :: _,[],_,_,_,_,h,_=>by simp at h
 | p :: P,w :: vs,0,m,nd,h1,h2,hk=>by
  simp at h1 h2; subst h1; subst h2;show bindL kindOf ((p,w) :: P.zip vs) m p=_;unfold bindL;rw [zg8 fun v hv=>(nodup_cons.mp nd).1 (of_mem_zip hv).1,if_pos hk];simp
 | p :: P,w :: vs,i+1,m,nd,h1,h2,hk=>by
  show bindL kindOf ((p,w) :: P.zip vs) m x=_;unfold bindL;exact zgF (i:=i) (nodup_cons.mp nd).2 (by simpa using h1) (by simpa using h2) hk
theorem zhi{kindOf:Str->Option NameKind}{x:Str}{v:Value}:∀ {P:List Str} {vs:List Value} {i:Nat} {m:Str->Option Value},P.Nodup->P[i]? = some x->vs[i]? = some v->kindOf x≠some .local ->
  bindC kindOf (P.zip vs) m x=some v
 | [],_,_,_,_,h,_,_=>by simp at h
 | _ :: _,[],_,_,_,_,h,_=>by simp at h
 | p :: P,w :: vs,0,m,nd,h1,h2,hk=>by
  simp at h1 h2; subst h1; subst h2;show bindC kindOf ((p,w) :: P.zip vs) m p=_;unfold bindC;rw [zgK fun v hv=>(nodup_cons.mp nd).1 (of_mem_zip hv).1,if_neg hk];simp
 | p :: P,w :: vs,i+1,m,nd,h1,h2,hk=>by
  show bindC kindOf ((p,w) :: P.zip vs) m x=_;unfold bindC;exact zhi (i:=i) (nodup_cons.mp nd).2 (by simpa using h1) (by simpa using h2) hk
def start(N:List Str)(vs:List V):St:=vs.map some++List.replicate (N.length - vs.length) none
def zfE(CX:CXT)(P:Program)(w:World)(K:W.Frag)(mg:Str->Option Value)(base:Heap)(N:List Str)(qual:Str)(scope:Scope)(f:Addr)(cd:Value)(A:Around)(outer:List Env)(s:Shared)(H:Hp)(E:XK):Cx where
 prog:=P
 w:=w
 K:=K
 mg:=mg
 base:=base
 A:=A.deeper (envOfC qual scope s.heap.objs.size f cd)
 N:=N
 s₀:=s
 H₀:=H
 env:=envOfC qual scope s.heap.objs.size f cd
 outer:=outer
 stack:=envOfC qual scope s.heap.objs.size f cd :: outer
 ex:=[]
 calm:=true
 fn:=fun _=>true
 pn:=[]
 xe:=fun e s'=>wpAny (model P w) (A.deeper (envOfC qual scope s.heap.objs.size f cd)) (leaving (envOfC qual scope s.heap.objs.size f cd) e) (fun _ s''=>CX outer H s E e s'') (fun e' s''=>CX outer H s E e' s'') s'
theorem ziU{sc:Scope}{n:Nat}{x:Str}(h:sc.names.lookup x=some .cell):∃ c,(cellsFrom n sc.names []).lookup x=some c:=by
 have q:=W.cellsFrom_some sc.names n [] (.inl h);exact isSome_iff_exists.mp q
theorem zeJ{CX:CXT}{P:Program}{w:World}{K:W.Frag}{mg:Str->Option Value}{base:Heap}{N ps:List Str}{qual:Str}{scope:Scope}{f:Addr}{cd:Value}{A:Around}{outer:List Env}{s s1:Shared}{H:Hp}{E:XK}{us:List Value}{vs:List V}
  (S:FnScope N ps scope) (hd:A.handled=none) (e0:Env0 P w K mg base A outer s H) (hl:vs.length=ps.length) (r:Vals vs us)
  (x:InCallC s s.heap.objs.size (bindL (envOfC qual scope s.heap.objs.size f cd).kindOf (ps.zip us) fun _=>none) (cellsFrom (s.heap.objs.size+1) scope.names []) (bindC (envOfC qual scope s.heap.objs.size f cd).kindOf (ps.zip us) fun _=>none) s1) :
  Inv (zfE CX P w K mg base N qual scope f cd A outer s H E) [] (start N vs) H s1:=by
 have hpl:ps.length<=N.length:=by have:=congrArg List.length S.pre; rw [length_take] at this; omega
 obtain⟨h1,tk,rfl,hk⟩:=x.done;have noA:∀ b:Addr,b∉(zfE CX P w K mg base N qual scope f cd A outer s H E).ex:=fun b z=>absurd (show b∈([]:List Addr) from z) (by simp);refine⟨⟨e0.mod,S.kind,rfl,rfl,le_refl _,fun y z c h1 h2=>?_,fun y hy=>?_,fun y c _ h=>?_,fun _=>hd,Around.frames_deeper e0.frames,.inr ⟨rfl,rfl⟩,fun b z=>absurd z (noA b),e0.bs,e0.bsz,fun b _ _=>noA b,fun b z=>absurd z (noA b),e0.funs,e0.frf⟩,
  rfl,e0.bare,Un.kept hk,⟨_,x.toInCall.ns,fun i y v h1 h2 h3=>?_⟩,fun y c h=>⟨_,x.cell y c h⟩,e0.hok.fresh (le_refl _),fun y c h=>?_,fun p hp=>absurd (show p∈([]:List (Addr×Obj)) from hp) (by simp),e0.hok.kept hk,?_⟩
 ·exact name_of_addr x.apart (PySem.mem_of_lookup h1) (PySem.mem_of_lookup h2)
 ·have hy:scope.names.lookup y=some .cell\/scope.names.lookup y=some .free:=hy;rcases hy with hy | hy
  ·exact ziU hy
  ·exact absurd rfl (S.nofree _ (PySem.mem_of_lookup hy))
 ·exact le_of_lt (x.above y c (PySem.mem_of_lookup h))
 ·have hi:i<vs.length:=by
   unfold start at h2;by_cases hi:i<vs.length
   ·exact hi
   ·rw [getElem?_append_right (by simpa using hi)] at h2;rw [getElem?_replicate] at h2;split at h2 <;> cases h2
  have ha:vs[i]? = some v:=by
   unfold start at h2;rw [getElem?_append_left (by simpa using hi),getElem?_map] at h2;cases e:vs[i]? with
   | none=>rw [e] at h2; cases h2
   | some a=>rw [e] at h2; cases h2; rfl
  obtain⟨u,hu,rv⟩:=r.get ha;have hp:ps[i]? = some y:=by
   rw [<- S.pre,List.getElem?_take_of_lt (by omega)]; exact h1
  have ndP:ps.Nodup:=by rw [<- S.pre]; exact S.nd.sublist (List.take_sublist _ _)
  refine⟨u,rv,?_⟩;rcases S.par y (mem_of_getElem? hp) with k | k
  ·exact .inl ⟨k,zgF ndP hp hu k⟩
  ·obtain⟨c,e⟩:=ziU (n:=s.heap.objs.size+1) k;refine .inr ⟨.inl k,c,e,?_⟩;have q:=x.cell y c e;rw [zhi ndP hp hu (by show scope.names.lookup y≠_; rw [k]; decide)] at q;exact q
 ·exact e0.hok.fresh (le_of_lt (x.above y c (PySem.mem_of_lookup h)))
 ·unfold start;show _=N.length;rw [length_append,length_map,List.length_replicate];omega
theorem zpP{CX:CXT}{P:Program}{w:World}{K:W.Frag}{mg:Str->Option Value}{base:Heap}{k:Nat}{f:Addr}{name qual:Str}{params:Arguments}{body:List Stmt}{scope:Scope}{dV kV doc pm cdv ct oc:Value}{an od:Option Addr}
  {osl:Array (Option Value)} {N ps:List Str} {sp:Sp} (lk:K.lookup f=some ⟨oc,od,.func (W.fnOf name qual params body scope dV kV doc pm an cdv ct),osl⟩) (hcd:W.codeIn K cdv qual=true) (S:FnScope N ps scope)
  (len:∀ vs H Q E,sp vs H Q E->vs.length=ps.length)
  (hbody:∀ (A:Around) (outer:List Env) (s:Shared) (H:Hp) (vs:List V) (Q:VK) (E:XK),Room k (A.deeper (envOfC qual scope s.heap.objs.size f cdv))->sp vs H Q E ->
   ∃ t,PSs (zfE CX P w K mg base N qual scope f cdv A outer s H E) body t/\t { nx:=fun _ H'=>Q .non H',rt:=Q } (start N vs) H) :
  FnOk P w K mg base CX (k+1) f (W.fnOf name qual params body scope dV kV doc pm an cdv ct) ps sp:=by
 refine⟨len,fun A outer s H args us vs Q E hr e0 hb r hsp=>?_⟩;have hl:=len _ _ _ _ hsp;have KX:K.In s.heap:=e0.mod.kin.keeps fun b o e=>(e0.bs b o e).1;have lim:s.heap.NoLimit:=e0.mod.nolimit.keeps fun b o e=>(e0.bs b o e).1;have hkind:∀ y∈ps.zip us,scope.names.lookup y.1=some .local\/(scope.names.lookup y.1=some .cell/\((cellsFrom (s.heap.objs.size+1) scope.names []).lookup y.1).isSome=true):=fun⟨n,v⟩ hy=>by
  rcases S.par n (of_mem_zip hy).1 with q | q
  ·exact .inl q
  ·exact .inr ⟨q,W.cellsFrom_some _ _ _ (.inl q)⟩
 refine codeAny_call_function hr.depth (KX _ _ lk) rfl S.co S.gen rfl (W.codeRec_of KX hcd) (hb _ _ _ _ ?_);refine wpAny_newFunctionEnv_cells S.kind hkind fun env he s1 x=>?_;subst he;refine⟨lim.keeps x.toInCall.keep,codeAny_func ?_⟩;obtain⟨t,ht,hq⟩:=hbody A outer s H vs Q E (hr.deeper _) hsp;have I:Inv (zfE CX P w K mg base N qual scope f cdv A outer s H E) [] (start N vs) H s1:=zeJ S hr.hd e0 hl r x;refine wpAny_mono (ht [] s1 (start N vs) H _ I hq) (fun fl s' hs=>?_) fun e s' hs=>hs;have fin:∀ {σ':St} {H':Hp} {v:V} {u:Value},Inv (zfE CX P w K mg base N qual scope f cdv A outer s H E) [] σ' H' s'->RelV v u->Q v H'->CE outer P w H s Q u s' :=
  fun {σ' H' v u} J rv q=>⟨v,H',J.os,J.bare,J.base,J.hok,rv,q⟩
 cases fl with
 | ret u =>
  obtain⟨v,σ',H',J,rv,q⟩:=hs;exact fin J rv q
 | next =>
  obtain⟨σ',H',J,q⟩:=hs;exact fin (v:=V.non) (u:=Value.none) J rfl q
 | brk =>
  obtain⟨_,_,_,q⟩:=hs;exact False.elim q
 | cont =>
  obtain⟨_,_,_,q⟩:=hs;exact False.elim q
end
section
section
variable {X:Cx} {x:Str} {p pos:Pos} {e:Expr} {es:List Expr} {t:TA} {id T:String} {r:List V->Hp->VK->Prop}
def tCB(r:List V->Hp->VK->Prop)(t:TA):TE:=fun σ H Q=>t σ H fun vs H1=>r vs H1 Q
theorem zj(hc:CallR X (.builtin id) r)(hg:Gl X x)(hm:X.mg x=none)(hv:bootBuiltins x=some (.builtin id))(ha:PA X (e :: es) t)(hn:x ≠ "__name__":=by decide)(hdb:(x == ("__debug__":Str))=false:=by decide)
  (he:starEach (e :: es) X.env=(false,eval e X.env) :: starEach es X.env:=by rfl) (hpl:(backTo pos (starEach es X.env)).any (·.1)=false:=by rfl):PE X (.Call (.Name x p) (e :: es) [] pos) (tCB r t):=by
 intro ze s σ H Q I h;refine wpAny_Call_Name_kw (zfH I hg hm hv ?_ hn hdb);exact PyProof.Rows.callWith_builtin1 (thn (ha pos ze s σ H _ I h) fun us s1 ⟨vs,H1,I1,r1,q1⟩=>hc ze s1 σ H1 vs us Q I1 r1 q1) he hpl
theorem zW(hc:CallR X (.type T) r)(hg:Gl X x)(hm:X.mg x=none)(hv:bootBuiltins x=some (.type T))(ha:PA X (e :: es) t)(hn:x ≠ "__name__":=by decide)(hdb:(x == ("__debug__":Str))=false:=by decide)
  (he:starEach (e :: es) X.env=(false,eval e X.env) :: starEach es X.env:=by rfl) (hpl:(backTo pos (starEach es X.env)).any (·.1)=false:=by rfl):PE X (.Call (.Name x p) (e :: es) [] pos) (tCB r t):=by
 intro ze s σ H Q I h;refine wpAny_Call_Name_kw (zfH I hg hm hv ?_ hn hdb);exact PyProof.Rows.callWith_type1 (thn (ha pos ze s σ H _ I h) fun us s1 ⟨vs,H1,I1,r1,q1⟩=>hc ze s1 σ H1 vs us Q I1 r1 q1) he hpl
end
end
end L2
namespace HT
open PySem PyProof.Rows
def lexLt:List Int->List Int->Bool
 | [],[]=>false
 | [],_ :: _=>true
 | _ :: _,[]=>false
 | x :: xs,y :: ys=>if x=y then lexLt xs ys else decide (x<y)
section
variable {prog:Program} {w:World} {A:Around} {E:Value->Shared->Prop} {s:Shared}
theorem cat_tup{t b:Addr}{vs ws:List Value}{Q:Value->Shared->Prop}(ht:IsTup s.heap t vs.toArray)(hb:IsTup s.heap b ws.toArray)(hv:vs≠[])
  (h1:ws=[]->Q (.ref t) s) (h2:ws≠[]->Q (.ref s.heap.objs.size) { s with heap:=s.heap.push { cls:=.type "tuple",data:=.seq (vs++ws).toArray } })
  (hsz:vs.length+ws.length<=sizeLine):wpAny (model prog w) A (binaryOp .Add (.ref t) (.ref b)) Q E s:=by
 obtain⟨⟨cls,dd,data,sl⟩,ho,hc,n,hd⟩:=id ht;obtain⟨⟨cls2,dd2,data2,sl2⟩,ho2,hc2,n2,hd2⟩:=id hb;simp only at hc hd hc2 hd2;subst hc hd hc2 hd2;have e:vs.toArray++ws.toArray=(vs++ws).toArray:=by simp
 by_cases hw:ws=[]
 ·exact concat_meets ⟨_,ho,rfl⟩ ⟨_,ho2,rfl⟩ noFill_tuple_add seq_tuple_add PySem.F.slot_tuple_add PySem.F.entry_tuple_add (PySem.F.args_tuple_add_2 _ _)
   (tuple_addW1 t b vs.toArray ws.toArray n n2 dd dd2 sl sl2 (by simpa using hv) (by simp [hw])) ⟨ho,ho2,h1 hw⟩
 ·refine concat_meets ⟨_,ho,rfl⟩ ⟨_,ho2,rfl⟩ noFill_tuple_add seq_tuple_add PySem.F.slot_tuple_add PySem.F.entry_tuple_add (PySem.F.args_tuple_add_2 _ _)
   (tuple_addW2 t b vs.toArray ws.toArray n n2 dd dd2 sl sl2 (by simpa using hv) (by simpa using hw) (by rw [size_toArray,size_toArray]; exact hsz)) ⟨ho,ho2,?_⟩
  rw [e];exact h2 hw
def sIx(n d:Nat):Option Int->Nat
 | none=>d
 | some v=>if v<0 then (v+(n:Int)).toNat else min v.toNat n
theorem sIx_nat(n d k:Nat):sIx n d (some (k:Int))=min k n:=by
 show (if (k:Int)<0 then ((k:Int)+(n:Int)).toNat else min (k:Int).toNat n)=min k n;rw [if_neg (by omega),Int.toNat_natCast]
theorem zoV(n d:Nat)(hd:d<=n)(o:Option Int):sIx n d o<=n:=by
 cases o with
 | none=>exact hd
 | some v =>
  show (if v<0 then (v+(n:Int)).toNat else min v.toNat n)<=n;by_cases hv:v<0
  ·rw [if_pos hv]; omega
  ·rw [if_neg hv]; exact Nat.min_le_right _ _
theorem zkB(v:Int)(n d:Nat):(if v<0 then max (v+(n:Int)) 0 else min v (n:Int))=((sIx n d (some v):Nat):Int):=by
 show (if v<0 then max (v+(n:Int)) 0 else min v (n:Int))=(((if v<0 then (v+(n:Int)).toNat else min v.toNat n):Nat):Int);by_cases hv:v<0
 ·simp only [if_pos hv]; omega
 ·simp only [if_neg hv]; omega
theorem ziZ(lo hi:Option Int)(n:Nat):Builtin.Slice.sliceAdjust lo hi 1 (n:Int)=(((sIx n 0 lo:Nat):Int),((sIx n n hi:Nat):Int)):=by
 have h1:¬ ((1:Int)<0):=by omega
 unfold Builtin.Slice.sliceAdjust;simp only [h1,if_false];refine Prod.ext ?_ ?_
 ·cases lo with
  | none=>rfl
  | some v=>exact zkB v n 0
 ·cases hi with
  | none=>rfl
  | some v=>exact zkB v n n
theorem zjd(i j:Nat):Builtin.Slice.slicePlaces (i:Int) (j:Int) 1=j - i:=by
 unfold Builtin.Slice.slicePlaces;have h1:(1:Int)>0:=by omega
 simp only [h1,if_true,Int.ediv_one];split <;> omega
theorem zf5{v:Value}{o:Option Int}{Q:Option Int->Shared->Prop}(p:IsPart v o)(h:Q o s):wpAny (model prog w) A (Builtin.Slice.slicePartIndex v) Q E s:=by
 cases p with
 | none=>exact slicePart_none h
 | int i t=>exact slicePart_int h
theorem zcz{sl:Addr}{vl vu:Value}{lo hi:Option Int}{n:Nat}{Q:Int×Int×Nat->Shared->Prop}(hs:s.heap.IsSliceOf sl vl vu .none)(pl:IsPart vl lo)(pu:IsPart vu hi)
  (h:Q (((sIx n 0 lo:Nat):Int),1,sIx n n hi - sIx n 0 lo) s):wpAny (model prog w) A (Builtin.Slice.sliceApplied (.ref sl) (pure (n:Int))) Q E s:=by
 obtain⟨os,hos,hcs,hds⟩:=id hs;unfold Builtin.Slice.sliceApplied Builtin.Slice.sliceFields;refine wpAny_bind (wpAny_bind (wpAny_field hos hds (x:=vl) rfl (wpAny_bind (wpAny_field hos hds (x:=vu) rfl (wpAny_bind (wpAny_field hos hds (x:=.none) rfl (wpAny_pure ?_)))))));refine wpAny_bind (slicePart_none ?_);show wpAny _ _ (if ((1:Int) == 0)=true then _ else _) _ _ s;rw [if_neg dz];refine wpAny_bind (zf5 pl (wpAny_bind (zf5 pu (wpAny_bind (wpAny_pure ?_)))));show wpAny _ _ (match Builtin.Slice.sliceAdjust lo hi 1 (n:Int) with | (lo,hi)=>pure (lo,(1:Int),Builtin.Slice.slicePlaces lo hi 1)) _ _ s;rw [ziZ lo hi n];show wpAny _ _ (pure (((sIx n 0 lo:Nat):Int),(1:Int),Builtin.Slice.slicePlaces ((sIx n 0 lo:Nat):Int) ((sIx n n hi:Nat):Int) 1)) _ _ s;rw [zjd];exact wpAny_pure h
theorem zlA(xs:Array Value)(i k:Nat):((List.range k).filterMap fun(m:Nat)=>xs[((i:Int)+(m:Int)*1).toNat]?).toArray=((xs.toList.drop i).take k).toArray:=by
 have e:(fun(m:Nat)=>xs[((i:Int)+(m:Int)*1).toNat]?)=fun m=>xs[i+m]?:=by
  funext m;have:((i:Int)+(m:Int)*1).toNat=i+m:=by omega
  rw [this]
 rw [e];have:=pick_run xs i k;rw [List.filterMap_map] at this;have e2:((fun x=>xs[x]?)∘fun x=>i+x)=fun m=>xs[i+m]?:=rfl;rw [e2] at this;rw [this]
theorem getItem_tuple_cut{t sl:Addr}{items:Array Value}{vl vu:Value}{lo hi:Option Int}{Q:Value->Shared->Prop}(ht:IsTup s.heap t items)(hs:s.heap.IsSliceOf sl vl vu .none)(pl:IsPart vl lo)(pu:IsPart vu hi)
  (hw:¬ (sIx items.size 0 lo=0/\sIx items.size items.size hi=items.size))
  (h:Q (.ref s.heap.objs.size) { s with heap:=s.heap.push { cls:=.type "tuple",data:=.seq ((items.toList.drop (sIx items.size 0 lo)).take (sIx items.size items.size hi - sIx items.size 0 lo)).toArray } })
  (hsz:items.size<=sizeLine):wpAny (model prog w) A (getItem (.ref t) (.ref sl)) Q E s:=by
 have htake:sizeOk (.seq ((items.toList.drop (sIx items.size 0 lo)).take (sIx items.size items.size hi - sIx items.size 0 lo)).toArray):=by
  show ((items.toList.drop (sIx items.size 0 lo)).take (sIx items.size items.size hi - sIx items.size 0 lo)).toArray.size<=sizeLine;rw [size_toArray,length_take,length_drop,length_toList];omega
 have hj:sIx items.size items.size hi<=items.size:=zoV _ _ (le_refl _) hi;obtain⟨os,hos,hcs,hds⟩:=id hs;have hTs:s.TypeIs (.ref sl) "slice":=⟨os,hos,hcs⟩;unfold getItem
 try with_reducible refine wpAny_holding ?_
 first | refine wpAny_bind (wpAny_pure ?_) | skip
 refine wpAny_bind (wpAny_sequenceKey ht.typeIs dz ?_);refine wpAny_bind (wpAny_callSpecial?_slot (name:=Str.ofString "__getitem__") ht.typeIs PyProof.Rows.slot_tuple_getitem
  (wpAny_call_entry PyProof.Rows.slot_tuple_getitem ht.typeIs entry_tuple_getitem ?_ (args_tuple_getitem _ _)))
 show wpAny _ _ (Builtin.Tuple.tupleItemsOf (.ref t) >>= _) _ _ s;refine wpAny_bind (tupleItemsOf_ ht ?_);refine wpAny_bind (wpAny_typeOf hTs ?_);rw [if_pos dz];refine wpAny_bind (zcz hs pl pu ?_);have hno:¬ ((((sIx items.size 0 lo:Nat):Int) == 0 && (1:Int) == 1 && (sIx items.size items.size hi - sIx items.size 0 lo) == items.size)=true):=by
  intro q;rw [Bool.and_eq_true,Bool.and_eq_true] at q;have q1:((sIx items.size 0 lo:Nat):Int)=0:=eq_of_beq q.1.1;have q2:sIx items.size items.size hi - sIx items.size 0 lo=items.size:=eq_of_beq q.2;exact hw ⟨by omega,by omega⟩
 show wpAny _ _ (if (((sIx items.size 0 lo:Nat):Int) == 0 && (1:Int) == 1 && (sIx items.size items.size hi - sIx items.size 0 lo) == items.size)=true then _ else _) _ _ s;rw [if_neg hno,zlA]
 first
  | exact wpAny_bind (m:=Builtin.Tuple.tupleExact _) (wpAny_newObj_type (wpAny_pure ⟨_,rfl,wpAny_pure h⟩) htake)
  | exact wpAny_bind (m:=Builtin.Tuple.tupleExact _) (wpAny_newObj_type (wpAny_bind (wpAny_pure (wpAny_pure ⟨_,rfl,wpAny_pure h⟩))) htake)
  | exact wpAny_bind (wpAny_bind (m:=Builtin.Tuple.tupleExact _) (wpAny_newObj_type (wpAny_pure (wpAny_pure ⟨_,rfl,wpAny_pure h⟩)) htake))
  | exact wpAny_bind (wpAny_bind (m:=Builtin.Tuple.tupleExact _) (wpAny_newObj_type (wpAny_pure ⟨_,rfl,wpAny_pure h⟩) htake))
end
end HT
namespace L2
open PySem PySem.Spec PyProof.Rows
section
abbrev TO:=St->Hp->(Option Int->Hp->Prop)->Prop
def PO(X:Cx)(e:Option Expr)(t:TO):Prop :=
 ∀ (ze:List (Addr×Obj)) (s:Shared) (σ:St) (H:Hp) (Q:Option Int->Hp->Prop),Inv X ze σ H s->t σ H Q ->
  wpAny (model X.prog X.w) X.A (evalPart e X.env) (fun u s'=>∃ o H',Inv X ze σ H' s'/\IsPart u o/\Q o H') X.xe s
def zki:TO:=fun _ H Q=>Q none H
def ziW(t:TE):TO:=fun σ H Q=>t σ H fun x H1=>∃ i,x=.int i/\Q (some i) H1
theorem zjq{ns:List Int}:∀ {us:List Value},Vals (ns.map V.int) us->IntsAre us ns:=by
 induction ns with
 | nil=>intro us r; rw [map_nil] at r; cases r; exact .nil
 | cons n ns ih =>
  intro us r;rw [map_cons] at r;cases r with
  | cons r1 r2 =>
   obtain⟨t,e⟩:=r1;subst e;exact .cons n t (ih r2)
section
variable {X:Cx} {e:Expr} {te:TE} {lo hi:Option Expr} {tl th:TO} {pos p2:Pos}
theorem zdn:PO X none zki:=by
 intro ze s σ H Q I h;rw [evalPart_none];exact wpAny_pure ⟨none,H,I,.none,h⟩
theorem zcs(h:PE X e te):PO X (some e) (ziW te):=by
 intro ze s σ H Q I hw;rw [evalPart_some];refine thn (h ze s σ H _ I hw) fun u s1 ⟨x,H1,I1,r1,q1⟩=>?_;obtain⟨i,rfl,q⟩:=q1;obtain⟨t,rfl⟩:=r1;exact⟨some i,H1,I1,.int i t,q⟩
def SlR(X:Cx)(r:V->Option Int->Option Int->Hp->VK->Prop):Prop :=
 ∀ (ze:List (Addr×Obj)) (s:Shared) (σ:St) (H:Hp) (x:V) (v vl vu:Value) (lo hi:Option Int) (sl:Addr) (Q:VK),Inv X ze σ H s->RelV x v->s.heap.IsSliceOf sl vl vu .none->IsPart vl lo->IsPart vu hi->r x lo hi H Q ->
  ∃ T id,typeLookup (.type T) "__getitem__" = pure (some (.builtin id))/\s.TypeIs v T/\wpAny (model X.prog X.w) X.A (getItem v (.ref sl)) (EP X ze σ Q) X.xe s
theorem SlR.or{r r':V->Option Int->Option Int->Hp->VK->Prop}(h:SlR X r)(h':SlR X r'):SlR X (fun x lo hi H Q=>r x lo hi H Q\/r' x lo hi H Q):=by
 intro ze s σ H x v vl vu lo hi sl Q I rx hs pl pu q;rcases q with q | q
 ·exact h ze s σ H x v vl vu lo hi sl Q I rx hs pl pu q
 ·exact h' ze s σ H x v vl vu lo hi sl Q I rx hs pl pu q
def tSl(r:V->Option Int->Option Int->Hp->VK->Prop)(te:TE)(tl th:TO):TE:=fun σ H Q=>te σ H fun x H1=>tl σ H1 fun l H2=>th σ H2 fun u H3=>r x l u H3 Q
theorem zbY{r:V->Option Int->Option Int->Hp->VK->Prop}(hr:SlR X r)(he:PE X e te)(hl:PO X lo tl)(hu:PO X hi th):PE X (.Subscript e (.Slice lo hi none p2) pos) (tSl r te tl th):=by
 intro ze s σ H Q I h;refine Subscript_ (thn (he ze s σ H _ I h) fun v s1 ⟨x,H1,I1,r1,q1⟩=>?_);refine wpAny_Slice (thn (hl ze s1 σ H1 _ I1 q1) fun vl s2 ⟨l,H2,I2,pl,q2⟩=>thn (hu ze s2 σ H2 _ I2 q2) fun vu s3 ⟨u,H3,I3,pu,q3⟩=>?_);rw [evalPart_none];refine wpAny_pure ?_;have I4:Inv X ze σ H3 { s3 with heap:=s3.heap.push { cls:=.type "slice",data:=.fields #[vl,vu,.none] } }:=I3.kept (t':=s3.toks) fun b ob q=>get?_push_of_some _ q;obtain⟨T,id,hT,ht,hg⟩:=hr ze { s3 with heap:=s3.heap.push { cls:=.type "slice",data:=.fields #[vl,vu,.none] } } σ H3 x v vl vu l u s3.heap.objs.size Q I4 r1 (Heap.IsSliceOf.new ..) pl pu q3;show wpAny (model X.prog X.w) X.A (subscriptTail e (.Slice lo hi none p2) v (.ref s3.heap.objs.size)) (EP X ze σ Q) X.xe { s3 with heap:=s3.heap.push { cls:=.type "slice",data:=.fields #[vl,vu,.none] } };exact tail_any (ops:=[.ref s3.heap.objs.size,v]) ht hT hg (by with_unfolding_all rfl)
def ziD(xs:List V)(lo hi:Option Int):List V:=(xs.drop (HT.sIx xs.length 0 lo)).take (HT.sIx xs.length xs.length hi - HT.sIx xs.length 0 lo)
theorem zdg(xs:List V)(lo hi:Option Int):(ziD xs lo hi).length<=xs.length:=by
 unfold ziD;rw [length_take,length_drop];omega
def zqV(K:W.Frag):V->Option Int->Option Int->Hp->VK->Prop:=fun x lo hi H Q=>∃ a xs,x=.ref a/\SqT K H a xs /\
 ¬ (HT.sIx xs.length 0 lo=0/\HT.sIx xs.length xs.length hi=xs.length)/\∀ p,H p=none->Q (.ref p) (upd H p (.tup (ziD xs lo hi)))
theorem zml:SlR X (zqV X.K):=by
 intro ze s σ H x v vl vu lo hi sl Q I rx hs pl pu h;obtain⟨a,xs,rfl,hx,hw,q⟩:=h;cases rx;obtain⟨its,r,ht,hz⟩:=I.tuple hx;have hlen:its.toArray.size=xs.length:=by rw [size_toArray]; exact r.length.symm
 refine⟨"tuple",_,PyProof.Rows.slot_tuple_getitem.lookup,ht.typeIs,?_⟩;refine HT.getItem_tuple_cut ht hs pl pu (by rw [hlen]; exact hw) ?_ (by rw [hlen]; exact hz);rw [hlen];refine⟨.ref s.heap.objs.size,_,I.laid (t':=s.toks) (o:=.tup (ziD xs lo hi)) (fun b ob q=>get?_push_of_some _ q) (le_refl _) ?_,rfl,q _ (I.hok.fresh (le_refl _))⟩;exact⟨⟨le_trans (zdg xs lo hi) hz,_,get?_push_size _ rfl,rfl⟩,_,(r.drop (HT.sIx xs.length 0 lo)).take (HT.sIx xs.length xs.length hi - HT.sIx xs.length 0 lo),IsTup.new _ _⟩
def zm9(K:W.Frag):R2:=fun x y H Q=>∃ a b xs ys,x=.ref a/\y=.ref b/\SqT K H a xs/\SqT K H b ys/\xs≠[]/\xs.length+ys.length<=sizeLine /\
 (ys=[]->Q (.ref a) H)/\(ys≠[]->∀ p,H p=none->Q (.ref p) (upd H p (.tup (xs++ys))))
theorem Vals.nil_iff{xs:List V}{us:List Value}(r:Vals xs us):us=[]↔xs=[]:=by
 cases r with
 | nil=>simp
 | cons _ _=>simp
theorem zoh:OpR X (binaryOp .Add) (zm9 X.K):=by
 intro ze s σ H x y v u Q I rx ry h;obtain⟨a,b,xs,ys,rfl,rfl,ha,hb,hx,hz,q1,q2⟩:=h;cases rx;cases ry;obtain⟨its,r1,p1,_⟩:=I.tuple ha;obtain⟨its2,r2,p2,_⟩:=I.tuple hb;refine HT.cat_tup p1 p2 (fun z=>hx (r1.nil_iff.mp z)) (fun z=>⟨.ref a,H,I,rfl,q1 (r2.nil_iff.mp z)⟩) (fun z=>?_) (by rw [<- r1.length,<- r2.length]; exact hz);refine⟨.ref s.heap.objs.size,_,I.laid (t':=s.toks) (o:=.tup (xs++ys)) (fun b ob q=>get?_push_of_some _ q) (le_refl _) ?_,rfl,q2 (fun w=>z (r2.nil_iff.mpr w)) _ (I.hok.fresh (le_refl _))⟩;exact⟨⟨by rw [length_append]; exact hz,_,get?_push_size _ rfl,rfl⟩,_,r1.append r2,IsTup.new _ _⟩
end
end
section
def ixN(n:Nat)(i:Int):Option Nat:=if 0<=i then (if i<n then some i.toNat else none) else if -(n:Int)<=i then some (i+n).toNat else none
def atI{α:Type}(xs:List α)(i:Int):Option α:=(ixN xs.length i).bind fun j=>xs[j]?
theorem zk6{n:Nat}{i:Int}{j:Nat}(h:ixN n i=some j):seqIndex? i n=some j/\j<n/\-(n:Int)<=i/\i<n:=by
 unfold ixN at h;by_cases h0:0<=i
 ·rw [if_pos h0] at h;by_cases h1:i<n
  ·rw [if_pos h1] at h;have e:i.toNat=j:=Option.some.inj h;exact⟨by rw [seqIndex_of h0 h1,e],by omega,by omega,h1⟩
  ·rw [if_neg h1] at h; cases h
 ·rw [if_neg h0] at h;by_cases h1:-(n:Int)<=i
  ·rw [if_pos h1] at h;have e:(i+n).toNat=j:=Option.some.inj h;exact⟨by rw [seqIndex_neg (by omega) h1,e],by omega,h1,by omega⟩
  ·rw [if_neg h1] at h; cases h
theorem zia{α:Type}{xs:List α}{i:Int}{v:α}(h:atI xs i=some v):∃ j,seqIndex? i xs.length=some j/\xs[j]? = some v/\j<xs.length/\-(xs.length:Int)<=i/\i<xs.length:=by
 unfold atI at h;cases e:ixN xs.length i with
 | none=>rw [e] at h; cases h
 | some j =>
  rw [e] at h;obtain⟨h1,h2,h3,h4⟩:=zk6 e;exact⟨j,h1,h,h2,h3,h4⟩
theorem zbg{α:Type}{xs:List α}{j:Nat}{v:α}(h:xs[j]? = some v):atI xs (j:Int)=some v:=by
 have hj:j<xs.length:=(List.getElem?_eq_some_iff.mp h).1;have e:ixN xs.length (j:Int)=some j:=by
  unfold ixN;rw [if_pos (by omega),if_pos (by omega)]; simp
 unfold atI; rw [e]; exact h
def PlainIx(b:Expr):Prop:=∀ o i,subscripted b false o i=operate [o,i] (getItem o i)
def IxR(X:Cx)(r:R2):Prop :=
 ∀ (value slice:Expr) (ze:List (Addr×Obj)) (s:Shared) (σ:St) (H:Hp) (x y:V) (v u:Value) (Q:VK),Inv X ze σ H s->RelV x v->RelV y u->r x y H Q ->
  subscripted slice false v u=operate [v,u] (getItem v u)->wpAny (model X.prog X.w) X.A (subscriptTail value slice v u) (EP X ze σ Q) X.xe s
def MtR(X:Cx)(id:String)(r:V->List V->Hp->VK->Prop):Prop :=
 ∀ (ze:List (Addr×Obj)) (s:Shared) (σ:St) (H:Hp) (x:V) (xs:List V) (v:Value) (us:List Value) (Q:VK),Inv X ze σ H s->RelV x v->Vals xs us->r x xs H Q ->
  wpAny (model X.prog X.w) X.A (call (.builtin id) (v :: us)) (EP X ze σ Q) X.xe s
section
variable {X:Cx} {a b:Expr} {ta tb:TE} {pos:Pos}
theorem IxR.or{r r':R2}(h:IxR X r)(h':IxR X r'):IxR X (fun x y H Q=>r x y H Q\/r' x y H Q):=by
 intro value slice ze s σ H x y v u Q I rx ry q hs;rcases q with q | q
 ·exact h value slice ze s σ H x y v u Q I rx ry q hs
 ·exact h' value slice ze s σ H x y v u Q I rx ry q hs
theorem zak{r:R2}(hr:IxR X r)(ha:PE X a ta)(hb:PE X b tb)(hs:PlainIx b):PE X (.Subscript a b pos) (tOp r ta tb):=by
 intro ze s σ H Q I h;exact Subscript_ (zqX ha hb I h fun v u s2 x y H2 I2 rx ry q=>hr a b ze s2 σ H2 x y v u Q I2 rx ry q (hs _ _))
def zq3(K:W.Frag):R2:=fun x y H Q=>∃ p xs i v,x=.ref p/\y=.int i/\SqL K H p xs/\atI xs i=some v/\Q v H
def zq8(K:W.Frag):R2:=fun x y H Q=>∃ p xs i v,x=.ref p/\y=.int i/\SqT K H p xs/\atI xs i=some v/\Q v H
def zq6:R2:=fun x y H Q=>∃ z i c,x=.str z/\y=.int i/\z.length<=sizeLine/\atI z.cps.toList i=some c/\Q (.str ⟨#[c]⟩) H
theorem zkC:IxR X (zq3 X.K):=by
 intro value slice ze s σ H x y v u Q I rx ry h hs;obtain⟨p,xs,i,z,rfl,rfl,hq,he,q⟩:=h;cases rx;obtain⟨t,rfl⟩:=ry;obtain⟨its,r,pl,hz⟩:=I.list hq;obtain⟨j,h1,h2,h3,h4,h5⟩:=zia he;obtain⟨w,ew,rw'⟩:=r.get h2;have hl:=r.length;have hn:=line63;have fin:EP X ze σ Q w s:=⟨z,H,I,rw',q⟩;by_cases h0:0<=i
 ·have hj:i.toNat=j:=by
   rw [seqIndex_of h0 h5] at h1;exact Option.some.inj h1
  exact item_listR pl.isList h0 (by omega) (by rw [hj]; simpa using ew) fin hs
 ·have hj:(i+(its.toArray.size:Int)).toNat=j:=by
   rw [seqIndex_neg (by omega) h4] at h1;rw [size_toArray,<- hl];exact Option.some.inj h1
  exact subscriptTail_builtinR (x:=w) pl.isList.typeIs slot_list_getitem.lookup
   (wpAny_getItem_list_neg (Q:=fun r s'=>r=w/\EP X ze σ Q r s') pl.isList (by omega) (by rw [size_toArray] <;> omega) (by omega) (by rw [hj]; simpa using ew) ⟨rfl,fin⟩) hs
theorem zp8:IxR X (zq8 X.K):=by
 intro value slice ze s σ H x y v u Q I rx ry h hs;obtain⟨p,xs,i,z,rfl,rfl,hq,he,q⟩:=h;cases rx;obtain⟨t,rfl⟩:=ry;obtain⟨its,r,pl,hz⟩:=I.tuple hq;obtain⟨j,h1,h2,h3,h4,h5⟩:=zia he;obtain⟨w,ew,rw'⟩:=r.get h2;have hl:=r.length;have hn:=line63;have fin:EP X ze σ Q w s:=⟨z,H,I,rw',q⟩;exact subscriptTail_builtinR (x:=w) pl.typeIs slot_tuple_getitem.lookup
  (getItem_tuple (j:=j) (Q:=fun r s'=>r=w/\EP X ze σ Q r s') pl (by omega) (by omega) (by rw [size_toArray,<- hl]; exact h1) (by simpa using ew) ⟨rfl,fin⟩) hs
theorem zqf:IxR X zq6:=by
 intro value slice ze s σ H x y v u Q I rx ry h hs;obtain⟨z,i,c,rfl,rfl,hz,he,q⟩:=h;obtain⟨t,rfl⟩:=rx;obtain⟨t',rfl⟩:=ry;obtain⟨j,h1,h2,h3,h4,h5⟩:=zia he;have hl:z.cps.toList.length=z.length:=by simp [Str.length]
 rw [hl] at h1 h4 h5;have hn:=line63;exact tail_any (typeIs_str s z t) slot_str_getitem.lookup (getItem_str (c:=c) (by
  have e1:decide (i < -(2 ^ 63:Int))=false:=decide_eq_false (by omega);have e2:decide (i≥2 ^ 63)=false:=decide_eq_false (by omega);rw [e1,e2,Bool.or_false]) (by rw [h1]; simpa using h2) ⟨.str ⟨#[c]⟩,H,I.tok _,⟨_,rfl⟩,q⟩) hs
def rIx(K:W.Frag):R2:=fun x y H Q=>zq3 K x y H Q\/zq8 K x y H Q\/zq6 x y H Q
theorem zL:IxR X (rIx X.K):=zkC.or (zp8.or zqf)
theorem zjg(its:List Value)(n j:Nat)(u:Value):Obj.mapSeq (·.setIfInBounds j u) { cls:=.type "list",data:=.seq its.toArray n } = { cls:=.type "list",data:=.seq (its.set j u).toArray n }:=by
 simp [Obj.mapSeq]
theorem Inv.lst{ze:List (Addr×Obj)}{σ:St}{H:Hp}{s:Shared}{p:Addr}{xs:List V}(I:Inv X ze σ H s)(h:H p=some (.lst xs)):
  ∃ (its:List Value) (n:Nat),Vals xs its/\s.heap.get? p=some { cls:=.type "list",data:=.seq its.toArray n }/\xs.length<=sizeLine:=by
 obtain⟨z,its,n,r,e⟩:=I.hok p _ h;exact⟨its,n,r,e,z⟩
theorem Inv.lstUpd{ze:List (Addr×Obj)}{σ:St}{H:Hp}{s:Shared}{p:Addr}{xs ys:List V}{its its':List Value}{n n':Nat}{f:Obj->Obj}(I:Inv X ze σ H s)(h:H p=some (.lst xs))
  (ho:s.heap.get? p=some { cls:=.type "list",data:=.seq its.toArray n }) (hf:f { cls:=.type "list",data:=.seq its.toArray n } = { cls:=.type "list",data:=.seq its'.toArray n' }) (r:Vals ys its') (hz:ys.length<=sizeLine) (t:Nat) :
  Inv X ze σ (upd H p (.lst ys)) { s with heap:=s.heap.update p f,toks:=t }:=by
 have e:(s.heap.update p f).get? p=some { cls:=.type "list",data:=.seq its'.toArray n' }:=by
  rw [get?_update_self f ho (by rw [hf] <;> rfl),hf]
 refine I.write (x:=p) (e:=p) (by rw [h]; trivial) (.inl rfl) (fun b u hb q=>(get?_update_other _ _ (Ne.symm hb)).trans q) ⟨_,e⟩ ?_;exact⟨hz,its',n',r,e⟩
def zoW:V->V->V->Hp->(Hp->Prop)->Prop:=fun o i v H Q=>∃ p xs k j,o=.ref p/\i=.int k/\H p=some (.lst xs)/\ixN xs.length k=some j/\Q (upd H p (.lst (xs.set j v)))
theorem zev:PSet X zoW:=by
 intro ze s σ H o i v ov iv u Q I ro ri rv h;obtain⟨p,xs,k,j,rfl,rfl,hp,hj,q⟩:=h;cases ro;obtain⟨t,rfl⟩:=ri;obtain⟨its,n,r,ho,hz⟩:=I.lst hp;obtain⟨h1,h2,h3,h4⟩:=zk6 hj;have hl:=r.length;have hn:=line63;have I':Inv X ze σ (upd H p (.lst (xs.set j v))) { s with heap:=s.heap.update p (Obj.mapSeq (·.setIfInBounds j u)) } :=
  I.lstUpd hp ho (zjg its n j u) (r.set rv j) (by rw [length_set]; exact hz) s.toks
 by_cases h0:0<=k
 ·have hk:k.toNat=j:=by
   rw [seqIndex_of h0 h4] at h1;exact Option.some.inj h1
  exact W.ki_setAt ho h0 (by omega) (by rw [size_toArray,<- hl]; exact h4) (by rw [hk]; exact⟨_,I',q⟩)
 ·have hk:(k+(its.toArray.size:Int)).toNat=j:=by
   rw [seqIndex_neg (by omega) h3] at h1;rw [size_toArray,<- hl];exact Option.some.inj h1
  exact W.ki_setBack ho (by omega) (by rw [size_toArray,<- hl]; exact h3) (by omega) (by rw [hk]; exact⟨_,I',q⟩)
theorem zhf(lo hi:Option Int)(n:Nat):(sliceBounds lo hi none n).1=((HT.sIx n 0 lo:Nat):Int)/\(sliceBounds lo hi none n).2.1=((HT.sIx n n hi:Nat):Int)/\(sliceBounds lo hi none n).2.2=1:=by
 refine⟨?_,?_,rfl⟩
 ·cases lo with
  | none=>simp [sliceBounds,HT.sIx]
  | some i =>
   simp only [sliceBounds,HT.sIx,Option.getD_none,show (1:Int)>0 by decide,if_true];by_cases h:i<0
   ·simp only [h,if_true] <;> omega
   ·simp only [h,if_false] <;> omega
 ·cases hi with
  | none=>simp [sliceBounds,HT.sIx]
  | some i =>
   simp only [sliceBounds,HT.sIx,Option.getD_none,show (1:Int)>0 by decide,if_true];by_cases h:i<0
   ·simp only [h,if_true] <;> omega
   ·simp only [h,if_false] <;> omega
theorem zf9(its:List Value)(lo hi:Option Int):slicePick its.toArray lo hi none=((its.drop (HT.sIx its.length 0 lo)).take (HT.sIx its.length its.length hi - HT.sIx its.length 0 lo)).toArray:=by
 obtain⟨h1,h2,h3⟩:=zhf lo hi its.toArray.size;unfold slicePick;rw [h1,h2,h3];simp only [sliceRange_one,pick_run,size_toArray] <;> rfl
def zpm(K:W.Frag):V->Option Int->Option Int->Hp->VK->Prop:=fun x lo hi H Q=>∃ a xs,x=.ref a/\SqL K H a xs/\∀ p,H p=none->Q (.ref p) (upd H p (.lst (ziD xs lo hi)))
theorem zjZ:SlR X (zpm X.K):=by
 intro ze s σ H x v vl vu lo hi sl Q I rx hs pl pu h;obtain⟨a,xs,rfl,hx,q⟩:=h;cases rx;obtain⟨its,r,ht,hz⟩:=I.list hx;have hlen:=r.length;refine⟨"list",_,slot_list_getitem.lookup,ht.isList.typeIs,?_⟩;refine wpAny_getItem_list_slice ht.isList hs pl pu .none (by simp) ?_ (by rw [size_toArray] <;> omega);rw [zf9,<- hlen];refine⟨.ref s.heap.objs.size,_,I.laid (t':=s.toks) (o:=.lst (ziD xs lo hi)) (fun b ob q=>get?_push_of_some _ q) (le_refl _) ?_,rfl,q _ (I.hok.fresh (le_refl _))⟩;exact⟨le_trans (zdg xs lo hi) hz,_,0,(r.drop (HT.sIx xs.length 0 lo)).take (HT.sIx xs.length xs.length hi - HT.sIx xs.length 0 lo),get?_push_size _ rfl⟩
theorem zd1:CallR X (.builtin "len") (fun xs H Q=>∃ p ys,xs=[.ref p]/\(SqL X.K H p ys\/SqT X.K H p ys)/\Q (.int ys.length) H):=by
 intro ze s σ H xs us Q I r h;obtain⟨p,ys,rfl,hq,q⟩:=h;obtain⟨u,rfl,rx⟩:=vals1 r;cases rx;have hn:=line63;rcases hq with hq | hq
 ·obtain⟨its,r',pl,hz⟩:=I.list hq;have hlen:=r'.length;exact Calls.call_len_list pl.isList (by simp only [size_toArray] <;> omega) ⟨.int ys.length,H,I.tok _,⟨s.toks+1,by rw [size_toArray,hlen]⟩,q⟩
 ·obtain⟨its,r',pl,hz⟩:=I.tuple hq;have hlen:=r'.length;exact len_tuple pl (by simp only [size_toArray] <;> omega) ⟨.int ys.length,H,I.tok _,⟨s.toks+1,by rw [size_toArray,hlen]⟩,q⟩
theorem zhv:CallR X (.builtin "len") (fun xs H Q=>∃ z,xs=[.str z]/\z.length<=sizeLine/\Q (.int z.length) H):=by
 intro ze s σ H xs us Q I r h;obtain⟨z,rfl,hz,q⟩:=h;obtain⟨u,rfl,t,rfl⟩:=vals1 r;have hn:=line63;exact len_str (by omega) ⟨.int z.length,H,I.tok _,⟨_,rfl⟩,q⟩
theorem CallR.or{f:Value}{r r':List V->Hp->VK->Prop}(h:CallR X f r)(h':CallR X f r'):CallR X f (fun xs H Q=>r xs H Q\/r' xs H Q):=by
 intro ze s σ H xs us Q I rs q;rcases q with q | q
 ·exact h ze s σ H xs us Q I rs q
 ·exact h' ze s σ H xs us Q I rs q
theorem za4:CallR X (.type "list") (fun xs H Q=>∃ p ys,xs=[.ref p]/\(SqL X.K H p ys\/SqT X.K H p ys)/\∀ l,H l=none->Q (.ref l) (upd H l (.lst ys))):=by
 intro ze s σ H xs us Q I r h;obtain⟨p,ys,rfl,hq,q⟩:=h;obtain⟨u,rfl,rx⟩:=vals1 r;cases rx;have fin:∀ (its:List Value),Vals ys its->ys.length<=sizeLine->∀ (h':Heap) (c':Nat),(∀ b o',s.heap.get? b=some o'->h'.get? b=some o') ->
   h'.get? s.heap.objs.size=some { cls:=.type "list",dict:=none,data:=.seq its.toArray c',slots:=#[] }->EP X ze σ Q (.ref s.heap.objs.size) { s with heap:=h' }:=fun its r' hz h' c' kp e =>
  ⟨.ref s.heap.objs.size,_,I.laid (t':=s.toks) kp (le_refl _) (show ObjOk X.prog X.w _ h' _ (.lst ys) from⟨hz,its,c',r',e⟩),rfl,q _ (I.hok.fresh (le_refl _))⟩
 rcases hq with hq | hq
 ·obtain⟨its,r',pl,hz⟩:=I.list hq;have hlen:=r'.length;obtain⟨o,ho,hc,n,hd⟩:=pl.isList;exact call_list_seq p (.inl rfl) ho hc hd (fun h' c' kp e=>fin its r' hz h' c' kp e) (by simp only [size_toArray] <;> omega)
 ·obtain⟨its,r',pl,hz⟩:=I.tuple hq;have hlen:=r'.length;obtain⟨o,ho,hc,n,hd⟩:=pl;exact call_list_seq p (.inr rfl) ho hc hd (fun h' c' kp e=>fin its r' hz h' c' kp e) (by simp only [size_toArray] <;> omega)
theorem zS:CallR X (.type "tuple") (fun xs H Q=>∃ p ys,xs=[.ref p]/\((SqL X.K H p ys/\∀ l,H l=none->Q (.ref l) (upd H l (.tup ys)))\/(SqT X.K H p ys/\Q (.ref p) H))):=by
 intro ze s σ H xs us Q I r h;obtain⟨p,ys,rfl,h⟩:=h;obtain⟨u,rfl,rx⟩:=vals1 r;cases rx;rcases h with ⟨hq,q⟩ | ⟨hq,q⟩
 ·obtain⟨its,r',pl,hz⟩:=I.list hq;have hlen:=r'.length;refine call_tuple_list pl.isList (fun h' kp=>?_) (by simp only [size_toArray] <;> omega);have I1:Inv X ze σ H { s with heap:=h' }:=I.kept (t':=s.toks) kp;have I2:Inv X ze σ (upd H h'.objs.size (.tup ys)) { s with heap:=h'.push { cls:=.type "tuple",data:=.seq its.toArray } } :=
   I1.laid (t':=s.toks) (fun b o e=>get?_push_of_some _ e) (le_refl _) (show ObjOk X.prog X.w _ _ _ (.tup ys) from⟨⟨hz,_,get?_push_size _ rfl,rfl⟩,its,r',IsTup.new _ _⟩)
  exact⟨.ref h'.objs.size,_,I2,rfl,q _ (I1.hok.fresh (le_refl _))⟩
 ·obtain⟨its,r',pl,hz⟩:=I.tuple hq;exact call_tuple_same pl ⟨.ref p,H,I,rfl,q⟩
def tyV(K:W.Frag)(T:String)(x:V)(H:Hp):Prop:=match x with
 | .str _=>T = "str"
 | .int _=>T = "int"
 | .ref p=>(T = "list"/\∃ xs,SqL K H p xs)\/(T = "tuple"/\∃ o,K.lookup p=some o/\o.cls=.type "tuple"/\o.dict=none) \/
   (T = "dict"/\((∃ kvs,H p=some (.dK kvs))\/∃ kvs,H p=some (.dT kvs)))\/(T = "set"/\∃ S n,H p=some (.set S n))
 | _=>False
theorem zmX{ze:List (Addr×Obj)}{σ:St}{H:Hp}{s:Shared}{T:String}{x:V}{v:Value}(I:Inv X ze σ H s)(r:RelV x v)(ty:tyV X.K T x H):
  s.TypeIs v T/\∀ a,v=.ref a->∃ ob,s.heap.get? a=some ob/\ob.dict=none:=by
 cases x with
 | str z =>
  obtain⟨t,rfl⟩:=r;cases (show T = "str" from ty);exact⟨typeIs_str s z t,fun _ e=>nomatch e⟩
 | int i =>
  obtain⟨t,rfl⟩:=r;cases (show T = "int" from ty);exact⟨typeIs_int s i t,fun _ e=>nomatch e⟩
 | ref p =>
  cases r;rcases ty with ⟨rfl,xs,hq⟩ | ⟨rfl,o,hk,hc,hd⟩ | ⟨rfl,hk⟩ | ⟨rfl,S,n,hk⟩
  ·obtain⟨its,_,pl,_⟩:=I.list hq;refine⟨pl.isList.typeIs,fun a e=>?_⟩;cases e;obtain⟨o,n,e,c,hd,_⟩:=pl;exact⟨o,e,hd⟩
  ·refine⟨⟨o,I.kIn p o hk,hc⟩,fun a e=>?_⟩;cases e;exact⟨o,I.kIn _ o hk,hd⟩
  ·have z:∃ o,s.heap.get? p=some o/\o.ExactDict:=by
    rcases hk with ⟨kvs,hk⟩ | ⟨kvs,hk⟩
    ·obtain⟨_,_,_,_,o,_,_,e,ex,_⟩:=I.hok p _ hk;exact⟨o,e,ex⟩
    ·obtain⟨_,_,_,_,o,_,_,e,ex,_⟩:=I.hok p _ hk;exact⟨o,e,ex⟩
   obtain⟨o,e,ex⟩:=z;refine⟨⟨o,e,ex.1⟩,fun a e2=>?_⟩;cases e2;exact⟨o,e,ex.2.1⟩
  ·obtain⟨o,_,_,_,e,ex,_⟩:=I.hok p _ hk;refine⟨⟨o,e,ex.1⟩,fun a e2=>?_⟩;cases e2;exact⟨o,e,ex.2.1⟩
 | _=>exact False.elim ty
def zrq(K:W.Frag)(T:String)(r:V->List V->Hp->VK->Prop)(to:TE):TE:=fun σ H Q=>to σ H fun x H1=>tyV K T x H1/\r x [] H1 Q
def tBM(K:W.Frag)(T:String)(r:V->List V->Hp->VK->Prop)(to:TE)(t:TA):TE:=fun σ H Q=>to σ H fun x H1=>tyV K T x H1/\t σ H1 fun xs H2=>r x xs H2 Q
variable {o e:Expr} {es:List Expr} {to:TE} {t:TA} {name:Str} {apos cpos:Pos} {T id:String} {r:V->List V->Hp->VK->Prop}
theorem zpJ(pa:PlainAttrs T)(slot:Slot T name id)(hty:typeOf (.builtin id)=pure (.type "method_descriptor"))(hm:MtR X id r)(ho:PE X o to)
  (hbase:attributeBase o name X.env (eval o X.env)=eval o X.env:=by rfl) (hline:(apos.endLine == cpos.line)=true:=by rfl):PE X (.Call (.Attribute o name apos) [] [] cpos) (zrq X.K T r to):=by
 intro ze s σ H Q I h;refine wpAny_Call_method0_late hbase hline (thn (ho ze s σ H _ I h) fun v s1 ⟨x,H1,I1,r1,ty,q1⟩=>?_);obtain⟨h1,h2⟩:=zmX I1 r1 ty;exact⟨T,id,pa,slot,hty,h1,h2,Calls.callWith_builtin rfl (PySem.evalArgs_none (hm ze s1 σ H1 x [] v [] Q I1 r1 .nil q1))⟩
theorem ze8(pa:PlainAttrs T)(slot:Slot T name id)(hty:typeOf (.builtin id)=pure (.type "method_descriptor"))(hm:MtR X id r)(ho:PE X o to)(ha:PA X (e :: es) t)
  (hbase:attributeBase o name X.env (eval o X.env)=eval o X.env:=by rfl)
  (hfew:((backTo cpos (starEach (e :: es) X.env)).all (fun x=>!x.1) && (backToKw cpos (keywordEach [] X.env)).all (fun x=>x.1.isSome)
   && decide ((e :: es).length+([]:List Keyword).length+(if ([]:List Keyword).isEmpty then 0 else 1)<30))=true:=by rfl)
  (hline:(apos.endLine == cpos.line)=true:=by rfl) (hs:starEach (e :: es) X.env=(false,eval e X.env) :: starEach es X.env:=by rfl) (hplain:(backTo cpos (starEach es X.env)).any (·.1)=false:=by rfl) :
  PE X (.Call (.Attribute o name apos) (e :: es) [] cpos) (tBM X.K T r to t):=by
 intro ze s σ H Q I h;refine wpAny_Call_method_late hbase hfew hline rfl (thn (ho ze s σ H _ I h) fun v s1 ⟨x,H1,I1,r1,ty,q1⟩=>?_);obtain⟨h1,h2⟩:=zmX I1 r1 ty;refine⟨T,id,pa,slot,hty,h1,h2,?_⟩;have hA:=ha cpos ze s1 σ H1 _ I1 q1;rw [hs] at hA ⊢;refine Calls.callWith_builtin (by show (false || (backTo cpos (starEach es X.env)).any (·.1))=false; rw [hplain] <;> rfl) (Calls.evalArgs_plain ?_);exact thn hA fun us s2 ⟨vs,H2,I2,r2,q2⟩=>hm ze s2 σ H2 x vs v us Q I2 r1 r2 q2
end
end
section
def MtM(X:Cx)(id:String)(r:V->List V->Hp->VK->Prop):Prop :=
 ∀ (ze:List (Addr×Obj)) (s:Shared) (σ:St) (H:Hp) (x:V) (xs:List V) (v:Value) (us:List Value) (Q:VK),Inv X ze σ H s->RelV x v->Vals xs us->r x xs H Q ->
  wpAny (model X.prog X.w) X.A (call (.builtin id) (v :: us)) (EP X ze σ Q) X.xe s
theorem Vals.one:∀ {x:V} {us:List Value},Vals [x] us->∃ u,us=[u]/\RelV x u
 | _,_,.cons r .nil=>⟨_,rfl,r⟩
theorem Vals.zero:∀ {us:List Value},Vals [] us->us=[]
 | _,.nil=>rfl
theorem Vals.eraseIdx:∀ {xs:List V} {us:List Value} (i:Nat),Vals xs us->Vals (xs.eraseIdx i) (us.eraseIdx i)
 | _,_,_,.nil=>.nil
 | _,_,0,.cons _ t=>t
 | _,_,i+1,.cons r t=>.cons r (Vals.eraseIdx i t)
theorem Vals.reverse{xs:List V}{us:List Value}(h:Vals xs us):Vals xs.reverse us.reverse:=by
 induction h with
 | nil=>exact .nil
 | cons r t ih=>rw [reverse_cons,reverse_cons]; exact Vals.append ih (.cons r .nil)
theorem Vals.rep{xs:List V}{us:List Value}(h:Vals xs us):∀ k:Nat,Vals (List.replicate k xs).flatten (List.replicate k us).flatten
 | 0=>.nil
 | k+1=>by
  rw [replicate_succ,replicate_succ,flatten_cons,flatten_cons];exact Vals.append h (Vals.rep h k)
theorem zhB{α:Type}:∀ (l:List α) (i:Nat),(l.eraseIdx i).length<=l.length
 | [],_=>le_refl _
 | _ :: _,0=>le_succ _
 | _ :: r,i+1=>Nat.succ_le_succ (zhB r i)
theorem zdH(its:List Value):∀ (k:Nat) (acc:List Value),
  List.foldl (fun x1 x2=>x1++x2) acc.toArray (List.replicate k its.toArray)=(acc++(List.replicate k its).flatten).toArray
 | 0,acc=>by simp
 | k+1,acc=>by
  have e:acc.toArray++its.toArray=(acc++its).toArray:=by simp
  have e2:(acc++its)++(List.replicate k its).flatten=acc++(List.replicate (k+1) its).flatten:=by
   rw [replicate_succ,flatten_cons,append_assoc]
  rw [<- e2,<- zdH its k (acc++its),<- e,replicate_succ,List.foldl_cons]
section
variable {X:Cx} {ze:List (Addr×Obj)} {σ:St} {H:Hp} {s:Shared} {l b:Addr} {xs ys zs:List V}
theorem Inv.lset{its its':List Value}{n:Nat}{f:Array Value->Array Value}{t':Nat}(I:Inv X ze σ H s)(hH:H l=some (.lst xs))
  (e:s.heap.get? l=some { cls:=.type "list",data:=.seq its.toArray n }) (hf:f its.toArray=its'.toArray) (hv:Vals ys its') (hz:ys.length<=sizeLine) :
  Inv X ze σ (upd H l (.lst ys)) { s with heap:=s.heap.update l (Obj.mapSeq f),toks:=t' }:=by
 have q:=PySem.IsL.update e f;rw [hf] at q;refine I.write (x:=l) (e:=l) (by rw [hH]; exact trivial) (.inl rfl) (fun b' u hb hu=>(get?_update_other s.heap (Obj.mapSeq f) (Ne.symm hb)).trans hu) ⟨_,q⟩ ?_;exact⟨hz,its',_,hv,q⟩
theorem Inv.lnew{its:List Value}{t':Nat}(I:Inv X ze σ H s)(hv:Vals ys its)(hz:ys.length<=sizeLine):
  Inv X ze σ (upd H s.heap.objs.size (.lst ys)) { s with heap:=s.heap.push { cls:=.type "list",data:=.seq its.toArray },toks:=t' } :=
 I.laid (fun _ _ q=>get?_push_of_some _ q) (le_refl _) ⟨hz,its,0,hv,get?_push_size _ rfl⟩
theorem Inv.fresh(I:Inv X ze σ H s):H s.heap.objs.size=none:=I.hok.fresh (le_refl _)
theorem Inv.lstM(I:Inv X ze σ H s)(hH:H l=some (.lst xs)):xs.length<=sizeLine/\∃ (its:List Value) (n:Nat),Vals xs its/\xs.length=its.length/\s.heap.get? l=some { cls:=.type "list",data:=.seq its.toArray n }:=by
 obtain⟨z,its,n,r,e⟩:=I.hok l _ hH;exact⟨z,its,n,r,r.length,e⟩
theorem zlv{n:Nat}(h:n<=sizeLine):Builtin.List.listTooLong n=false:=by
 unfold Builtin.List.listTooLong;exact decide_eq_false (by omega)
end
section
variable {X:Cx}
def zkH:V->List V->Hp->VK->Prop:=fun x vs H Q=>∃ l xs y,x=.ref l/\vs=[y]/\H l=some (.lst xs)/\xs.length<sizeLine/\Q .non (upd H l (.lst (xs++[y])))
theorem zbs:MtM X "list.append" zkH:=by
 intro ze s σ H x vs v us Q I rx rv h;obtain⟨l,xs,y,rfl,rfl,hH,hz,q⟩:=h;cases rx;obtain⟨u,rfl,ru⟩:=rv.one;obtain⟨z,its,n,r,hl,e⟩:=I.lstM hH;refine call_meets F.slot_list_append ⟨_,e,rfl⟩ F.entry_list_append (F.args_list_append_2 _ _) (PySem.list_append l its.toArray n u (by rw [size_toArray]; omega)) ⟨e,?_⟩;refine⟨.non,_,I.lset (its':=its++[u]) hH e (by simp) (r.append (.cons ru .nil)) ?_,rfl,q⟩;rw [length_append,length_singleton];omega
def zmS:V->List V->Hp->VK->Prop:=fun x vs H Q=>∃ l xs i k y,x=.ref l/\vs=[.int i]/\H l=some (.lst xs)/\-(2 ^ 63)<=i/\i<2 ^ 63/\seqIndex? i xs.length=some k/\xs[k]? = some y/\Q y (upd H l (.lst (xs.eraseIdx k)))
theorem zlF:MtM X "list.pop" zmS:=by
 intro ze s σ H x vs v us Q I rx rv h;obtain⟨l,xs,i,k,y,rfl,rfl,hH,h1,h2,hk,hy,q⟩:=h;cases rx;obtain⟨u,rfl,ru⟩:=rv.one;obtain⟨t,rfl⟩:=ru;obtain⟨z,its,n,r,hl,e⟩:=I.lstM hH;obtain⟨w,hw,rw'⟩:=r.get hy;refine call_meets F.slot_list_pop ⟨_,e,rfl⟩ F.entry_list_pop (F.args_list_pop_2 _ _)
  (MeetsSeq.list_pop_at l its.toArray n i t k w (fitsIndex_both h1 h2) (by rw [size_toArray,<- hl]; exact hk) (by rw [<- Array.getElem?_toList]; exact hw) (by rw [size_toArray]; omega)) ⟨e,?_⟩
 refine⟨y,_,I.lset (its':=its.eraseIdx k) hH e ?_ (r.eraseIdx k) ?_,rw',q⟩
 ·show its.toArray.eraseIdxIfInBounds k=(its.eraseIdx k).toArray;rw [List.eraseIdxIfInBounds_toArray]
 ·have:=zhB xs k;omega
def ziE:V->List V->Hp->VK->Prop:=fun x vs H Q=>∃ l xs,x=.ref l/\vs=[]/\H l=some (.lst xs)/\Q .non (upd H l (.lst xs.reverse))
theorem zi3:MtM X "list.reverse" ziE:=by
 intro ze s σ H x vs v us Q I rx rv h;obtain⟨l,xs,rfl,rfl,hH,q⟩:=h;cases rx;have hus:=rv.zero;subst hus;obtain⟨z,its,n,r,hl,e⟩:=I.lstM hH;refine call_meets F.slot_list_reverse ⟨_,e,rfl⟩ F.entry_list_reverse (F.args_list_reverse_1 _) (AutoSeq1.list_reverse_list_0 l its.toArray n (by rw [size_toArray]; omega)) ⟨e,?_⟩;refine⟨.non,_,I.lset (its':=its.reverse) hH e (by simp) r.reverse ?_,rfl,q⟩;rw [List.length_reverse];omega
def zov:R2:=fun x y H Q=>∃ l b xs zs,x=.ref l/\y=.ref b/\H l=some (.lst xs)/\H b=some (.lst zs)/\xs.length+zs.length<=sizeLine/\∀ p,H p=none->Q (.ref p) (upd H p (.lst (xs++zs)))
theorem zkm:OpR X (binaryOp .Add) zov:=by
 intro ze s σ H x y v u Q I rx ry h;obtain⟨l,b,xs,zs,rfl,rfl,hH,hB,hz,q⟩:=h;cases rx;cases ry;obtain⟨z,its,n,r,hl,e⟩:=I.lstM hH;obtain⟨z2,its2,n2,r2,hl2,e2⟩:=I.lstM hB;refine PySem.P.add_list e e2 ?_ (by rw [size_toArray,size_toArray]; omega);have ea:its.toArray++its2.toArray=(its++its2).toArray:=by simp
 rw [ea];exact⟨.ref _,_,I.lnew (t':=s.toks) (r.append r2) (by rw [length_append]; omega),rfl,q _ I.fresh⟩
def zrl:R2:=fun x y H Q=>∃ l k xs,x=.ref l/\y=.int k/\H l=some (.lst xs)/\-(2 ^ 63)<=k/\k<2 ^ 63/\xs.length*k.toNat<=sizeLine /\
 ∀ p,H p=none->Q (.ref p) (upd H p (.lst (List.replicate k.toNat xs).flatten))
theorem zhT{α:Type}(xs:List α)(k:Nat):(List.replicate k xs).flatten.length=k*xs.length:=by
 induction k with
 | zero=>simp
 | succ k ih=>rw [replicate_succ,flatten_cons,length_append,ih,Nat.succ_mul,Nat.add_comm]
theorem zoE:OpR X (binaryOp .Mult) zrl:=by
 intro ze s σ H x y v u Q I rx ry h;obtain⟨l,k,xs,rfl,rfl,hH,h1,h2,hz,q⟩:=h;cases rx;obtain⟨t,rfl⟩:=ry;obtain⟨z,its,n,r,hl,e⟩:=I.lstM hH;have hlen:its.toArray.size*k.toNat<=sizeLine:=by rw [size_toArray,<- hl]; exact hz
 have hcap:¬ its.toArray.size*k.toNat>(2 ^ 63 - 1) / 8:=by
  have:(sizeLine:Nat)<=(2 ^ 63 - 1) / 8:=by decide
  omega
 have hfit:¬ (!Builtin.List.listFitsIndex k)=true:=by
  rw [fitsIndex_both h1 h2];exact Bool.false_ne_true
 have hlong:¬ Builtin.List.listTooLong (its.toArray.size*k.toNat)=true:=by
  rw [zlv hlen];exact Bool.false_ne_true
 have hnew:List.foldl (fun x1 x2=>x1++x2) #[] (List.replicate (if its.toArray.isEmpty=true then 0 else k.toNat) its.toArray)=(List.replicate k.toNat its).flatten.toArray:=by
  have f0:∀ m:Nat,List.foldl (fun x1 x2=>x1++x2) #[] (List.replicate m its.toArray)=(List.replicate m its).flatten.toArray:=fun m=>by
   have:=zdH its m [];rw [nil_append] at this;exact this
  rw [f0];cases its with
  | nil=>simp
  | cons a r'=>rw [if_neg (by simp)]
 refine wpAny_binaryOp_repeat_ref (T:="list") (U:="int") dz ⟨_,e,rfl⟩ (fun s'=>typeIs_int s' k t) noFill_list_mul F.fills_int_mul F.slot_int_rmul repeat_list F.slot_int_index.lookup
  (call_meets F.slot_int_rmul (typeIs_int s k t) F.entry_int_rmul (F.args_int_rmul_2 _ _) (int___rmul___int_list k t l its.toArray n)
   ⟨e,rfl,⟨_,e,rfl⟩,call_meets F.slot_list_mul ⟨_,e,rfl⟩ F.entry_list_mul (F.args_list_mul_2 _ _) (AutoListH.list___mul___list_int_3 l its.toArray n k t hfit hcap hlong) ⟨e,?_⟩⟩)
 rw [hnew];exact⟨.ref _,_,I.lnew (t':=s.toks) (r.rep k.toNat) (by rw [zhT,mul_comm]; exact hz),rfl,q _ I.fresh⟩
end
end
section
section
variable {X:Cx} {ze:List (Addr×Obj)} {σ:St} {H:Hp} {s:Shared} {a:Addr} {y v:V} {u r:Value} {o:Option V} {A:Around} {E:Value->Shared->Prop}
theorem Inv.big(I:Inv X ze σ H s):sysModules<s.heap.objs.size:=by
 have h:mainGlobals<s.heap.objs.size:=(I.mod.glob.keeps I.bk).lt;exact Nat.lt_trans dz h
end
theorem zlZ{P:Program}{w:World}{H:Hp}(h:Heap)(hb:sysModules<h.objs.size):ObjOk P w H (h.push { cls:=.type "dict",data:=.dict #[] }) h.objs.size (.dK []) :=
 ⟨zero_le _,beq_eq_false_iff_ne.mpr (Ne.symm (ne_of_lt hb)),[],.nil,Heap.DictOf.new h⟩
def zmL:TE:=fun _ H Q=>∀ p,H p=none->Q (.ref p) (upd H p (.dK []))
section
variable {X:Cx} {pos:Pos}
theorem zif:PE X (.Dict [] [] pos) zmL:=fun ze s σ H Q I h =>
 wpAny_Dict_empty ⟨.ref s.heap.objs.size,_,I.laid (a:=s.heap.objs.size) (o:=.dK []) (t':=s.toks) (fun _ _ q=>get?_push_of_some _ q) (le_refl _) (zlZ s.heap I.big),rfl,h _ (I.hok.fresh (le_refl _))⟩
end
structure M1(X:Cx)(o:Expr)(m:Str)(apos:Pos)(e:Expr)(cpos:Pos):Prop where
 base:attributeBase o m X.env (eval o X.env)=eval o X.env
 few:((backTo cpos (starEach [e] X.env)).all (fun x=>!x.1) && (backToKw cpos (keywordEach [] X.env)).all (fun x=>x.1.isSome)
  && decide (([e]:List Expr).length+([]:List Keyword).length+(if ([]:List Keyword).isEmpty then 0 else 1)<30))=true
 line:(apos.endLine == cpos.line)=true
 trees:backTo cpos (starEach [e] X.env)=[(false,eval e X.env)]
structure M2(X:Cx)(o:Expr)(m:Str)(apos:Pos)(e f:Expr)(cpos:Pos):Prop where
 base:attributeBase o m X.env (eval o X.env)=eval o X.env
 few:((backTo cpos (starEach [e,f] X.env)).all (fun x=>!x.1) && (backToKw cpos (keywordEach [] X.env)).all (fun x=>x.1.isSome)
  && decide (([e,f]:List Expr).length+([]:List Keyword).length+(if ([]:List Keyword).isEmpty then 0 else 1)<30))=true
 line:(apos.endLine == cpos.line)=true
 trees:backTo cpos (starEach [e,f] X.env)=[(false,eval e X.env),(false,eval f X.env)]
end
end L2
namespace Att
open PySem PySem.W PySem.Calls PyProof.Rows
theorem ze0{P:Params}{h:Heap}:∀ (ns:List Int) (vs:List Value),WellAll P h vs (ns.map WData.int)->IntsAre vs ns:=by
 intro ns;induction ns with
 | nil =>
  intro vs w;rw [map_nil] at w;cases w;exact .nil
 | cons n ns ih =>
  intro vs w;rw [map_cons] at w;cases w with
  | cons a b =>
   cases a;exact .cons _ _ (ih _ b)
theorem zkX{l:OpenLaw}{n:Nat}(hn:l.most=some n){P:Params}{h:Heap}{args:List WData}{vals:List Value}
  (hpre:l.row.toRowW.claim.pre args=true) (hwl:WellAll P h vals args) :
  ∃ a vs ns,vals=[Value.ref a]/\args=[WData.list (ns.map WData.int)]/\h.get? a=some { cls:=.type "list",data:=.seq vs.toArray }/\IntsAre vs ns/\ns.length<=n:=by
 have hsh:WShape.hasAll [] args [.list .int]=true:=(pre_splitW hpre).1;have hc:l.pre.holds [] { args:=args } = true:=(pre_splitW hpre).2;obtain⟨d,r,rfl,h1,h2⟩:=hasAllW_cons hsh;obtain rfl:=hasAllW_nil h2;obtain⟨xs,rfl,h3⟩:=hasW_list h1;obtain⟨ns,rfl⟩:=items_int h3;have hlen:ns.length<=n:=by
  unfold OpenLaw.pre at hc;have h4:(WTm.not (.lt (.lit (.int (n:Int))) (.len (.arg 0)))).holds [] { args:=[.list (ns.map .int)] } = true:=by
   have h4:=(holds_andW hc).1;rw [hn] at h4;exact h4
  have h5:=condW_of h4 (w_not (w_lt w_lit (w_len_list (w_arg rfl))));rw [length_map] at h5;refine Nat.le_of_not_lt fun q=>?_;have q':(n:Int)<((ns.length:Nat):Int):=by omega
  first
   | (rw [decide_eq_true q'] at h5; exact absurd h5 dz)
   | (simp at h5; omega)
 cases hwl with
 | cons w1 w2 =>
  cases w2;cases w1 with
  | list ho hall=>exact⟨_,_,ns,rfl,rfl,ho,ze0 ns _ hall,hlen⟩
theorem zjP(l:OpenLaw)(args:List WData):l.row.toRowW.claim.post args (.bool true) args=true :=
 postW_of (r:=l.row.toRowW) (X:=(true == true))
  (show WShape.has [] (.bool true) .bool=true by first | rfl | decide | simp [WShape.has,WShape.arms,WShape.armsAll])
  (show (WTm.eq .res (.lit (.bool true))).value [] { args:=args,res:=some (.bool true),after:=args } = some (.bool (true == true)) from w_eq_bool (w_res rfl) w_lit) rfl
theorem attach_call{l:OpenLaw}{n:Nat}{q:Program}{loose:List Str}{XP:(Str->Option Value)->Heap->Prop}{YP:World->Heap->Prop}{d:DefRec}
  (hn:l.most=some n) (hdf:d.params.defaults=[])
  (call:∀ (w:World) (s₀ s₁:Shared) (mg mb:Str->Option Value) (fa:Addr) (o:Obj) (pm cd doc:Value) (a:Addr) (vs:List Value) (ns:List Int),
   Ground q loose [] XP w s₀ mg mb s₁.heap->YP w s₁.heap ->
   s₁.heap.get? fa=some o->o.data=.func (docDef d.name d.params d.body d.scope pm cd doc)->s₁.heap.CodeRec cd d.name->mg d.name=some (.ref fa) ->
   s₁.heap.get? a=some { cls:=.type "list",data:=.seq vs.toArray }->IntsAre vs ns->ns.length<=n->s₁.gens = #[] ->
   codeAny (model l.prog w) callerA (.call (.ref fa) ⟨[.ref a],[]⟩) (fun r s'=>r=.ok (.ret (.bool true))/\OldK s₁.heap s'.heap/\s'.os=s₁.os/\AllBare s'.gens) s₁) :
  WalkO q loose XP YP l.row.toRowW d [] (fun f vs=>PySem.call f vs):=by
 intro w s₀ s₁ mg mb G Y fa o pm cd doc dV kV ho hd hcd hD hmg hg args vals as hpre hlay hrd hwl hlo;obtain rfl:dV=.none:=Dflts.none hD hdf;obtain rfl:kV=.none:=Dflts.noKw hD;obtain⟨a,vs,ns,rfl,rfl,hobj,hints,hlen⟩:=zkX hn hpre hwl;refine enter_call (codeAny_mono (call w s₀ s₁ mg mb fa o pm cd doc a vs ns G Y ho (fd_plain hd) hcd hmg hobj hints hlen hg) fun r s' hq=>?_);obtain⟨rfl,h2,h3,h4⟩:=hq;exact⟨.inl ⟨.bool true,.bool true,[],rfl,fun _=>rfl,.bool true,zjP l _,fun _=>⟨List.Pairwise.nil,fun _ hm=>(nomatch hm)⟩⟩,h2,h3,h4⟩
end Att
namespace L2
open PySem PySem.Spec PyProof.Rows
section
theorem zg2:∀ {vs:List Value} {ns:List Int},IntsAre vs ns->Vals (ns.map V.int) vs
 | _,_,.nil=>.nil
 | _,_,.cons n t h=>.cons ⟨t,rfl⟩ (zg2 h)
def Only(H:Hp):Prop:=∀ b,H b=none\/(∃ o xs,H b=some (.frz o (.lst xs)))\/∃ q∈tabsG,q.1.2=b/\H b=some (.tbl q.2)
def zdL(b:Addr):Option HO:=(tabsG.find? fun q=>q.1.2 == b).map fun q=>.tbl q.2
theorem zcU{b:Addr}{u:HO}(e:zdL b=some u):∃ q∈tabsG,q.1.2=b/\u=.tbl q.2:=by
 unfold zdL at e;cases h:tabsG.find? fun q=>q.1.2 == b with
 | none=>rw [h] at e; cases e
 | some q =>
  rw [h] at e;cases e;exact⟨q,List.mem_of_find?_eq_some h,by simpa using List.find?_some h,rfl⟩
theorem zi4{l:List ((Addr×Addr)×Array Value)}(nd:(l.map fun q=>q.1.2).Nodup){q:(Addr×Addr)×Array Value}(h:q∈l):l.find? (fun r=>r.1.2 == q.1.2)=some q:=by
 induction l with
 | nil=>cases h
 | cons p l ih =>
  rw [map_cons,nodup_cons] at nd;rcases mem_cons.mp h with e | e
  ·subst e; simp
  ·have ne:¬ p.1.2=q.1.2:=fun z=>nd.1 (by rw [z]; exact List.mem_map_of_mem (f:=fun q:(Addr×Addr)×Array Value=>q.1.2) e);rw [List.find?_cons_of_neg (by simpa using ne)];exact ih nd.2 e
theorem zg4(nd:(tabsG.map fun q=>q.1.2).Nodup){q:(Addr×Addr)×Array Value}(h:q∈tabsG):zdL q.1.2=some (.tbl q.2):=by
 unfold zdL;rw [zi4 nd h];rfl
structure TabsOk(K:W.Frag)(h:Heap):Prop where
 nd:(tabsG.map fun q=>q.1.2).Nodup
 hd:∀ q∈tabsG,W.CodeHd h q.1.1 q.1.2
 empty:∀ q∈tabsG,h.get? q.1.2=some (W.tabObj #[])
 off:∀ q∈tabsG,K.lookup q.1.2=none
theorem zlW{P:Program}{w:World}{K:W.Frag}{mg mb:Str->Option Value}{CX:CXT}{k:Nat}{fa a:Addr}{fd:FuncData}{x:Str}{sp:Sp}{s₁:Shared}{vs:List Value}{ns:List Int}
  (KX:K.In s₁.heap) (TT:TabsOk K s₁.heap) (hbm:BltAt s₁.heap mg) (hns:s₁.heap.Ns mainGlobals mg) (hb:s₁.heap.Ns builtinsNs mb) (hbb:∀ x:Str,x ≠ "__name__"->mb x=bootBuiltins x) (hlim:s₁.heap.NoLimit) (hg:s₁.gens = #[])
  (ha:s₁.heap.get? a=some { cls:=.type "list",data:=.seq vs.toArray }) (hi:IntsAre vs ns) (hl:ns.length<=sizeLine) (hr:Room k callerA)
  (F:∀ base:Heap,K.In base->base.Ns mainGlobals mg->FnOk P w K mg base CX k fa fd [x] sp) (hbind:∀ (s:Shared) (u:Value),BindsTo s fd ⟨[u],[]⟩ [(x,u)])
  (hsp:∀ H:Hp,Only H->SqL K H a (ns.map V.int)->sp [.ref a] H (fun v _=>v=.bl true) fun _ _ _=>False)
  (hCX:∀ H e s',CX [] H s₁ (fun _ _ _=>False) e s'->False) :
  codeAny (model P w) callerA (.call (.ref fa) ⟨[.ref a],[]⟩) (fun r s'=>r=.ok (.ret (.bool true))/\OldK s₁.heap s'.heap/\s'.os=s₁.os/\AllBare s'.gens) s₁:=by
 have rv:=zg2 hi;have lenV:=hi.length
 -- from an abstract heap in which nothing but the script may be tracked
 have core:∀ H:Hp,Only H->SqL K H a (ns.map V.int)->HOk P w H s₁.heap->(∀ b,H b≠none->b=a\/∃ q∈tabsG,q.1.2=b)->(H a≠none->K.lookup a=none)->(∀ q∈tabsG,H q.1.2=some (.tbl q.2)) ->
   codeAny (model P w) callerA (.call (.ref fa) ⟨[.ref a],[]⟩) (fun r s'=>r=.ok (.ret (.bool true))/\OldK s₁.heap s'.heap/\s'.os=s₁.os/\AllBare s'.gens) s₁:=by
  intro H hO hS hok hA hK hTab;have noO:∀ {b:Addr} {o:Obj},s₁.heap.get? b=some o->o.cls≠.type "list"->o.cls≠.none->H b=none:=fun {b o} e c1 c2=>by
   cases q:H b with
   | none=>rfl
   | some u =>
    rcases hA b (by rw [q]; simp) with e' | ⟨r,hr',e'⟩
    ·subst e';rw [ha] at e; cases e;exact absurd rfl c1
    ·have:=TT.empty r hr';rw [e',e] at this;cases this;exact absurd rfl c2
  have base_of:∀ {b:Addr} {o:Obj},s₁.heap.get? b=some o->H b=none->(zlC s₁.heap H).get? b=some o:=fun e n=>zlM e n;have noA:∀ {b:Addr} {o:Obj} {es:Array DictEntry} {ep:Nat},s₁.heap.get? b=some o->o.data=.dict es ep->H b=none:=fun {b o es ep} e d=>by
   cases q:H b with
   | none=>rfl
   | some u =>
    rcases hA b (by rw [q]; simp) with e' | ⟨r,hr',e'⟩
    ·subst e';rw [ha] at e; cases e;have d':Data.seq vs.toArray _=Data.dict es ep:=d;cases d'
    ·have:=TT.empty r hr';rw [e',e] at this;cases this;cases d
  have nsK:∀ {b:Addr} {m:Str->Option Value},s₁.heap.Ns b m->(zlC s₁.heap H).Ns b m:=fun {b m} ⟨o,es,ep,e,d,r⟩=>⟨o,es,ep,base_of e (noA e d),d,r⟩;have hKb:K.In (zlC s₁.heap H):=fun b o e=>base_of (KX b o e) (by
   cases q:H b with
   | none=>rfl
   | some u =>
    rcases hA b (by rw [q]; simp) with e' | ⟨r,hr',e'⟩
    ·subst e';rw [hK (by rw [q]; simp)] at e; cases e
    ·rw [<- e',TT.off r hr'] at e; cases e)
  have hM:Mod K mg (zlC s₁.heap H):=⟨hKb,nsK hns,⟨mb,nsK hb,hbb⟩,let ⟨mc,h1,h2⟩:=hlim; ⟨mc,nsK h1,h2⟩,
   let ⟨bm,ob,b1,b2,b3,b4,b5⟩:=hbm; ⟨bm,ob,b1,b2,base_of b3 (noO b3 (by rw [b4]; decide) (by rw [b4]; decide)),b4,b5⟩,
   fun q hq=>let ⟨o,vs,file,tf,flags,tg,inF,text,tt,e1,c1,r⟩:=TT.hd q hq; ⟨o,vs,file,tf,flags,tg,inF,text,tt,base_of e1 (noO e1 (by rw [c1]; decide) (by rw [c1]; decide)),c1,r⟩⟩
  have e0:Env0 P w K mg (zlC s₁.heap H) callerA [] s₁ H:=⟨rfl,hM,fun b o e=>zof e,Nat.le_of_eq (zk8 _ _),trivial,⟨fun b hb=>absurd (show b∈([]:List Addr) from hb) (by simp),hTab⟩,hok,.of_eq hg⟩;refine codeAny_mono ((F _ hKb (nsK hns)).run callerA [] s₁ H ⟨[.ref a],[]⟩ [.ref a] [.ref a] _ _ hr e0 (hbind s₁ (.ref a)) (.cons rfl .nil) (hsp H hO hS)) fun r s' h=>?_;cases r with
  | error e=>exact(hCX H e s' h).elim
  | ok fl =>
   cases fl with
   | next=>exact False.elim h
   | brk=>exact False.elim h
   | cont=>exact False.elim h
   | ret u =>
    obtain⟨v,H',os,bare,un,hok',r',q⟩:=h;have q':v=.bl true:=q;subst q';obtain rfl:u=Value.bool true:=r';have all:∀ b o,s₁.heap.get? b=some o->s'.heap.get? b=some o\/∃ q∈tabsG,q.1.2=b/\o=W.tabObj #[]/\∃ ps,s'.heap.get? b=some (W.tabObj ps):=fun b o e=>by
     cases q:H b with
     | none=>exact .inl (un.keep b o e q (by intro z; exact absurd (show b∈([]:List Addr) from z) (by simp)) (by simp))
     | some u =>
      rcases hO b with z | ⟨ob,xs,z⟩ | ⟨r,hr',e',z⟩
      ·rw [q] at z; cases z
      ·have z2:=un.frzs b ob _ z;obtain⟨e1,_⟩:=hok b _ z;obtain⟨e2,_⟩:=hok' b _ z2;rw [e] at e1; cases e1;exact .inl e2
      ·obtain⟨qs,e2,_⟩:=hok' b _ (un.tbls b _ z);have:=TT.empty r hr';rw [e',e] at this;cases this;exact .inr ⟨r,hr',e',rfl,qs,e2⟩
    refine⟨rfl,⟨fun b o e=>?_,fun b o e=>?_⟩,os,bare⟩
    ·rcases all b o e with z | ⟨r,hr',rfl,rfl,ps,z⟩
     ·exact .inl z
     ·exact .inr (.inl ⟨((TT.hd r hr').tab (TT.empty r hr')).isCodeTable,rfl,#[],ps,rfl,by rw [Array.empty_append]; exact z⟩)
    ·rcases all b o e with z | ⟨r,hr',rfl,rfl,ps,z⟩
     ·exact⟨o,z⟩
     ·exact⟨_,z⟩
 have naT:∀ q∈tabsG,q.1.2≠a:=fun q hq z=>by
  have:=TT.empty q hq;rw [z,ha] at this;cases this
 have tOk:∀ (H:Hp) (b:Addr) (u:HO),zdL b=some u->ObjOk P w H s₁.heap b u:=fun H b u z=>by
  obtain⟨q,hq,rfl,rfl⟩:=zcU z;exact⟨#[],TT.empty q hq,.inl rfl⟩
 cases hk:K.lookup a with
 | some o =>
  -- the script is one of the module's own objects
  have e:=KX a o hk;rw [ha] at e;cases e;refine core zdL (fun b=>?_) (.inr ⟨_,vs.toArray,_,hk,rfl,rfl,rfl,by rw [size_toArray,lenV]; exact hl,by simpa using rv⟩) (tOk zdL) (fun b z=>?_) (fun z=>?_) fun q hq=>zg4 TT.nd hq
  ·cases q:zdL b with
   | none=>exact .inl rfl
   | some u=>obtain⟨r,hr',e',rfl⟩:=zcU q; exact .inr (.inr ⟨r,hr',e',rfl⟩)
  ·cases q:zdL b with
   | none=>exact absurd q z
   | some u=>obtain⟨r,hr',e',_⟩:=zcU q; exact .inr ⟨r,hr',e'⟩
  ·cases q:zdL a with
   | none=>exact absurd q z
   | some u=>obtain⟨r,hr',e',_⟩:=zcU q; exact absurd e' (naT r hr')
 | none =>
  refine core (fun b=>if b=a then some (.frz { cls:=.type "list",data:=.seq vs.toArray } (.lst (ns.map V.int))) else zdL b) (fun b=>?_) (.inl (.inr ⟨{ cls:=.type "list",data:=.seq vs.toArray },if_pos rfl⟩)) (fun b u z=>?_) (fun b z=>?_) (fun _=>hk) fun q hq=>(if_neg (naT q hq)).trans (zg4 TT.nd hq)
  ·by_cases hb:b=a
   ·exact .inr (.inl ⟨_,_,if_pos hb⟩)
   ·cases q:zdL b with
    | none=>exact .inl ((if_neg hb).trans q)
    | some u=>obtain⟨r,hr',e',rfl⟩:=zcU q; exact .inr (.inr ⟨r,hr',e',(if_neg hb).trans q⟩)
  ·by_cases hb:b=a
   ·have z':=(if_pos hb).symm.trans z;cases z';subst hb;exact⟨ha,by rw [length_map]; exact hl,vs,_,rv,ha⟩
   ·have z':=(if_neg hb).symm.trans z;exact tOk _ b u z'
  ·by_cases hb:b=a
   ·exact .inl hb
   ·cases q:zdL b with
    | none=>exact absurd ((if_neg hb).trans q) z
    | some u=>obtain⟨r,hr',e',_⟩:=zcU q; exact .inr ⟨r,hr',e'⟩
end
section
abbrev KOf {K:W.Frag} {h:Heap} (_:K.In h):W.Frag:=K
theorem walk_of{l:W.OpenLaw}{n k:Nat}{q:Program}{loose:List Str}{XP:(Str->Option Value)->Heap->Prop}{YP:World->Heap->Prop}{d:DefRec}{K:Params->W.Frag}{CX:World->CXT}{sp:World->Sp}{x:Str}
  (hn:l.most=some n) (hn2:n<=sizeLine) (hdf:d.params.defaults=[]) (hr:Room k callerA)
  (hY:∀ (w:World) (h:Heap),YP w h->(K w.params).In h)
  (hT:∀ (w:World) (h:Heap),YP w h->TabsOk (K w.params) h)
  (F:∀ (w:World) (mg:Str->Option Value) (fa:Addr) (h:Heap),(K w.params).In h->h.Ns mainGlobals mg->mg d.name=some (.ref fa) ->
   ∃ fd:FuncData,(∀ (s:Shared) (u:Value),BindsTo s fd ⟨[u],[]⟩ [(x,u)]) /\
    ∀ base:Heap,(K w.params).In base->base.Ns mainGlobals mg->FnOk l.prog w (K w.params) mg base (CX w) k fa fd [x] (sp w))
  (hsp:∀ (w:World) (H:Hp) (a:Addr) (ns:List Int),ns.length<=n->Only H->SqL (K w.params) H a (ns.map V.int)->sp w [.ref a] H (fun v _=>v=.bl true) fun _ _ _=>False)
  (hCX:∀ (w:World) (H:Hp) (s:Shared) (e:Value) (s':Shared),CX w [] H s (fun _ _ _=>False) e s'->False) :
  W.WalkO q loose XP YP l.row.toRowW d [] (fun f vs=>PySem.call f vs):=by
 refine Att.attach_call hn hdf fun w s₀ s₁ mg mb fa o pm cd doc a vs ns G Y ho hd hcd hmg hobj hints hlen hg=>?_;have KX:=hY w _ Y;obtain⟨fd,hb,hF⟩:=F w mg fa _ KX G.T.g hmg;exact zlW KX (hT w _ Y) (let ⟨bm,ob,a1,a2,a3,a4,a5,a6⟩:=G.T.bmain; ⟨bm,ob,a1,a2,a3,a4,a5,a6⟩) G.T.g G.T.b G.T.builtins G.T.nolimit hg hobj hints (le_trans hlen hn2) hr hF hb (fun H hO hS=>hsp w H a ns hlen hO hS) fun H e s'=>hCX w H s₁ e s'
end
section
def znx(s:Stmt)(j:Nat):Stmt:=match s with
 | .ClassDef _ _ _ body _ _ _ _ _ _ _=>body.getD j (.Pass ⟨0,0,0,0⟩)
 | _=>.Pass ⟨0,0,0,0⟩
def zco(s:Stmt):Arguments:=match s with
 | .FunctionDef _ a _ _ _ _ _ _ _ _=>a
 | _=>{ posonlyargs:=[],args:=[],vararg:=none,kwonlyargs:=[],kw_defaults:=[],kwarg:=none,defaults:=[] }
def zaD(s:Stmt):List Stmt:=match s with
 | .FunctionDef _ _ b _ _ _ _ _ _ _=>b
 | _=>[]
def zg(s:Stmt):Scope:=match s with
 | .FunctionDef _ _ _ _ _ _ sc _ _ _=>sc
 | _=>{ kind:=.function,names:=[],isGenerator:=false,isCoroutine:=false }
abbrev CX0:CXT:=fun _ _ _ _ _ _=>False
abbrev E0:XK:=fun _ _ _=>False
theorem pass0{X:Cx}:Passes CX0 X E0:=fun _ _ _ _ _ _ _ h=>h.elim
structure Fun(K:W.Frag)(x qual:Str)(st:Stmt)(f:Addr)(fd:FuncData):Prop where
 ex:∃ (oc:Value) (od:Option Addr) (kV doc pm:Value) (an:Option Addr) (cdv ct:Value) (osl:Array (Option Value)),
  fd=W.fnOf x qual (zco st) (zaD st) (zg st) .none kV doc pm an cdv ct/\K.lookup f=some ⟨oc,od,.func fd,osl⟩/\W.codeIn K cdv qual=true
 kp:W.keepIn K (.ref f)=true
section
variable {P:Program} {w:World} {K:W.Frag} {mg:Str->Option Value} {base:Heap}
theorem Fun.ok{x qual:Str}{st:Stmt}{f:Addr}{fd:FuncData}{N ps:List Str}{k:Nat}{sp:Sp}(F:Fun K x qual st f fd)(S:FnScope N ps (zg st))(len:∀ vs H Q E,sp vs H Q E->vs.length=ps.length)
  (hbody:∀ (cdv:Value) (A:Around) (outer:List Env) (s:Shared) (H:Hp) (vs:List V) (Q:VK) (E:XK),Room k (A.deeper (envOfC qual (zg st) s.heap.objs.size f cdv))->sp vs H Q E ->
   ∃ t,PSs (zfE CX0 P w K mg base N qual (zg st) f cdv A outer s H E).nox (zaD st) t/\t { nx:=fun _ H'=>Q .non H',rt:=Q } (start N vs) H):FnOk P w K mg base CX0 (k+1) f fd ps sp:=by
 obtain⟨oc,od,kV,doc,pm,an,cdv,ct,osl,rfl,lk,hcd⟩:=F.ex;refine zpP lk hcd S len fun A outer s H vs Q E hr hsp=>?_;obtain⟨t,h,q⟩:=hbody cdv A outer s H vs Q E hr hsp;exact⟨t,h.nox,q⟩
theorem Fun.binds{x qual:Str}{st:Stmt}{f:Addr}{fd:FuncData}{ps:List Str}(F:Fun K x qual st f fd)
  (h:∀ (kV doc pm:Value) (an:Option Addr) (cdv ct:Value) (us:List Value),us.length=ps.length->bindArgs (W.fnOf x qual (zco st) (zaD st) (zg st) .none kV doc pm an cdv ct) ⟨us,[]⟩=pure (ps.zip us)):Binds K fd ps []:=by
 obtain⟨oc,od,kV,doc,pm,an,cdv,ct,osl,rfl,lk,hcd⟩:=F.ex;exact .all (h kV doc pm an cdv ct)
theorem zih{x qual:Str}{st:Stmt}{f:Addr}{oc:Value}{od an:Option Addr}{osl:Array (Option Value)}{kV doc pm cdv ct:Value}(l:K.lookup f=some ⟨oc,od,.func (W.fnOf x qual (zco st) (zaD st) (zg st) .none kV doc pm an cdv ct),osl⟩)
  (c:W.codeIn K cdv qual=true) (k:W.keepIn K (.ref f)=true):Fun K x qual st f (W.fnOf x qual (zco st) (zaD st) (zg st) .none kV doc pm an cdv ct):=⟨⟨oc,od,kV,doc,pm,an,cdv,ct,osl,rfl,l,c⟩,k⟩
end
theorem small1000{n:Nat}(h:n<=1000):n<sizeLine:=Nat.lt_of_le_of_lt h dz
section
variable {X:Cx}
theorem pv(i:Nat){x:Str}{pos:Pos}(hN:X.N[i]? = some x:=by rfl)(hv:Vis X.env.scope x:=by first | exact Or.inl rfl | exact Or.inr (Or.inl rfl) | exact Or.inr (Or.inr rfl))(hd:(x == ("__debug__":Str))=false:=by decide)
  (hcd:(x == ("__classdict__":Str))=false:=by decide):PE X (.Name x pos) (zjD i):=zqe hN hv hd hcd
end
theorem zox{A B:Prop}(h:B):if false=true then A else B:=by
 rw [if_neg Bool.false_ne_true];exact h
theorem zow{A B:Prop}(h:A):if true=true then A else B:=by
 rw [if_pos rfl];exact h
theorem ite2{c A B:Prop}[Decidable c](h1:c->A)(h2:¬ c->B):if c then A else B:=by
 by_cases h:c
 ·rw [if_pos h];exact h1 h
 ·rw [if_neg h];exact h2 h
def Same(H H':Hp):Prop:=∀ b o,H b=some o->H' b=some o
theorem Same.refl(H:Hp):Same H H:=fun _ _ h=>h
theorem Same.trans{H H1 H2:Hp}(a:Same H H1)(b:Same H1 H2):Same H H2:=fun c o h=>b c o (a c o h)
theorem Same.seq{K:W.Frag}{H H':Hp}{a:Addr}{xs:List V}(e:Same H H')(h:SqL K H a xs):SqL K H' a xs:=by
 rcases h with (h | ⟨o,h⟩) | h
 ·exact .inl (.inl (e _ _ h))
 ·exact .inl (.inr ⟨o,e _ _ h⟩)
 ·exact .inr h
end
section
section
variable {X:Cx}
def CDivX(i j:Int):Prop:=0<j/\j.natAbs.log2<9000
theorem zma:OpR X (binaryOp .FloorDiv) (rI CDivX fun i j=>.int (i / j)):=opI fun i j _ _ _ _ _ hc q=>by
 have h1:(0:Int)<j:=hc.1;exact floordiv_int (by omega) (by rw [Int.fdiv_eq_ediv_of_nonneg i (by omega)]; exact q) (.inl (PyProof.noPylong_of_log2 hc.2))
theorem znu:OpR X (binaryOp .Mult) (rI IntMulOk fun i j=>.int (i*j)):=opI fun _ _ _ _ _ _ _ hc q=>mul_int q hc
theorem zkA{k:Int}{n:Nat}(h:k.natAbs<2 ^ n):Builtin.Int.intBits k<=n:=by
 unfold Builtin.Int.intBits;split
 ·exact zero_le _
 ·rename_i h0;have hk:k.natAbs≠0:=by
   intro z;apply h0;rw [Int.natAbs_eq_zero.mp z];rfl
  have:=(Nat.log2_lt hk).mpr h;omega
theorem zqN{i j:Int}(n m:Nat)(hi:i.natAbs<2 ^ n)(hj:j.natAbs<2 ^ m)(hn:n<=2 ^ 20:=by decide)(hm:m<=2 ^ 20:=by decide):IntMulOk i j :=
 .of_bits (le_trans (zkA hi) hn) (le_trans (zkA hj) hm)
theorem zfO{i j:Int}(h1:-(2 ^ 64)<i)(h2:i<2 ^ 64):IntMulOk i j:=.of_left (intBits_le_64 h1 h2)
theorem zcV{n:Int}{k:Nat}(h0:0<n)(h:n<2 ^ k):n.natAbs.log2<k:=by
 refine(Nat.log2_lt (by omega)).mpr ?_;have e:((2 ^ k:Nat):Int)=(2:Int) ^ k:=by simp
 omega
end
def kD:Key->PyData
 | .inl i=>.int i
 | .inr x=>.str x
def DOf(H:Hp)(a:Addr)(ks:List PyData)(vs:List V):Prop :=
 (∃ (ob:Obj) (m:List (Key×V)),H a=some (.frz ob (.dK m))/\ks=m.map (fun p=>kD p.1)/\vs=m.map (·.2)) \/
 ∃ (ob:Obj) (p:List Key×V) (m:List (List Key×V)),H a=some (.frz ob (.dT (p :: m)))/\ks=(p :: m).map (fun p=>.tuple (p.1.map kD))/\vs=(p :: m).map (·.2)
mutual
def Has(H:Hp):PyData->V->Prop
 | .none,v=>v=.non
 | .bool b,v=>v=.bl b
 | .int i,v=>v=.int i
 | .str x,v=>v=.str x
 | .list ds,v=>∃ a vs,v=.ref a/\H a=some (.lst vs)/\HasL H ds vs
 | .tuple ds,v=>∃ a vs,v=.ref a/\H a=some (.tup vs)/\HasL H ds vs
 | .dict kvs,v=>∃ a vs,v=.ref a/\DOf H a (kvs.map (·.1)) vs/\HasV H kvs vs
def HasL(H:Hp):List PyData->List V->Prop
 | [],vs=>vs=[]
 | d :: ds,vs=>∃ v r,vs=v :: r/\Has H d v/\HasL H ds r
def HasV(H:Hp):List (PyData×PyData)->List V->Prop
 | [],vs=>vs=[]
 | p :: ps,vs=>∃ v r,vs=v :: r/\HasP H p v/\HasV H ps r
def HasP(H:Hp):PyData×PyData->V->Prop
 | (_,d),v=>Has H d v
end
mutual
theorem Has.mono{H H':Hp}(s:Same H H'):∀ (d:PyData) (v:V),Has H d v->Has H' d v
 | .none,_,h=>by simp only [Has] at h ⊢; exact h
 | .bool _,_,h=>by simp only [Has] at h ⊢; exact h
 | .int _,_,h=>by simp only [Has] at h ⊢; exact h
 | .str _,_,h=>by simp only [Has] at h ⊢; exact h
 | .list ds,v,h=>by
  simp only [Has] at h ⊢;obtain⟨a,vs,e,q,l⟩:=h;exact⟨a,vs,e,s _ _ q,HasL.mono s ds vs l⟩
 | .tuple ds,v,h=>by
  simp only [Has] at h ⊢;obtain⟨a,vs,e,q,l⟩:=h;exact⟨a,vs,e,s _ _ q,HasL.mono s ds vs l⟩
 | .dict kvs,v,h=>by
  simp only [Has] at h ⊢;obtain⟨a,vs,e,q,l⟩:=h;refine⟨a,vs,e,?_,HasV.mono s kvs vs l⟩;rcases q with ⟨ob,m,e1,e2⟩ | ⟨ob,p,m,e1,e2⟩
  ·exact .inl ⟨ob,m,s _ _ e1,e2⟩
  ·exact .inr ⟨ob,p,m,s _ _ e1,e2⟩
theorem HasL.mono{H H':Hp}(s:Same H H'):∀ (ds:List PyData) (vs:List V),HasL H ds vs->HasL H' ds vs
 | [],_,h=>by simp only [HasL] at h ⊢; exact h
 | d :: ds,vs,h=>by
  simp only [HasL] at h ⊢;obtain⟨v,r,e,q,l⟩:=h;exact⟨v,r,e,Has.mono s d v q,HasL.mono s ds r l⟩
theorem HasV.mono{H H':Hp}(s:Same H H'):∀ (ds:List (PyData×PyData)) (vs:List V),HasV H ds vs->HasV H' ds vs
 | [],_,h=>by simp only [HasV] at h ⊢; exact h
 | d :: ds,vs,h=>by
  simp only [HasV] at h ⊢;obtain⟨v,r,e,q,l⟩:=h;exact⟨v,r,e,HasP.mono s d v q,HasV.mono s ds r l⟩
theorem HasP.mono{H H':Hp}(s:Same H H'):∀ (p:PyData×PyData) (v:V),HasP H p v->HasP H' p v
 | (_,d),v,h=>by
  simp only [HasP] at h ⊢;exact Has.mono s d v h
end
section
variable {H:Hp} {v:V}
theorem zbF:Has H .none v↔v=.non:=by simp only [Has]
theorem zbj{b:Bool}:Has H (.bool b) v↔v=.bl b:=by simp only [Has]
theorem zbA{i:Int}:Has H (.int i) v↔v=.int i:=by simp only [Has]
theorem zb3{x:Str}:Has H (.str x) v↔v=.str x:=by simp only [Has]
theorem zaf{ds:List PyData}:Has H (.list ds) v↔∃ a vs,v=.ref a/\H a=some (.lst vs)/\HasL H ds vs:=by simp only [Has]
theorem zah{ds:List PyData}:Has H (.tuple ds) v↔∃ a vs,v=.ref a/\H a=some (.tup vs)/\HasL H ds vs:=by simp only [Has]
theorem zeq{kvs:List (PyData×PyData)}:Has H (.dict kvs) v↔∃ a vs,v=.ref a/\DOf H a (kvs.map (·.1)) vs/\HasV H kvs vs:=by simp only [Has]
theorem zl8{vs:List V}:HasV H [] vs↔vs=[]:=by simp only [HasV]
theorem zF{vs:List V}:HasL H [] vs↔vs=[]:=by simp only [HasL]
theorem zt{d:PyData}{ds:List PyData}{vs:List V}:HasL H (d :: ds) vs↔∃ v r,vs=v :: r/\Has H d v/\HasL H ds r:=by simp only [HasL]
theorem HasL.length:∀ {ds:List PyData} {vs:List V},HasL H ds vs->vs.length=ds.length
 | [],_,h=>by rw [zF.mp h]; rfl
 | d :: ds,vs,h=>by
  obtain⟨v,r,e,_,l⟩:=zt.mp h;rw [e,length_cons,length_cons,HasL.length l]
theorem HasL.get:∀ {ds:List PyData} {vs:List V} {i:Nat} {d:PyData},HasL H ds vs->ds[i]? = some d->∃ v,vs[i]? = some v/\Has H d v
 | [],_,_,_,_,e=>by simp at e
 | c :: ds,vs,0,d,h,e=>by
  obtain⟨v,r,rfl,q,_⟩:=zt.mp h;simp at e;subst e;exact⟨v,rfl,q⟩
 | c :: ds,vs,i+1,d,h,e=>by
  obtain⟨v,r,rfl,_,l⟩:=zt.mp h;obtain⟨u,e1,e2⟩:=HasL.get (i:=i) (d:=d) l (by simpa using e);exact⟨u,by simpa using e1,e2⟩
theorem HasL.append:∀ {ds es:List PyData} {vs us:List V},HasL H ds vs->HasL H es us->HasL H (ds++es) (vs++us)
 | [],es,vs,us,h,h'=>by rw [zF.mp h]; exact h'
 | d :: ds,es,vs,us,h,h'=>by
  obtain⟨v,r,rfl,q,l⟩:=zt.mp h;exact zt.mpr ⟨v,r++us,rfl,q,HasL.append l h'⟩
end
def tyD:PyData->String
 | .none=>"NoneType" | .bool _=>"bool" | .int _=>"int" | .str _=>"str" | .list _=>"list" | .tuple _=>"tuple" | .dict _=>"dict"
theorem Has.ty{K:W.Frag}{H:Hp}{d:PyData}{v:V}(h:Has H d v):TyOf K H v (.type (tyD d)):=by
 cases d with
 | none=>rw [zbF.mp h]; exact .non
 | bool b=>rw [zbj.mp h]; exact .bl b
 | int i=>rw [zbA.mp h]; exact .int i
 | str x=>rw [zb3.mp h]; exact .str x
 | list ds=>obtain⟨a,vs,rfl,e,_⟩:=zaf.mp h; exact .lst e
 | tuple ds=>obtain⟨a,vs,rfl,e,_⟩:=zah.mp h; exact .tup e
 | dict kvs =>
  obtain⟨a,vs,rfl,e,_⟩:=zeq.mp h;rcases e with ⟨ob,m,e,_⟩ | ⟨ob,p,m,e,_⟩
  ·exact .dK (.inr ⟨ob,e⟩)
  ·exact .dT (.inr ⟨ob,e⟩)
def zqp:List String:=["NoneType","bool","int","str","list","tuple","dict"]
def zlI:List String:=["int","bool","str","list","tuple","dict"]
def zle(t c:String):Bool:=t == c || (t == "bool" && c == "int")
def zna(d:PyData)(c:String):Bool:=zle (tyD d) c
theorem zny(d:PyData):tyD d∈zqp:=by cases d <;> simp [tyD,zqp]
theorem zor(K:W.Frag){t c:String}(ht:t∈zqp)(hc:c∈zlI):W.kitOne K (.type t) (.type c)=some (zle t c):=by
 simp only [zqp,zlI,mem_cons,not_mem_nil,or_false] at ht hc;rcases ht with rfl | rfl | rfl | rfl | rfl | rfl | rfl <;> rcases hc with rfl | rfl | rfl | rfl | rfl | rfl <;> rfl
def zqZ:List V->Hp->VK->Prop
 | [x,.ty c],H,Q=>∃ d,Has H d x/\c∈zlI/\Q (.bl (zna d c)) H
 | _,_,_=>False
theorem zn8{H:Hp}{d:PyData}{x:V}{c:String}{Q:VK}(h:Has H d x)(hc:c∈zlI)(q:Q (.bl (zna d c)) H):zqZ [x,.ty c] H Q:=⟨d,h,hc,q⟩
section
variable {X:Cx}
theorem zar:CallR X (.builtin "isinstance") zqZ:=by
 intro ze s σ H xs us Q I r h
 match xs,h with
 | [x,.ty c],h =>
  obtain⟨d,hx,hc,q⟩:=h;obtain⟨u,w',rfl,ru,rw'⟩:=vals2 r;cases (show w'=Value.type c from rw');exact zkp I ru hx.ty (zor X.K (zny d) hc) fun tk=>⟨.bl _,H,I.tok tk,rfl,q⟩
end
def sp1(p:V->Hp->VK->Prop):Sp:=fun vs H Q _=>match vs with | [x]=>p x H Q | _=>False
def sp2(p:V->V->Hp->VK->Prop):Sp:=fun vs H Q _=>match vs with | [x,y]=>p x y H Q | _=>False
theorem zkU{p:V->Hp->VK->Prop}:∀ (vs:List V) (H:Hp) (Q:VK) (E:XK),sp1 p vs H Q E->∃ x,vs=[x]/\p x H Q:=by
 intro vs H Q E h
 match vs,h with
 | [x],h=>exact⟨x,rfl,h⟩
theorem zkD{p:V->V->Hp->VK->Prop}:∀ (vs:List V) (H:Hp) (Q:VK) (E:XK),sp2 p vs H Q E->∃ x y,vs=[x,y]/\p x y H Q:=by
 intro vs H Q E h
 match vs,h with
 | [x,y],h=>exact⟨x,y,rfl,h⟩
structure Dd(K:W.Frag)(mg:Str->Option Value)(x:Str)(st:Stmt)(ps:List Str):Prop where
 ex:∃ f fd,Fun K x x st f fd/\mg x=some (.ref f)/\Binds K fd ps []
structure Df(P:Program)(w:World)(K:W.Frag)(mg:Str->Option Value)(base:Heap)(x:Str)(ps:List Str)(k:Nat)(sp:Sp):Prop where
 ex:∃ f fd,FnOk P w K mg base CX0 k f fd ps sp/\mg x=some (.ref f)/\W.keepIn K (.ref f)=true/\Binds K fd ps []
section
variable {P:Program} {w:World} {K:W.Frag} {mg:Str->Option Value} {base:Heap} {x a b c d e:Str} {st:Stmt} {N:List Str} {k:Nat}
theorem Df.of{ps:List Str}{sp:Sp}(D:Dd K mg x st ps)(S:FnScope N ps (zg st))(len:∀ vs H Q E,sp vs H Q E->vs.length=ps.length)
  (hbody:∀ (f:Addr) (cdv:Value) (A:Around) (outer:List Env) (s:Shared) (H:Hp) (vs:List V) (Q:VK) (E:XK),Room k (A.deeper (envOfC x (zg st) s.heap.objs.size f cdv))->sp vs H Q E ->
   ∃ t,PSs (zfE CX0 P w K mg base N x (zg st) f cdv A outer s H E).nox (zaD st) t/\t { nx:=fun _ H'=>Q .non H',rt:=Q } (start N vs) H):Df P w K mg base x ps (k+1) sp:=by
 obtain⟨f,fd,F,hm,hb⟩:=D.ex;exact⟨f,fd,F.ok S len (hbody f),hm,F.kp,hb⟩
theorem Df.of2{p:V->V->Hp->VK->Prop}(D:Dd K mg x st [a,b])(S:FnScope N [a,b] (zg st))(σ0:V->V->St)(hs:∀ v u,start N [v,u]=σ0 v u)
  (hbody:∀ (f:Addr) (cdv:Value) (A:Around) (outer:List Env) (s:Shared) (H:Hp) (v u:V) (Q:VK) (E:XK),Room k (A.deeper (envOfC x (zg st) s.heap.objs.size f cdv))->p v u H Q ->
   ∃ t,PSs (zfE CX0 P w K mg base N x (zg st) f cdv A outer s H E).nox (zaD st) t/\t { nx:=fun _ H'=>Q .non H',rt:=Q } (σ0 v u) H):Df P w K mg base x [a,b] (k+1) (sp2 p):=by
 refine Df.of D S (fun vs H Q E h=>?_) fun f cdv A outer s H vs Q E hr h=>?_
 ·obtain⟨x,y,rfl,_⟩:=zkD vs H Q E h;rfl
 ·obtain⟨x,y,rfl,h⟩:=zkD vs H Q E h;rw [hs];exact hbody f cdv A outer s H x y Q E hr h
end
def tC2(p:V->V->Hp->VK->Prop)(ta tb:TE):TE:=fun σ H Q=>ta σ H fun x H1=>tb σ H1 fun y H2=>p x y H2 Q
section
variable {X:Cx} {x a b c d e':Str} {k j:Nat} {pos pos':Pos} {e1 e2 e3 e4 e5:Expr} {t1 t2 t3 t4 t5:TE}
theorem zpO{p:V->V->Hp->VK->Prop}(D:Df X.prog X.w X.K X.mg X.base x [a,b] k (sp2 p))(hr:Room j X.A)(hk:k<=j)(h1:PE X e1 t1)(h2:PE X e2 t2)(hg:Gl X x:=by rfl)(hdb:(x == ("__debug__":Str))=false:=by decide)
  (q1:starEach [e1,e2] X.env=(false,eval e1 X.env) :: starEach [e2] X.env:=by rfl) (q2:starEach [e2] X.env=(false,eval e2 X.env) :: starEach [] X.env:=by rfl)
  (hpl:(backTo pos (starEach [e2] X.env)).any (·.1)=false:=by rfl):PE X (.Call (.Name x pos') [e1,e2] [] pos) (tC2 p t1 t2):=by
 obtain⟨f,fd,F,hm,kp,hb⟩:=D.ex;intro ze s σ H Q I h;exact zkQ (dvs:=[]) (ds:=[]) (E:=E0) F (hr.mono hk) hg hm kp hb .nil pass0 (za h1 (za h2 zc q2) q1) hdb q1 hpl ze s σ H Q I h
end
theorem Dd.mk'{K:W.Frag}{h:Heap}{mg:Str->Option Value}(X:K.In h)(G:h.Ns mainGlobals mg){x:Str}{st:Stmt}{ps:List Str}{f:Addr}{oc:Value}{od an:Option Addr}{osl:Array (Option Value)}{kV doc pm cdv ct:Value}
  (a:W.nsIn K mainGlobals x=some (some (.ref f))) (l:K.lookup f=some ⟨oc,od,.func (W.fnOf x x (zco st) (zaD st) (zg st) .none kV doc pm an cdv ct),osl⟩)
  (c:W.codeIn K cdv x=true) (k:W.keepIn K (.ref f)=true)
  (hb:∀ (kV doc pm:Value) (an:Option Addr) (cdv ct:Value) (us:List Value),us.length=ps.length->bindArgs (W.fnOf x x (zco st) (zaD st) (zg st) .none kV doc pm an cdv ct) ⟨us,[]⟩=pure (ps.zip us)):Dd K mg x st ps :=
 ⟨f,_,zih (st:=st) l c k,W.mg_of X G a,(zih (st:=st) l c k).binds hb⟩
theorem zY:bootBuiltins "len" = some (.builtin "len"):=by decide +kernel
theorem zp:bootBuiltins "isinstance" = some (.builtin "isinstance"):=by decide +kernel
theorem zm2:bootBuiltins "max" = some (.builtin "max"):=by decide +kernel
theorem zoS:bootBuiltins "min" = some (.builtin "min"):=by decide +kernel
theorem zoy:bootBuiltins "abs" = some (.builtin "abs"):=by decide +kernel
theorem ziN:bootBuiltins "int" = some (.type "int"):=by decide +kernel
theorem zf8:bootBuiltins "bool" = some (.type "bool"):=by decide +kernel
theorem zdV:bootBuiltins "list" = some (.type "list"):=by decide +kernel
theorem zag:bootBuiltins "tuple" = some (.type "tuple"):=by decide +kernel
section
variable {H:Hp} {Q:VK}
theorem zlw{i:Nat}{σ:St}:zjD i σ H Q↔match σ[i]? with | some (some v)=>Q v H | _=>False:=by
 unfold zjD;constructor
 ·rintro⟨v,e,q⟩;rw [e];exact q
 ·intro h;split at h
  ·rename_i v e;exact⟨v,e,h⟩
  ·exact h.elim
theorem zjF{g:Int->Int->V}{i j:Int}:rI0 g (.int i) (.int j) H Q↔Q (g i j) H :=
 ⟨fun⟨_,_,e1,e2,q⟩=>by cases e1; cases e2; exact q,fun q=>⟨i,j,rfl,rfl,q⟩⟩
theorem zqR{p:Bool->Prop}{b:Bool}:(∃ c,V.bl b=V.bl c/\p c)↔p b:=⟨fun⟨_,e,q⟩=>by cases e; exact q,fun q=>⟨b,rfl,q⟩⟩
end
section
variable {K:W.Frag} {H:Hp} {Q:VK} {x y:V} {d:PyData} {ds:List PyData}
def zqE(K:W.Frag):List V->Hp->VK->Prop:=fun xs H Q=>∃ p ys,xs=[.ref p]/\(SqL K H p ys\/SqT K H p ys)/\Q (.int ys.length) H
end
section
variable {X:Cx}
theorem zjS:CallR X (.builtin "len") (zqE X.K):=zd1
end
def hid(a:Addr)(H:Hp):Hp:=fun b=>if b=a then none else H b
theorem zp6{a b:Addr}{H:Hp}(h:b≠a):hid a H b=H b:=if_neg h
theorem zlB{a:Addr}{H:Hp}:hid a H a=none:=if_pos rfl
theorem Same.laid{H:Hp}{p:Addr}{o:HO}(h:H p=none):Same H (upd H p o):=fun b u e=>by
 rw [zG (zD e h)];exact e
section
variable {X:Cx} {ze:List (Addr×Obj)} {σ:St} {H:Hp} {s:Shared} {a:Addr} {m:List (Key×V)}
theorem Inv.fz(I:Inv X ze σ H s)(e:H a=some (.dK m)):∃ ob,Inv X ze σ (upd H a (.frz ob (.dK m))) s:=by
 have q:=(show ObjOk X.prog X.w H s.heap a (.dK m) from I.hok a _ e);obtain⟨_,_,vs,_,ob,es,ep,h1,_⟩:=id q;exact⟨ob,I.write (x:=a) (e:=a) (o:=.frz ob (.dK m)) (h':=s.heap) (t':=s.toks) (by rw [e]; exact True.intro) (.inl rfl) (fun b v _ z=>z) ⟨ob,h1⟩ ⟨h1,q⟩⟩
def zrn(t:TE):TE:=fun σ H Q=>t σ H fun v H1=>∃ a m,v=.ref a/\H1 a=some (.dK m)/\∀ ob,Q v (upd H1 a (.frz ob (.dK m)))
theorem zqi{e:Expr}{t:TE}(h:PE X e t):PE X e (zrn t):=fun ze s σ H Q I hw =>
 thn (h ze s σ H _ I hw) fun u s1 ⟨v,H1,I1,r1,a,m,ev,ea,q⟩=>by
  obtain⟨ob,J⟩:=I1.fz ea;exact⟨v,_,J,r1,q ob⟩
end
end
section
theorem zkP(d:PyData):zna d "int" = match d with | .int _=>true | .bool _=>true | _=>false:=by cases d <;> first | rfl | (show zle _ _=_; simp [zle,tyD])
theorem ziM(d:PyData):zna d "bool" = match d with | .bool _=>true | _=>false:=by cases d <;> first | rfl | (show zle _ _=_; simp [zle,tyD])
theorem zhh(d:PyData):zna d "tuple" = match d with | .tuple _=>true | _=>false:=by cases d <;> first | rfl | (show zle _ _=_; simp [zle,tyD])
theorem ziF(d:PyData):zna d "list" = match d with | .list _=>true | _=>false:=by cases d <;> first | rfl | (show zle _ _=_; simp [zle,tyD])
def vw:List Addr->Hp->Hp
 | [],H=>H
 | a :: r,H=>hid a (vw r H)
def zoq(K:W.Frag):V->V->Hp->VK->Prop:=fun x y H Q=>∃ (a:Addr) (ns:List Int) (i:Int),x=.ref a/\y=.int i/\SqL K H a (ns.map V.int)/\0<=i/\∀ n,Q (.int n) H
theorem zoe{ns:List Int}{i:Int}(h0:0<=i)(h1:i<((ns.map V.int).length:Int)):∃ n,atI (ns.map V.int) i=some (.int n):=by
 obtain⟨k,rfl⟩:=Int.eq_ofNat_of_zero_le h0;have hk:k<ns.length:=by rw [length_map] at h1; omega
 exact⟨ns[k],zbg (by rw [getElem?_map,getElem?_eq_getElem hk]; rfl)⟩
theorem zlt{ns:List Int}{lo hi:Option Int}{x:V}(h:x∈ziD (ns.map V.int) lo hi):∃ n,x=.int n:=by
 have h1:=List.mem_of_mem_drop (List.mem_of_mem_take h);obtain⟨n,_,e⟩:=mem_map.mp h1;exact⟨n,e.symm⟩
theorem Fun.bind1{K:W.Frag}{x a:Str}{st:Stmt}{f:Addr}{fd:FuncData}(F:Fun K x x st f fd)
  (h:∀ (kV doc pm:Value) (an:Option Addr) (cdv ct:Value) (u:Value),bindArgs (W.fnOf x x (zco st) (zaD st) (zg st) .none kV doc pm an cdv ct) ⟨[u],[]⟩=pure [(a,u)]):∀ (s:Shared) (u:Value),BindsTo s fd ⟨[u],[]⟩ [(a,u)]:=by
 obtain⟨oc,od,kV,doc,pm,an,cdv,ct,osl,rfl,lk,hcd⟩:=F.ex;exact fun s u=>.of_eq (h kV doc pm an cdv ct u)
def zqF(K:W.Frag):V->Hp->VK->Prop:=fun x H Q=>∃ (a:Addr) (ns:List Int),x=.ref a/\SqL K H a (ns.map V.int)/\ns.length<=63/\∀ H',Q (.bl true) H'
theorem walk_law{l:W.OpenLaw}{k:Nat}{q:Program}{loose:List Str}{XP:(Str->Option Value)->Heap->Prop}{YP:World->Heap->Prop}{d:DefRec}{K:Params->W.Frag}(hn:l.most=some 63)(hdf:d.params.defaults=[])
  (hr:Room k callerA) (hY:∀ (w:World) (h:Heap),YP w h->(K w.params).In h) (hT:∀ (w:World) (h:Heap),YP w h->TabsOk (K w.params) h)
  (F:∀ (w:World) (mg:Str->Option Value) (fa:Addr) (h:Heap),(K w.params).In h->h.Ns mainGlobals mg->mg d.name=some (.ref fa) ->
   ∃ fd:FuncData,(∀ (s:Shared) (u:Value),BindsTo s fd ⟨[u],[]⟩ [("script",u)])/\∀ base:Heap,(K w.params).In base->base.Ns mainGlobals mg->FnOk l.prog w (K w.params) mg base CX0 k fa fd ["script"] (sp1 (zqF (K w.params)))) :
  W.WalkO q loose XP YP l.row.toRowW d [] (fun f vs=>PySem.call f vs) :=
 L2.walk_of (n:=63) (k:=k) (x:="script") (CX:=fun _=>CX0) (sp:=fun w=>sp1 (zqF (K w.params))) hn dz hdf hr hY hT F (fun _ _ a ns hl _ hS=>⟨a,ns,rfl,hS,hl,fun _=>rfl⟩) fun _ _ _ _ _ z=>z
theorem Fun.ok1{P:Program}{w:World}{K:W.Frag}{mg:Str->Option Value}{base:Heap}{x a:Str}{st:Stmt}{f:Addr}{fd:FuncData}{N:List Str}{k:Nat}{p:V->Hp->VK->Prop}(F:Fun K x x st f fd)(S:FnScope N [a] (zg st))(σ0:V->St)(hs:∀ v,start N [v]=σ0 v)
  (hbody:∀ (cdv:Value) (A:Around) (outer:List Env) (s:Shared) (H:Hp) (v:V) (Q:VK) (E:XK),Room k (A.deeper (envOfC x (zg st) s.heap.objs.size f cdv))->p v H Q ->
   ∃ t,PSs (zfE CX0 P w K mg base N x (zg st) f cdv A outer s H E).nox (zaD st) t/\t { nx:=fun _ H'=>Q .non H',rt:=Q } (σ0 v) H):FnOk P w K mg base CX0 (k+1) f fd [a] (sp1 p):=by
 refine F.ok S (fun vs H Q E h=>?_) fun cdv A outer s H vs Q E hr h=>?_
 ·obtain⟨x,rfl,_⟩:=zkU vs H Q E h;rfl
 ·obtain⟨x,rfl,h⟩:=zkU vs H Q E h;rw [hs];exact hbody cdv A outer s H x Q E hr h
end
section
mutual
theorem Has.reads{X:Cx}{ze:List (Addr×Obj)}{σ:St}{H:Hp}{s:Shared}(I:Inv X ze σ H s):∀ (d:PyData) (v:V) (u:Value),Has H d v->d.canLay0=true->RelV v u->∃ as,Reads s.heap u d as
 | .none,v,u,h,_,r=>by
  rw [zbF.mp h] at r;cases (show u=Value.none from r);exact⟨_,.none⟩
 | .bool b,v,u,h,_,r=>by
  rw [zbj.mp h] at r;cases (show u=Value.bool b from r);exact⟨_,.bool b⟩
 | .int i,v,u,h,_,r=>by
  rw [zbA.mp h] at r;obtain⟨t,q⟩:=(show ∃ t,u=Value.int i t from r);cases q;exact⟨_,.int i t⟩
 | .str x,v,u,h,_,r=>by
  rw [zb3.mp h] at r;obtain⟨t,q⟩:=(show ∃ t,u=Value.str x t from r);cases q;exact⟨_,.str x t⟩
 | .list ds,v,u,h,c,r=>by
  obtain⟨a,vs,rfl,e,l⟩:=zaf.mp h;cases (show u=Value.ref a from r);obtain⟨_,its,n,rv,e1⟩:=(show ObjOk X.prog X.w H s.heap a (.lst vs) from I.hok a _ e);obtain⟨as,q⟩:=HasL.reads I ds vs its l (by simpa only [PyData.canLay0] using c) rv;exact⟨_,.list e1 rfl rfl (by simpa using q)⟩
 | .tuple ds,v,u,h,c,r=>by
  obtain⟨a,vs,rfl,e,l⟩:=zah.mp h;cases (show u=Value.ref a from r);obtain⟨_,its,rv,o,e1,e2,n,e3⟩:=(show ObjOk X.prog X.w H s.heap a (.tup vs) from I.hok a _ e);obtain⟨as,q⟩:=HasL.reads I ds vs its l (by simpa only [PyData.canLay0] using c) rv;exact⟨_,.tuple e1 e2 e3 (by simpa using q)⟩
 | .dict _,_,_,_,c,_=>by simp [PyData.canLay0] at c
theorem HasL.reads{X:Cx}{ze:List (Addr×Obj)}{σ:St}{H:Hp}{s:Shared}(I:Inv X ze σ H s):∀ (ds:List PyData) (vs:List V) (us:List Value),HasL H ds vs->PyData.canLayAll0 ds=true->Vals vs us->∃ as,ReadsAll s.heap us ds as
 | [],vs,us,h,_,r=>by
  rw [zF.mp h] at r;cases r;exact⟨_,.nil⟩
 | d :: ds,vs,us,h,c,r=>by
  obtain⟨v,w',rfl,h1,h2⟩:=zt.mp h;have c':d.canLay0=true/\PyData.canLayAll0 ds=true:=by simpa [PyData.canLayAll0] using c
  cases r with
  | cons r1 r2 =>
   obtain⟨as,q1⟩:=Has.reads I d v _ h1 c'.1 r1;obtain⟨bs,q2⟩:=HasL.reads I ds w' _ h2 c'.2 r2;exact⟨_,.cons q1 q2⟩
end
def zq9:R2:=fun x y H Q=>∃ d e,Has H d x/\Has H e y/\SeqAt.shaped d=true/\SeqAt.shaped e=true/\Q (.bl (PyData.eqv d e)) H
def zqG:R2:=fun x y H Q=>∃ d e,Has H d x/\Has H e y/\SeqAt.shaped d=true/\SeqAt.shaped e=true/\Q (.bl (!PyData.eqv d e)) H
section
variable {X:Cx}
theorem zbV(hu:X.A.units+64<cLine):OpR X (compareOp .Eq) zq9:=by
 intro ze s σ H x y v u Q I rx ry h;obtain⟨d,e,hd,he,sd,se,q⟩:=h;obtain⟨as,q1⟩:=Has.reads I d x v hd (SeqAt.canLay_of_shaped sd) rx;obtain⟨bs,q2⟩:=Has.reads I e y u he (SeqAt.canLay_of_shaped se) ry;exact eq_dataH q1 q2 sd se hu ⟨.bl _,H,I,rfl,q⟩
theorem zf0(hu:X.A.units+64<cLine):OpR X (compareOp .NotEq) zqG:=by
 intro ze s σ H x y v u Q I rx ry h;obtain⟨d,e,hd,he,sd,se,q⟩:=h;obtain⟨as,q1⟩:=Has.reads I d x v hd (SeqAt.canLay_of_shaped sd) rx;obtain⟨bs,q2⟩:=Has.reads I e y u he (SeqAt.canLay_of_shaped se) ry;exact ne_dataH q1 q2 sd se hu ⟨.bl _,H,I,rfl,q⟩
end
section
variable {prog:Program} {w:World} {A:Around} {E:Value->Shared->Prop} {s:Shared} {l:Addr}
theorem znZ{vs:List Value}{ns:List Int}(hi:IntsAre vs ns):∃ xs:Array (Int×Tok),vs.toArray=intItems xs/\ns=xs.toList.map (·.1):=by
 obtain⟨xs,e⟩:=hi.allInts.items;exact⟨xs,e,by rw [<- hi.numsOf,<- nums_intItems,<- e]⟩
end
section
variable {K:W.Frag} {o:List Addr} {σ:St} {H0:Hp} {t t1 t2 t3 t4 t5:TE} {ta:TA} {tt tu:TT} {d d1 d2 d3 d4 d5:PyData} {ds:List PyData} {b c:Bool}
def zjV:PyData->Bool
 | .none=>true
 | _=>false
theorem zjE{H:Hp}{v:V}(h:Has H d v):decide (v=.non)=zjV d:=by
 cases d with
 | none=>rw [zbF.mp h]; rfl
 | bool _=>rw [zbj.mp h]; rfl
 | int _=>rw [zbA.mp h]; rfl
 | str _=>rw [zb3.mp h]; rfl
 | list _=>obtain⟨a,vs,rfl,_⟩:=zaf.mp h; rfl
 | tuple _=>obtain⟨a,vs,rfl,_⟩:=zah.mp h; rfl
 | dict _=>obtain⟨a,vs,rfl,_⟩:=zeq.mp h; rfl
def zpq:R2:=fun x y H Q=>y=.non/\Q (.bl (!decide (x=.non))) H
theorem zmc{X:Cx}:OpR X (compareOp .IsNot) zpq:=znm
end
def spD(a b:Int):PyData:=.tuple [.int a,.int b]
end
section
theorem zkY{K:W.Frag}{a:Addr}{ns:List Int}{N:Int}{j:Nat}{tb:TS}{D:Ends}{σ:St}{H:Hp}(P:St->Prop)(h0:σ[0]? = some (some (.ref a)))(hS:SqL K H a (ns.map V.int))(hlen:ns.length<=63)(hP:P σ)
  (turn:∀ (n:Int) (σ:St) (H1 H2:Hp),P σ->Same H H1->Same H1 H2->tb { D with nx:=fun σ' H'=>Same H1 H'/\P σ',ct:=fun σ' H'=>Same H1 H'/\P σ',bk:=D.nx } (σ.set j (some (.int n))) H2)
  (done:∀ (σ:St) (H1:Hp),P σ->Same H H1->D.nx σ H1) :
  zpG (zob K (tOp zov (znM (zdt (tC2 (zoq K) (zjD 0) (tC (.int 0))) zns)) (tSl (zpm K) (zjD 0) (ziW (tC (.int 1))) (ziW (tC (.int N)))))) (zgO j) tb D σ H:=by
 refine⟨_,h0,a,ns,0,rfl,rfl,hS,by decide,fun n0=>⟨by show 1<=sizeLine; decide,fun p hp=>?_⟩⟩;have s1:Same H (upd H p (.lst [.int n0])):=Same.laid hp;refine⟨_,h0,_,rfl,_,rfl,a,_,rfl,s1.seq hS,fun p2 hp2=>?_⟩;have s2:=s1.trans (Same.laid (o:=.lst (ziD (ns.map V.int) (some 1) (some N))) hp2);have np:p≠p2:=zD zQ hp2;have hz:(ziD (ns.map V.int) (some 1) (some N)).length<=63:=le_trans (zdg _ _ _) (by rw [length_map]; exact hlen);refine⟨p,p2,_,_,rfl,rfl,by rw [zG np,zQ],zQ,le_of_lt (small1000 (by simp only [length_cons,length_nil]; omega)),fun p3 hp3=>?_⟩;have s3:=s2.trans (Same.laid (o:=.lst ([V.int n0]++ziD (ns.map V.int) (some 1) (some N))) hp3);refine⟨p3,rfl,⟨_,.of zQ⟩,zl9 (K:=K) (a:=p3) (xs:=[V.int n0]++ziD (ns.map V.int) (some 1) (some N)) (fun i σ' H'=>Same _ H'/\P σ') ⟨Same.refl _,hP⟩ (fun i σ H4 _ ⟨s4,_⟩=>.of (s4 _ _ zQ)) ?_ ?_⟩
 ·rintro i x σ' H4 hi ⟨s4,p4⟩;obtain⟨n,rfl⟩:∃ n,x=.int n:=by
   rcases mem_append.mp (mem_of_getElem? hi) with m | m
   ·exact⟨n0,mem_singleton.mp m⟩
   ·exact zlt m
  exact turn n σ' _ H4 p4 s3 s4
 ·rintro σ' H4 ⟨s4,p4⟩;exact done σ' H4 p4 (s3.trans s4)
end
section
section
variable {prog:Program} {w:World} {A:Around} {E:Value->Shared->Prop} {R:Result->Shared->Prop} {s:Shared}
theorem zgJ{elt target iter:Expr}{ifs:List Expr}{scope:Scope}{pos:Pos}{it acc:Value}{env:Env}(I:Nat->Shared->Prop)
  (turn:∀ n s,I n s->wpAny (model prog w) A (pyNext it) (fun r s₁=>match r with
   | none=>R (.ok .next) s₁
   | some v=>wpAny (model prog w) A (letOwnedTupleGo target it v) (fun _ s₀=>wpAny (model prog w) A (assign target env v) (fun _ s₂ =>
     wpAny (model prog w) A (forIn ifs true fun c r=>if r=true then do let ok <- isTrue c env (eval c env); pure (ForInStep.yield ok) else pure (ForInStep.yield r)) (fun ok s₃ =>
      if ok=true then wpAny (model prog w) A (eval elt env) (fun x s₄ =>
       wpAny (model prog w) A (call (.builtin "list.append") [acc,x]) (fun _ s₅=>∃ m,m<n/\I m s₅) (fun _ _=>False) s₄) (fun _ _=>False) s₃
      else ∃ m,m<n/\I m s₃) (fun _ _=>False) s₂) (fun _ _=>False) s₀) (fun _ _=>False) s₁) (fun _ _=>False) s)
  (n:Nat) (h:I n s) :
  codeAny (model prog w) A (.compLoop (.ListComp elt [⟨target,iter,ifs,0⟩] scope pos) 0 it acc env) R s:=by
 have up:∀ {α:Type} {t:Sem α} {Q:α->Shared->Prop} {E':Value->Shared->Prop} {s':Shared},wpAny (model prog w) A t Q (fun _ _=>False) s'->wpAny (model prog w) A t Q E' s':=fun h=>wpAny_mono h (fun _ _ q=>q) fun _ _ z=>z.elim;refine codeAny_loop rfl I (fun n s hI=>?_) n h;show wpAny _ A ((compTurn (.ListComp elt [⟨target,iter,ifs,0⟩] scope pos) 0 it acc env).onRaise (fun x=>do noteFrame x env; theTreesLotGoes x)) _ _ s;refine wpAny_noted ?_;rw [compTurn_list];refine wpAny_bind (wpAny_standAt (wpAny_bind (thn (up (turn n s hI)) fun r s₁ h₁=>?_)));cases r with
 | none=>exact wpAny_pure h₁
 | some v =>
  refine wpAny_bind (thn (up h₁) fun _ s₀ h₀=>?_);refine wpAny_bind (thn (up h₀) fun _ s₂ h₂=>wpAny_bind (thn (up h₂) fun ok s₃ h₃=>?_));cases ok with
  | false=>exact wpAny_pure ⟨rfl,h₃⟩
  | true =>
   exact wpAny_bind (wpAny_bind (thn (up h₃) fun x s₄ h₄=>wpAny_bind (thn (up h₄) fun _ s₅ h₅=>wpAny_pure (wpAny_pure ⟨rfl,h₅⟩))))
end
def zbo(X:Cx)(scope:Scope)(cl:List (Str×Addr))(C:Addr)(s₃:Shared)(H₃:Hp)(fp:List Addr)(N:List Str):Cx where
 prog:=X.prog
 w:=X.w
 K:=X.K
 mg:=X.mg
 base:=X.base
 A:=X.A
 N:=N
 s₀:=s₃
 H₀:=H₃
 env:=compEnvC scope cl C X.env
 outer:=X.stack
 stack:=X.stack
 ex:=fp
 fn:=fun _=>false
 calm:=X.calm
 pn:=[]
 xe:=fun _ _=>False
def PTs(X:Cx)(ifs:List Expr)(t:TT):Prop :=
 ∀ (ze:List (Addr×Obj)) (s:Shared) (σ:St) (H:Hp) (Q:Bool->Hp->Prop),Inv X ze σ H s->t σ H Q ->
  wpAny (model X.prog X.w) X.A (forIn ifs true fun c r=>if r=true then do let ok <- isTrue c X.env (eval c X.env); pure (ForInStep.yield ok) else pure (ForInStep.yield r)) (TP X ze σ Q) X.xe s
def zp9:TT:=fun _ H Q=>Q true H
theorem zax{X:Cx}:PTs X [] zp9:=fun _ _ _ H _ I h=>wpAny_tests_nil ⟨H,I,h⟩
def tau(caps:List (Option Nat))(σ:St):St:=caps.map fun o=>o.bind fun i=>(σ[i]?).join
def zky(caps:List (Option Nat))(wi:TI)(g:TG)(tt:TT)(te:TE):TE:=fun σ H Q=>wi σ H fun J H1=>∀ D,H1 D=none->∃ W:Nat->Nat->St->Hp->Prop,(∃ m,W 0 m (tau caps σ) (upd H1 D (.lst []))) /\
 ∀ i m τ H2,W i m τ H2->(J.stop i H2/\Q (.ref D) H2)\/(J.go i H2/\∀ x H3,J.yld i H2 x H3->g x τ H3 fun τ4 H4=>tt τ4 H4 fun b H5 =>
  if b=true then te τ4 H5 fun v H6=>∃ xs,H6 D=some (.lst xs)/\xs.length<sizeLine/\∃ m',m'<m/\W (i+1) m' τ4 (upd H6 D (.lst (xs++[v]))) else ∃ m',m'<m/\W (i+1) m' τ4 H5)
structure CompOk(X:Cx)(scope:Scope)(cl:List (Str×Addr))(N:List Str)(caps:List (Option Nat)):Prop where
 clos:closureFor scope X.env=pure cl
 sub:∀ x c,cl.lookup x=some c->X.env.cells.lookup x=some c
 kind:scope.kind=.function
 cell:∀ y∈scope.names,y.2≠.cell
 names:∀ y∈scope.names,y.2=.local->scope.names.lookup y.1=some .local
 has:∀ x,((relabel scope X.env).names.lookup x=some .cell\/(relabel scope X.env).names.lookup x=some .free)->∃ c,cl.lookup x=some c
 cap:∀ (j i:Nat) (x:Str),caps[j]? = some (some i)->N[j]? = some x->X.N[i]? = some x/\Vis X.env.scope x/\¬ X.env.kindOf x=some .local/\∃ c,cl.lookup x=some c/\((relabel scope X.env).names.lookup x=some .cell\/(relabel scope X.env).names.lookup x=some .free)
 len:caps.length=N.length
section
variable {X:Cx} {scope:Scope} {cl:List (Str×Addr)} {N:List Str} {caps:List (Option Nat)} {tg iter elt:Expr} {ifs:List Expr} {pos:Pos} {wi:TI} {g:TG} {tt:TT} {te:TE}
theorem zi1{ze:List (Addr×Obj)}{σ:St}{H:Hp}{s:Shared}{fp:List Addr}{h₁:Heap}{t':Nat}(c:CompOk X scope cl N caps)(I:Inv X ze σ H s)(f:∀ b∈fp,FpOk X ze H b)(fo:∀ b∈fp,∃ o,s.heap.get? b=some o)
  (hns:h₁.Ns s.heap.objs.size (fun _=>none)) (hk:∀ b o,s.heap.get? b=some o->h₁.get? b=some o) :
  Inv (zbo X scope cl s.heap.objs.size s H fp N) [] (tau caps σ) H { s with heap:=h₁,toks:=t' }:=by
 have lt:∀ b∈fp,b<s.heap.objs.size:=fun b hb=>by obtain⟨o,e⟩:=fo b hb; exact lt_size e
 have cells:∀ x k,cl.lookup x=some k->∃ v,s.heap.IsCell k v:=fun x k e=>I.cell x k (c.sub x k e);refine⟨⟨I.ok.mod,c.kind,I.ok.glob,I.ok.blt,le_refl _,fun x y k h1 h2=>I.ok.inj x y k (c.sub x k h1) (c.sub y k h2),fun x hx=>c.has x hx,fun x k h _=>absurd (show false=true from h) dz,I.ok.hd,I.ok.frames,.inl rfl,
  fun b hb=>⟨ne_of_lt (lt b hb),fun x k e=>(f b hb).2.2.2.2.1 x k (c.sub x k e)⟩,I.bs,le_trans I.ok.bsz I.sz,fun b o e hb=>?_,fun b hb z=>?_,I.stack,I.stkFree⟩,
  rfl,I.bare,Un.kept hk,⟨_,hns,fun j x v h1 h2 h3=>?_⟩,fun x k e=>?_,I.hok.fresh (le_refl _),fun x k e=>I.freeC x k (c.sub x k e),fun p hp=>absurd (show p∈([]:List (Addr×Obj)) from hp) (by simp),I.hok.kept hk,?_⟩
 ·rcases(f b hb).2.2.2.1 with q | q
  ·exact I.ok.noex b o e q
  ·exact absurd (lt_of_lt_of_le (lt_size e) (le_trans I.ok.bsz q)) (lt_irrefl _)
 ·rcases mem_cons.mp (I.stkSub b z) with q | q
  ·exact(f b hb).2.1 q
  ·exact(f b hb).2.2.1 q
 ·have h2':(caps.map fun o=>o.bind fun i=>(σ[i]?).join)[j]? = some (some v):=h2;rw [getElem?_map] at h2';cases e:caps[j]? with
  | none=>rw [e] at h2'; cases h2'
  | some oi =>
   rw [e] at h2';have h2'':(oi.bind fun i=>(σ[i]?).join)=some v:=Option.some.inj h2';cases oi with
   | none=>cases h2''
   | some i =>
    have h4:(σ[i]?).join=some v:=h2'';have h5:σ[i]? = some (some v):=by
     cases q:σ[i]? with
     | none=>rw [q] at h4; cases h4
     | some w'=>rw [q] at h4; exact congrArg some h4
    obtain⟨k1,k2,k3,cc,k4,k5⟩:=c.cap j i x e h1;obtain⟨m,hn,hl⟩:=I.loc;obtain⟨u,r,l⟩:=hl i x v k1 h5 k2;refine⟨u,r,.inr ⟨k5,cc,k4,?_⟩⟩;rcases l with ⟨q,_⟩ | ⟨_,c',hc',hcell⟩
    ·exact(k3 q).elim
    ·rw [c.sub x cc k4] at hc';cases hc';exact hcell.keeps hk
 ·obtain⟨v,q⟩:=cells x k e;exact⟨v,q.keeps hk⟩
 ·show (caps.map _).length=N.length;rw [length_map];exact c.len
theorem zk4{ze:List (Addr×Obj)}{σ τ:St}{H H':Hp}{s s':Shared}{h':Heap}{fp:List Addr}(I:Inv X ze σ H s)(f:∀ b∈fp,FpOk X ze H b)(J:Inv (zbo X scope cl s.heap.objs.size s H fp N) [] τ H' s')(hs:Heap.SameBut s.heap.objs.size s'.heap h'):
  Inv X ze σ H' { s' with heap:=h' }:=by
 have hC:H' s.heap.objs.size=none:=J.free;have keep:∀ b o,b≠s.heap.objs.size->s'.heap.get? b=some o->h'.get? b=some o:=fun b o nb e=>hs.extBut b o nb e;have u1:Un (frs X.stack) (s.heap.objs.size :: fp) H H' s.heap s'.heap:=Un.mono J.base (fun b hb=>hb) (fun b hb=>mem_cons_of_mem _ hb);have u2:Un (frs X.stack) (s.heap.objs.size :: fp) H' H' s'.heap h' :=
  ⟨fun b o e _ _ hx=>keep b o (fun z=>hx (by rw [z]; exact mem_cons_self)) e,fun b o e _ _ hx=>⟨o.slots,keep b o (fun z=>hx (by rw [z]; exact mem_cons_self)) e⟩,fun _ _ _ n _=>n,fun b o e hx=>⟨o,keep b o (fun z=>hx (by rw [z]; exact mem_cons_self)) e⟩,fun _ _ q=>q,fun _ _ _ q=>q,fun _ _ q=>q⟩
 have hok:HOk X.prog X.w H' h':=fun a o e=>(J.hok a o e).stay (fun b u hb q=>keep b u (fun z=>by
  rcases hb with hb | hb
  ·rw [<- hb,z,hC] at e; cases e
  ·rw [z,hC] at hb; cases hb) q) (fun b q=>q) fun b xs q=>q
 refine I.call' (s':={ s' with heap:=h' }) (ch:=s.heap.objs.size :: fp) J.os (u1.trans u2) hok J.bare fun b hb=>?_;rcases mem_cons.mp hb with rfl | hb
 ·refine⟨.inr I.sz,ne_of_gt I.lt,fun x k e z=>?_,fun p hp z=>?_⟩
  ·obtain⟨v,q⟩:=I.cell x k e;exact absurd q.lt (by rw [z]; exact lt_irrefl _)
  ·exact absurd (lt_size (I.pin p hp).1) (by rw [z]; exact lt_irrefl _)
 ·obtain⟨f0,f1,f2,f3,f4,f5⟩:=f b hb;exact⟨f3,f1,f4,f5⟩
theorem zfF{ze:List (Addr×Obj)}{σ:St}{H2:Hp}{s2:Shared}{it:Addr}{fp:List Addr}{tn:Nat->Heap->Prop}{J:It}{RR:Value->Addr->Result->Shared->Prop}{E:Value->Shared->Prop}(hc:X.calm=true)(c:CompOk X scope cl N caps)
  (I2:Inv X ze σ H2 s2) (T:Turn X.prog X.w X.K tg J fp it tn) (st2:tn 0 s2.heap) (f2:∀ b∈fp,FpOk X ze H2 b)
  (hg:∀ C s H fp,PG (zbo X scope cl C s H fp N) tg g) (ht:∀ C s H fp,PTs (zbo X scope cl C s H fp N) ifs tt) (he:∀ C s H fp,PE (zbo X scope cl C s H fp N) elt te)
  (Q:VK) (hq:∀ D,H2 D=none->∃ W:Nat->Nat->St->Hp->Prop,(∃ m,W 0 m (tau caps σ) (upd H2 D (.lst []))) /\
   ∀ i m τ H2,W i m τ H2->(J.stop i H2/\Q (.ref D) H2)\/(J.go i H2/\∀ x H3,J.yld i H2 x H3->g x τ H3 fun τ4 H4=>tt τ4 H4 fun b H5 =>
    if b=true then te τ4 H5 fun v H6=>∃ xs,H6 D=some (.lst xs)/\xs.length<sizeLine/\∃ m',m'<m/\W (i+1) m' τ4 (upd H6 D (.lst (xs++[v]))) else ∃ m',m'<m/\W (i+1) m' τ4 H5))
  (hRR:∀ (D C:Addr) (H':Hp) (s':Shared) (m:Str->Option Value),s'.heap.Ns C m->FpOk X ze H' C->(∀ h',Heap.SameBut C s'.heap h'->Inv X ze σ H' { s' with heap:=h' })->Q (.ref D) H'->RR (.ref D) C (.ok .next) s') :
  wpAny (model X.prog X.w) X.A (newList []) (fun acc s₃=>wpAny (model X.prog X.w) X.A (newFunctionEnv scope X.env.globals cl [] X.env.qual none .none (some X.env)) (fun cenv s₄ =>
   codeAny (model X.prog X.w) X.A (.compStart (.ListComp elt [⟨tg,iter,ifs,0⟩] scope pos) 0 (.ref it) acc { cenv with scope:=relabel scope X.env }) (RR acc cenv.locals) s₄) E s₃) E s2:=by
 have hD:H2 s2.heap.objs.size=none:=I2.hok.fresh (le_refl _);obtain⟨W,⟨m0,w0⟩,turn⟩:=hq s2.heap.objs.size hD;have I3:Inv X ze σ (upd H2 s2.heap.objs.size (.lst [])) { s2 with heap:=s2.heap.push { cls:=.type "list",data:=.seq ([]:List Value).toArray } }:=I2.laid (t':=s2.toks) (fun b u e=>get?_push_of_some _ e) (le_refl _) ⟨zero_le _,[],0,.nil,get?_push_size _ rfl⟩;have fo:∀ b∈fp,∃ o,s2.heap.get? b=some o:=fun b hb=>by obtain⟨o,e,_⟩:=T.obj 0 _ st2 b hb; exact⟨o,e⟩
 have f3:∀ b∈fp,FpOk X ze (upd H2 s2.heap.objs.size (.lst [])) b:=fun b hb=>by
  obtain⟨o,e⟩:=fo b hb;refine⟨?_,(f2 b hb).2⟩;rw [zG (ne_of_lt (lt_size e))];exact(f2 b hb).1
 refine wpAny_newObj_type (wpAny_newFunctionEnv c.cell (by intro y hy; simp at hy) (fun h₁ hns₁ hsb₁=>?_) c.kind);have hk:∀ b o,(s2.heap.push { cls:=.type "list",data:=.seq ([]:List Value).toArray }).get? b=some o->h₁.get? b=some o:=fun b o e=>hsb₁.extBut b o (ne_of_lt (lt_size e)) (get?_push_of_some _ e);have st4:tn 0 h₁:=T.keep 0 _ _ st2 fun b _ o e=>hk b o (get?_push_of_some _ e);have I4:=zi1 (t':=s2.toks+([]:List (Str×Value)).length) c I3 f3 (fun b hb=>by obtain⟨o,e⟩:=fo b hb; exact⟨o,get?_push_of_some _ e⟩) hns₁ hk;have fpok:∀ {H':Hp},(∀ b∈fp,H' b=none)->∀ b∈fp,FpOk (zbo X scope cl (s2.heap.push { cls:=.type "list",data:=.seq ([]:List Value).toArray }).objs.size { s2 with heap:=s2.heap.push { cls:=.type "list",data:=.seq ([]:List Value).toArray } } (upd H2 s2.heap.objs.size (.lst [])) fp N) [] H' b:=fun hn b hb =>
  ⟨hn b hb,(I4.ok.exf b hb).1,I4.ok.exfs b hb,.inl hb,(I4.ok.exf b hb).2,fun p hp=>absurd (show p∈([]:List (Addr×Obj)) from hp) (by simp)⟩
 have loop:codeAny (model X.prog X.w) X.A (.compLoop (.ListComp elt [⟨tg,iter,ifs,0⟩] scope pos) 0 (.ref it) (.ref s2.heap.objs.size) (compEnvC scope cl (s2.heap.push { cls:=.type "list",data:=.seq ([]:List Value).toArray }).objs.size X.env))
   (RR (.ref s2.heap.objs.size) (s2.heap.push { cls:=.type "list",data:=.seq ([]:List Value).toArray }).objs.size) { s2 with heap:=h₁,toks:=s2.toks+([]:List (Str×Value)).length }:=by
  refine zgJ (fun n s'=>∃ i τ H',Inv (zbo X scope cl (s2.heap.push { cls:=.type "list",data:=.seq ([]:List Value).toArray }).objs.size { s2 with heap:=s2.heap.push { cls:=.type "list",data:=.seq ([]:List Value).toArray } } (upd H2 s2.heap.objs.size (.lst [])) fp N) [] τ H' s'/\tn i s'.heap/\(∀ b∈fp,H' b=none)/\W i n τ H') ?_ m0 ⟨0,_,_,I4,st4,fun b hb=>(f3 b hb).1,w0⟩;rintro n s5 ⟨i,τ,H5,I5,st5,fr5,w5⟩;rcases turn i n τ H5 w5 with ⟨stop,qn⟩ | ⟨go,step⟩
  ·refine thn (T.done (zbo X scope cl (s2.heap.push { cls:=.type "list",data:=.seq ([]:List Value).toArray }).objs.size { s2 with heap:=s2.heap.push { cls:=.type "list",data:=.seq ([]:List Value).toArray } } (upd H2 s2.heap.objs.size (.lst [])) fp N) rfl rfl rfl hc i [] s5 τ H5 (fun _ _=>False) I5 (fpok fr5) st5 stop) fun r s6 ⟨hr,I6⟩=>?_;subst hr;obtain⟨m,hn,_⟩:=id I6.loc;exact hRR _ _ H5 s6 m hn (I3.fpOk (le_refl _) I6.free) (fun h' hs=>zk4 I3 f3 I6 hs) qn
  ·refine thn (T.item (zbo X scope cl (s2.heap.push { cls:=.type "list",data:=.seq ([]:List Value).toArray }).objs.size { s2 with heap:=s2.heap.push { cls:=.type "list",data:=.seq ([]:List Value).toArray } } (upd H2 s2.heap.objs.size (.lst [])) fp N) rfl rfl rfl hc i [] s5 τ H5 (fun _ _=>False) I5 (fpok fr5) st5 go) fun r s6 ⟨u,hr,h6⟩=>?_;subst hr;refine thn h6 fun _ s7 ⟨x,H7,I7,r7,y7,st7,fr7⟩=>?_;have I7':=I7.pinned (fpok fr7) (T.obj _ _ st7);refine thn (hg _ _ _ _ _ s7 τ H7 x u _ I7' r7 (step x H7 y7)) fun _ s8 ⟨τ8,H8,I8,q8⟩=>?_;refine thn (ht _ _ _ _ _ s8 τ8 H8 _ I8 q8) fun ok s9 ⟨H9,I9,q9⟩=>?_;have again:∀ {H':Hp} {s':Shared} {m:Nat},Inv (zbo X scope cl (s2.heap.push { cls:=.type "list",data:=.seq ([]:List Value).toArray }).objs.size { s2 with heap:=s2.heap.push { cls:=.type "list",data:=.seq ([]:List Value).toArray } } (upd H2 s2.heap.objs.size (.lst [])) fp N) ([]++zhm fp s7.heap) τ8 H' s'->(m<n/\W (i+1) m τ8 H') ->
     ∃ m,m<n/\∃ i τ H',Inv (zbo X scope cl (s2.heap.push { cls:=.type "list",data:=.seq ([]:List Value).toArray }).objs.size { s2 with heap:=s2.heap.push { cls:=.type "list",data:=.seq ([]:List Value).toArray } } (upd H2 s2.heap.objs.size (.lst [])) fp N) [] τ H' s'/\tn i s'.heap/\(∀ b∈fp,H' b=none)/\W i m τ H':=fun {H' s' m} I' q=>by
    refine⟨m,q.1,i+1,τ8,H',I'.unpinned,T.keep _ _ _ st7 fun b hb o e=>(I'.pin (b,o) (mem_append_right _ (mem_append_right _ (zcT hb e)))).1,fun b hb=>?_,q.2⟩;obtain⟨o,e,d⟩:=T.obj _ _ st7 b hb;exact(I'.pin (b,o) (mem_append_right _ (mem_append_right _ (zcT hb e)))).2.1
   cases ok with
   | false =>
    rw [if_neg Bool.false_ne_true] at q9 ⊢;obtain⟨m',hm,w9⟩:=q9;exact again I9 ⟨hm,w9⟩
   | true =>
    rw [if_pos rfl] at q9 ⊢;refine thn (he _ _ _ _ _ s9 τ8 H9 _ I9 q9) fun v s10 ⟨z,H10,I10,r10,xs,hx,hz,m',hm,w10⟩=>?_;refine thn (zbs _ s10 τ8 H10 (.ref s2.heap.objs.size) [z] (.ref s2.heap.objs.size) [v] (fun _ H11=>W (i+1) m' τ8 H11) I10 rfl (.cons r10 .nil) ⟨_,xs,z,rfl,rfl,hx,hz,w10⟩) fun _ s11 ⟨_,H11,I11,_,w11⟩=>?_;exact again I11 ⟨hm,w11⟩
 exact codeAny_compStart_list loop (T.self _ 0 _ _ _ st4 loop)
theorem zaM(hx:∀ e s,X.xe e s->False)(hc:X.calm=true)(c:CompOk X scope cl N caps)(hi:PI X tg iter wi)(hg:∀ C s H fp,PG (zbo X scope cl C s H fp N) tg g)(ht:∀ C s H fp,PTs (zbo X scope cl C s H fp N) ifs tt)(he:∀ C s H fp,PE (zbo X scope cl C s H fp N) elt te)
  (hs:∀ x,foldedSetIterable iter X.env x=pure x:=by intro _; rfl):PE X (.ListComp elt [⟨tg,iter,ifs,0⟩] scope pos) (zky caps wi g tt te):=by
 intro ze s σ H Q I h;rw [eval_ListComp];refine wpAny_comprehension_free (use:=none) rfl hs c.clos c.kind c.names (thn (hi ze s σ H _ I h) fun v s1 h1=>thn h1 fun itv s2 h2=>?_);obtain⟨it,fp,tn,J,H2,e,I2,T,st2,f2,q2⟩:=h2;subst e;exact zfF (RR:=fun acc C=>compPost (model X.prog X.w) X.A X.xe none (EP X ze σ Q) acc C) hc c I2 T st2 f2 hg ht he Q q2 fun D C H' s' m hn _ hb q=>⟨m,hn,fun h' hs=>⟨.ref D,H',hb h' hs,rfl,q⟩⟩
theorem zjI{i:Nat}{y:Str}{py spos:Pos}(hx:∀ e s,X.xe e s->False)(hc:X.calm=true)(c:CompOk X scope cl N caps)(hN:X.N.Nodup)(hyi:X.N[i]? = some y)(hl:X.env.scope.names.lookup y=some .local)(hi:PI X tg iter wi)(hg:∀ C s H fp,PG (zbo X scope cl C s H fp N) tg g)
  (ht:∀ C s H fp,PTs (zbo X scope cl C s H fp N) ifs tt) (he:∀ C s H fp,PE (zbo X scope cl C s H fp N) elt te)
  (hsw:swapsWith (.ListComp elt [⟨tg,iter,ifs,0⟩] scope pos) (some (.Name y py)) spos.line X.env=pure true:=by rfl)
  (hs:∀ x,foldedSetIterable iter X.env x=pure x:=by intro _; rfl):PS X (.Assign [.Name y py] (.ListComp elt [⟨tg,iter,ifs,0⟩] scope pos) spos) (zou (zky caps wi g tt te) (zgO i)):=by
 intro ze s σ H D I h;rw [exec_Assign_Name_used _ _ _ _ hsw];refine wpAny_bind (wpAny_standAt (wpAny_bind ?_));show wpAny _ X.A (do let _ <- comprehension (.ListComp elt [⟨tg,iter,ifs,0⟩] scope pos) scope X.env _ (newList []) false (eval iter X.env) (some (assign (.Name y py) X.env))) _ _ s;refine wpAny_bind (wpAny_mono (wpAny_comprehension_free (use:=some (assign (.Name y py) X.env)) (Q:=fun _ s'=>SP X ze D .next s') rfl hs c.clos c.kind c.names (thn (hi ze s σ H _ I h) fun v s1 h1=>thn h1 fun itv s2 h2=>?_)) (fun _ s' hq=>wpAny_pure (wpAny_pure hq)) fun _ _ e=>e);obtain⟨it,fp,tn,J,H2,e,I2,T,st2,f2,q2⟩:=h2;subst e;refine zfF (RR:=fun acc C=>compPost (model X.prog X.w) X.A X.xe (some (assign (.Name y py) X.env)) (fun _ s'=>SP X ze D .next s') acc C) hc c I2 T st2 f2 hg ht he (fun v H'=>D.nx (σ.set i (some v)) H') q2 fun Da C H' s' m hn f hb q=>?_;obtain⟨o,es,ep,ho,hd,r⟩:=hn;have I':Inv X ze σ H' s':=hb s'.heap (Heap.SameBut.refl _ _);have I'':Inv X (ze++[(C,o)]) σ H' s':=I'.pins_of fun p hp=>(mem_append.mp hp).elim (fun z=>I'.pin p (mem_append_right _ z)) fun z=>by
  cases mem_singleton.mp z;exact⟨ho,f.1,f.2.1,f.2.2.1,fun v e=>by rw [hd] at e; cases e⟩
 refine wpAny_assign_Name (zdv I'' hN hyi (.inl hl) (show RelV (V.ref Da) (Value.ref Da) from rfl) (fun s2 J2=>?_) (.inr hl));refine⟨m,⟨o,es,ep,(J2.pin (C,o) (mem_append_right _ (mem_append_right _ (mem_singleton.mpr rfl)))).1,hd,r⟩,fun h' hs=>?_⟩;exact⟨_,H',J2.unpinned.turned (t':=s2.toks) (fun b ob nb e=>hs.extBut b ob nb e) f.1 f.2.1 f.2.2.2.1 f.2.2.2.2.1 f.2.2.2.2.2,q⟩
end
def zhF(env:Env):List (Str×NameKind)->List (Str×Addr)->List (Str×Addr)
 | [],acc=>acc
 | (n,k) :: r,acc=>zhF env r (if k == .free then (n,(env.cells.lookup n).getD 0) :: acc else acc)
theorem zgh{env:Env}{x:Str}{c:Addr}:∀ {names:List (Str×NameKind)} {acc:List (Str×Addr)},(x,c)∈zhF env names acc->(x,c)∈acc\/((x,NameKind.free)∈names/\c=(env.cells.lookup x).getD 0)
 | [],_,h=>.inl h
 | (n,k) :: r,acc,h=>by
  rcases zgh (names:=r) h with h | ⟨h,e⟩
  ·by_cases hk:k == .free
   ·rw [if_pos hk] at h;rcases mem_cons.mp h with h | h
    ·cases h;have:k=.free:=by simpa using hk
     subst this;exact .inr ⟨mem_cons_self,rfl⟩
    ·exact .inl h
   ·rw [if_neg hk] at h;exact .inl h
  ·exact .inr ⟨mem_cons_of_mem _ h,e⟩
theorem ziO{env:Env}{p:Str×Addr}:∀ {names:List (Str×NameKind)} {acc:List (Str×Addr)},p∈acc->p∈zhF env names acc
 | [],_,h=>h
 | (n,k) :: r,acc,h=>ziO (names:=r) (by split <;> first | exact mem_cons_of_mem _ h | exact h)
theorem zen{env:Env}{x:Str}:∀ {names:List (Str×NameKind)} {acc:List (Str×Addr)},(x,NameKind.free)∈names->∃ c,(x,c)∈zhF env names acc
 | (n,k) :: r,acc,h=>by
  rcases mem_cons.mp h with h | h
  ·cases h;exact⟨_,ziO (names:=r) (by rw [if_pos dz]; exact mem_cons_self)⟩
  ·exact zen (names:=r) h
theorem zbG{β:Type}{x:Str}{c:β}:∀ {l:List (Str×β)},(x,c)∈l->∃ c',l.lookup x=some c'
 | (n,v) :: r,h=>by
  cases e:x == n with
  | true=>exact⟨v,by rw [lookup_cons,e]⟩
  | false =>
   rcases mem_cons.mp h with h | h
   ·cases h;simp at e
   ·obtain⟨c',q⟩:=zbG (l:=r) h;exact⟨c',by rw [lookup_cons,e]; exact q⟩
theorem zdA{env:Env}{scope:Scope}(h:∀ y∈scope.names,y.2=.free->(env.cells.lookup y.1).isSome=true):closureFor scope env=pure (zhF env scope.names []):=by
 have go:∀ (names:List (Str×NameKind)) (acc:List (Str×Addr)),(∀ y∈names,y.2=.free->(env.cells.lookup y.1).isSome=true) ->
   (forIn names acc (fun(x:Str×NameKind) (cs:List (Str×Addr))=>(if x.2 == .free then (do let c <- cellOf env x.1; pure (ForInStep.yield ((x.1,c) :: cs))) else pure (ForInStep.yield cs):Sem (ForInStep (List (Str×Addr))))))=(pure (zhF env names acc):Sem (List (Str×Addr))):=by
  intro names;induction names with
  | nil=>intro acc _; rfl
  | cons y r ih =>
   intro acc hy;obtain⟨n,k⟩:=y;rw [forIn_cons];by_cases hk:k == .free
   ·have hs:=hy (n,k) mem_cons_self (by simpa using hk);obtain⟨c,hc⟩:=isSome_iff_exists.mp hs;have hc':env.cells.lookup n=some c:=hc;simp only [hk,if_true,cellOf,hc',pure_bind,zhF,Option.getD_some];exact ih _ fun y hy'=>hy y (mem_cons_of_mem _ hy')
   ·simp only [hk,Bool.false_eq_true,if_false,pure_bind,zhF];exact ih _ fun y hy'=>hy y (mem_cons_of_mem _ hy')
 have g:=go scope.names [] h;exact(bind_pure _).trans g
def za3(DN:List Str)(dsc sc:List (Str×NameKind))(N:List Str)(caps:List (Option Nat)):Bool :=
 (caps.length == N.length) && sc.all (fun y=>y.2 != .cell && (y.2 != .free || dsc.lookup y.1 == some .cell) && (y.2 != .local || sc.lookup y.1 == some .local)) &&
 (caps.zip N).all fun p=>match p.1 with | none=>true | some i=>DN[i]? == some p.2 && dsc.lookup p.2 == some .cell && sc.lookup p.2 == some .free
theorem zcH{dsc:List (Str×NameKind)}{env:Env}{x:Str}{k:NameKind}:∀ {names:List (Str×NameKind)},(names.map fun(n,k)=>if (k == .free && env.scope.kind == .function && env.kindOf n == some .cell) then (n,.cell) else (n,k)).lookup x=some k ->
  ∃ k',names.lookup x=some k'/\(k'=k\/(k'=.free/\k=.cell))
 | [],h=>by simp at h
 | (n,k0) :: r,h=>by
  cases e:x == n with
  | true =>
   refine⟨k0,by rw [lookup_cons,e],?_⟩;rw [map_cons] at h;dsimp only at h;split at h
   ·rename_i hc;rw [lookup_cons,e] at h;have:k0=.free:=by simp at hc; exact hc.1.1
    cases h;exact .inr ⟨this,rfl⟩
   ·rw [lookup_cons,e] at h;cases h;exact .inl rfl
  | false =>
   rw [map_cons] at h;dsimp only at h;have h':(r.map fun(n,k)=>if (k == NameKind.free && env.scope.kind == .function && env.kindOf n == some .cell) then (n,NameKind.cell) else (n,k)).lookup x=some k:=by
    split at h <;> (rw [lookup_cons,e] at h; exact h)
   obtain⟨k',q,z⟩:=zcH (dsc:=dsc) h';exact⟨k',by rw [lookup_cons,e]; exact q,z⟩
theorem zfI{env:Env}{x:Str}(h1:env.scope.kind=.function)(h2:env.kindOf x=some .cell):∀ {names:List (Str×NameKind)},names.lookup x=some .free ->
  (names.map fun(n,k)=>if (k == .free && env.scope.kind == .function && env.kindOf n == some .cell) then (n,.cell) else (n,k)).lookup x=some .cell
 | [],h=>by simp at h
 | (n,k0) :: r,h=>by
  rw [map_cons];cases e:x == n with
  | true =>
   rw [lookup_cons,e] at h;cases h;have en:x=n:=by simpa using e
   subst en;dsimp only;rw [if_pos (by rw [h1,h2]; decide),lookup_cons,e]
  | false =>
   rw [lookup_cons,e] at h;have ih:=zfI h1 h2 (names:=r) h;dsimp only;split <;> (rw [lookup_cons,e]; exact ih)
theorem zR{X:Cx}{dsc:Scope}{L:Nat}{scope:Scope}{N:List Str}{caps:List (Option Nat)}(hd:X.env.scope=dsc)(hc:X.env.cells=cellsFrom L dsc.names [])(hdk:dsc.kind=.function)(hk:scope.kind=.function)(h:za3 X.N dsc.names scope.names N caps=true):
  CompOk X scope (zhF X.env scope.names []) N caps:=by
 subst hd;simp only [za3,Bool.and_eq_true,all_eq_true,beq_iff_eq] at h;obtain⟨⟨hl,hs⟩,hz⟩:=h;have hfree:∀ y∈scope.names,y.2=.free->X.env.scope.names.lookup y.1=some .cell:=fun y hy e=>by
  have q:=(hs y hy).1.2;rw [e] at q;simpa using q
 have hcell:∀ y∈scope.names,y.2≠.cell:=fun y hy e=>by
  have q:=(hs y hy).1.1;rw [e] at q;simp at q
 have hsome:∀ x,X.env.scope.names.lookup x=some .cell->(X.env.cells.lookup x).isSome=true:=fun x e=>by
  rw [hc];exact W.cellsFrom_some _ _ _ (.inl e)
 have sub:∀ x c,(zhF X.env scope.names []).lookup x=some c->X.env.cells.lookup x=some c:=fun x c e=>by
  rcases zgh (PySem.mem_of_lookup e) with q | ⟨q,ec⟩
  ·cases q
  ·obtain⟨c',hc'⟩:=isSome_iff_exists.mp (hsome x (hfree _ q rfl));rw [ec,hc'];rfl
 refine⟨zdA fun y hy e=>hsome y.1 (hfree y hy e),sub,hk,hcell,fun y hy e=>?_,fun x hx=>?_,fun j i x h1 h2=>?_,hl⟩
 ·have q:=(hs y hy).2;rw [e] at q;simpa using q
 ·have fin:(x,NameKind.free)∈scope.names->∃ c,(zhF X.env scope.names []).lookup x=some c:=fun m=>by
   obtain⟨c,hm⟩:=zen (env:=X.env) (acc:=[]) m;exact zbG hm
  rcases hx with hx | hx
  ·obtain⟨k',q,z⟩:=zcH (dsc:=[]) hx;rcases z with rfl | ⟨rfl,_⟩
   ·exact absurd rfl (hcell _ (PySem.mem_of_lookup q))
   ·exact fin (PySem.mem_of_lookup q)
  ·obtain⟨k',q,z⟩:=zcH (dsc:=[]) hx;rcases z with rfl | ⟨_,z⟩
   ·exact fin (PySem.mem_of_lookup q)
   ·cases z
 ·have hm:(some i,x)∈caps.zip N:=by
   have:(caps.zip N)[j]? = some (some i,x):=by rw [getElem?_zip_eq_some]; exact⟨h1,h2⟩
   exact mem_of_getElem? this
  have q:=hz _ hm;simp only [Bool.and_eq_true,beq_iff_eq] at q;obtain⟨⟨q1,q2⟩,q3⟩:=q;obtain⟨c,hmc⟩:=zen (env:=X.env) (acc:=[]) (PySem.mem_of_lookup q3);obtain⟨c',hc'⟩:=zbG hmc;refine⟨q1,.inr (.inl q2),fun z=>?_,c',hc',.inl (zfI hdk q2 q3)⟩;have z':X.env.scope.names.lookup x=some .local:=z;rw [q2] at z';cases z'
end
section
section
variable {X:Cx}
def zp7:R2:=fun x y H Q=>∃ z n,x=.str z/\y=.int n/\z.length<=1000/\n<=1000/\-1000<=n/\Q (.str (PySem.Txt.mul z n)) H
theorem zpK{z:Str}{n:Int}(h1:z.length<=1000)(h2:n<=1000)(h3:-1000<=n):PySem.MulOk z n:=by
 refine⟨by simp; omega,fun a _ b=>?_,fun a _=>?_⟩
 ·have e:(1000:Int)<=(2 ^ 63 - 1) / n:=by
   rw [Int.le_ediv_iff_mul_le (by omega)];have:=Int.mul_le_mul_of_nonneg_left h2 (show (0:Int)<=1000 by decide);omega
  omega
 ·have e:z.length*n.toNat<=1000*1000:=Nat.mul_le_mul h1 (by omega);unfold Builtin.Str.tooLong;simp only [decide_eq_false_iff_not,Nat.not_lt];exact le_trans e dz
theorem zn2:OpR X (binaryOp .Mult) zp7:=by
 intro ze s σ H x y v u Q I rx ry h;obtain⟨z,n,rfl,rfl,h1,h2,h3,q⟩:=h;obtain⟨t,rfl⟩:=rx;obtain⟨t',rfl⟩:=ry;exact PySem.SB.mul (zpK h1 h2 h3) fun _ k=>⟨.str _,H,I.tok _,⟨_,rfl⟩,q⟩
def zru:V->Option Int->Option Int->Hp->VK->Prop:=fun x lo hi H Q=>∃ z,x=.str z/\z.length<=sizeLine/\Q (.str (PySem.Txt.slice z lo hi)) H
theorem zoF:SlR X zru:=by
 intro ze s σ H x v vl vu lo hi sl Q I rx hs pl pu h;obtain⟨z,rfl,hz,q⟩:=h;obtain⟨t,rfl⟩:=rx;refine⟨"str",_,F.slot_str_getitem.lookup,typeIs_str _ _ _,?_⟩;have fin:∀ (a b:Option (Int×Tok)),a.map (·.1)=lo->b.map (·.1)=hi->s.heap.IsSlice sl a b none->wpAny (model X.prog X.w) X.A (getItem (.str z t) (.ref sl)) (EP X ze σ Q) X.xe s:=fun a b e1 e2 hsl=>by
  subst e1 e2;exact wpAny_getItem_str_slice (l:=a) (u:=b) (st:=none) hsl rfl (post_val_or_str ⟨le_trans (PySem.Txt.slice_le z _ _) hz,fun _ k=>⟨.str _,H,I.tok _,⟨_,rfl⟩,q⟩⟩)
 cases pl with
 | none =>
  cases pu with
  | none=>exact fin none none rfl rfl hs
  | int j tj=>exact fin none (some (j,tj)) rfl rfl hs
 | int i ti =>
  cases pu with
  | none=>exact fin (some (i,ti)) none rfl rfl hs
  | int j tj=>exact fin (some (i,ti)) (some (j,tj)) rfl rfl hs
theorem zf6:∀ {zs:List Str} {us:List Value},Vals (zs.map V.str) us->StrsAre us zs
 | [],_,.nil=>.nil
 | z :: zs,_,.cons r t=>by
  obtain⟨tk,rfl⟩:=r;exact .cons z tk (zf6 t)
def zoL(K:W.Frag):V->List V->Hp->VK->Prop:=fun x vs H Q=>∃ z a zs,x=.str z/\vs=[.ref a]/\SqL K H a (zs.map V.str)/\z.length<=16/\zs.length<=1000/\(∀ y∈zs,y.length<=1000)/\Q (.str (PySem.Txt.join z zs)) H
theorem zgZ{zs:List Str}(h:∀ y∈zs,y.length<=1000):(zs.map (·.length)).sum<=zs.length*1000:=by
 induction zs with
 | nil=>simp
 | cons z zs ih =>
  have h1:=h z mem_cons_self;have h2:=ih fun y hy=>h y (mem_cons_of_mem _ hy);simp only [map_cons,List.sum_cons,length_cons,Nat.add_mul,Nat.one_mul];omega
theorem zm7:MtR X "str.join" (zoL X.K):=by
 intro ze s σ H x vs v us Q I rx rv h;obtain⟨z,a,zs,rfl,rfl,hq,hz,hn,hl,q⟩:=h;obtain⟨t,rfl⟩:=rx;obtain⟨u,rfl,r1⟩:=rv.one;cases r1;obtain⟨its,r,pl,hsz⟩:=I.list hq;have hs:=zgZ hl;refine join_listW pl.isList (by simpa using zf6 r) hz (by omega) fun _ k=>⟨.str _,H,I.tok _,⟨_,rfl⟩,q⟩
end
section
variable {K:W.Frag} {o:List Addr} {σ:St} {H0:Hp} {t:TE} {ta:TA} {ds:List PyData}
def zhK(lo:Int)(n:Nat):List PyData:=(List.range n).map fun k:Nat=>.int (lo+k)
theorem zap{lo:Int}{n:Nat}:(zhK lo n).length=n:=by simp [zhK]
theorem zbr{lo:Int}{n i:Nat}{d:PyData}(h:(zhK lo n)[i]? = some d):i<n/\d=.int (lo+i):=by
 have hi:i<n:=by
  have:=List.getElem?_eq_some_iff.mp h;obtain⟨hl,_⟩:=this
  rwa [zap] at hl
 refine⟨hi,?_⟩;simp only [zhK,getElem?_map,List.getElem?_range hi,map_some,Option.some.injEq] at h;exact h.symm
end
theorem zlS{y:Str}{zs:List Str}(hy:y.length<=16)(hz:∀ z∈zs,z.length<=1000):(PySem.Txt.join y zs).length<=zs.length*1016:=by
 show (Builtin.Str.glued y zs).length<=_;rw [StrLaws.glued_eq_join];cases zs with
 | nil=>exact zero_le _
 | cons a r =>
  rw [len_join_cons];have h1:=zgZ hz;have h2:r.length*y.length<=r.length*16:=Nat.mul_le_mul_left _ hy;simp only [length_cons] at h1 ⊢;omega
def zcZ{α:Type}(xs:List α)(lo hi:Option Int):List α:=(xs.drop (HT.sIx xs.length 0 lo)).take (HT.sIx xs.length xs.length hi - HT.sIx xs.length 0 lo)
theorem zeX{α:Type}(xs:List α)(lo hi:Option Int):(zcZ xs lo hi).length<=xs.length:=by
 unfold zcZ;rw [length_take,length_drop];omega
theorem HasL.drop{H:Hp}:∀ {ds:List PyData} {vs:List V} (n:Nat),HasL H ds vs->HasL H (ds.drop n) (vs.drop n)
 | ds,vs,0,h=>h
 | [],vs,n+1,h=>by rw [zF.mp h]; exact zF.mpr rfl
 | d :: ds,vs,n+1,h=>by
  obtain⟨v,r,rfl,_,l⟩:=zt.mp h;exact HasL.drop n l
theorem HasL.take{H:Hp}:∀ {ds:List PyData} {vs:List V} (n:Nat),HasL H ds vs->HasL H (ds.take n) (vs.take n)
 | ds,vs,0,h=>zF.mpr rfl
 | [],vs,n+1,h=>by rw [zF.mp h]; exact zF.mpr rfl
 | d :: ds,vs,n+1,h=>by
  obtain⟨v,r,rfl,q,l⟩:=zt.mp h;exact zt.mpr ⟨v,_,rfl,q,HasL.take n l⟩
theorem HasL.cut{H:Hp}{ds:List PyData}{vs:List V}(lo hi:Option Int)(h:HasL H ds vs):HasL H (zcZ ds lo hi) (ziD vs lo hi):=by
 unfold zcZ ziD;rw [h.length];exact(h.drop _).take _
theorem HasL.rev{H:Hp}:∀ {ds:List PyData} {vs:List V},HasL H ds vs->HasL H ds.reverse vs.reverse
 | [],vs,h=>by rw [zF.mp h]; exact zF.mpr rfl
 | d :: ds,vs,h=>by
  obtain⟨v,r,rfl,q,l⟩:=zt.mp h;rw [reverse_cons,reverse_cons];exact(HasL.rev l).append (zt.mpr ⟨v,[],rfl,q,zF.mpr rfl⟩)
end
section
theorem zmx:∀ {l:List Addr} {H:Hp} {b:Addr} {u:HO},vw l H b=some u↔b∉l/\H b=some u
 | [],H,b,u=>by simp [vw]
 | a :: r,H,b,u=>by
  show hid a (vw r H) b=some u↔_;by_cases h:b=a
  ·subst h; simp [zlB]
  ·rw [zp6 h,zmx]; simp [h]
def vx(h o:List Addr)(H:Hp):Hp:=vw (h++o) H
theorem zX{h o:List Addr}{H:Hp}{b:Addr}{u:HO}:vx h o H b=some u↔b∉h/\b∉o/\H b=some u:=by
 unfold vx;rw [zmx];simp [and_assoc]
theorem zad{h o:List Addr}{H:Hp}:Same (vx h o H) H:=fun b u e=>(zX.mp e).2.2
theorem zdh{h o:List Addr}{H H':Hp}(s:Same H H'):Same (vx h o H) (vx h o H'):=fun b u e=>by
 obtain⟨h1,h2,h3⟩:=zX.mp e;exact zX.mpr ⟨h1,h2,s b u h3⟩
structure Ex(o:List Addr)(H:Hp)(o':List Addr)(H':Hp):Prop where
 pre:∃ r,o'=o++r
 kp:∀ b u,b∉o->H b=some u->b∉o'/\H' b=some u
section
variable {h o o' o'':List Addr} {H H' H'':Hp} {S:List (List PyData)} {p a:Addr}
theorem Ex.refl:Ex o H o H:=⟨⟨[],by simp⟩,fun _ _ a b=>⟨a,b⟩⟩
theorem Ex.trans(a:Ex o H o' H')(b:Ex o' H' o'' H''):Ex o H o'' H'':=by
 obtain⟨⟨r,e⟩,ka⟩:=a;obtain⟨⟨t,e'⟩,kb⟩:=b;refine⟨⟨r++t,by rw [e',e,append_assoc]⟩,fun b u h1 h2=>?_⟩;obtain⟨h3,h4⟩:=ka b u h1 h2;exact kb b u h3 h4
theorem Ex.vx(e:Ex o H o' H'):Same (L2.vx h o H) (L2.vx h o' H'):=fun b u q=>by
 obtain⟨h1,h2,h3⟩:=zX.mp q;obtain⟨h4,h5⟩:=e.kp b u h2 h3;exact zX.mpr ⟨h1,h4,h5⟩
structure ExH(h o:List Addr)(H:Hp)(o':List Addr)(H':Hp):Prop where
 pre:∃ r,o'=o++r
 kp:∀ b u,b∉h->b∉o->H b=some u->b∉o'/\H' b=some u
theorem Ex.hid(e:Ex o H o' H'):ExH h o H o' H':=⟨e.pre,fun b u _=>e.kp b u⟩
theorem ExH.refl:ExH h o H o H:=Ex.refl.hid
theorem ExH.vx(e:ExH h o H o' H'):Same (L2.vx h o H) (L2.vx h o' H'):=fun b u q=>by
 obtain⟨h1,h2,h3⟩:=zX.mp q;obtain⟨h4,h5⟩:=e.kp b u h1 h2 h3;exact zX.mpr ⟨h1,h4,h5⟩
theorem Ex.of_same(s:Same H H'):Ex o H o H':=⟨⟨[],by simp⟩,fun b u h e=>⟨h,s b u e⟩⟩
theorem zdk{α:Type}{l t:List α}{k:Nat}{a:α}(q:l[k]? = some a):(l++t)[k]? = some a:=by
 obtain⟨hk,_⟩:=List.getElem?_eq_some_iff.mp q;rw [getElem?_append_left hk];exact q
def exO(a C:Addr)(d:Option Addr):HO:=.ext fun h=>∃ o,h.get? a=some o/\o.cls=.ref C/\o.dict=d/\∃ vs,o.data=.fields vs
def xw(dx:Addr)(fs:List (Str×V)):HO:=.ext fun h=>∃ mA,h.Ns1 dx mA/\(∀ f,RelO (fs.lookup f) (mA f))/\PySem.Within mA (fs.map (·.1))
def HasE(H:Hp)(C:Addr)(fs:List (Str×PyData))(v:V):Prop:=∃ a d,v=.ref a/\H a=some (exO a C d)/\∀ f dt,fs.lookup f=some dt->∃ dx vs u,d=some dx/\H dx=some (xw dx vs)/\vs.lookup f=some u/\Has H dt u
theorem HasE.mono{H H':Hp}{C:Addr}{fs:List (Str×PyData)}{v:V}(s:Same H H')(q:HasE H C fs v):HasE H' C fs v:=by
 obtain⟨a,d,e,ha,hf⟩:=q;refine⟨a,d,e,s _ _ ha,fun f dt l=>?_⟩;obtain⟨dx,vs,u,e1,e2,e3,e4⟩:=hf f dt l;exact⟨dx,vs,u,e1,s _ _ e2,e3,Has.mono s _ _ e4⟩
inductive XV where
 | d (d:PyData)
 | l (k:Nat)
 | o (v:V)
 | x (C:Addr) (fs:List (Str×PyData))
def HasX(h o:List Addr)(H:Hp):XV->V->Prop
 | .d d,v=>Has (vx h o H) d v
 | .l k,v=>∃ a,o[k]? = some a/\v=.ref a
 | .o w,v=>v=w
 | .x C fs,v=>HasE (vx h o H) C fs v
theorem HasX.mono(e:Ex o H o' H'):∀ {x:XV} {v:V},HasX h o H x v->HasX h o' H' x v
 | .d d,v,q=>Has.mono e.vx d v q
 | .l k,v,⟨a,q,r⟩=>by
  obtain⟨t,rfl⟩:=e.pre;exact⟨a,zdk q,r⟩
 | .o w,v,q=>q
 | .x C fs,v,q=>HasE.mono e.vx q
def HasXs(h o:List Addr)(H:Hp):List XV->List V->Prop
 | [],vs=>vs=[]
 | x :: xs,vs=>∃ v r,vs=v :: r/\HasX h o H x v/\HasXs h o H xs r
abbrev Sto:=List (List PyData)
inductive MO where
 | l (vs:List V)
 | k (m:List (Key×V))
 | t (m:List (List Key×V))
def MO.ho:MO->HO
 | .l vs=>.lst vs
 | .k m=>.dK m
 | .t m=>.dT m
structure RepS(h o:List Addr)(H:Hp)(S:Sto):Prop where
 len:S.length=o.length
 nd:o.Nodup
 dis:∀ a∈o,a∉h
 hal:∀ b∈h,∃ u:MO,H b=some u.ho
 cont:∀ (k:Nat) (a:Addr) (ds:List PyData),o[k]? = some a->S[k]? = some ds->∃ vs,H a=some (.lst vs)/\HasL (vx h o H) ds vs
theorem zlO{α β:Type}{l:List α}{t:List β}{k:Nat}{a:α}(hl:t.length=l.length)(q:l[k]? = some a):∃ b,t[k]? = some b:=by
 obtain⟨hk,_⟩:=List.getElem?_eq_some_iff.mp q;exact⟨t[k]'(by omega),getElem?_eq_getElem _⟩
theorem RepS.oal(r:RepS h o H S):∀ a∈o,∃ u,H a=some (.lst u):=fun a ha=>by
 obtain⟨k,hk⟩:=mem_iff_getElem?.mp ha;obtain⟨ds,e⟩:=zlO r.len hk;obtain⟨vs,e',_⟩:=r.cont k a ds hk e;exact⟨_,e'⟩
theorem RepS.oam(r:RepS h o H S):∀ a∈o,∃ u:MO,H a=some u.ho:=fun a ha=>let ⟨u,e⟩:=r.oal a ha; ⟨.l u,e⟩
theorem RepS.fresh(r:RepS h o H S)(hp:H p=none):p∉h/\p∉o:=by
 constructor
 ·intro m;obtain⟨u,e⟩:=r.hal p m;rw [hp] at e;cases e
 ·intro m;obtain⟨u,e⟩:=r.oal p m;rw [hp] at e;cases e
theorem RepS.same(r:RepS h o H S)(s:Same H H'):RepS h o H' S where
 len:=r.len
 nd:=r.nd
 dis:=r.dis
 hal:=fun b m=>by obtain⟨u,e⟩:=r.hal b m; exact⟨u,s b _ e⟩
 cont:=fun k a ds e1 e2=>by
  obtain⟨vs,e3,l⟩:=r.cont k a ds e1 e2;exact⟨vs,s _ _ e3,HasL.mono (zdh s) _ _ l⟩
theorem RepS.laid{u:HO}(r:RepS h o H S)(hp:H p=none):vx h o (upd H p u) p=some u:=by
 obtain⟨h1,h2⟩:=r.fresh hp;exact zX.mpr ⟨h1,h2,zQ⟩
theorem Ex.new{u:HO}(r:RepS h o H S)(hp:H p=none):Ex o H (o++[p]) (upd H p u):=by
 refine⟨⟨[p],rfl⟩,fun b w hb e=>?_⟩;have ne:b≠p:=zD e hp;exact⟨by simp [hb,ne],by rw [zG ne]; exact e⟩
theorem zc3{α:Type}{l:List α}{a:α}(h:l.Nodup)(n:a∉l):(l++[a]).Nodup:=by
 rw [nodup_append];refine⟨h,by simp,fun x hx y hy e=>?_⟩;rw [mem_singleton] at hy;subst hy;subst e;exact n hx
theorem RepS.new{ds:List PyData}{vs:List V}(r:RepS h o H S)(hp:H p=none)(l:HasL (vx h o H) ds vs):RepS h (o++[p]) (upd H p (.lst vs)) (S++[ds]):=by
 obtain⟨h1,h2⟩:=r.fresh hp;have ex:Ex o H (o++[p]) (upd H p (.lst vs)):=Ex.new r hp;refine⟨by simp [r.len],zc3 r.nd h2,fun a ha=>?_,fun b hb=>?_,fun k a es e1 e2=>?_⟩
 ·rcases mem_append.mp ha with ha | ha
  ·exact r.dis a ha
  ·rw [mem_singleton.mp ha]; exact h1
 ·obtain⟨u,e⟩:=r.hal b hb;exact⟨u,by rw [zG (zD e hp)]; exact e⟩
 ·by_cases hk:k<o.length
  ·rw [getElem?_append_left hk] at e1;rw [getElem?_append_left (by rw [r.len]; exact hk)] at e2;obtain⟨ws,e3,l3⟩:=r.cont k a es e1 e2;refine⟨ws,?_,l3.mono ex.vx⟩;rw [zG (zD e3 hp)];exact e3
  ·have hk':k=o.length:=by
    obtain⟨q,_⟩:=List.getElem?_eq_some_iff.mp e1;rw [length_append,length_singleton] at q;omega
   subst hk';rw [getElem?_concat_length] at e1;rw [<- r.len,getElem?_concat_length] at e2;cases e1;cases e2;exact⟨vs,zQ,l.mono ex.vx⟩
theorem Ex.upd{k:Nat}{u:HO}(e:o[k]? = some a):Ex o H o (L2.upd H a u) :=
 ⟨⟨[],by simp⟩,fun b w hb eb=>⟨hb,by rw [zG (fun z=>hb (by rw [z]; exact mem_of_getElem? e))]; exact eb⟩⟩
theorem zds{l:List Addr}(h:l.Nodup){i j:Nat}{a:Addr}(e1:l[i]? = some a)(e2:l[j]? = some a):i=j:=by
 obtain⟨hi,e1⟩:=List.getElem?_eq_some_iff.mp e1;obtain⟨hj,e2⟩:=List.getElem?_eq_some_iff.mp e2;exact(List.getElem_inj h).mp (e1.trans e2.symm)
theorem RepS.upd{k:Nat}{ds:List PyData}{vs:List V}(r:RepS h o H S)(e:o[k]? = some a)(l:HasL (vx h o H) ds vs):RepS h o (L2.upd H a (.lst vs)) (S.set k ds):=by
 have ex:Ex o H o (L2.upd H a (.lst vs)):=Ex.upd e;refine⟨by simp [r.len],r.nd,r.dis,fun b hb=>?_,fun j b es e1 e2=>?_⟩
 ·obtain⟨u,eb⟩:=r.hal b hb;have ne:b≠a:=fun z=>r.dis a (mem_of_getElem? e) (z▸hb);exact⟨u,by rw [zG ne]; exact eb⟩
 ·by_cases hj:j=k
  ·subst hj;rw [e1] at e;cases e;obtain⟨hk,_⟩:=List.getElem?_eq_some_iff.mp e1;rw [getElem?_set_self (by rw [r.len]; exact hk)] at e2;cases e2;exact⟨vs,zQ,l.mono ex.vx⟩
  ·rw [getElem?_set_ne (Ne.symm hj)] at e2;obtain⟨ws,e3,l3⟩:=r.cont j b es e1 e2;have ne:b≠a:=fun z=>hj (zds r.nd e1 (z▸e));exact⟨ws,by rw [zG ne]; exact e3,l3.mono ex.vx⟩
abbrev XE:=List (Option XV)
structure RepE(h o:List Addr)(H:Hp)(δ:XE)(σ:St):Prop where
 len:δ.length=σ.length
 get:∀ (i:Nat) x,δ[i]? = some (some x)->∃ v,σ[i]? = some (some v)/\HasX h o H x v
variable {δ:XE} {σ:St}
theorem RepE.mono(r:RepE h o H δ σ)(e:Ex o H o' H'):RepE h o' H' δ σ:=⟨r.len,fun i x q=>by
 obtain⟨v,e1,e2⟩:=r.get i x q;exact⟨v,e1,e2.mono e⟩⟩
theorem RepE.set{i:Nat}{x:XV}{v:V}(r:RepE h o H δ σ)(q:HasX h o H x v):RepE h o H (δ.set i (some x)) (σ.set i (some v)):=by
 refine⟨by simp [r.len],fun j y e=>?_⟩;rw [getElem?_set] at e ⊢;by_cases hij:i=j
 ·rw [if_pos hij] at e ⊢;by_cases hl:i<δ.length
  ·rw [if_pos hl] at e;rw [if_pos (by rw [<- r.len]; exact hl)];cases e;exact⟨v,rfl,q⟩
  ·rw [if_neg hl] at e;cases e
 ·rw [if_neg hij] at e ⊢;exact r.get j y e
def zmr(caps:List (Option Nat))(δ:XE):XE:=caps.map fun o=>o.bind fun i=>(δ[i]?).join
theorem RepE.tau{caps:List (Option Nat)}(r:RepE h o H δ σ):RepE h o H (zmr caps δ) (L2.tau caps σ):=by
 refine⟨by simp [zmr,L2.tau],fun i x e=>?_⟩;unfold zmr at e;unfold L2.tau;rw [getElem?_map] at e ⊢;cases hc:caps[i]? with
 | none=>rw [hc] at e; cases e
 | some c =>
  rw [hc] at e;cases c with
  | none=>cases e
  | some j =>
   have e':(δ[j]?).join=some x:=by simpa using e
   have e2:δ[j]? = some (some x):=by
    cases hd:δ[j]? with
    | none=>rw [hd] at e'; cases e'
    | some y=>rw [hd] at e'; exact congrArg some (by simpa using e')
   obtain⟨v,e3,e4⟩:=r.get j x e2;exact⟨v,by simp [e3],e4⟩
end
abbrev RX:=XV->Sto->Prop
abbrev DE:=XE->Sto->RX->Prop
abbrev DT:=XE->Sto->(Bool->Sto->Prop)->Prop
abbrev DA:=XE->Sto->(List XV->Sto->Prop)->Prop
abbrev D2:=XV->XV->Sto->RX->Prop
def Cn(h o:List Addr)(H:Hp)(R:RX)(Q:VK):Prop:=∀ o' H' S' x v,Ex o H o' H'->RepS h o' H' S'->HasX h o' H' x v->R x S'->Q v H'
theorem Cn.pre{h o o':List Addr}{H H':Hp}{R:RX}{Q:VK}(c:Cn h o H R Q)(e:Ex o H o' H'):Cn h o' H' R Q:=fun o2 H2 S2 x v e2=>c o2 H2 S2 x v (e.trans e2)
def RE(t:TE)(dt:DE):Prop:=∀ (h o:List Addr) (H:Hp) (δ:XE) (σ:St) (S:Sto) (R:RX) (Q:VK),RepE h o H δ σ->RepS h o H S->dt δ S R->Cn h o H R Q->t σ H Q
def RT(t:TT)(dt:DT):Prop:=∀ (h o:List Addr) (H:Hp) (δ:XE) (σ:St) (S:Sto) (R:Bool->Sto->Prop) (Q:Bool->Hp->Prop),RepE h o H δ σ->RepS h o H S->dt δ S R ->
 (∀ o' H' S' b,Ex o H o' H'->RepS h o' H' S'->R b S'->Q b H')->t σ H Q
def RA(t:TA)(dt:DA):Prop:=∀ (h o:List Addr) (H:Hp) (δ:XE) (σ:St) (S:Sto) (R:List XV->Sto->Prop) (Q:List V->Hp->Prop),RepE h o H δ σ->RepS h o H S->dt δ S R ->
 (∀ o' H' S' xs vs,Ex o H o' H'->RepS h o' H' S'->HasXs h o' H' xs vs->R xs S'->Q vs H')->t σ H Q
def RO(r:R2)(rd:D2):Prop:=∀ (h o:List Addr) (H:Hp) (S:Sto) (x y:XV) (v u:V) (R:RX) (Q:VK),RepS h o H S->HasX h o H x v->HasX h o H y u->rd x y S R->Cn h o H R Q->r v u H Q
def RU(r:V->Hp->VK->Prop)(rd:XV->Sto->RX->Prop):Prop:=∀ (h o:List Addr) (H:Hp) (S:Sto) (x:XV) (v:V) (R:RX) (Q:VK),RepS h o H S->HasX h o H x v->rd x S R->Cn h o H R Q->r v H Q
def RC(r:List V->Hp->VK->Prop)(rd:List XV->Sto->RX->Prop):Prop:=∀ (h o:List Addr) (H:Hp) (S:Sto) (xs:List XV) (vs:List V) (R:RX) (Q:VK),RepS h o H S->HasXs h o H xs vs->rd xs S R->Cn h o H R Q->r vs H Q
def asI:XV->(Int->Prop)->Prop
 | .d (.int i),k=>k i
 | _,_=>False
def asB:XV->(Bool->Prop)->Prop
 | .d (.bool i),k=>k i
 | _,_=>False
def asS:XV->(Str->Prop)->Prop
 | .d (.str i),k=>k i
 | _,_=>False
def asT:XV->(List PyData->Prop)->Prop
 | .d (.tuple i),k=>k i
 | _,_=>False
def zjk(S:Sto):XV->Option (List PyData)
 | .d (.list ds)=>some ds
 | .l k=>S[k]?
 | _=>none
def asL(S:Sto)(x:XV)(k:List PyData->Prop):Prop:=∃ ds,zjk S x=some ds/\k ds
def zck(S:Sto):XV->Option PyData
 | .d d=>some d
 | .l k=>(S[k]?).map .list
 | .o _=>none
 | .x _ _=>none
def asD(x:XV)(k:PyData->Prop):Prop:=match x with
 | .d d=>k d
 | _=>False
theorem zaP{x:XV}{k:Int->Prop}(h:asI x k):∃ i,x=.d (.int i)/\k i:=by
 unfold asI at h;split at h
 ·exact⟨_,rfl,h⟩
 ·exact h.elim
theorem zix{x:XV}{k:Bool->Prop}(h:asB x k):∃ i,x=.d (.bool i)/\k i:=by
 unfold asB at h;split at h
 ·exact⟨_,rfl,h⟩
 ·exact h.elim
theorem zmi{x:XV}{k:Str->Prop}(h:asS x k):∃ i,x=.d (.str i)/\k i:=by
 unfold asS at h;split at h
 ·exact⟨_,rfl,h⟩
 ·exact h.elim
theorem zd2{x:XV}{k:List PyData->Prop}(h:asT x k):∃ i,x=.d (.tuple i)/\k i:=by
 unfold asT at h;split at h
 ·exact⟨_,rfl,h⟩
 ·exact h.elim
theorem zin{x:XV}{k:PyData->Prop}(h:asD x k):∃ i,x=.d i/\k i:=by
 unfold asD at h;split at h
 ·exact⟨_,rfl,h⟩
 ·exact h.elim
section
variable {h o:List Addr} {H:Hp} {S:Sto} {x:XV} {v:V} {i:Int} {b:Bool} {z:Str} {ds:List PyData} {d:PyData}
theorem zaC(q:HasX h o H (.d (.int i)) v):v=.int i:=(zbA (H:=vx h o H)).mp q
theorem zdo(q:HasX h o H (.d (.bool b)) v):v=.bl b:=(zbj (H:=vx h o H)).mp q
theorem zdG(q:HasX h o H (.d (.str z)) v):v=.str z:=(zb3 (H:=vx h o H)).mp q
theorem zcw(q:HasX h o H (.d (.tuple ds)) v):∃ a vs,v=.ref a/\H a=some (.tup vs)/\HasL (vx h o H) ds vs:=by
 obtain⟨a,vs,e,q,l⟩:=zah.mp (show Has _ _ _ from q);exact⟨a,vs,e,zad _ _ q,l⟩
theorem zbq(r:RepS h o H S)(e:zjk S x=some ds)(q:HasX h o H x v):∃ a vs,v=.ref a/\H a=some (.lst vs)/\HasL (vx h o H) ds vs:=by
 unfold zjk at e;split at e
 ·cases e;obtain⟨a,vs,e,q,l⟩:=zaf.mp (show Has _ _ _ from q);exact⟨a,vs,e,zad _ _ q,l⟩
 ·obtain⟨a,e1,rfl⟩:=q;obtain⟨vs,e2,l⟩:=r.cont _ a ds e1 e;exact⟨a,vs,rfl,e2,l⟩
 ·cases e
theorem zbB(r:RepS h o H S)(e:zck S x=some d)(q:HasX h o H x v):Has H d v:=by
 unfold zck at e;split at e
 ·cases e;exact Has.mono zad _ _ q
 ·rename_i k;obtain⟨a,e1,rfl⟩:=q;cases hs:S[k]? with
  | none=>rw [hs] at e; cases e
  | some es =>
   rw [hs] at e;cases e;obtain⟨vs,e2,l⟩:=r.cont k a es e1 hs;exact zaf.mpr ⟨a,vs,rfl,e2,HasL.mono zad _ _ l⟩
 ·cases e
 ·cases e
theorem xI(i:Int):HasX h o H (.d (.int i)) (.int i):=(zbA (H:=vx h o H)).mpr rfl
theorem xB(i:Bool):HasX h o H (.d (.bool i)) (.bl i):=(zbj (H:=vx h o H)).mpr rfl
theorem xS(i:Str):HasX h o H (.d (.str i)) (.str i):=(zb3 (H:=vx h o H)).mpr rfl
theorem xN:HasX h o H (.d .none) .non:=(zbF (H:=vx h o H)).mpr rfl
theorem zh4{vs:List V}{R:RX}{Q:VK}(r:RepS h o H S)(l:HasL (vx h o H) ds vs)(c:Cn h o H R Q)(q:R (.d (.tuple ds)) S):∀ p,H p=none->Q (.ref p) (upd H p (.tup vs)):=fun p hp =>
 c o _ S (.d (.tuple ds)) _ (Ex.of_same (Same.laid hp)) (r.same (Same.laid hp)) (zah.mpr ⟨p,vs,rfl,r.laid hp,l.mono (zdh (Same.laid hp))⟩) q
theorem zjQ{vs:List V}{R:RX}{Q:VK}(r:RepS h o H S)(l:HasL (vx h o H) ds vs)(c:Cn h o H R Q)(q:R (.d (.list ds)) S):∀ p,H p=none->Q (.ref p) (upd H p (.lst vs)):=fun p hp =>
 c o _ S (.d (.list ds)) _ (Ex.of_same (Same.laid hp)) (r.same (Same.laid hp)) (zaf.mpr ⟨p,vs,rfl,r.laid hp,l.mono (zdh (Same.laid hp))⟩) q
theorem znF{vs:List V}{R:RX}{Q:VK}(r:RepS h o H S)(l:HasL (vx h o H) ds vs)(c:Cn h o H R Q)(q:R (.l S.length) (S++[ds])):∀ p,H p=none->Q (.ref p) (upd H p (.lst vs)):=fun p hp =>
 c (o++[p]) _ (S++[ds]) (.l S.length) _ (Ex.new r hp) (r.new hp l) ⟨p,by rw [r.len,getElem?_concat_length],rfl⟩ q
theorem zdu:∀ {xs:List XV} {vs:List V} {ds:List PyData},HasXs h o H xs vs->xs=ds.map XV.d->HasL (vx h o H) ds vs
 | [],vs,[],q,_=>zF.mpr q
 | x :: xs,vs,d :: ds,⟨v,r,e,q,l⟩,e2=>by
  rw [map_cons] at e2;cases e2;exact zt.mpr ⟨v,r,e,q,zdu l rfl⟩
 | x :: xs,vs,[],_,e2=>by cases e2
 | [],vs,d :: ds,_,e2=>by cases e2
end
def datas:List XV->Option (List PyData)
 | []=>some []
 | .d d :: r=>(datas r).map (d :: ·)
 | _ :: _=>none
theorem zbT:∀ {xs:List XV} {ds:List PyData},datas xs=some ds->xs=ds.map XV.d
 | [],ds,e=>by cases e; rfl
 | .d d :: r,ds,e=>by
  unfold datas at e;cases hr:datas r with
  | none=>rw [hr] at e; cases e
  | some es =>
   rw [hr] at e;cases e;rw [zbT hr];rfl
 | .l _ :: _,_,e=>by cases e
 | .o _ :: _,_,e=>by cases e
 | .x _ _ :: _,_,e=>by cases e
def zi(i:Nat):DE:=fun δ S R=>∃ x,δ[i]? = some (some x)/\R x S
def dC(d:PyData):DE:=fun _ S R=>R (.d d) S
def dO(v:V):DE:=fun _ S R=>R (.o v) S
def dOp(rd:D2)(a b:DE):DE:=fun δ S R=>a δ S fun x S1=>b δ S1 fun y S2=>rd x y S2 R
def dUn(rd:XV->Sto->RX->Prop)(a:DE):DE:=fun δ S R=>a δ S fun x S1=>rd x S1 R
def zo:DA:=fun _ S R=>R [] S
def zb(a:DE)(b:DA):DA:=fun δ S R=>a δ S fun x S1=>b δ S1 fun xs S2=>R (x :: xs) S2
def dCB(rd:List XV->Sto->RX->Prop)(a:DA):DE:=fun δ S R=>a δ S fun xs S1=>rd xs S1 R
def zbe(a:DA):DE:=fun δ S R=>a δ S fun xs S1=>∃ ds,datas xs=some ds/\ds.length<=1000/\R (.d (.tuple ds)) S1
def zfK(a:DA):DE:=fun δ S R=>a δ S fun xs S1=>∃ ds,datas xs=some ds/\ds.length<=1000/\R (.d (.list ds)) S1
def zfc(a:DA):DE:=fun δ S R=>a δ S fun xs S1=>∃ ds,datas xs=some ds/\ds.length<=1000/\R (.l S1.length) (S1++[ds])
section
variable {t ta tb tc:TE} {da db dc:DE} {tl:TA} {dl:DA} {tt tu:TT} {dt du:DT}
theorem zm{i:Nat}:RE (zjD i) (zi i):=fun h o H δ σ S R Q he hs ⟨x,e,q⟩ c=>by
 obtain⟨v,e1,e2⟩:=he.get i x e;exact⟨v,e1,c o H S x v Ex.refl hs e2 q⟩
theorem zO{i:Int}:RE (tC (.int i)) (dC (.int i)):=fun h o H δ σ S R Q he hs q c=>c o H S _ _ Ex.refl hs (xI i) q
theorem zfo{i:Bool}:RE (tC (.bl i)) (dC (.bool i)):=fun h o H δ σ S R Q he hs q c=>c o H S _ _ Ex.refl hs (xB i) q
theorem zeI{i:Str}:RE (tC (.str i)) (dC (.str i)):=fun h o H δ σ S R Q he hs q c=>c o H S _ _ Ex.refl hs (xS i) q
theorem zoN:RE (tC .non) (dC .none):=fun h o H δ σ S R Q he hs q c=>c o H S _ _ Ex.refl hs xN q
theorem zrv{v:V}:RE (tC v) (dO v):=fun h o H δ σ S R Q he hs q c=>c o H S (.o v) v Ex.refl hs rfl q
theorem zaj{r:R2}{rd:D2}(hr:RO r rd)(ha:RE ta da)(hb:RE tb db):RE (tOp r ta tb) (dOp rd da db):=fun h o H δ σ S R Q he hs q c =>
 ha h o H δ σ S _ _ he hs q fun o1 H1 S1 x v e1 s1 x1 d1=>hb h o1 H1 δ σ S1 _ _ (he.mono e1) s1 d1 fun o2 H2 S2 y u e2 s2 y2 d2 =>
  hr h o2 H2 S2 x y v u R Q s2 (x1.mono e2) y2 d2 (c.pre (e1.trans e2))
theorem zqQ{r:V->Hp->VK->Prop}{rd:XV->Sto->RX->Prop}(hr:RU r rd)(ha:RE ta da):RE (tUn r ta) (dUn rd da):=fun h o H δ σ S R Q he hs q c =>
 ha h o H δ σ S _ _ he hs q fun o1 H1 S1 x v e1 s1 x1 d1=>hr h o1 H1 S1 x v R Q s1 x1 d1 (c.pre e1)
theorem zr:RA zns zo:=fun h o H δ σ S R Q he hs q c=>c o H S [] [] Ex.refl hs rfl q
theorem zf(ha:RE ta da)(hb:RA tl dl):RA (zdt ta tl) (zb da dl):=fun h o H δ σ S R Q he hs q c =>
 ha h o H δ σ S _ _ he hs q fun o1 H1 S1 x v e1 s1 x1 d1=>hb h o1 H1 δ σ S1 _ _ (he.mono e1) s1 d1 fun o2 H2 S2 xs vs e2 s2 x2 d2 =>
  c o2 H2 S2 (x :: xs) (v :: vs) (e1.trans e2) s2 ⟨v,vs,rfl,x1.mono e2,x2⟩ d2
theorem zaR{r:List V->Hp->VK->Prop}{rd:List XV->Sto->RX->Prop}(hr:RC r rd)(ha:RA tl dl):RE (tCB r tl) (dCB rd dl):=fun h o H δ σ S R Q he hs q c =>
 ha h o H δ σ S _ _ he hs q fun o1 H1 S1 xs vs e1 s1 x1 d1=>hr h o1 H1 S1 xs vs R Q s1 x1 d1 (c.pre e1)
theorem zdb(ha:RA tl dl):RE (zq0 tl) (zbe dl):=fun h o H δ σ S R Q he hs q c =>
 ha h o H δ σ S _ _ he hs q fun o1 H1 S1 xs vs e1 s1 x1 ⟨ds,e,hl,d1⟩=>by
  have l:=zdu x1 (zbT e);exact⟨by rw [l.length]; exact le_of_lt (small1000 hl),zh4 s1 l (c.pre e1) d1⟩
theorem zdZ(ha:RA tl dl):RE (znM tl) (zfK dl):=fun h o H δ σ S R Q he hs q c =>
 ha h o H δ σ S _ _ he hs q fun o1 H1 S1 xs vs e1 s1 x1 ⟨ds,e,hl,d1⟩=>by
  have l:=zdu x1 (zbT e);exact⟨by rw [l.length]; exact le_of_lt (small1000 hl),zjQ s1 l (c.pre e1) d1⟩
theorem znn(ha:RA tl dl):RE (znM tl) (zfc dl):=fun h o H δ σ S R Q he hs q c =>
 ha h o H δ σ S _ _ he hs q fun o1 H1 S1 xs vs e1 s1 x1 ⟨ds,e,hl,d1⟩=>by
  have l:=zdu x1 (zbT e);exact⟨by rw [l.length]; exact le_of_lt (small1000 hl),znF s1 l (c.pre e1) d1⟩
def dB(a:DE):DT:=fun δ S R=>a δ S fun x S1=>asB x fun b=>R b S1
def zeu(a:DT):DT:=fun δ S R=>a δ S fun b S1=>R (!b) S1
def dOr(a b:DT):DT:=fun δ S R=>a δ S fun x S1=>if x=true then R true S1 else b δ S1 R
def zcd(a b:DE):DE:=fun δ S R=>a δ S fun x S1=>asB x fun c=>if c=true then b δ S1 R else R (.d (.bool false)) S1
def zrp(a b:DE):DE:=fun δ S R=>a δ S fun x S1=>asB x fun c=>if c=true then R (.d (.bool true)) S1 else b δ S1 R
def zla(a:DE):DE:=fun δ S R=>a δ S fun x S1=>asB x fun c=>R (.d (.bool (!c))) S1
def dIf(c:DT)(a b:DE):DE:=fun δ S R=>c δ S fun x S1=>if x=true then a δ S1 R else b δ S1 R
theorem zqx(ha:RE ta da):RT (zod ta) (dB da):=fun h o H δ σ S R Q he hs q c =>
 ha h o H δ σ S _ _ he hs q fun o1 H1 S1 x v e1 s1 x1 d1=>by
  replace d1:=zix d1;obtain⟨b,rfl,d1⟩:=d1;exact⟨b,zdo x1,c o1 H1 S1 b e1 s1 d1⟩
theorem zb6(ha:RT tt dt):RT (zrg tt) (zeu dt):=fun h o H δ σ S R Q he hs q c =>
 ha h o H δ σ S _ _ he hs q fun o1 H1 S1 b e1 s1 d1=>c o1 H1 S1 _ e1 s1 d1
theorem zek(ha:RT tt dt)(hb:RT tu du):RT (tOr tt tu) (dOr dt du):=fun h o H δ σ S R Q he hs q c =>
 ha h o H δ σ S _ _ he hs q fun o1 H1 S1 b e1 s1 d1=>by
  cases b with
  | false=>exact zox (hb h o1 H1 δ σ S1 R Q (he.mono e1) s1 (by simpa using d1) fun o2 H2 S2 b e2=>c o2 H2 S2 b (e1.trans e2))
  | true=>exact zow (c o1 H1 S1 true e1 s1 (by simpa using d1))
theorem zdy(ha:RE ta da)(hb:RE tb db):RE (zqk ta tb) (zcd da db):=fun h o H δ σ S R Q he hs q c =>
 ha h o H δ σ S _ _ he hs q fun o1 H1 S1 x v e1 s1 x1 d1=>by
  replace d1:=zix d1;obtain⟨b,rfl,d1⟩:=d1;refine⟨b,zdo x1,?_⟩;cases b with
  | true=>exact zow (hb h o1 H1 δ σ S1 R Q (he.mono e1) s1 (by simpa using d1) (c.pre e1))
  | false=>exact zox (c o1 H1 S1 _ _ e1 s1 (xB false) (by simpa using d1))
theorem zoM(ha:RE ta da):RE (zpN ta) (zla da):=fun h o H δ σ S R Q he hs q c =>
 ha h o H δ σ S _ _ he hs q fun o1 H1 S1 x v e1 s1 x1 d1=>by
  replace d1:=zix d1;obtain⟨b,rfl,d1⟩:=d1;exact⟨b,zdo x1,c o1 H1 S1 _ _ e1 s1 (xB _) d1⟩
def zfg(rd rd':D2)(a b e:DE):DE:=fun δ S R=>a δ S fun x S1=>b δ S1 fun y S2=>rd x y S2 fun z S3=>asB z fun k=>if k=true then e δ S3 fun u S4=>rd' y u S4 R else R (.d (.bool false)) S3
theorem zgr{r r':R2}{rd rd':D2}(hr:RO r rd)(hr':RO r' rd')(ha:RE ta da)(hb:RE tb db)(hc:RE tc dc):RE (zmk r r' ta tb tc) (zfg rd rd' da db dc):=fun h o H δ σ S R Q he hs q c =>
 ha h o H δ σ S _ _ he hs q fun o1 H1 S1 x v e1 s1 x1 d1=>hb h o1 H1 δ σ S1 _ _ (he.mono e1) s1 d1 fun o2 H2 S2 y u e2 s2 y2 d2 =>
  hr h o2 H2 S2 x y v u _ _ s2 (x1.mono e2) y2 d2 fun o3 H3 S3 z w e3 s3 z3 d3=>by
   replace d3:=zix d3;obtain⟨b,rfl,d3⟩:=d3;refine⟨b,zdo z3,?_⟩;cases b with
   | false=>exact zox (c o3 H3 S3 _ _ ((e1.trans e2).trans e3) s3 (xB false) (by simpa using d3))
   | true=>exact zow (hc h o3 H3 δ σ S3 _ _ (((he.mono e1).mono e2).mono e3) s3 (by simpa using d3) fun o4 H4 S4 k w' e4 s4 k4 d4=>hr' h o4 H4 S4 y k u w' R Q s4 ((y2.mono e3).mono e4) k4 d4 (c.pre (((e1.trans e2).trans e3).trans e4)))
end
def dI(C:Int->Int->Prop)(g:Int->Int->Int):D2:=fun x y S R=>asI x fun i=>asI y fun j=>C i j/\R (.d (.int (g i j))) S
def dI0(g:Int->Int->Int):D2:=fun x y S R=>asI x fun i=>asI y fun j=>R (.d (.int (g i j))) S
def dIb(g:Int->Int->Bool):D2:=fun x y S R=>asI x fun i=>asI y fun j=>R (.d (.bool (g i j))) S
def dUI(g:Int->Int):XV->Sto->RX->Prop:=fun x S R=>asI x fun i=>R (.d (.int (g i))) S
def zgB:D2:=fun x y S R=>∃ d,zck S x=some d/\∃ e,zck S y=some e/\SeqAt.shaped d=true/\SeqAt.shaped e=true/\R (.d (.bool (PyData.eqv d e))) S
def zl4:D2:=fun x y S R=>∃ d,zck S x=some d/\∃ e,zck S y=some e/\SeqAt.shaped d=true/\SeqAt.shaped e=true/\R (.d (.bool (!PyData.eqv d e))) S
def zrm:D2:=fun x _ S R=>asD x fun d=>R (.d (.bool (zjV d))) S
def zlY:D2:=fun x _ S R=>asD x fun d=>R (.d (.bool (!zjV d))) S
def zrE:D2:=fun x y S R=>asT x fun ds=>asI y fun i=>∃ d,atI ds i=some d/\R (.d d) S
def zrL:D2:=fun x y S R=>asL S x fun ds=>asI y fun i=>∃ d,atI ds i=some d/\R (.d d) S
def zrQ:D2:=fun x y S R=>asL S x fun ds=>asL S y fun es=>ds.length+es.length<=1000/\R (.d (.list (ds++es))) S
def zq2:D2:=fun x y S R=>asT x fun ds=>asT y fun es=>ds≠[]/\ds.length+es.length<=1000/\R (.d (.tuple (ds++es))) S
section
theorem zmo{C:Int->Int->Prop}{g:Int->Int->Int}:RO (rI C fun i j=>.int (g i j)) (dI C g):=fun h o H S x y v u R Q hs hx hy q c=>by
 replace q:=zaP q;obtain⟨i,rfl,q⟩:=q;replace q:=zaP q;obtain⟨j,rfl,hc,q⟩:=q;exact⟨i,j,zaC hx,zaC hy,hc,c o H S _ _ Ex.refl hs (xI _) q⟩
theorem znK{g:Int->Int->Int}:RO (rI0 fun i j=>.int (g i j)) (dI0 g):=fun h o H S x y v u R Q hs hx hy q c=>by
 replace q:=zaP q;obtain⟨i,rfl,q⟩:=q;replace q:=zaP q;obtain⟨j,rfl,q⟩:=q;exact⟨i,j,zaC hx,zaC hy,c o H S _ _ Ex.refl hs (xI _) q⟩
theorem zfk{g:Int->Int->Bool}:RO (rI0 fun i j=>.bl (g i j)) (dIb g):=fun h o H S x y v u R Q hs hx hy q c=>by
 replace q:=zaP q;obtain⟨i,rfl,q⟩:=q;replace q:=zaP q;obtain⟨j,rfl,q⟩:=q;exact⟨i,j,zaC hx,zaC hy,c o H S _ _ Ex.refl hs (xB _) q⟩
theorem zrG{g:Int->Int}:RU (rU fun i=>.int (g i)) (dUI g):=fun h o H S x v R Q hs hx q c=>by
 replace q:=zaP q;obtain⟨i,rfl,q⟩:=q;exact⟨i,zaC hx,c o H S _ _ Ex.refl hs (xI _) q⟩
theorem zis:RO zq9 zgB:=fun h o H S x y v u R Q hs hx hy q c=>by
 obtain⟨d,q1,e,q2,q3,q4,q⟩:=q;exact⟨d,e,zbB hs q1 hx,zbB hs q2 hy,q3,q4,c o H S _ _ Ex.refl hs (xB _) q⟩
theorem ziC:RO zqG zl4:=fun h o H S x y v u R Q hs hx hy q c=>by
 obtain⟨d,q1,e,q2,q3,q4,q⟩:=q;exact⟨d,e,zbB hs q1 hx,zbB hs q2 hy,q3,q4,c o H S _ _ Ex.refl hs (xB _) q⟩
theorem znH{ta:TE}{da:DE}(ha:RE ta da):RE (tOp zpq ta (tC .non)) (dOp zlY da (dC .none)):=fun h o H δ σ S R Q he hs q c =>
 ha h o H δ σ S _ _ he hs q fun o1 H1 S1 x v e1 s1 x1 d1=>by
  replace d1:=zin d1;obtain⟨d,rfl,d1⟩:=d1;have e:=zjE (show Has _ d v from x1);exact⟨rfl,by rw [e]; exact c o1 H1 S1 _ _ e1 s1 (xB _) d1⟩
theorem HasL.atI{H:Hp}{ds:List PyData}{vs:List V}{i:Int}{d:PyData}(l:HasL H ds vs)(e:L2.atI ds i=some d):∃ v,L2.atI vs i=some v/\Has H d v:=by
 unfold L2.atI at e ⊢;rw [l.length];cases hn:ixN ds.length i with
 | none=>rw [hn] at e; cases e
 | some j =>
  rw [hn] at e;exact l.get (show ds[j]? = some d from e)
theorem zpr{K:W.Frag}:RO (zq8 K) zrE:=fun h o H S x y v u R Q hs hx hy q c=>by
 replace q:=zd2 q;obtain⟨ds,rfl,q⟩:=q;replace q:=zaP q;obtain⟨i,rfl,d,e,q⟩:=q;obtain⟨a,vs,rfl,ea,l⟩:=zcw hx;obtain⟨w,ew,hw⟩:=l.atI e;exact⟨a,vs,i,w,rfl,zaC hy,.of ea,ew,c o H S (.d d) w Ex.refl hs hw q⟩
theorem zmd{K:W.Frag}:RO (zq3 K) zrL:=fun h o H S x y v u R Q hs hx hy q c=>by
 obtain⟨ds,e0,q⟩:=q;replace q:=zaP q;obtain⟨i,rfl,d,e,q⟩:=q;obtain⟨a,vs,rfl,ea,l⟩:=zbq hs e0 hx;obtain⟨w,ew,hw⟩:=l.atI e;exact⟨a,vs,i,w,rfl,zaC hy,.of ea,ew,c o H S (.d d) w Ex.refl hs hw q⟩
theorem zpZ:RO zov zrQ:=fun h o H S x y v u R Q hs hx hy q c=>by
 obtain⟨ds,e0,es,e1,hl,q⟩:=q;obtain⟨a,vs,rfl,ea,la⟩:=zbq hs e0 hx;obtain⟨b,us,rfl,eb,lb⟩:=zbq hs e1 hy;exact⟨a,b,vs,us,rfl,rfl,ea,eb,by rw [la.length,lb.length]; exact le_of_lt (small1000 hl),zjQ hs (la.append lb) c q⟩
theorem zn0{K:W.Frag}:RO (zm9 K) zq2:=fun h o H S x y v u R Q hs hx hy q c=>by
 replace q:=zd2 q;obtain⟨ds,rfl,q⟩:=q;replace q:=zd2 q;obtain⟨es,rfl,hn,hl,q⟩:=q;obtain⟨a,vs,rfl,ea,la⟩:=zcw hx;obtain⟨b,us,rfl,eb,lb⟩:=zcw hy;refine⟨a,b,vs,us,rfl,rfl,.of ea,.of eb,fun z=>?_,by rw [la.length,lb.length]; exact le_of_lt (small1000 hl),fun z=>?_,fun _=>zh4 hs (la.append lb) c q⟩
 ·subst z;have:=la.length;exact hn (eq_nil_of_length_eq_zero this.symm)
 ·subst z;have e:es=[]:=eq_nil_of_length_eq_zero lb.length.symm;subst e;rw [append_nil] at q;exact c o H S (.d (.tuple ds)) _ Ex.refl hs hx q
end
abbrev DO:=XE->Sto->(Option Int->Sto->Prop)->Prop
def RP(t:TO)(dt:DO):Prop:=∀ (h o:List Addr) (H:Hp) (δ:XE) (σ:St) (S:Sto) (R:Option Int->Sto->Prop) (Q:Option Int->Hp->Prop),RepE h o H δ σ->RepS h o H S->dt δ S R ->
 (∀ o' H' S' b,Ex o H o' H'->RepS h o' H' S'->R b S'->Q b H')->t σ H Q
def zb0:DO:=fun _ S R=>R none S
def zfv(a:DE):DO:=fun δ S R=>a δ S fun x S1=>asI x fun i=>R (some i) S1
theorem zh0:RP zki zb0:=fun h o H δ σ S R Q he hs q c=>c o H S none Ex.refl hs q
theorem zhV{t:TE}{da:DE}(ha:RE t da):RP (ziW t) (zfv da):=fun h o H δ σ S R Q he hs q c =>
 ha h o H δ σ S _ _ he hs q fun o1 H1 S1 x v e1 s1 x1 d1=>by
  replace d1:=zaP d1;obtain⟨i,rfl,d1⟩:=d1;exact⟨i,zaC x1,c o1 H1 S1 _ e1 s1 d1⟩
abbrev D3:=XV->Option Int->Option Int->Sto->RX->Prop
def RL(r:V->Option Int->Option Int->Hp->VK->Prop)(rd:D3):Prop:=∀ (h o:List Addr) (H:Hp) (S:Sto) (x:XV) (v:V) (a b:Option Int) (R:RX) (Q:VK),RepS h o H S->HasX h o H x v->rd x a b S R->Cn h o H R Q->r v a b H Q
def dSl(rd:D3)(e:DE)(a b:DO):DE:=fun δ S R=>e δ S fun x S1=>a δ S1 fun i S2=>b δ S2 fun j S3=>rd x i j S3 R
theorem znT{r:V->Option Int->Option Int->Hp->VK->Prop}{rd:D3}{te:TE}{de:DE}{ta tb:TO}{da db:DO}(hr:RL r rd)(he':RE te de)(ha:RP ta da)(hb:RP tb db):RE (tSl r te ta tb) (dSl rd de da db):=fun h o H δ σ S R Q he hs q c =>
 he' h o H δ σ S _ _ he hs q fun o1 H1 S1 x v e1 s1 x1 d1=>ha h o1 H1 δ σ S1 _ _ (he.mono e1) s1 d1 fun o2 H2 S2 i e2 s2 d2=>hb h o2 H2 δ σ S2 _ _ ((he.mono e1).mono e2) s2 d2 fun o3 H3 S3 j e3 s3 d3 =>
  hr h o3 H3 S3 x v i j R Q s3 ((x1.mono e2).mono e3) d3 (c.pre ((e1.trans e2).trans e3))
def zrK:D3:=fun x i j S R=>asL S x fun ds=>R (.d (.list (zcZ ds i j))) S
def zrN:D3:=fun x i j S R=>asT x fun ds=>¬ (HT.sIx ds.length 0 i=0/\HT.sIx ds.length ds.length j=ds.length)/\R (.d (.tuple (zcZ ds i j))) S
theorem zjU{K:W.Frag}:RL (zpm K) zrK:=fun h o H S x v a b R Q hs hx q c=>by
 obtain⟨ds,e0,q⟩:=q;obtain⟨p,vs,rfl,ea,l⟩:=zbq hs e0 hx;exact⟨p,vs,rfl,.of ea,zjQ hs (l.cut a b) c q⟩
theorem zoQ{K:W.Frag}:RL (zqV K) zrN:=fun h o H S x v a b R Q hs hx q c=>by
 replace q:=zd2 q;obtain⟨ds,rfl,hn,q⟩:=q;obtain⟨p,vs,rfl,ea,l⟩:=zcw hx;exact⟨p,vs,rfl,.of ea,by rw [l.length]; exact hn,zh4 hs (l.cut a b) c q⟩
def asQ(S:Sto):XV->Option (List PyData)
 | .d (.tuple ds)=>some ds
 | .d (.list ds)=>some ds
 | .l k=>S[k]?
 | _=>none
theorem zio{h o:List Addr}{H:Hp}{S:Sto}{x:XV}{v:V}{ds:List PyData}(r:RepS h o H S)(e:asQ S x=some ds)(q:HasX h o H x v):∃ a vs,v=.ref a/\(H a=some (.tup vs)\/H a=some (.lst vs))/\HasL (vx h o H) ds vs:=by
 unfold asQ at e;split at e
 ·cases e;obtain⟨a,vs,e,q,l⟩:=zcw q;exact⟨a,vs,e,.inl q,l⟩
 ·cases e;obtain⟨a,vs,e,q,l⟩:=zbq (x:=.d (.list ds)) (ds:=ds) r rfl q;exact⟨a,vs,e,.inr q,l⟩
 ·rename_i k;obtain⟨a,vs,e,q,l⟩:=zbq (x:=.l k) r e q;exact⟨a,vs,e,.inr q,l⟩
 ·cases e
def arg1:List XV->(XV->Prop)->Prop
 | [x],k=>k x
 | _,_=>False
def arg2:List XV->(XV->XV->Prop)->Prop
 | [x,y],k=>k x y
 | _,_=>False
theorem zaY{xs:List XV}{k:XV->Prop}(h:arg1 xs k):∃ x,xs=[x]/\k x:=by
 unfold arg1 at h;split at h
 ·exact⟨_,rfl,h⟩
 ·exact h.elim
theorem zgq{xs:List XV}{k:XV->XV->Prop}(h:arg2 xs k):∃ x y,xs=[x,y]/\k x y:=by
 unfold arg2 at h;split at h
 ·exact⟨_,_,rfl,h⟩
 ·exact h.elim
theorem hxs1{h o:List Addr}{H:Hp}{x:XV}{vs:List V}(q:HasXs h o H [x] vs):∃ v,vs=[v]/\HasX h o H x v:=by
 obtain⟨v,r,e,hx,hr⟩:=q;cases hr;exact⟨v,e,hx⟩
theorem hxs2{h o:List Addr}{H:Hp}{x y:XV}{vs:List V}(q:HasXs h o H [x,y] vs):∃ v u,vs=[v,u]/\HasX h o H x v/\HasX h o H y u:=by
 obtain⟨v,r,e,hx,q⟩:=q;obtain⟨u,e',hy⟩:=hxs1 q;subst e';exact⟨v,u,e,hx,hy⟩
def zqJ:XV->(String->Prop)->Prop
 | .o v,k=>∃ c,v=.ty c/\k c
 | _,_=>False
def zqM:XV->(Int->Prop)->Prop
 | .d d,k=>match d with
  | .int i=>k i
  | .bool b=>k (if b then 1 else 0)
  | _=>False
 | _,_=>False
theorem znv{x:XV}{k:String->Prop}(h:zqJ x k):∃ c,x=.o (.ty c)/\k c:=by
 cases x with
 | o v =>
  obtain⟨c,rfl,h⟩:=h;exact⟨c,rfl,h⟩
 | d d=>exact h.elim
 | l j=>exact h.elim
 | x _ _=>exact h.elim
theorem zn9{x:XV}{k:Int->Prop}(h:zqM x k):(∃ i,x=.d (.int i)/\k i)\/∃ b,x=.d (.bool b)/\k (if b then 1 else 0):=by
 cases x with
 | d d =>
  cases d with
  | int i=>exact .inl ⟨i,rfl,h⟩
  | bool b=>exact .inr ⟨b,rfl,h⟩
  | _=>exact h.elim
 | _=>exact h.elim
def zrS:List XV->Sto->RX->Prop:=fun xs S R=>arg1 xs fun x=>∃ ds,asQ S x=some ds/\R (.d (.int ds.length)) S
theorem zjW{K:W.Frag}:RC (zqE K) zrS:=fun h o H S xs vs R Q hs hx q c=>by
 obtain⟨x,rfl,ds,hd,q1⟩:=zaY q;obtain⟨v,rfl,hx1⟩:=hxs1 hx;obtain⟨a,ws,rfl,ea,l⟩:=zio hs hd hx1;refine⟨a,ws,rfl,ea.elim (fun z=>.inr (.of z)) (fun z=>.inl (.of z)),?_⟩;rw [l.length];exact c o H S _ _ Ex.refl hs (xI _) q1
def zhG:List XV->Sto->RX->Prop:=fun xs S R=>arg2 xs fun x y=>zqJ y fun cl=>∃ d,zck S x=some d/\cl∈zlI/\R (.d (.bool (zna d cl))) S
theorem zmT:RC zqZ zhG:=fun h o H S xs vs R Q hs hx q c=>by
 obtain⟨x,y,rfl,q1⟩:=zgq q;obtain⟨cl,rfl,d,hd,hc,q2⟩:=znv q1;obtain⟨v,u,rfl,hx1,hu⟩:=hxs2 hx;cases hu;exact zn8 (zbB hs hd hx1) hc (c o H S _ _ Ex.refl hs (xB _) q2)
def zqB:List XV->Sto->RX->Prop:=fun xs S R=>arg1 xs fun x=>asI x fun i=>R (.d (.int (if i<0 then -i else i))) S
theorem zpY:RC (fun xs H Q=>∃ i,xs=[.int i]/\Q (.int (if i<0 then -i else i)) H) zqB:=fun h o H S xs vs R Q hs hx q c=>by
 obtain⟨x,rfl,q1⟩:=zaY q;obtain⟨v,rfl,hx1⟩:=hxs1 hx;obtain⟨i,rfl,q2⟩:=zaP q1;exact⟨i,by rw [zaC hx1],c o H S _ _ Ex.refl hs (xI _) q2⟩
def zlk:List XV->Sto->RX->Prop:=fun xs S R=>arg1 xs fun x=>zqM x fun i=>R (.d (.int i)) S
theorem znO:RC (fun xs H Q=>(∃ i,xs=[.int i]/\Q (.int i) H)\/∃ k,xs=[.bl k]/\Q (.int (if k then 1 else 0)) H) zlk:=fun h o H S xs vs R Q hs hx q c=>by
 obtain⟨x,rfl,q1⟩:=zaY q;obtain⟨v,rfl,hx1⟩:=hxs1 hx;rcases zn9 q1 with ⟨i,rfl,q2⟩ | ⟨b,rfl,q2⟩
 ·exact .inl ⟨_,by rw [zaC hx1],c o H S _ _ Ex.refl hs (xI _) q2⟩
 ·exact .inr ⟨_,by rw [zdo hx1],c o H S _ _ Ex.refl hs (xI _) q2⟩
def dI2(g:Int->Int->Int):List XV->Sto->RX->Prop:=fun xs S R=>arg2 xs fun x y=>asI x fun i=>asI y fun j=>R (.d (.int (g i j))) S
theorem zqT{g:Int->Int->Int}:RC (fun xs H Q=>∃ i j,xs=[.int i,.int j]/\Q (.int (g i j)) H) (dI2 g):=fun h o H S xs vs R Q hs hx q c=>by
 obtain⟨x,y,rfl,q1⟩:=zgq q;obtain⟨v,u,rfl,hx1,hu⟩:=hxs2 hx;obtain⟨i,rfl,q2⟩:=zaP q1;obtain⟨j,rfl,q3⟩:=zaP q2;exact⟨i,j,by rw [zaC hx1,zaC hu],c o H S _ _ Ex.refl hs (xI _) q3⟩
def zbK:List XV->Sto->RX->Prop:=fun xs S R=>arg1 xs fun x=>∃ ds,asQ S x=some ds/\R (.d (.tuple ds)) S
theorem zeo{K:W.Frag}:RC (fun xs H Q=>∃ p ys,xs=[.ref p]/\((SqL K H p ys/\∀ l,H l=none->Q (.ref l) (upd H l (.tup ys)))\/(SqT K H p ys/\Q (.ref p) H))) zbK:=fun h o H S xs vs R Q hs hx q c=>by
 obtain⟨x,rfl,ds,hd,q1⟩:=zaY q;obtain⟨v,rfl,hx1⟩:=hxs1 hx;obtain⟨a,ws,rfl,ea,l⟩:=zio hs hd hx1;refine⟨a,ws,rfl,ea.elim (fun z=>.inr ⟨.of z,?_⟩) (fun z=>.inl ⟨.of z,zh4 hs l c q1⟩)⟩;have hh:HasX h o H (.d (.tuple ds)) (.ref a):=by
  unfold asQ at hd;split at hd
  ·cases hd;exact hx1
  ·obtain⟨a',us,e1,e2,_⟩:=zbq (x:=.d (.list _)) hs rfl hx1;cases e1;rw [z] at e2;cases e2
  ·rename_i k;obtain⟨a',us,e1,e2,_⟩:=zbq (x:=.l k) hs hd hx1;cases e1;rw [z] at e2;cases e2
  ·cases hd
 exact c o H S _ _ Ex.refl hs hh q1
def zfP:List XV->Sto->RX->Prop:=fun xs S R=>arg1 xs fun x=>∃ ds,asQ S x=some ds/\R (.d (.list ds)) S
def zdm:List XV->Sto->RX->Prop:=fun xs S R=>arg1 xs fun x=>∃ ds,asQ S x=some ds/\R (.l S.length) (S++[ds])
theorem zig{K:W.Frag}:RC (fun xs H Q=>∃ p ys,xs=[.ref p]/\(SqL K H p ys\/SqT K H p ys)/\∀ l,H l=none->Q (.ref l) (upd H l (.lst ys))) zfP:=fun h o H S xs vs R Q hs hx q c=>by
 obtain⟨x,rfl,ds,hd,q1⟩:=zaY q;obtain⟨v,rfl,hx1⟩:=hxs1 hx;obtain⟨a,ws,rfl,ea,l⟩:=zio hs hd hx1;exact⟨a,ws,rfl,ea.elim (fun z=>.inr (.of z)) (fun z=>.inl (.of z)),zjQ hs l c q1⟩
theorem zjL{K:W.Frag}:RC (fun xs H Q=>∃ p ys,xs=[.ref p]/\(SqL K H p ys\/SqT K H p ys)/\∀ l,H l=none->Q (.ref l) (upd H l (.lst ys))) zdm:=fun h o H S xs vs R Q hs hx q c=>by
 obtain⟨x,rfl,ds,hd,q1⟩:=zaY q;obtain⟨v,rfl,hx1⟩:=hxs1 hx;obtain⟨a,ws,rfl,ea,l⟩:=zio hs hd hx1;exact⟨a,ws,rfl,ea.elim (fun z=>.inr (.of z)) (fun z=>.inl (.of z)),znF hs l c q1⟩
theorem zfQ{H:Hp}:∀ {ns:List Int} {vs:List V},HasL H (ns.map PyData.int) vs->vs=ns.map V.int
 | [],vs,h=>zF.mp h
 | n :: ns,vs,h=>by
  obtain⟨v,r,rfl,h1,h2⟩:=zt.mp h;rw [zbA.mp h1,zfQ h2];rfl
def dBM(rd:XV->List XV->Sto->RX->Prop)(e:DE)(a:DA):DE:=fun δ S R=>e δ S fun x S1=>∃ k,x=.l k/\k<S1.length/\a δ S1 fun xs S2=>rd x xs S2 R
def zqu(rd:XV->List XV->Sto->RX->Prop)(e:DE):DE:=fun δ S R=>e δ S fun x S1=>∃ k,x=.l k/\k<S1.length/\rd x [] S1 R
def RM(r:V->List V->Hp->VK->Prop)(rd:XV->List XV->Sto->RX->Prop):Prop:=∀ (h o:List Addr) (H:Hp) (S:Sto) (x:XV) (v:V) (xs:List XV) (vs:List V) (R:RX) (Q:VK),RepS h o H S->HasX h o H x v->HasXs h o H xs vs->rd x xs S R->Cn h o H R Q->r v vs H Q
theorem zgk{K:W.Frag}{H:Hp}{a:Addr}{vs:List V}(e:H a=some (.lst vs)):tyV K "list" (.ref a) H:=.inl ⟨rfl,vs,.of e⟩
theorem zm1{h o:List Addr}{H:Hp}{S:Sto}{k:Nat}{v:V}(hs:RepS h o H S)(hk:k<S.length)(hx:HasX h o H (.l k) v):∃ a vs,v=.ref a/\H a=some (.lst vs):=by
 obtain⟨a,e,rfl⟩:=hx;obtain⟨vs,e2,_⟩:=hs.cont k a _ e (getElem?_eq_getElem hk);exact⟨a,vs,rfl,e2⟩
theorem zq1{K:W.Frag}{r:V->List V->Hp->VK->Prop}{rd:XV->List XV->Sto->RX->Prop}{te:TE}{de:DE}{tl:TA}{dl:DA}(hr:RM r rd)(he':RE te de)(ha:RA tl dl):RE (tBM K "list" r te tl) (dBM rd de dl):=fun h o H δ σ S R Q he hs q c =>
 he' h o H δ σ S _ _ he hs q fun o1 H1 S1 x v e1 s1 x1 ⟨k,ek,hk,d1⟩=>by
  subst ek;obtain⟨a,ws,rfl,ea⟩:=zm1 s1 hk x1;exact⟨zgk ea,ha h o1 H1 δ σ S1 _ _ (he.mono e1) s1 d1 fun o2 H2 S2 xs vs e2 s2 x2 d2=>hr h o2 H2 S2 (.l k) _ xs vs R Q s2 (x1.mono e2) x2 d2 (c.pre (e1.trans e2))⟩
theorem zpf{K:W.Frag}{r:V->List V->Hp->VK->Prop}{rd:XV->List XV->Sto->RX->Prop}{te:TE}{de:DE}(hr:RM r rd)(he':RE te de):RE (zrq K "list" r te) (zqu rd de):=fun h o H δ σ S R Q he hs q c =>
 he' h o H δ σ S _ _ he hs q fun o1 H1 S1 x v e1 s1 x1 ⟨k,ek,hk,d1⟩=>by
  subst ek;obtain⟨a,ws,rfl,ea⟩:=zm1 s1 hk x1;exact⟨zgk ea,hr h o1 H1 S1 (.l k) _ [] [] R Q s1 x1 rfl d1 (c.pre e1)⟩
def zbN:XV->List XV->Sto->RX->Prop:=fun x xs S R=>∃ k,x=.l k/\∃ ds,S[k]? = some ds/\arg1 xs fun y=>asD y fun d=>ds.length<1000/\R (.d .none) (S.set k (ds++[d]))
theorem zkh:RM zkH zbN:=fun h o H S x v xs vs R Q hs hx hxs q c=>by
 obtain⟨k,rfl,ds,e,q1⟩:=q;obtain⟨y,rfl,q2⟩:=zaY q1;obtain⟨d,rfl,hl,q3⟩:=zin q2;obtain⟨a,ea,rfl⟩:=hx;obtain⟨u,rfl,hu⟩:=hxs1 hxs;obtain⟨ws,ew,l⟩:=hs.cont k a ds ea e;exact⟨a,ws,u,rfl,rfl,ew,by rw [l.length]; exact small1000 (le_of_lt hl),c o _ _ (.d .none) _ (Ex.upd ea) (hs.upd ea (l.append (zt.mpr ⟨u,[],rfl,hu,zF.mpr rfl⟩))) xN q3⟩
def zes:XV->List XV->Sto->RX->Prop:=fun x xs S R=>∃ k,x=.l k/\∃ ds,S[k]? = some ds/\xs=[]/\R (.d .none) (S.set k ds.reverse)
theorem zi5:RM ziE zes:=fun h o H S x v xs vs R Q hs hx hxs q c=>by
 obtain⟨k,rfl,ds,e,rfl,q1⟩:=q;obtain⟨a,ea,rfl⟩:=hx;obtain⟨ws,ew,l⟩:=hs.cont k a ds ea e;cases hxs;exact⟨a,ws,rfl,rfl,ew,c o _ _ (.d .none) _ (Ex.upd ea) (hs.upd ea l.rev) xN q1⟩
def zk1:XV->List XV->Sto->RX->Prop:=fun x xs S R=>∃ k,x=.l k/\∃ ds,S[k]? = some ds/\arg1 xs fun y=>∃ es,zjk S y=some es/\ds.length+es.length<=1000/\R (.d .none) (S.set k (ds++es))
def ret0(S:Sto)(R:RX):RX:=fun y S'=>match y,S' with
 | .d d,[]=>R (.d d) S
 | .l 0,[ds]=>R (.l S.length) (S++[ds])
 | _,_=>False
def zqy(k:Nat)(S:Sto)(R:RX):RX:=fun y S'=>match y,S' with
 | .d d,[p]=>R (.d d) (S.set k p)
 | .l 1,[p,ds]=>R (.l S.length) (S.set k p++[ds])
 | _,_=>False
section
variable {h o:List Addr} {H:Hp} {S:Sto} {R:RX} {Q:VK}
theorem zhe{h o h' o':List Addr}{H:Hp}(e:∀ b,(b∈h'\/b∈o')↔(b∈h\/b∈o)):vx h' o' H=vx h o H:=by
 funext b;have iff:∀ u,vx h' o' H b=some u↔vx h o H b=some u:=fun u=>by
  rw [zX,zX];have:=e b;constructor
  ·rintro⟨a1,a2,a3⟩;exact⟨fun m=>(this.mpr (.inl m)).elim a1 a2,fun m=>(this.mpr (.inr m)).elim a1 a2,a3⟩
  ·rintro⟨a1,a2,a3⟩;exact⟨fun m=>(this.mp (.inl m)).elim a1 a2,fun m=>(this.mp (.inr m)).elim a1 a2,a3⟩
 cases e1:vx h' o' H b with
 | some u=>exact((iff u).mp e1).symm
 | none =>
  cases e2:vx h o H b with
  | none=>rfl
  | some u=>rw [(iff u).mpr e2] at e1; cases e1
theorem rep0(hs:RepS h o H S):RepS (h++o) [] H [] where
 len:=rfl
 nd:=nodup_nil
 dis:=fun a ha=>by cases ha
 hal:=fun b hb=>(mem_append.mp hb).elim (hs.hal b) (hs.oam b)
 cont:=fun k a ds e=>by simp at e
theorem hx0{d:PyData}{v:V}(hx:HasX h o H (.d d) v):HasX (h++o) [] H (.d d) v:=by
 show Has (vx (h++o) [] H) d v;rw [zhe (h:=h) (o:=o) fun b=>by simp];exact hx
theorem hx0'{d:PyData}{v:V}(hx:HasX (h++o) [] H (.d d) v):HasX h o H (.d d) v:=by
 show Has (vx h o H) d v;rw [<- zhe (h':=h++o) (o':=[]) (h:=h) (o:=o) fun b=>by simp];exact hx
theorem cn0(hs:RepS h o H S)(c:Cn h o H R Q):Cn (h++o) [] H (ret0 S R) Q:=fun o' H' S' y v e s' hy q=>by
 have sm:Same H (vx [] o' H'):=fun b u eb=>by
  obtain⟨a1,a2⟩:=e.kp b u (by simp) eb;exact zX.mpr ⟨by simp,a1,a2⟩
 have sH:Same H H':=fun b u eb=>(zX.mp (sm b u eb)).2.2;unfold ret0 at q;split at q
 ·have e0:o'=[]:=eq_nil_of_length_eq_zero s'.len.symm;subst e0;exact c o H' S _ v (Ex.of_same sH) (hs.same sH) (hx0' hy) q
 ·rename_i ds;obtain⟨a,rfl⟩:∃ a,o'=[a]:=List.length_eq_one_iff.mp s'.len.symm;obtain⟨a',ea,rfl⟩:=hy;cases ea;obtain⟨vs,ev,l⟩:=s'.cont 0 a ds rfl rfl;have na:a∉h++o:=s'.dis a (by simp);have hn:H a=none:=by
   cases eh:H a with
   | none=>rfl
   | some u=>exact absurd (e.kp a u (by simp) eh).1 (by simp)
  have e2:Ex o H (o++[a]) H':=⟨⟨[a],rfl⟩,fun b u hb eb=>by
   obtain⟨a1,a2⟩:=e.kp b u (by simp) eb;exact⟨by simp only [mem_append,not_or]; exact⟨hb,a1⟩,a2⟩⟩
  have ev':vx (h++o) [a] H'=vx h (o++[a]) H':=zhe fun b=>by simp [or_assoc]
  rw [ev'] at l;refine c (o++[a]) H' (S++[ds]) (.l S.length) _ e2 ⟨by simp [hs.len],zc3 hs.nd fun m=>na (mem_append_right _ m),fun b hb=>?_,fun b hb=>?_,fun k b es q1 q2=>?_⟩ ⟨a,by rw [hs.len,getElem?_concat_length],rfl⟩ q
  ·rcases mem_append.mp hb with hb | hb
   ·exact hs.dis b hb
   ·rw [mem_singleton.mp hb]; exact fun m=>na (mem_append_left _ m)
  ·obtain⟨u,eb⟩:=hs.hal b hb;exact⟨u,sH b _ eb⟩
  ·by_cases hk:k<o.length
   ·rw [getElem?_append_left hk] at q1;rw [getElem?_append_left (by rw [hs.len]; exact hk)] at q2;obtain⟨ws,e3,l3⟩:=hs.cont k b es q1 q2;exact⟨ws,sH _ _ e3,l3.mono e2.vx⟩
   ·have hk':k=o.length:=by
     obtain⟨q,_⟩:=List.getElem?_eq_some_iff.mp q1;rw [length_append,length_singleton] at q;omega
    subst hk';rw [getElem?_concat_length] at q1;rw [<- hs.len,getElem?_concat_length] at q2;cases q1;cases q2;exact⟨vs,ev,l⟩
 ·exact q.elim
theorem zqo{k:Nat}{a:Addr}{p:List PyData}(hs:RepS h o H S)(ea:o[k]? = some a)(ep:S[k]? = some p):RepS (h++o.filter (fun b=>b≠a)) [a] H [p] where
 len:=rfl
 nd:=by simp
 dis:=fun b hb=>by
  rw [mem_singleton.mp hb];intro m;rcases mem_append.mp m with m | m
  ·exact hs.dis a (mem_of_getElem? ea) m
  ·have:=(mem_filter.mp m).2;simp at this
 hal:=fun b hb=>(mem_append.mp hb).elim (hs.hal b) fun m=>hs.oam b (mem_filter.mp m).1
 cont:=fun j b ds e1 e2=>by
  cases j with
  | succ j=>simp at e1
  | zero =>
   cases e1;cases e2;obtain⟨vs,e3,l⟩:=hs.cont k a p ea ep;refine⟨vs,e3,?_⟩;rw [zhe (h:=h) (o:=o) (mem_pen ea)];exact l
where
 mem_pen {h o:List Addr} {k:Nat} {a:Addr} (ea:o[k]? = some a) (b:Addr):(b∈h++o.filter (fun b=>b≠a)\/b∈[a])↔(b∈h\/b∈o):=by
  have ma:=mem_of_getElem? ea;by_cases e:b=a
  ·subst e;simp [ma]
  ·simp [e]
theorem hxP{k:Nat}{a:Addr}{d:PyData}{v:V}(ea:o[k]? = some a)(hx:HasX h o H (.d d) v):HasX (h++o.filter (fun b=>b≠a)) [a] H (.d d) v:=by
 show Has (vx _ _ H) d v;rw [zhe (h:=h) (o:=o) (zqo.mem_pen ea)];exact hx
theorem cnP{k:Nat}{a:Addr}{p:List PyData}(hs:RepS h o H S)(ea:o[k]? = some a)(ep:S[k]? = some p)(c:Cn h o H R Q):Cn (h++o.filter (fun b=>b≠a)) [a] H (zqy k S R) Q:=fun o' H' S' y v e s' hy q=>by
 have ma:=mem_of_getElem? ea;have hk:k<o.length:=(List.getElem?_eq_some_iff.mp ea).1;unfold zqy at q;split at q
 ·rename_i d p';obtain⟨r,rfl⟩:=e.pre;have er:r=[]:=by
   have:=s'.len;simp at this;exact this
  subst er;have ex:Ex o H o H':=⟨⟨[],by simp⟩,fun b u hb eb=>⟨hb,(e.kp b u (fun m=>hb (by rw [mem_singleton.mp m]; exact ma)) eb).2⟩⟩;obtain⟨vs,ev,l⟩:=s'.cont 0 a p' rfl rfl;have ev':vx (h++o.filter (fun b=>b≠a)) ([a]++[]) H'=vx h o H':=zhe (zqo.mem_pen ea);rw [ev'] at l;refine c o H' (S.set k p') (.d d) v ex ⟨by simp [hs.len],hs.nd,hs.dis,fun b hb=>?_,fun j b es q1 q2=>?_⟩ (by
   have hy':Has (vx (h++o.filter (fun b=>b≠a)) ([a]++[]) H') d v:=hy;rw [ev'] at hy';exact hy') q
  ·obtain⟨u,eb⟩:=hs.hal b hb;exact⟨u,(e.kp b _ (fun m=>hs.dis a ma (by rw [<- mem_singleton.mp m]; exact hb)) eb).2⟩
  ·by_cases hj:j=k
   ·subst hj;rw [q1] at ea;cases ea;rw [getElem?_set_self (by rw [hs.len]; exact hk)] at q2;cases q2;exact⟨vs,ev,l⟩
   ·rw [getElem?_set_ne (Ne.symm hj)] at q2;obtain⟨ws,e3,l3⟩:=hs.cont j b es q1 q2;have ne:b≠a:=fun z=>hj (zds hs.nd q1 (z▸ea));exact⟨ws,(e.kp b _ (by simp [ne]) e3).2,l3.mono ex.vx⟩
 ·rename_i p' ds;obtain⟨r,rfl⟩:=e.pre;obtain⟨a2,rfl⟩:∃ a2,r=[a2]:=by
   have:=s'.len;simp at this;exact List.length_eq_one_iff.mp this
  obtain⟨b2,eb2,rfl⟩:=hy;cases eb2;obtain⟨vs,ev,l⟩:=s'.cont 0 a p' rfl rfl;obtain⟨vs2,ev2,l2⟩:=s'.cont 1 a2 ds rfl rfl;have n2:a2∉h++o.filter (fun b=>b≠a):=s'.dis a2 (by simp);have n3:a≠a2:=by
   have:=s'.nd;simp at this;exact this
  have n4:a2∉o:=fun m=>n2 (mem_append_right _ (mem_filter.mpr ⟨m,by simp [Ne.symm n3]⟩));have ex:Ex o H (o++[a2]) H':=⟨⟨[a2],rfl⟩,fun b u hb eb=>by
   obtain⟨z1,z2⟩:=e.kp b u (fun m=>hb (by rw [mem_singleton.mp m]; exact ma)) eb;refine⟨?_,z2⟩;simp only [mem_append,not_or];exact⟨hb,fun m=>z1 (by simp at m ⊢; exact .inr m)⟩⟩
  have ev':vx (h++o.filter (fun b=>b≠a)) ([a]++[a2]) H'=vx h (o++[a2]) H':=zhe fun b=>by
   have:=zqo.mem_pen (h:=h) ea b;simp only [mem_append] at this ⊢;rw [<- or_assoc,this,or_assoc]
  rw [ev'] at l l2;refine c (o++[a2]) H' (S.set k p'++[ds]) (.l S.length) _ ex ⟨by simp [hs.len],zc3 hs.nd n4,fun b hb=>?_,fun b hb=>?_,fun j b es q1 q2=>?_⟩ ⟨a2,by rw [hs.len,getElem?_concat_length],rfl⟩ q
  ·rcases mem_append.mp hb with hb | hb
   ·exact hs.dis b hb
   ·rw [mem_singleton.mp hb]; exact fun m=>n2 (mem_append_left _ m)
  ·obtain⟨u,eb⟩:=hs.hal b hb;exact⟨u,(e.kp b _ (fun m=>hs.dis a ma (by rw [<- mem_singleton.mp m]; exact hb)) eb).2⟩
  ·by_cases hjo:j<o.length
   ·rw [getElem?_append_left hjo] at q1;rw [getElem?_append_left (by rw [length_set,hs.len]; exact hjo)] at q2;by_cases hj:j=k
    ·subst hj;rw [q1] at ea;cases ea;rw [getElem?_set_self (by rw [hs.len]; exact hk)] at q2;cases q2;exact⟨vs,ev,l⟩
    ·rw [getElem?_set_ne (Ne.symm hj)] at q2;obtain⟨ws,e3,l3⟩:=hs.cont j b es q1 q2;have ne:b≠a:=fun z=>hj (zds hs.nd q1 (z▸ea));exact⟨ws,(e.kp b _ (by simp [ne]) e3).2,l3.mono ex.vx⟩
   ·have hk':j=o.length:=by
     obtain⟨q,_⟩:=List.getElem?_eq_some_iff.mp q1;rw [length_append,length_singleton] at q;omega
    subst hk';rw [getElem?_concat_length] at q1;rw [<- hs.len,<- length_set (i:=k) (a:=p'),getElem?_concat_length] at q2;cases q1;cases q2;exact⟨vs2,ev2,l2⟩
 ·exact q.elim
end
structure DEnds where
 nx:XE->Sto->Prop
 rt:RX
 bk:XE->Sto->Prop:=fun _ _=>False
 ct:XE->Sto->Prop:=fun _ _=>False
abbrev DS:=DEnds->XE->Sto->Prop
abbrev DG:=XV->XE->Sto->(XE->Sto->Prop)->Prop
abbrev DGs:=List PyData->XE->Sto->(XE->Sto->Prop)->Prop
def Nx(h o:List Addr)(H:Hp)(N:XE->Sto->Prop)(M:St->Hp->Prop):Prop:=∀ o' H' δ' S' σ',Ex o H o' H'->RepE h o' H' δ' σ'->RepS h o' H' S'->N δ' S'->M σ' H'
theorem Nx.pre{h o o':List Addr}{H H':Hp}{N:XE->Sto->Prop}{M:St->Hp->Prop}(c:Nx h o H N M)(e:Ex o H o' H'):Nx h o' H' N M:=fun o2 H2 δ2 S2 σ2 e2=>c o2 H2 δ2 S2 σ2 (e.trans e2)
structure EOk(h o:List Addr)(H:Hp)(E:DEnds)(D:Ends):Prop where
 nx:Nx h o H E.nx D.nx
 rt:Cn h o H E.rt D.rt
 bk:Nx h o H E.bk D.bk
 ct:Nx h o H E.ct D.ct
theorem EOk.pre{h o o':List Addr}{H H':Hp}{E:DEnds}{D:Ends}(c:EOk h o H E D)(e:Ex o H o' H'):EOk h o' H' E D:=⟨c.nx.pre e,c.rt.pre e,c.bk.pre e,c.ct.pre e⟩
def RS(t:TS)(dt:DS):Prop:=∀ (h o:List Addr) (H:Hp) (δ:XE) (σ:St) (S:Sto) (E:DEnds) (D:Ends),RepE h o H δ σ->RepS h o H S->dt E δ S->EOk h o H E D->t D σ H
def RG(t:TG)(dt:DG):Prop:=∀ (h o:List Addr) (H:Hp) (δ:XE) (σ:St) (S:Sto) (x:XV) (v:V) (N:XE->Sto->Prop) (M:St->Hp->Prop),RepE h o H δ σ->RepS h o H S->HasX h o H x v->dt x δ S N->Nx h o H N M->t v σ H M
def RGs(t:TGs)(dt:DGs):Prop:=∀ (h o:List Addr) (H:Hp) (δ:XE) (σ:St) (S:Sto) (ds:List PyData) (vs:List V) (N:XE->Sto->Prop) (M:St->Hp->Prop),RepE h o H δ σ->RepS h o H S->HasL (vx h o H) ds vs->dt ds δ S N->Nx h o H N M->t vs σ H M
def zn(i:Nat):DG:=fun x δ S N=>N (δ.set i (some x)) S
def zff:DGs:=fun ds δ S N=>ds=[]/\N δ S
def hdD:List PyData->(PyData->List PyData->Prop)->Prop
 | d :: es,k=>k d es
 | [],_=>False
theorem zoX{ds:List PyData}{k:PyData->List PyData->Prop}(h:hdD ds k):∃ d es,ds=d :: es/\k d es:=by
 cases ds with
 | nil=>exact h.elim
 | cons d es=>exact⟨d,es,rfl,h⟩
theorem zqc{d:PyData}{es:List PyData}{k:PyData->List PyData->Prop}:hdD (d :: es) k=k d es:=rfl
def za2(g:DG)(r:DGs):DGs:=fun ds δ S N=>hdD ds fun d es=>g (.d d) δ S fun δ' S'=>r es δ' S' N
def zdN(n:Nat)(r:DGs):DG:=fun x δ S N=>asT x fun ds=>ds.length=n/\r ds δ S N
def zg6(a b:DE):DG:=fun x δ S N=>a δ S fun y S1=>b δ S1 fun z S2=>asD x fun d=>∃ k,y=.l k/\∃ ds,S2[k]? = some ds/\asI z fun i=>∃ j,ixN ds.length i=some j/\N δ (S2.set k (ds.set j d))
theorem zy{i:Nat}:RG (zgO i) (zn i):=fun h o H δ σ S x v N M he hs hx q c=>c o H _ S _ Ex.refl (he.set hx) hs q
theorem zdi:RGs zrs zff:=fun h o H δ σ S ds vs N M he hs l ⟨e,q⟩ c=>by
 subst e;exact⟨zF.mp l,c o H δ S σ Ex.refl he hs q⟩
theorem zaF{t:TG}{u:TGs}{g:DG}{r:DGs}(h1:RG t g)(h2:RGs u r):RGs (zpk t u) (za2 g r):=fun h o H δ σ S ds vs N M he hs l q0 c=>by
 obtain⟨d,es,rfl,q⟩:=zoX q0;obtain⟨v,ws,rfl,hv,l⟩:=zt.mp l;exact⟨v,ws,rfl,h1 h o H δ σ S (.d d) v _ _ he hs hv q fun o1 H1 δ1 S1 σ1 e1 he1 hs1 q1=>h2 h o1 H1 δ1 σ1 S1 es ws N M he1 hs1 (l.mono e1.vx) q1 (c.pre e1)⟩
theorem ze3{K:W.Frag}{n:Nat}{t:TGs}{r:DGs}(h1:RGs t r):RG (zra K n t) (zdN n r):=fun h o H δ σ S x v N M he hs hx q c=>by
 replace q:=zd2 q;obtain⟨ds,rfl,hn,q⟩:=q;obtain⟨a,vs,rfl,ea,l⟩:=zcw hx;exact⟨a,vs,rfl,.of ea,by rw [l.length]; exact hn,h1 h o H δ σ S ds vs N M he hs l q c⟩
theorem HasL.setAt{H:Hp}:∀ {ds:List PyData} {vs:List V} {j:Nat} {d:PyData} {v:V},HasL H ds vs->Has H d v->HasL H (ds.set j d) (vs.set j v)
 | [],vs,j,d,v,l,_=>by rw [zF.mp l]; exact zF.mpr rfl
 | c :: ds,vs,0,d,v,l,q=>by
  obtain⟨u,r,rfl,_,l⟩:=zt.mp l;exact zt.mpr ⟨v,r,rfl,q,l⟩
 | c :: ds,vs,j+1,d,v,l,q=>by
  obtain⟨u,r,rfl,hu,l⟩:=zt.mp l;exact zt.mpr ⟨u,r.set j v,rfl,hu,HasL.setAt l q⟩
theorem zps{ta tb:TE}{da db:DE}(ha:RE ta da)(hb:RE tb db):RG (zrC ta tb zoW) (zg6 da db):=fun h o H δ σ S x v N M he hs hx q c =>
 ha h o H δ σ S _ _ he hs q fun o1 H1 S1 y u e1 s1 y1 d1=>hb h o1 H1 δ σ S1 _ _ (he.mono e1) s1 d1 fun o2 H2 S2 z w e2 s2 z2 d0=>by
  obtain⟨d,rfl,k,rfl,ds,es,d2⟩:=zin d0;replace d2:=zaP d2;obtain⟨i,rfl,j,ej,d2⟩:=d2;obtain⟨a,ea,rfl⟩:=y1.mono e2;obtain⟨ws,ew,l⟩:=s2.cont k a ds ea es;refine⟨a,ws,i,j,rfl,zaC z2,ew,by rw [l.length]; exact ej,?_⟩;exact c o2 _ δ _ σ ((e1.trans e2).trans (Ex.upd ea)) (((he.mono e1).mono e2).mono (Ex.upd ea)) (s2.upd ea (l.setAt (hx.mono (e1.trans e2)))) d2
def zaz:DS:=fun E δ S=>E.nx δ S
def zac(t u:DS):DS:=fun E δ S=>t { E with nx:=u E } δ S
def zaL(e:DE)(g:DG):DS:=fun E δ S=>e δ S fun x S1=>g x δ S1 E.nx
def zdS(e:DE):DS:=fun E δ S=>e δ S fun _ S1=>E.nx δ S1
def zaN(e:DE):DS:=fun E δ S=>e δ S E.rt
def zcF(c:DT)(t u:DS):DS:=fun E δ S=>c δ S fun b S1=>if b=true then t E δ S1 else u E δ S1
section
variable {t u:TS} {dt du:DS} {te:TE} {de:DE}
theorem zby:RS zop zaz:=fun h o H δ σ S E D he hs q c=>c.nx o H δ S σ Ex.refl he hs q
theorem zZ(ht:RS t dt)(hu:RS u du):RS (znf t u) (zac dt du):=fun h o H δ σ S E D he hs q c =>
 ht h o H δ σ S _ _ he hs q ⟨fun o1 H1 δ1 S1 σ1 e1 he1 hs1 q1=>hu h o1 H1 δ1 σ1 S1 E D he1 hs1 q1 (c.pre e1),c.rt,c.bk,c.ct⟩
theorem zbp{g:TG}{dg:DG}(he':RE te de)(hg:RG g dg):RS (zou te g) (zaL de dg):=fun h o H δ σ S E D he hs q c =>
 he' h o H δ σ S _ _ he hs q fun o1 H1 S1 x v e1 s1 x1 d1=>hg h o1 H1 δ σ S1 x v _ _ (he.mono e1) s1 x1 d1 (c.nx.pre e1)
theorem zoc(he':RE te de):RS (zpj te) (zdS de):=fun h o H δ σ S E D he hs q c =>
 he' h o H δ σ S _ _ he hs q fun o1 H1 S1 x v e1 s1 x1 d1=>c.nx o1 H1 δ S1 σ e1 (he.mono e1) s1 d1
theorem zaB(he':RE te de):RS (zqD te) (zaN de):=fun h o H δ σ S E D he hs q c=>he' h o H δ σ S _ _ he hs q c.rt
theorem ze1{tc:TT}{dc:DT}(hc:RT tc dc)(ht:RS t dt)(hu:RS u du):RS (zqs tc t u) (zcF dc dt du):=fun h o H δ σ S E D he hs q c =>
 hc h o H δ σ S _ _ he hs q fun o1 H1 S1 b e1 s1 d1=>by
  cases b with
  | true=>exact zow (ht h o1 H1 δ σ S1 E D (he.mono e1) s1 (by simpa using d1) (c.pre e1))
  | false=>exact zox (hu h o1 H1 δ σ S1 E D (he.mono e1) s1 (by simpa using d1) (c.pre e1))
def frz(n:Nat)(ds:List PyData):Option XV->Option XV
 | some (.l k)=>if k=n then some (.d (.list ds)) else some (.l k)
 | y=>y
end
abbrev DI:=XE->Sto->(List PyData->Sto->Prop)->Prop
structure WalkX(h o:List Addr)(H:Hp)(J:It)(ds:List PyData):Prop where
 stop:∀ (i:Nat) o2 H2,ExH h o H o2 H2->ds.length<=i->J.stop i H2
 go:∀ (i:Nat) d o2 H2,ExH h o H o2 H2->ds[i]? = some d->J.go i H2
 yld:∀ (i:Nat) d o2 H2 x H3 S2,ExH h o H o2 H2->RepS h o2 H2 S2->ds[i]? = some d->J.yld i H2 x H3->Same H2 H3/\Has (vx h o2 H3) d x
def RI(w:TI)(di:DI):Prop:=∀ (h o:List Addr) (H:Hp) (δ:XE) (σ:St) (S:Sto) (R:List PyData->Sto->Prop) (Q:It->Hp->Prop),RepE h o H δ σ->RepS h o H S->di δ S R ->
 (∀ o' H' S' ds J,Ex o H o' H'->RepS h o' H' S'->WalkX h o' H' J ds->R ds S'->Q J H')->w σ H Q
theorem zkb{h o:List Addr}{H:Hp}{lo:Int}{n:Nat}:WalkX h o H (Itr lo n) (zhK lo n) where
 stop:=fun i _ _ _ hi=>by rw [zap] at hi; exact hi
 go:=fun i d _ _ _ hi=>(zbr hi).1
 yld:=fun i d o2 H2 x H3 S2 _ _ hi y=>by
  obtain⟨e,ex⟩:=y;subst e ex;rw [(zbr hi).2];exact⟨Same.refl _,zbA.mpr rfl⟩
def zhk(g:DG)(b:DS):List PyData->DS
 | [],E,δ,S=>E.nx δ S
 | d :: ds,E,δ,S=>g (.d d) δ S fun δ1 S1=>b { nx:=fun δ2 S2=>zhk g b ds E δ2 S2,ct:=fun δ2 S2=>zhk g b ds E δ2 S2,bk:=E.nx,rt:=E.rt } δ1 S1
def zgA(i:DI)(g:DG)(b:DS):DS:=fun E δ S=>i δ S fun ds S1=>zhk g b ds E δ S1
theorem zg3{wi:TI}{g:TG}{tb:TS}{di:DI}{dg:DG}{db:DS}(hi:RI wi di)(hg:RG g dg)(hb:RS tb db):RS (zpG wi g tb) (zgA di dg db):=fun h o H δ σ S E D he hs q c =>
 hi h o H δ σ S _ _ he hs q fun o1 H1 S1 ds J e1 s1 wk d1=>by
  refine⟨fun i m σ2 H2=>m=ds.length - i/\i<=ds.length/\∃ o2 δ2 S2,Ex o1 H1 o2 H2/\RepE h o2 H2 δ2 σ2/\RepS h o2 H2 S2/\zhk dg db (ds.drop i) E δ2 S2,⟨ds.length,by simp,zero_le _,o1,δ,S1,Ex.refl,he.mono e1,s1,d1⟩,?_⟩;rintro i m σ2 H2 ⟨rfl,hi,o2,δ2,S2,e2,he2,hs2,d2⟩;by_cases hlt:i<ds.length
  ·have ed:ds[i]? = some ds[i]:=getElem?_eq_getElem hlt;rw [drop_eq_getElem_cons hlt] at d2;refine .inr ⟨wk.go i _ o2 H2 e2.hid ed,fun σ3 H3=>∃ o3 δ3 S3,Ex o1 H1 o3 H3/\RepE h o3 H3 δ3 σ3/\RepS h o3 H3 S3/\zhk dg db (ds.drop (i+1)) E δ3 S3,fun σ3 H3 n=>⟨ds.length - (i+1),by omega,rfl,hlt,n⟩,fun x H3 y=>?_⟩;obtain⟨s3,hx⟩:=wk.yld i _ o2 H2 x H3 S2 e2.hid hs2 ed y;have e23:Ex o2 H2 o2 H3:=Ex.of_same s3;refine hg h o2 H3 δ2 σ2 S2 (.d ds[i]) x _ _ (he2.mono e23) (hs2.same s3) hx d2 fun o4 H4 δ4 S4 σ4 e4 he4 hs4 d4=>?_;have e14:Ex o1 H1 o4 H4:=(e2.trans e23).trans e4;have ce:=(c.pre e1).pre e14;exact hb h o4 H4 δ4 σ4 S4 _ _ he4 hs4 d4 ⟨fun o5 H5 δ5 S5 σ5 e5 he5 hs5 d5=>⟨o5,δ5,S5,e14.trans e5,he5,hs5,d5⟩,ce.rt,ce.nx,fun o5 H5 δ5 S5 σ5 e5 he5 hs5 d5=>⟨o5,δ5,S5,e14.trans e5,he5,hs5,d5⟩⟩
  ·have ei:i=ds.length:=by omega
   subst ei;rw [drop_length] at d2;exact .inl ⟨wk.stop _ o2 H2 e2.hid (le_refl _),c.nx o2 H2 δ2 S2 σ2 (e1.trans e2) he2 hs2 d2⟩
def zau:DT:=fun _ S R=>R true S
theorem zaw:RT zp9 zau:=fun h o H δ σ S R Q he hs q c=>c o H S true Ex.refl hs q
def zgz(n:Nat)(g:DG)(tt:DT)(te:DE)(fin:Sto->Prop):List PyData->XE->Sto->Prop
 | [],_,S=>fin S
 | d :: ds,τ,S=>g (.d d) τ S fun τ1 S1=>tt τ1 S1 fun b S2=>if b=true then te τ1 S2 fun x S3=>asD x fun e=>∃ acc,S3[n]? = some acc/\acc.length<1000/\zgz n g tt te fin ds τ1 (S3.set n (acc++[e])) else zgz n g tt te fin ds τ1 S2
def zfd(caps:List (Option Nat))(i:DI)(g:DG)(tt:DT)(te:DE):DE:=fun δ S R=>i δ S fun ds S1=>zgz S1.length g tt te (fun S2=>R (.l S1.length) S2) ds (zmr caps δ) (S1++[[]])
def zcJ(caps:List (Option Nat))(i:DI)(g:DG)(tt:DT)(te:DE):DE:=fun δ S R=>i δ S fun ds S1=>zgz S1.length g tt te (fun S2=>∃ S0 acc,S2=S0++[acc]/\S0.length=S1.length/\R (.d (.list acc)) S0) ds (zmr caps δ) (S1++[[]])
theorem RepS.pop{h o r:List Addr}{H:Hp}{S0 T:Sto}(hs:RepS h (o++r) H (S0++T))(hl:S0.length=o.length):RepS h o H S0 where
 len:=hl
 nd:=(nodup_append.mp hs.nd).1
 dis:=fun a ha=>hs.dis a (mem_append_left _ ha)
 hal:=hs.hal
 cont:=fun k a ds e1 e2=>by
  obtain⟨vs,e3,l⟩:=hs.cont k a ds (zdk e1) (zdk e2);exact⟨vs,e3,l.mono fun b u e=>by
   obtain⟨z1,z2,z3⟩:=zX.mp e;exact zX.mpr ⟨z1,fun m=>z2 (mem_append_left _ m),z3⟩⟩
theorem ziP{h o r:List Addr}{H:Hp}:Same (vx h (o++r) H) (vx h o H):=fun b u e=>by
 obtain⟨z1,z2,z3⟩:=zX.mp e;exact zX.mpr ⟨z1,fun m=>z2 (mem_append_left _ m),z3⟩
theorem Ex.pop{o o' r:List Addr}{H H':Hp}(e:Ex o H (o++r) H'):Ex o H o H':=⟨⟨[],by simp⟩,fun b u hb eb=>⟨hb,(e.kp b u hb eb).2⟩⟩
theorem zgC{caps:List (Option Nat)}{wi:TI}{g:TG}{tt:TT}{te:TE}{di:DI}{dg:DG}{dtt:DT}{dte:DE}(hi:RI wi di)(hg:RG g dg)(ht:RT tt dtt)(he':RE te dte)
  {h o:List Addr} {H:Hp} {δ:XE} {σ:St} {S:Sto} {Q:VK} {fin:Nat->Sto->Prop} (he:RepE h o H δ σ) (hs:RepS h o H S) (q:di δ S fun ds S1=>zgz S1.length dg dtt dte (fin S1.length) ds (zmr caps δ) (S1++[[]]))
  (c:∀ o1 H1 D o2 H2 S2,Ex o H o1 H1->H1 D=none->Ex (o1++[D]) (upd H1 D (.lst [])) o2 H2->RepS h o2 H2 S2->fin o1.length S2->Q (.ref D) H2):zky caps wi g tt te σ H Q:=by
 refine hi h o H δ σ S _ _ he hs q fun o1 H1 S1 ds J e1 s1 wk d1 D hD=>?_;have eN:Ex o1 H1 (o1++[D]) (upd H1 D (.lst [])):=Ex.new s1 hD;have sN:RepS h (o1++[D]) (upd H1 D (.lst [])) (S1++[[]]):=s1.new hD (zF.mpr rfl);have hn:S1.length=o1.length:=s1.len;refine⟨fun i m τ H2=>m=ds.length - i/\i<=ds.length/\∃ o2 δ2 S2,Ex (o1++[D]) (upd H1 D (.lst [])) o2 H2/\RepE h o2 H2 δ2 τ/\RepS h o2 H2 S2/\zgz S1.length dg dtt dte (fin S1.length) (ds.drop i) δ2 S2,⟨ds.length,by simp,zero_le _,_,_,_,Ex.refl,((he.mono e1).mono eN).tau,sN,d1⟩,?_⟩;rintro i m τ H2 ⟨rfl,hi,o2,δ2,S2,e2,he2,hs2,d2⟩;by_cases hlt:i<ds.length
 ·have ed:ds[i]? = some ds[i]:=getElem?_eq_getElem hlt;rw [drop_eq_getElem_cons hlt] at d2;refine .inr ⟨wk.go i _ o2 H2 (eN.trans e2).hid ed,fun x H3 y=>?_⟩;obtain⟨s3,hx⟩:=wk.yld i _ o2 H2 x H3 S2 (eN.trans e2).hid hs2 ed y;have e23:Ex o2 H2 o2 H3:=Ex.of_same s3;refine hg h o2 H3 δ2 τ S2 (.d ds[i]) x _ _ (he2.mono e23) (hs2.same s3) hx d2 fun o4 H4 δ4 S4 τ4 e4 he4 hs4 d4=>?_;refine ht h o4 H4 δ4 τ4 S4 _ _ he4 hs4 d4 fun o5 H5 S5 b e5 s5 d5=>?_;have e15:=((e2.trans e23).trans e4).trans e5;cases b with
  | false=>exact zox ⟨ds.length - (i+1),by omega,rfl,hlt,o5,δ4,S5,e15,he4.mono e5,s5,by simpa using d5⟩
  | true =>
   refine zow (he' h o5 H5 δ4 τ4 S5 _ _ (he4.mono e5) s5 (by simpa using d5) fun o6 H6 S6 z v e6 s6 z6 d6=>?_);replace d6:=zin d6;obtain⟨e,rfl,acc,ea,hl,d6⟩:=d6;have e16:=e15.trans e6;have eD:o6[S1.length]? = some D:=by
    obtain⟨r,rfl⟩:=e16.pre;rw [hn];exact zdk (by rw [getElem?_concat_length])
   obtain⟨vs,ev,l⟩:=s6.cont _ D acc eD ea;refine⟨vs,ev,by rw [l.length]; exact small1000 (le_of_lt hl),ds.length - (i+1),by omega,rfl,hlt,o6,δ4,_,e16.trans (Ex.upd eD),((he4.mono e5).mono e6).mono (Ex.upd eD),s6.upd eD (l.append (zt.mpr ⟨v,[],rfl,z6,zF.mpr rfl⟩)),d6⟩
 ·have ei:i=ds.length:=by omega
  subst ei;rw [drop_length] at d2;exact .inl ⟨wk.stop _ o2 H2 (eN.trans e2).hid (le_refl _),c o1 H1 D o2 H2 S2 e1 hD e2 hs2 (hn▸d2)⟩
theorem zet{caps:List (Option Nat)}{wi:TI}{g:TG}{tt:TT}{te:TE}{di:DI}{dg:DG}{dtt:DT}{dte:DE}(hi:RI wi di)(hg:RG g dg)(ht:RT tt dtt)(he':RE te dte):RE (zky caps wi g tt te) (zfd caps di dg dtt dte):=fun h o H δ σ S R Q he hs q c=>by
 refine zgC (fin:=fun n S2=>R (.l n) S2) hi hg ht he' he hs q fun o1 H1 D o2 H2 S2 e1 hD e2 s2 f=>?_;have eN:Ex o1 H1 (o1++[D]) (upd H1 D (.lst [])):=⟨⟨[D],rfl⟩,fun b w hb e=>by
  have ne:b≠D:=zD e hD;exact⟨by simp [hb,ne],by rw [zG ne]; exact e⟩⟩
 refine c o2 H2 S2 (.l o1.length) _ ((e1.trans eN).trans e2) s2 ⟨D,?_,rfl⟩ f;obtain⟨r,rfl⟩:=e2.pre;exact zdk (by rw [getElem?_concat_length])
theorem za9{caps:List (Option Nat)}{wi:TI}{g:TG}{tt:TT}{te:TE}{di:DI}{dg:DG}{dtt:DT}{dte:DE}(hi:RI wi di)(hg:RG g dg)(ht:RT tt dtt)(he':RE te dte):RE (zky caps wi g tt te) (zcJ caps di dg dtt dte):=fun h o H δ σ S R Q he hs q c=>by
 refine zgC (fin:=fun n S2=>∃ (S0:Sto) (acc:List PyData),S2=S0++[acc]/\S0.length=n/\R (.d (.list acc)) S0) hi hg ht he' he hs q fun o1 H1 D o2 H2 S2 e1 hD e2 s2 ⟨S0,acc,eS,hl,f⟩=>?_;subst eS;have eN:Ex o1 H1 (o1++[D]) (upd H1 D (.lst [])):=⟨⟨[D],rfl⟩,fun b w hb e=>by
  have ne:b≠D:=zD e hD;exact⟨by simp [hb,ne],by rw [zG ne]; exact e⟩⟩
 have e12:=eN.trans e2;obtain⟨r,rfl⟩:=e2.pre;have er:r=[]:=by
  have:=s2.len;simp only [length_append,length_singleton,hl] at this;exact eq_nil_of_length_eq_zero (by omega)
 subst er;rw [append_nil] at s2 e12;have s0:RepS h o1 H2 S0:=s2.pop hl;refine c o1 H2 S0 (.d (.list acc)) _ (e1.trans (Ex.pop (o':=o1) e12)) s0 ?_ f;obtain⟨vs,ev,l⟩:=s2.cont o1.length D acc (by rw [getElem?_concat_length]) (by rw [<- hl,getElem?_concat_length]);have nD:D∉o1:=by
  have:=(nodup_append.mp s2.nd).2.2;intro m;exact this D m D (by simp) rfl
 exact zaf.mpr ⟨D,vs,rfl,zX.mpr ⟨s2.dis D (by simp),nD,ev⟩,l.mono ziP⟩
def fin(n:Nat)(R:RX):RX:=fun y S'=>match y with
 | .l k=>if k<n then R (.l k) (S'.take n) else ∃ ds,S'[k]? = some ds/\(R (.d (.list ds)) (S'.take n)\/R (.l n) (S'.take n++[ds]))
 | y=>R y (S'.take n)
theorem zmM{h o:List Addr}{H:Hp}{S:Sto}{R:RX}{Q:VK}(hs:RepS h o H S)(c:Cn h o H R Q):Cn h o H (fin S.length R) Q:=fun o' H' S' y v e s' hy q=>by
 obtain⟨r,rfl⟩:=e.pre;have eS:S'=S'.take S.length++S'.drop S.length:=(List.take_append_drop _ _).symm;have hl:(S'.take S.length).length=o.length:=by
  have:=s'.len;rw [length_append] at this;rw [length_take,this,hs.len];omega
 have s0:RepS h o H' (S'.take S.length):=by
  rw [eS] at s';exact s'.pop hl
 have e0:Ex o H o H':=Ex.pop (o':=o) e;cases y with
 | d d=>exact c o H' _ (.d d) v e0 s0 (Has.mono ziP d v hy) q
 | o w=>exact c o H' _ (.o w) v e0 s0 hy q
 | x C fs=>exact c o H' _ (.x C fs) v e0 s0 (HasE.mono ziP hy) q
 | l k =>
  unfold fin at q;by_cases hk:k<S.length
  ·simp only [hk,↓reduceIte] at q;obtain⟨a,ea,rfl⟩:=hy;exact c o H' _ (.l k) _ e0 s0 ⟨a,by rw [getElem?_append_left (by rw [<- hs.len]; exact hk)] at ea; exact ea,rfl⟩ q
  ·simp only [hk,↓reduceIte] at q;obtain⟨ds,eds,q⟩:=q;obtain⟨a,ea,rfl⟩:=hy;obtain⟨vs,ev,l⟩:=s'.cont k a ds ea eds;have na:a∉o:=fun m=>by
    obtain⟨j,ej⟩:=mem_iff_getElem?.mp m;have hj:j<o.length:=(List.getElem?_eq_some_iff.mp ej).1;have:=zds s'.nd (zdk (t:=r) ej) ea;rw [hs.len] at hk;omega
   have nh:a∉h:=s'.dis a (mem_of_getElem? ea);rcases q with q | q
   ·exact c o H' _ (.d (.list ds)) _ e0 s0 (zaf.mpr ⟨a,vs,rfl,zX.mpr ⟨nh,na,ev⟩,l.mono ziP⟩) q
   ·have hn:H a=none:=by
     cases eh:H a with
     | none=>rfl
     | some u=>exact absurd (mem_of_getElem? ea) (e.kp a u na eh).1
    have e1:Ex o H (o++[a]) H':=⟨⟨[a],rfl⟩,fun b u hb eb=>⟨by simp only [mem_append,mem_singleton,not_or]; exact⟨hb,zD eb hn⟩,(e0.kp b u hb eb).2⟩⟩;have sub:Same (vx h (o++r) H') (vx h (o++[a]) H'):=fun b u eb=>by
     obtain⟨z1,z2,z3⟩:=zX.mp eb;refine zX.mpr ⟨z1,?_,z3⟩;simp only [mem_append,mem_singleton,not_or];exact⟨fun m=>z2 (mem_append_left _ m),fun z=>z2 (by rw [z]; exact mem_of_getElem? ea)⟩
    refine c (o++[a]) H' _ (.l S.length) _ e1 ⟨by rw [length_append,length_append,hl]; rfl,zc3 hs.nd na,fun b hb=>?_,s0.hal,fun j b es q1 q2=>?_⟩ ⟨a,by rw [hs.len,getElem?_concat_length],rfl⟩ q
    ·rcases mem_append.mp hb with hb | hb
     ·exact hs.dis b hb
     ·rw [mem_singleton.mp hb]; exact nh
    ·by_cases hj:j<o.length
     ·rw [getElem?_append_left hj] at q1;rw [getElem?_append_left (by rw [hl]; exact hj),List.getElem?_take_of_lt (by rw [hs.len]; exact hj)] at q2;obtain⟨ws,e3,l3⟩:=s'.cont j b es (zdk q1) q2;exact⟨ws,e3,l3.mono sub⟩
     ·have hj':j=o.length:=by
       obtain⟨q,_⟩:=List.getElem?_eq_some_iff.mp q1;rw [length_append,length_singleton] at q;omega
      subst hj';rw [getElem?_concat_length] at q1;rw [<- hl,getElem?_concat_length] at q2;cases q1;cases q2;exact⟨vs,ev,l.mono sub⟩
def zbR(n:Nat)(R:RX):DEnds:={ nx:=fun _ S'=>fin n R (.d .none) S',rt:=fin n R }
theorem eok{h o:List Addr}{H:Hp}{S:Sto}{R:RX}{Q:VK}(hs:RepS h o H S)(c:Cn h o H R Q):EOk h o H (zbR S.length R) { nx:=fun _ H'=>Q .non H',rt:=Q } :=
 ⟨fun o' H' δ' S' σ' e he hs' q=>zmM hs c o' H' S' _ _ e hs' xN q,zmM hs c,fun _ _ _ _ _ _ _ _ q=>q.elim,fun _ _ _ _ _ _ _ _ q=>q.elim⟩
def zam(p:List PyData):Prop:=∃ l g s:Int,p=[.int l,.int g,.int s]/\0<=l
end
section
def zrw(K:W.Frag):List V->Hp->VK->Prop:=fun xs H Q=>∃ (p:Addr) (ns:List Int),xs=[.ref p]/\SqL K H p (ns.map V.int)/\Q (.int ns.sum) H
def zrd(K:W.Frag):List V->Hp->VK->Prop:=fun xs H Q=>∃ (p:Addr) (bs:List Bool),xs=[.ref p]/\SqL K H p (bs.map V.bl)/\Q (.bl (bs.all id)) H
theorem zpw:bootBuiltins "sum" = some (.builtin "sum"):=by decide +kernel
theorem zd0:bootBuiltins "all" = some (.builtin "all"):=by decide +kernel
section
variable {X:Cx}
theorem zku(hc:X.calm=true):CallR X (.builtin "sum") (zrw X.K):=by
 intro ze s σ H xs us Q I r h;obtain⟨p,ns,rfl,hq,q⟩:=h;obtain⟨u,rfl,rx⟩:=vals1 r;cases (show u=Value.ref p from rx);obtain⟨its,rv,pl,_⟩:=I.list hq;obtain⟨ys,e,hns⟩:=znZ (zjq rv);refine sum_intListG (I.ok.hd hc) (by rw [<- e]; exact pl.isList) fun h' tk t' hk=>⟨.int ns.sum,H,I.kept (t':=tk) hk,⟨t',?_⟩,q⟩;have es:preSum (numAt ys) ys.size=ns.sum:=by
  rw [preSum_eq,hns,List.take_of_length_le (by simp)]
 rw [es]
theorem ziK:∀ {bs:List Bool} {us:List Value} {i:Nat} {v:Value},Vals (bs.map V.bl) us->us[i]? = some v->∃ b,bs[i]? = some b/\v=.bool b
 | [],_,i,v,.nil,e=>by simp at e
 | b :: bs,_,0,v,.cons r _,e=>by
  rw [getElem?_cons_zero] at e;cases e;exact⟨b,rfl,r⟩
 | b :: bs,_,i+1,v,.cons _ t,e=>by
  obtain⟨c,e1,e2⟩:=ziK (i:=i) (v:=v) t (by simpa using e);exact⟨c,by simpa using e1,e2⟩
theorem znL(bs:List Bool):((List.range bs.length).all fun i=>(bs[i]?).getD true)=bs.all id:=by
 rw [Bool.eq_iff_iff,all_eq_true,all_eq_true];constructor
 ·intro h b hb;obtain⟨i,hi⟩:=mem_iff_getElem?.mp hb;have hl:=(List.getElem?_eq_some_iff.mp hi).1;have:=h i (mem_range.mpr hl);rw [hi] at this;exact this
 ·intro h i hi;have hl:=mem_range.mp hi;rw [getElem?_eq_getElem hl];exact h _ (getElem_mem hl)
theorem zbt(hc:X.calm=true):CallR X (.builtin "all") (zrd X.K):=by
 intro ze s σ H xs us Q I r h;obtain⟨p,bs,rfl,hq,q⟩:=h;obtain⟨u,rfl,rx⟩:=vals1 r;cases (show u=Value.ref p from rx);obtain⟨its,rv,pl,_⟩:=I.list hq;have hl:=pl.isList;have hlt:p<s.heap.objs.size:=by
  obtain⟨_,e,_⟩:=hl;exact lt_size e
 refine call_all_walk (x:=Value.ref p) (wpAny_pyIter_list hl ?_);refine⟨s.heap.objs.size,[s.heap.objs.size,p],[s.heap.objs.size],its.toArray.size,_,_,fun i=>(bs[i]?).getD true,rfl,
  Walks.list (A:=X.A.in1) (I.ok.hd hc) _ p (ne_of_lt hlt) its.toArray,⟨⟨_,get?_push_size _ rfl,rfl,rfl⟩,hl.push _⟩,fun i v s' Q' E' hP hQ=>?_,fun h' tk hk=>?_⟩
 ·obtain⟨b,e,rfl⟩:=ziK (i:=i) (v:=v) rv (by simpa using hP);have hQ':Q' b s':=by simpa [e] using hQ
  exact wpAny_truthy_bool hQ'
 ·have hz:its.toArray.size=bs.length:=by
   have:=rv.length;rw [length_map] at this;simp [this]
  rw [hz,znL];refine⟨.bl _,H,I.kept (t':=tk) fun b o e=>hk b o (fun hm=>?_) (get?_push_of_some _ e),rfl,q⟩;rw [mem_singleton.mp hm] at e;exact lt_irrefl _ (lt_size e)
end
def zqz:List XV->Sto->RX->Prop:=fun xs S R=>arg1 xs fun x=>∃ ds,zjk S x=some ds/\∃ ns:List Int,ds=ns.map PyData.int/\R (.d (.int ns.sum)) S
theorem zmA{K:W.Frag}:RC (zrw K) zqz:=fun h o H S xs vs R Q hs hx q c=>by
 obtain⟨x,rfl,ds,hd,ns,rfl,q1⟩:=zaY q;obtain⟨v,rfl,hx1⟩:=hxs1 hx;obtain⟨a,ws,rfl,ea,l⟩:=zbq hs hd hx1;rw [zfQ l] at ea;exact⟨a,ns,rfl,.of ea,c o H S _ _ Ex.refl hs (xI _) q1⟩
theorem zgS{H:Hp}:∀ {ns:List Bool} {vs:List V},HasL H (ns.map PyData.bool) vs->vs=ns.map V.bl
 | [],vs,h=>zF.mp h
 | n :: ns,vs,h=>by
  obtain⟨v,r,rfl,h1,h2⟩:=zt.mp h;rw [zbj.mp h1,zgS h2];rfl
def zjO:List XV->Sto->RX->Prop:=fun xs S R=>arg1 xs fun x=>∃ ds,zjk S x=some ds/\∃ ns:List Bool,ds=ns.map PyData.bool/\R (.d (.bool (ns.all id))) S
theorem zdF{K:W.Frag}:RC (zrd K) zjO:=fun h o H S xs vs R Q hs hx q c=>by
 obtain⟨x,rfl,ds,hd,ns,rfl,q1⟩:=zaY q;obtain⟨v,rfl,hx1⟩:=hxs1 hx;obtain⟨a,ws,rfl,ea,l⟩:=zbq hs hd hx1;rw [zgS l] at ea;exact⟨a,ns,rfl,.of ea,c o H S _ _ Ex.refl hs (xB _) q1⟩
section
variable {S:Sto} {i:Int} {b:Bool} {z:Str} {ds:List PyData} {d:PyData} {k:Nat} {x y:XV} {R:RX} {c:String} {p:List PyData} {n:Nat} {v:V}
theorem zpU{K:Int->Prop}:asI (.d (.int i)) K=K i:=rfl
theorem zo7{K:Bool->Prop}:asB (.d (.bool b)) K=K b:=rfl
theorem zpT{K:Str->Prop}:asS (.d (.str z)) K=K z:=rfl
theorem zql{K:List PyData->Prop}:asT (.d (.tuple ds)) K=K ds:=rfl
theorem zp2{K:PyData->Prop}:asD (.d d) K=K d:=rfl
theorem zmE:zjk S (.d (.list ds))=some ds:=rfl
theorem zpu:asQ S (.d (.list ds))=some ds:=rfl
theorem zoO:asQ S (.d (.tuple ds))=some ds:=rfl
theorem zpW:asQ S (.l k)=S[k]?:=rfl
theorem zj1:zck S (.d d)=some d:=rfl
theorem zkT:zck S (.l k)=(S[k]?).map .list:=rfl
theorem zm4:ret0 S R (.d d) []=R (.d d) S:=rfl
theorem zmV:ret0 S R (.l 0) [ds]=R (.l S.length) (S++[ds]):=rfl
theorem zmv:zqy k S R (.d d) [p]=R (.d d) (S.set k p):=rfl
theorem zpR:fin n R (.d d) S=R (.d d) (S.take n):=rfl
theorem zo0:fin n R (.l k) S=if k<n then R (.l k) (S.take n) else ∃ ds,S[k]? = some ds/\(R (.d (.list ds)) (S.take n)\/R (.l n) (S.take n++[ds])):=rfl
theorem zmj{K:XV->Prop}:arg1 [x] K=K x:=rfl
theorem zmF{K:XV->XV->Prop}:arg2 [x,y] K=K x y:=rfl
theorem zmW{K:String->Prop}:zqJ (.o (.ty c)) K↔K c:=⟨fun⟨_,e,q⟩=>by cases e; exact q,fun q=>⟨c,rfl,q⟩⟩
theorem zmy{K:Int->Prop}:zqM (.d (.bool b)) K=K (if b then 1 else 0):=rfl
theorem zkc:(zbR n R).rt x S=fin n R x S:=rfl
theorem zgM:datas []=some []:=rfl
theorem zfM{r:List XV}:datas (.d d :: r)=(datas r).map (d :: ·):=rfl
end
theorem zqa{α:Type}{a:α}{l:List α}:atI (a :: l) 0=some a:=zbg (j:=0) rfl
theorem zpQ{α:Type}{a b:α}{l:List α}:atI (a :: b :: l) 1=some b:=zbg (j:=1) rfl
theorem zqb{α:Type}{a b c:α}{l:List α}:atI (a :: b :: c :: l) 2=some c:=zbg (j:=2) rfl
theorem zpl{α:Type}{a b c d:α}{l:List α}:atI (a :: b :: c :: d :: l) 3=some d:=zbg (j:=3) rfl
theorem zoB{α:Type}{a b c d e:α}{l:List α}:atI (a :: b :: c :: d :: e :: l) 4=some e:=zbg (j:=4) rfl
def Shp(n:Nat)(d:PyData):Prop:=d.canLay0=true/\d.depth<=n
theorem zjT{n:Nat}{i:Int}:Shp n (.int i):=⟨rfl,zero_le _⟩
theorem zie{n:Nat}{i:Bool}:Shp n (.bool i):=⟨rfl,zero_le _⟩
theorem zhU{n:Nat}:∀ {ds:List PyData},(∀ d∈ds,Shp n d)->PyData.canLayAll0 ds=true/\PyData.depthAll ds<=n
 | [],_=>⟨by simp only [PyData.canLayAll0],by simp only [PyData.depthAll]; exact zero_le _⟩
 | d :: ds,h=>by
  obtain⟨h1,h2⟩:=h d mem_cons_self;obtain⟨h3,h4⟩:=zhU (ds:=ds) fun e m=>h e (mem_cons_of_mem _ m);simp only [PyData.canLayAll0,PyData.depthAll,h1,h3,Bool.and_true,true_and];omega
theorem ziA{n:Nat}{ds:List PyData}(h:∀ d∈ds,Shp n d):Shp (n+1) (.list ds):=by
 obtain⟨h1,h2⟩:=zhU h;exact⟨by simp only [PyData.canLay0]; exact h1,by simp only [PyData.depth]; omega⟩
theorem zgp{n:Nat}{ds:List PyData}(h:∀ d∈ds,Shp n d):Shp (n+1) (.tuple ds):=by
 obtain⟨h1,h2⟩:=zhU h;exact⟨by simp only [PyData.canLay0]; exact h1,by simp only [PyData.depth]; omega⟩
theorem zhR{α:Type}{n:Nat}{f:α->PyData}{l:List α}(h:∀ x∈l,Shp n (f x)):∀ d∈l.map f,Shp n d:=fun d m=>by
 obtain⟨x,hx,rfl⟩:=mem_map.mp m;exact h x hx
theorem Shp.ok{n:Nat}{d:PyData}(h:Shp n d)(hn:n<=64:=by decide):SeqAt.shaped d=true:=by
 unfold SeqAt.shaped;rw [h.1,decide_eq_true (le_trans h.2 hn)];rfl
theorem zaI{g:DG}{b:DS}{E:DEnds}:∀ {ds:List PyData} {δ:XE} {S:Sto} (I:Nat->XE->Sto->Prop),I 0 δ S ->
  (∀ i d δ S (N:XE->Sto->Prop),ds[i]? = some d->I i δ S->(∀ δ' S',I (i+1) δ' S'->N δ' S')->g (.d d) δ S fun δ1 S1=>b { nx:=N,ct:=N,bk:=E.nx,rt:=E.rt } δ1 S1) ->
  (∀ δ S,I ds.length δ S->E.nx δ S)->zhk g b ds E δ S
 | [],δ,S,I,h0,_,fin=>fin δ S h0
 | d :: ds,δ,S,I,h0,step,fin=>by
  show g (.d d) δ S fun δ1 S1=>b _ δ1 S1;refine step 0 d δ S _ rfl h0 fun δ' S' h1=>?_;exact zaI (ds:=ds) (fun i=>I (i+1)) h1 (fun i e δ S N hi=>step (i+1) e δ S N (by simpa using hi)) fin
theorem ziV{α:Type}{l:List α}{a b:α}{n:Nat}(h:l.length=n):(l++[a]).set n b=l++[b]:=by
 subst h;rw [List.set_append_right _ _ (le_refl _),Nat.sub_self];rfl
theorem zkx{H:Hp}:RepS [] [] H []:=⟨rfl,nodup_nil,fun _ h=>(nomatch h),fun _ h=>(nomatch h),fun _ _ _ e=>(by simp at e)⟩
theorem Ex.same_nil{o':List Addr}{H H':Hp}(e:Ex [] H o' H'):Same H H':=fun b u q=>(e.kp b u (by simp) q).2
theorem zoa{K:W.Frag}{a:Addr}{ns:List Int}{N:Int}{j m:Nat}{tb:TS}{db:DS}{D:Ends}{σ:St}{H:Hp}(hb:RS tb db)(h0:σ[0]? = some (some (.ref a)))(hl:σ.length=m+1)(hS:SqL K H a (ns.map V.int))(hlen:ns.length<=63)
  (turn:∀ n:Int,db { nx:=fun δ _=>δ[0]? = some (some (.o (.ref a)))/\δ.length=m+1,ct:=fun δ _=>δ[0]? = some (some (.o (.ref a)))/\δ.length=m+1,rt:=fun _ _=>False } ((some (.o (.ref a)) :: List.replicate m none).set j (some (.d (.int n)))) [])
  (hj:j≠0) (done:∀ (σ:St) (H1:Hp),Same H H1->D.nx σ H1) :
  zpG (zob K (tOp zov (znM (zdt (tC2 (zoq K) (zjD 0) (tC (.int 0))) zns)) (tSl (zpm K) (zjD 0) (ziW (tC (.int 1))) (ziW (tC (.int N)))))) (zgO j) tb D σ H:=by
 refine zkY (a:=a) (ns:=ns) (fun σ=>σ[0]? = some (some (.ref a))/\σ.length=m+1) h0 hS hlen ⟨h0,hl⟩ ?_ fun σ H1 _ s=>done σ H1 s;rintro n σ1 H1 H2 ⟨z0,z1⟩ s1 s2;refine hb [] [] H2 _ _ [] _ _ ⟨by simp [z1],fun i x e=>?_⟩ zkx (turn n) ⟨?_,fun _ _ _ _ _ _ _ _ q=>q.elim,fun _ _ _ _ _ _ _ _ q=>q.elim,?_⟩
 ·rw [getElem?_set] at e ⊢;by_cases hij:j=i
  ·rw [if_pos hij] at e ⊢;by_cases hjl:j<m+1
   ·rw [if_pos (by simpa using hjl)] at e;rw [if_pos (by rw [z1]; exact hjl)];cases e;exact⟨.int n,rfl,xI n⟩
   ·rw [if_neg (by simpa using hjl)] at e;cases e
  ·rw [if_neg hij] at e ⊢;cases i with
   | zero =>
    cases e;exact⟨.ref a,z0,rfl⟩
   | succ i =>
    rw [getElem?_cons_succ,getElem?_replicate] at e;split at e <;> cases e
 ·rintro o' H' δ' S' σ' e he hs ⟨q1,q2⟩;obtain⟨v,ev,hv⟩:=he.get 0 _ q1;cases hv;exact⟨s2.trans e.same_nil,ev,by rw [<- he.len]; exact q2⟩
 ·rintro o' H' δ' S' σ' e he hs ⟨q1,q2⟩;obtain⟨v,ev,hv⟩:=he.get 0 _ q1;cases hv;exact⟨s2.trans e.same_nil,ev,by rw [<- he.len]; exact q2⟩
theorem zqW{a:Addr}{m:Nat}{t u:TS}{dt:DS}{D:Ends}{σ:St}{H:Hp}(ht:RS t dt)(h0:σ[0]? = some (some (.ref a)))(hl:σ.length=m+1)
  (go:dt { nx:=fun δ _=>δ[0]? = some (some (.o (.ref a)))/\δ.length=m+1,rt:=fun _ _=>False } (some (.o (.ref a)) :: List.replicate m none) [])
  (next:∀ (σ:St) (H1:Hp),σ[0]? = some (some (.ref a))->σ.length=m+1->Same H H1->u D σ H1):znf t u D σ H:=by
 refine ht [] [] H _ _ [] _ _ ⟨by simp [hl],fun i x e=>?_⟩ zkx go ⟨?_,fun _ _ _ _ _ _ _ _ q=>q.elim,fun _ _ _ _ _ _ _ _ q=>q.elim,fun _ _ _ _ _ _ _ _ q=>q.elim⟩
 ·cases i with
  | zero =>
   cases e;exact⟨.ref a,h0,rfl⟩
  | succ i =>
   rw [getElem?_cons_succ,getElem?_replicate] at e;split at e <;> cases e
 ·rintro o' H' δ' S' σ' e he hs ⟨q1,q2⟩;obtain⟨v,ev,hv⟩:=he.get 0 _ q1;cases hv;exact next σ' H' ev (by rw [<- he.len]; exact q2) e.same_nil
end
section
theorem zjX{P:Program}{w:World}{K:W.Frag}{tg:Expr}(it:Addr)(lo:Int)(n:Nat):Turn P w K tg (Itr lo n) [it] it (fun i h=>IsLongIter h it (lo+(i:Nat)*1) ((n:Int) - (i:Nat)) 1) where
 mem:=by simp
 obj:=fun i h st b hb=>by
  have e:b=it:=by simpa using hb
  subst e;exact⟨_,st,fun v z=>by
   have z':Data.fields _=Data.cell v:=z;cases z'⟩
 keep:=fun i h h' st k=>k it (by simp) _ st
 item:=by
  intro X hP hw hK hc i ze s σ H E I hf st hg;subst hP hw hK;obtain⟨f0,f1,f2,f3,f4,f5⟩:=hf it (by simp);have W:=Walks.longrange (prog:=X.prog) (w:=X.w) (I.ok.hd hc) it lo 1 n;refine W.item i s _ _ hg st fun v h' tk hv st' kk=>?_;obtain⟨t,rfl⟩:=hv;have I1:Inv X ze σ H { s with heap:=h',toks:=tk }:=I.turned (fun b o hb e=>kk b o (by simpa using hb) e) f0 f1 f3 f4 f5;refine⟨_,rfl,zlo (s:={ s with heap:=h',toks:=tk }) (n:="longrange_iterator") st' rfl rfl dz ⟨.int (lo+i),H,I1,⟨t,?_⟩,⟨rfl,rfl⟩,st',fun b hb=>(hf b hb).1⟩⟩;rw [Int.mul_one]
 done:=by
  intro X hP hw hK hc i ze s σ H E I hf st hg;subst hP hw hK;obtain⟨f0,f1,f2,f3,f4,f5⟩:=hf it (by simp);exact wpAny_pyNext_long_end (I.ok.hd hc) st (by have:n<=i:=hg; omega) fun h' eb=>⟨rfl,I.turned (t':=s.toks) (fun b o hb e=>eb b o hb e) f0 f1 f3 f4 f5⟩
 self:=fun _ _ _ _ _ st h=>wpAny_pyIter_longiter st h
section
variable {X:Cx} {tg:Expr}
theorem zkt{ze:List (Addr×Obj)}{σ:St}{H:Hp}{s:Shared}{R:It->Hp->Prop}{E:Value->Shared->Prop}{lo hi:Int}{t u v:Tok}{tk:Nat}(I:Inv X ze σ H s)
  (q:R (Itr lo (hi - lo).toNat) H):wpAny (model X.prog X.w) X.A (pyIter (.ref s.heap.objs.size)) (PIE X ze σ tg R) E { s with heap:=s.heap.push { cls:=.type "range",data:=.fields #[.int lo t,.int hi u,.int 1 v] },toks:=tk }:=by
 have I1:Inv X ze σ H { s with heap:=s.heap.push { cls:=.type "range",data:=.fields #[.int lo t,.int hi u,.int 1 v] },toks:=tk }:=I.kept fun b o e=>get?_push_of_some _ e;have e1:lo+((0:Nat):Int)*1=lo:=by simp
 have e2:(((hi - lo).toNat:Nat):Int) - ((0:Nat):Int)=Builtin.Range.rangeSize lo hi 1:=by rw [rangeSize_one]; split <;> omega
 cases hsm:Builtin.Range.small lo hi 1 with
 | true =>
  refine wpAny_pyIter_range (IsRange.new ..) hsm ?_;refine⟨(s.heap.push { cls:=.type "range",data:=.fields #[.int lo t,.int hi u,.int 1 v] }).objs.size,[(s.heap.push { cls:=.type "range",data:=.fields #[.int lo t,.int hi u,.int 1 v] }).objs.size],_,_,H,rfl,
   I1.kept (t':=tk) fun b o e=>get?_push_of_some _ e,zi9 _ lo (hi - lo).toNat,?_,fun b hb=>?_,q⟩
  ·show IsRangeIter _ _ (lo+((0:Nat):Int)*1) ((((hi - lo).toNat:Nat):Int) - ((0:Nat):Int)) 1;rw [e1,e2];exact get?_push_size _ rfl
  ·have e:b=(s.heap.push { cls:=.type "range",data:=.fields #[.int lo t,.int hi u,.int 1 v] }).objs.size:=by simpa using hb
   subst e;exact I1.fpOk (le_refl _) (I1.hok.fresh (le_refl _))
 | false =>
  refine wpAny_pyIter_longrange (IsRange.new ..) hsm ?_;refine⟨(s.heap.push { cls:=.type "range",data:=.fields #[.int lo t,.int hi u,.int 1 v] }).objs.size,[(s.heap.push { cls:=.type "range",data:=.fields #[.int lo t,.int hi u,.int 1 v] }).objs.size],_,_,H,rfl,
   I1.kept (t':=tk) fun b o e=>get?_push_of_some _ e,zjX _ lo (hi - lo).toNat,?_,fun b hb=>?_,q⟩
  ·show IsLongIter _ _ (lo+((0:Nat):Int)*1) ((((hi - lo).toNat:Nat):Int) - ((0:Nat):Int)) 1;rw [e1,e2];exact get?_push_size _ rfl
  ·have e:b=(s.heap.push { cls:=.type "range",data:=.fields #[.int lo t,.int hi u,.int 1 v] }).objs.size:=by simpa using hb
   subst e;exact I1.fpOk (le_refl _) (I1.hok.fresh (le_refl _))
def zmO(ta:TA):TI:=fun σ H R=>ta σ H fun vs H1=>∃ j:Int,vs=[.int j]/\R (Itr 0 j.toNat) H1
theorem zat{a:Expr}{ta:TA}{p pos:Pos}(hg:Gl X "range")(hm:X.mg "range" = none)(ha:PA X [a] ta)(hs:starEach [a] X.env=[(false,eval a X.env)]:=by rfl):PI X tg (.Call (.Name "range" p) [a] [] pos) (zmO ta):=by
 intro ze s σ H R I h;refine Call_ (zfH I hg hm boot_range (PyProof.Rows.callWith_type1 (thn (ha pos ze s σ H _ I h) fun us s1 ⟨vs,H1,I1,r1,q1⟩=>?_) hs rfl));obtain⟨j,e,q⟩:=q1;subst e;cases r1 with
 | cons r rr =>
  cases rr;obtain⟨t,rfl⟩:=r;exact call_range_1 (zkt I1 (by simpa using q))
end
def za1(a:DA):DI:=fun δ S R=>a δ S fun xs S1=>arg1 xs fun x=>asI x fun j=>R (zhK 0 j.toNat) S1
def zkd(a:DA):DI:=fun δ S R=>a δ S fun xs S1=>arg2 xs fun x y=>asI x fun i=>asI y fun j=>R (zhK i (j - i).toNat) S1
theorem zdD{ta:TA}{da:DA}(ha:RA ta da):RI (zmO ta) (za1 da):=fun h o H δ σ S R Q he hs q c =>
 ha h o H δ σ S _ _ he hs q fun o1 H1 S1 xs vs e1 s1 x1 d0=>by
  obtain⟨x,rfl,d2⟩:=zaY d0;obtain⟨j,rfl,d1⟩:=zaP d2;obtain⟨v,rfl,hv⟩:=hxs1 x1;rw [zaC hv];exact⟨j,rfl,c o1 H1 S1 _ _ e1 s1 zkb d1⟩
end
section
open Sem (wp)
open AutoSeq1 (wpAny_loadPart')
section
variable {X:Cx} {ze:List (Addr×Obj)} {σ:St} {H:Hp} {s:Shared} {h':Heap}
theorem Inv.turnLaid{t':Nat}{ch:List Addr}{T:Addr}{o:HO}(I:Inv X ze σ H s)(k:∀ b u,b∉ch->s.heap.get? b=some u->h'.get? b=some u)(hf:∀ b∈ch,FpOk X ze H b)(hT:s.heap.objs.size<=T)
  (new:ObjOk X.prog X.w (upd H T o) h' T o):Inv X ze σ (upd H T o) { s with heap:=h',toks:=t' }:=by
 have hn:H T=none:=I.hok.fresh hT;have nch:∀ b u,H b=some u->b∉ch:=fun b u e m=>by rw [(hf b m).1] at e; cases e
 have neT:∀ b u,s.heap.get? b=some u->b≠T:=fun b u e z=>absurd (lt_of_lt_of_le (lt_size e) hT) (by rw [z]; exact lt_irrefl _);have up:∀ b u,H b=some u->upd H T o b=some u:=fun b u e=>(zG (zD e hn)).trans e;refine I.step (g':=s.gens) (d':=s.drawn) (ch:=ch) (fun b hb=>?_) (fun b u _ _ hc e _=>k b u hc e) (fun b u _ _ hc e _=>⟨u.slots,k b u hc e⟩) (fun b u _ e n=>(zG (neT b u e)).trans n)
  (fun b u hc e=>⟨u,k b u hc e⟩) (fun b xs e=>up b _ e) (fun b u v e=>up b _ e) (fun b ps e=>up b _ e) (fun m hm=>?_) (fun b u e=>?_) I.bare
 ·obtain⟨_,f1,_,f3,f4,f5⟩:=hf b hb;exact⟨f3,f1,f4,f5⟩
 ·obtain⟨ob,es,ep,ho,r⟩:=hm;exact⟨ob,es,ep,k _ ob (fun z=>(hf _ z).2.1 rfl) ho,r⟩
 ·by_cases hb:b=T
  ·subst hb;rw [zQ] at e;cases e;exact new
  ·rw [zG hb] at e;refine(I.hok b u e).stay (fun c v hc q=>k c v ?_ q) (fun c q=>up c _ q) (fun c xs q=>up c _ q) fun c o u q=>up c _ q;rcases hc with z | z
   ·rw [z]; exact nch b u e
   ·exact nch c _ z
theorem Inv.turnedN{t':Nat}{ch:List Addr}(I:Inv X ze σ H s)(k:∀ b u,b∉ch->s.heap.get? b=some u->h'.get? b=some u)(hf:∀ b∈ch,FpOk X ze H b):Inv X ze σ H { s with heap:=h',toks:=t' }:=by
 have nch:∀ b u,H b=some u->b∉ch:=fun b u e m=>by rw [(hf b m).1] at e; cases e
 refine I.step (g':=s.gens) (d':=s.drawn) (ch:=ch) (fun b hb=>?_) (fun b u _ _ hc e _=>k b u hc e) (fun b u _ _ hc e _=>⟨u.slots,k b u hc e⟩) (fun b u _ e n=>n)
  (fun b u hc e=>⟨u,k b u hc e⟩) (fun b xs e=>e) (fun b u v e=>e) (fun b ps e=>e) (fun m hm=>?_) (fun b u e=>?_) I.bare
 ·obtain⟨_,f1,_,f3,f4,f5⟩:=hf b hb;exact⟨f3,f1,f4,f5⟩
 ·obtain⟨ob,es,ep,ho,r⟩:=hm;exact⟨ob,es,ep,k _ ob (fun z=>(hf _ z).2.1 rfl) ho,r⟩
 ·refine(I.hok b u e).stay (fun c v hc q=>k c v ?_ q) (fun _ q=>q) fun _ _ q=>q;rcases hc with z | z
  ·rw [z]; exact nch b u e
  ·exact nch c _ z
end
section
variable {prog:Program} {w:World} {A:Around} {E:Value->Shared->Prop} {s:Shared}
theorem zfY{j t:Addr}{i:Nat}{vs:Array Value}{x:Value}{Q:Value->Shared->Prop}(hj:s.heap.IsTupleIter j t i)(ht:s.heap.IsTuple t vs)(hx:vs[i]? = some x)
  (hQ:∀ g,g.IsTupleIter j t (i+1)->Heap.SameBut j s.heap g->Q x { s with heap:=g }):wpAny (model prog w) A (Builtin.SmallTypes.nextOf (.ref j)) Q E s:=by
 obtain⟨oj,ej,cj,dj⟩:=id hj;obtain⟨ot,et,_,nt,dt⟩:=ht;unfold Builtin.SmallTypes.nextOf;refine wpAny_bind (wpAny_callSpecial?_slot (name:=Str.ofString "__next__") hj.typeIs F.slot_tuple_iterator_next (wpAny_call_entry F.slot_tuple_iterator_next hj.typeIs F.entry_tuple_iterator_next ?_ (F.args_tuple_iterator_next_1 _)));show wpAny _ _ (field (.ref j) 0 >>= _) _ _ s;refine wpAny_bind (wpAny_field ej dj (x:=.ref t) rfl ?_);show wpAny _ _ (ite ((Value.ref t == Value.none)=true) _ _) _ _ s;refine(if_neg (show ¬ ((Value.ref t == Value.none)=true) from Bool.false_ne_true))▸?_;show wpAny _ _ (field (.ref j) 1 >>= _) _ _ s;refine wpAny_bind (wpAny_field ej dj (x:=.int i 0) rfl ?_);refine wpAny_bind (m:=seqItems? (.ref t)) (wpAny_seqItems et dt ?_);simp only [hx,Int.toNat_natCast];refine wpAny_bind (wpAny_setField ej dj (by simp) (wpAny_pure ⟨x,rfl,wpAny_pure (hQ _ ⟨_,get?_update_self _ ej (Obj.isFreed_of_fields (Obj.data_mapFields dj _)),(Obj.cls_mapFields ..).trans cj,?_⟩ (Heap.SameBut.update ..))⟩));rw [Obj.data_mapFields dj];simp [rawInt]
theorem zdd{j t:Addr}{i:Nat}{vs:Array Value}{Q:Value->Shared->Prop}(hh:A.handled=none)(hj:s.heap.IsTupleIter j t i)(ht:s.heap.IsTuple t vs)(hx:vs[i]? = none)
  (hE:∀ g e,Heap.ExtBut j s.heap g->(∃ o,g.get? e=some o/\o.cls=.type "StopIteration")->E (.ref e) { s with heap:=g }):wpAny (model prog w) A (Builtin.SmallTypes.nextOf (.ref j)) Q E s:=by
 obtain⟨oj,ej,cj,dj⟩:=id hj;obtain⟨ot,et,_,nt,dt⟩:=ht;unfold Builtin.SmallTypes.nextOf;refine wpAny_bind (wpAny_callSpecial?_slot (name:=Str.ofString "__next__") hj.typeIs F.slot_tuple_iterator_next (wpAny_call_entry F.slot_tuple_iterator_next hj.typeIs F.entry_tuple_iterator_next ?_ (F.args_tuple_iterator_next_1 _)));show wpAny _ _ (field (.ref j) 0 >>= _) _ _ s;refine wpAny_bind (wpAny_field ej dj (x:=.ref t) rfl ?_);show wpAny _ _ (ite ((Value.ref t == Value.none)=true) _ _) _ _ s;refine(if_neg (show ¬ ((Value.ref t == Value.none)=true) from Bool.false_ne_true))▸?_;show wpAny _ _ (field (.ref j) 1 >>= _) _ _ s;refine wpAny_bind (wpAny_field ej dj (x:=.int i 0) rfl ?_);refine wpAny_bind (m:=seqItems? (.ref t)) (wpAny_seqItems et dt ?_);simp only [hx,Int.toNat_natCast];refine wpAny_bind (wpAny_rule (wpAny_bind (wpAny_setField ej dj (by simp) ?_)));show wpAny _ _ (newExc (.type "StopIteration") [] >>= _) _ _ _;refine wpAny_bind ?_;simp only [newExc,newTuple];refine wpAny_bind (wpAny_newObj_type ?_ (by size_fits)); refine wpAny_bind (m:=firstArgMember _ _) (wpAny_of_eq (a:=Value.none) (by first | rfl | (simp only [firstArgMember]; rfl)) ?_);refine wpAny_newObj_type ?_ (by size_fits); simp only [raiseNew];refine wpAny_bind (wpAny_handled ?_)
 first | rw [show A.in1.handled=none from hh] | rw [hh]
 exact wpAny_bind (wpAny_pure (wpAny_throw (hE _ _ (((Heap.SameBut.update ..).extBut.push _).push _) ⟨_,get?_push_size _ rfl,rfl⟩)))
theorem zkw{e j:Addr}{i:Nat}{x old:Value}{J:Heap->Prop}{Q:Value->Shared->Prop}(he:IsEnum s.heap e j i old)(hne:e≠j)
  (hn:∀ (Q':Value->Shared->Prop) (E':Value->Shared->Prop),(∀ g,J g->Heap.SameBut j s.heap g->Q' x { s with heap:=g })->wpAny (model prog w) A (Builtin.SmallTypes.nextOf (.ref j)) Q' E' s)
  (hJ:∀ g g',J g->(∀ o,g.get? j=some o->g'.get? j=some o)->J g')
  (hQ:∀ g,IsEnumOut g e j ((i:Int)+1) x s.heap.objs.size->J g->g.get? s.heap.objs.size=some { cls:=.type "tuple",data:=.seq #[.int i s.toks,x] } ->
   (∀ b o,b≠e->b≠j->s.heap.get? b=some o->g.get? b=some o)->Q (.ref s.heap.objs.size) { s with heap:=g,toks:=s.toks+1 }) :
  wpAny (model prog w) A (Builtin.«enumerate.__next__» ⟨[.ref e],[]⟩) (fun fin s'=>∃ v,fin=.done (.ret v)/\Q v s') E s:=by
 obtain⟨h0,gs,dr,tk,os⟩:=s;show wpAny _ _ (field (.ref e) 2 >>= _) _ _ _;refine wpAny_bind (wpAny_field he rfl (x:=.ref j) rfl (wpAny_bind (hn _ _ fun g1 J1 b1=>?_)));replace b1:Heap.SameBut j h0 g1:=b1;have e1:IsEnum g1 e j i old:=(b1.2 e hne).trans he;show wpAny _ _ (field (.ref e) 3 >>= _) _ _ ⟨g1,gs,dr,tk,os⟩;refine wpAny_bind (wpAny_field e1 rfl (x:=rawInt i) rfl ?_);show wpAny _ _ (field (.ref e) 4 >>= _) _ _ ⟨g1,gs,dr,tk,os⟩;refine wpAny_bind (wpAny_field e1 rfl (x:=.none) rfl ?_);show wpAny _ _ (mkInt i >>= _) _ _ ⟨g1,gs,dr,tk,os⟩;refine wpAny_bind (wpAny_mkInt ?_);show wpAny _ _ (setField (.ref e) 3 (rawInt ((i:Int)+1)) >>= _) _ _ ⟨g1,gs,dr,tk+1,os⟩;refine wpAny_bind (wpAny_setField_rec e1 (by simp) fun g2 e2 b2=>?_);replace b2:Heap.SameBut e g1 g2:=b2;replace e2:IsEnum g2 e j ((i:Int)+1) old:=e2;show wpAny _ _ (setField (.ref e) 4 .none >>= _) _ _ ⟨g2,gs,dr,tk+1,os⟩;refine wpAny_bind (wpAny_setField_rec e2 (by simp) fun g3 e3 b3=>?_);replace b3:Heap.SameBut e g2 g3:=b3;replace e3:IsEnum g3 e j ((i:Int)+1) old:=e3;show wpAny _ _ (newTuple [.int i tk,x] >>= _) _ _ ⟨g3,gs,dr,tk+1,os⟩;refine wpAny_bind (wpAny_newTuple ?_);have sz:g3.objs.size=h0.objs.size:=by rw [b3.1,b2.1,b1.1]
 have lt:e<h0.objs.size:=lt_size he;have e4:IsEnum (g3.push { cls:=.type "tuple",data:=.seq #[.int i tk,x] }) e j ((i:Int)+1) old:=get?_push_of_some _ e3;have J3:J g3:=hJ _ _ (hJ _ _ J1 fun o q=>b2.extBut j o (Ne.symm hne) q) fun o q=>b3.extBut j o (Ne.symm hne) q;have J4:J (g3.push { cls:=.type "tuple",data:=.seq #[.int i tk,x] }):=hJ _ _ J3 fun o q=>get?_push_of_some _ q;have t4:(g3.push { cls:=.type "tuple",data:=.seq #[.int i tk,x] }).get? h0.objs.size=some { cls:=.type "tuple",data:=.seq #[.int i tk,x] }:=by rw [<- sz]; exact get?_push_size _ rfl
 have k4:∀ b o,b≠e->b≠j->h0.get? b=some o->(g3.push { cls:=.type "tuple",data:=.seq #[.int i tk,x] }).get? b=some o:=fun b o n1 n2 q=>get?_push_of_some _ (b3.extBut b o n1 (b2.extBut b o n1 (b1.extBut b o n2 q)));generalize g3.push { cls:=.type "tuple",data:=.seq #[.int i tk,x] } = g4 at e4 J4 t4 k4 ⊢;show wpAny _ _ (Builtin.SmallTypes.ownedTupleIsFree (.ref e) >>= _) _ _ ⟨g4,gs,dr,tk+1,os⟩;rw [sz];refine wpAny_bind ?_;unfold Builtin.SmallTypes.ownedTupleIsFree;refine wpAny_bind (wpAny_field e4 rfl (x:=.none) rfl (wpAny_pure ?_));simp only [if_true];refine wpAny_bind (wpAny_rule (wpAny_bind (wpAny_field e4 rfl (x:=old) rfl (wpAny_bind (wpAny_setField_rec e4 (by simp) fun g5 e5 b5=>?_)))));replace b5:Heap.SameBut e g4 g5:=b5;replace e5:IsEnum g5 e j ((i:Int)+1) x:=e5;show wpAny _ _ (Builtin.SmallTypes.ownedTupleHandOut (.ref e) (.ref h0.objs.size) >>= _) _ _ ⟨g5,gs,dr,tk+1,os⟩;refine wpAny_bind ?_;unfold Builtin.SmallTypes.ownedTupleHandOut;refine wpAny_bind (wpAny_setField_rec e5 (by simp) fun g6 e6 b6=>?_);replace b6:Heap.SameBut e g5 g6:=b6;replace e6:IsEnumOut g6 e j ((i:Int)+1) x h0.objs.size:=e6;refine wpAny_setField_rec e6 (by simp) fun g7 e7 b7=>?_;replace b7:Heap.SameBut e g6 g7:=b7;replace e7:IsEnumOut g7 e j ((i:Int)+1) x h0.objs.size:=e7;have k7:∀ b o,b≠e->g4.get? b=some o->g7.get? b=some o:=fun b o n q=>b7.extBut b o n (b6.extBut b o n (b5.extBut b o n q));exact wpAny_bind (wpAny_letGo (wpAny_pure ⟨_,rfl,hQ g7 e7 (hJ _ _ J4 fun o q=>k7 j o (Ne.symm hne) q) (k7 _ _ (ne_of_gt lt) t4) fun b o n1 n2 q=>k7 b o n1 (k4 b o n1 n2 q)⟩))
theorem zgP{e j:Addr}{i:Nat}{x old:Value}{J:Heap->Prop}{Q:Option Value->Shared->Prop}(he:IsEnum s.heap e j i old)(hne:e≠j)
  (hn:∀ (A:Around) (Q':Value->Shared->Prop) (E':Value->Shared->Prop),(∀ g,J g->Heap.SameBut j s.heap g->Q' x { s with heap:=g })->wpAny (model prog w) A (Builtin.SmallTypes.nextOf (.ref j)) Q' E' s)
  (hJ:∀ g g',J g->(∀ o,g.get? j=some o->g'.get? j=some o)->J g')
  (hQ:∀ g,IsEnumOut g e j ((i:Int)+1) x s.heap.objs.size->J g->g.get? s.heap.objs.size=some { cls:=.type "tuple",data:=.seq #[.int i s.toks,x] } ->
   (∀ b o,b≠e->b≠j->s.heap.get? b=some o->g.get? b=some o)->Q (some (.ref s.heap.objs.size)) { s with heap:=g,toks:=s.toks+1 }):wpAny (model prog w) A (pyNext (.ref e)) Q E s:=by
 have ty:s.TypeIs (.ref e) "enumerate":=⟨_,he,rfl⟩;unfold pyNext;exact wpAny_bind (wpAny_attempt (wpAny_callSpecial?_slot (name:=Str.ofString "__next__") ty F.slot_enumerate_next (wpAny_call_entry F.slot_enumerate_next ty F.entry_enumerate_next (zkw he hne (hn _) hJ fun g a b c k=>wpAny_pure (hQ g a b c k)) (F.args_enumerate_next_1 _))))
theorem zhl{e j:Addr}{i:Nat}{old:Value}{Q:Option Value->Shared->Prop}(hh:A.handled=none)(he:IsEnum s.heap e j i old)
  (hn:∀ (A:Around) (Q':Value->Shared->Prop) (E':Value->Shared->Prop),A.handled=none->(∀ g x,Heap.ExtBut j s.heap g->(∃ o,g.get? x=some o/\o.cls=.type "StopIteration")->E' (.ref x) { s with heap:=g })->wpAny (model prog w) A (Builtin.SmallTypes.nextOf (.ref j)) Q' E' s)
  (hQ:∀ g,Heap.ExtBut j s.heap g->Q none { s with heap:=g }):wpAny (model prog w) A (pyNext (.ref e)) Q E s:=by
 have ty:s.TypeIs (.ref e) "enumerate":=⟨_,he,rfl⟩;unfold pyNext;refine wpAny_bind (wpAny_attempt (wpAny_callSpecial?_slot (name:=Str.ofString "__next__") ty F.slot_enumerate_next (wpAny_call_entry F.slot_enumerate_next ty F.entry_enumerate_next ?_ (F.args_enumerate_next_1 _))));show wpAny _ _ (field (.ref e) 2 >>= _) _ _ _;refine wpAny_bind (wpAny_field he rfl (x:=.ref j) rfl (wpAny_bind (hn _ _ _ hh fun g x b hx=>?_)));obtain⟨o,ho,hc⟩:=hx;exact wpAny_bind (wpAny_isInstance (T:="StopIteration") (b:=true) ⟨o,ho,hc⟩ isSubtype_stop (wpAny_pure (hQ _ b)))
theorem znU(t:Addr)(vs:Array Value)(n:Nat)(dct:Option Addr)(sl:Array (Option Value)):Meets (Builtin.«enumerate.__new__» ⟨[.type "enumerate",.ref t],[]⟩) (fun _ R s=>s.heap.get? t=some { cls:=.type "tuple",dict:=dct,data:=.seq vs n,slots:=sl } /\
   R (.ok (.ret (.ref (s.heap.push { cls:=.type "tuple_iterator",data:=.fields #[.ref t,.int 0 0] }).objs.size)))
    { s with heap:=(s.heap.push { cls:=.type "tuple_iterator",data:=.fields #[.ref t,.int 0 0] }).push { cls:=.type "enumerate",data:=.fields #[.none,.bool false,.ref s.heap.objs.size,rawInt 0,.none,.none] } }) :=
 .of_wp fun prog w A R s hyp=>by
  obtain⟨g0,gs,dr,tk,os⟩:=s;obtain⟨ht,hyp⟩:=hyp;have sub:=sub_enumerate;have hT:Heap.IsTuple (Shared.heap ⟨g0,gs,dr,tk,os⟩) t vs:=⟨_,ht,rfl,n,rfl⟩
  wp_walk using wpAny_loadPart' ht
  refine wpAny_stack_any fun _=>wpAny_pure ?_;split
  ·rename_i c _ _ _ _ _;cases (c == Value.type "enumerate") <;> (wp_walk using wpAny_loadPart' ht,wpAny_pyIter_tuple hT; exact⟨_,rfl,hyp⟩)
  ·wp_walk using wpAny_loadPart' ht,wpAny_pyIter_tuple hT
   exact⟨_,rfl,hyp⟩
theorem zgl{t:Addr}{vs:Array Value}{Q:Value->Shared->Prop}(hT:s.heap.IsTuple t vs)
  (hyp:∀ g,IsEnum g (s.heap.objs.size+1) s.heap.objs.size 0 .none->g.IsTupleIter s.heap.objs.size t 0->(∀ b o,s.heap.get? b=some o->g.get? b=some o)->Q (.ref (s.heap.objs.size+1)) { s with heap:=g }):wpAny (model prog w) A (call (.type "enumerate") [.ref t]) Q E s:=by
 obtain⟨⟨c,dct,dt,sl⟩,ht,hc,n,hd⟩:=hT;replace hc:c=.type "tuple":=hc;replace hd:dt=.seq vs n:=hd;subst hc hd;refine callType_new F.called_enumerate dz (F.typeCall_enumerate_1 _) (F.newCall_enumerate_1 _) (fun ob=>F.args_object_init_2 ob _) F.entry_enumerate_new (znU t vs n dct sl) ⟨ht,?_⟩;have sz:(s.heap.push { cls:=.type "tuple_iterator",data:=.fields #[.ref t,.int 0 0] }).objs.size=s.heap.objs.size+1:=size_push ..;show _/\_;rw [sz];have he:=get?_push_size (s.heap.push { cls:=.type "tuple_iterator",data:=.fields #[.ref t,.int 0 0] }) (o:={ cls:=.type "enumerate",data:=.fields #[.none,.bool false,.ref s.heap.objs.size,rawInt 0,.none,.none] }) rfl;rw [sz] at he;exact⟨⟨_,he,rfl⟩,hyp _ he ⟨_,get?_push_of_some _ (get?_push_size _ rfl),rfl,rfl⟩ fun b o q=>get?_push_of_some _ (get?_push_of_some _ q)⟩
end
def Ite(Sq:Hp->Addr->List V->Prop)(a:Addr):It :=
 ⟨fun i H=>∃ xs x,Sq H a xs/\xs[i]? = some x,fun i H x H'=>∃ p v,H p=none/\x=.ref p/\H'=upd H p (.tup [.int i,v])/\∀ xs,Sq H a xs->xs[i]? = some v,fun i H=>∃ xs,Sq H a xs/\xs.length<=i⟩
theorem zjy{P:Program}{w:World}{K:W.Frag}{elts:List Expr}{n:Nat}{pos:Pos}(a e j:Addr)(hej:e≠j):Turn P w K (.Tuple elts n pos) (Ite (SqT K) a) [e,j] e (fun i h=>(∃ old,IsEnum h e j i old)/\h.IsTupleIter j a i) where
 mem:=by simp
 obj:=fun i h ⟨⟨old,he⟩,hj⟩ b hb=>by
  rcases mem_cons.mp hb with rfl | hb
  ·exact⟨_,he,fun v z=>by
    have z':Data.fields _=Data.cell v:=z;cases z'⟩
  ·rw [mem_singleton.mp hb];obtain⟨o,q,c,d⟩:=hj;exact⟨o,q,fun v z=>by rw [d] at z; cases z⟩
 keep:=fun i h h' ⟨⟨old,he⟩,hj⟩ k=>⟨⟨old,k e (by simp) _ he⟩,hj.at fun o q=>k j (by simp) o q⟩
 item:=by
  intro X hP hw hK hc i ze s σ H E I hf ⟨⟨old,he⟩,hj⟩ hg;subst hP hw hK;obtain⟨xs,x,hq,hx⟩:=hg;obtain⟨its,rv,p,hz⟩:=I.tuple hq;obtain⟨u,hu,ru⟩:=rv.get hx;have hT:s.heap.IsTuple a its.toArray:=p;refine zgP (J:=fun g=>g.IsTupleIter j a (i+1)) he hej (fun A' Q' E' k=>zfY hj hT (x:=u) (by simpa using hu) k) (fun g g' z k=>z.at k) fun g e1 j1 t1 k1=>?_;refine⟨_,rfl,wpAny_letOwnedTupleGo_enum (s:={ s with heap:=g,toks:=s.toks+1 }) e1 fun g' e2 b2=>?_⟩;have lt:e<s.heap.objs.size:=lt_size he;have ltj:j<s.heap.objs.size:=by
   obtain⟨_,q,_⟩:=hj;exact lt_size q
  have t2:g'.get? s.heap.objs.size=some { cls:=.type "tuple",data:=.seq #[.int i s.toks,u] }:=(b2.2 _ (ne_of_gt lt)).trans t1;have neT:H s.heap.objs.size=none:=I.hok.fresh (le_refl _);refine⟨.ref s.heap.objs.size,upd H s.heap.objs.size (.tup [.int i,x]),I.turnLaid (ch:=[e,j]) (t':=s.toks+1) (fun b o nb q=>(b2.2 b fun z=>nb (by simp [z])).trans (k1 b o (fun z=>nb (by simp [z])) (fun z=>nb (by simp [z])) q)) hf (le_refl _) ?_,rfl,
   ⟨_,x,neT,rfl,rfl,fun ys hy=>by rw [I.tuple_inj hy hq]; exact hx⟩,⟨⟨u,by simpa using e2⟩,j1.at fun o q=>(b2.2 j (Ne.symm hej)).trans q⟩,fun b hb=>?_⟩
  ·refine⟨⟨by show 2<=sizeLine; decide,_,t2,rfl⟩,[.int i s.toks,u],.cons ⟨s.toks,rfl⟩ (.cons ru .nil),⟨_,t2,rfl,_,rfl⟩⟩
  ·rcases mem_cons.mp hb with rfl | hb
   ·rw [zG (ne_of_lt lt)];exact(hf _ (by simp)).1
   ·rw [mem_singleton.mp hb,zG (ne_of_lt ltj)];exact(hf _ (by simp)).1
 done:=by
  intro X hP hw hK hc i ze s σ H E I hf ⟨⟨old,he⟩,hj⟩ hg;subst hP hw hK;obtain⟨xs,hq,hx⟩:=hg;obtain⟨its,rv,p,hz⟩:=I.tuple hq;have hT:s.heap.IsTuple a its.toArray:=p;have hl:=rv.length;exact zhl (I.ok.hd hc) he (fun A' Q' E' h0 k=>zdd h0 hj hT (by simp; omega) k) fun g b=>⟨rfl,I.turnedN (ch:=[e,j]) (t':=s.toks) (fun b' o nb q=>b b' o (fun z=>nb (by simp [z])) q) hf⟩
 self:=fun _ _ _ _ _ st h=>by
  obtain⟨⟨old,he⟩,_⟩:=st;exact wpAny_pyIter_enum he h
theorem zjs{P:Program}{w:World}{K:W.Frag}{elts:List Expr}{n:Nat}{pos:Pos}(a e j:Addr)(hej:e≠j):Turn P w K (.Tuple elts n pos) (Ite (SqL K) a) [e,j] e (fun i h=>(∃ old,IsEnum h e j i old)/\h.IsListIter j a i) where
 mem:=by simp
 obj:=fun i h ⟨⟨old,he⟩,hj⟩ b hb=>by
  rcases mem_cons.mp hb with rfl | hb
  ·exact⟨_,he,fun v z=>by
    have z':Data.fields _=Data.cell v:=z;cases z'⟩
  ·rw [mem_singleton.mp hb];obtain⟨o,q,c,d⟩:=hj;exact⟨o,q,fun v z=>by rw [d] at z; cases z⟩
 keep:=fun i h h' ⟨⟨old,he⟩,hj⟩ k=>⟨⟨old,k e (by simp) _ he⟩,hj.at fun o q=>k j (by simp) o q⟩
 item:=by
  intro X hP hw hK hc i ze s σ H E I hf ⟨⟨old,he⟩,hj⟩ hg;subst hP hw hK;obtain⟨xs,x,hq,hx⟩:=hg;obtain⟨its,rv,p,hz⟩:=I.list hq;obtain⟨u,hu,ru⟩:=rv.get hx;have hT:s.heap.IsList a its.toArray:=p.isList;refine zgP (J:=fun g=>g.IsListIter j a (i+1)) he hej (fun A' Q' E' k=>wpAny_nextOf_list_item hj hT (x:=u) (by simpa using hu) k) (fun g g' z k=>z.at k) fun g e1 j1 t1 k1=>?_;refine⟨_,rfl,wpAny_letOwnedTupleGo_enum (s:={ s with heap:=g,toks:=s.toks+1 }) e1 fun g' e2 b2=>?_⟩;have lt:e<s.heap.objs.size:=lt_size he;have ltj:j<s.heap.objs.size:=by
   obtain⟨_,q,_⟩:=hj;exact lt_size q
  have t2:g'.get? s.heap.objs.size=some { cls:=.type "tuple",data:=.seq #[.int i s.toks,u] }:=(b2.2 _ (ne_of_gt lt)).trans t1;have neT:H s.heap.objs.size=none:=I.hok.fresh (le_refl _);refine⟨.ref s.heap.objs.size,upd H s.heap.objs.size (.tup [.int i,x]),I.turnLaid (ch:=[e,j]) (t':=s.toks+1) (fun b o nb q=>(b2.2 b fun z=>nb (by simp [z])).trans (k1 b o (fun z=>nb (by simp [z])) (fun z=>nb (by simp [z])) q)) hf (le_refl _) ?_,rfl,
   ⟨_,x,neT,rfl,rfl,fun ys hy=>by rw [I.list_inj hy hq]; exact hx⟩,⟨⟨u,by simpa using e2⟩,j1.at fun o q=>(b2.2 j (Ne.symm hej)).trans q⟩,fun b hb=>?_⟩
  ·refine⟨⟨by show 2<=sizeLine; decide,_,t2,rfl⟩,[.int i s.toks,u],.cons ⟨s.toks,rfl⟩ (.cons ru .nil),⟨_,t2,rfl,_,rfl⟩⟩
  ·rcases mem_cons.mp hb with rfl | hb
   ·rw [zG (ne_of_lt lt)];exact(hf _ (by simp)).1
   ·rw [mem_singleton.mp hb,zG (ne_of_lt ltj)];exact(hf _ (by simp)).1
 done:=by
  intro X hP hw hK hc i ze s σ H E I hf ⟨⟨old,he⟩,hj⟩ hg;subst hP hw hK;obtain⟨xs,hq,hx⟩:=hg;obtain⟨its,rv,p,hz⟩:=I.list hq;have hT:s.heap.IsList a its.toArray:=p.isList;have hl:=rv.length;exact zhl (I.ok.hd hc) he (fun A' Q' E' h0 k=>wpAny_nextOf_list_end h0 hj hT (by simp; omega) k) fun g b=>⟨rfl,I.turnedN (ch:=[e,j]) (t':=s.toks) (fun b' o nb q=>b b' o (fun z=>nb (by simp [z])) q) hf⟩
 self:=fun _ _ _ _ _ st h=>by
  obtain⟨⟨old,he⟩,_⟩:=st;exact wpAny_pyIter_enum he h
section
variable {X:Cx} {elts:List Expr} {n:Nat} {tpos:Pos}
theorem zfr:bootBuiltins "enumerate" = some (.type "enumerate"):=by decide +kernel
end
def zgc(i:Nat):List PyData->List PyData
 | []=>[]
 | d :: ds=>.tuple [.int i,d] :: zgc (i+1) ds
theorem zcL:∀ (ds:List PyData) (i:Nat),(zgc i ds).length=ds.length
 | [],_=>rfl
 | d :: ds,i=>by simp [zgc,zcL ds (i+1)]
theorem zdx:∀ (ds:List PyData) (i k:Nat) (d:PyData),(zgc i ds)[k]? = some d->∃ e,ds[k]? = some e/\d=.tuple [.int ((i+k:Nat):Int),e]
 | [],_,_,_,h=>by simp [zgc] at h
 | c :: ds,i,0,d,h=>by
  have e:PyData.tuple [.int i,c]=d:=by simpa [zgc] using h
  exact⟨c,rfl,by rw [<- e]; rfl⟩
 | c :: ds,i,k+1,d,h=>by
  obtain⟨e,h1,h2⟩:=zdx ds (i+1) k d (by simpa [zgc] using h);exact⟨e,by simpa using h1,by rw [h2]; congr 3; omega⟩
theorem zlj{X:Cx}{x:Str}{i:Int}{pos:Pos}(hg:Gl X x)(hm:∃ t,X.mg x=some (.int i t))(hd:(x == ("__debug__":Str))=false:=by decide):PE X (.Name x pos) (tC (.int i)):=by
 obtain⟨t,e⟩:=hm;exact zbL hg e ⟨t,rfl⟩ hd
end
section
def dIx:D2:=fun x y S R=>asI y fun i=>match x with
 | .d (.tuple ds)=>∃ d,atI ds i=some d/\R (.d d) S
 | .d (.list ds)=>∃ d,atI ds i=some d/\R (.d d) S
 | .l k=>∃ ds,S[k]? = some ds/\∃ d,atI ds i=some d/\R (.d d) S
 | .d (.str z)=>z.length<=sizeLine/\∃ c,atI z.cps.toList i=some c/\R (.d (.str ⟨#[c]⟩)) S
 | _=>False
theorem zp1:RO zq6 (fun x y S R=>asS x fun z=>asI y fun i=>z.length<=sizeLine/\∃ c,atI z.cps.toList i=some c/\R (.d (.str ⟨#[c]⟩)) S):=fun h o H S x y v u R Q hs hx hy q c=>by
 replace q:=zmi q;obtain⟨z,rfl,q⟩:=q;replace q:=zaP q;obtain⟨i,rfl,hz,k,ek,q⟩:=q;exact⟨z,i,k,zdG hx,zaC hy,hz,ek,c o H S _ _ Ex.refl hs (xS _) q⟩
theorem zdQ{K:W.Frag}:RO (rIx K) dIx:=fun h o H S x y v u R Q hs hx hy q c=>by
 replace q:=zaP q;obtain⟨i,rfl,q⟩:=q;split at q
 ·exact .inr (.inl (zpr h o H S _ _ v u R Q hs hx hy q c))
 ·exact .inl (zmd h o H S _ _ v u R Q hs hx hy ⟨_,rfl,q⟩ c)
 ·exact .inl (zmd h o H S _ _ v u R Q hs hx hy q c)
 ·exact .inr (.inr (zp1 h o H S _ _ v u R Q hs hx hy q c))
 ·exact q.elim
section
variable {S:Sto} {R:RX} {ds:List PyData} {i:Int} {k:Nat} {z:Str}
theorem zpn:dIx (.d (.tuple ds)) (.d (.int i)) S R=∃ d,atI ds i=some d/\R (.d d) S:=rfl
theorem zo9:dIx (.d (.list ds)) (.d (.int i)) S R=∃ d,atI ds i=some d/\R (.d d) S:=rfl
theorem zo6:dIx (.l k) (.d (.int i)) S R=∃ ds,S[k]? = some ds/\∃ d,atI ds i=some d/\R (.d d) S:=rfl
theorem zpx:dIx (.d (.str z)) (.d (.int i)) S R=(z.length<=sizeLine/\∃ c,atI z.cps.toList i=some c/\R (.d (.str ⟨#[c]⟩)) S):=rfl
end
def zrB(K:W.Frag):V->Option Int->Option Int->Hp->VK->Prop:=fun x a b H Q=>zpm K x a b H Q\/(zqV K x a b H Q\/zru x a b H Q)
theorem zfU{X:Cx}:SlR X (zrB X.K):=zjZ.or (zml.or zoF)
def zjB:D3:=fun x i j S R=>match x with
 | .d (.tuple ds)=>¬ (HT.sIx ds.length 0 i=0/\HT.sIx ds.length ds.length j=ds.length)/\R (.d (.tuple (zcZ ds i j))) S
 | .d (.list ds)=>R (.d (.list (zcZ ds i j))) S
 | .l k=>∃ ds,S[k]? = some ds/\R (.d (.list (zcZ ds i j))) S
 | .d (.str z)=>z.length<=sizeLine/\R (.d (.str (PySem.Txt.slice z i j))) S
 | _=>False
theorem zmu{K:W.Frag}:RL (zrB K) zjB:=fun h o H S x v a b R Q hs hx q c=>by
 unfold zjB at q;split at q
 ·exact .inr (.inl (zoQ h o H S _ v a b R Q hs hx q c))
 ·exact .inl (zjU h o H S _ v a b R Q hs hx ⟨_,rfl,q⟩ c)
 ·exact .inl (zjU h o H S _ v a b R Q hs hx q c)
 ·exact .inr (.inr ⟨_,zdG hx,q.1,c o H S _ _ Ex.refl hs (xS _) q.2⟩)
 ·exact q.elim
section
variable {S:Sto} {R:RX} {ds:List PyData} {i j:Option Int} {k:Nat} {z:Str}
theorem zm5:zjB (.d (.tuple ds)) i j S R=(¬ (HT.sIx ds.length 0 i=0/\HT.sIx ds.length ds.length j=ds.length)/\R (.d (.tuple (zcZ ds i j))) S):=rfl
theorem zmz:zjB (.d (.list ds)) i j S R=R (.d (.list (zcZ ds i j))) S:=rfl
theorem zmt:zjB (.l k) i j S R=∃ ds,S[k]? = some ds/\R (.d (.list (zcZ ds i j))) S:=rfl
theorem zme:zjB (.d (.str z)) i j S R=(z.length<=sizeLine/\R (.d (.str (PySem.Txt.slice z i j))) S):=rfl
end
def zmm(K:W.Frag):R2:=fun x y H Q=>∃ a b ys,x=.ref a/\y=.ref b/\SqT K H a []/\SqT K H b ys/\Q (.ref b) H
theorem zls{X:Cx}:OpR X (binaryOp .Add) (zmm X.K):=by
 intro ze s σ H x y v u Q I rx ry h;obtain⟨a,b,ys,rfl,rfl,ha,hb,q⟩:=h;cases rx;cases ry;obtain⟨its,r1,p1,_⟩:=I.tuple ha;obtain⟨its2,r2,p2,_⟩:=I.tuple hb;cases r1;obtain⟨⟨c1,d1,e1,l1⟩,o1,w1,n1,k1⟩:=id p1;obtain⟨⟨c2,d2,e2,l2⟩,o2,w2,n2,k2⟩:=id p2;simp only at w1 k1 w2 k2;subst w1 k1 w2 k2;exact concat_meets ⟨_,o1,rfl⟩ ⟨_,o2,rfl⟩ noFill_tuple_add seq_tuple_add PySem.F.slot_tuple_add PySem.F.entry_tuple_add (PySem.F.args_tuple_add_2 _ _) (tuple_addW0 a b _ _ n1 n2 d1 d2 l1 l2 (by simp)) ⟨o1,o2,⟨.ref b,H,I,rfl,q⟩⟩
def znD(K:W.Frag):R2:=fun x y H Q=>rI0 (fun i j=>.int (i+j)) x y H Q\/(zov x y H Q\/(zm9 K x y H Q\/(zmm K x y H Q\/∃ i j,x=.str i/\y=.str j/\i.length+j.length<=sizeLine/\Q (.str (i++j)) H)))
theorem zE{X:Cx}:OpR X (binaryOp .Add) (znD X.K):=zpt.or (zkm.or (zoh.or (zls.or zi8)))
def zbQ:D2:=fun x y S R=>match x,y with
 | .d (.int i),.d (.int j)=>R (.d (.int (i+j))) S
 | .d (.tuple ds),.d (.tuple es)=>ds.length+es.length<=1000/\R (.d (.tuple (ds++es))) S
 | .d (.str a),.d (.str b)=>a.length+b.length<=sizeLine/\R (.d (.str (a++b))) S
 | x,y=>asL S x fun ds=>asL S y fun es=>ds.length+es.length<=1000/\R (.d (.list (ds++es))) S
theorem zcx{K:W.Frag}:RO (znD K) zbQ:=fun h o H S x y v u R Q hs hx hy q c=>by
 unfold zbQ at q;split at q
 ·exact .inl (znK h o H S _ _ v u R Q hs hx hy q c)
 ·rename_i ds es;cases ds with
  | cons d ds=>exact .inr (.inr (.inl (zn0 h o H S _ _ v u R Q hs hx hy ⟨by simp,q⟩ c)))
  | nil =>
   obtain⟨a,vs,rfl,ea,l⟩:=zcw hx;obtain⟨b,us,rfl,eb,l'⟩:=zcw hy;rw [zF.mp l] at ea;exact .inr (.inr (.inr (.inl ⟨a,b,us,rfl,rfl,.of ea,.of eb,c o H S (.d (.tuple es)) _ Ex.refl hs hy q.2⟩)))
 ·exact .inr (.inr (.inr (.inr ⟨_,_,zdG hx,zdG hy,q.1,c o H S _ _ Ex.refl hs (xS _) q.2⟩)))
 ·exact .inr (.inl (zpZ h o H S _ _ v u R Q hs hx hy q c))
section
variable {S:Sto} {R:RX} {ds es:List PyData} {i j:Int} {k l:Nat} {a b:Str}
theorem zm6:zbQ (.d (.int i)) (.d (.int j)) S R=R (.d (.int (i+j))) S:=rfl
theorem zmJ:zbQ (.d (.tuple ds)) (.d (.tuple es)) S R=(ds.length+es.length<=1000/\R (.d (.tuple (ds++es))) S):=rfl
theorem zkz:zbQ (.d (.list ds)) (.d (.list es)) S R↔(ds.length+es.length<=1000/\R (.d (.list (ds++es))) S):=⟨fun⟨_,e,_,e',q⟩=>by cases e; cases e'; exact q,fun q=>⟨_,rfl,_,rfl,q⟩⟩
end
def zp4:R2:=fun x y H Q=>rI IntMulOk (fun i j=>.int (i*j)) x y H Q\/(zp7 x y H Q\/zrl x y H Q)
theorem zcR{X:Cx}:OpR X (binaryOp .Mult) zp4:=znu.or (zn2.or zoE)
def zje:D2:=fun x y S R=>asI y fun j=>match x with
 | .d (.int i)=>IntMulOk i j/\R (.d (.int (i*j))) S
 | .d (.str z)=>z.length<=1000/\j<=1000/\-1000<=j/\R (.d (.str (PySem.Txt.mul z j))) S
 | .d (.list ds)=>j<=1000/\-1000<=j/\ds.length*j.toNat<=1000/\R (.d (.list (List.replicate j.toNat ds).flatten)) S
 | _=>False
theorem HasL.rep{H:Hp}{ds:List PyData}{vs:List V}(l:HasL H ds vs):∀ n:Nat,HasL H (List.replicate n ds).flatten (List.replicate n vs).flatten
 | 0=>zF.mpr rfl
 | n+1=>by
  rw [replicate_succ,replicate_succ,flatten_cons,flatten_cons];exact l.append (HasL.rep l n)
theorem zht:RO zp4 zje:=fun h o H S x y v u R Q hs hx hy q c=>by
 replace q:=zaP q;obtain⟨j,rfl,q⟩:=q;split at q
 ·exact .inl (zmo h o H S _ _ v u R Q hs hx hy q c)
 ·exact .inr (.inl ⟨_,_,zdG hx,zaC hy,q.1,q.2.1,q.2.2.1,c o H S _ _ Ex.refl hs (xS _) q.2.2.2⟩)
 ·obtain⟨a,vs,rfl,ea,l⟩:=zbq (x:=.d (.list _)) hs rfl hx;obtain⟨h1,h2,h3,q⟩:=q;exact .inr (.inr ⟨a,j,vs,rfl,zaC hy,ea,by omega,by omega,by rw [l.length]; exact le_of_lt (small1000 h3),zjQ hs (l.rep j.toNat) c q⟩)
 ·exact q.elim
section
variable {S:Sto} {R:RX} {i j:Int} {z:Str} {ds:List PyData}
theorem zmf:zje (.d (.int i)) (.d (.int j)) S R=(IntMulOk i j/\R (.d (.int (i*j))) S):=rfl
theorem zmg:zje (.d (.str z)) (.d (.int j)) S R=(z.length<=1000/\j<=1000/\-1000<=j/\R (.d (.str (PySem.Txt.mul z j))) S):=rfl
end
def zrh:R2:=fun x y H Q=>rI CDivX (fun i j=>.int (i / j)) x y H Q\/rI CDivN (fun i j=>.int (i.fdiv j)) x y H Q
theorem zkn{X:Cx}:OpR X (binaryOp .FloorDiv) zrh:=zma.or zlg
def dFd:D2:=fun x y S R=>asI x fun i=>asI y fun j=>(CDivX i j/\R (.d (.int (i / j))) S)\/(CDivN i j/\R (.d (.int (i.fdiv j))) S)
theorem zqP:RO zrh dFd:=fun h o H S x y v u R Q hs hx hy q c=>by
 replace q:=zaP q;obtain⟨i,rfl,q⟩:=q;replace q:=zaP q;obtain⟨j,rfl,q⟩:=q;rcases q with q | q
 ·exact .inl (zmo (C:=CDivX) (g:=fun i j=>i / j) h o H S _ _ v u R Q hs hx hy q c)
 ·exact .inr (zmo (C:=CDivN) (g:=fun i j=>i.fdiv j) h o H S _ _ v u R Q hs hx hy q c)
def zqC(S:Sto):XV->Option Bool
 | .d .none=>some false
 | .d (.bool b)=>some b
 | .d (.int i)=>some (i != 0)
 | .d (.str z)=>if z.length<=sizeLine then some ((z.length:Int) != 0) else none
 | .d (.list ds)=>some (!ds.isEmpty)
 | .d (.tuple ds)=>some (!ds.isEmpty)
 | .l k=>(S[k]?).map fun ds=>!ds.isEmpty
 | _=>none
def zer(a:DE):DT:=fun δ S R=>a δ S fun x S1=>∃ k,zqC S1 x=some k/\R k S1
theorem zde{H:Hp}{ds:List PyData}{vs:List V}(l:HasL H ds vs):(!ds.isEmpty) = !vs.isEmpty:=by
 have:=l.length;cases ds <;> cases vs <;> simp_all
theorem zca{K:W.Frag}{ta:TE}{da:DE}(ha:RE ta da):RT (fun σ H Q=>ta σ H fun x H'=>∃ k,TruV K x H' k/\Q k H') (zer da):=fun h o H δ σ S R Q he hs q c =>
 ha h o H δ σ S _ _ he hs q fun o1 H1 S1 x v e1 s1 x1 ⟨k,ek,d1⟩=>by
  refine⟨k,?_,c o1 H1 S1 k e1 s1 d1⟩;unfold zqC at ek;split at ek
  ·cases ek; rw [(zbF (H:=vx h o1 H1)).mp x1]; rfl
  ·cases ek; rw [zdo x1]; rfl
  ·cases ek; rw [zaC x1]; rfl
  ·split at ek
   ·rename_i hz;cases ek; rw [zdG x1]; exact⟨hz,rfl⟩
   ·cases ek
  ·obtain⟨a,vs,rfl,ea,l⟩:=zbq (x:=.d (.list _)) s1 rfl x1;cases ek;exact .inl ⟨vs,.of ea,zde l⟩
  ·obtain⟨a,vs,rfl,ea,l⟩:=zcw x1;cases ek;exact .inr (.inl ⟨vs,.of ea,zde l⟩)
  ·rename_i j _;cases hj:S1[j]? with
   | none=>rw [hj] at ek; cases ek
   | some ds =>
    rw [hj] at ek;cases ek;obtain⟨a,vs,rfl,ea,l⟩:=zbq (x:=.l j) s1 hj x1;exact .inl ⟨vs,.of ea,zde l⟩
  ·cases ek
section
variable {S:Sto} {b:Bool} {i:Int} {ds:List PyData} {k:Nat}
theorem zmK:zqC S (.d (.bool b))=some b:=rfl
theorem zm0:zqC S (.l k)=(S[k]?).map fun ds=>!ds.isEmpty:=rfl
end
def zmh:DS:=fun _ _ _=>False
def zrj(K:W.Frag)(tl:TE):TI:=fun σ H R=>tl σ H fun x H1=>∃ a,x=.ref a/\(((∃ xs,SqL K H1 a xs)/\R (Itl K a) H1)\/((∃ xs,SqT K H1 a xs)/\R (Itt K a) H1))
theorem zbW{X:Cx}{tg:Expr}{l:Expr}{tl:TE}(hl:PE X l tl):PI X tg l (zrj X.K tl):=by
 intro ze s σ H R I h;refine thn (hl ze s σ H _ I h) fun v s1 ⟨x,H1,I1,r1,q1⟩=>?_;obtain⟨a,e,⟨⟨xs,hq⟩,q⟩ | ⟨⟨xs,hq⟩,q⟩⟩:=q1
 ·subst e;cases r1;obtain⟨its,rv,p,hz⟩:=I1.list hq;refine wpAny_pyIter_list p.isList ?_;refine⟨s1.heap.objs.size,[s1.heap.objs.size],_,_,H1,rfl,I1.kept (t':=s1.toks) fun b o e=>get?_push_of_some _ e,zgT a _,⟨_,get?_push_size _ rfl,rfl,rfl⟩,fun b hb=>?_,q⟩;have e:b=s1.heap.objs.size:=by simpa using hb
  subst e;exact I1.fpOk (le_refl _) (I1.hok.fresh (le_refl _))
 ·subst e;cases r1;obtain⟨its,rv,p,hz⟩:=I1.tuple hq;refine wpAny_pyIter_tuple (show s1.heap.IsTuple a its.toArray from p) ?_;refine⟨s1.heap.objs.size,[s1.heap.objs.size],_,_,H1,rfl,I1.kept (t':=s1.toks) fun b o e=>get?_push_of_some _ e,zjt a _,⟨_,get?_push_size _ rfl,rfl,rfl⟩,fun b hb=>?_,q⟩;have e:b=s1.heap.objs.size:=by simpa using hb
  subst e;exact I1.fpOk (le_refl _) (I1.hok.fresh (le_refl _))
def zjA:XV->Option (List PyData)
 | .d (.list ds)=>some ds
 | .d (.tuple ds)=>some ds
 | _=>none
theorem zmw{ds:List PyData}:zjA (.d (.list ds))=some ds:=rfl
theorem zmI{ds:List PyData}:zjA (.d (.tuple ds))=some ds:=rfl
def zcG(e:DE):DI:=fun δ S R=>e δ S fun x S1=>∃ ds,zjA x=some ds/\R ds S1
theorem zcy{K:W.Frag}{te:TE}{de:DE}(he':RE te de):RI (zrj K te) (zcG de):=fun h o H δ σ S R Q he hs q c =>
 he' h o H δ σ S _ _ he hs q fun o1 H1 S1 x v e1 s1 x1 ⟨ds,ex,d1⟩=>by
  unfold zjA at ex;split at ex
  ·cases ex;obtain⟨a,vs,rfl,ea,l⟩:=zaf.mp (show Has _ _ _ from x1);have hl:=l.length;refine⟨a,rfl,.inl ⟨⟨vs,.of (zad _ _ ea)⟩,c o1 H1 S1 ds _ e1 s1 ⟨fun i o2 H2 e2 hi=>⟨vs,.of (zad _ _ (e2.vx _ _ ea)),by omega⟩,fun i d o2 H2 e2 hi=>?_,fun i d o2 H2 x H3 S2 e2 s2 hi y=>?_⟩ d1⟩⟩
   ·obtain⟨v,ev,_⟩:=l.get hi;exact⟨vs,v,.of (zad _ _ (e2.vx _ _ ea)),ev⟩
   ·obtain⟨v,ev,hv⟩:=l.get hi;have e3:H3=H2:=y.1;subst e3;have ex:=y.2 vs (.of (zad _ _ (e2.vx _ _ ea)));rw [ev] at ex;cases ex;exact⟨Same.refl _,hv.mono e2.vx⟩
  ·cases ex;obtain⟨a,vs,rfl,ea,l⟩:=zah.mp (show Has _ _ _ from x1);have hl:=l.length;refine⟨a,rfl,.inr ⟨⟨vs,.of (zad _ _ ea)⟩,c o1 H1 S1 ds _ e1 s1 ⟨fun i o2 H2 e2 hi=>⟨vs,.of (zad _ _ (e2.vx _ _ ea)),by omega⟩,fun i d o2 H2 e2 hi=>?_,fun i d o2 H2 x H3 S2 e2 s2 hi y=>?_⟩ d1⟩⟩
   ·obtain⟨v,ev,_⟩:=l.get hi;exact⟨vs,v,.of (zad _ _ (e2.vx _ _ ea)),ev⟩
   ·obtain⟨v,ev,hv⟩:=l.get hi;have e3:H3=H2:=y.1;subst e3;have ex:=y.2 vs (.of (zad _ _ (e2.vx _ _ ea)));rw [ev] at ex;cases ex;exact⟨Same.refl _,hv.mono e2.vx⟩
  ·cases ex
def zre(dt:DS):DS:=fun E δ S=>dt { E with nx:=fun δ' S'=>∃ S0 ds,S'=S0++[ds]/\S.length<=S0.length/\E.nx (δ'.map (frz S0.length ds)) S0 } δ S
end
section
abbrev PN:=List XV->Sto->RX->Prop
def lfN(q:PN):List V->Hp->VK->Prop:=fun vs H Q=>∃ h o S xs R,RepS h o H S/\HasXs h o H xs vs/\q xs S R/\Cn h o H R Q
def spN(ps:List Str)(q:PN):Sp:=fun vs H Q _=>vs.length=ps.length/\lfN q vs H Q
theorem HasXs.len{h o:List Addr}{H:Hp}:∀ {xs:List XV} {vs:List V},HasXs h o H xs vs->vs.length=xs.length
 | [],vs,q=>by rw [show vs=[] from q]; rfl
 | x :: xs,vs,⟨v,r,e,_,l⟩=>by rw [e,length_cons,length_cons,HasXs.len l]
theorem HasXs.get{h o:List Addr}{H:Hp}:∀ {xs:List XV} {vs:List V} {i:Nat} {x:XV},HasXs h o H xs vs->xs[i]? = some x->∃ v,vs[i]? = some v/\HasX h o H x v
 | [],_,i,_,_,e=>by simp at e
 | y :: xs,vs,0,x,⟨v,r,e1,q,l⟩,e=>by
  rw [getElem?_cons_zero] at e;cases e;subst e1;exact⟨v,rfl,q⟩
 | y :: xs,vs,i+1,x,⟨v,r,e1,q,l⟩,e=>by
  subst e1;rw [getElem?_cons_succ] at e ⊢;exact HasXs.get l e
theorem zcc{h o:List Addr}{H:Hp}{xs:List XV}{vs:List V}{n:Nat}(q:HasXs h o H xs vs):RepE h o H (xs.map some++List.replicate n none) (vs.map some++List.replicate n none):=by
 have hl:=q.len;refine⟨by simp [hl],fun i x e=>?_⟩;by_cases hi:i<xs.length
 ·rw [getElem?_append_left (by rw [length_map]; exact hi),getElem?_map] at e;obtain⟨y,ey,e⟩:=Option.map_eq_some_iff.mp e;cases e;obtain⟨v,ev,hv⟩:=q.get ey;exact⟨v,by rw [getElem?_append_left (by rw [length_map,hl]; exact hi),getElem?_map,ev]; rfl,hv⟩
 ·rw [getElem?_append_right (by rw [length_map]; omega),getElem?_replicate] at e;split at e <;> cases e
section
variable {P:Program} {w:World} {K:W.Frag} {mg:Str->Option Value} {base:Heap} {x:Str} {st:Stmt} {N ps:List Str} {k:Nat}
theorem Df.dN{q:PN}(D:Dd K mg x st ps)(S:FnScope N ps (zg st))(n:Nat)(hn:N.length=ps.length+n)
  (hbody:∀ (f:Addr) (cdv:Value) (A:Around) (outer:List Env) (s:Shared) (H:Hp) (E:XK),Room k (A.deeper (envOfC x (zg st) s.heap.objs.size f cdv)) ->
   ∃ t dt,PSs (zfE CX0 P w K mg base N x (zg st) f cdv A outer s H E).nox (zaD st) t/\RS t dt/\∀ xs S R,q xs S R->dt (zbR S.length R) (xs.map some++List.replicate n none) S):Df P w K mg base x ps (k+1) (spN ps q):=by
 refine Df.of D S (fun vs H Q E h=>h.1) fun f cdv A outer s H vs Q E hr ⟨hl,h,o,S',xs,R,hs',hx,hq,c⟩=>?_;obtain⟨t,dt,h1,h2,h3⟩:=hbody f cdv A outer s H E hr;refine⟨t,h1,h2 h o H _ _ S' _ _ ?_ hs' (h3 xs S' R hq) (eok hs' c)⟩;have e:N.length - vs.length=n:=by omega
 unfold start;rw [e];exact zcc hx
end
section
variable {X:Cx} {x:Str} {ps:List Str} {k j:Nat} {pos pos':Pos} {e:Expr} {es:List Expr} {t:TA}
theorem zv{q:PN}(D:Df X.prog X.w X.K X.mg X.base x ps k (spN ps q))(hr:Room j X.A)(hk:k<=j)(ha:PA X (e :: es) t)(hg:Gl X x:=by rfl)(hdb:(x == ("__debug__":Str))=false:=by decide)
  (q1:starEach (e :: es) X.env=(false,eval e X.env) :: starEach es X.env:=by rfl) (q2:((backTo pos (starEach es X.env)).any fun x=>x.fst)=false:=by rfl):PE X (.Call (.Name x pos') (e :: es) [] pos) (zgN (spN ps q) [] E0 t):=by
 obtain⟨f,fd,F,hm,kp,hb⟩:=D.ex;exact zkQ (dvs:=[]) (ds:=[]) (E:=E0) F (hr.mono hk) hg hm kp hb .nil pass0 ha hdb q1 q2
end
def zan(m:Nat)(q:PN)(da:DA):DE:=fun δ S R=>da δ S fun xs S1=>∃ ds,datas xs=some ds/\ds.length=m/\q (ds.map XV.d) [] (ret0 S1 R)
theorem hxs0{h o:List Addr}{H:Hp}:∀ {ds:List PyData} {vs:List V},HasXs h o H (ds.map XV.d) vs->HasXs (h++o) [] H (ds.map XV.d) vs
 | [],_,q=>q
 | d :: ds,vs,⟨v,r,e,q,l⟩=>⟨v,r,e,hx0 q,hxs0 l⟩
theorem zae{ps:List Str}{q:PN}{m:Nat}{t:TA}{da:DA}(ha:RA t da)(hm:ps.length=m:=by rfl):RE (zgN (spN ps q) [] E0 t) (zan m q da):=fun h o H δ σ S R Q he hs w c =>
 ha h o H δ σ S _ _ he hs w fun o1 H1 S1 xs vs e1 s1 x1 ⟨ds,e,hl,d1⟩=>by
  have ex:=zbT e;subst ex;have hv:=x1.len;rw [append_nil];exact⟨by rw [hv,length_map,hl,hm],h++o1,[],[],_,_,rep0 s1,hxs0 x1,d1,cn0 s1 (c.pre e1)⟩
def zH(i m:Nat)(q:PN)(da:DA):DE:=fun δ S R=>da δ S fun xs S1=>∃ k,xs[i]? = some (.l k)/\∃ p,S1[k]? = some p/\∃ ds,datas (xs.set i (.d .none))=some ds/\ds.length=m/\q ((ds.map XV.d).set i (.l 0)) [p] (zqy k S1 R)
theorem zrc{h o:List Addr}{H:Hp}{k:Nat}{a:Addr}(ea:o[k]? = some a):∀ {xs:List XV} {vs:List V} {ds:List PyData} {i:Nat},HasXs h o H xs vs->xs[i]? = some (.l k)->datas (xs.set i (.d .none))=some ds->HasXs (h++o.filter (fun b=>b≠a)) [a] H ((ds.map XV.d).set i (.l 0)) vs
 | [],_,_,i,_,e,_=>by simp at e
 | x :: xs,vs,ds,0,⟨v,r,e1,q,l⟩,e,ed=>by
  rw [getElem?_cons_zero] at e;cases e;rw [set_cons_zero] at ed;obtain⟨ds',rfl⟩:∃ ds',ds=.none :: ds':=by
   unfold datas at ed;cases hd:datas xs with
   | none=>rw [hd] at ed; cases ed
   | some y=>rw [hd] at ed; cases ed; exact⟨y,rfl⟩
  have ed':datas xs=some ds':=by
   unfold datas at ed;cases hd:datas xs with
   | none=>rw [hd] at ed; cases ed
   | some y=>rw [hd] at ed; cases ed; rfl
  have ex:=zbT ed';subst ex;obtain⟨b,eb,rfl⟩:=q;rw [ea] at eb;cases eb;exact⟨_,r,e1,⟨a,rfl,rfl⟩,go (ea:=ea) l⟩
 | x :: xs,vs,ds,i+1,⟨v,r,e1,q,l⟩,e,ed=>by
  rw [getElem?_cons_succ] at e;rw [set_cons_succ] at ed
  match x,q,ed with
  | .d d,q,ed =>
   unfold datas at ed;cases hd:datas (xs.set i (.d .none)) with
   | none=>rw [hd] at ed; cases ed
   | some ds' =>
    rw [hd] at ed;cases ed;exact⟨v,r,e1,hxP ea q,zrc ea l e hd⟩
  | .l j,q,ed=>cases ed
  | .o w,q,ed=>cases ed
  | .x _ _,q,ed=>cases ed
where
 go {h o:List Addr} {H:Hp} {k:Nat} {a:Addr} {ea:o[k]? = some a}:∀ {ds:List PyData} {vs:List V},HasXs h o H (ds.map XV.d) vs->HasXs (h++o.filter (fun b=>b≠a)) [a] H (ds.map XV.d) vs
 | [],_,q=>q
 | d :: ds,vs,⟨v,r,e,q,l⟩=>⟨v,r,e,hxP ea q,go (ea:=ea) l⟩
theorem zkI:∀ {xs:List XV} {ds:List PyData},datas xs=some ds->xs.length=ds.length:=fun e=>by
 rw [zbT e,length_map]
theorem zcn{ps:List Str}{q:PN}{i m:Nat}{t:TA}{da:DA}(ha:RA t da)(hm:ps.length=m:=by rfl):RE (zgN (spN ps q) [] E0 t) (zH i m q da):=fun h o H δ σ S R Q he hs w c =>
 ha h o H δ σ S _ _ he hs w fun o1 H1 S1 xs vs e1 s1 x1 ⟨k,ek,p,ep,ds,e,hl,d1⟩=>by
  have hv:=x1.len;have hd:=zkI e;rw [length_set] at hd;obtain⟨v,_,a,ea,_⟩:=x1.get ek;rw [append_nil];exact⟨by rw [hv,hd,hl,hm],_,[a],[p],_,_,zqo s1 ea ep,zrc ea x1 ek e,d1,cnP s1 ea ep (c.pre e1)⟩
mutual
def zfw:PyData->Bool
 | .list _=>false
 | .dict _=>false
 | .tuple ds=>zex ds
 | _=>true
def zex:List PyData->Bool
 | []=>true
 | d :: ds=>zfw d && zex ds
end
mutual
theorem zeT{h o:List Addr}{H G:Hp}(sm:Same G H)(hh:∀ b,b∈h\/b∈o->∃ u:MO,H b=some u.ho):∀ (d:PyData) (v:V),zfw d=true->Has G d v->Has (vx h o H) d v
 | .none,v,_,q=>zbF.mpr (zbF.mp q)
 | .bool b,v,_,q=>zbj.mpr (zbj.mp q)
 | .int i,v,_,q=>zbA.mpr (zbA.mp q)
 | .str z,v,_,q=>zb3.mpr (zb3.mp q)
 | .list ds,v,n,_=>by simp [zfw] at n
 | .dict ds,v,n,_=>by simp [zfw] at n
 | .tuple ds,v,n,q=>by
  obtain⟨a,vs,e,ea,l⟩:=zah.mp q;have n':zex ds=true:=by simpa [zfw] using n
  have ea':=sm _ _ ea;refine zah.mpr ⟨a,vs,e,zX.mpr ⟨fun m=>?_,fun m=>?_,ea'⟩,zfV sm hh ds vs n' l⟩
  ·obtain⟨u,eu⟩:=hh a (.inl m);rw [ea'] at eu;cases u <;> cases eu
  ·obtain⟨u,eu⟩:=hh a (.inr m);rw [ea'] at eu;cases u <;> cases eu
theorem zfV{h o:List Addr}{H G:Hp}(sm:Same G H)(hh:∀ b,b∈h\/b∈o->∃ u:MO,H b=some u.ho):∀ (ds:List PyData) (vs:List V),zex ds=true->HasL G ds vs->HasL (vx h o H) ds vs
 | [],vs,_,q=>zF.mpr (zF.mp q)
 | d :: ds,vs,n,q=>by
  obtain⟨v,r,e,hv,l⟩:=zt.mp q;simp only [zex,Bool.and_eq_true] at n;exact zt.mpr ⟨v,r,e,zeT sm hh d v n.1 hv,zfV sm hh ds r n.2 l⟩
end
def zqr(S:Sto)(R:RX):RX:=fun y S'=>match y,S' with
 | .d d,[]=>zfw d=true/\R (.d d) S
 | _,_=>False
theorem zmq{S:Sto}{R:RX}{d:PyData}:zqr S R (.d d) []=(zfw d=true/\R (.d d) S):=rfl
def views(S:Sto):List XV->Option (List PyData)
 | []=>some []
 | x :: r=>(zck S x).bind fun d=>(views S r).map (d :: ·)
theorem zhj{S:Sto}:views S []=some []:=rfl
theorem zdR{S:Sto}{x:XV}{r:List XV}:views S (x :: r)=(zck S x).bind fun d=>(views S r).map (d :: ·):=rfl
theorem zrI{h o:List Addr}{H:Hp}{S:Sto}(hs:RepS h o H S):RepS h [] H []:=⟨rfl,nodup_nil,(fun _ h=>(nomatch h)),hs.hal,(fun _ _ _ e=>(by simp at e))⟩
theorem hxV{h o:List Addr}{H:Hp}{S:Sto}{x:XV}{v:V}{d:PyData}(hs:RepS h o H S)(e:zck S x=some d)(q:HasX h o H x v):HasX h [] H (.d d) v:=by
 have sub:Same (vx h o H) (vx h [] H):=fun b u eb=>by
  obtain⟨z1,z2,z3⟩:=zX.mp eb;exact zX.mpr ⟨z1,by simp,z3⟩
 unfold zck at e;split at e
 ·cases e;exact Has.mono sub _ _ q
 ·rename_i k;obtain⟨a,ea,rfl⟩:=q;cases hk:S[k]? with
  | none=>rw [hk] at e; cases e
  | some ds =>
   rw [hk] at e;cases e;obtain⟨vs,ev,l⟩:=hs.cont k a ds ea hk;exact zaf.mpr ⟨a,vs,rfl,zX.mpr ⟨hs.dis a (mem_of_getElem? ea),by simp,ev⟩,l.mono sub⟩
 ·cases e
 ·cases e
theorem zry{h o:List Addr}{H:Hp}{S:Sto}(hs:RepS h o H S):∀ {xs:List XV} {vs:List V} {ds:List PyData},views S xs=some ds->HasXs h o H xs vs->HasXs h [] H (ds.map XV.d) vs/\vs.length=ds.length
 | [],vs,ds,e,q=>by cases e; exact⟨q,by rw [show vs=[] from q]; rfl⟩
 | x :: xs,vs,ds,e,⟨v,r,e1,q,l⟩=>by
  rw [zdR] at e;cases hd:zck S x with
  | none=>rw [hd] at e; cases e
  | some d =>
   rw [hd,Option.bind_some] at e;cases hr:views S xs with
   | none=>rw [hr] at e; cases e
   | some es =>
    rw [hr] at e;cases e;obtain⟨z1,z2⟩:=zry hs hr l;exact⟨⟨v,r,e1,hxV hs hd q,z1⟩,by rw [e1,length_cons,length_cons,z2]⟩
theorem cnV{h o:List Addr}{H:Hp}{S:Sto}{R:RX}{Q:VK}(hs:RepS h o H S)(c:Cn h o H R Q):Cn h [] H (zqr S R) Q:=fun o' H' S' y v e s' hy q=>by
 unfold zqr at q;split at q
 ·rename_i d;have sH:Same H H':=fun b u eb=>(e.kp b u (by simp) eb).2;have e0:o'=[]:=eq_nil_of_length_eq_zero s'.len.symm;subst e0;have hs2:=hs.same sH;refine c o H' S (.d d) v (Ex.of_same sH) hs2 (zeT (zad (h:=h) (o:=[])) (fun b m=>?_) d v q.1 hy) q.2;exact m.elim (hs2.hal b) (hs2.oam b)
 ·exact q.elim
end
section
def zos(K:W.Frag):List V->Hp->VK->Prop:=fun xs H Q=>zqE K xs H Q\/∃ z,xs=[.str z]/\z.length<=sizeLine/\Q (.int z.length) H
theorem zu{X:Cx}:CallR X (.builtin "len") (zos X.K):=zd1.or zhv
def zpe(S:Sto):XV->Option Nat
 | .d (.tuple ds)=>some ds.length
 | .d (.list ds)=>some ds.length
 | .l k=>(S[k]?).map List.length
 | .d (.str z)=>if z.length<=sizeLine then some z.length else none
 | _=>none
def zav:List XV->Sto->RX->Prop:=fun xs S R=>arg1 xs fun x=>∃ n,zpe S x=some n/\R (.d (.int n)) S
theorem zdT{K:W.Frag}:RC (zos K) zav:=fun h o H S xs vs R Q hs hx q c=>by
 obtain⟨x,rfl,n,hd,q1⟩:=zaY q;unfold zpe at hd;split at hd
 ·cases hd;exact .inl (zjW h o H S _ vs R Q hs hx ⟨_,rfl,q1⟩ c)
 ·cases hd;exact .inl (zjW h o H S _ vs R Q hs hx ⟨_,rfl,q1⟩ c)
 ·rename_i k;cases hk:S[k]? with
  | none=>rw [hk] at hd; cases hd
  | some ds =>
   rw [hk] at hd;cases hd;exact .inl (zjW h o H S _ vs R Q hs hx ⟨ds,hk,q1⟩ c)
 ·split at hd
  ·rename_i hz;cases hd;obtain⟨v,rfl,hx1⟩:=hxs1 hx;exact .inr ⟨_,by rw [zdG hx1],hz,c o H S _ _ Ex.refl hs (xI _) q1⟩
  ·cases hd
 ·cases hd
section
variable {S:Sto} {ds:List PyData} {k:Nat} {z:Str}
theorem zmC:zpe S (.d (.tuple ds))=some ds.length:=rfl
theorem zmD:zpe S (.d (.list ds))=some ds.length:=rfl
theorem zmQ:zpe S (.l k)=(S[k]?).map List.length:=rfl
end
theorem zi0{ds:List PyData}(h:SeqAt.shaped (.list ds)=true):PyData.canLayAll0 ds=true/\PyData.depthAll ds<=63:=by
 have h1:=SeqAt.canLay_of_shaped h;have h2:=SeqAt.depth_of_shaped h;simp only [PyData.canLay0,PyData.depth] at h1 h2;exact⟨h1,by omega⟩
section
variable {X:Cx} {elts:List Expr} {n:Nat} {tpos:Pos}
def zmP(K:W.Frag)(ta:TA):TI:=fun σ H R=>ta σ H fun vs H1=>∃ a,vs=[.ref a]/\(((∃ xs,SqT K H1 a xs)/\R (Ite (SqT K) a) H1)\/((∃ xs,SqL K H1 a xs)/\R (Ite (SqL K) a) H1))
theorem zl5{a:Expr}{ta:TA}{p pos:Pos}(hg:Gl X "enumerate")(hm:X.mg "enumerate" = none)(ha:PA X [a] ta)(hs:starEach [a] X.env=[(false,eval a X.env)]:=by rfl):PI X (.Tuple elts n tpos) (.Call (.Name "enumerate" p) [a] [] pos) (zmP X.K ta):=by
 intro ze s σ H R I h;refine Call_ (zfH I hg hm zfr (PyProof.Rows.callWith_type1 (thn (ha pos ze s σ H _ I h) fun us s1 ⟨vs,H1,I1,r1,q1⟩=>?_) hs rfl));obtain⟨b,e,⟨⟨xs,hq⟩,q⟩ | ⟨⟨xs,hq⟩,q⟩⟩:=q1
 ·subst e;cases r1 with
  | cons r rr =>
   cases rr;cases r;obtain⟨its,rv,pl,hz⟩:=I1.tuple hq;refine zgl (show s1.heap.IsTuple b its.toArray from pl) fun g he hj k=>?_;refine wpAny_pyIter_enum (s:={ s1 with heap:=g }) he ?_
   have I2:Inv X ze σ H1 { s1 with heap:=g }:=I1.kept (t':=s1.toks) k;refine⟨s1.heap.objs.size+1,[s1.heap.objs.size+1,s1.heap.objs.size],_,_,H1,rfl,I2,zjy b _ _ (Nat.succ_ne_self _),⟨⟨_,he⟩,hj⟩,fun c hc=>?_,q⟩;rcases mem_cons.mp hc with rfl | hc
   ·exact I1.fpOk (le_succ _) (I1.hok.fresh (le_succ _))
   ·rw [mem_singleton.mp hc];exact I1.fpOk (le_refl _) (I1.hok.fresh (le_refl _))
 ·subst e;cases r1 with
  | cons r rr =>
   cases rr;cases r;obtain⟨its,rv,pl,hz⟩:=I1.list hq;refine call_enumerate_list pl.isList fun g he hj _ k=>?_;refine wpAny_pyIter_enum (s:={ s1 with heap:=g }) he ?_
   have I2:Inv X ze σ H1 { s1 with heap:=g }:=I1.kept (t':=s1.toks) k;refine⟨s1.heap.objs.size+1,[s1.heap.objs.size+1,s1.heap.objs.size],_,_,H1,rfl,I2,zjs b _ _ (Nat.succ_ne_self _),⟨⟨_,he⟩,hj⟩,fun c hc=>?_,q⟩;rcases mem_cons.mp hc with rfl | hc
   ·exact I1.fpOk (le_succ _) (I1.hok.fresh (le_succ _))
   ·rw [mem_singleton.mp hc];exact I1.fpOk (le_refl _) (I1.hok.fresh (le_refl _))
end
def zgj(a:DA):DI:=fun δ S R=>a δ S fun xs S1=>arg1 xs fun x=>∃ ds,zjA x=some ds/\R (zgc 0 ds) S1
theorem zlu{K:W.Frag}{ta:TA}{da:DA}(ha:RA ta da):RI (zmP K ta) (zgj da):=fun h o H δ σ S R Q he hs q c =>
 ha h o H δ σ S _ _ he hs q fun o1 H1 S1 xs vs e1 s1 x1 d0=>by
  obtain⟨x,rfl,ds,hd,d1⟩:=zaY d0;obtain⟨v,rfl,hv⟩:=hxs1 x1;have core:∀ {Sq:Hp->Addr->List V->Prop} {a:Addr} {ws:List V},(∀ {o2 H2},ExH h o1 H1 o2 H2->Sq H2 a ws)->HasL (vx h o1 H1) ds ws->WalkX h o1 H1 (Ite Sq a) (zgc 0 ds):=by
   intro Sq a ws ea' l;have hl:=l.length;refine⟨fun i o2 H2 e2 hi=>⟨ws,ea' e2,by rw [zcL] at hi; omega⟩,fun i d o2 H2 e2 hi=>?_,fun i d o2 H2 x H3 S2 e2 s2 hi y=>?_⟩
   ·obtain⟨e,h1,rfl⟩:=zdx ds 0 i d hi;obtain⟨u,eu,_⟩:=l.get h1;exact⟨ws,u,ea' e2,eu⟩
   ·obtain⟨e,h1,rfl⟩:=zdx ds 0 i d hi;obtain⟨u,eu,hu⟩:=l.get h1;obtain⟨p,v,hp,rfl,rfl,hy⟩:=y;have ev:=hy ws (ea' e2);rw [eu] at ev;cases ev;refine⟨Same.laid hp,zah.mpr ⟨p,_,rfl,s2.laid hp,zt.mpr ⟨_,_,rfl,?_,zt.mpr ⟨_,_,rfl,(hu.mono e2.vx).mono (zdh (Same.laid hp)),zF.mpr rfl⟩⟩⟩⟩;rw [zero_add];exact zbA.mpr rfl
  unfold zjA at hd;split at hd
  ·cases hd;obtain⟨a,ws,rfl,ea,l⟩:=zaf.mp (show Has (vx h o1 H1) (.list ds) v from hv);exact⟨a,rfl,.inr ⟨⟨ws,.of (zad _ _ ea)⟩,c o1 H1 S1 _ _ e1 s1 (core (fun e2=>.of (zad _ _ (e2.vx _ _ ea))) l) d1⟩⟩
  ·cases hd;obtain⟨a,ws,rfl,ea,l⟩:=zah.mp (show Has (vx h o1 H1) (.tuple ds) v from hv);exact⟨a,rfl,.inl ⟨⟨ws,.of (zad _ _ ea)⟩,c o1 H1 S1 _ _ e1 s1 (core (fun e2=>.of (zad _ _ (e2.vx _ _ ea))) l) d1⟩⟩
  ·cases hd
def zri:XV->List XV->Sto->RX->Prop:=fun x xs S R=>∃ k,x=.l k/\∃ ds,S[k]? = some ds/\xs=[]/\∃ d,ds[ds.length - 1]? = some d/\R (.d d) (S.set k ds.dropLast)
def zqq(rd:XV->List XV->Sto->RX->Prop)(e:DE)(a:DA):DE:=fun δ S R=>e δ S fun x S1=>∃ z,x=.d (.str z)/\a δ S1 fun xs S2=>rd x xs S2 R
theorem zm3{K:W.Frag}{r:V->List V->Hp->VK->Prop}{rd:XV->List XV->Sto->RX->Prop}{te:TE}{de:DE}{tl:TA}{dl:DA}(hr:RM r rd)(he':RE te de)(ha:RA tl dl):RE (tBM K "str" r te tl) (zqq rd de dl):=fun h o H δ σ S R Q he hs q c =>
 he' h o H δ σ S _ _ he hs q fun o1 H1 S1 x v e1 s1 x1 ⟨z,ez,d1⟩=>by
  subst ez;cases zdG x1;exact⟨rfl,ha h o1 H1 δ σ S1 _ _ (he.mono e1) s1 d1 fun o2 H2 S2 xs vs e2 s2 x2 d2=>hr h o2 H2 S2 (.d (.str z)) _ xs vs R Q s2 (HasX.mono (x:=.d (.str z)) e2 x1) x2 d2 (c.pre (e1.trans e2))⟩
theorem zfN{H:Hp}:∀ {ns:List Str} {vs:List V},HasL H (ns.map PyData.str) vs->vs=ns.map V.str
 | [],vs,h=>zF.mp h
 | n :: ns,vs,h=>by
  obtain⟨v,r,rfl,h1,h2⟩:=zt.mp h;rw [zb3.mp h1,zfN h2];rfl
def zlJ:XV->List XV->Sto->RX->Prop:=fun x xs S R=>asS x fun z=>arg1 xs fun y=>∃ ds,zjk S y=some ds/\∃ zs:List Str,ds=zs.map PyData.str/\z.length<=16/\zs.length<=1000/\(∀ y∈zs,y.length<=1000)/\R (.d (.str (PySem.Txt.join z zs))) S
theorem zl3{K:W.Frag}:RM (zoL K) zlJ:=fun h o H S x v xs vs R Q hs hx hxs q c=>by
 replace q:=zmi q;obtain⟨z,rfl,q⟩:=q;obtain⟨y,rfl,ds,e,zs,rfl,h1,h2,h3,q1⟩:=zaY q;obtain⟨u,rfl,hu⟩:=hxs1 hxs;obtain⟨a,ws,rfl,ea,l⟩:=zbq hs e hu;rw [zfN l] at ea;exact⟨z,a,zs,zdG hx,rfl,.of ea,h1,h2,h3,c o H S _ _ Ex.refl hs (xS _) q1⟩
def zlK:D2:=fun x y S R=>asL S x fun ds=>asL S y fun es=>ds.length+es.length<=1000/\R (.l S.length) (S++[ds++es])
theorem znz:RO zov zlK:=fun h o H S x y v u R Q hs hx hy q c=>by
 obtain⟨ds,e0,es,e1,hl,q⟩:=q;obtain⟨a,vs,rfl,ea,la⟩:=zbq hs e0 hx;obtain⟨b,us,rfl,eb,lb⟩:=zbq hs e1 hy;exact⟨a,b,vs,us,rfl,rfl,ea,eb,by rw [la.length,lb.length]; exact le_of_lt (small1000 hl),znF hs (la.append lb) c q⟩
def zkO:V->List V->Hp->VK->Prop:=fun x vs H Q=>∃ (d:PyData) (ds:List PyData) (j:Nat),Has H (.list ds) x/\(∃ v,vs=[v]/\Has H d v)/\SeqAt.shaped d=true/\SeqAt.shaped (.list ds)=true/\ds.length<=1000/\(∃ e,ds[j]? = some e/\PyData.eqv e d=true)/\(∀ m e,m<j->ds[m]? = some e->PyData.eqv e d=false)/\Q (.int j) H
theorem zj9{X:Cx}(hu:X.A.units+64<cLine):MtR X "list.index" zkO:=by
 intro ze s σ H x vs v us Q I rx rv h;obtain⟨d,ds,j,hl,⟨y,rfl,hy⟩,sd,se,h1000,⟨e,ej,he⟩,hno,q⟩:=h;obtain⟨s1,s2⟩:=zi0 se;obtain⟨u,rfl,r1⟩:=rv.one;obtain⟨as,q1⟩:=Has.reads I d y u hy (SeqAt.canLay_of_shaped sd) r1;obtain⟨bs,q2⟩:=Has.reads I (.list ds) x v hl (by simpa only [PyData.canLay0] using s1) rx;have hm:X.A.units+1+min (PyData.depthAll ds) d.depth<cLine:=by
  have:=Nat.min_le_left (PyData.depthAll ds) d.depth;omega
 cases q2 with
 | @list l o vs n xs as₁ h1 h2 h3 h4 =>
  have hn:vs.size=ds.length:=by simpa using SeqAt.ReadsAll.length _ _ _ h4
  have hmap:=SeqAt.readsAll_map _ _ _ s1 h4;have hget:∀ (m:Nat) (hm:m<vs.size) e,ds[m]? = some e->SeqAt.readOf s.heap vs[m]=e:=fun m hm e h=>by
   rw [<- hmap,getElem?_map] at h;have:vs.toList[m]? = some vs[m]:=by simp [hm]
   rw [this] at h;exact Option.some.inj h
  have hj:j<vs.size:=by rw [hn]; exact(List.getElem?_eq_some_iff.mp ej).1
  obtain⟨cls,dd,data,sl⟩:=o;simp only at h2 h3;subst h2 h3;refine call_meets PySem.F.slot_list_index ⟨_,h1,rfl⟩ PySem.F.entry_list_index (PySem.F.args_list_index_2 _ _)
   (SeqAt.list_indexAt l vs n dd sl u (fun y=>PyData.eqv (SeqAt.readOf s.heap y) d) j hj (by omega) ?_ ?_) ⟨h1,SeqAt.items_eqAt h4 q1 s1 (SeqAt.canLay_of_shaped sd) hm,⟨.int j,H,I.tok _,⟨_,rfl⟩,q⟩⟩
  ·show PyData.eqv (SeqAt.readOf s.heap vs[j]) d=true;rw [hget j hj e ej]; exact he
  ·intro m hm hlt;show PyData.eqv (SeqAt.readOf s.heap vs[m]) d=false;have em:ds[m]? = some ds[m]:=getElem?_eq_getElem (by omega);rw [hget m hm _ em]; exact hno m _ hlt em
def ziz:XV->List XV->Sto->RX->Prop:=fun x xs S R=>arg1 xs fun y=>∃ d,zck S y=some d/\∃ ds,zjk S x=some ds/\SeqAt.shaped d=true/\SeqAt.shaped (.list ds)=true/\ds.length<=1000/\∃ j,(∃ e,ds[j]? = some e/\PyData.eqv e d=true)/\(∀ m e,m<j->ds[m]? = some e->PyData.eqv e d=false)/\R (.d (.int (j:Nat))) S
theorem zj8:RM zkO ziz:=fun h o H S x v xs vs R Q hs hx hxs q c=>by
 obtain⟨y,rfl,d,e1,ds,e2,s1,s2,h1,j,h2,h3,q1⟩:=zaY q;obtain⟨u,rfl,hu⟩:=hxs1 hxs;have hl:Has H (.list ds) v:=zbB (x:=x) hs (by
  unfold zjk at e2;split at e2
  ·cases e2; rfl
  ·rename_i k; show (S[k]?).map PyData.list=_; rw [e2]; rfl
  ·cases e2) hx
 exact⟨d,ds,j,hl,⟨u,rfl,zbB hs e1 hu⟩,s1,s2,h1,h2,h3,c o H S _ _ Ex.refl hs (xI _) q1⟩
def zpV(rd:XV->List XV->Sto->RX->Prop)(e:DE)(a:DA):DE:=fun δ S R=>e δ S fun x S1=>∃ ds,zjk S1 x=some ds/\a δ S1 fun xs S2=>rd x xs S2 R
theorem zkM{K:W.Frag}{r:V->List V->Hp->VK->Prop}{rd:XV->List XV->Sto->RX->Prop}{te:TE}{de:DE}{tl:TA}{dl:DA}(hr:RM r rd)(he':RE te de)(ha:RA tl dl):RE (tBM K "list" r te tl) (zpV rd de dl):=fun h o H δ σ S R Q he hs q c =>
 he' h o H δ σ S _ _ he hs q fun o1 H1 S1 x v e1 s1 x1 ⟨ds,ez,d1⟩=>by
  obtain⟨a,ws,rfl,ea,_⟩:=zbq s1 ez x1;exact⟨zgk ea,ha h o1 H1 δ σ S1 _ _ (he.mono e1) s1 d1 fun o2 H2 S2 xs vs e2 s2 x2 d2=>hr h o2 H2 S2 x _ xs vs R Q s2 (x1.mono e2) x2 d2 (c.pre (e1.trans e2))⟩
abbrev zrT (a:Addr) (m:Nat):DEnds:={ nx:=fun δ _=>δ[0]? = some (some (.o (.ref a)))/\δ.length=m+1,ct:=fun δ _=>δ[0]? = some (some (.o (.ref a)))/\δ.length=m+1,rt:=fun _ _=>False }
abbrev zrf (a:Addr) (m:Nat):DEnds:={ nx:=fun δ _=>δ[0]? = some (some (.o (.ref a)))/\δ.length=m+1,rt:=fun _ _=>False }
section
variable {a:Addr} {m:Nat} {t1 t2 t3 t4 u:TS} {dt:DS} {D:Ends} {σ:St} {H:Hp}
theorem znd(ht:RS t1 dt)(h0:σ[0]? = some (some (.ref a)))(hl:σ.length=m+1)(go:dt (zrf a m) (some (.o (.ref a)) :: List.replicate m none) [])
  (next:∀ (σ:St) (H1:Hp),σ[0]? = some (some (.ref a))->σ.length=m+1->Same H H1->u D σ H1):znf t1 u D σ H:=zqW ht h0 hl go next
end
end
section
open Sem (wp)
def ItK(t:Bool)(h:Heap)(j a:Addr)(k:Nat):Prop:=match t with
 | true=>h.IsTupleIter j a k
 | false=>h.IsListIter j a k
def SqK(t:Bool)(h:Heap)(a:Addr)(xs:Array Value):Prop:=match t with
 | true=>h.IsTuple a xs
 | false=>h.IsList a xs
theorem ItK.at{t:Bool}{h g:Heap}{j a:Addr}{k:Nat}(q:ItK t h j a k)(f:∀ o,h.get? j=some o->g.get? j=some o):ItK t g j a k:=by
 cases t
 ·exact Heap.IsListIter.at (show h.IsListIter j a k from q) f
 ·exact Heap.IsTupleIter.at (show h.IsTupleIter j a k from q) f
theorem ItK.here{t:Bool}{h:Heap}{j a:Addr}{k:Nat}(q:ItK t h j a k):∃ o,h.get? j=some o/\∀ v,o.data≠.cell v:=by
 cases t <;> (obtain⟨o,e,c,d⟩:=q; exact⟨o,e,fun v z=>by rw [d] at z; cases z⟩)
theorem SqK.at{t:Bool}{h g:Heap}{a:Addr}{xs:Array Value}(q:SqK t h a xs)(f:∀ o,h.get? a=some o->g.get? a=some o):SqK t g a xs:=by
 cases t <;> (obtain⟨o,e,r⟩:=q; exact⟨o,f o e,r⟩)
theorem SqK.here{t:Bool}{h:Heap}{a:Addr}{xs:Array Value}(q:SqK t h a xs):∃ o,h.get? a=some o:=by
 cases t <;> (obtain⟨o,e,r⟩:=q; exact⟨o,e⟩)
section
variable {prog:Program} {w:World} {A:Around} {E:Value->Shared->Prop} {s:Shared}
theorem znc{t:Bool}{j a:Addr}{k:Nat}{xs:Array Value}{x:Value}{Q:Value->Shared->Prop}(hj:ItK t s.heap j a k)(ha:SqK t s.heap a xs)(hx:xs[k]? = some x)
  (hQ:∀ g,ItK t g j a (k+1)->Heap.SameBut j s.heap g->Q x { s with heap:=g }):wpAny (model prog w) A (Builtin.SmallTypes.nextOf (.ref j)) Q E s:=by
 cases t
 ·exact wpAny_nextOf_list_item hj ha hx hQ
 ·exact zfY hj ha hx hQ
theorem zhp{t:Bool}{j a:Addr}{k:Nat}{xs:Array Value}{Q:Value->Shared->Prop}(hh:A.handled=none)(hj:ItK t s.heap j a k)(ha:SqK t s.heap a xs)(hx:xs[k]? = none)
  (hE:∀ g e,Heap.ExtBut j s.heap g->(∃ o,g.get? e=some o/\o.cls=.type "StopIteration")->E (.ref e) { s with heap:=g }):wpAny (model prog w) A (Builtin.SmallTypes.nextOf (.ref j)) Q E s:=by
 cases t
 ·exact wpAny_nextOf_list_end hh hj ha hx hE
 ·exact zdd hh hj ha hx hE
theorem zp5{t:Bool}{a:Addr}{xs:Array Value}{Q:Value->Shared->Prop}(ha:SqK t s.heap a xs)(hQ:Q (.ref s.heap.objs.size) { s with heap:=s.heap.push { cls:=.type (if t then "tuple_iterator" else "list_iterator"),data:=.fields #[.ref a,.int 0 0] } }):wpAny (model prog w) A (pyIter (.ref a)) Q E s:=by
 cases t
 ·exact wpAny_pyIter_list ha hQ
 ·exact wpAny_pyIter_tuple ha hQ
theorem zjJ{T:Addr}{c d x:Value}{k:Nat}{Q:Unit->Shared->Prop}(hT:IsPair s.heap T c d)(hQ:∀ g,g.get? T=some { cls:=.type "tuple",data:=.seq ((#[c,d]:Array Value).setIfInBounds k x) }->Heap.SameBut T s.heap g->Q () { s with heap:=g }):
  wpAny (model prog w) A (updateSeq T (·.setIfInBounds k x)) Q E s:=wpAny_updateSeq_pair hT hQ
structure ZAp(z p r i j a b:Addr):Prop where
 pz:p≠z
 rz:r≠z
 iz:i≠z
 jz:j≠z
 pr:p≠r
 pi:p≠i
 pj:p≠j
 ri:r≠i
 rj:r≠j
 ij:i≠j
 az:a≠z
 ar:a≠r
 ai:a≠i
 aj:a≠j
 bz:b≠z
 br:b≠r
 bi:b≠i
 bj:b≠j
theorem zjH{t u:Bool}{z p r i j a b:Addr}{k m:Nat}{xs ys:Array Value}{x y c d:Value}{Q:Value->Shared->Prop}(D:ZAp z p r i j a b)(hz:IsZip s.heap z p r .none)(hp:IsPair s.heap p (.ref i) (.ref j))(hr:IsPair s.heap r c d)
  (hi:ItK t s.heap i a k) (hj:ItK u s.heap j b m) (ha:SqK t s.heap a xs) (hb:SqK u s.heap b ys) (hx:xs[k]? = some x) (hy:ys[m]? = some y)
  (hQ:∀ g,IsZip g z p r (rawInt s.heap.objs.size)->IsPair g r x y->ItK t g i a (k+1)->ItK u g j b (m+1)->IsPair g s.heap.objs.size x y ->
   (∀ q o,q≠z->q≠r->q≠i->q≠j->s.heap.get? q=some o->g.get? q=some o)->Q (.ref s.heap.objs.size) { s with heap:=g }) :
  wpAny (model prog w) A (Builtin.«zip.__next__» ⟨[.ref z],[]⟩) (fun fn s'=>∃ v,fn=.done (.ret v)/\Q v s') E s:=by
 obtain⟨h0,gs,dr,tk,os⟩:=s;show wpAny _ _ (field (.ref z) 2 >>= _) _ _ ⟨h0,gs,dr,tk,os⟩;refine wpAny_bind (wpAny_field hz rfl (x:=.bool false) rfl ?_);show wpAny _ _ (field (.ref z) 3 >>= _) _ _ ⟨h0,gs,dr,tk,os⟩;refine wpAny_bind (wpAny_field hz rfl (x:=.ref p) rfl (wpAny_bind (wpAny_seqItems hp rfl ?_)));show wpAny _ _ (Builtin.SmallTypes.ownedTupleIsFree (.ref z) >>= _) _ _ ⟨h0,gs,dr,tk,os⟩;refine wpAny_bind ?_;unfold Builtin.SmallTypes.ownedTupleIsFree;refine wpAny_bind (wpAny_field hz rfl (x:=.none) rfl (wpAny_pure ?_));simp only [if_true];refine wpAny_bind (wpAny_rule (wpAny_bind (wpAny_field hz rfl (x:=.ref r) rfl (wpAny_bind (wpAny_setField_rec hz (by simp) fun g1 z1 b1=>?_)))));replace z1:IsZip g1 z p r .ellipsis:=z1;replace b1:Heap.SameBut z h0 g1:=b1;refine wpAny_bind ?_;simp only [List.zipIdx_cons,List.zipIdx_nil,forIn_cons,List.forIn_nil];refine wpAny_bind (wpAny_bind (wpAny_onRaise ?_));show wpAny _ _ (Builtin.SmallTypes.nextOf (.ref i) >>= _) _ _ ⟨g1,gs,dr,tk,os⟩;refine wpAny_bind (znc (s:=⟨g1,gs,dr,tk,os⟩) (hi.at fun o e=>b1.extBut i o D.iz e) (ha.at fun o e=>b1.extBut a o D.az e) hx fun g2 i2 b2=>wpAny_pure ?_);replace b2:Heap.SameBut i g1 g2:=b2;have r2:IsPair g2 r c d:=b2.extBut r _ D.ri (b1.extBut r _ D.rz hr);refine wpAny_bind (wpAny_seqItems (s:=⟨g2,gs,dr,tk,os⟩) r2 rfl (wpAny_bind (zjJ (s:=⟨g2,gs,dr,tk,os⟩) r2 fun g3 r3 b3=>?_)));replace r3:IsPair g3 r x d:=r3;replace b3:Heap.SameBut r g2 g3:=b3;refine wpAny_bind (wpAny_letGo (wpAny_pure (wpAny_bind (wpAny_bind (wpAny_onRaise ?_)))));show wpAny _ _ (Builtin.SmallTypes.nextOf (.ref j) >>= _) _ _ ⟨g3,gs,dr,tk,os⟩;have k13:∀ q o,q≠z->q≠r->q≠i->h0.get? q=some o->g3.get? q=some o:=fun q o n1 n2 n3 e=>b3.extBut q o n2 (b2.extBut q o n3 (b1.extBut q o n1 e));refine wpAny_bind (znc (s:=⟨g3,gs,dr,tk,os⟩) (hj.at fun o e=>k13 j o D.jz (Ne.symm D.rj) (Ne.symm D.ij) e) (hb.at fun o e=>k13 b o D.bz D.br D.bi e) hy fun g4 j4 b4=>wpAny_pure ?_);replace b4:Heap.SameBut j g3 g4:=b4;have r4:IsPair g4 r x d:=b4.extBut r _ D.rj r3;refine wpAny_bind (wpAny_seqItems (s:=⟨g4,gs,dr,tk,os⟩) r4 rfl (wpAny_bind (zjJ (s:=⟨g4,gs,dr,tk,os⟩) r4 fun g5 r5 b5=>?_)));replace r5:IsPair g5 r x y:=r5;replace b5:Heap.SameBut r g4 g5:=b5;refine wpAny_bind (wpAny_letGo (wpAny_pure (wpAny_pure (wpAny_bind (wpAny_seqItems (s:=⟨g5,gs,dr,tk,os⟩) r5 rfl (wpAny_bind (wpAny_newTuple ?_)))))));have sz:g5.objs.size=h0.objs.size:=by rw [b5.1,b4.1,b3.1,b2.1,b1.1]
 have z5:IsZip g5 z p r .ellipsis:=b5.extBut z _ (Ne.symm D.rz) (b4.extBut z _ (Ne.symm D.jz) (b3.extBut z _ (Ne.symm D.rz) (b2.extBut z _ (Ne.symm D.iz) z1)));have k5:∀ q o,q≠z->q≠r->q≠i->q≠j->h0.get? q=some o->g5.get? q=some o:=fun q o n1 n2 n3 n4 e=>b5.extBut q o n2 (b4.extBut q o n4 (k13 q o n1 n2 n3 e));have i5:ItK t g5 i a (k+1):=ItK.at i2 fun o e=>b5.extBut i o (Ne.symm D.ri) (b4.extBut i o D.ij (b3.extBut i o (Ne.symm D.ri) e));have j5:ItK u g5 j b (m+1):=ItK.at j4 fun o e=>b5.extBut j o (Ne.symm D.rj) e;have zl:z<g5.objs.size:=lt_size z5;show wpAny _ _ (Builtin.SmallTypes.ownedTupleHandOut (.ref z) (.ref g5.objs.size) >>= _) _ _ _;refine wpAny_bind ?_;unfold Builtin.SmallTypes.ownedTupleHandOut;have z6:IsZip (g5.push { cls:=.type "tuple",data:=.seq #[x,y] }) z p r .ellipsis:=get?_push_of_some _ z5;refine wpAny_bind (wpAny_setField_rec z6 (by simp) fun g7 z7 b7=>?_);replace z7:IsZip g7 z p r (rawInt g5.objs.size):=z7;replace b7:Heap.SameBut z (g5.push { cls:=.type "tuple",data:=.seq #[x,y] }) g7:=b7;refine wpAny_setField_rec z7 (by simp) fun g8 z8 b8=>?_;replace z8:IsZip g8 z p r (rawInt g5.objs.size):=z8;replace b8:Heap.SameBut z g7 g8:=b8;have up:∀ q o,q≠z->g5.get? q=some o->g8.get? q=some o:=fun q o n e=>b8.extBut q o n (b7.extBut q o n (get?_push_of_some _ e));have t8:IsPair g8 g5.objs.size x y:=b8.extBut _ _ (ne_of_gt zl) (b7.extBut _ _ (ne_of_gt zl) (get?_push_size _ rfl));rw [sz] at z8 t8;refine wpAny_pure ⟨_,rfl,?_⟩;show Q (.ref g5.objs.size) _;rw [sz];exact hQ g8 z8 (up r _ D.rz r5) (i5.at fun o e=>up i o D.iz e) (j5.at fun o e=>up j o D.jz e) t8 fun q o n1 n2 n3 n4 e=>up q o n1 (k5 q o n1 n2 n3 n4 e)
theorem zjG{t u:Bool}{z p r i j a b:Addr}{k m:Nat}{xs ys:Array Value}{c d:Value}{Q:Fin->Shared->Prop}(hh:A.handled=none)(D:ZAp z p r i j a b)(hz:IsZip s.heap z p r .none)(hp:IsPair s.heap p (.ref i) (.ref j))(hr:IsPair s.heap r c d)
  (hi:ItK t s.heap i a k) (hj:ItK u s.heap j b m) (ha:SqK t s.heap a xs) (hb:SqK u s.heap b ys) (hend:xs[k]? = none\/ys[m]? = none)
  (hE:∀ g e,(∀ q o,q≠z->q≠r->q≠i->q≠j->s.heap.get? q=some o->g.get? q=some o)->(∃ o,g.get? e=some o/\o.cls=.type "StopIteration")->E (.ref e) { s with heap:=g }) :
  wpAny (model prog w) A (Builtin.«zip.__next__» ⟨[.ref z],[]⟩) Q E s:=by
 obtain⟨h0,gs,dr,tk,os⟩:=s;show wpAny _ _ (field (.ref z) 2 >>= _) _ _ ⟨h0,gs,dr,tk,os⟩;refine wpAny_bind (wpAny_field hz rfl (x:=.bool false) rfl ?_);show wpAny _ _ (field (.ref z) 3 >>= _) _ _ ⟨h0,gs,dr,tk,os⟩;refine wpAny_bind (wpAny_field hz rfl (x:=.ref p) rfl (wpAny_bind (wpAny_seqItems hp rfl ?_)));show wpAny _ _ (Builtin.SmallTypes.ownedTupleIsFree (.ref z) >>= _) _ _ ⟨h0,gs,dr,tk,os⟩;refine wpAny_bind ?_;unfold Builtin.SmallTypes.ownedTupleIsFree;refine wpAny_bind (wpAny_field hz rfl (x:=.none) rfl (wpAny_pure ?_));simp only [if_true];refine wpAny_bind (wpAny_rule (wpAny_bind (wpAny_field hz rfl (x:=.ref r) rfl (wpAny_bind (wpAny_setField_rec hz (by simp) fun g1 z1 b1=>?_)))));replace z1:IsZip g1 z p r .ellipsis:=z1;replace b1:Heap.SameBut z h0 g1:=b1;refine wpAny_bind ?_;simp only [List.zipIdx_cons,List.zipIdx_nil,forIn_cons,List.forIn_nil];refine wpAny_bind (wpAny_bind (wpAny_onRaise ?_));show wpAny _ _ (Builtin.SmallTypes.nextOf (.ref i) >>= _) _ _ ⟨g1,gs,dr,tk,os⟩;have notz:∀ {g:Heap} {e:Addr} {o:Obj},IsZip g z p r .ellipsis->g.get? e=some o->o.cls=.type "StopIteration"->e≠z:=fun h1 h2 h3 w=>by
  subst w;rw [h1] at h2;cases h2;simp at h3
 cases hx:xs[k]? with
 | none =>
  refine wpAny_bind (zhp (s:=⟨g1,gs,dr,tk,os⟩) hh (hi.at fun o e=>b1.extBut i o D.iz e) (ha.at fun o e=>b1.extBut a o D.az e) hx fun g2 e b2 he=>?_);obtain⟨oe,e1,e2⟩:=he;have z2:IsZip g2 z p r .ellipsis:=b2 z _ (Ne.symm D.iz) z1;exact wpAny_setField_rec z2 (by simp) fun g3 _ b3=>hE g3 e (fun q o n1 _ n3 _ w=>b3.extBut q o n1 (b2 q o n3 (b1.extBut q o n1 w))) ⟨oe,b3.extBut e oe (notz z2 e1 e2) e1,e2⟩
 | some x =>
  have hy:ys[m]? = none:=hend.elim (fun w=>by rw [hx] at w; cases w) id;refine wpAny_bind (znc (s:=⟨g1,gs,dr,tk,os⟩) (hi.at fun o e=>b1.extBut i o D.iz e) (ha.at fun o e=>b1.extBut a o D.az e) hx fun g2 i2 b2=>wpAny_pure ?_);replace b2:Heap.SameBut i g1 g2:=b2;have r2:IsPair g2 r c d:=b2.extBut r _ D.ri (b1.extBut r _ D.rz hr);refine wpAny_bind (wpAny_seqItems (s:=⟨g2,gs,dr,tk,os⟩) r2 rfl (wpAny_bind (zjJ (s:=⟨g2,gs,dr,tk,os⟩) r2 fun g3 r3 b3=>?_)));replace b3:Heap.SameBut r g2 g3:=b3;refine wpAny_bind (wpAny_letGo (wpAny_pure (wpAny_bind (wpAny_bind (wpAny_onRaise ?_)))));show wpAny _ _ (Builtin.SmallTypes.nextOf (.ref j) >>= _) _ _ ⟨g3,gs,dr,tk,os⟩;have k13:∀ q o,q≠z->q≠r->q≠i->h0.get? q=some o->g3.get? q=some o:=fun q o n1 n2 n3 e=>b3.extBut q o n2 (b2.extBut q o n3 (b1.extBut q o n1 e));refine wpAny_bind (zhp (s:=⟨g3,gs,dr,tk,os⟩) hh (hj.at fun o e=>k13 j o D.jz (Ne.symm D.rj) (Ne.symm D.ij) e) (hb.at fun o e=>k13 b o D.bz D.br D.bi e) hy fun g4 e b4 he=>?_);obtain⟨oe,e1,e2⟩:=he;have z4:IsZip g4 z p r .ellipsis:=b4 z _ (Ne.symm D.jz) (b3.extBut z _ (Ne.symm D.rz) (b2.extBut z _ (Ne.symm D.iz) z1));exact wpAny_setField_rec z4 (by simp) fun g5 _ b5=>hE g5 e (fun q o n1 n2 n3 n4 w=>b5.extBut q o n1 (b4 q o n4 (k13 q o n1 n2 n3 w))) ⟨oe,b5.extBut e oe (notz z4 e1 e2) e1,e2⟩
abbrev zpA (t:Bool) (h:Heap) (a:Addr):Heap:=h.push { cls:=.type (if t then "tuple_iterator" else "list_iterator"),data:=.fields #[.ref a,.int 0 0] }
abbrev zpB (t u:Bool) (h:Heap) (a b:Addr):Heap:=(zpA t h a).push { cls:=.type (if u then "tuple_iterator" else "list_iterator"),data:=.fields #[.ref b,.int 0 0] }
abbrev zpC (t u:Bool) (h:Heap) (a b:Addr):Heap:=(zpB t u h a b).push { cls:=.type "tuple",data:=.seq #[.ref h.objs.size,.ref (zpA t h a).objs.size] }
abbrev zpD (t u:Bool) (h:Heap) (a b:Addr):Heap:=(zpC t u h a b).push { cls:=.type "tuple",data:=.seq #[.none,.none] }
abbrev zpE (t u:Bool) (h:Heap) (a b:Addr):Heap:=(zpD t u h a b).push { cls:=.type "zip",data:=.fields #[.none,.bool false,.bool false,.ref (zpB t u h a b).objs.size,.ref (zpC t u h a b).objs.size] }
theorem znw(t u:Bool)(a b:Addr)(xs ys:Array Value):Meets (Builtin.«zip.__new__» ⟨[.type "zip",.ref a,.ref b],[]⟩) (fun _ R s=>SqK t s.heap a xs/\SqK u s.heap b ys /\
   ∀ g,IsZip g (s.heap.objs.size+4) (s.heap.objs.size+2) (s.heap.objs.size+3) .none->IsPair g (s.heap.objs.size+2) (.ref s.heap.objs.size) (.ref (s.heap.objs.size+1))->IsPair g (s.heap.objs.size+3) .none .none ->
    ItK t g s.heap.objs.size a 0->ItK u g (s.heap.objs.size+1) b 0->(∀ q o,s.heap.get? q=some o->g.get? q=some o)->R (.ok (.ret (.ref (s.heap.objs.size+4)))) { s with heap:=g }) :=
 .of_wp fun prog w A R s hyp=>by
  obtain⟨g0,gs,dr,tk,os⟩:=s;obtain⟨ha,hb,hyp⟩:=hyp;have sub:=sub_zip;have hA:SqK t (Shared.heap ⟨g0,gs,dr,tk,os⟩) a xs:=ha;have hB:SqK u (Shared.heap ⟨g0.push { cls:=.type (if t then "tuple_iterator" else "list_iterator"),data:=.fields #[.ref a,.int 0 0] },gs,dr,tk,os⟩) b ys:=SqK.at hb fun o e=>get?_push_of_some _ e
  wp_walk using zp5 hA,zp5 hB
  refine⟨_,rfl,?_⟩;have z1:(zpA t g0 a).objs.size=g0.objs.size+1:=size_push ..;have z2:(zpB t u g0 a b).objs.size=g0.objs.size+2:=by rw [size_push,z1]
  have z3:(zpC t u g0 a b).objs.size=g0.objs.size+3:=by rw [size_push,z2]
  have z4:(zpD t u g0 a b).objs.size=g0.objs.size+4:=by rw [size_push,z3]
  have f1:=get?_push_size g0 (o:={ cls:=.type (if t then "tuple_iterator" else "list_iterator"),data:=.fields #[.ref a,.int 0 0] }) (by cases t <;> rfl);have f2:=get?_push_size (zpA t g0 a) (o:={ cls:=.type (if u then "tuple_iterator" else "list_iterator"),data:=.fields #[.ref b,.int 0 0] }) (by cases u <;> rfl);have f3:=get?_push_size (zpB t u g0 a b) (o:={ cls:=.type "tuple",data:=.seq #[.ref g0.objs.size,.ref (zpA t g0 a).objs.size] }) rfl;have f4:=get?_push_size (zpC t u g0 a b) (o:={ cls:=.type "tuple",data:=.seq #[.none,.none] }) rfl;have f5:=get?_push_size (zpD t u g0 a b) (o:={ cls:=.type "zip",data:=.fields #[.none,.bool false,.bool false,.ref (zpB t u g0 a b).objs.size,.ref (zpC t u g0 a b).objs.size] }) rfl;have c1:∀ q o,g0.get? q=some o->(zpA t g0 a).get? q=some o:=fun q o e=>get?_push_of_some _ e;have c2:∀ q o,(zpA t g0 a).get? q=some o->(zpB t u g0 a b).get? q=some o:=fun q o e=>get?_push_of_some _ e;have c3:∀ q o,(zpB t u g0 a b).get? q=some o->(zpC t u g0 a b).get? q=some o:=fun q o e=>get?_push_of_some _ e;have c4:∀ q o,(zpC t u g0 a b).get? q=some o->(zpD t u g0 a b).get? q=some o:=fun q o e=>get?_push_of_some _ e;have c5:∀ q o,(zpD t u g0 a b).get? q=some o->(zpE t u g0 a b).get? q=some o:=fun q o e=>get?_push_of_some _ e;have y1:=c5 _ _ (c4 _ _ (c3 _ _ (c2 _ _ f1)));have y2:=c5 _ _ (c4 _ _ (c3 _ _ f2));have y3:=c5 _ _ (c4 _ _ f3);have y4:=c5 _ _ f4;have y5:(zpE t u g0 a b).get? (zpD t u g0 a b).objs.size=some { cls:=.type "zip",data:=.fields #[.none,.bool false,.bool false,.ref (zpB t u g0 a b).objs.size,.ref (zpC t u g0 a b).objs.size] }:=f5;have fin:R (.ok (.ret (.ref (zpD t u g0 a b).objs.size))) ⟨zpE t u g0 a b,gs,dr,tk,os⟩:=by
   rw [z4,z2,z3] at y5;rw [z2,z1] at y3;rw [z3] at y4;rw [z1] at y2;rw [z4];refine hyp _ y5 y3 y4 ?_ ?_ fun q o e=>c5 q o (c4 q o (c3 q o (c2 q o (c1 q o e))))
   ·cases t <;> exact⟨_,y1,rfl,rfl⟩
   ·cases u <;> exact⟨_,y2,rfl,rfl⟩
  exact fin
theorem zke{t u:Bool}{a b:Addr}{xs ys:Array Value}{Q:Value->Shared->Prop}(ha:SqK t s.heap a xs)(hb:SqK u s.heap b ys)
  (hyp:∀ g,IsZip g (s.heap.objs.size+4) (s.heap.objs.size+2) (s.heap.objs.size+3) .none->IsPair g (s.heap.objs.size+2) (.ref s.heap.objs.size) (.ref (s.heap.objs.size+1))->IsPair g (s.heap.objs.size+3) .none .none ->
    ItK t g s.heap.objs.size a 0->ItK u g (s.heap.objs.size+1) b 0->(∀ q o,s.heap.get? q=some o->g.get? q=some o)->Q (.ref (s.heap.objs.size+4)) { s with heap:=g }):wpAny (model prog w) A (call (.type "zip") [.ref a,.ref b]) Q E s:=by
 refine callType_new F.called_zip dz (F.typeCall_zip_2 _ _) (F.newCall_zip_2 _ _) (fun ob=>F.args_object_init_3 ob _ _) F.entry_zip_new (znw t u a b xs ys) ⟨ha,hb,fun g h1 h2 h3 h4 h5 h6=>?_⟩;exact⟨⟨_,h1,rfl⟩,hyp g h1 h2 h3 h4 h5 h6⟩
end
def Itz(S1 S2:Hp->Addr->List V->Prop)(a b:Addr):It :=
 ⟨fun i H=>∃ xs ys x y,S1 H a xs/\S2 H b ys/\xs[i]? = some x/\ys[i]? = some y,fun i H x H'=>∃ p v u,H p=none/\x=.ref p/\H'=upd H p (.tup [v,u])/\(∀ xs,S1 H a xs->xs[i]? = some v)/\(∀ ys,S2 H b ys->ys[i]? = some u),fun i H=>∃ xs ys,S1 H a xs/\S2 H b ys/\(xs.length<=i\/ys.length<=i)⟩
def SqV(K:W.Frag)(t:Bool)(H:Hp)(a:Addr)(xs:List V):Prop:=match t with
 | true=>SqT K H a xs
 | false=>SqL K H a xs
theorem Inv.seqK{X:Cx}{ze:List (Addr×Obj)}{σ:St}{H:Hp}{s:Shared}{t:Bool}{a:Addr}{xs:List V}(I:Inv X ze σ H s)(h:SqV X.K t H a xs):∃ its:List Value,Vals xs its/\SqK t s.heap a its.toArray/\∀ ys,SqV X.K t H a ys->ys=xs:=by
 cases t
 ·obtain⟨its,rv,p,_⟩:=I.list h;exact⟨its,rv,p.isList,fun ys hy=>I.list_inj hy h⟩
 ·obtain⟨its,rv,p,_⟩:=I.tuple h;exact⟨its,rv,p,fun ys hy=>I.tuple_inj hy h⟩
theorem zlH{P:Program}{w:World}{K:W.Frag}{elts:List Expr}{n:Nat}{pos:Pos}(t u:Bool)(z p r i j a b:Addr)(D:ZAp z p r i j a b):Turn P w K (.Tuple elts n pos) (Itz (SqV K t) (SqV K u) a b) [z,p,r,i,j] z
  (fun k h=>IsZip h z p r .none/\IsPair h p (.ref i) (.ref j)/\(∃ c d,IsPair h r c d)/\ItK t h i a k/\ItK u h j b k) where
 mem:=by simp
 obj:=fun k h ⟨h1,h2,⟨c,d,h3⟩,h4,h5⟩ q hq=>by
  simp only [mem_cons,not_mem_nil,or_false] at hq;rcases hq with rfl | rfl | rfl | rfl | rfl
  ·exact⟨_,h1,fun v e=>by cases (show Data.fields _=Data.cell v from e)⟩
  ·exact⟨_,h2,fun v e=>by cases (show Data.seq _ _=Data.cell v from e)⟩
  ·exact⟨_,h3,fun v e=>by cases (show Data.seq _ _=Data.cell v from e)⟩
  ·exact h4.here
  ·exact h5.here
 keep:=fun k h h' ⟨h1,h2,⟨c,d,h3⟩,h4,h5⟩ f=>⟨f z (by simp) _ h1,f p (by simp) _ h2,⟨c,d,f r (by simp) _ h3⟩,h4.at fun o e=>f i (by simp) o e,h5.at fun o e=>f j (by simp) o e⟩
 item:=by
  intro X hP hw hK hc k ze s σ H E I hf st hg;subst hP hw hK;obtain⟨xs,ys,x,y,q1,q2,ex,ey⟩:=hg;obtain⟨its,rv,sq,inj⟩:=I.seqK q1;obtain⟨its2,rv2,sq2,inj2⟩:=I.seqK q2;obtain⟨v1,e1,r1⟩:=rv.get ex;obtain⟨v2,e2,r2⟩:=rv2.get ey;obtain⟨h1,h2,⟨c,d,h3⟩,h4,h5⟩:=st;have ty:s.TypeIs (.ref z) "zip":=⟨_,h1,rfl⟩;unfold pyNext;refine wpAny_bind (wpAny_attempt (wpAny_callSpecial?_slot (name:=Str.ofString "__next__") ty F.slot_zip_next (wpAny_call_entry F.slot_zip_next ty F.entry_zip_next
   (zjH D h1 h2 h3 h4 h5 sq sq2 (by simpa using e1) (by simpa using e2) fun g a1 a2 a3 a4 a5 kk=>wpAny_pure ⟨_,rfl,?_⟩) (F.args_zip_next_1 _))))
  refine wpAny_letOwnedTupleGo_zip (s:={ s with heap:=g }) a1 fun g' z' b'=>?_;have lt:∀ {q o},s.heap.get? q=some o->s.heap.objs.size≠q:=fun e=>ne_of_gt (lt_size e);have b'':Heap.SameBut z g g':=b';have pT:IsPair g' s.heap.objs.size v1 v2:=b''.extBut _ _ (lt h1) a5;have hn:=I.hok.fresh (le_refl s.heap.objs.size);have kk':∀ q o,q∉[z,r,i,j]->s.heap.get? q=some o->g'.get? q=some o:=fun q o hq e=>by
   simp only [mem_cons,not_mem_nil,or_false,not_or] at hq;exact b''.extBut q o hq.1 (kk q o hq.1 hq.2.1 hq.2.2.1 hq.2.2.2 e)
  have I1:Inv X ze σ (upd H s.heap.objs.size (.tup [x,y])) { s with heap:=g' }:=I.turnLaid (t':=s.toks) (ch:=[z,r,i,j]) kk' (fun q hq=>hf q (by
   simp only [mem_cons,not_mem_nil,or_false] at hq ⊢;rcases hq with h | h | h | h
   ·exact .inl h
   ·exact .inr (.inr (.inl h))
   ·exact .inr (.inr (.inr (.inl h)))
   ·exact .inr (.inr (.inr (.inr h))))) (le_refl _) ⟨⟨by show 2<=sizeLine; decide,_,pT,rfl⟩,[v1,v2],.cons r1 (.cons r2 .nil),⟨_,pT,rfl,_,rfl⟩⟩
  have fresh:∀ q,q∈[z,p,r,i,j]->q≠s.heap.objs.size:=fun q hq w=>by
   simp only [mem_cons,not_mem_nil,or_false] at hq;obtain⟨o1,w1,_⟩:=h4.here;obtain⟨o2,w2,_⟩:=h5.here;rcases hq with h | h | h | h | h
   ·exact lt h1 (w.symm.trans h)
   ·exact lt h2 (w.symm.trans h)
   ·exact lt h3 (w.symm.trans h)
   ·exact lt w1 (w.symm.trans h)
   ·exact lt w2 (w.symm.trans h)
  refine⟨.ref s.heap.objs.size,_,I1,rfl,⟨_,x,y,hn,rfl,rfl,fun zs hz=>by rw [inj zs hz]; exact ex,fun zs hz=>by rw [inj2 zs hz]; exact ey⟩,⟨z',kk' p _ (by simp [D.pz,D.pr,D.pi,D.pj]) h2,⟨_,_,b''.extBut r _ D.rz a2⟩,a3.at fun o e=>b''.extBut i o D.iz e,a4.at fun o e=>b''.extBut j o D.jz e⟩,fun q hq=>?_⟩;rw [zG (fresh q hq)];exact(hf q hq).1
 done:=by
  intro X hP hw hK hc k ze s σ H E I hf st hg;subst hP hw hK;obtain⟨xs,ys,q1,q2,hl⟩:=hg;obtain⟨its,rv,sq,inj⟩:=I.seqK q1;obtain⟨its2,rv2,sq2,inj2⟩:=I.seqK q2;obtain⟨h1,h2,⟨c,d,h3⟩,h4,h5⟩:=st;have l1:=rv.length;have l2:=rv2.length;have ty:s.TypeIs (.ref z) "zip":=⟨_,h1,rfl⟩;unfold pyNext;refine wpAny_bind (wpAny_attempt (wpAny_callSpecial?_slot (name:=Str.ofString "__next__") ty F.slot_zip_next (wpAny_call_entry F.slot_zip_next ty F.entry_zip_next
   (zjG (I.ok.hd hc) D h1 h2 h3 h4 h5 sq sq2 (hl.elim (fun h=>.inl (by simp; omega)) fun h=>.inr (by simp; omega)) fun g e kk he=>?_) (F.args_zip_next_1 _))))
  obtain⟨o,ho,hc'⟩:=he;refine wpAny_bind (wpAny_isInstance (T:="StopIteration") (b:=true) ⟨o,ho,hc'⟩ isSubtype_stop (wpAny_pure ⟨rfl,?_⟩));refine I.turnedN (t':=s.toks) (ch:=[z,r,i,j]) (fun q o hq e=>?_) fun q hq=>hf q (by
   simp only [mem_cons,not_mem_nil,or_false] at hq ⊢;rcases hq with h | h | h | h
   ·exact .inl h
   ·exact .inr (.inr (.inl h))
   ·exact .inr (.inr (.inr (.inl h)))
   ·exact .inr (.inr (.inr (.inr h))))
  simp only [mem_cons,not_mem_nil,or_false,not_or] at hq;exact kk q o hq.1 hq.2.1 hq.2.2.1 hq.2.2.2 e
 self:=fun _ _ _ _ _ st h=>wpAny_pyIter_zip st.1 h
theorem nne{a b:Nat}(h:a<b\/b<a):(show Addr from a)≠(show Addr from b):=fun e=>by
 have e':a=b:=e;omega
theorem zpX(N a b:Nat)(ha:a<N)(hb:b<N):ZAp (N+4) (N+2) (N+3) N (N+1) a b:=by
 constructor <;> exact nne (by omega)
theorem znr(N q:Nat)(hq:q=N+4\/q=N+2\/q=N+3\/q=N\/q=N+1):N<=q:=by omega
section
variable {X:Cx} {elts:List Expr} {n:Nat} {tpos:Pos}
theorem zlz:bootBuiltins "zip" = some (.type "zip"):=by decide +kernel
def zpH(K:W.Frag)(ta:TA):TI:=fun σ H R=>ta σ H fun vs H1=>∃ a b t u,vs=[.ref a,.ref b]/\(∃ xs,SqV K t H1 a xs)/\(∃ ys,SqV K u H1 b ys)/\R (Itz (SqV K t) (SqV K u) a b) H1
theorem zey{e1 e2:Expr}{ta:TA}{p pos:Pos}(hg:Gl X "zip")(hm:X.mg "zip" = none)(ha:PA X [e1,e2] ta)(hs:starEach [e1,e2] X.env=[(false,eval e1 X.env),(false,eval e2 X.env)]:=by rfl)(hs2:starEach [e2] X.env=[(false,eval e2 X.env)]:=by rfl):
  PI X (.Tuple elts n tpos) (.Call (.Name "zip" p) [e1,e2] [] pos) (zpH X.K ta):=by
 intro ze s σ H R I h;refine Call_ (zfH I hg hm zlz (PyProof.Rows.callWith_type1 (thn (ha pos ze s σ H _ I h) fun us s1 ⟨vs,H1,I1,r1,q1⟩=>?_) (by rw [hs,hs2]) (by rw [hs2]; rfl)));obtain⟨a,b,t,u,e,⟨xs,q1⟩,⟨ys,q2⟩,q⟩:=q1;subst e;cases r1 with
 | cons r rr =>
  cases rr with
  | cons r' rr =>
   cases rr;cases r;cases r';obtain⟨its,rv,sq,_⟩:=I1.seqK q1;obtain⟨its2,rv2,sq2,_⟩:=I1.seqK q2;refine zke sq sq2 fun g h1 h2 h3 h4 h5 k=>?_;refine wpAny_pyIter_zip (s:={ s1 with heap:=g }) h1 ?_
   have I2:Inv X ze σ H1 { s1 with heap:=g }:=I1.kept (t':=s1.toks) k;obtain⟨oa,fa⟩:=sq.here;obtain⟨ob,fb⟩:=sq2.here;have la:=lt_size fa;have lb:=lt_size fb;have D:ZAp (s1.heap.objs.size+4) (s1.heap.objs.size+2) (s1.heap.objs.size+3) s1.heap.objs.size (s1.heap.objs.size+1) a b:=zpX _ _ _ la lb;refine⟨_,[s1.heap.objs.size+4,s1.heap.objs.size+2,s1.heap.objs.size+3,s1.heap.objs.size,s1.heap.objs.size+1],_,_,H1,rfl,I2,zlH t u _ _ _ _ _ a b D,⟨h1,h2,⟨_,_,h3⟩,h4,h5⟩,fun q hq=>?_,q⟩;have hl:s1.heap.objs.size<=q:=by
    simp only [mem_cons,not_mem_nil,or_false] at hq;exact znr _ _ hq
   exact I1.fpOk hl (I1.hok.fresh hl)
end
def zgy:List PyData->List PyData->List PyData
 | d :: ds,e :: es=>.tuple [d,e] :: zgy ds es
 | _,_=>[]
theorem zgx:∀ (ds es:List PyData) (k:Nat) (x:PyData),(zgy ds es)[k]? = some x->∃ d e,ds[k]? = some d/\es[k]? = some e/\x=.tuple [d,e]
 | [],_,_,_,h=>by simp [zgy] at h
 | _ :: _,[],_,_,h=>by simp [zgy] at h
 | d :: ds,e :: es,0,x,h=>by
  have e':PyData.tuple [d,e]=x:=by simpa [zgy] using h
  exact⟨d,e,rfl,rfl,e'.symm⟩
 | d :: ds,e :: es,k+1,x,h=>by
  obtain⟨d',e',h1,h2,h3⟩:=zgx ds es k x (by simpa [zgy] using h);exact⟨d',e',by simpa using h1,by simpa using h2,h3⟩
theorem ziG:∀ (ds es:List PyData),(zgy ds es).length=min ds.length es.length
 | [],_=>by simp [zgy]
 | _ :: _,[]=>by simp [zgy]
 | d :: ds,e :: es=>by simp [zgy,ziG ds es]; try omega
theorem zc0{α β:Type}(f:α->PyData)(g:β->PyData):∀ (xs:List α) (ys:List β),zgy (xs.map f) (ys.map g)=(xs.zip ys).map fun q=>.tuple [f q.1,g q.2]
 | [],_=>by simp [zgy]
 | _ :: _,[]=>by simp [zgy]
 | x :: xs,y :: ys=>by simp [zgy,zc0 f g xs ys]
def zd5(a:DA):DI:=fun δ S R=>a δ S fun xs S1=>arg2 xs fun x y=>∃ ds,zjA x=some ds/\∃ es,zjA y=some es/\R (zgy ds es) S1
theorem ziT{K:W.Frag}{h o:List Addr}{H:Hp}{x:XV}{v:V}{ds:List PyData}(e:zjA x=some ds)(q:HasX h o H x v):∃ t a ws,v=.ref a/\HasL (vx h o H) ds ws/\∀ {o2 H2},ExH h o H o2 H2->SqV K t H2 a ws:=by
 unfold zjA at e;split at e
 ·cases e;obtain⟨a,ws,rfl,ea,l⟩:=zaf.mp (show Has (vx h o H) (.list ds) v from q);exact⟨false,a,ws,rfl,l,fun e2=>(SqL.of (zad _ _ (e2.vx _ _ ea)):SqL K _ a ws)⟩
 ·cases e;obtain⟨a,ws,rfl,ea,l⟩:=zah.mp (show Has (vx h o H) (.tuple ds) v from q);exact⟨true,a,ws,rfl,l,fun e2=>(SqT.of (zad _ _ (e2.vx _ _ ea)):SqT K _ a ws)⟩
 ·cases e
theorem zeH{K:W.Frag}{ta:TA}{da:DA}(ha:RA ta da):RI (zpH K ta) (zd5 da):=fun h o H δ σ S R Q he hs q c =>
 ha h o H δ σ S _ _ he hs q fun o1 H1 S1 xs vs e1 s1 x1 d0=>by
  obtain⟨x,y,rfl,ds,hd,es,hes,d1⟩:=zgq d0;obtain⟨v,u,rfl,hv,hu⟩:=hxs2 x1;obtain⟨t,a,ws,rfl,l,k1⟩:=ziT (K:=K) hd hv;obtain⟨t',b,zs,rfl,l',k2⟩:=ziT (K:=K) hes hu;have hl:=l.length;have hl':=l'.length;refine⟨a,b,t,t',rfl,⟨ws,k1 ExH.refl⟩,⟨zs,k2 ExH.refl⟩,c o1 H1 S1 _ _ e1 s1 ⟨fun i o2 H2 e2 hi=>⟨ws,zs,k1 e2,k2 e2,by rw [ziG] at hi; omega⟩,fun i d o2 H2 e2 hi=>?_,fun i d o2 H2 x H3 S2 e2 s2 hi y=>?_⟩ d1⟩
  ·obtain⟨d',e',h1,h2,rfl⟩:=zgx ds es i d hi;obtain⟨u1,eu1,_⟩:=l.get h1;obtain⟨u2,eu2,_⟩:=l'.get h2;exact⟨ws,zs,u1,u2,k1 e2,k2 e2,eu1,eu2⟩
  ·obtain⟨d',e',h1,h2,rfl⟩:=zgx ds es i d hi;obtain⟨u1,eu1,hu1⟩:=l.get h1;obtain⟨u2,eu2,hu2⟩:=l'.get h2;obtain⟨p,v,u,hp,rfl,rfl,y1,y2⟩:=y;have f1:=y1 ws (k1 e2);have f2:=y2 zs (k2 e2);rw [eu1] at f1;rw [eu2] at f2;cases f1;cases f2;exact⟨Same.laid hp,zah.mpr ⟨p,_,rfl,s2.laid hp,zt.mpr ⟨_,_,rfl,(hu1.mono e2.vx).mono (zdh (Same.laid hp)),zt.mpr ⟨_,_,rfl,(hu2.mono e2.vx).mono (zdh (Same.laid hp)),zF.mpr rfl⟩⟩⟩⟩
end
section
open Sem (wp)
theorem znA:RE (zrn zmL) (dC (.dict [])):=fun h o H δ σ S R Q he hs q c p hp=>⟨p,[],rfl,zQ,fun ob=>by
 have e:upd (upd H p (.dK [])) p (.frz ob (.dK []))=upd H p (.frz ob (.dK [])):=znS;rw [e];refine c o _ S (.d (.dict [])) _ (Ex.of_same (Same.laid hp)) (hs.same (Same.laid hp)) ?_ q;show Has _ _ _;simp only [Has];exact⟨p,[],rfl,.inl ⟨ob,[],hs.laid hp,rfl,rfl⟩,zl8.mpr rfl⟩⟩
section
variable {S:Sto} {P:Sto->List PyData->Prop} {a b c d:List PyData} {x:List PyData}
theorem zgs{S0:Sto}:(∃ T ds,S0++[x]=T++[ds]/\P T ds)↔P S0 x:=by
 constructor
 ·rintro⟨T,ds,e,q⟩;obtain⟨rfl,e2⟩:=List.append_inj' e rfl;cases e2;exact q
 ·exact fun q=>⟨S0,x,rfl,q⟩
theorem zij:(∃ T ds,[a]=T++[ds]/\P T ds)↔P [] a:=zgs (S0:=[])
theorem ziS:(∃ T ds,[a,b,c]=T++[ds]/\P T ds)↔P [a,b] c:=zgs (S0:=[a,b])
end
section
variable {α:Type} {n:Nat} {g:DG} {tt:DT} {te:DE} {fin:Sto->Prop} {S0:Sto} {caps:XE}
theorem zmZ{h:α->PyData}{f:α->PyData}(P:XE->Prop)(hn:S0.length=n)(l:List α)(τ:XE)(hP:P τ)(hl:l.length<=1000)
  (el:∀ x∈l,∀ τ acc (R:XE->RX),P τ->(∀ τ',P τ'->R τ' (.d (f x)) (S0++[acc]))->g (.d (h x)) τ (S0++[acc]) fun τ1 S1=>te τ1 S1 (R τ1)) (hf:fin (S0++[l.map f])):zgz n g zau te fin (l.map h) τ (S0++[[]]):=by
 have go:∀ (l:List α) (acc:List PyData) (τ:XE),P τ->acc.length+l.length<=1000->(∀ x∈l,∀ τ acc (R:XE->RX),P τ->(∀ τ',P τ'->R τ' (.d (f x)) (S0++[acc]))->g (.d (h x)) τ (S0++[acc]) fun τ1 S1=>te τ1 S1 (R τ1)) ->
   fin (S0++[acc++l.map f])->zgz n g zau te fin (l.map h) τ (S0++[acc]):=by
  intro l;induction l with
  | nil=>intro acc τ _ _ _ h; rw [map_nil,append_nil] at h; exact h
  | cons x l ih =>
   intro acc τ hP hl el hh;show g (.d (h x)) τ (S0++[acc]) fun τ1 S1=>zau τ1 S1 fun b S2=>if b=true then te τ1 S2 fun x S3=>asD x fun e=>∃ acc,S3[n]? = some acc/\acc.length<1000/\zgz n g zau te fin (l.map h) τ1 (S3.set n (acc++[e])) else zgz n g zau te fin (l.map h) τ1 S2
   simp only [zau,↓reduceIte];rw [length_cons] at hl;refine el x mem_cons_self τ acc (fun τ1 x S3=>asD x fun e=>∃ acc,S3[n]? = some acc/\acc.length<1000/\zgz n g zau te fin (l.map h) τ1 (S3.set n (acc++[e]))) hP fun τ' hP'=>?_;refine⟨acc,by rw [<- hn,getElem?_concat_length],by omega,?_⟩;rw [ziV hn];refine ih (acc++[f x]) τ' hP' (by rw [length_append,length_singleton]; omega) (fun e m=>el e (mem_cons_of_mem _ m)) ?_;rw [append_assoc];exact hh
 exact go l [] τ hP (by simpa using hl) el (by simpa using hf)
theorem cmp1{h:α->PyData}(f:α->PyData)(hn:S0.length=n)(l:List α){u:Option XV}(hl:l.length<=1000)
  (el:∀ x∈l,∀ (u:Option XV) acc (R:XE->RX),(∀ u',R (u' :: caps) (.d (f x)) (S0++[acc]))->g (.d (h x)) (u :: caps) (S0++[acc]) fun τ1 S1=>te τ1 S1 (R τ1)) (hf:fin (S0++[l.map f])):zgz n g zau te fin (l.map h) (u :: caps) (S0++[[]]) :=
 zmZ (fun τ=>∃ u,τ=u :: caps) hn l _ ⟨u,rfl⟩ hl (fun x m τ acc R ⟨u,e⟩ k=>by subst e; exact el x m u acc R fun u'=>k _ ⟨u',rfl⟩) hf
theorem cmp2{h:α->PyData}(f:α->PyData)(hn:S0.length=n)(l:List α){u v:Option XV}(hl:l.length<=1000)
  (el:∀ x∈l,∀ (u v:Option XV) acc (R:XE->RX),(∀ u' v',R (u' :: v' :: caps) (.d (f x)) (S0++[acc]))->g (.d (h x)) (u :: v :: caps) (S0++[acc]) fun τ1 S1=>te τ1 S1 (R τ1)) (hf:fin (S0++[l.map f])):zgz n g zau te fin (l.map h) (u :: v :: caps) (S0++[[]]) :=
 zmZ (fun τ=>∃ u v,τ=u :: v :: caps) hn l _ ⟨u,v,rfl⟩ hl (fun x m τ acc R ⟨u,v,e⟩ k=>by subst e; exact el x m u v acc R fun u' v'=>k _ ⟨u',v',rfl⟩) hf
end
end
section
section
variable {X:Cx} {e ek:Expr} {te tk:TE} {pos p2:Pos}
theorem Vals.rev{xs:List V}{us:List Value}(r:Vals xs us):Vals xs.reverse us.reverse:=by
 induction r with
 | nil=>exact .nil
 | cons h _ ih =>
  rw [reverse_cons,reverse_cons];exact ih.append (.cons h .nil)
end
end
section
@[irreducible] def QSs (X:Cx) (st:List Stmt) (t:TS):Prop:=PSs X st t
theorem QSs.out{X:Cx}{st:List Stmt}{t:TS}(h:QSs X st t):PSs X st t:=by unfold QSs at h; exact h
theorem QSs.mk{X:Cx}{st:List Stmt}{t:TS}(h:PSs X st t):QSs X st t:=by unfold QSs; exact h
@[irreducible] def QA (X:Cx) (es:List Expr) (t:TA):Prop:=PA X es t
theorem QA.out{X:Cx}{es:List Expr}{t:TA}(h:QA X es t):PA X es t:=by unfold QA at h; exact h
theorem QA.mk{X:Cx}{es:List Expr}{t:TA}(h:PA X es t):QA X es t:=by unfold QA; exact h
theorem zJ{X:Cx}:QA X [] zns:=QA.mk zc
theorem zV{X:Cx}{e:Expr}{es:List Expr}{te:TE}{t:TA}(ha:PE X e te)(hr:QA X es t)(hs:starEach (e :: es) X.env=(false,eval e X.env) :: starEach es X.env:=by rfl):QA X (e :: es) (zdt te t):=QA.mk (za ha hr.out hs)
theorem zgv{X:Cx}{es:List Expr}{t:TA}{pos:Pos}(h:QA X es t):PE X (.List es pos) (znM t):=zbf h.out
@[irreducible] def QS (X:Cx) (st:Stmt) (t:TS):Prop:=PS X st t
theorem QS.out{X:Cx}{st:Stmt}{t:TS}(h:QS X st t):PS X st t:=by unfold QS at h; exact h
theorem QS.mk{X:Cx}{st:Stmt}{t:TS}(h:PS X st t):QS X st t:=by unfold QS; exact h
theorem zdJ{X:Cx}{st:Stmt}{rest:List Stmt}{t u:TS}(h1:QS X st t)(h2:QSs X rest u):QSs X (st :: rest) (znf t u):=QSs.mk (zh h1.out h2.out)
end
end L2
namespace HT
open PySem PyProof.Rows
section
variable {prog:Program} {w:World} {A:Around} {E:Value->Shared->Prop} {s:Shared}
theorem tup_whole{t sl:Addr}{items:Array Value}{vl vu:Value}{lo hi:Option Int}{Q:Value->Shared->Prop}(ht:IsTup s.heap t items)(hs:s.heap.IsSliceOf sl vl vu .none)(pl:IsPart vl lo)(pu:IsPart vu hi)
  (hw:sIx items.size 0 lo=0/\sIx items.size items.size hi=items.size) (h:Q (.ref t) s):wpAny (model prog w) A (getItem (.ref t) (.ref sl)) Q E s:=by
 obtain⟨os,hos,hcs,hds⟩:=id hs;have hTs:s.TypeIs (.ref sl) "slice":=⟨os,hos,hcs⟩;unfold getItem
 try with_reducible refine wpAny_holding ?_
 first | refine wpAny_bind (wpAny_pure ?_) | skip
 refine wpAny_bind (wpAny_sequenceKey ht.typeIs dz ?_);refine wpAny_bind (wpAny_callSpecial?_slot (name:=Str.ofString "__getitem__") ht.typeIs PyProof.Rows.slot_tuple_getitem
  (wpAny_call_entry PyProof.Rows.slot_tuple_getitem ht.typeIs entry_tuple_getitem ?_ (args_tuple_getitem _ _)))
 show wpAny _ _ (Builtin.Tuple.tupleItemsOf (.ref t) >>= _) _ _ s;refine wpAny_bind (tupleItemsOf_ ht (wpAny_bind (wpAny_typeOf hTs ?_)));rw [if_pos dz];refine wpAny_bind (zcz hs pl pu ?_);rw [hw.1,hw.2];show wpAny _ _ (if (((0:Nat):Int) == 0 && (1:Int) == 1 && (items.size - 0) == items.size)=true then _ else _) _ _ s;rw [if_pos (by simp)];unfold Builtin.Tuple.tupleIsExact;refine wpAny_bind (wpAny_bind (wpAny_typeOf ht.typeIs (wpAny_pure ?_)));rw [if_pos dz];exact wpAny_bind (wpAny_rule (wpAny_pure ⟨_,rfl,wpAny_pure h⟩))
theorem zlN(xs:Array Value):((List.range xs.size).filterMap fun(k:Nat)=>xs[((xs.size:Int) - 1+(k:Int)*(-1)).toNat]?).toArray=xs.toList.reverse.toArray:=by
 congr 1;have e:∀ (l:List Nat),(∀ k∈l,k<xs.size)->l.filterMap (fun(k:Nat)=>xs[((xs.size:Int) - 1+(k:Int)*(-1)).toNat]?)=l.map fun k=>xs.toList.getD (xs.size - 1 - k) .none:=by
  intro l;induction l with
  | nil=>intro _; rfl
  | cons k l ih =>
   intro h;have hk:=h k mem_cons_self;have e1:((xs.size:Int) - 1+(k:Int)*(-1)).toNat=xs.size - 1 - k:=by omega
   have e2:xs[xs.size - 1 - k]? = some (xs.toList.getD (xs.size - 1 - k) .none):=by
    rw [getD_eq_getElem?_getD,Array.getElem?_toList,Array.getElem?_eq_getElem (by omega)];rfl
   rw [filterMap_cons,e1,e2,map_cons,ih fun y m=>h y (mem_cons_of_mem _ m)]
 rw [e _ fun k m=>mem_range.mp m];refine List.ext_getElem (by simp) fun i h1 h2=>?_;simp only [List.getElem_map,List.getElem_range,List.getElem_reverse,length_toList];rw [getD_eq_getElem?_getD,getElem?_eq_getElem (by simp at h1 ⊢; omega)];rfl
theorem tup_rev{t sl:Addr}{items:Array Value}{tk:Tok}{Q:Value->Shared->Prop}(ht:IsTup s.heap t items)(hs:s.heap.IsSliceOf sl .none .none (.int (-1) tk))(hsz:items.size<=sizeLine)
  (h:Q (.ref s.heap.objs.size) { s with heap:=s.heap.push { cls:=.type "tuple",data:=.seq items.toList.reverse.toArray } }):wpAny (model prog w) A (getItem (.ref t) (.ref sl)) Q E s:=by
 have fits:sizeOk (.seq items.toList.reverse.toArray):=by
  show items.toList.reverse.toArray.size<=sizeLine;rw [size_toArray,List.length_reverse,length_toList];exact hsz
 obtain⟨os,hos,hcs,hds⟩:=id hs;have hTs:s.TypeIs (.ref sl) "slice":=⟨os,hos,hcs⟩;unfold getItem
 try with_reducible refine wpAny_holding ?_
 first | refine wpAny_bind (wpAny_pure ?_) | skip
 refine wpAny_bind (wpAny_sequenceKey ht.typeIs dz ?_);refine wpAny_bind (wpAny_callSpecial?_slot (name:=Str.ofString "__getitem__") ht.typeIs PyProof.Rows.slot_tuple_getitem
  (wpAny_call_entry PyProof.Rows.slot_tuple_getitem ht.typeIs entry_tuple_getitem ?_ (args_tuple_getitem _ _)))
 show wpAny _ _ (Builtin.Tuple.tupleItemsOf (.ref t) >>= _) _ _ s;refine wpAny_bind (tupleItemsOf_ ht (wpAny_bind (wpAny_typeOf hTs ?_)));rw [if_pos dz];unfold Builtin.Slice.sliceApplied Builtin.Slice.sliceFields;refine wpAny_bind (wpAny_bind (wpAny_bind (wpAny_field hos hds (x:=.none) rfl (wpAny_bind (wpAny_field hos hds (x:=.none) rfl (wpAny_bind (wpAny_field hos hds (x:=.int (-1) tk) rfl (wpAny_pure ?_))))))));refine wpAny_bind (slicePart_int ?_);show wpAny _ _ (if ((-1:Int) == 0)=true then _ else _) _ _ s;rw [if_neg dz];refine wpAny_bind (slicePart_none (wpAny_bind (slicePart_none (wpAny_bind (wpAny_pure ?_)))));have e1:Builtin.Slice.sliceAdjust none none (-1) (items.size:Int)=((items.size:Int) - 1,-1):=rfl;have e2:Builtin.Slice.slicePlaces ((items.size:Int) - 1) (-1) (-1)=items.size:=by
  unfold Builtin.Slice.slicePlaces;rw [if_neg dz];split
  ·rw [show (-(-1):Int)=1 by decide,Int.ediv_one];omega
  ·have:items.size=0:=by omega
   rw [this];rfl
 show wpAny _ _ (match Builtin.Slice.sliceAdjust none none (-1) (items.size:Int) with | (lo,hi)=>pure (lo,(-1:Int),Builtin.Slice.slicePlaces lo hi (-1))) _ _ s;rw [e1];show wpAny _ _ (pure ((items.size:Int) - 1,(-1:Int),Builtin.Slice.slicePlaces ((items.size:Int) - 1) (-1) (-1))) _ _ s;rw [e2];refine wpAny_pure ?_;show wpAny _ _ (if (((items.size:Int) - 1 == 0 && (-1:Int) == 1 && items.size == items.size)=true) then _ else _) _ _ s;rw [if_neg (by simp),zlN]
 first
  | exact wpAny_bind (m:=Builtin.Tuple.tupleExact _) (wpAny_newObj_type (wpAny_pure ⟨_,rfl,wpAny_pure h⟩) fits)
  | exact wpAny_bind (m:=Builtin.Tuple.tupleExact _) (wpAny_newObj_type (wpAny_bind (wpAny_pure (wpAny_pure ⟨_,rfl,wpAny_pure h⟩))) fits)
  | exact wpAny_bind (wpAny_bind (m:=Builtin.Tuple.tupleExact _) (wpAny_newObj_type (wpAny_pure (wpAny_pure ⟨_,rfl,wpAny_pure h⟩)) fits))
  | exact wpAny_bind (wpAny_bind (m:=Builtin.Tuple.tupleExact _) (wpAny_newObj_type (wpAny_pure ⟨_,rfl,wpAny_pure h⟩) fits))
end
end HT
namespace L2
open PySem PySem.Spec PyProof.Rows
section
section
variable {X:Cx} {e ek:Expr} {te tk:TE} {pos p2:Pos}
def zoU(K:W.Frag)(te tk:TE):TE:=fun σ H Q=>te σ H fun x H1=>tk σ H1 fun y H2=>y=.int (-1)/\∃ a xs,x=.ref a/\SqT K H2 a xs/\∀ p,H2 p=none->Q (.ref p) (upd H2 p (.tup xs.reverse))
theorem zm8(he:PE X e te)(hk:PE X ek tk):PE X (.Subscript e (.Slice none none (some ek) p2) pos) (zoU X.K te tk):=by
 intro ze s σ H Q I h;refine Subscript_ (thn (he ze s σ H _ I h) fun v s1 ⟨x,H1,I1,r1,q1⟩=>?_);refine wpAny_Slice ?_;rw [evalPart_none];refine wpAny_pure (wpAny_pure ?_);rw [evalPart_some];refine thn (hk ze s1 σ H1 _ I1 q1) fun vk s3 ⟨y,H3,I3,ry,q3⟩=>?_;obtain⟨rfl,a,xs,rfl,hx,q⟩:=q3;obtain⟨t,rfl⟩:=ry;cases r1;have I4:Inv X ze σ H3 { s3 with heap:=s3.heap.push { cls:=.type "slice",data:=.fields #[.none,.none,.int (-1) t] } }:=I3.kept (t':=s3.toks) fun b ob q=>get?_push_of_some _ q;obtain⟨its,r,ht,hz⟩:=I4.tuple hx;have hlen:=r.length;show wpAny (model X.prog X.w) X.A (subscriptTail e (.Slice none none (some ek) p2) (.ref a) (.ref s3.heap.objs.size)) (EP X ze σ Q) X.xe { s3 with heap:=s3.heap.push { cls:=.type "slice",data:=.fields #[.none,.none,.int (-1) t] } };refine tail_any (ops:=[.ref a,.ref s3.heap.objs.size]) ht.typeIs PyProof.Rows.slot_tuple_getitem.lookup ?_ (by with_unfolding_all rfl);refine HT.tup_rev ht (Heap.IsSliceOf.new ..) (by rw [size_toArray]; omega) ?_;refine⟨.ref _,_,I4.laid (t':=s3.toks) (o:=.tup xs.reverse) (fun b ob q=>get?_push_of_some _ q) (le_refl _) ?_,rfl,q _ (I4.hok.fresh (le_refl _))⟩;exact⟨⟨by rw [List.length_reverse]; exact hz,_,get?_push_size _ rfl,rfl⟩,_,r.rev,IsTup.new _ _⟩
def zrA(K:W.Frag):V->Option Int->Option Int->Hp->VK->Prop:=fun x lo hi H Q=>∃ a xs,x=.ref a/\SqT K H a xs /\
 ((HT.sIx xs.length 0 lo=0/\HT.sIx xs.length xs.length hi=xs.length)->Q (.ref a) H)/\∀ p,H p=none->Q (.ref p) (upd H p (.tup (ziD xs lo hi)))
theorem zn7:SlR X (zrA X.K):=by
 intro ze s σ H x v vl vu lo hi sl Q I rx hs pl pu h;obtain⟨a,xs,rfl,hx,hw,q⟩:=h;by_cases z:HT.sIx xs.length 0 lo=0/\HT.sIx xs.length xs.length hi=xs.length
 ·cases rx;obtain⟨its,r,ht,hz⟩:=I.tuple hx;have hlen:its.toArray.size=xs.length:=by rw [size_toArray]; exact r.length.symm
  refine⟨"tuple",_,PyProof.Rows.slot_tuple_getitem.lookup,ht.typeIs,?_⟩;exact HT.tup_whole ht hs pl pu (by rw [hlen]; exact z) ⟨.ref a,H,I,rfl,hw z⟩
 ·exact zml ze s σ H _ v vl vu lo hi sl Q I rx hs pl pu ⟨a,xs,rfl,hx,z,q⟩
end
def zqA:D3:=fun x i j S R=>asT x fun ds=>R (.d (.tuple (zcZ ds i j))) S
theorem ziX{α:Type}(xs:List α)(lo hi:Option Int)(h:HT.sIx xs.length 0 lo=0/\HT.sIx xs.length xs.length hi=xs.length):zcZ xs lo hi=xs:=by
 unfold zcZ;rw [h.1,h.2];simp
theorem znP{K:W.Frag}:RL (zrA K) zqA:=fun h o H S x v a b R Q hs hx q c=>by
 replace q:=zd2 q;obtain⟨ds,rfl,q⟩:=q;obtain⟨p,vs,rfl,ea,l⟩:=zcw hx;refine⟨p,vs,rfl,.of ea,fun z=>?_,zh4 hs (l.cut a b) c q⟩;rw [l.length] at z;rw [ziX ds a b z] at q;exact c o H S _ _ Ex.refl hs hx q
def zlD(e k:DE):DE:=fun δ S R=>e δ S fun x S1=>k δ S1 fun y S2=>y=.d (.int (-1))/\asT x fun ds=>R (.d (.tuple ds.reverse)) S2
theorem zn4{K:W.Frag}{te tk:TE}{de dk:DE}(he':RE te de)(hk':RE tk dk):RE (zoU K te tk) (zlD de dk):=fun h o H δ σ S R Q he hs q c =>
 he' h o H δ σ S _ _ he hs q fun o1 H1 S1 x v e1 s1 x1 d1=>hk' h o1 H1 δ σ S1 _ _ (he.mono e1) s1 d1 fun o2 H2 S2 y u e2 s2 y2 d2=>by
  obtain⟨rfl,d2⟩:=d2;obtain⟨ds,rfl,d3⟩:=zd2 d2;obtain⟨p,vs,rfl,ea,l⟩:=zcw (x1.mono e2);exact⟨zaC y2,p,vs,rfl,.of ea,zh4 s2 l.rev (Cn.pre c (e1.trans e2)) d3⟩
end
section
@[irreducible] def QE (X:Cx) (e:Expr) (t:TE):Prop:=PE X e t
theorem QE.out{X:Cx}{e:Expr}{t:TE}(h:QE X e t):PE X e t:=by unfold QE at h; exact h
theorem QE.mk{X:Cx}{e:Expr}{t:TE}(h:PE X e t):QE X e t:=by unfold QE; exact h
theorem zbU{X:Cx}{e:Expr}{es:List Expr}{te:TE}{t:TA}(ha:QE X e te)(hr:QA X es t)(hs:starEach (e :: es) X.env=(false,eval e X.env) :: starEach es X.env:=by rfl):QA X (e :: es) (zdt te t):=QA.mk (za ha.out hr.out hs)
theorem zaa{X:Cx}{es:List Expr}{t:TA}{k:Nat}{pos:Pos}(h:QA X es t):QE X (.Tuple es k pos) (zq0 t):=QE.mk (zaS h.out)
theorem zg9{X:Cx}{es:List Expr}{t:TA}{pos:Pos}(h:QA X es t):QE X (.List es pos) (znM t):=QE.mk (zbf h.out)
section
variable {X:Cx} {es l l':List Expr} {te:TE} {t:TA} {k:Nat} {p:Pos} {c:Const} {x:Str} {ks:List (Option Expr)}
theorem zaE(ha:QE X (.Tuple l k p) te)(hr:QA X es t):QA X (.Tuple l k p :: es) (zdt te t):=QA.mk (za ha.out hr.out rfl)
theorem zqU(ha:QE X (.List l p) te)(hr:QA X es t):QA X (.List l p :: es) (zdt te t):=QA.mk (za ha.out hr.out rfl)
theorem zao(ha:QE X (.Constant c k p) te)(hr:QA X es t):QA X (.Constant c k p :: es) (zdt te t):=QA.mk (za ha.out hr.out rfl)
theorem zqO(ha:QE X (.Dict [] [] p) te)(hr:QA X es t):QA X (.Dict [] [] p :: es) (zdt te t):=QA.mk (za ha.out hr.out rfl)
end
end
end L2
namespace L2
open PySem PySem.Spec PySem.Calls PyProof.Rows PySem.W
end L2
namespace L2
open PySem PySem.Spec PyProof.Rows
section
def zrr:D2:=fun x y S R=>asT x fun ds=>asT y fun es=>∃ ns,ds=ns.map PyData.int/\∃ ms,es=ms.map PyData.int/\R (.d (.bool (HT.lexLt ns ms))) S
end
section
open Sem (wp)
namespace F4
end F4
end
section
theorem zj3{X:Cx}{K:W.Frag}(hK:X.K=K):CallR X (.builtin "len") (zos K):=by
 subst hK;exact zu
end
section
namespace F4
end F4
end
section
namespace F4
end F4
end
section
namespace F4
end F4
end
section
theorem zeb:fillsNumberSlot (.type "tuple") "mul" = pure false :=
 PySem.fillsNumberSlot_seq (id:="tuple.__mul__") (r:=some (.builtin "tuple.__rmul__")) F.slot_tuple_mul.lookup (by decide +kernel) F.slot_tuple_rmul.lookup (by decide +kernel)
theorem zhd:seqRepeat? (.type "tuple")=pure (some (.builtin "tuple.__mul__")):=by
 unfold seqRepeat?;rw [PySem.seqSlot_of (T:="tuple") (name:="__mul__") (id:="tuple.__mul__") F.slot_tuple_mul.lookup (by decide +kernel),PySem.seqSlot_of (T:="tuple") (name:="__rmul__") (id:="tuple.__rmul__") F.slot_tuple_rmul.lookup (by decide +kernel)];rfl
theorem zfx(a:Int)(t:Tok)(l:Addr)(items:Array Value)(n:Nat)(d:Option Addr)(sl:Array (Option Value)):
  Meets (Builtin.«int.__rmul__» ⟨[.int a t,.ref l],[]⟩) (fun _ R s=>s.heap.get? l=some { cls:=.type "tuple",dict:=d,data:=.seq items n,slots:=sl }/\R (.ok (.ret Value.notImplemented)) s) :=
 .of_wp fun prog w A R s h=>by obtain⟨hp,g,d,tk,os⟩:=s; obtain⟨hl,h⟩:=h; wp_walk; exact⟨_,rfl,h⟩
theorem zjl(l:Addr)(items:Array Value)(n:Nat)(d:Option Addr)(sl:Array (Option Value))(u:Tok):
  Meets (Builtin.«tuple.__mul__» ⟨[.ref l,.int 1 u],[]⟩) (fun _ R s=>s.heap.get? l=some { cls:=.type "tuple",dict:=d,data:=.seq items n,slots:=sl }/\R (.ok (.ret (.ref l))) s) :=
 .of_wp fun prog w A R s h=>by
  obtain⟨hp,g,d,tk,os⟩:=s; obtain⟨hl,h⟩:=h
  wp_walk
  exact⟨_,rfl,h⟩
theorem zjz(l:Addr)(items:Array Value)(n:Nat)(d:Option Addr)(sl:Array (Option Value))(u:Tok)(x:Int)(hx:x<=0)(hlo:-(2 ^ 63)<=x)(hi:items.isEmpty=false):
  Meets (Builtin.«tuple.__mul__» ⟨[.ref l,.int x u],[]⟩) (fun _ R s=>s.heap.get? l=some { cls:=.type "tuple",dict:=d,data:=.seq items n,slots:=sl }/\R (.ok (.ret (.ref s.heap.objs.size))) { s with heap:=s.heap.push { cls:=.type "tuple",data:=.seq #[] } }) :=
 .of_wp fun prog w A R s h=>by
  obtain⟨hp,g,d,tk,os⟩:=s; obtain⟨hl,h⟩:=h;have c0:(decide (x < -2 ^ 63) || decide (x≥2 ^ 63))=false:=by simp; omega
  have c1:(items.isEmpty || x == 1)=false:=by rw [hi]; simp; omega
  have c2:(decide (x<=0) || items.isEmpty)=true:=by rw [decide_eq_true hx]; rfl
  wp_walk
  refine wpAny_ite_false (by rw [c0]; rfl) ?_
  wp_walk
  refine wpAny_ite_false (by rw [c1]; rfl) ?_;refine wpAny_ite_true (by rw [c2]; rfl) ?_
  wp_walk
  exact⟨_,rfl,h⟩
theorem zjm(l:Addr)(items:Array Value)(n:Nat)(d:Option Addr)(sl:Array (Option Value))(u:Tok)(x:Int)(hx:2<=x)(hhi:x<2 ^ 63)(hi:items.isEmpty=false)(hz:items.size*x.toNat<=sizeLine):
  Meets (Builtin.«tuple.__mul__» ⟨[.ref l,.int x u],[]⟩) (fun _ R s=>s.heap.get? l=some { cls:=.type "tuple",dict:=d,data:=.seq items n,slots:=sl }/\R (.ok (.ret (.ref s.heap.objs.size))) { s with heap:=s.heap.push { cls:=.type "tuple",data:=.seq ((List.replicate x.toNat items).foldl (· ++ ·) #[]) } }) :=
 .of_wp fun prog w A R s h=>by
  obtain⟨hp,g,d,tk,os⟩:=s; obtain⟨hl,h⟩:=h;have c0:(decide (x < -2 ^ 63) || decide (x≥2 ^ 63))=false:=by simp; omega
  have c1:(items.isEmpty || x == 1)=false:=by rw [hi]; simp; omega
  have c2:(decide (x<=0) || items.isEmpty)=false:=by rw [hi,decide_eq_false (by omega)]; rfl
  have ez:(items.size:Int)*x=(items.size*x.toNat:Nat):=by rw [Int.natCast_mul,Int.toNat_of_nonneg (by omega)]
  have c3:¬ ((items.size:Int)*x>(2 ^ 63 - 1) / 8):=by
   rw [ez];have h1:(sizeLine:Int)<=(2 ^ 63 - 1) / 8:=by decide
   have h2:((items.size*x.toNat:Nat):Int)<=(sizeLine:Int):=Int.ofNat_le.mpr hz;exact fun h3=>absurd (Int.le_trans h2 h1) (Int.not_le.mpr h3)
  have c4:Builtin.Tuple.tupleTooMany ((items.size:Int)*x)=false:=by
   unfold Builtin.Tuple.tupleTooMany;rw [ez];exact decide_eq_false (Int.not_lt.mpr (Int.ofNat_le.mpr hz))
  have c5:((List.replicate x.toNat items).foldl (· ++ ·) #[]).size<=sizeLine:=by
   have:=zdH items.toList x.toNat [];simp only [Array.toArray_toList] at this;rw [nil_append] at this;rw [this,size_toArray,zhT,length_toList,mul_comm];exact hz
  wp_walk
  refine wpAny_ite_false (by rw [c0]; rfl) ?_
  wp_walk
  refine wpAny_ite_false (by rw [c1]; rfl) ?_;refine wpAny_ite_false (by rw [c2]; rfl) ?_;refine wpAny_ite_false (decide_eq_false c3) ?_;refine wpAny_ite_false (by rw [c4]; rfl) ?_
  wp_walk
  exact⟨_,rfl,h⟩
def zkW(K:W.Frag):R2:=fun x y H Q=>∃ a k xs,x=.ref a/\y=.int k/\SqT K H a xs/\xs≠[]/\-1000<=k/\k<=1000/\xs.length*k.toNat<=1000 /\
 (k=1->Q (.ref a) H)/\(k≠1->∀ p,H p=none->Q (.ref p) (upd H p (.tup (List.replicate k.toNat xs).flatten)))
theorem zgY{X:Cx}:OpR X (binaryOp .Mult) (zkW X.K):=by
 intro ze s σ H x y v u Q I rx ry h;obtain⟨a,k,xs,rfl,rfl,ha,hx,h1,h2,hz,q1,q2⟩:=h;cases rx;obtain⟨t,rfl⟩:=ry;obtain⟨its,r1,p1,_⟩:=I.tuple ha;have hne:its≠[]:=fun z=>hx (r1.nil_iff.mp z);have hie:its.toArray.isEmpty=false:=by
  cases its with
  | nil=>exact absurd rfl hne
  | cons _ _=>rfl
 have hl:its.length=xs.length:=r1.length.symm;obtain⟨⟨cls,dd,data,sl⟩,ho,hc,n,hd⟩:=id p1;simp only at hc hd;subst hc hd;have hz':its.toArray.size*k.toNat<=sizeLine:=by
  rw [size_toArray,hl];exact le_of_lt (small1000 hz)
 refine wpAny_binaryOp_repeat_ref (T:="tuple") (U:="int") dz ⟨_,ho,rfl⟩ (fun s'=>typeIs_int s' k t) zeb F.fills_int_mul F.slot_int_rmul zhd F.slot_int_index.lookup
  (call_meets F.slot_int_rmul (typeIs_int s k t) F.entry_int_rmul (F.args_int_rmul_2 _ _) (zfx k t a its.toArray n dd sl) ⟨ho,rfl,⟨_,ho,rfl⟩,?_⟩)
 by_cases hk:k=1
 ·subst hk;exact call_meets F.slot_tuple_mul ⟨_,ho,rfl⟩ F.entry_tuple_mul (F.args_tuple_mul_2 _ _) (zjl a its.toArray n dd sl t) ⟨ho,.ref a,H,I,rfl,q1 rfl⟩
 ·have fin:∀ us,us=(List.replicate k.toNat its).flatten->EP X ze σ Q (.ref s.heap.objs.size) { s with heap:=s.heap.push { cls:=.type "tuple",data:=.seq us.toArray } }:=fun us e=>by
   refine⟨.ref s.heap.objs.size,_,I.laid (t':=s.toks) (o:=.tup (List.replicate k.toNat xs).flatten) (fun b ob q=>get?_push_of_some _ q) (le_refl _) ?_,rfl,q2 hk _ (I.hok.fresh (le_refl _))⟩;refine⟨⟨by rw [zhT,mul_comm]; exact le_of_lt (small1000 hz),_,get?_push_size _ rfl,rfl⟩,us,?_,IsTup.new _ _⟩;rw [e];exact r1.rep k.toNat
  by_cases h0:k<=0
  ·refine call_meets F.slot_tuple_mul ⟨_,ho,rfl⟩ F.entry_tuple_mul (F.args_tuple_mul_2 _ _) (zjz a its.toArray n dd sl t k h0 (by omega) hie) ⟨ho,?_⟩;have e0:k.toNat=0:=by omega
   exact fin [] (by rw [e0]; rfl)
  ·refine call_meets F.slot_tuple_mul ⟨_,ho,rfl⟩ F.entry_tuple_mul (F.args_tuple_mul_2 _ _) (zjm a its.toArray n dd sl t k (by omega) (by omega) hie hz') ⟨ho,?_⟩;have e1:=zdH its k.toNat [];rw [nil_append] at e1;have:=fin _ rfl;rw [<- e1] at this;exact this
def zeS:D2:=fun x y S R=>asT x fun ds=>asI y fun j=>ds≠[]/\-1000<=j/\j<=1000/\ds.length*j.toNat<=1000/\R (.d (.tuple (List.replicate j.toNat ds).flatten)) S
theorem zeK{K:W.Frag}:RO (zkW K) zeS:=fun h o H S x y v u R Q hs hx hy q c=>by
 obtain⟨ds,rfl,q⟩:=zd2 q;replace q:=zaP q;obtain⟨j,rfl,hn,h1,h2,hz,q⟩:=q;obtain⟨a,vs,rfl,ea,l⟩:=zcw hx;refine⟨a,j,vs,rfl,zaC hy,.of ea,?_,h1,h2,by rw [l.length]; exact hz,fun e=>?_,fun _=>zh4 hs (l.rep j.toNat) c q⟩
 ·intro z;have:=l.length;rw [z] at this;exact hn (List.length_eq_zero_iff.mp this.symm)
 ·subst e;have e1:(List.replicate (1:Int).toNat ds).flatten=ds:=by simp
  rw [e1] at q;exact c o H S _ _ Ex.refl hs hx q
end
section
theorem znG{X:Cx}{K:W.Frag}(hK:X.K=K):OpR X (binaryOp .Add) (znD K):=by
 subst hK;exact zE
end
section
theorem zfB(f:Array Value->Array Value)(o:Obj):(Obj.mapFields f o).dict=o.dict:=by
 unfold Obj.mapFields;split <;> rfl
def RecAt(h base:Heap)(e:Addr)(cls:Value)(dx:Option Addr)(a0 fl:Value):Prop :=
 ∃ oe vs T oT ts,h.get? e=some oe/\oe.cls=cls/\oe.dict=dx/\oe.data=.fields vs/\vs[0]? = some a0/\vs[1]? = some (.ref T)/\base.get? T=none/\T≠e/\h.get? T=some oT/\oT.data=.fields ts/\ts[3]? = some fl
structure NotedD(base:Heap)(l:List Env)(e:Addr)(cls:Value)(dx:Option Addr)(a0 fl:Value)(h h':Heap):Prop where
 stays:base.StaysIn h'
 frames:h'.FunFrames base l
 rcd:RecAt h' base e cls dx a0 fl
 upto:h.UpToSlots h'
def FlyD(base:Heap)(l:List Env)(e:Addr)(cls:Value)(dx:Option Addr)(a0:Value)(h:Heap):Prop:=base.StaysIn h/\base.get? e=none/\h.FunFrames base l/\RecAt h base e cls dx a0 .none
def HeldD(base:Heap)(l:List Env)(e:Addr)(cls:Value)(dx:Option Addr)(a0:Value)(L:Addr)(h:Heap):Prop:=base.StaysIn h/\base.get? e=none/\h.FunFrames base l/\RecAt h base e cls dx a0 (rawInt L)
theorem FlyD.there{base h:Heap}{l:List Env}{e:Addr}{cls a0:Value}{dx:Option Addr}(x:FlyD base l e cls dx a0 h):∃ ob,h.get? e=some ob/\ob.cls=cls/\ob.dict=dx :=
 let ⟨_,_,_,oe,_,_,_,_,he,hc,hd,_⟩:=x; ⟨oe,he,hc,hd⟩
theorem FlyD.first{base h:Heap}{l:List Env}{e:Addr}{cls a0:Value}{dx:Option Addr}(x:FlyD base l e cls dx a0 h):∃ oe vs,h.get? e=some oe/\oe.cls=cls/\oe.data=.fields vs/\vs[0]? = some a0 :=
 let ⟨_,_,_,oe,vs,_,_,_,he,hc,_,hd,h0,_⟩:=x; ⟨oe,vs,he,hc,hd,h0⟩
section
variable {M:Model} {A:Around} {E:Value->Shared->Prop} {s:Shared}
theorem zhA{base:Heap}{env:Env}{outer:List Env}{L e:Addr}{oe:Obj}{vs:Array Value}{head a0:Value}{hadNext:Bool}{Q:Unit->Shared->Prop}
  (hfr:A.frames=some (env :: outer)) (hl:s.heap.FunFrames base (env :: outer)) (hf:env.frame=some L)
  (he:s.heap.get? e=some oe) (hkb:base.StaysIn s.heap) (hen:base.get? e=none) (hd:oe.data=.fields vs) (hsz:1<vs.size) (h0:vs[0]? = some a0)
  (h:∀ h',NotedD base (env :: outer) e oe.cls oe.dict a0 (rawInt L) s.heap h'->Q () { s with heap:=h' }) :
  wpAny M A (do let a <- frameOf env; let pl <- entryPlaceOf L hadNext; let b <- EntryCells.newEntry head a .none (rawInt L) .none pl; setField (.ref e) 1 b) Q E s:=by
 have ne:e∉(env :: outer).filterMap (·.frame):=fun hm=>by
  obtain⟨_,o,ho,nf⟩:=hl.mem hm;rw [he] at ho;cases ho;exact nf vs hd
 refine wpAny_bind (wpAny_frameOf_fun hfr hl hf fun h1 k1=>?_);refine wpAny_bind (wpAny_entryPlaceOf fun pl hpl=>?_);unfold EntryCells.newEntry newFields;refine wpAny_bind (wpAny_newObj_type ?_ (hpl.sizeOk5 _ _ _ _ _));have e1:h1.get? e=some oe:=(k1.2.1 e ne).trans he;have b1:base.StaysIn h1:=fun b o q=>(k1.2.1 b fun hm=>by rw [(hl.mem hm).1] at q; cases q).trans (hkb b o q);generalize hT:({ cls:=.type "traceback",dict:=none,data:=.fields ([head,.ref L,.none,rawInt L,.none]++(if pl.isEmpty then List.replicate 6 Value.none else pl)).toArray }:Obj)=tb;have dT:∃ ts,tb.data=.fields ts/\ts[3]? = some (rawInt L):=by
  subst hT;exact⟨_,rfl,by simp⟩
 obtain⟨ts,dT,zT⟩:=dT;have fT:tb.isFreed=false:=Obj.isFreed_of_fields dT;have e2:=get?_push_of_some (h:=h1) tb e1;refine wpAny_setField e2 hd hsz (h _ ?_);have nT:h1.objs.size≠e:=ne_of_gt (lt_size e1);have d3:=Obj.data_mapFields hd (·.setIfInBounds 1 (Value.ref h1.objs.size));have e3:=get?_update_self (Obj.mapFields (·.setIfInBounds 1 (Value.ref h1.objs.size))) e2 (Obj.isFreed_of_fields d3);have t3:=(get?_update_other (h1.push tb) (Obj.mapFields (·.setIfInBounds 1 (Value.ref h1.objs.size))) (Ne.symm nT)).trans (get?_push_size h1 fT);have keep:∀ b o,b≠e->h1.get? b=some o->((h1.push tb).update e (Obj.mapFields (·.setIfInBounds 1 (Value.ref h1.objs.size)))).get? b=some o:=fun b o nb q=>by
  rw [get?_update_other _ _ (Ne.symm nb)];exact get?_push_of_some _ q
 have nr:∀ b o,s.heap.get? b=some o->(∀ vs,o.data≠.fields vs)->b≠e:=fun b o q nf z=>by
  rw [z,he] at q;cases q;exact nf vs hd
 refine⟨fun b o q=>keep b o (fun z=>by rw [z,hen] at q; cases q) (b1 b o q),hl.of_keeps fun b o q nf=>?_,?_,fun b o q nf=>?_⟩
 ·obtain⟨sl,z⟩:=k1.2.2 b o q;exact⟨_,keep b _ (nr b o q nf) z,rfl⟩
 ·exact⟨_,_,h1.objs.size,_,_,e3,Obj.cls_mapFields _ _,zfB _ _,d3,by rw [Array.getElem?_setIfInBounds_ne dz]; exact h0,by simp [hsz],b1.fresh,nT,t3,dT,zT⟩
 ·obtain⟨sl,z⟩:=k1.2.2 b o q;exact⟨sl,keep b _ (nr b o q nf) z⟩
theorem zce{base:Heap}{l:List Env}{e:Addr}{cls a0 fl:Value}{dx:Option Addr}{Q:Unit->Shared->Prop}(hkb:base.StaysIn s.heap)(hen:base.get? e=none)(hl:s.heap.FunFrames base l)(ht:RecAt s.heap base e cls dx a0 fl)
  (h:∀ h',FlyD base l e cls dx a0 h'->s.heap.UpToSlots h'->Q () { s with heap:=h' }):wpAny M A (setFlight (.ref e) none) Q E s:=by
 obtain⟨oe,vs,T,oT,ts,he,hc,hx,hd,h0,h1,hnT,hTe,hT,hdT,h3⟩:=ht;have z3:3<ts.size:=(Array.getElem?_eq_some_iff.mp h3).1;have oth:∀ b,b≠T->(s.heap.update T (Obj.mapFields (·.setIfInBounds 3 ((none:Option Addr).elim Value.none fun f=>rawInt f)))).get? b=s.heap.get? b:=fun b hb=>get?_update_other _ _ (Ne.symm hb);have nr:∀ b o,s.heap.get? b=some o->(∀ vs,o.data≠.fields vs)->b≠T:=fun b o q nf z=>by
  rw [z,hT] at q;cases q;exact nf ts hdT
 unfold setFlight;refine wpAny_bind (wpAny_field he hd h1 ?_);rw [if_pos (show (Value.ref T != Value.none)=true from by simp)];refine wpAny_setField hT hdT z3 (h _ ⟨fun b o q=>(oth b fun z=>by rw [z,hnT] at q; cases q).trans (hkb b o q),hen,hl.of_keeps fun b o q nf=>⟨o,(oth b (nr b o q nf)).trans q,rfl⟩,?_⟩ fun b o q nf=>⟨o.slots,(oth b (nr b o q nf)).trans q⟩);exact⟨oe,vs,T,_,_,(oth e (Ne.symm hTe)).trans he,hc,hx,hd,h0,h1,hnT,hTe,get?_update_self _ hT (Obj.isFreed_of_fields (Obj.data_mapFields hdT _)),Obj.data_mapFields hdT _,by simp [z3]⟩
theorem zjx{base:Heap}{env:Env}{outer:List Env}{L e:Addr}{oe:Obj}{vs:Array Value}{a0:Value}{Q:Unit->Shared->Prop}
  (hfr:A.frames=some (env :: outer)) (hl:s.heap.FunFrames base (env :: outer)) (hf:env.frame=some L)
  (he:s.heap.get? e=some oe) (hkb:base.StaysIn s.heap) (hen:base.get? e=none) (hd:oe.data=.fields vs) (h1:vs[1]? = some .none) (h0:vs[0]? = some a0)
  (h:∀ h',NotedD base (env :: outer) e oe.cls oe.dict a0 (rawInt L) s.heap h'->Q () { s with heap:=h' }):wpAny M A (noteFrame (.ref e) env) Q E s:=by
 unfold noteFrame;simp only [hf];refine wpAny_bind (wpAny_field he hd h1 ?_);rw [if_neg dz];exact zhA hfr hl hf he hkb hen hd (Array.getElem?_eq_some_iff.mp h1).1 h0 h
theorem zhs{base:Heap}{env:Env}{outer:List Env}{L e:Addr}{cls a0:Value}{dx:Option Addr}{Q:Unit->Shared->Prop}
  (hfr:A.frames=some (env :: outer)) (hl:s.heap.FunFrames base (env :: outer)) (hf:env.frame=some L) (ht:RecAt s.heap base e cls dx a0 .none) (hkb:base.StaysIn s.heap) (hen:base.get? e=none)
  (h:∀ h',NotedD base (env :: outer) e cls dx a0 (rawInt L) s.heap h'->Q () { s with heap:=h' }):wpAny M A (noteFrame (.ref e) env) Q E s:=by
 obtain⟨oe,vs,T,oT,ts,he,rfl,rfl,hd,h0,h1,hnT,hTe,hT,hdT,h3⟩:=ht;unfold noteFrame;simp only [hf];refine wpAny_bind (wpAny_field he hd h1 ?_);rw [if_pos (show (Value.ref T != Value.none)=true from by simp)];refine wpAny_bind (wpAny_field hT hdT h3 ?_);rw [if_neg (show ¬ ((Value.none == rawInt L)=true) from by simp [rawInt])];refine wpAny_bind (wpAny_setField hT hdT (Array.getElem?_eq_some_iff.mp h3).1 ?_);have oth:∀ b,b≠T->(s.heap.update T (Obj.mapFields (·.setIfInBounds 3 Value.none))).get? b=s.heap.get? b:=fun b hb=>get?_update_other _ _ (Ne.symm hb);have nr:∀ b o,s.heap.get? b=some o->(∀ vs,o.data≠.fields vs)->b≠T:=fun b o q nf z=>by
  rw [z,hT] at q;cases q;exact nf ts hdT
 refine zhA hfr (hl.of_keeps fun b o q nf=>⟨o,(oth b (nr b o q nf)).trans q,rfl⟩) hf ((oth e (Ne.symm hTe)).trans he)
  (fun b o q=>(oth b fun z=>by rw [z,hnT] at q; cases q).trans (hkb b o q)) hen hd (Array.getElem?_eq_some_iff.mp h1).1 h0
  fun h' x=>h h' ⟨x.stays,x.frames,x.rcd,fun b o q nf=>x.upto b o ((oth b (nr b o q nf)).trans q) nf⟩
theorem zkV{base:Heap}{env:Env}{outer:List Env}{L e:Addr}{cls a0:Value}{dx:Option Addr}{Q:Unit->Shared->Prop}(hfr:A.frames=some (env :: outer))(hf:env.frame=some L)(hfl:FlyD base (env :: outer) e cls dx a0 s.heap)
  (hQ:∀ h',FlyD base outer e cls dx a0 h'->s.heap.UpToSlots h'->Q () { s with heap:=h' }):wpAny M A (leaving env (.ref e)) Q E s:=by
 obtain⟨f1,f2,f3,f4⟩:=hfl;unfold leaving;refine wpAny_bind (zhs hfr f3 hf f4 f1 f2 fun h' x=>?_);refine zce (s:={ s with heap:=h' }) x.stays f2 x.frames x.rcd fun h2 y u=>hQ h2 ⟨y.1,y.2.1,?_,y.2.2.2⟩ (x.upto.trans u);obtain⟨_,_,k⟩:=y.2.2.1;exact k
theorem zgU{base:Heap}{env:Env}{outer:List Env}{L e:Addr}{oe:Obj}{vs:Array Value}{a0:Value}{Q:Unit->Shared->Prop}
  (hfr:A.frames=some (env :: outer)) (hl:s.heap.FunFrames base (env :: outer)) (hf:env.frame=some L)
  (he:s.heap.get? e=some oe) (hkb:base.StaysIn s.heap) (hen:base.get? e=none) (hd:oe.data=.fields vs) (h1:vs[1]? = some .none) (h0:vs[0]? = some a0)
  (hQ:∀ h',FlyD base outer e oe.cls oe.dict a0 h'->s.heap.UpToSlots h'->Q () { s with heap:=h' }):wpAny M A (leaving env (.ref e)) Q E s:=by
 unfold leaving;refine wpAny_bind (zjx hfr hl hf he hkb hen hd h1 h0 fun h' x=>?_);refine zce (s:={ s with heap:=h' }) x.stays hen x.frames x.rcd fun h2 y u=>hQ h2 ⟨y.1,y.2.1,?_,y.2.2.2⟩ (x.upto.trans u);obtain⟨_,_,k⟩:=y.2.2.1;exact k
theorem zkK{base:Heap}{env:Env}{outer:List Env}{L e:Addr}{cls a0:Value}{dx:Option Addr}{Q:Unit->Shared->Prop}(hfr:A.frames=some (env :: outer))(hf:env.frame=some L)(hfl:FlyD base (env :: outer) e cls dx a0 s.heap)
  (hQ:∀ h',HeldD base (env :: outer) e cls dx a0 L h'->s.heap.UpToSlots h'->Q () { s with heap:=h' }):wpAny M A (noteFrame (.ref e) env) Q E s:=by
 obtain⟨f1,f2,f3,f4⟩:=hfl;exact zhs hfr f3 hf f4 f1 f2 fun h' x=>hQ h' ⟨x.stays,f2,x.frames,x.rcd⟩ x.upto
theorem zpS{base:Heap}{l:List Env}{e L:Addr}{cls a0:Value}{dx:Option Addr}{Q:Unit->Shared->Prop}(hh:HeldD base l e cls dx a0 L s.heap)(hQ:∀ h',FlyD base l e cls dx a0 h'->s.heap.UpToSlots h'->Q () { s with heap:=h' }):wpAny M A (setFlight (.ref e) none) Q E s:=by
 obtain⟨f1,f2,f3,f4⟩:=hh;exact zce f1 f2 f3 f4 hQ
theorem zgV{base:Heap}{l:List Env}{e:Addr}{cls a0:Value}{dx:Option Addr}{Q:Unit->Shared->Prop}(hh:FlyD base l e cls dx a0 s.heap)(hQ:∀ h',FlyD base l e cls dx a0 h'->s.heap.UpToSlots h'->Q () { s with heap:=h' }):wpAny M A (setFlight (.ref e) none) Q E s:=by
 obtain⟨f1,f2,f3,f4⟩:=hh;exact zce f1 f2 f3 f4 hQ
end
theorem HOk.stays{P:Program}{w:World}{H:Hp}{h h':Heap}(x:HOk P w H h)(k:∀ b u,H b=some u->∀ o,h.get? b=some o->h'.get? b=some o):HOk P w H h':=fun a o e =>
 (x a o e).stay (fun b u hb q=>by
  rcases hb with rfl | hb
  ·exact k _ _ e _ q
  ·exact k _ _ hb _ q) (fun _ q=>q) fun _ _ q=>q
theorem ObjOk.obj{P:Program}{w:World}{H:Hp}{h:Heap}{a:Addr}{o:HO}(x:ObjOk P w H h a o):∃ u,h.get? a=some u:=by
 cases o with
 | lst xs=>obtain⟨_,_,_,_,e⟩:=x; exact⟨_,e⟩
 | tup xs=>obtain⟨_,_,_,o,e,_⟩:=x; exact⟨_,e⟩
 | dK kvs=>obtain⟨_,_,_,_,o,_,_,e,_⟩:=x; exact⟨_,e⟩
 | dT kvs=>obtain⟨_,_,_,_,o,_,_,e,_⟩:=x; exact⟨_,e⟩
 | set S n=>obtain⟨o,_,_,_,e,_⟩:=x; exact⟨_,e⟩
 | ins C dx fs=>obtain⟨_,_,_,e,_⟩:=x; exact⟨_,e⟩
 | own y=>exact x
 | xd fs=>obtain⟨_,⟨_,_,_,e,_⟩,_⟩:=x; exact⟨_,e⟩
 | rng lo hi=>obtain⟨_,_,_,e⟩:=x; exact⟨_,e⟩
 | frz ob u=>obtain⟨e,_⟩:=x; exact⟨_,e⟩
 | tbl ps=>obtain⟨_,e,_⟩:=x; exact⟨_,e⟩
 | met f y=>exact⟨_,(show h.get? a=some _ from x)⟩
 | ext φ=>obtain⟨_,e,_⟩:=x; exact e
structure Fly(P:Program)(w:World)(outer:List Env)(H:Hp)(s:Shared)(H':Hp)(a C:Addr)(dx:Option Addr)(s':Shared):Prop where
 os:s'.os=s.os
 bare:AllBare s'.gens
 un:Un (frs outer) [] H H' s.heap s'.heap
 hok:HOk P w H' s'.heap
 fl:∃ B t,FlyD B outer a (.ref C) dx (.ref t) s'.heap/\(∀ b o,s.heap.get? b=some o->H b=none->b∉frs outer->B.get? b=some o)/\(∀ b o,s.heap.get? b=some o->b∈frs outer\/∃ o',B.get? b=some o')/\∀ b u,H' b=some u->∃ o,B.get? b=some o
def CX1(P:Program)(w:World):CXT:=fun outer H s E e s'=>∃ H' a C dx,e=.ref a/\Fly P w outer H s H' a C dx s'/\E (.ref C) (some a) (upd H' a (exO a C dx))
section
variable {P:Program} {w:World} {K:W.Frag} {mg:Str->Option Value} {base:Heap} {N:List Str} {qual:Str} {scope:Scope} {f:Addr} {cd:Value} {A:Around} {outer:List Env} {s:Shared} {H:Hp} {E:XK}
theorem pass1:Passes (CX1 P w) (zfE (CX1 P w) P w K mg base N qual scope f cd A outer s H E) E:=fun ze σ Hc sc e s' I hx=>by
 obtain⟨H',a,C,dx,rfl,F,hE⟩:=hx;obtain⟨B,t,fl,kB,eB,tB⟩:=F.fl;have hfr:(A.deeper (envOfC qual scope s.heap.objs.size f cd)).frames=some (envOfC qual scope s.heap.objs.size f cd :: outer):=I.ok.frames;have nl:∀ b o,s.heap.get? b=some o->b∉frs outer->b∉frs (envOfC qual scope s.heap.objs.size f cd :: outer):=fun b o q hb z=>by
  rcases mem_cons.mp (show b∈s.heap.objs.size :: frs outer from z) with e | e
  ·exact absurd (lt_size q) (by rw [e]; exact lt_irrefl _)
  ·exact hb e
 have nx:∀ b:Addr,b∉([]:List Addr):=fun b=>by simp
 have kp:∀ b o,s.heap.get? b=some o->H b=none->b∉frs outer->B.get? b=some o:=fun b o q n hb=>kB b o (I.base.keep b o q n hb (nx b)) (I.base.free b o q n (nx b)) (nl b o q hb);have ep:∀ b o,s.heap.get? b=some o->b∈frs outer\/∃ o',B.get? b=some o':=fun b o q=>by
  by_cases hb:b∈frs outer
  ·exact .inl hb
  ·obtain⟨o1,q1⟩:=I.base.there b o q (nx b);rcases eB b o1 q1 with z | z
   ·exact absurd z (nl b o q hb)
   ·exact .inr z
 show wpAny _ _ (leaving (envOfC qual scope s.heap.objs.size f cd) (.ref a)) _ _ s';refine zkV hfr rfl fl fun h' fl' sm=>⟨H',a,C,dx,rfl,⟨F.os.trans I.os,F.bare,⟨fun b o q n hb _=>fl'.1 b o (kp b o q n hb),fun b o q n hb _=>?_,fun b o q n _=>?_,fun b o q _=>?_,fun b xs q=>F.un.tups b xs (I.base.tups b xs q),fun b o u q=>F.un.frzs b o u (I.base.frzs b o u q),fun b ps q=>?_⟩,
  F.hok.stays fun b u e o q=>?_,B,t,fl',kp,ep,tB⟩,hE⟩
 ·obtain⟨sl,q1⟩:=I.base.slot b o q n hb (nx b);obtain⟨sl2,q2⟩:=F.un.any q1 (I.base.free b o q n (nx b)) (nx b);obtain⟨_,o3,q3,nf⟩:=fl.2.2.1.mem (show b∈frs (envOfC qual scope s.heap.objs.size f cd :: outer) from mem_cons_of_mem _ hb);rw [q2] at q3;cases q3;obtain⟨sl3,q4⟩:=sm b _ q2 nf;exact⟨sl3,q4⟩
 ·obtain⟨o1,q1⟩:=I.base.there b o q (nx b);exact F.un.free b o1 q1 (I.base.free b o q n (nx b)) (nx b)
 ·rcases ep b o q with z | ⟨o',z⟩
  ·obtain⟨_,o3,q3,_⟩:=fl'.2.2.1.mem (show b∈frs outer from z);exact⟨o3,q3⟩
  ·exact⟨o',fl'.1 b o' z⟩
 ·exact F.un.tbls b _ (I.base.tbls b ps q)
 ·obtain⟨o',z⟩:=tB b u e;have:=fl.1 b o' z;rw [q] at this;cases this;exact fl'.1 b o z
end
end
section
def veB:List Value:=[.type "ValueError",.type "Exception",.type "BaseException",.type "object"]
theorem zqH{K:W.Frag}{h:Heap}{N:Addr}{mg:Str->Option Value}{n:Str}{v:Value}(X:K.In h)(G:h.Ns N mg)(e:W.nsIn K N n=some (some v)):mg n=some v:=by
 obtain⟨o,es,ep,ho,hd,_,hf⟩:=G;unfold W.nsIn at e;split at e
 ·rename_i c d es' n' sl q;have:=X _ _ q;rw [ho] at this;cases this;cases hd;split at e
  ·rename_i en he;cases e;rw [<- hf];unfold nsFind findBy;rw [<- Array.find?_toList,he];rfl
  ·split at e <;> cases e
 ·cases e
structure ExCls(K:W.Frag)(C:Addr)(ini:Option Value):Prop where
 ob:∀ h,K.In h->∃ bm N nm qn bs hd sn sub ab col dd k0 k1 k2 k3 k5 mN,h.get? C=some (excClassObj nm qn C N bs bm hd sn sub ab col dd k0 k1 k2 k3 k5 "ValueError.__new__")/\h.Ns N mN/\mN "__init__" = ini/\OwnTail h veB bm/\∀ D,W.mroIn K C D=some ((Value.ref C :: bm).contains D)
 ty:(W.clsIn K C).isSome=true/\W.typeIn K (.ref C)=some (.type "type")
theorem exc_of_in{K:W.Frag}{C:Addr}(q:W.excIn K C veB "ValueError.__new__" = true):ExCls K C none:=by
 unfold W.excIn at q;split at q
 ·rename_i dd cd sl ho;split at q
  ·rename_i C' bm k0 k1 k2 k3 n k5 hm hs;simp only [Bool.and_eq_true,beq_iff_eq,Bool.not_eq_true'] at q;obtain⟨⟨⟨⟨⟨rfl,rfl⟩,hdel⟩,ht⟩,hok⟩,hni⟩:=q;obtain⟨nm,bs,mro,ns,qn,hd,sn,sub,ab,col,del⟩:=cd;dsimp only at hm hdel hok hni;subst hm hdel;have hsl:sl = #[k0,k1,k2,k3,some (.builtin "ValueError.__new__"),k5]:=by
    obtain⟨l⟩:=sl;simp only at hs;rw [hs]
   subst hsl;refine⟨fun h X=>⟨bm,ns,nm,qn,bs,hd,sn,sub,ab,col,dd,k0,k1,k2,k3,k5,h.nsMap ns,X _ _ ho,.of_isNs (W.isNs_of_in X hok),W.ns_none_of X (.of_isNs (W.isNs_of_in X hok)) hni,W.tail_of_in X ht,fun D=>?_⟩,?_,?_⟩
   ·unfold W.mroIn W.clsIn;rw [ho];rfl
   ·unfold W.clsIn;rw [ho];rfl
   ·show Option.map (fun x:Obj=>x.cls) (K.lookup C')=_;rw [ho];rfl
  ·cases q
 ·cases q
section
variable {K:W.Frag} {h:Heap} {C G:Addr} {ini iniG:Option Value}
variable {M:Model} {A:Around} {E:Value->Shared->Prop} {g:Array GenState} {d:Drawn} {t:Nat} {os:OsState} {e:Addr} {oe:Obj} {Q:Bool->Shared->Prop}
theorem zfC(X:K.In h)(qC:ExCls K C ini)(qG:ExCls K G iniG)(he:h.get? e=some oe)(hcls:oe.cls=.ref C)(hin:W.mroIn K C (.ref G)=some true)(hq:Q true ⟨h,g,d,t,os⟩):wpAny M A (excMatches (.ref e) (.ref G)) Q E ⟨h,g,d,t,os⟩:=by
 obtain⟨tl,N,nm,qn,bs,hd,sn,sub,ab,col,dd,k0,k1,k2,k3,k5,mN,hC,_,_,T,mr⟩:=qC.ob h X;obtain⟨tlG,N',nm',qn',bs',hd',sn',sub',ab',col',dd',j0,j1,j2,j3,j5,mN',hG,_,_,T',_⟩:=qG.ob h X;replace hin:(Value.ref C :: tl).contains (.ref G)=true:=by rw [mr] at hin; exact Option.some.inj hin
 have hcB:(Value.ref G :: tlG).contains (.type "BaseException")=true:=by rw [List.contains_cons,T'.hasType (b:=true) (by decide +kernel),Bool.or_true]
 have f:=tc_notTuple;unfold excMatches
 repeat (first | (with_reducible refine wpAny_loadPart_at he ?_; rw [hcls]) | with_reducible refine wpAny_loadPart_at hG ?_ | (with_reducible refine wpAny_isSubtype_exc hG ?_; rw [hcB]) | (with_reducible refine wpAny_isSubtype_exc hC ?_; rw [hin]) | wp_step)
 exact hq
end
end
section
def PEX(X:Cx)(e:Expr)(t:XK->TE):Prop:=∀ (ze:List (Addr×Obj)) (s:Shared) (σ:St) (H:Hp) (Q:VK) (Ex:XK) (E':Value->Shared->Prop),Inv X ze σ H s->t Ex σ H Q ->
 (∀ H1 s1 v s',Inv X ze σ H1 s1->CX1 X.prog X.w X.stack H1 s1 Ex v s'->E' v s')->wpAny (model X.prog X.w) X.A (eval e X.env) (EP X ze σ Q) E' s
def PSX(X:Cx)(st:Stmt)(t:XK->TS):Prop:=∀ (ze:List (Addr×Obj)) (s:Shared) (σ:St) (H:Hp) (D:Ends) (Ex:XK) (E':Value->Shared->Prop),Inv X ze σ H s->t Ex D σ H ->
 (∀ H1 s1 v s',Inv X ze σ H1 s1->CX1 X.prog X.w X.stack H1 s1 Ex v s'->E' v s')->wpAny (model X.prog X.w) X.A (exec st X.env) (SP X ze D) E' s
section
variable {X:Cx} {k:Nat} {f:Addr} {fd:FuncData} {ps:List Str} {sp:Sp} {x:Str} {p pos:Pos} {e e1:Expr} {es:List Expr} {t:TA} {te:TE} {tx:XK->TE}
theorem zon(hx:∀ e s,X.xe e s->False)(F:FnOk X.prog X.w X.K X.mg X.base (CX1 X.prog X.w) k f fd ps sp)(hr:Room k X.A)(hg:Gl X x)(hm:X.mg x=some (.ref f))(hk:W.keepIn X.K (.ref f)=true)(hb:Binds X.K fd ps [])
  (ha:PA X (e :: es) t) (hdb:(x == ("__debug__":Str))=false:=by decide) (he:starEach (e :: es) X.env=(false,eval e X.env) :: starEach es X.env:=by rfl) (hpl:(backTo pos (starEach es X.env)).any (·.1)=false:=by rfl) :
  PEX X (.Call (.Name x p) (e :: es) [] pos) (fun Ex σ H Q=>t σ H fun vs H1=>sp vs H1 Q Ex):=by
 intro ze s σ H Q Ex E' I h hX;refine wpAny_Call_Name_kw (zdU I hg hm ?_ hdb);refine W.callWith_K (h₀:=X.base) I.ok.mod.kin hk (wpAny_mono (ha pos ze s σ H _ I h) (fun us s1 ⟨vs,H1,I1,r,q⟩=>⟨I1.kIn,?_⟩) fun _ _ z=>(hx _ _ z).elim) he hpl;have hl:us.length=ps.length:=by rw [<- r.length]; exact F.len _ _ _ _ q
 have hb1:=hb s1 us I1.kIn (by rw [append_nil]; exact hl);rw [append_nil] at hb1;refine wpAny_call (codeAny_mono (F.run X.A X.stack s1 H1 ⟨us,[]⟩ us vs Q Ex hr I1.env0 hb1 r q) fun r s' hq=>?_);cases r with
 | error e=>exact hX H1 s1 e s' I1 hq
 | ok fl =>
  cases fl with
  | ret u=>exact I1.after hq
  | next=>exact False.elim hq
  | brk=>exact False.elim hq
  | cont=>exact False.elim hq
end
theorem zoC{P:Program}{w:World}{H:Hp}{h:Heap}{a C:Addr}{o:Obj}(e:h.get? a=some o)(c:o.cls=.ref C)(hf:∃ vs,o.data=.fields vs):ObjOk P w H h a (exO a C o.dict) :=
 ⟨⟨o,e,c,rfl,hf⟩,⟨o,e⟩,fun h1 h2 ⟨o,e,c,d⟩ k=>⟨o,k o e,c,d⟩⟩
abbrev Cx.suite (X:Cx) (a:Addr):Cx:={ X with A:=X.A.mark (some (.ref a)),calm:=false,xe:=fun _ _=>False }
theorem Cx.Ok.suite{X:Cx}(ok:X.Ok)(a:Addr):(X.suite a).Ok :=
 ⟨ok.mod,ok.kind,ok.glob,ok.blt,ok.above,ok.inj,ok.has,ok.cab,(fun z=>Bool.noConfusion z),ok.frames,ok.stk,ok.exf,ok.bs,ok.bsz,ok.noex,ok.exfs,ok.funs,ok.frf⟩
section
variable {X:Cx} {ze:List (Addr×Obj)} {σ:St} {H:Hp} {s:Shared} {a:Addr}
theorem Inv.suite(I:Inv X ze σ H s)(a:Addr):Inv (X.suite a) ze σ H s:=⟨I.ok.suite a,I.os,I.bare,I.base,I.loc,I.cell,I.free,I.freeC,I.pin,I.hok,I.len⟩
theorem Inv.unsuite(I:Inv (X.suite a) ze σ H s)(ok:X.Ok):Inv X ze σ H s:=⟨ok,I.os,I.bare,I.base,I.loc,I.cell,I.free,I.freeC,I.pin,I.hok,I.len⟩
theorem Inv.gone{h':Heap}{m':Str->Option Value}{t':Nat}(I:Inv X ze σ H s)(hn:h'.Ns X.env.locals m')(sb:Heap.SameBut X.env.locals s.heap h'):Inv X ze (List.replicate X.N.length none) H { s with heap:=h',toks:=t' }:=by
 have ne:∀ b o,X.s₀.heap.get? b=some o->b≠X.env.locals:=fun b o e=>ne_of_lt (lt_of_lt_of_le (lt_size e) I.ok.above);refine⟨I.ok,I.os,I.bare,⟨fun b o e n hb hx=>?_,fun b o e n hb hx=>?_,I.base.free,fun b o e hx=>?_,I.base.tups,I.base.frzs,I.base.tbls⟩,⟨m',hn,fun i x v _ e2 _=>?_⟩,fun x c e=>?_,I.free,I.freeC,fun p hp=>?_,I.hok.stays fun b u e o q=>?_,by simp⟩
 ·exact(sb.2 b (ne b o e)).trans (I.base.keep b o e n hb hx)
 ·obtain⟨sl,q⟩:=I.base.slot b o e n hb hx;exact⟨sl,(sb.2 b (ne b o e)).trans q⟩
 ·obtain⟨o',q⟩:=I.base.there b o e hx;exact⟨o',(sb.2 b (ne b o e)).trans q⟩
 ·rw [getElem?_replicate] at e2;split at e2 <;> cases e2
 ·obtain⟨v,o,ho,hd⟩:=I.cell x c e;exact⟨v,o,(sb.2 c (I.cne x c e)).trans ho,hd⟩
 ·obtain⟨e,n,ne',nf,d⟩:=I.pin p hp;exact⟨(sb.2 _ ne').trans e,n,ne',nf,d⟩
 ·refine(sb.2 b ?_).trans q;rintro rfl;rw [I.free] at e;cases e
end
end
section
structure RoomN(k:Nat)(A:Around):Prop where
 dp:A.depth+3*k+5<recursionLimit
 un:A.units+16*k+200<cLine
theorem Room.suite{k:Nat}{A:Around}(r:Room k A)(a:Addr):RoomN k (A.mark (some (.ref a))):=⟨r.dp,r.un⟩
theorem RoomN.mono{j k:Nat}{A:Around}(r:RoomN k A)(h:j<=k):RoomN j A:=⟨by have:=r.dp; omega,by have:=r.un; omega⟩
theorem RoomN.deeper{k:Nat}{A:Around}(r:RoomN (k+1) A)(env:Env):RoomN k (A.deeper env) :=
 ⟨by have:=r.dp; show A.depth+1+3*k+5<_; omega,by have:=r.un; show A.units+3+16*k+200<_; omega⟩
theorem RoomN.depth{k:Nat}{A:Around}(r:RoomN k A):A.depth<recursionLimit:=by have:=r.dp; omega
theorem RoomN.units{k:Nat}{A:Around}(r:RoomN k A):A.units+64<cLine:=by have:=r.un; omega
structure FnOkN(P:Program)(w:World)(K:W.Frag)(mg:Str->Option Value)(base:Heap)(CX:CXT)(k:Nat)(f:Addr)(fd:FuncData)(ps:List Str)(sp:Sp):Prop where
 len:∀ vs H Q E,sp vs H Q E->vs.length=ps.length
 run:∀ (A:Around) (outer:List Env) (s:Shared) (H:Hp) (args:Args) (us:List Value) (vs:List V) (Q:VK) (E:XK),RoomN k A->Env0 P w K mg base A outer s H->BindsTo s fd args (ps.zip us)->Vals vs us->sp vs H Q E ->
  codeAny (model P w) A (.call (.ref f) args) (CR CX outer P w H s Q E) s
abbrev cxN (P:Program) (w:World) (K:W.Frag) (mg:Str->Option Value) (base:Heap) (N:List Str) (qual:Str) (scope:Scope) (f:Addr) (cd:Value) (A:Around) (outer:List Env) (s:Shared) (H:Hp):Cx :=
 { zfE CX0 P w K mg base N qual scope f cd A outer s H E0 with calm:=false,xe:=fun _ _=>False }
section
variable {P:Program} {w:World} {K:W.Frag} {mg:Str->Option Value} {base:Heap} {k:Nat}
theorem zqj{f:Addr}{name qual:Str}{params:Arguments}{body:List Stmt}{scope:Scope}{dV kV doc pm cdv ct oc:Value}{an od:Option Addr}
  {osl:Array (Option Value)} {N ps:List Str} {sp:Sp} (lk:K.lookup f=some ⟨oc,od,.func (W.fnOf name qual params body scope dV kV doc pm an cdv ct),osl⟩) (hcd:W.codeIn K cdv qual=true) (S:FnScope N ps scope)
  (len:∀ vs H Q E,sp vs H Q E->vs.length=ps.length)
  (hbody:∀ (A:Around) (outer:List Env) (s:Shared) (H:Hp) (vs:List V) (Q:VK) (E:XK),RoomN k (A.deeper (envOfC qual scope s.heap.objs.size f cdv))->sp vs H Q E ->
   ∃ t,PSs (cxN P w K mg base N qual scope f cdv A outer s H) body t/\t { nx:=fun _ H'=>Q .non H',rt:=Q } (start N vs) H) :
  FnOkN P w K mg base CX0 (k+1) f (W.fnOf name qual params body scope dV kV doc pm an cdv ct) ps sp:=by
 refine⟨len,fun A outer s H args us vs Q E hr e0 hb r hsp=>?_⟩;have hl:=len _ _ _ _ hsp;have KX:K.In s.heap:=e0.mod.kin.keeps fun b o e=>(e0.bs b o e).1;have lim:s.heap.NoLimit:=e0.mod.nolimit.keeps fun b o e=>(e0.bs b o e).1;have hkind:∀ y∈ps.zip us,scope.names.lookup y.1=some .local\/(scope.names.lookup y.1=some .cell/\((cellsFrom (s.heap.objs.size+1) scope.names []).lookup y.1).isSome=true):=fun⟨n,v⟩ hy=>by
  rcases S.par n (of_mem_zip hy).1 with q | q
  ·exact .inl q
  ·exact .inr ⟨q,W.cellsFrom_some _ _ _ (.inl q)⟩
 refine codeAny_call_function hr.depth (KX _ _ lk) rfl S.co S.gen rfl (W.codeRec_of KX hcd) (hb _ _ _ _ ?_);refine wpAny_newFunctionEnv_cells S.kind hkind fun env he s1 x=>?_;subst he;refine⟨lim.keeps x.toInCall.keep,codeAny_func ?_⟩;obtain⟨t,ht,hq⟩:=hbody A outer s H vs Q E (hr.deeper _) hsp;have e1:Env0 P w K mg base { A with handled:=none } outer s H:=⟨e0.frames,e0.mod,e0.bs,e0.bsz,e0.funs,e0.frf,e0.hok,e0.bare⟩;have I0:Inv (zfE CX0 P w K mg base N qual scope f cdv { A with handled:=none } outer s H E0) [] (start N vs) H s1:=zeJ S rfl e1 hl r x;have I:Inv (cxN P w K mg base N qual scope f cdv A outer s H) [] (start N vs) H s1 :=
  ⟨⟨I0.ok.mod,I0.ok.kind,I0.ok.glob,I0.ok.blt,I0.ok.above,I0.ok.inj,I0.ok.has,I0.ok.cab,(fun z=>Bool.noConfusion z),Around.frames_deeper e0.frames,I0.ok.stk,I0.ok.exf,I0.ok.bs,I0.ok.bsz,I0.ok.noex,I0.ok.exfs,I0.ok.funs,I0.ok.frf⟩,
   I0.os,I0.bare,I0.base,I0.loc,I0.cell,I0.free,I0.freeC,I0.pin,I0.hok,I0.len⟩
 refine wpAny_mono (ht [] s1 (start N vs) H _ I hq) (fun fl s' hs=>?_) fun e s' hs=>hs.elim;have fin:∀ {σ':St} {H':Hp} {v:V} {u:Value},Inv (cxN P w K mg base N qual scope f cdv A outer s H) [] σ' H' s'->RelV v u->Q v H'->CE outer P w H s Q u s' :=
  fun {σ' H' v u} J rv q=>⟨v,H',J.os,J.bare,J.base,J.hok,rv,q⟩
 cases fl with
 | ret u =>
  obtain⟨v,σ',H',J,rv,q⟩:=hs;exact fin J rv q
 | next =>
  obtain⟨σ',H',J,q⟩:=hs;exact fin (v:=V.non) (u:=Value.none) J rfl q
 | brk =>
  obtain⟨_,_,_,q⟩:=hs;exact False.elim q
 | cont =>
  obtain⟨_,_,_,q⟩:=hs;exact False.elim q
end
structure DfN(P:Program)(w:World)(K:W.Frag)(mg:Str->Option Value)(base:Heap)(x:Str)(ps:List Str)(k:Nat)(sp:Sp):Prop where
 ex:∃ f fd,FnOkN P w K mg base CX0 k f fd ps sp/\mg x=some (.ref f)/\W.keepIn K (.ref f)=true/\Binds K fd ps []
section
variable {P:Program} {w:World} {K:W.Frag} {mg:Str->Option Value} {base:Heap} {x:Str} {st:Stmt} {N ps:List Str} {k:Nat}
theorem DfN.dN{q:PN}(D:Dd K mg x st ps)(S:FnScope N ps (zg st))(n:Nat)(hn:N.length=ps.length+n)
  (hbody:∀ (f:Addr) (cdv:Value) (A:Around) (outer:List Env) (s:Shared) (H:Hp),RoomN k (A.deeper (envOfC x (zg st) s.heap.objs.size f cdv)) ->
   ∃ t dt,PSs (cxN P w K mg base N x (zg st) f cdv A outer s H) (zaD st) t/\RS t dt/\∀ xs S R,q xs S R->dt (zbR S.length R) (xs.map some++List.replicate n none) S):DfN P w K mg base x ps (k+1) (spN ps q):=by
 obtain⟨f,fd,F,hm,hb⟩:=D.ex;have kp:=F.kp;obtain⟨oc,od,kV,doc,pm,an,cdv,ct,osl,rfl,lk,hcd⟩:=F.ex;refine⟨f,_,zqj lk hcd S (fun vs H Q E h=>h.1) fun A outer s H vs Q E hr ⟨hl,h,o,S',xs,R,hs',hx,hq,c⟩=>?_,hm,kp,hb⟩;obtain⟨t,dt,h1,h2,h3⟩:=hbody f cdv A outer s H hr;refine⟨t,h1,h2 h o H _ _ S' _ _ ?_ hs' (h3 xs S' R hq) (eok hs' c)⟩;have e:N.length - vs.length=n:=by omega
 unfold start;rw [e];exact zcc hx
end
section
variable {X:Cx} {x:Str} {ps:List Str} {k j:Nat} {pos pos':Pos} {e:Expr} {es:List Expr} {t:TA}
theorem zlc{q:PN}(D:DfN X.prog X.w X.K X.mg X.base x ps k (spN ps q))(hr:RoomN j X.A)(hk:k<=j)(ha:PA X (e :: es) t)(hg:Gl X x:=by rfl)(hdb:(x == ("__debug__":Str))=false:=by decide)
  (q1:starEach (e :: es) X.env=(false,eval e X.env) :: starEach es X.env:=by rfl) (q2:((backTo pos (starEach es X.env)).any fun x=>x.fst)=false:=by rfl):PE X (.Call (.Name x pos') (e :: es) [] pos) (zgN (spN ps q) [] E0 t):=by
 obtain⟨f,fd,F,hm,kp,hb⟩:=D.ex;intro ze s σ H Q I h;refine wpAny_Call_Name_kw (zdU I hg hm ?_ hdb);refine W.callWith_K (h₀:=X.base) I.ok.mod.kin kp (thn (ha pos ze s σ H _ I h) fun us s1 ⟨vs,H1,I1,r,q5⟩=>⟨I1.kIn,?_⟩) q1 q2;have q':spN ps q vs H1 Q E0:=by simpa using q5
 have hl:us.length=ps.length:=by rw [<- r.length]; exact F.len _ _ _ _ q'
 have hb1:=hb s1 us I1.kIn (by rw [append_nil]; exact hl);rw [append_nil] at hb1;refine wpAny_call (codeAny_mono (F.run X.A X.stack s1 H1 ⟨us,[]⟩ us vs Q E0 (hr.mono hk) I1.env0 hb1 r q') fun r s' hq=>?_);cases r with
 | error e=>exact hq.elim
 | ok fl =>
  cases fl with
  | ret u=>exact I1.after hq
  | next=>exact False.elim hq
  | brk=>exact False.elim hq
  | cont=>exact False.elim hq
end
end
end L2
namespace L2
open PySem PySem.Spec PySem.Calls PyProof.Rows PySem.W PySem.Builtin PySem.Builtin.ObjectAttr PySem.Builtin.Getset_descriptor
section
variable {prog:Program} {w:World} {A:Around} {E:Value->Shared->Prop} {h:Heap} {g:Array GenState} {d:Drawn} {t:Nat} {os:OsState} {K:W.Frag} {x C:Addr} {ox:Obj} {od:Option Obj} {name:Str} {tk:Tok}
theorem znQ{tp:Value}{R:Result->Shared->Prop}(X:K.In h)(T0:∀ M,Looks M h (typeOf (.ref x)) (.ref C))(hm:mroIn K C (.type "object")=some true)
  (hr:R (.ok (.ret (.ref C))) ⟨h,g,d,t,os⟩):codeAny (model prog w) A (.call (.builtin "getset_descriptor.__get__") ⟨[.builtin "object.__class__",.ref x,tp],[]⟩) R ⟨h,g,d,t,os⟩:=by
 have L0:=T0 (model prog w);have L1:=looks_mroIn (M:=model prog w) X hm;refine codeAny_call_builtin KF.slot_gs.plain KF.entry_gs (KF.slot_gs.check _ _ _ _ _ _ _ _ KF.type_class (KF.args_gs _ _ _) ?_);unfold Builtin.«getset_descriptor.__get__» descrGet;rw [dga_obj];refine wpAny_bind (wpAny_pure ?_);unfold descrGetter descrCheckInstance descrNameAndClass isInstance;simp only [KF.owner_class]
 repeat lk
 refine⟨Code.quiet_builtin _ (by decide +kernel),codeAny_builtin KF.entry_class ?_⟩;unfold Builtin.«object.__class__» shownTypeOf
 repeat lk
 exact hr
theorem zkN{M:Model}{a gt:Value}(X:K.In h)(ha:findIn K (.ref C) name=some (some a))(hg:specialIn K a "__get__" = some (some gt))(hd:takesIn K a=some true):Looks M h (find (.ref x) (.ref C) name) (.bind gt a):=by
 have L1:=looks_findIn (M:=M) X ha;have L2:Looks M h (getOf (some a)) (some gt):=looks_specialIn X hg;refine L1.andThen (L2.andThen ?_);have L3:=looks_takesIn (M:=M) X hd;exact(show Looks M h (dataDescriptor? (some a) (some gt)) (some (gt,a)) from L3.andThen .now).andThen (Looks.tag .now)
theorem zl2{M:Model}{nameV:Value}{Q:Unit->Shared->Prop}(X:K.In h)(T0:∀ M,Looks M h (typeOf (.ref x)) (.ref C))(hB:mroIn K C (.type "BaseException")=some true)(hq:Q () ⟨h,g,d,t,os⟩):
  wpAny M A (checkBuiltinCall "BaseException.__getattribute__" ⟨[.ref x,nameV],[]⟩) Q E ⟨h,g,d,t,os⟩:=by
 have hk:builtinKind "BaseException.__getattribute__" = some .slot:=by decide +kernel
 have hsplit:splitId "BaseException.__getattribute__" = some ("BaseException","__getattribute__"):=by decide +kernel
 have ha:=F.args_bexc_ga (.ref x) nameV;simp only [checkBuiltinCall,hk,hsplit];refine wpAny_bind ?_;have L0:=T0 M;have L1:=looks_mroIn (M:=M) X hB;have L2:Looks M h (isInstance (.ref x) (.type "BaseException")) true:=L0.andThen L1;refine L2.at ?_
 repeat (any_goals (first | assumption | wp_step))
theorem zfz{v:Value}{Q:Fin->Shared->Prop}(X:K.In h)(T0:∀ M,Looks M h (typeOf (.ref x)) (.ref C))(hf:Looks (model prog w) h (find (.ref x) (.ref C) name) (.value v))(hq:Q (.done (.ret v)) ⟨h,g,d,t,os⟩):
  wpAny (model prog w) A (Builtin.«object.__getattribute__» ⟨[.ref x,.str name tk],[]⟩) Q E ⟨h,g,d,t,os⟩:=by
 have L0:=T0 (model prog w);have L1:=hf;unfold Builtin.«object.__getattribute__»
 repeat (any_goals (first | assumption | with_reducible refine L0.at ?_ | with_reducible refine L1.at ?_ | wp_step))
theorem zft{Q:Fin->Shared->Prop}(X:K.In h)(T0:∀ M,Looks M h (typeOf (.ref x)) (.ref C))(hm:mroIn K C (.type "object")=some true)(hf:Looks (model prog w) h (find (.ref x) (.ref C) "__class__") (.bind (.builtin "getset_descriptor.__get__") (.builtin "object.__class__")))
  (hq:Q (.done (.ret (.ref C))) ⟨h,g,d,t,os⟩):wpAny (model prog w) A (Builtin.«object.__getattribute__» ⟨[.ref x,.str "__class__" tk],[]⟩) Q E ⟨h,g,d,t,os⟩:=by
 have L0:=T0 (model prog w);have L1:=hf;unfold Builtin.«object.__getattribute__»
 repeat (any_goals (first | assumption | with_reducible refine L0.at ?_ | with_reducible refine L1.at ?_ | (refine wpAny_call (znQ X T0 hm ?_)) | wp_step))
structure ExAt(K:W.Frag)(C:Addr):Prop where
 ga:findIn K (.ref C) "__getattribute__" = some (some (.builtin "BaseException.__getattribute__"))
 gn:findIn K (.ref C) "__getattr__" = some none
 base:mroIn K C (.type "BaseException")=some true
theorem zo8{v:Value}{fill expr:Bool}{Q:Value->Shared->Prop}(X:K.In h)(T0:∀ M,Looks M h (typeOf (.ref x)) (.ref C))(F0:ExAt K C)
  (en:∀ (A:Around) (Q:Fin->Shared->Prop) (E:Value->Shared->Prop),Q (.done (.ret v)) ⟨h,g,d,t,os⟩->wpAny (model prog w) A (Builtin.«object.__getattribute__» ⟨[.ref x,.str name tk],[]⟩) Q E ⟨h,g,d,t,os⟩)
  (hv:handedIn v=true) (hq:Q v ⟨h,g,d,t,os⟩):wpAny (model prog w) A (getAttrBy (.ref x) (.str name tk) fill expr) Q E ⟨h,g,d,t,os⟩:=by
 have f3:=F.attrBase_ValueError.ga.bind (.ref x);have hx0:(expr && onTheHeap (Value.builtin "BaseException.__getattribute__"))=false:=by cases expr <;> rfl
 have hx2:(Value.builtin "BaseException.__getattribute__" == Value.builtin "object.__getattribute__")=false:=by decide +kernel
 have hx1:(onTheHeap (Value.ref C) && Value.builtin "BaseException.__getattribute__" == Value.builtin "object.__getattribute__")=false:=by rw [hx2]; rfl
 have L0:=T0 (model prog w);have L1:=looks_findIn (M:=model prog w) X F0.ga;have L2:=looks_findIn (M:=model prog w) X F0.gn
 repeat (any_goals (first | assumption | with_reducible refine L0.at ?_ | with_reducible refine L1.at ?_ | with_reducible refine L2.at ?_ | wp_step))
 exact codeAny_call_builtin F.attrBase_ValueError.ga.plain F.entry_bexc_ga (zl2 X T0 F0.base (en _ _ _ (handed_on hv hq)))
theorem zlE{Q:Option Value->Shared->Prop}(X:K.In h)(T0:∀ M,Looks M h (typeOf (.ref x)) (.ref C))(F0:ExAt K C)(hm:mroIn K C (.type "object")=some true)(hf:Looks (model prog w) h (find (.ref x) (.ref C) "__class__") (.bind (.builtin "getset_descriptor.__get__") (.builtin "object.__class__")))
  (hq:Q (some (.ref C)) ⟨h,g,d,t+1,os⟩):wpAny (model prog w) A (getAttr? (.ref x) "__class__") Q E ⟨h,g,d,t,os⟩:=by
 unfold getAttr? getAttrBy?;refine wpAny_bind (wpAny_mkText (wpAny_bind (wpAny_attempt (zo8 (t:=t+1) X T0 F0 (fun A Q E q=>zft X T0 hm hf q) rfl ?_))));exact wpAny_pure hq
theorem znR{v:Value}{expr:Bool}{Q:Value->Shared->Prop}(X:K.In h)(T0:∀ M,Looks M h (typeOf (.ref x)) (.ref C))(F0:ExAt K C)(hf:Looks (model prog w) h (find (.ref x) (.ref C) name) (.value v))(hv:handedIn v=true)
  (hq:Q v ⟨h,g,d,t+1,os⟩):wpAny (model prog w) A (getAttr (.ref x) name expr) Q E ⟨h,g,d,t,os⟩:=by
 unfold getAttr;exact wpAny_bind (wpAny_mkText (zo8 (t:=t+1) X T0 F0 (fun A Q E q=>zfz X T0 hf q) hv hq))
end
end L2
namespace L2
open PySem PySem.Spec PySem.Calls PyProof.Rows
structure SpK(K:W.Frag):Prop where
 hn:W.specialIn K (.builtin "object.__class__") "__get__" = some (some (.builtin "getset_descriptor.__get__"))
 ht:W.takesIn K (.builtin "object.__class__")=some true
def exM(C:Addr):List Value:=[.ref C,.ref 24,.type "ValueError",.type "Exception",.type "BaseException",.type "object"]
structure ExK(K:W.Frag)(C:Addr):Prop where
 ty:W.typeIn K (.ref C)=some (.type "type")
 ga:W.findIn K (.ref C) "__getattribute__" = some (some (.builtin "BaseException.__getattribute__"))
 gn:W.findIn K (.ref C) "__getattr__" = some none
 cls:W.findIn K (.ref C) "__class__" = some (some (.builtin "object.__class__"))
 mro:∃ cd,W.clsIn K C=some cd/\cd.mro=exM C
theorem ExK.mk'{K:W.Frag}{C:Addr}{cd:ClassData}(a:W.typeIn K (.ref C)=some (.type "type"))(b:W.findIn K (.ref C) "__getattribute__" = some (some (.builtin "BaseException.__getattribute__")))(c:W.findIn K (.ref C) "__getattr__" = some none)
  (d:W.findIn K (.ref C) "__class__" = some (some (.builtin "object.__class__"))) (e:W.clsIn K C=some cd) (f:cd.mro=exM C):ExK K C:=⟨a,b,c,d,cd,e,f⟩
section
variable {K:W.Frag} {x C D:Addr}
theorem ExK.mroIn(E:ExK K C)(v:Value):W.mroIn K C v=some ((exM C).contains v):=by
 obtain⟨cd,h1,h2⟩:=E.mro;unfold W.mroIn;rw [h1];show (if cd.mro.isEmpty=true then none else some (cd.mro.contains v))=_;rw [h2];rfl
theorem ExK.at_(E:ExK K C):ExAt K C:=⟨E.ga,E.gn,(E.mroIn _).trans rfl⟩
def IsEx(x C:Addr)(h:Heap):Prop:=∃ o,h.get? x=some o/\o.cls=.ref C
theorem IsEx.ty{h:Heap}(p:IsEx x C h)(M:Model):W.Looks M h (typeOf (.ref x)) (.ref C):=by
 obtain⟨o,e,c⟩:=p;exact c▸(W.Looks.ld e).andThen .now
theorem zln(E0:ExK K C)(S0:SpK K):W.KitX K (.ref x) (.ref C) (IsEx x C) where
 ty:=fun M h _ p=>p.ty M
 it:=fun M h X _=>by
  obtain⟨cd,hc,_⟩:=E0.mro;unfold W.clsIn at hc;split at hc
  ·rename_i c' d' cd' sl' ho;intro A' Q' E' s' k q;unfold isType loadHead;exact wpAny_bind (wpAny_loadPart (k _ _ (X _ _ ho)) (wpAny_pure q))
  ·cases hc
 ne:=fun h tp dd its n sl X htp=>by
  obtain⟨cd,hc,_⟩:=E0.mro;refine Bool.eq_false_iff.mpr fun q=>?_;have e:C=tp:=Value.ref.inj (beq_iff_eq.mp q);subst e;unfold W.clsIn at hc;split at hc
  ·rename_i c' d' cd' sl' ho;have z:=(X _ _ ho).symm.trans htp;cases z
  ·cases hc
 ca:=fun {prog w A E Q s} X p k=>by
  obtain⟨h,g,d,t,os⟩:=s;exact zlE X p.ty E0.at_ ((E0.mroIn _).trans rfl) (zkN X E0.cls S0.hn S0.ht) k
def excs:List Addr:=[37,49,61,73,85,104,123,142,161,180]
def exc0:List Addr:=[37,49,61,73,85]
structure Exs(K:W.Frag):Prop where
 sp:SpK K
 all:∀ C∈excs,ExK K C
 cl:∀ C∈exc0,ExCls K C none
 ci:∀ C∈excs,∃ ini,ExCls K C ini
theorem Exs.kit(E:Exs K)(hC:C∈excs)(hD:D∈excs):W.kitOne K (.ref C) (.ref D)=some (decide (C=D)):=by
 have EC:=E.all C hC;have ED:=E.all D hD;obtain⟨cdD,hD1,_⟩:=ED.mro;unfold W.kitOne;by_cases h:C=D
 ·subst h;rw [if_pos (by simp),decide_eq_true rfl]
 ·rw [if_neg (by simpa using h),decide_eq_false h];show (if ((W.clsIn K D).isSome && W.typeIn K (.ref D) == some (.type "type"))=true then W.mroIn K C (.ref D) else none)=_;rw [hD1,ED.ty,if_pos (by simp),EC.mroIn];have n24:D≠24:=by
   rintro rfl
   revert hD
   decide
  have:(exM C).contains (.ref D)=false:=by
   unfold exM;simp only [List.contains_cons,List.contains_nil,Bool.or_false,Bool.or_eq_false_iff];refine⟨beq_eq_false_iff_ne.mpr fun z=>h (Value.ref.inj z).symm,beq_eq_false_iff_ne.mpr fun z=>n24 (Value.ref.inj z),?_⟩;simp
  rw [this]
theorem Exs.kitV(E:Exs K)(hC:C∈excs):W.kitOne K (.ref C) (.type "ValueError")=some true:=by
 have EC:=E.all C hC;unfold W.kitOne;rw [if_neg (by simp)];show (if W.kitMeta "ValueError" = true then W.mroIn K C (.type "ValueError") else none)=_;rw [if_pos (by decide +kernel),EC.mroIn];rfl
end
def zrz(K:W.Frag):List V->Hp->VK->Prop:=fun xs H Q=>∃ a C d c b,xs=[.ref a,c]/\H a=some (exO a C d)/\ExK K C/\SpK K/\(∀ u,RelV c u->W.kitOne K (.ref C) u=some b)/\Q (.bl b) H
theorem za8{X:Cx}:CallR X (.builtin "isinstance") (zrz X.K):=by
 intro ze s σ H xs us Q I r h;obtain⟨a,C,d,c,b,rfl,ha,E0,S0,hk,q⟩:=h;obtain⟨u,w',rfl,ru,rw'⟩:=vals2 r;cases (show u=Value.ref a from ru);obtain⟨⟨o,e,hc,_⟩,_⟩:=(show ObjOk X.prog X.w H s.heap a (exO a C d) from I.hok a _ ha);exact W.kia_one (zln E0 S0) I.kIn ⟨o,e,hc⟩ (hk _ rw') (fun z=>nomatch z) fun tk=>⟨.bl b,H,I.tok tk,rfl,q⟩
def zit:List XV->Sto->RX->Prop:=fun xs S R=>arg2 xs fun x y=>∃ C fs c,x=.x C fs/\y=.o c/\C∈excs/\((∃ D,c=.ref D/\D∈excs/\R (.d (.bool (decide (C=D)))) S)\/(c=.ty "ValueError"/\R (.d (.bool true)) S))
theorem zcA{K:W.Frag}(E:Exs K):RC (zrz K) zit:=fun h o H S xs vs R Q hs hx q c=>by
 obtain⟨x,y,rfl,C,fs,k,rfl,rfl,hC,q1⟩:=zgq q;obtain⟨v,u,rfl,hx1,hx2⟩:=hxs2 hx;obtain⟨a,d,rfl,ha,_⟩:=hx1;cases (show u=k from hx2);rcases q1 with ⟨D,rfl,hD,q2⟩ | ⟨rfl,q2⟩
 ·exact⟨a,C,d,_,_,rfl,zad _ _ ha,E.all C hC,E.sp,fun u ru=>by cases (show u=Value.ref D from ru); exact E.kit hC hD,c o H S _ _ Ex.refl hs (xB _) q2⟩
 ·exact⟨a,C,d,_,_,rfl,zad _ _ ha,E.all C hC,E.sp,fun u ru=>by cases (show u=Value.type "ValueError" from ru); exact E.kitV hC,c o H S _ _ Ex.refl hs (xB _) q2⟩
def zk0:V->List V->Hp->VK->Prop:=fun x vs H Q=>∃ bs:List Bool,Has H (.list (bs.map PyData.bool)) x/\vs=[.bl true]/\Q (.int (bs.countP id)) H
theorem zj5{X:Cx}:MtR X "list.count" zk0:=by
 intro ze s σ H x vs v us Q I rx rv h;obtain⟨bs,hl,rfl,q⟩:=h;obtain⟨u,rfl,r1⟩:=rv.one;cases (show u=Value.bool true from r1);have cl:PyData.canLay0 (.list (bs.map PyData.bool))=true:=SeqAt.canLay_of_shaped (ziA (zhR fun _ _=>(zie:Shp 0 _))).ok;obtain⟨as,q2⟩:=Has.reads I (.list (bs.map PyData.bool)) x v hl cl rx;cases q2 with
 | @list l o vs n xs as₁ h1 h2 h3 h4 =>
  refine count_list_bools (vs:=vs.toList) ⟨o,h1,h2,n,by simpa using h3⟩ h4 (by simp [Shape.has]) ?_;refine⟨.int (bs.countP id),H,I.tok _,⟨s.toks,?_⟩,q⟩;have:∀ bs:List Bool,countIn (.bool true) (bs.map PyData.bool)=(bs.countP id:Int):=fun bs=>by
   induction bs with
   | nil=>rfl
   | cons b bs ih =>
    rw [map_cons,List.countP_cons];show (if same (.bool b) (.bool true) then (1:Int) else 0)+countIn (.bool true) (bs.map PyData.bool)=_;rw [ih];cases b
    ·show (0:Int)+_=_;simp
    ·show (1:Int)+_=_;simp;omega
  rw [this]
def zgd:XV->List XV->Sto->RX->Prop:=fun x xs S R=>arg1 xs fun y=>y=.d (.bool true)/\∃ ds,zjk S x=some ds/\∃ bs:List Bool,ds=bs.map PyData.bool/\R (.d (.int (bs.countP id))) S
theorem zjv:RM zk0 zgd:=fun h o H S x v xs vs R Q hs hx hxs q c=>by
 obtain⟨y,rfl,rfl,ds,e2,bs,rfl,q1⟩:=zaY q;obtain⟨u,rfl,hu⟩:=hxs1 hxs;have hl:Has H (.list (bs.map PyData.bool)) v:=zbB (x:=x) hs (by
  unfold zjk at e2;split at e2
  ·cases e2; rfl
  ·rename_i k; show (S[k]?).map PyData.list=_; rw [e2]; rfl
  ·cases e2) hx
 cases zdo hu;exact⟨bs,hl,rfl,c o H S _ _ Ex.refl hs (xI _) q1⟩
def zim(q:PN)(da:DA):DE:=fun δ S R=>da δ S fun xs S1=>∃ C fs,xs=[.x C fs]/\q [.x C fs] [] (ret0 S1 R)
theorem hxE{h o:List Addr}{H:Hp}{C:Addr}{fs:List (Str×PyData)}{v:V}(hx:HasX h o H (.x C fs) v):HasX (h++o) [] H (.x C fs) v:=by
 have e:vx (h++o) [] H=vx h o H:=zhe fun b=>by simp
 show HasE (vx (h++o) [] H) C fs v;rw [e];exact hx
theorem zl7{ps:List Str}{q:PN}{tl:TA}{dl:DA}(hp:ps.length=1)(ha:RA tl dl):RE (zgN (spN ps q) [] E0 tl) (zim q dl):=fun h o H δ σ S R Q he hs d c =>
 ha h o H δ σ S _ _ he hs d fun o1 H1 S1 xs vs e1 s1 x1 ⟨C,fs,exs,d1⟩=>by
  subst exs;obtain⟨v,rfl,hv⟩:=hxs1 x1;refine⟨by simp [hp],h++o1,[],[],[.x C fs],_,rep0 s1,⟨v,[],rfl,hxE hv,rfl⟩,d1,cn0 s1 (c.pre e1)⟩
end L2
namespace L2
open PySem PySem.Spec PyProof.Rows
section
abbrev EXD:=Addr->List (Str×PyData)->Prop
abbrev PX:=List XV->Sto->RX->EXD->Prop
def CnX(h o:List Addr)(H:Hp)(EX:EXD)(E:XK):Prop:=∀ o' H' S' C a fs,Ex o H o' H'->RepS h o' H' S'->HasE (vx h o' H') C fs (.ref a)->EX C fs->E (.ref C) (some a) H'
theorem CnX.pre{h o o':List Addr}{H H':Hp}{EX:EXD}{E:XK}(c:CnX h o H EX E)(e:Ex o H o' H'):CnX h o' H' EX E:=fun o2 H2 S2 C a fs e2=>c o2 H2 S2 C a fs (e.trans e2)
def RSx(E:XK)(EX:EXD)(t:TS)(dt:DS):Prop:=∀ (h o:List Addr) (H:Hp) (δ:XE) (σ:St) (S:Sto) (En:DEnds) (D:Ends),RepE h o H δ σ->RepS h o H S->dt En δ S->EOk h o H En D->CnX h o H EX E->t D σ H
section
variable {E:XK} {EX:EXD} {t u:TS} {dt du:DS}
theorem zh8(ht:RS t dt):RSx E EX t dt:=fun h o H δ σ S En D he hs q c _=>ht h o H δ σ S En D he hs q c
theorem zmY(ht:RSx E EX t dt)(hu:RSx E EX u du):RSx E EX (znf t u) (zac dt du):=fun h o H δ σ S En D he hs q c x =>
 ht h o H δ σ S _ _ he hs q ⟨fun o1 H1 δ1 S1 σ1 e1 he1 hs1 q1=>hu h o1 H1 δ1 σ1 S1 En D he1 hs1 q1 (c.pre e1) (x.pre e1),c.rt,c.bk,c.ct⟩ x
end
def spX(ps:List Str)(q:PX):Sp:=fun vs H Q E=>vs.length=ps.length/\∃ h o S xs R EX,RepS h o H S/\HasXs h o H xs vs/\q xs S R EX/\Cn h o H R Q/\CnX h o H EX E
structure DfX(P:Program)(w:World)(K:W.Frag)(mg:Str->Option Value)(base:Heap)(x:Str)(ps:List Str)(k:Nat)(sp:Sp):Prop where
 ex:∃ f fd,FnOk P w K mg base (CX1 P w) k f fd ps sp/\mg x=some (.ref f)/\W.keepIn K (.ref f)=true/\Binds K fd ps []
def zpc(sp:Sp)(t:TA):XK->TE:=fun Ex σ H Q=>t σ H fun vs H1=>sp vs H1 Q Ex
theorem zqK{X:Cx}{q:PX}{x:Str}{ps:List Str}{k j:Nat}{pos pos':Pos}{e:Expr}{es:List Expr}{t:TA}(D:DfX X.prog X.w X.K X.mg X.base x ps k (spX ps q))(hr:Room j X.A)(hk:k<=j)(hx:∀ e s,X.xe e s->False)(ha:PA X (e :: es) t)(hg:Gl X x:=by rfl)(hdb:(x == ("__debug__":Str))=false:=by decide)
  (q1:starEach (e :: es) X.env=(false,eval e X.env) :: starEach es X.env:=by rfl) (q2:((backTo pos (starEach es X.env)).any fun x=>x.fst)=false:=by rfl):PEX X (.Call (.Name x pos') (e :: es) [] pos) (zpc (spX ps q) t):=by
 obtain⟨f,fd,F,hm,kp,hb⟩:=D.ex;exact zon hx F (hr.mono hk) hg hm kp hb ha hdb q1 q2
end
section
def KnOk(kn:DEnds->XE->RX)(kt:Ends->St->VK):Prop:=∀ (h o:List Addr) (H:Hp) (δ:XE) (σ:St) (En:DEnds) (D:Ends),RepE h o H δ σ->EOk h o H En D->Cn h o H (kn En δ) (kt D σ)
theorem zgi:bootBuiltins "ValueError" = some (.type "ValueError"):=by decide +kernel
end
end L2
namespace L2
open PySem PySem.Spec PySem.Calls PyProof.Rows PySem.W PySem.Builtin PySem.Builtin.ObjectAttr
theorem zka(self:Value)(C:Addr):refuseLoop self "__setattr__" (exM C)=pure ():=by
 unfold exM;rw [refuseLoop_ref,refuseLoop_ref];exact F.store_ValueError.passes self
theorem zpz{K:W.Frag}{h:Heap}{C:Addr}{cd:ClassData}(X:K.In h)(e:clsIn K C=some cd):∃ c0 dd sl,h.get? C=some ⟨c0,dd,.cls cd,sl⟩:=by
 unfold clsIn at e;split at e
 ·rename_i q;cases e;exact⟨_,_,_,X _ _ q⟩
 ·cases e
section
variable {prog:Program} {w:World} {A:Around} {E:Value->Shared->Prop} {h:Heap} {g:Array GenState} {d:Drawn} {t:Nat} {os:OsState} {K:W.Frag} {x C:Addr} {o:Obj} {cd:ClassData} {name:Str} {v:Value} {mA:Str->Option Value}
def XAt(h:Heap)(x:Addr)(o:Obj)(mA:Str->Option Value):Prop:=h.get? x=some o/\(∀ c,o.data≠.cls c)/\((o.dict=none/\∀ n,mA n=none)\/∃ dx,o.dict=some dx/\dx≠x/\h.Ns1 dx mA)
theorem zlG{tk:Tok}{Q:Fin->Shared->Prop}{ns:List Str}(X:K.In h)(hcd:clsIn K C=some cd)(hm:cd.mro=exM C)(hdct:cd.hasDict=true)(hna:findIn K (.ref C) name=some none)(hc:o.cls=.ref C)(I:XAt h x o mA)
  (hq:∀ h' tk' dx,XAt h' x { o with dict:=some dx } (fun y=>if y=name then some v else mA y)->(o.dict=some dx\/o.dict=none/\h.objs.size<=dx)->(∀ b ob,b≠x->b≠dx->h.get? b=some ob->h'.get? b=some ob)->Q (.done (.ret .none)) ⟨h',g,d,tk',os⟩)
  (hw:Within mA ns) (hsz:ns.length+1<=sizeLine) :
  wpAny (model prog w) A (Builtin.«object.__setattr__» ⟨[.ref x,.str name tk,v],[]⟩) Q E ⟨h,g,d,t,os⟩:=by
 obtain⟨hx,hnc,hd⟩:=I;have hpass:=zka (.ref x) C;have Lm:Looks (model prog w) h (mroOf (.ref C)) (exM C):=by rw [<- hm]; exact(looks_clsIn X hcd).andThen .now
 have La:=looks_findIn (M:=model prog w) X hna;obtain⟨c0,dd,sl,hC⟩:=zpz X hcd;unfold Builtin.«object.__setattr__»
 repeat (first | with_reducible refine wpAny_loadPart_at hC ?_ | rw [refuse_eq] | rw [hpass] | (with_reducible refine wpAny_loadPart_at hx ?_; rw [hc]) | with_reducible refine Lm.at ?_ | with_reducible refine La.at ?_ | wp_step)
 rcases hd with ⟨hdn,hmA⟩ | ⟨dx,hdx,hne,hns⟩
 ·rw [hdn,if_neg (by simp [typeHasDict])];split
  ·rename_i z;cases z
  split
  ·rename_i c z;exact absurd z (hnc c)
  have hx1:(h.push { cls:=.type "dict",data:=.dict #[] }).get? x=some o:=get?_push_of_some _ hx;have hxs:x≠h.objs.size:=ne_of_lt (lt_size hx);refine wpAny_bind (wpAny_alloc' (wpAny_bind (wpAny_update' hx1 (wpAny_pure ?_))));have gd:((h.push { cls:=.type "dict",data:=.dict #[] }).update x fun o=>{ cls:=o.cls,dict:=some h.objs.size,data:=o.data,slots:=o.slots }).get? h.objs.size=some { cls:=.type "dict",data:=.dict #[] } :=
   (get?_update_ne _ _ _ _ hxs.symm).trans (Heap.get?_push_at rfl rfl)
  have nd:((h.push { cls:=.type "dict",data:=.dict #[] }).update x fun o=>{ cls:=o.cls,dict:=some h.objs.size,data:=o.data,slots:=o.slots }).Ns h.objs.size (fun _=>none) :=
   ⟨_,#[],_,gd,rfl,fun e he=>absurd he (by simp),fun _=>rfl⟩
  show wpAny _ _ (storeInDict h.objs.size (.str name tk) name v) _ _ _;unfold storeInDict newKeyGuard;refine wpAny_bind (wpAny_pure (wpAny_bind (wpAny_nsSet1 (Heap.Ns1.of_empty nd) fun h' hn' hs=>?_)));obtain⟨oD,esD,epD,hoD,hdD,hcD⟩:=hn'.count (Within.cons name v Within.nil);refine wpAny_bind (wpAny_lookBehind hoD (by rw [hdD]; exact pastItsLine_dict (le_trans hcD (by rw [length_cons,length_nil,sizeLine_eq]; omega))) ?_)
  wp_walk
  have hx':h'.get? x=some { cls:=o.cls,dict:=some h.objs.size,data:=o.data,slots:=o.slots }:=by
   refine(hs.2 x hxs).trans (get?_update_self _ hx1 ?_);have hfr:=(Heap.get?_some_iff.mp hx).2;obtain⟨oc,od,odt,osl⟩:=o;cases odt <;> first | rfl | exact hfr
  refine hq h' _ h.objs.size ⟨hx',hnc,.inr ⟨h.objs.size,rfl,hxs.symm,?_⟩⟩ (.inr ⟨hdn,le_refl _⟩) (fun b ob nb n2 q=>(hs.2 b n2).trans ((get?_update_ne _ _ _ _ nb).trans (get?_push_of_some _ q)));obtain⟨o',es,ep,e1,e2,e3,eu,e4⟩:=hn';exact⟨o',es,ep,e1,e2,e3,eu,fun y=>by rw [e4 y]; by_cases hy:y=name <;> simp [hy,hmA]⟩
 ·rw [hdx];refine wpAny_pure ?_;show wpAny _ _ (storeInDict dx (.str name tk) name v) _ _ _;unfold storeInDict newKeyGuard;refine wpAny_bind (wpAny_pure (wpAny_bind (wpAny_nsSet1 hns fun h' hn' hs=>?_)));obtain⟨oD,esD,epD,hoD,hdD,hcD⟩:=hn'.count (Within.cons name v hw);refine wpAny_bind (wpAny_lookBehind hoD (by rw [hdD]; exact pastItsLine_dict (le_trans hcD (by rw [length_cons]; omega))) ?_)
  wp_walk
  have eo:({ o with dict:=some dx }:Obj)=o:=by rw [<- hdx]
  refine hq h' _ dx ?_ (.inl hdx) fun b ob _ nd q=>(hs.2 b nd).trans q;rw [eo];exact⟨(hs.2 x hne.symm).trans hx,hnc,.inr ⟨dx,hdx,hne,hn'⟩⟩
theorem zfW{Q:Unit->Shared->Prop}{ns:List Str}(X:K.In h)(hcd:clsIn K C=some cd)(hm:cd.mro=exM C)(hdct:cd.hasDict=true)(hsa:findIn K (.ref C) "__setattr__" = some (some (.builtin "object.__setattr__")))(hna:findIn K (.ref C) name=some none)(hob:mroIn K C (.type "object")=some true)(hc:o.cls=.ref C)(I:XAt h x o mA)
  (hq:∀ h' tk' dx,XAt h' x { o with dict:=some dx } (fun y=>if y=name then some v else mA y)->(o.dict=some dx\/o.dict=none/\h.objs.size<=dx)->(∀ b ob,b≠x->b≠dx->h.get? b=some ob->h'.get? b=some ob)->Q () ⟨h',g,d,tk',os⟩)
  (hw:Within mA ns) (hsz:ns.length+1<=sizeLine) :
  wpAny (model prog w) A (setAttr (.ref x) name v) Q E ⟨h,g,d,t,os⟩:=by
 have hx:=I.1;have SF:=F.store_ValueError;have f3:=SF.slot.bind (.ref x);have L1:=looks_findIn (M:=model prog w) X hsa;have T0:∀ M,Looks M h (typeOf (.ref x)) (.ref C):=fun M=>hc▸(Looks.ld hx).andThen .now;unfold setAttr callSpecial? specialOf
 repeat (any_goals (first | assumption | (with_reducible refine wpAny_loadPart_at hx ?_; rw [hc]) | with_reducible refine L1.at ?_ | wp_step))
 refine codeAny_call_builtin SF.slot.plain SF.entry (@check_slot (model prog w) _ _ _ "object.__setattr__" "object" "__setattr__" (.ref x) [.str name t,v] [] _ SF.kind SF.split ((T0 _).andThen (looks_mroIn X hob)) (SF.args (.ref x) (.str name t) v) (zlG X hcd hm hdct hna hc I (fun h' tk' dx a b c=>?_) hw hsz));exact wpAny_pure (wpAny_pure (hq h' tk' dx a b c))
end
end L2
namespace L2
open PySem PySem.Spec PySem.Calls PyProof.Rows PySem.W
def exF(t:Addr):Data:=.fields #[.ref t,.none,.none,.none,.bool false,.none]
def exN(a C:Addr)(d:Option Addr)(t:Addr):HO:=.ext fun h=>h.get? a=some { cls:=.ref C,dict:=d,data:=exF t }
theorem zmN{P:Program}{w:World}{H:Hp}{h:Heap}{a C t:Addr}{d:Option Addr}(e:h.get? a=some { cls:=.ref C,dict:=d,data:=exF t }):ObjOk P w H h a (exN a C d t):=⟨e,⟨_,e⟩,fun _ _ q k=>k _ q⟩
theorem zoR{P:Program}{w:World}{H:Hp}{h:Heap}{dx:Addr}{fs:List (Str×V)}{mA:Str->Option Value}(n:h.Ns1 dx mA)(r:∀ f,RelO (fs.lookup f) (mA f))(wi:PySem.Within mA (fs.map (·.1))):ObjOk P w H h dx (xw dx fs) :=
 ⟨⟨mA,n,r,wi⟩,let ⟨o,_,_,e,_⟩:=n; ⟨o,e⟩,fun _ _ ⟨mA,n,r,wi⟩ k=>⟨mA,n.at k,r,wi⟩⟩
structure ExI(K:W.Frag)(C:Addr):Prop where
 k:ExK K C
 hd:W.hasDictIn K C=true
 sa:W.findIn K (.ref C) "__setattr__" = some (some (.builtin "object.__setattr__"))
def zpF(K:W.Frag)(ta tv:TE)(f:Str):TS:=fun D σ H=>tv σ H fun y H1=>ta σ H1 fun x H2=>∃ a C t,x=.ref a/\ExI K C/\NoAttr K C f /\
  ((H2 a=some (exN a C none t)/\∀ dx,H2 dx=none->D.nx σ (upd (upd H2 a (exN a C (some dx) t)) dx (xw dx [(f,y)]))) \/
   ∃ dx fs,H2 a=some (exN a C (some dx) t)/\H2 dx=some (xw dx fs)/\dx≠a/\fs.length<100/\D.nx σ (upd H2 dx (xw dx (zjc f y fs))))
section
variable {X:Cx} {o value:Expr} {f:Str} {pos pos':Pos} {ta tv:TE}
theorem zne(ha:PE X o ta)(hv:PE X value tv)(hs:swapsWith value (some (.Attribute o f pos')) pos.line X.env=pure false):PS X (.Assign [.Attribute o f pos'] value pos) (zpF X.K ta tv f):=by
 intro ze s σ H D I h;refine plainObj_wpAny_Assign_Attribute (thn (hv ze s σ H _ I h) fun u s1 ⟨y,H1,I1,ry,q⟩=>thn (ha ze s1 σ H1 _ I1 q) fun ov s2 ⟨x,H2,I2,rx,a,C,t,ex,xi,na,q2⟩=>?_) hs;subst ex;obtain rfl:ov=Value.ref a:=rx;obtain⟨cd,hcd,hm⟩:=xi.k.mro;have hdct:cd.hasDict=true:=by
  have:=xi.hd;unfold W.hasDictIn at this;rw [hcd] at this;simpa using this
 have hob:mroIn X.K C (.type "object")=some true:=(xi.k.mroIn _).trans (by simp [exM]);obtain⟨hp,g,d,tk,os⟩:=s2;rcases q2 with ⟨ea,q2⟩ | ⟨dx,fs,ea,ed,ne,hl,q2⟩
 ·obtain⟨e1,_,_⟩:=(show ObjOk X.prog X.w H2 hp a (exN a C none t) from I2.hok a _ ea);refine zfW (o:={ cls:=.ref C,dict:=none,data:=exF t }) (mA:=fun _=>none) (ns:=[]) I2.kIn hcd hm hdct xi.sa na hob rfl ⟨e1,(fun c z=>by cases z),.inl ⟨rfl,fun _=>rfl⟩⟩ (fun h' tk' dx xa od kp=>?_) (fun y z=>absurd rfl z) (by show 1<=sizeLine; rw [sizeLine_eq]; omega);obtain⟨x1,_,x2⟩:=xa;have hsz:hp.objs.size<=dx:=by
   rcases od with z | z
   ·cases z
   ·exact z.2
  obtain⟨dx',z,nx,n1⟩:∃ d,some dx=some d/\d≠a/\h'.Ns1 d (fun y=>if y=f then some u else none):=by
   rcases x2 with ⟨z,_⟩ | z
   ·cases z
   ·exact z
  cases z;have g1:(hp.update a fun o=>{ o with dict:=some dx }).get? a=some { cls:=.ref C,dict:=some dx,data:=exF t }:=get?_update_self _ e1 rfl
  have J:=I2.write (x:=a) (e:=a) (o:=exN a C (some dx) t) (h':=hp.update a fun o=>{ o with dict:=some dx }) (t':=tk) (by rw [ea]; exact True.intro) (.inl rfl) (fun b v nb z=>(get?_update_ne _ _ _ _ nb).trans z) ⟨_,g1⟩ (zmN g1);have J2:=J.laid (a:=dx) (o:=xw dx [(f,y)]) (h':=h') (t':=tk') (fun b v z=>?_) (by show (hp.update a _).objs.size<=dx; rw [Heap.size_update]; exact hsz) (zoR n1 (fun g=>?_) fun g hg=>?_)
  ·exact⟨σ,_,J2,q2 dx (I2.hok.fresh hsz)⟩
  ·by_cases nb:b=a
   ·subst nb;rw [g1] at z;cases z;exact x1
   ·have z':hp.get? b=some v:=(get?_update_ne _ _ _ _ nb).symm.trans z;exact kp b v nb (fun e=>absurd (lt_size z') (by rw [e]; exact Nat.not_lt.mpr hsz)) z'
  ·show RelO ((zjc f y []).lookup g) (if g=f then some u else none);rw [zdp];by_cases q:g=f
   ·rw [if_pos q,if_pos q]; exact ry
   ·rw [if_neg q,if_neg q]; exact True.intro
  ·by_cases e:g=f
   ·subst e; simp
   ·rw [if_neg e] at hg;exact absurd rfl hg
 ·obtain⟨e1,_,_⟩:=(show ObjOk X.prog X.w H2 hp a (exN a C (some dx) t) from I2.hok a _ ea);obtain⟨⟨mA,n1,r1,w1⟩,_,_⟩:=(show ObjOk X.prog X.w H2 hp dx (xw dx fs) from I2.hok dx _ ed);refine zfW (o:={ cls:=.ref C,dict:=some dx,data:=exF t }) (mA:=mA) (ns:=fs.map (·.1)) I2.kIn hcd hm hdct xi.sa na hob rfl ⟨e1,(fun c z=>by cases z),.inr ⟨dx,rfl,ne,n1⟩⟩ (fun h' tk' dx2 xa od kp=>?_) w1 (by rw [length_map,sizeLine_eq]; omega);obtain rfl:dx=dx2:=by
   rcases od with z | z
   ·exact Option.some.inj z
   ·cases z.1
  obtain⟨x1,_,x2⟩:=xa;obtain⟨dx',z,nx,n2⟩:∃ d,some dx=some d/\d≠a/\h'.Ns1 d (fun y=>if y=f then some u else mA y):=by
   rcases x2 with ⟨z,_⟩ | z
   ·cases z
   ·exact z
  cases z;have J:=I2.write (x:=dx) (e:=dx) (o:=xw dx (zjc f y fs)) (h':=h') (t':=tk') (by rw [ed]; exact True.intro) (.inl rfl) (fun b v nb z=>?_) (let ⟨o,_,_,e,_⟩:=n2; ⟨o,e⟩) (zoR n2 (fun g=>?_) fun g hg=>?_)
  ·exact⟨σ,_,J,q2⟩
  ·by_cases e:b=a
   ·subst e;rw [e1] at z;cases z;exact x1
   ·exact kp b v e nb z
  ·show RelO ((zjc f y fs).lookup g) (if g=f then some u else mA g);rw [zdp];by_cases q:g=f
   ·rw [if_pos q,if_pos q]; exact ry
   ·rw [if_neg q,if_neg q]; exact r1 g
  ·by_cases q:g=f
   ·rw [q]; exact(zeZ f y fs).1
   ·refine(zeZ f y fs).2 g (w1 g fun z=>hg ?_);show (if g=f then some u else mA g)=none;rw [if_neg q]; exact z
end
end L2
namespace L2
open PySem PySem.Spec PySem.Calls PyProof.Rows
section
variable {prog:Program} {w:World} {A:Around} {E:Value->Shared->Prop} {h:Heap} {g:Array GenState} {d:Drawn} {t:Nat} {os:OsState}
variable {nm q:Str} {C N:Addr} {bs bm:List Value} {hdct:Bool} {sn:List Str} {sub:List Value} {ab:Bool} {col:Option Bool} {dd:Option Addr} {k0 k1 k2 k3 k5:Option Value} {mN:Str->Option Value} {rest:List Value} {fI:Addr} {oI:Obj}
theorem zfm(T:OwnTail h veB bm){Q:Fin->Shared->Prop}
  (hC:h.get? C=some (excClassObj nm q C N bs bm hdct sn sub ab col dd k0 k1 k2 k3 k5 "ValueError.__new__")) (hn:h.Ns N mN) (hi:mN "__init__" = some (.ref fI)) (hfI:h.get? fI=some oI) (hfc:oI.cls=.type "function")
  (hq:∀ h' e,h.objs.size<=e->Heap.MadeExcOf h h' e (.ref C) rest->wpAny (model prog w) A (call (.ref fI) (.ref e :: rest)) (fun r s'=>r=.none/\Q (.done (.ret (.ref e))) s') E ⟨h',g,d,t,os⟩) (hrest:rest.length<=sizeLine) :
  wpAny (model prog w) A (Builtin.«type.__call__» ⟨.ref C :: rest,[]⟩) Q E ⟨h,g,d,t,os⟩:=by
 have Fn:=F.excBase_ValueError;have hBn:veB.contains (.type "ValueError")=true:=by decide +kernel
 repeat (first | with_reducible refine wpAny_loadPart_at hC ?_ | with_reducible refine wpAny_madeBy_exc hC ?_ | wp_step)
 refine codeAny_call_builtin_code (Code.quiet_builtin _ Fn.quiet) (wpAny_check_new_subU Fn hBn T hC ?_);refine codeAny_exc_new_subU Fn hBn Fn T hC ?_ hrest;show wpAny _ _ _ _ _ _;generalize hh:((h.push { cls:=.type "tuple",data:=.seq rest.toArray }).push { cls:=.ref C,data:=.fields #[.ref h.objs.size,.none,.none,.none,.bool false,.none] })=h1;have keep:∀ b o,h.get? b=some o->h1.get? b=some o:=fun b o e=>by rw [<- hh]; exact get?_push_of_some _ (get?_push_of_some _ e)
 have hC1:=keep _ _ hC;have hn1:h1.Ns N mN:=let ⟨o,es,ep,e,r⟩:=hn; ⟨o,es,ep,keep _ _ e,r⟩;have hfI1:=keep _ _ hfI;have hget:h1.get? (h.objs.size+1)=some { cls:=.ref C,data:=.fields #[.ref h.objs.size,.none,.none,.none,.bool false,.none] }:=by rw [<- hh]; heap_get
 have hcC:(Value.ref C :: bm).contains (.ref C)=true:=by simp
 have T1:=T.keeps keep;unfold isInstance
 repeat (first | with_reducible refine wpAny_loadPart_at hget ?_ | (with_reducible refine wpAny_isSubtype_exc hC1 ?_; rw [hcC]) | wp_step)
 show wpAny _ _ (typeLookup (.ref C) _) _ _ _;refine wpAny_typeLookup_tail hC1 hn1 T1 Fn.mroIs Fn.init.lookup ?_;rw [hi];refine wpAny_holding (wpAny_bind ?_);unfold bindSpecial;refine wpAny_bind (wpAny_typeOf (T:="function") ⟨_,hfI1,hfc⟩ ?_);rw [if_pos dz];refine wpAny_pure (wpAny_bind (wpAny_mono (hq h1 (h.objs.size+1) (le_succ _) ⟨keep,Heap.get?_none_of_le (le_succ _),h.objs.size,hget,Heap.get?_none_of_le (le_refl _),?_⟩) (fun r s' hr=>?_) fun _ _ x=>x))
 ·rw [<- hh];exact get?_push_of_some _ (Heap.get?_push_at rfl rfl)
 ·obtain⟨rfl,hQ⟩:=hr
  wp_walk
  exact hQ
theorem zj0(T:OwnTail h veB bm){Q:Value->Shared->Prop}
  (hC:h.get? C=some (excClassObj nm q C N bs bm hdct sn sub ab col dd k0 k1 k2 k3 k5 "ValueError.__new__")) (hn:h.Ns N mN) (hi:mN "__init__" = some (.ref fI)) (hfI:h.get? fI=some oI) (hfc:oI.cls=.type "function")
  (hq:∀ h' e,h.objs.size<=e->Heap.MadeExcOf h h' e (.ref C) rest->wpAny (model prog w) (A.under (.builtin "type.__call__" ⟨.ref C :: rest,[]⟩)) (call (.ref fI) (.ref e :: rest)) (fun r s'=>r=.none/\Q (.ref e) s') E ⟨h',g,d,t,os⟩) (hrest:rest.length<=sizeLine) :
  wpAny (model prog w) A (call (.ref C) rest) Q E ⟨h,g,d,t,os⟩:=by
 have f1:=tc_lookup;have f2:=tc_bind (.ref C);have hT:(⟨h,g,d,t,os⟩:Shared).TypeIs (.ref C) "type":=⟨_,hC,rfl⟩;refine wpAny_call (codeAny_of_tree ?_);show wpAny _ _ (callAny (.ref C) _) _ _ _
 repeat (any_goals (first | assumption | with_reducible refine wpAny_loadPart_at hC ?_ | wp_step))
 refine⟨rfl,?_⟩;exact codeAny_call_builtin_at (Code.quiet_builtin _ (by decide +kernel)) entry_typeCall (wpAny_check_type_call_sub hC (zfm T hC hn hi hfI hfc (fun h' e hz hm=>hq h' e hz hm) hrest))
end
section
variable {prog:Program} {w:World} {A:Around} {E:Value->Shared->Prop} {s:Shared} {env:Env}
variable {nm q:Str} {C N:Addr} {bs bm:List Value} {hdct:Bool} {sn:List Str} {sub:List Value} {ab:Bool} {col:Option Bool} {dd:Option Addr} {k0 k1 k2 k3 k5:Option Value} {newId:String}
theorem zjw{M:Model}{x:Sem Value}{Q:Flow->Shared->Prop}(hbase:bm.contains (.type "BaseException")=true)(hh:A.handled=none)
  (h:wpAny M A x (fun v s1=>∃ e t dx,v=.ref e/\s1.heap.get? C=some (excClassObj nm q C N bs bm hdct sn sub ab col dd k0 k1 k2 k3 k5 newId)/\s1.heap.get? e=some { cls:=.ref C,dict:=dx,data:=.fields #[.ref t,.none,.none,.none,.bool false,.none] }/\E (.ref e) s1) E s) :
  wpAny M A (raiseStmt env (some x) none) Q E s:=by
 have hcB:(Value.ref C :: bm).contains (.type "BaseException")=true:=by rw [List.contains_cons,hbase,Bool.or_true]
 unfold raiseStmt;refine wpAny_bind (wpAny_mono h (fun v s1 h1=>?_) fun _ _ x=>x);obtain⟨e,t,dx,rfl,hC,he,hE⟩:=h1;obtain⟨hp,g,d,tk,os⟩:=s1
 repeat (first | with_reducible refine wpAny_loadPart_at he ?_ | with_reducible refine wpAny_loadPart_at hC ?_ | (with_reducible refine wpAny_isSubtype_exc hC ?_; rw [hcB]) | wp_step)
 exact wpAny_raiseNew_none hh hE
end
end L2
namespace L2
open PySem PySem.Spec PySem.Calls PyProof.Rows
def del(H:Hp)(a:Addr):Hp:=fun b=>if b=a then none else H b
theorem zeB{H:Hp}{a b:Addr}(h:b≠a):del H a b=H b:=if_neg h
theorem zn3{H:Hp}{a:Addr}{o:HO}:upd (del H a) a o=upd H a o:=by
 funext b;unfold upd del;split
 ·rfl
 ·rfl
theorem ziu{H:Hp}{a b:Addr}{u:HO}(h:del H a b=some u):b≠a/\H b=some u:=by
 unfold del at h;split at h
 ·cases h
 ·rename_i n;exact⟨n,h⟩
section
variable {P:Program} {w:World} {K:W.Frag} {mg:Str->Option Value} {base:Heap} {N:List Str} {qual:Str} {scope:Scope} {f:Addr} {cd:Value} {A:Around} {outer:List Env} {s:Shared} {H:Hp} {E:XK}
theorem zlU{ze:List (Addr×Obj)}{σ:St}{Hc:Hp}{s2:Shared}{e C t:Addr}{dx:Option Addr}(I:Inv (zfE (CX1 P w) P w K mg base N qual scope f cd A outer s H E) ze σ Hc s2)(hn:Hc e=some (exN e C dx t))(ne0:s.heap.get? e=none)(hE:E (.ref C) (some e) (upd Hc e (exO e C dx))):
  (zfE (CX1 P w) P w K mg base N qual scope f cd A outer s H E).xe (.ref e) s2:=by
 have hfr:(A.deeper (envOfC qual scope s.heap.objs.size f cd)).frames=some (envOfC qual scope s.heap.objs.size f cd :: outer):=I.ok.frames;have nl:∀ b o,s.heap.get? b=some o->b∉frs outer->b∉frs (envOfC qual scope s.heap.objs.size f cd :: outer):=fun b o q hb z=>by
  rcases mem_cons.mp (show b∈s.heap.objs.size :: frs outer from z) with e | e
  ·exact absurd (lt_size q) (by rw [e]; exact lt_irrefl _)
  ·exact hb e
 have nx:∀ b:Addr,b∉([]:List Addr):=fun b=>by simp
 have ne1:∀ b o,s.heap.get? b=some o->b≠e:=fun b o q z=>by
  rw [z,ne0] at q;cases q
 have nt:∀ b xs,Hc b=some (.tup xs)->b≠e:=fun b xs q z=>by
  rw [z,hn] at q;cases q
 have no:∀ b y,Hc b=some (.own y)->b≠e:=fun b y q z=>by
  rw [z,hn] at q;cases q
 have stk:s2.heap.FunFrames base (envOfC qual scope s.heap.objs.size f cd :: outer):=I.stack;obtain⟨he,_,_⟩:=(show ObjOk P w Hc s2.heap e (exN e C dx t) from I.hok e _ hn);have hin:∀ env∈(envOfC qual scope s.heap.objs.size f cd :: outer),∀ b,env.frame=some b->b∈e :: frs (envOfC qual scope s.heap.objs.size f cd :: outer):=fun env he b hb=>mem_cons_of_mem _ (List.mem_filterMap.mpr ⟨env,he,hb⟩);generalize hB:W.hideAll s2.heap (e :: frs (envOfC qual scope s.heap.objs.size f cd :: outer))=B;have hd:∀ b o,s2.heap.get? b=some o->b≠e->b∉frs (envOfC qual scope s.heap.objs.size f cd :: outer)->B.get? b=some o:=fun b o q n1 n=>by
  rw [<- hB];exact W.hideAll_get _ q fun z=>(mem_cons.mp z).elim n1 n
 have kp:∀ b o,s.heap.get? b=some o->H b=none->b∉frs outer->B.get? b=some o:=fun b o q n hb=>hd b o (I.base.keep b o q n hb (nx b)) (ne1 b o q) (nl b o q hb);have ep:∀ b o,s.heap.get? b=some o->b∈frs outer\/∃ o',B.get? b=some o':=fun b o q=>by
  by_cases hb:b∈frs outer
  ·exact .inl hb
  ·obtain⟨o1,q1⟩:=I.base.there b o q (nx b);exact .inr ⟨o1,hd b o1 q1 (ne1 b o q) (nl b o q hb)⟩
 have tr:∀ b u,Hc b=some u->b≠e->∀ o,s2.heap.get? b=some o->B.get? b=some o:=fun b u q n1 o q1=>hd b o q1 n1 fun z=>by
  rw [I.stkFree.free b z] at q;cases q
 have ne:B.get? e=none:=by rw [<- hB]; exact W.hideAll_none _ mem_cons_self
 have ff:s2.heap.FunFrames B (envOfC qual scope s.heap.objs.size f cd :: outer):=by rw [<- hB]; exact W.funFrames_hide stk hin
 have bs:B.StaysIn s2.heap:=fun b o q=>by
  rw [<- hB] at q;exact W.of_hideAll _ q
 show wpAny _ _ (leaving (envOfC qual scope s.heap.objs.size f cd) (.ref e)) _ _ _;refine zgU hfr ff rfl he bs ne rfl rfl rfl fun h'' fl sm=>⟨del Hc e,e,C,dx,rfl,⟨I.os,I.bare,⟨fun b o q n hb _=>fl.1 b o (kp b o q n hb),fun b o q n hb _=>?_,fun b o q n _=>?_,fun b o q _=>?_,fun b xs q=>?_,fun b o u q=>?_,fun b ps q=>?_⟩,
  fun b u q=>?_,_,t,fl,kp,ep,fun b u q=>?_⟩,by rw [zn3]; exact hE⟩
 ·obtain⟨sl,q1⟩:=I.base.slot b o q n hb (nx b);obtain⟨_,o3,q3,nf⟩:=stk.mem (show b∈frs (envOfC qual scope s.heap.objs.size f cd :: outer) from mem_cons_of_mem _ hb);rw [q1] at q3;cases q3;obtain⟨sl3,q4⟩:=sm b _ q1 nf;exact⟨sl3,q4⟩
 ·rw [zeB (ne1 b o q)];exact I.base.free b o q n (nx b)
 ·rcases ep b o q with z | ⟨o',z⟩
  ·obtain⟨_,o3,q3,_⟩:=fl.2.2.1.mem (show b∈frs outer from z);exact⟨o3,q3⟩
  ·exact⟨o',fl.1 b o' z⟩
 ·have q2:=I.base.tups b xs q;rw [zeB (nt _ _ q2)];exact q2
 ·have q2:=I.base.frzs b o u q;rw [zeB fun z=>by rw [z,hn] at q2; cases q2];exact q2
 ·have q2:=I.base.tbls b ps q;rw [zeB fun z=>by rw [z,hn] at q2; cases q2];exact q2
 ·obtain⟨nb,qb⟩:=ziu q;refine(I.hok b u qb).stay (fun c v hc q1=>?_) (fun c q1=>by rw [zeB (no _ _ q1)]; exact q1) (fun c xs q1=>by rw [zeB (nt _ _ q1)]; exact q1) fun c o u q1=>by rw [zeB fun z=>by rw [z,hn] at q1; cases q1]; exact q1
  rcases hc with rfl | hc
  ·exact fl.1 _ _ (tr _ _ qb nb _ q1)
  ·exact fl.1 _ _ (tr _ _ hc (no _ _ hc) _ q1)
 ·obtain⟨nb,qb⟩:=ziu q;obtain⟨o,q1⟩:=(I.hok b u qb).obj;exact⟨o,tr b u qb nb o q1⟩
end
section
variable {X:Cx} {E:XK} {x:Str} {C fI:Addr} {fd:FuncData} {ps:List Str} {sp:Sp} {k:Nat} {np cpos pos:Pos} {e:Expr} {es:List Expr} {t:TA} {CX:CXT}
theorem zlP{K:W.Frag}{h h1:Heap}{C:Addr}{ini:Option Value}{o:Obj}(q:ExCls K C ini)(X:K.In h)(X1:K.In h1)(e:h.get? C=some o):h1.get? C=some o:=by
 have z:=q.ty.1;unfold W.clsIn at z;cases hl:K.lookup C with
 | none=>rw [hl] at z; cases z
 | some o' =>
  have:=X _ _ hl;rw [e] at this;cases this;exact X1 _ _ hl
def zib(E:XK)(C:Addr)(sp:Sp)(t:TA):TS:=fun _ σ H=>t σ H fun vs H1=>∀ a tt,H1 a=none->sp (.ref a :: vs) (upd H1 a (exN a C none tt)) (fun r H2=>r=.non/\∃ dx,H2 a=some (exN a C dx tt)/\E (.ref C) (some a) (upd H2 a (exO a C dx))) fun _ _ _=>False
def RaisesI(X:Cx)(E:XK):Prop:=∀ (C:Addr) (ze:List (Addr×Obj)) (σ:St) (H1 H2:Hp) (s1 s2:Shared) (e t:Addr) (dx:Option Addr),Inv X ze σ H1 s1->s1.heap.get? e=none->Inv X ze σ H2 s2->H2 e=some (exN e C dx t)->E (.ref C) (some e) (upd H2 e (exO e C dx))->X.xe (.ref e) s2
theorem zjK(hc:X.calm=true)(hR:RaisesI X E)(hg:Gl X x)(hm:X.mg x=some (.ref C))(q:ExCls X.K C (some (.ref fI)))(hk:W.keepIn X.K (.ref C)=true)(hfn:W.typeIn X.K (.ref fI)=some (.type "function"))(F:FnOk X.prog X.w X.K X.mg X.base CX k fI fd ps sp)(hcx:∀ o H s v s',CX o H s (fun _ _ _=>False) v s'->False)(hr:∀ us:List Value,Room k (X.A.under (.builtin "type.__call__" ⟨.ref C :: us,[]⟩)))(hb:Binds X.K fd ps [])(hpsz:ps.length<=1000)
  (ha:PA X (e :: es) t) (hdb:(x == ("__debug__":Str))=false:=by decide) (he:starEach (e :: es) X.env=(false,eval e X.env) :: starEach es X.env:=by rfl) (hpl:(backTo cpos (starEach es X.env)).any (·.1)=false:=by rfl) :
  PS X (.Raise (some (.Call (.Name x np) (e :: es) [] cpos)) none pos) (zib E C sp t):=by
 intro ze s σ H D I h;obtain⟨tl,N,nm,qn,bs,hd,sn,sub,ab,col,dd,k0,k1,k2,k3,k5,mN,hC,hN,hni,T,_⟩:=q.ob _ I.kIn;have hbase:tl.contains (.type "BaseException")=true:=T.hasType (b:=true) (by decide +kernel);rw [arm_exec_Raise];refine wpAny_bind (wpAny_standAt (zjw (C:=C) (nm:=nm) (q:=qn) (N:=N) (bs:=bs) (bm:=tl) (hdct:=hd) (sn:=sn) (sub:=sub) (ab:=ab) (col:=col) (dd:=dd) (k0:=k0) (k1:=k1) (k2:=k2) (k3:=k3) (k5:=k5) (newId:="ValueError.__new__") hbase (I.ok.hd hc) (wpAny_bind (wpAny_mono (wpAny_Call_ofName (zdU I hg hm ?_ hdb)) (fun v s3 h3=>wpAny_bind (wpAny_standAt (wpAny_pure h3))) fun _ _ x=>x))));refine W.callWith_K (h₀:=X.base) I.ok.mod.kin hk (thn (ha cpos ze s σ H _ I h) fun us s1 ⟨vs,H1,I1,r,q1⟩=>⟨I1.kIn,?_⟩) he hpl;obtain⟨tl1,N1,nm1,qn1,bs1,hd1,sn1,sub1,ab1,col1,dd1,l0,l1,l2,l3,l5,mN1,hC1,hN1,hi1,T1,_⟩:=q.ob _ I1.kIn;obtain⟨oI,hoI,hcI⟩:∃ oI,s1.heap.get? fI=some oI/\oI.cls=.type "function":=by
  have z:Option.map (fun x:Obj=>x.cls) (X.K.lookup fI)=some (.type "function"):=hfn;cases hl:X.K.lookup fI with
  | none=>rw [hl] at z; cases z
  | some o=>rw [hl] at z; exact⟨o,I1.kIn _ _ hl,Option.some.inj z⟩
 obtain⟨h1,g1,d1,tk1,os1⟩:=s1;have hlen:us.length<=sizeLine:=by
  have hz:=r.length;have:=F.len _ _ _ _ (q1 h1.objs.size 0 (I1.hok.fresh (le_refl _)));have hps:ps.length<=1000:=hpsz;rw [length_cons] at this;rw [sizeLine_eq];omega
 refine zj0 T1 hC1 hN1 hi1 hoI hcI (fun h' e2 hz mk=>?_) hlen;obtain⟨t2,he2,_,_⟩:=mk.there;have J:=I1.laid (a:=e2) (o:=exN e2 C none t2) (h':=h') (t':=tk1) mk.keeps hz (zmN he2);have qq:=q1 e2 t2 (I1.hok.fresh hz);have hl:(Value.ref e2 :: us).length=ps.length:=by
  have:=F.len _ _ _ _ qq;rw [length_cons] at this ⊢;rw [<- r.length];exact this
 have hb1:=hb _ (Value.ref e2 :: us) J.kIn (by rw [append_nil]; exact hl);rw [append_nil] at hb1;refine wpAny_call (codeAny_mono (F.run _ X.stack _ _ ⟨Value.ref e2 :: us,[]⟩ (Value.ref e2 :: us) (.ref e2 :: vs) _ _ (hr us) (J.env0.make C us []) hb1 (.cons rfl r) qq) fun rr s' hq=>?_);cases rr with
 | error v=>exact(hcx _ _ _ _ _ hq).elim
 | ok fl =>
  cases fl with
  | ret u =>
   obtain⟨y,H2,I2,ry,rfl,dx,hn2,hE⟩:=J.after hq;cases (show u=Value.none from ry);obtain⟨e3,_,_⟩:=(show ObjOk X.prog X.w H2 s'.heap e2 (exN e2 C dx t2) from I2.hok e2 _ hn2);exact⟨rfl,e2,t2,dx,rfl,zlP q I.kIn I2.kIn hC,e3,hR C ze σ H1 H2 _ s' e2 t2 dx I1 mk.new I2 hn2 hE⟩
  | next=>exact False.elim hq
  | brk=>exact False.elim hq
  | cont=>exact False.elim hq
end
theorem ziQ{P:Program}{w:World}{K:W.Frag}{mg:Str->Option Value}{base:Heap}{N:List Str}{qual:Str}{scope:Scope}{f:Addr}{cd:Value}{A:Around}{outer:List Env}{s:Shared}{H:Hp}{E:XK}:
  RaisesI (zfE (CX1 P w) P w K mg base N qual scope f cd A outer s H E) E:=fun C ze σ H1 H2 s1 s2 e t dx I1 ne I2 hn hE=>zlU I2 hn (by
 cases z:s.heap.get? e with
 | none=>rfl
 | some o =>
  obtain⟨o1,q1⟩:=I1.base.there e o z (fun z=>by cases z);rw [ne] at q1;cases q1) hE
end L2
namespace L2
open PySem PySem.Spec PyProof.Rows
section
def spI(K:W.Frag)(ns:List Str):Sp:=fun vs H Q _=>∃ a C t ws,vs=.ref a :: ws/\ws.length=ns.length/\ExI K C/\(∀ n∈ns,NoAttr K C n)/\H a=some (exN a C none t)/\∀ dx,H dx=none->Q .non (upd (upd H a (exN a C (some dx) t)) dx (xw dx (ns.zip ws)))
theorem init1{K:W.Frag}{n:Str}{N:List Str}{vs:List V}{H:Hp}{Q:VK}{E:XK}(h:spI K [n] vs H Q E):zpF K (zjD 0) (zjD 1) n { nx:=fun _ H'=>Q .non H',rt:=Q } (start N vs) H:=by
 obtain⟨a,C,t,ws,rfl,hl,xi,na,ha,q⟩:=h;obtain⟨w,rfl⟩:∃ w,ws=[w]:=by
  match ws,hl with
  | [w],_=>exact⟨w,rfl⟩
 exact⟨w,rfl,_,rfl,a,C,t,rfl,xi,na n (by simp),.inl ⟨ha,fun dx hd=>q dx hd⟩⟩
theorem zkq{H:Hp}:∀ {ns:List Str} {ds:List PyData} {vs:List V},HasL H ds vs->∀ f dt,(ns.zip ds).lookup f=some dt->∃ u,(ns.zip vs).lookup f=some u/\Has H dt u
 | [],_,_,_,f,dt,e=>by simp at e
 | n :: ns,[],_,_,f,dt,e=>by simp at e
 | n :: ns,d :: ds,vs,l,f,dt,e=>by
  obtain⟨v,r,rfl,hv,l'⟩:=zt.mp l;rw [zip_cons_cons,lookup_cons] at e;by_cases z:f=n
  ·subst z;simp at e;subst e;exact⟨v,by simp,hv⟩
  ·have zz:(f == n)=false:=by simp [z]
   rw [zz] at e;obtain⟨u,e1,e2⟩:=zkq l' f dt e;exact⟨u,by rw [zip_cons_cons,lookup_cons,zz]; exact e1,e2⟩
def zeO(EX:EXD)(C:Addr)(ns:List Str)(da:DA):DS:=fun _ δ S=>da δ S fun xs _=>∃ ds,datas xs=some ds/\ds.length=ns.length/\EX C (ns.zip ds)
theorem zgW{E:XK}{EX:EXD}{K:W.Frag}{C:Addr}{ns:List Str}{ta:TA}{da:DA}(hI:ExI K C)(hn:∀ n∈ns,NoAttr K C n)(ha:RA ta da):RSx E EX (zib E C (spI K ns) ta) (zeO EX C ns da):=fun h o H δ σ S En D he hs q c x =>
 ha h o H δ σ S _ _ he hs q fun o1 H1 S1 xs vs e1 s1 x1 ⟨ds,ed,hl,hE⟩ a tt na=>by
  have exs:=zbT ed;have hL:=zdu x1 exs;refine⟨a,C,tt,vs,rfl,by rw [hL.length]; exact hl,hI,hn,zQ,fun dx nd=>⟨rfl,some dx,?_,?_⟩⟩
  ·have ne:dx≠a:=fun z=>by rw [z,zQ] at nd; cases nd
   rw [zG (Ne.symm ne),zQ]
  ·have ne:dx≠a:=fun z=>by rw [z,zQ] at nd; cases nd
   have nd1:H1 dx=none:=by rwa [zG ne] at nd
   have na1:upd H1 dx (xw dx (ns.zip vs)) a=none:=by rw [zG (Ne.symm ne)]; exact na
   have eH:upd (upd (upd (upd H1 a (exN a C none tt)) a (exN a C (some dx) tt)) dx (xw dx (ns.zip vs))) a (exO a C (some dx))=upd (upd H1 dx (xw dx (ns.zip vs))) a (exO a C (some dx)):=by
    funext b;unfold upd;split
    ·rfl
    ·rfl
   rw [eH];have sU:=(Same.laid (o:=xw dx (ns.zip vs)) nd1).trans (Same.laid (o:=exO a C (some dx)) na1);have fa:=s1.fresh na;have fd:=s1.fresh nd1;refine(x.pre e1) o1 _ S1 C a (ns.zip ds) (Ex.of_same sU) (s1.same sU) ⟨a,some dx,rfl,zX.mpr ⟨fa.1,fa.2,zQ⟩,fun f dt l=>?_⟩ hE;obtain⟨u,e2,e3⟩:=zkq hL f dt l;exact⟨dx,ns.zip vs,u,rfl,zX.mpr ⟨fd.1,fd.2,by rw [zG ne,zQ]⟩,e2,Has.mono (zdh sU) _ _ e3⟩
end
end L2
namespace L2
open PySem PySem.Spec PySem.Calls PyProof.Rows
def tXA(K:W.Frag)(te:TE)(f:Str):TE:=fun σ H Q=>te σ H fun x H1=>∃ a C dx vs u,x=.ref a/\H1 a=some (exO a C (some dx))/\H1 dx=some (xw dx vs)/\ExI K C/\NoAttr K C f/\vs.lookup f=some u/\Q u H1
theorem zo4{X:Cx}{e:Expr}{te:TE}{f:Str}{pos:Pos}(he:PE X e te)(hb:attributeBase e f X.env (eval e X.env)=eval e X.env):PE X (.Attribute e f pos) (tXA X.K te f):=by
 intro ze s σ H Q I h;refine znE hb (thn (he ze s σ H _ I h) fun u s1 ⟨x,H1,I1,rx,a,C,dx,vs,v,ex,ea,ed,xi,na,l,q⟩=>?_);subst ex;obtain rfl:u=Value.ref a:=rx;obtain⟨hp,g,d,t,os⟩:=s1;obtain⟨⟨o,e1,hc,hd,fv,hfv⟩,_,_⟩:=(show ObjOk X.prog X.w H1 hp a (exO a C (some dx)) from I1.hok a _ ea);obtain⟨⟨mA,n1,r1,w1⟩,_,_⟩:=(show ObjOk X.prog X.w H1 hp dx (xw dx vs) from I1.hok dx _ ed);obtain⟨od,ho,hl⟩:=zho n1;have rr:RelO (some v) (mA f):=by rw [<- l]; exact r1 f
 obtain⟨w,hw,rv⟩:∃ w,mA f=some w/\RelV v w:=by
  cases z:mA f with
  | none=>rw [z] at rr; cases rr
  | some w=>rw [z] at rr; exact⟨w,rfl,rr⟩
 have T0:∀ M,W.Looks M hp (typeOf (.ref a)) (.ref C):=fun M=>hc▸(W.Looks.ld e1).andThen .now;exact znR (v:=w) I1.kIn T0 ⟨xi.k.ga,xi.k.gn,(xi.k.mroIn _).trans (by simp [exM])⟩ (W.looks_find I1.kIn ⟨e1,hc,by unfold W.notCls; rw [hfv],by rw [hd]; exact ho⟩ (W.findObj_own xi.hd na rfl (by rw [hl,hw]))) (zk5 rv) ⟨v,H1,I1.tok _,rv,q⟩
structure ExsI(K:W.Frag)(Cs:List Addr)(f:Str):Prop where
 i:∀ C∈Cs,ExI K C
 n:∀ C∈Cs,NoAttr K C f
def dXA(Cs:List Addr)(de:DE)(f:Str):DE:=fun δ S R=>de δ S fun x S1=>∃ C fs d,x=.x C fs/\C∈Cs/\fs.lookup f=some d/\R (.d d) S1
theorem zoz{K:W.Frag}{Cs:List Addr}{te:TE}{de:DE}{f:Str}(X0:ExsI K Cs f)(he:RE te de):RE (tXA K te f) (dXA Cs de f):=fun h o H δ σ S R Q hE hs q c =>
 he h o H δ σ S _ _ hE hs q fun o1 H1 S1 x v e1 s1 x1 d1=>by
  obtain⟨C,fs,d,rfl,hC,hl,q1⟩:=d1;obtain⟨a,dx0,rfl,ha,hf⟩:=(show HasE (vx h o1 H1) C fs v from x1);obtain⟨dx,vs,u,rfl,e2,e3,e4⟩:=hf f d hl;exact⟨a,C,dx,vs,u,rfl,zad _ _ ha,zad _ _ e2,X0.i C hC,X0.n C hC,e3,c o1 H1 S1 (.d d) u e1 s1 e4 q1⟩
end L2
namespace L2
open PySem PySem.Spec PyProof.Rows
section
def zqS(o:Obj):Bool:=match o.data with
 | .dict es _=>es.toList.all fun e=>match e.key with | .str _ _=>true | _=>false
 | _=>false
theorem znW{K:W.Frag}{N:Addr}{o:Obj}(l:K.lookup N=some o)(h:zqS o=true):W.nsOkIn K N=true:=by
 unfold W.nsOkIn;rw [l];obtain⟨a,b,c,d⟩:=o;cases c with
 | dict es n =>
  show (es.all fun e=>match e.key with | .str _ _=>true | _=>false)=true;rw [<- Array.all_toList];exact h
 | _=>cases h
theorem exc_ofI{K:W.Frag}{C N fI:Addr}{nm qn:Str}{bs:List Value}{hd:Bool}{sn:List Str}{sub:List Value}{ab:Bool}{col:Option Bool}{dd:Option Addr}{k0 k1 k2 k3 k5:Option Value}
  (l:K.lookup C=some (excClassObj nm qn C N bs (.ref 24 :: veB) hd sn sub ab col dd k0 k1 k2 k3 k5 "ValueError.__new__")) {oN:Obj} (lN:K.lookup N=some oN) (sN:zqS oN=true) (i:W.nsIn K N "__init__" = some (some (.ref fI))) (G:ExCls K 24 none):ExCls K C (some (.ref fI)):=by
 have ok:=znW lN sN;refine⟨fun h X=>?_,?_,?_⟩
 ·obtain⟨bmG,NG,nmG,qnG,bsG,hdG,snG,subG,abG,colG,ddG,j0,j1,j2,j3,j5,mNG,hG,hNG,hniG,_,_⟩:=G.ob h X;have nsN:h.Ns N (h.nsMap N):=.of_isNs (W.isNs_of_in X ok);refine⟨.ref 24 :: veB,N,nm,qn,bs,hd,sn,sub,ab,col,dd,k0,k1,k2,k3,k5,h.nsMap N,X _ _ l,nsN,zqH X nsN i,.own hG hNG hniG .base,fun D=>?_⟩;unfold W.mroIn W.clsIn;rw [l];rfl
 ·unfold W.clsIn;rw [l];rfl
 ·show Option.map (fun x:Obj=>x.cls) (K.lookup C)=_;rw [l];rfl
end
section
abbrev Phi:=List Addr->List Addr->Hp->Prop
class Stb (Φ:Phi):Prop where
 st:∀ {h o o':List Addr} {H H':Hp},Φ h o H->Ex o H o' H'->Φ h o' H'
def PhX(E:XK)(EX:EXD):Phi:=fun h o H=>CnX h o H EX E
instance {E:XK} {EX:EXD}:Stb (PhX E EX):=⟨fun x e=>CnX.pre x e⟩
def REp(Φ:Phi)(t:TE)(dt:DE):Prop:=∀ (h o:List Addr) (H:Hp) (δ:XE) (σ:St) (S:Sto) (R:RX) (Q:VK),RepE h o H δ σ->RepS h o H S->dt δ S R->Cn h o H R Q->Φ h o H->t σ H Q
def RTp(Φ:Phi)(t:TT)(dt:DT):Prop:=∀ (h o:List Addr) (H:Hp) (δ:XE) (σ:St) (S:Sto) (R:Bool->Sto->Prop) (Q:Bool->Hp->Prop),RepE h o H δ σ->RepS h o H S->dt δ S R ->
 (∀ o' H' S' b,Ex o H o' H'->RepS h o' H' S'->R b S'->Q b H')->Φ h o H->t σ H Q
def RIp(Φ:Phi)(w:TI)(di:DI):Prop:=∀ (h o:List Addr) (H:Hp) (δ:XE) (σ:St) (S:Sto) (R:List PyData->Sto->Prop) (Q:It->Hp->Prop),RepE h o H δ σ->RepS h o H S->di δ S R ->
 (∀ o' H' S' ds J,Ex o H o' H'->RepS h o' H' S'->WalkX h o' H' J ds->R ds S'->Q J H')->Φ h o H->w σ H Q
section
variable {Φ:Phi} [Stb Φ] {ta tb te:TE} {da db de:DE} {tl:TA} {dl:DA} {tt tu:TT} {dt du:DT}
theorem zjM(a:RT tt dt):RTp Φ tt dt:=fun h o H δ σ S R Q he hs q c _=>a h o H δ σ S R Q he hs q c
theorem zni{w:TI}{di:DI}(a:RI w di):RIp Φ w di:=fun h o H δ σ S R Q he hs q c _=>a h o H δ σ S R Q he hs q c
end
section
variable {E:XK} {EX:EXD} {ta tb te:TE} {da db de:DE} {tl:TA} {dl:DA} {tt tu:TT} {dt du:DT}
def zmH(EX:EXD)(m:Nat)(q:PX)(da:DA):DE:=fun δ S R=>da δ S fun xs S1=>∃ ds,datas xs=some ds/\ds.length=m/\q (ds.map XV.d) [] (ret0 S1 R) EX
theorem CnX.out{h o:List Addr}{H:Hp}{S:Sto}(hs:RepS h o H S)(x:CnX h o H EX E):CnX (h++o) [] H EX E:=fun o' H' S' C a fs e' s' hE q=>by
 have sH:Same H H':=fun b u eb=>(e'.kp b u (by simp) eb).2;have sv:Same (vx (h++o) o' H') (vx h o H'):=fun b u eb=>by
  obtain⟨n1,n2,n3⟩:=zX.mp eb;exact zX.mpr ⟨fun z=>n1 (mem_append_left _ z),fun z=>n1 (mem_append_right _ z),n3⟩
 exact x o H' S C a fs (Ex.of_same sH) (hs.same sH) (HasE.mono sv hE) q
theorem zoH(ha:REp (PhX E EX) te de):RSx E EX (zqD te) (zaN de):=fun h o H δ σ S En D he hs q c x=>ha h o H δ σ S _ _ he hs q c.rt x
theorem zmU{t u:TS}{ds dv:DS}(hc:RTp (PhX E EX) tt dt)(ht:RSx E EX t ds)(hu:RSx E EX u dv):RSx E EX (zqs tt t u) (zcF dt ds dv):=fun h o H δ σ S En D he hs q c x =>
 hc h o H δ σ S _ _ he hs q (fun o1 H1 S1 b e1 s1 d1=>by
  cases b with
  | true=>exact zow (ht h o1 H1 δ σ S1 En D (he.mono e1) s1 (by simpa using d1) (c.pre e1) (x.pre e1))
  | false=>exact zox (hu h o1 H1 δ σ S1 En D (he.mono e1) s1 (by simpa using d1) (c.pre e1) (x.pre e1))) x
theorem zp3{wi:TI}{g:TG}{tb:TS}{di:DI}{dg:DG}{db:DS}(hi:RIp (PhX E EX) wi di)(hg:RG g dg)(hb:RSx E EX tb db):RSx E EX (zpG wi g tb) (zgA di dg db):=fun h o H δ σ S En D he hs q c w =>
 hi h o H δ σ S _ _ he hs q (fun o1 H1 S1 ds J e1 s1 wk d1=>by
  refine⟨fun i m σ2 H2=>m=ds.length - i/\i<=ds.length/\∃ o2 δ2 S2,Ex o1 H1 o2 H2/\RepE h o2 H2 δ2 σ2/\RepS h o2 H2 S2/\zhk dg db (ds.drop i) En δ2 S2,⟨ds.length,by simp,zero_le _,o1,δ,S1,Ex.refl,he.mono e1,s1,d1⟩,?_⟩;rintro i m σ2 H2 ⟨rfl,hi,o2,δ2,S2,e2,he2,hs2,d2⟩;by_cases hlt:i<ds.length
  ·have ed:ds[i]? = some ds[i]:=getElem?_eq_getElem hlt;rw [drop_eq_getElem_cons hlt] at d2;refine .inr ⟨wk.go i _ o2 H2 e2.hid ed,fun σ3 H3=>∃ o3 δ3 S3,Ex o1 H1 o3 H3/\RepE h o3 H3 δ3 σ3/\RepS h o3 H3 S3/\zhk dg db (ds.drop (i+1)) En δ3 S3,fun σ3 H3 n=>⟨ds.length - (i+1),by omega,rfl,hlt,n⟩,fun x H3 y=>?_⟩;obtain⟨s3,hx⟩:=wk.yld i _ o2 H2 x H3 S2 e2.hid hs2 ed y;have e23:Ex o2 H2 o2 H3:=Ex.of_same s3;refine hg h o2 H3 δ2 σ2 S2 (.d ds[i]) x _ _ (he2.mono e23) (hs2.same s3) hx d2 fun o4 H4 δ4 S4 σ4 e4 he4 hs4 d4=>?_;have e14:Ex o1 H1 o4 H4:=(e2.trans e23).trans e4;have ce:=(c.pre e1).pre e14;exact hb h o4 H4 δ4 σ4 S4 _ _ he4 hs4 d4 ⟨fun o5 H5 δ5 S5 σ5 e5 he5 hs5 d5=>⟨o5,δ5,S5,e14.trans e5,he5,hs5,d5⟩,ce.rt,ce.nx,fun o5 H5 δ5 S5 σ5 e5 he5 hs5 d5=>⟨o5,δ5,S5,e14.trans e5,he5,hs5,d5⟩⟩ ((w.pre e1).pre e14)
  ·have ei:i=ds.length:=by omega
   subst ei;rw [drop_length] at d2;exact .inl ⟨wk.stop _ o2 H2 e2.hid (le_refl _),c.nx o2 H2 δ2 S2 σ2 (e1.trans e2) he2 hs2 d2⟩) w
end
structure XI(K:W.Frag)(C:Addr)(ns:List Str)(qual:Str)(st:Stmt):Prop where
 ex:∃ fI fd,ExCls K C (some (.ref fI))/\W.typeIn K (.ref fI)=some (.type "function")/\Fun K "__init__" qual st fI fd/\Binds K fd (("self":Str) :: ns) []
 kc:W.keepIn K (.ref C)=true
 i:ExI K C
 na:∀ n∈ns,NoAttr K C n
theorem XI.mk'{K:W.Frag}{C N fI:Addr}{ns:List Str}{qual:Str}{st:Stmt}{nm qn:Str}{bs:List Value}{hd:Bool}{sn:List Str}{sub:List Value}{ab:Bool}{col:Option Bool}{dd:Option Addr}{k0 k1 k2 k3 k5:Option Value}{oc:Value}{od an:Option Addr}{osl:Array (Option Value)}{kV doc pm cdv ct:Value}
  (l:K.lookup C=some (excClassObj nm qn C N bs (.ref 24 :: veB) hd sn sub ab col dd k0 k1 k2 k3 k5 "ValueError.__new__")) {oN:Obj} (lN:K.lookup N=some oN) (sN:zqS oN=true) (i:W.nsIn K N "__init__" = some (some (.ref fI))) (G:ExCls K 24 none)
  (tf:W.typeIn K (.ref fI)=some (.type "function")) (lf:K.lookup fI=some ⟨oc,od,.func (W.fnOf "__init__" qual (zco st) (zaD st) (zg st) .none kV doc pm an cdv ct),osl⟩) (c:W.codeIn K cdv qual=true) (kf:W.keepIn K (.ref fI)=true)
  (hb:∀ (kV doc pm:Value) (an:Option Addr) (cdv ct:Value) (us:List Value),us.length=(("self":Str) :: ns).length->bindArgs (W.fnOf "__init__" qual (zco st) (zaD st) (zg st) .none kV doc pm an cdv ct) ⟨us,[]⟩=pure ((("self":Str) :: ns).zip us))
  (kc:W.keepIn K (.ref C)=true) (ek:ExK K C) (hdd:W.hasDictIn K C=true) (sa:W.findIn K (.ref C) "__setattr__" = some (some (.builtin "object.__setattr__"))) (na:∀ n∈ns,NoAttr K C n):XI K C ns qual st :=
 ⟨⟨fI,_,exc_ofI l lN sN i G,tf,zih (st:=st) lf c kf,(zih (st:=st) lf c kf).binds hb⟩,kc,⟨ek,hdd,sa⟩,na⟩
theorem zn5{K:W.Frag}{ns:List Str}(vs:List V)(H:Hp)(Q:VK)(E:XK)(h:spI K ns vs H Q E):vs.length=(("self":Str) :: ns).length:=by
 obtain⟨a,C,t,ws,rfl,hl,_⟩:=h;rw [length_cons,length_cons,hl]
section
variable {X:Cx} {E:XK} {x:Str} {C:Addr} {ns:List Str} {qual:Str} {st:Stmt} {j:Nat} {np cpos pos:Pos} {e:Expr} {es:List Expr} {t:TA}
theorem zha(B:XI X.K C ns qual st)(hF:∀ f fd,Fun X.K "__init__" qual st f fd->FnOk X.prog X.w X.K X.mg X.base CX0 1 f fd (("self":Str) :: ns) (spI X.K ns))(hR:RaisesI X E)(hr:Room j X.A)(hj:2<=j)(hm:X.mg x=some (.ref C))(hn:ns.length<=9)
  (ha:PA X (e :: es) t) (hc:X.calm=true:=by rfl) (hg:Gl X x:=by rfl) (hdb:(x == ("__debug__":Str))=false:=by decide) (he:starEach (e :: es) X.env=(false,eval e X.env) :: starEach es X.env:=by rfl) (hpl:(backTo cpos (starEach es X.env)).any (·.1)=false:=by rfl) :
  PS X (.Raise (some (.Call (.Name x np) (e :: es) [] cpos)) none pos) (zib E C (spI X.K ns) t):=by
 obtain⟨fI,fd,q,hfn,F,hb⟩:=B.ex;exact zjK hc hR hg hm q B.kc hfn (hF fI fd F) (fun _ _ _ _ _ z=>z) (fun us=>(hr.mono hj).make C us []) hb (by rw [length_cons]; omega) ha hdb he hpl
end
def zq5(N P:List Str)(sc:Scope):Bool:=decide (sc.kind=.function) && !sc.isCoroutine && !sc.isGenerator && decide N.Nodup && decide (N.take P.length=P) && P.all (fun x=>decide (sc.names.lookup x=some .local) || decide (sc.names.lookup x=some .cell)) && sc.names.all fun y=>decide (y.2≠.free)
theorem fsc{N P:List Str}{sc:Scope}(h:zq5 N P sc=true):FnScope N P sc:=by
 simp only [zq5,Bool.and_eq_true,decide_eq_true_eq,Bool.not_eq_true',all_eq_true,Bool.or_eq_true] at h;obtain⟨⟨⟨⟨⟨⟨h1,h2⟩,h3⟩,h4⟩,h5⟩,h6⟩,h7⟩:=h;exact⟨h1,h2,h3,h4,h5,h6,h7⟩
end
section
section
variable {κ α:Type} [DecidableEq κ]
def lkA(m:List (κ×α))(k:κ):Option α:=(m.find? fun p=>decide (p.1=k)).map (·.2)
def ptA(m:List (κ×α))(k:κ)(v:α):List (κ×α):=if (m.any fun p=>decide (p.1=k))=true then m.map (fun p=>if p.1=k then (p.1,v) else p) else m++[(k,v)]
end
inductive DD where
 | k (m:List (Key×PyData))
 | t (m:List (List Key×PyData))
def DD.pairs:DD->List (PyData×PyData)
 | .k m=>m.map fun p=>(kD p.1,p.2)
 | .t m=>m.map fun p=>(.tuple (p.1.map kD),p.2)
def zrM:PyData->Option Key
 | .int i=>some (.inl i)
 | .str x=>some (.inr x)
 | _=>none
abbrev DM:=List (Addr×DD)
def ad(M:DM):List Addr:=M.map (·.1)
section
variable {h o o':List Addr} {H H':Hp} {M:DM} {S:Sto}
def zrF(M:DM)(a:Addr)(D:DD):DM:=M.map fun p=>if p.1=a then (a,D) else p
end
end
section
structure DEndsM where
 nx:XE->Sto->DM->Prop
 rt:XV->Sto->DM->Prop
 bk:XE->Sto->DM->Prop:=fun _ _ _=>False
 ct:XE->Sto->DM->Prop:=fun _ _ _=>False
abbrev DSm:=DEndsM->XE->Sto->DM->Prop
def zmB(dt:DS):DSm:=fun En δ S M=>dt { nx:=fun δ' S'=>En.nx δ' S' M,rt:=fun x S'=>En.rt x S' M,bk:=fun δ' S'=>En.bk δ' S' M,ct:=fun δ' S'=>En.ct δ' S' M } δ S
def zrD(c:DM->DT)(t u:DSm):DSm:=fun En δ S M=>c M δ S fun b S1=>if b=true then t En δ S1 M else u En δ S1 M
def zlb(g:DG)(b:DSm):List PyData->DSm
 | [],E,δ,S,M=>E.nx δ S M
 | d :: ds,E,δ,S,M=>g (.d d) δ S fun δ1 S1=>b { nx:=fun δ2 S2 M2=>zlb g b ds E δ2 S2 M2,ct:=fun δ2 S2 M2=>zlb g b ds E δ2 S2 M2,bk:=E.nx,rt:=E.rt } δ1 S1 M
def zo2(i:DM->DI)(g:DG)(b:DSm):DSm:=fun En δ S M=>i M δ S fun ds S1=>zlb g b ds En δ S1 M
end
section
def zrR(a:Addr)(m:List (Key×PyData)):XV->XV
 | .o (.ref b)=>if b=a then .d (.dict (DD.pairs (.k m))) else .o (.ref b)
 | x=>x
def zo3(f:Bool)(i:Nat)(D0:DD)(b:DSm):DSm:=fun En δ S M=>∀ a,a∉ad M->b { nx:=(fun δ' S' M'=>if f=true then (∃ M1 m,M'=M1++[(a,.k m)]/\δ'[i]? = some (some (.o (.ref a)))/\En.nx (δ'.map (Option.map (zrR a m))) S' M1) else (∃ M1 D,M'=M1++[(a,D)]/\En.nx δ' S' M1)),rt:=(fun x S' M'=>∃ M1 D,M'=M1++[(a,D)]/\En.rt x S' M1),bk:=(fun δ' S' M'=>∃ M1 D,M'=M1++[(a,D)]/\En.bk δ' S' M1),ct:=(fun δ' S' M'=>∃ M1 D,M'=M1++[(a,D)]/\En.ct δ' S' M1) } (δ.set i (some (.o (.ref a)))) S (M++[(a,D0)])
section
variable {E:XK} {EX:EXD} {tb:TS} {db:DSm} {i:Nat}
def zrt(dt:DSm):DS:=fun En δ S=>dt { nx:=fun δ' S' _=>En.nx δ' S',rt:=fun x S' _=>En.rt x S',bk:=fun δ' S' _=>En.bk δ' S',ct:=fun δ' S' _=>En.ct δ' S' } δ S []
end
end
end L2
namespace L2
open PySem PySem.Spec PySem.Calls PyProof.Rows
theorem zmp{P:Program}{w:World}{H:Hp}{h:Heap}{a:Addr}{ob:Obj}{m:List (Key×V)}(ok:HOk P w H h)(e:H a=some (.frz ob (.dK m))):(a == sysModules)=false/\m.length<=sizeLine/\∃ es ep vs,ob.data=.dict es ep/\KV m vs/\h.DictAt (zdM P w) a vs ep:=by
 obtain⟨e1,hz,hne,vs,kv,o,es,ep,ho,r1,r2,r3⟩:=(show ObjOk P w H h a (.frz ob (.dK m)) from ok a _ e);rw [e1] at ho;cases ho;exact⟨hne,hz,es,ep,vs,r2,kv,_,es,e1,r1,r2,r3⟩
def DD.itemsD(m:List (Key×PyData)):List PyData:=m.map fun p=>.tuple [kD p.1,p.2]
def zkk(e:DE):DI:=fun δ S R=>e δ S fun x S1=>∃ m,x=.d (.dict (DD.pairs (.k m)))/\R (DD.itemsD m) S1
end L2
namespace L2
open PySem PySem.Spec PyProof.Rows
section
section
variable {X:Cx} {ze:List (Addr×Obj)} {σ:St} {H:Hp} {s:Shared} {a:Addr}
theorem Inv.goneAt{h':Heap}{n:Str}{i:Nat}{m:Str->Option Value}{v:Option Value}{t':Nat}(I:Inv X ze σ H s)(hN:X.N.Nodup)(hi:X.N[i]? = some n)(hl:X.env.kindOf n=some .local)(hm:s.heap.Ns X.env.locals m)
  (hv:∀ (i:Nat) (x:Str) (v:V),X.N[i]? = some x->σ[i]? = some (some v)->Vis X.env.scope x->∃ u,RelV v u/\Look X.env s.heap m x u) (hn:h'.Ns X.env.locals (fun x=>if x=n then v else m x)) (sb:Heap.SameBut X.env.locals s.heap h'):Inv X ze (σ.set i none) H { s with heap:=h',toks:=t' }:=by
 have ne:∀ b o,X.s₀.heap.get? b=some o->b≠X.env.locals:=fun b o e=>ne_of_lt (lt_of_lt_of_le (lt_size e) I.ok.above);refine⟨I.ok,I.os,I.bare,⟨fun b o e n hb hx=>?_,fun b o e n hb hx=>?_,I.base.free,fun b o e hx=>?_,I.base.tups,I.base.frzs,I.base.tbls⟩,⟨_,hn,fun j x w e1 e2 e3=>?_⟩,fun x c e=>?_,I.free,I.freeC,fun p hp=>?_,I.hok.stays fun b u e o q=>?_,by rw [length_set]; exact I.len⟩
 ·exact(sb.2 b (ne b o e)).trans (I.base.keep b o e n hb hx)
 ·obtain⟨sl,q⟩:=I.base.slot b o e n hb hx;exact⟨sl,(sb.2 b (ne b o e)).trans q⟩
 ·obtain⟨o',q⟩:=I.base.there b o e hx;exact⟨o',(sb.2 b (ne b o e)).trans q⟩
 ·rw [getElem?_set] at e2;by_cases hij:i=j
  ·rw [if_pos hij] at e2;split at e2 <;> cases e2
  ·rw [if_neg hij] at e2;have xn:x≠n:=fun z=>hij ((List.getElem?_inj (List.getElem?_eq_some_iff.mp hi).1 hN).mp (by rw [hi,e1,z]));obtain⟨u,r,l⟩:=hv j x w e1 e2 e3;refine⟨u,r,?_⟩;rcases l with ⟨k1,k2⟩ | ⟨k1,c,k2,k3⟩
   ·exact .inl ⟨k1,by show (if x=n then v else m x)=_; rw [if_neg xn]; exact k2⟩
   ·refine .inr ⟨k1,c,k2,?_⟩;obtain⟨o,ho,hd⟩:=k3;exact⟨o,(sb.2 c (I.cne x c k2)).trans ho,hd⟩
 ·obtain⟨v,o,ho,hd⟩:=I.cell x c e;exact⟨v,o,(sb.2 c (I.cne x c e)).trans ho,hd⟩
 ·obtain⟨e,n,ne',nf,d⟩:=I.pin p hp;exact⟨(sb.2 _ ne').trans e,n,ne',nf,d⟩
 ·refine(sb.2 b ?_).trans q;rintro rfl;rw [I.free] at e;cases e
end
section
variable {X:Cx} {G n:Str} {gp hpos pos:Pos} {i:Nat} {b₀ st:Stmt} {suite:List Stmt} {GA:Addr} {iniG:Option Value} {tb:XK->TS} {ts:TS}
def zk9(K:W.Frag)(GA:Addr)(i:Nat)(ts:TS)(D:Ends)(σ:St):XK:=fun cls a H'=>∃ C b ini,cls=.ref C/\a=some b/\ExCls K C ini/\W.mroIn K C (.ref GA)=some true /\
 ts { nx:=fun σ' H2=>D.nx (σ'.set i none) H2,rt:=D.rt } (σ.set i (some (.ref b))) H'
def zpi(K:W.Frag)(GA:Addr)(i:Nat)(tb:XK->TS)(ts:TS):TS:=fun D σ H=>tb (zk9 K GA i ts D σ) D σ H
theorem zno(hx:∀ e s,X.xe e s->False)(hst:X.stack=X.env :: X.outer)(hfr:X.env.frame=some X.env.locals)(hN:X.N.Nodup)(hi:X.N[i]? = some n)(hl:X.env.kindOf n=some .local)(hg:Gl X G)(hm:X.mg G=some (.ref GA))(qG:ExCls X.K GA iniG)
  (hb:PSX X st tb) (hs:∀ a,PSs (X.suite a) (b₀ :: suite) ts) (hdb:(G == ("__debug__":Str))=false:=by decide) :
  PS X (.Try [st] [.ExceptHandler (some (.Name G gp)) (some n) (b₀ :: suite) hpos] [] [] pos) (zpi X.K GA i tb ts):=by
 intro ze s σ H D I h;refine wpAny_Try_except (wpAny_execs_cons (wpAny_mono (hb ze s σ H D _ (fun e s₁=>wpAny (model X.prog X.w) X.A (noteFrame e X.env) (fun _ s₂=>wpAny (model X.prog X.w) X.A (setFlight e none) (fun _ s₃=>wpAny (model X.prog X.w) X.A (handleBy e X.env [.ExceptHandler (some (.Name G gp)) (some n) (b₀ :: suite) hpos]) (SP X ze D) X.xe s₃) X.xe s₂) X.xe s₁) I h ?_) (fun fl s1 q=>?_) fun _ _ z=>z))
 rotate_left
 ·cases fl with
  | next=>exact wpAny_execs_nil (wpAny_execs_nil q)
  | ret v=>exact q
  | brk=>exact q
  | cont=>exact q
 intro H1 s1 v s' I1 cx;obtain⟨H',a,C,dx,rfl,F,C',b,ini,eC,eb,qC,hin,hts⟩:=cx;cases eC;cases eb;obtain⟨B,t,fl,kB,eB,tB⟩:=F.fl;rw [hst] at fl;have frames:X.A.frames=some (X.env :: X.outer):=by rw [I1.ok.frames,hst]
 refine zkK frames hfr fl fun h₄ held₄ sm₄=>?_;refine zpS held₄ fun h₅ fl₅ sm₅=>?_;have bB:∀ b o,X.base.get? b=some o->B.get? b=some o:=fun b o e=>kB b o (I1.bk b o e) (I1.bs b o e).2 fun z=>by
  have:=(I1.stack.mem z).1;rw [e] at this;cases this
 have kin:X.K.In h₅:=I1.ok.mod.kin.keeps fun b o e=>fl₅.1 b o (bB b o e);obtain⟨oe,hoe,hoc,_⟩:=fl₅.there;refine wpAny_handleBy_cons (codeAny_handlers_test ?_) (by intro q; cases q);refine Calls.Name_function_global I1.ok.kind hg (Calls.loadGlobal_global (by rw [I1.ok.glob]; exact I1.mod.glob.keeps fun b o e=>fl₅.1 b o (bB b o e)) hm ?_) hdb;refine zfC kin qC qG hoe hoc hin (codeAny_handlers_suite_as ?_);refine zgV fl₅ fun h₆ fl₆ sm₆=>?_;obtain⟨oe6,hoe6,hoc6,hod6⟩:=fl₆.there;subst hod6;have sm:s'.heap.UpToSlots h₆:=(sm₄.trans sm₅).trans sm₆;have na:H' a=none:=by
  cases z:H' a with
  | none=>rfl
  | some u =>
   obtain⟨o,q⟩:=tB a u z;rw [fl.2.1] at q;cases q
 have new:∀ b o,s1.heap.get? b=some o->b≠a:=fun b o q z=>by
  subst z;rcases eB b o q with z | ⟨o',z⟩
  ·rw [hst] at z;obtain⟨_,o2,q2,nf⟩:=fl₆.2.2.1.mem z;obtain⟨oe7,vs7,q7,_,d7,_⟩:=fl₆.first
   rw [q2] at q7;cases q7;exact nf _ d7
  ·rw [fl.2.1] at z;cases z
 have I6:Inv X ze σ (upd H' a (exO a C oe6.dict)) { s' with heap:=h₆ }:=by
  refine I1.call' (ch:=[]) F.os ⟨fun b o q n hb _=>fl₆.1 b o (kB b o q n hb),fun b o q n hb _=>?_,fun b o q n _=>?_,fun b o q _=>?_,fun b xs q=>?_,fun b o u q=>?_,fun b ps q=>?_⟩ ?_ F.bare (fun b z=>absurd z (by simp))
  ·obtain⟨sl,q1⟩:=F.un.any q n (by simp);rw [hst] at hb;obtain⟨_,o3,q3,nf⟩:=fl.2.2.1.mem hb;rw [q1] at q3;cases q3;obtain⟨sl3,q4⟩:=sm b _ q1 nf;exact⟨sl3,q4⟩
  ·rw [zG (new b o q)];exact F.un.free b o q n (by simp)
  ·rcases eB b o q with z | ⟨o',z⟩
   ·rw [hst] at z;obtain⟨_,o3,q3,_⟩:=fl₆.2.2.1.mem z;exact⟨o3,q3⟩
   ·exact⟨o',fl₆.1 b o' z⟩
  ·have q2:=F.un.tups b xs q;rw [zG (zD q2 na)];exact q2
  ·have q2:=F.un.frzs b o u q;rw [zG (zD q2 na)];exact q2
  ·have q2:=F.un.tbls b ps q;rw [zG (zD q2 na)];exact q2
  ·intro b u q;by_cases hb:b=a
   ·subst hb;rw [zQ] at q;cases q;exact zoC hoe6 hoc6 (by
     obtain⟨oe7,vs7,q7,_,d7,_⟩:=fl₆.first
     rw [hoe6] at q7;cases q7;exact⟨_,d7⟩)
   ·rw [zG hb] at q;refine(F.hok b u q).stay (fun c v hc q1=>?_) (fun c q1=>by rw [zG (zD q1 na)]; exact q1) fun c xs q1=>by rw [zG (zD q1 na)]; exact q1
    have tr:∀ c u,H' c=some u->s'.heap.get? c=some v->h₆.get? c=some v:=fun c u e q1=>by
     obtain⟨o',z⟩:=tB c u e;have:=fl.1 c o' z;rw [q1] at this;cases this;exact fl₆.1 c v z
    rcases hc with rfl | hc
    ·exact tr _ _ q q1
    ·exact tr _ _ hc q1
 have hiσ:σ.length=X.N.length:=I6.len;refine zdv (v:=.ref a) I6 hN hi (.inl hl) rfl (fun s7 I7=>?_) (.inr hl);refine wpAny_mono (hs a ze s7 _ _ _ (I7.suite a) hts) (fun f8 s8 q=>?_) fun _ _ z=>z.elim;cases f8 with
 | ret u =>
  obtain⟨w,σ8,H8,I8,r8,q8⟩:=q;have J:=I8.unsuite I6.ok;obtain⟨m8,hn8,_⟩:=J.loc;have hcls:(X.env.scope.kind == .class || (X.env.scope.kind == .module && X.env.locals != X.env.globals))=false:=by rw [J.ok.kind]; rfl
  refine wpAny_nameGoes hl hn8 hcls fun h9 m9 hn9 sb9=>?_;exact⟨w,_,H8,J.gone hn9 sb9,r8,q8⟩
 | next =>
  obtain⟨σ8,H8,I8,q8⟩:=q;have J:=I8.unsuite I6.ok;obtain⟨m8,hn8,hv8⟩:=id J.loc;have hcls:(X.env.scope.kind == .class || (X.env.scope.kind == .module && X.env.locals != X.env.globals))=false:=by rw [J.ok.kind]; rfl
  refine wpAny_nameGoes_keeps hl hn8 hcls fun h9 v9 hn9 sb9=>?_;exact⟨_,H8,J.goneAt hN hi hl hn8 hv8 hn9 sb9,q8⟩
 | brk=>obtain⟨_,_,_,z⟩:=q; exact z.elim
 | cont=>obtain⟨_,_,_,z⟩:=q; exact z.elim
end
theorem zoG{X:Cx}{e:Expr}{tx:XK->TE}{i:Nat}{y:Str}{py pos:Pos}(hN:X.N.Nodup)(hi:X.N[i]? = some y)(hl:Loc X.env.scope y)(he:PEX X e tx)(hs:swapsWith e (some (.Name y py)) pos.line X.env=pure false:=by rfl)(hf:X.fn y=true\/X.env.scope.names.lookup y=some .local:=by first | exact .inl rfl | exact .inr rfl):
  PSX X (.Assign [.Name y py] e pos) (fun Ex=>zou (tx Ex) (zgO i)):=by
 intro ze s σ H D Ex E' I h hX;refine wpAny_Assign_Name (thn (he ze s σ H _ Ex E' I h hX) fun v s1 ⟨y1,H1,I1,r1,q1⟩=>?_) hs;exact zdv I1 hN hi hl r1 (fun s2 I2=>⟨_,H1,I2,q1⟩) hf
def knA(j:Nat):DEnds->XE->RX:=fun En δ x S2=>En.nx (δ.set j (some x)) S2
theorem zoD{j:Nat}:KnOk (knA j) (fun D σ v H1=>D.nx (σ.set j (some v)) H1):=fun h o H δ σ En D he c o' H' S' x v e hs hx q=>c.nx o' H' _ S' _ e ((he.mono e).set hx) hs q
theorem RepE.unset{h o:List Addr}{H:Hp}{δ:XE}{σ:St}{i:Nat}(r:RepE h o H δ σ):RepE h o H (δ.set i none) (σ.set i none):=by
 refine⟨by simp [r.len],fun j y e=>?_⟩;rw [getElem?_set] at e ⊢;by_cases hij:i=j
 ·rw [if_pos hij] at e;split at e <;> cases e
 ·rw [if_neg hij] at e ⊢;exact r.get j y e
def zlL(kn:DEnds->XE->RX)(m:Nat)(q:PX)(da:DA)(i:Nat)(hd:DS):DS:=fun En δ S=>da δ S fun xs S1=>∃ ds,views S1 xs=some ds/\ds.length=m /\
 q (ds.map XV.d) [] (zqr S1 (kn En δ)) fun C fs=>C∈excs/\(∀ f d,fs.lookup f=some d->zfw d=true)/\hd { nx:=fun δ' S'=>En.nx (δ'.set i none) S',rt:=En.rt } (δ.set i (some (.x C fs))) S1
theorem zok{K:W.Frag}{i m:Nat}{ps:List Str}{q:PX}{tl:TA}{dl:DA}{ts:TS}{ds:DS}{kn:DEnds->XE->RX}{kt:Ends->St->VK}{tb:XK->TS}(X0:Exs K)(hm:ps.length=m)(hkn:KnOk kn kt)(htb:∀ Ex D σ H,tb Ex D σ H=(tl σ H fun vs H1=>spX ps q vs H1 (kt D σ) Ex))(ha:RA tl dl)(hsu:RS ts ds):
  RS (zpi K 24 i tb ts) (zlL kn m q dl i ds):=fun h o H δ σ S En D he hs d c=>by
 show tb (zk9 K 24 i ts D σ) D σ H;rw [htb];refine ha h o H δ σ S _ _ he hs d fun o1 H1 S1 xs vs e1 s1 x1 ⟨es,ees,hl,d1⟩=>?_;obtain⟨z1,z2⟩:=zry s1 ees x1;refine⟨by rw [z2,hl,hm],h,[],[],_,_,_,zrI s1,z1,d1,cnV s1 (hkn h o1 H1 δ σ En D (he.mono e1) (c.pre e1)),?_⟩;intro o' H' S' C a fs e' s' hE ⟨hC,nl,hh⟩;have EC:=X0.all C hC;obtain⟨ini,qC⟩:=X0.ci C hC;refine⟨C,a,ini,rfl,rfl,qC,(EC.mroIn _).trans (by simp [exM]),?_⟩;have sH:Same H1 H':=fun b u eb=>(e'.kp b u (by simp) eb).2;have e2:Ex o1 H1 o1 H':=Ex.of_same sH;have s2:=s1.same sH;have no:∀ {b:Addr} {φ:Heap->Prop},H' b=some (.ext φ)->b∉o1:=fun {b φ} z m=>by
  obtain⟨u,eu⟩:=s2.oal b m;rw [z] at eu;cases eu
 have hE2:HasE (vx h o1 H') C fs (.ref a):=by
  obtain⟨a2,dd,ea2,ea,hf⟩:=hE;cases ea2;obtain⟨n1,n2,n3⟩:=zX.mp ea;refine⟨_,dd,rfl,zX.mpr ⟨n1,no n3,n3⟩,fun f dt l=>?_⟩;obtain⟨dx,ws,u,ed,ew,el,eh⟩:=hf f dt l;obtain⟨m1,m2,m3⟩:=zX.mp ew;exact⟨dx,ws,u,ed,zX.mpr ⟨m1,no m3,m3⟩,el,zeT (zad (h:=h) (o:=o')) (fun b mm=>mm.elim (s2.hal b) (s2.oam b)) dt u (nl f dt l) eh⟩
 have cc:=c.pre (e1.trans e2);exact hsu h o1 _ (δ.set i (some (.x C fs))) (σ.set i (some (.ref a))) S1 _ _ (((he.mono e1).mono e2).set hE2) s2 hh ⟨fun o3 H3 δ3 S3 σ3 e3 he3 hs3 n3=>cc.nx o3 H3 _ S3 _ e3 he3.unset hs3 n3,cc.rt,fun _ _ _ _ _ _ _ _ z=>z.elim,fun _ _ _ _ _ _ _ _ z=>z.elim⟩
end
section
mutual
def dkE:PyData->Bool
 | .list ds=>zjC ds
 | .tuple ds=>zjC ds
 | .dict kvs=>kvs.isEmpty
 | _=>true
def zjC:List PyData->Bool
 | []=>true
 | d :: ds=>dkE d && zjC ds
end
theorem zqv(l:List Nat):(l.all fun _=>true)=true:=by simp
theorem dict0{P:Program}{w:World}{h:Heap}{a:Addr}{ep:Nat}(d:h.DictAt (zdM P w) a [] ep)(P':Program)(w':World):h.DictOf (zdM P' w') a []:=by
 obtain⟨o,es,ho,ed,hd,hk,hp,hn⟩:=d;have e:es = #[]:=by
  have:=hp.length;simp at this;exact this
 subst e;exact⟨o,#[],ep,ho,ed,hd,fun e he=>absurd he (by simp),.nil,hn⟩
section
variable {X:Cx} {ze:List (Addr×Obj)} {σ:St} {H:Hp} {s:Shared}
mutual
theorem zkj(I:Inv X ze σ H s):∀ (d:PyData) (A:Around) (x y:V) (u v:Value),Has H d x->Has H d y->RelV x u->RelV y v->dkE d=true->A.units+d.depth<cLine->SeqAt.EqAt A s u v true
 | .none,A,x,y,u,v,hx,hy,rx,ry,_,_=>by
  rw [zbF.mp hx] at rx;rw [zbF.mp hy] at ry;cases (show u=Value.none from rx);cases (show v=Value.none from ry);exact SeqAt.EqAt.same _
 | .bool b,A,x,y,u,v,hx,hy,rx,ry,_,_=>by
  rw [zbj.mp hx] at rx;rw [zbj.mp hy] at ry;cases (show u=Value.bool b from rx);cases (show v=Value.bool b from ry);exact SeqAt.EqAt.same _
 | .int i,A,x,y,u,v,hx,hy,rx,ry,_,_=>by
  rw [zbA.mp hx] at rx;rw [zbA.mp hy] at ry;obtain⟨t,rfl⟩:=(show ∃ t,u=Value.int i t from rx);obtain⟨t',rfl⟩:=(show ∃ t,v=Value.int i t from ry);have:=SeqAt.EqAt.int_int (A:=A) (s:=s) i t i t'
  rwa [beq_self_eq_true] at this
 | .str z,A,x,y,u,v,hx,hy,rx,ry,_,_=>by
  rw [zb3.mp hx] at rx;rw [zb3.mp hy] at ry;obtain⟨t,rfl⟩:=(show ∃ t,u=Value.str z t from rx);obtain⟨t',rfl⟩:=(show ∃ t,v=Value.str z t from ry);have:=SeqAt.EqAt.str_str (A:=A) (s:=s) z t z t'
  rwa [beq_self_eq_true] at this
 | .list ds,A,x,y,u,v,hx,hy,rx,ry,he,hu=>by
  obtain⟨a,xs,rfl,ea,la⟩:=zaf.mp hx;obtain⟨b,ys,rfl,eb,lb⟩:=zaf.mp hy;cases (show u=Value.ref a from rx);cases (show v=Value.ref b from ry);by_cases hab:a=b
  ·subst hab; exact SeqAt.EqAt.same _
  obtain⟨_,its,n,rv,ho⟩:=(show ObjOk X.prog X.w H s.heap a (.lst xs) from I.hok a _ ea);obtain⟨_,its',n',rv',ho'⟩:=(show ObjOk X.prog X.w H s.heap b (.lst ys) from I.hok b _ eb);have hu':A.units+(PyData.depthAll ds+1)<cLine:=hu;have h1:s.heap.IsList a its.toArray:=⟨_,ho,rfl,_,rfl⟩;have h2:s.heap.IsList b its'.toArray:=⟨_,ho',rfl,_,rfl⟩;have sz:its.toArray.size=its'.toArray.size:=by
   have e1:=rv.length;have e2:=rv'.length;have e3:=la.length;have e4:=lb.length;simp;omega
  have:=SeqAt.EqAt.of_refs hab (SeqAt.RcAt.lists (A:=A) (e:=fun _=>true) h1 h2 sz (by omega) fun j j1 j2=>by
   have z:=zb9 I ds A.in1 xs ys its its' la lb rv rv' he (by show A.units+1+_<cLine; omega) j (by simpa using j1) (by simpa using j2);simpa using z)
  rwa [zqv] at this
 | .tuple ds,A,x,y,u,v,hx,hy,rx,ry,he,hu=>by
  obtain⟨a,xs,rfl,ea,la⟩:=zah.mp hx;obtain⟨b,ys,rfl,eb,lb⟩:=zah.mp hy;cases (show u=Value.ref a from rx);cases (show v=Value.ref b from ry);by_cases hab:a=b
  ·subst hab; exact SeqAt.EqAt.same _
  obtain⟨_,its,rv,ho⟩:=(show ObjOk X.prog X.w H s.heap a (.tup xs) from I.hok a _ ea);obtain⟨_,its',rv',ho'⟩:=(show ObjOk X.prog X.w H s.heap b (.tup ys) from I.hok b _ eb);have hu':A.units+(PyData.depthAll ds+1)<cLine:=hu;have h1:s.heap.IsTuple a its.toArray:=ho;have h2:s.heap.IsTuple b its'.toArray:=ho';have sz:its.toArray.size=its'.toArray.size:=by
   have e1:=rv.length;have e2:=rv'.length;have e3:=la.length;have e4:=lb.length;simp;omega
  have:=SeqAt.EqAt.of_refs hab (SeqAt.RcAt.tuples (A:=A) (e:=fun _=>true) h1 h2 (by omega) fun j j1 j2=>by
   have z:=zb9 I ds A.in1 xs ys its its' la lb rv rv' he (by show A.units+1+_<cLine; omega) j (by simpa using j1) (by simpa using j2);simpa using z)
  rw [sz,Nat.min_self,zqv,beq_self_eq_true] at this;exact this
 | .dict kvs,A,x,y,u,v,hx,hy,rx,ry,he,hu=>by
  have e0:kvs=[]:=by simpa [dkE] using he
  subst e0;obtain⟨a,xs,rfl,⟨ob,m,ea,em,_⟩ | ⟨_,_,_,_,em,_⟩,_⟩:=zeq.mp hx
  rotate_left
  ·cases em
  obtain⟨b,ys,rfl,⟨ob',m',eb,em',_⟩ | ⟨_,_,_,_,em',_⟩,_⟩:=zeq.mp hy
  rotate_left
  ·cases em'
  have e1:m=[]:=by simpa using em.symm
  have e2:m'=[]:=by simpa using em'.symm
  subst e1 e2;cases (show u=Value.ref a from rx);cases (show v=Value.ref b from ry);by_cases hab:a=b
  ·subst hab; exact SeqAt.EqAt.same _
  obtain⟨na,_,_,_,vs,_,kv,da⟩:=zmp I.hok ea;obtain⟨nb,_,_,_,vs',_,kv',db⟩:=zmp I.hok eb;cases kv;cases kv';exact SeqAt.EqAt.of_refs hab fun prog w E Q hq=>W.keq_eq (r:=true) na nb (dict0 da prog w) (dict0 db prog w) (by omega) (fun _=>.nil) hq
theorem zb9(I:Inv X ze σ H s):∀ (ds:List PyData) (A:Around) (xs ys:List V) (us vs:List Value),HasL H ds xs->HasL H ds ys->Vals xs us->Vals ys vs->zjC ds=true->A.units+PyData.depthAll ds<cLine->∀ j (h1:j<us.length) (h2:j<vs.length),SeqAt.EqAt A s us[j] vs[j] true
 | [],A,xs,ys,us,vs,hx,hy,rx,ry,_,_,j,h1,h2=>by
  rw [zF.mp hx] at rx;cases rx;exact absurd h1 (Nat.not_lt_zero _)
 | d :: ds,A,xs,ys,us,vs,hx,hy,rx,ry,he,hu,j,h1,h2=>by
  obtain⟨x,xs',rfl,x1,x2⟩:=zt.mp hx;obtain⟨y,ys',rfl,y1,y2⟩:=zt.mp hy;have he':dkE d=true/\zjC ds=true:=by simpa [zjC] using he
  have hu':A.units+max d.depth (PyData.depthAll ds)<cLine:=hu;cases rx with
  | cons r1 r2 =>
   cases ry with
   | cons t1 t2 =>
    cases j with
    | zero=>exact zkj I d A x y _ _ x1 y1 r1 t1 he'.1 (by omega)
    | succ j=>exact zb9 I ds A xs' ys' _ _ x2 y2 r2 t2 he'.2 (by omega) j (Nat.lt_of_succ_lt_succ h1) (Nat.lt_of_succ_lt_succ h2)
end
end
def zrx:R2:=fun x y H Q=>zqG x y H Q\/∃ ds,Has H (.list ds) x/\Has H (.list ds) y/\zjC ds=true/\PyData.depthAll ds<=60/\Q (.bl false) H
theorem zpg{X:Cx}(hu:X.A.units+64<cLine):OpR X (compareOp .NotEq) zrx:=by
 refine(zf0 hu).or ?_;rintro ze s σ H x y u v Q I rx ry ⟨ds,hx,hy,he,hd,q⟩;obtain⟨a,xs,rfl,ea,la⟩:=zaf.mp hx;obtain⟨b,ys,rfl,eb,lb⟩:=zaf.mp hy;cases (show u=Value.ref a from rx);cases (show v=Value.ref b from ry);obtain⟨_,its,n,rv,ho⟩:=(show ObjOk X.prog X.w H s.heap a (.lst xs) from I.hok a _ ea);obtain⟨_,its',n',rv',ho'⟩:=(show ObjOk X.prog X.w H s.heap b (.lst ys) from I.hok b _ eb);have h1:s.heap.IsList a its.toArray:=⟨_,ho,rfl,_,rfl⟩;have h2:s.heap.IsList b its'.toArray:=⟨_,ho',rfl,_,rfl⟩;have sz:its.toArray.size=its'.toArray.size:=by
  have e1:=rv.length;have e2:=rv'.length;have e3:=la.length;have e4:=lb.length;simp;omega
 have z:=SeqAt.RcNeAt.lists (A:=X.A) (e:=fun _=>true) h1 h2 sz (by omega) fun j j1 j2=>by
  have z:=zb9 I ds X.A.in1 xs ys its its' la lb rv rv' he (by show X.A.units+1+_<cLine; omega) j (by simpa using j1) (by simpa using j2);simpa using z
 rw [zqv] at z;exact z X.prog X.w _ _ ⟨.bl false,H,I,rfl,q⟩
def zro:R2:=fun x y H Q=>zq9 x y H Q\/∃ ds,Has H (.list ds) x/\Has H (.list ds) y/\zjC ds=true/\PyData.depthAll ds<=60/\Q (.bl true) H
theorem zoA{X:Cx}(hu:X.A.units+64<cLine):OpR X (compareOp .Eq) zro:=by
 refine(zbV hu).or ?_;rintro ze s σ H x y u v Q I rx ry ⟨ds,hx,hy,he,hd,q⟩;obtain⟨a,xs,rfl,ea,la⟩:=zaf.mp hx;obtain⟨b,ys,rfl,eb,lb⟩:=zaf.mp hy;cases (show u=Value.ref a from rx);cases (show v=Value.ref b from ry);obtain⟨_,its,n,rv,ho⟩:=(show ObjOk X.prog X.w H s.heap a (.lst xs) from I.hok a _ ea);obtain⟨_,its',n',rv',ho'⟩:=(show ObjOk X.prog X.w H s.heap b (.lst ys) from I.hok b _ eb);have h1:s.heap.IsList a its.toArray:=⟨_,ho,rfl,_,rfl⟩;have h2:s.heap.IsList b its'.toArray:=⟨_,ho',rfl,_,rfl⟩;have sz:its.toArray.size=its'.toArray.size:=by
  have e1:=rv.length;have e2:=rv'.length;have e3:=la.length;have e4:=lb.length;simp;omega
 have z:=SeqAt.RcAt.lists (A:=X.A) (e:=fun _=>true) h1 h2 sz (by omega) fun j j1 j2=>by
  have z:=zb9 I ds X.A.in1 xs ys its its' la lb rv rv' he (by show X.A.units+1+_<cLine; omega) j (by simpa using j1) (by simpa using j2);simpa using z
 rw [zqv] at z;exact z X.prog X.w _ _ ⟨.bl true,H,I,rfl,q⟩
def zqw:D2:=fun x y S R=>zl4 x y S R\/∃ ds,zck S x=some (.list ds)/\zck S y=some (.list ds)/\zjC ds=true/\PyData.depthAll ds<=60/\R (.d (.bool false)) S
theorem zoT:RO zrx zqw:=fun h o H S x y v u R Q hs hx hy q c=>by
 rcases q with q | ⟨ds,q1,q2,q3,q4,q⟩
 ·exact .inl (ziC h o H S x y v u R Q hs hx hy q c)
 ·exact .inr ⟨ds,zbB hs q1 hx,zbB hs q2 hy,q3,q4,c o H S _ _ Ex.refl hs (xB _) q⟩
def zqt:D2:=fun x y S R=>zgB x y S R\/∃ ds,zck S x=some (.list ds)/\zck S y=some (.list ds)/\zjC ds=true/\PyData.depthAll ds<=60/\R (.d (.bool true)) S
theorem zpd:RO zro zqt:=fun h o H S x y v u R Q hs hx hy q c=>by
 rcases q with q | ⟨ds,q1,q2,q3,q4,q⟩
 ·exact .inl (zis h o H S x y v u R Q hs hx hy q c)
 ·exact .inr ⟨ds,zbB hs q1 hx,zbB hs q2 hy,q3,q4,c o H S _ _ Ex.refl hs (xB _) q⟩
end
section
structure FnAt(P:Program)(w:World)(K:W.Frag)(mg:Str->Option Value)(base:Heap)(F:Addr)(ps:List Str)(k:Nat)(sp:Sp):Prop where
 ex:∃ fd,FnOk P w K mg base CX0 k F fd ps sp/\W.keepIn K (.ref F)=true/\Binds K fd ps []
def zms(i:Nat)(F:Addr)(sp:Sp)(ta:TA):TE:=fun σ H Q=>σ[i]? = some (some (.ref F))/\zgN sp [] E0 ta σ H Q
def zik(i:Nat)(F:Addr)(m:Nat)(q:PN)(da:DA):DE:=fun δ S R=>δ[i]? = some (some (.o (.ref F)))/\zan m q da δ S R
theorem zll{F:Addr}{i:Nat}{ps:List Str}{q:PN}{m:Nat}{t:TA}{da:DA}(ha:RA t da)(hm:ps.length=m:=by rfl):RE (zms i F (spN ps q) t) (zik i F m q da):=fun h o H δ σ S R Q he hs ⟨e,w⟩ c=>by
 obtain⟨v,e1,e2⟩:=he.get i _ e;have ev:v=.ref F:=e2;subst ev;exact⟨e1,zae ha hm h o H δ σ S R Q he hs w c⟩
end
end L2
namespace HT
open PySem PyProof.Rows
end HT
namespace L2
open PySem PySem.Spec PyProof.Rows
end L2
namespace L2
open PySem PySem.Spec PySem.Calls PyProof.Rows
end L2
namespace HT
open PySem PyProof.Rows
end HT
namespace L2
open PySem PySem.Spec PySem.Calls PyProof.Rows
end L2
namespace HT
open PySem PyProof.Rows
end HT
namespace L2
open PySem PySem.Spec PySem.Calls PyProof.Rows
end L2
namespace L2
open PySem PySem.Spec PyProof.Rows
end L2
namespace L2
open PySem PyProof.Rows
section
variable {prog:Program} {w:World} {A:Around} {E:Value->Shared->Prop} {s:Shared} {kd:SortKind} {D:Keyed->Prop} {lt:Keyed->Keyed->Bool}
def flt(lt:Keyed->Keyed->Bool):Keyed->Keyed->Bool:=fun x y=>lt y x
def G(xs:Array Keyed)(i:Nat):Keyed:=(xs[i]?).getD (.none,.none)
end
end L2
namespace L2
open PySem PySem.Spec PySem.Calls PyProof.Rows PySem.W
def zmG:List XV->Sto->RX->Prop:=fun xs S R=>arg1 xs fun x=>∃ m:List (Key×PyData),x=.d (.dict (DD.pairs (.k m)))/\∃ ns:List Int,m.map (·.1)=ns.map Sum.inl/\ns.length<=10000000/\∀ ms:List Int,ms.Perm ns->ms.Pairwise (· <= ·)->R (.d (.list (ms.map PyData.int))) S
end L2
namespace L2
open PySem PySem.Spec PyProof.Rows
end L2
namespace L2
open PySem PySem.Spec PySem.Calls PyProof.Rows
end L2
namespace L2
open PySem PySem.Spec PySem.Calls PyProof.Rows
def zpI(j:Nat)(dk dv:DM->DE):DSm:=fun En δ S M=>zi j δ S fun y S1=>∃ a m,y=.o (.ref a)/\(a,DD.k m)∈M/\dk M δ S1 fun z S2=>dv M δ S2 fun x S3=>asD z fun k=>asD x fun d=>∃ kk,zrM k=some kk/\m.length<1000/\if (lkA m kk).isSome=true then En.nx δ S3 M else En.nx δ S3 (zrF M a (.k (ptA m kk d)))
def zmn(k:Int)(e:DE):DE:=fun δ S R=>e δ S fun x S1=>asD x fun d=>R (.d (.dict [(.int k,d)])) S1
end L2
namespace L2
open PySem PySem.Spec PySem.Calls PyProof.Rows
end L2
namespace L2
open PySem PySem.Spec PyProof.Rows
end L2
namespace L2
theorem len0{α:Type}{l:List α}(h:l.length=0):l=[]:=eq_nil_of_length_eq_zero h
theorem len1{α:Type}{l:List α}(h:l.length=1):∃ a0,l=[a0]:=by
 cases l with
 | nil=>cases h
 | cons x r =>
  obtain rfl:=len0 (Nat.succ.inj h);exact⟨x,rfl⟩
theorem len2{α:Type}{l:List α}(h:l.length=2):∃ a0 a1,l=[a0,a1]:=by
 cases l with
 | nil=>cases h
 | cons x r =>
  obtain⟨a1,rfl⟩:=len1 (Nat.succ.inj h);exact⟨x,a1,rfl⟩
theorem len3{α:Type}{l:List α}(h:l.length=3):∃ a0 a1 a2,l=[a0,a1,a2]:=by
 cases l with
 | nil=>cases h
 | cons x r =>
  obtain⟨a1,a2,rfl⟩:=len2 (Nat.succ.inj h);exact⟨x,a1,a2,rfl⟩
end L2
namespace L2
open PySem PySem.Spec PyProof.Rows
end L2
namespace L2
open PySem PySem.Spec PySem.Calls PyProof.Rows
open Sem (wp)
def zo1(a:DA):DE:=fun δ S R=>a δ S fun xs S1=>arg2 xs fun x y=>∃ ds,zjA x=some ds/\∃ es,zjA y=some es/\min ds.length es.length<=1000/\R (.d (.list (zgy ds es))) S1
end L2
namespace L2
open PySem PySem.Spec PyProof.Rows
end L2
namespace L2
open PySem PySem.Spec PySem.Calls PyProof.Rows
open Sem (wp)
structure LamScope(ps caps:List Str)(sc:Scope):Prop where
 kind:sc.kind=.function
 co:sc.isCoroutine=false
 gen:sc.isGenerator=false
 nd:(ps++caps).Nodup
 par:∀ x∈ps,sc.names.lookup x=some .local
 cap:∀ x∈caps,sc.names.lookup x=some .free
 nocell:∀ y∈sc.names,y.2≠.cell
 free:∀ x,sc.names.lookup x=some .free->x∈caps
def cxL(P:Program)(w:World)(K:W.Frag)(mg:Str->Option Value)(base:Heap)(N:List Str)(qual:Str)(scope:Scope)(cl:List (Str×Addr))(f:Addr)(cd:Value)(A:Around)(outer:List Env)(s:Shared)(H:Hp):Cx where
 prog:=P
 w:=w
 K:=K
 mg:=mg
 base:=base
 A:=A.deeper (W.envX qual scope s.heap.objs.size f cd cl)
 N:=N
 s₀:=s
 H₀:=H
 env:=W.envX qual scope s.heap.objs.size f cd cl
 outer:=outer
 stack:=W.envX qual scope s.heap.objs.size f cd cl :: outer
 ex:=[]
 calm:=true
 fn:=fun _=>false
 pn:=[]
 xe:=fun _ _=>False
theorem zfX:∀ {ps:List Str} {us:List Value} {i:Nat} {y:Str} {u:Value},ps.Nodup->ps[i]? = some y->us[i]? = some u->((ps.zip us).reverse).lookup y=some u
 | [],_,_,_,_,_,e,_=>by simp at e
 | _ :: _,[],_,_,_,_,_,e=>by simp at e
 | p :: ps,v :: us,0,y,u,nd,e1,e2=>by
  simp at e1 e2;subst e1 e2;rw [nodup_cons] at nd;rw [zip_cons_cons,reverse_cons,List.lookup_append];have:((ps.zip us).reverse).lookup p=none:=by
   rw [List.lookup_eq_none_iff];intro q mq;have:=(of_mem_zip (mem_reverse.mp mq)).1;have ne:p≠q.1:=fun e=>nd.1 (by rw [e]; exact this);simpa using ne
  rw [this];simp [List.lookup]
 | p :: ps,v :: us,i+1,y,u,nd,e1,e2=>by
  rw [nodup_cons] at nd;rw [zip_cons_cons,reverse_cons,List.lookup_append,zfX nd.2 (by simpa using e1) (by simpa using e2)];rfl
section
variable {P:Program} {w:World} {K:W.Frag} {mg:Str->Option Value} {base:Heap} {A:Around} {outer:List Env} {s:Shared} {H:Hp}
structure Caps(H:Hp)(h:Heap)(cl:List (Str×Addr))(caps:List Str)(cs:List V):Prop where
 len:cs.length=caps.length
 inj:∀ x y c,cl.lookup x=some c->cl.lookup y=some c->x=y
 has:∀ x,x∈caps↔∃ c,cl.lookup x=some c
 at_:∀ (i:Nat) x v,caps[i]? = some x->cs[i]? = some v->∃ c u,cl.lookup x=some c/\RelV v u/\h.IsCell c (some u)
 free:∀ x c,cl.lookup x=some c->H c=none/\∃ v,h.IsCell c v
theorem znJ{k:Nat}{ps caps:List Str}{name qual:Str}{params:Arguments}{body:Expr}{scope:Scope}{cl:List (Str×Addr)}{pm ctv:Value}{c' f:Addr}{us:List Value}{vs cs:List V}{Q:VK}{t:TE}
  (S:LamScope ps caps scope) (hr:Room (k+1) A) (e0:Env0 P w K mg base A outer s H) (ho:s.heap.get? f=some (W.kla_obj name qual params body scope cl pm c' ctv)) (hcd:s.heap.CodeRec (.ref c') qual)
  (hbind:bindArgs (W.kla_fn name qual params body scope cl pm (.ref c') ctv) ⟨us,[]⟩=pure (ps.zip us)) (hl:vs.length=ps.length) (r:Vals vs us) (C:Caps H s.heap cl caps cs)
  (hb:PE (cxL P w K mg base (ps++caps) qual scope cl f (.ref c') A outer s H) body t) (q:t (vs.map some++cs.map some) H Q) :
  codeAny (model P w) A (.call (.ref f) ⟨us,[]⟩) (fun r' s'=>match r' with | .ok (.ret u)=>CE outer P w H s Q u s' | _=>False) s:=by
 have KX:K.In s.heap:=e0.mod.kin.keeps fun b o e=>(e0.bs b o e).1;have lim:s.heap.NoLimit:=e0.mod.nolimit.keeps fun b o e=>(e0.bs b o e).1;refine W.kla_callFunE hr.depth ho rfl S.co S.gen rfl hcd ?_;rw [hbind];refine wpAny_pure (wpAny_newFunctionEnv S.nocell (fun y hy=>S.par y.1 (of_mem_zip hy).1) (fun h₁ hns hsb=>⟨lim.fresh _ hsb,?_⟩) S.kind);show codeAny _ _ (.expr body (W.envX qual scope s.heap.objs.size f (.ref c') cl)) _ _;have hk:∀ b o,s.heap.get? b=some o->h₁.get? b=some o:=fun b o e=>hsb.extBut b o (ne_of_lt (lt_size e)) (get?_push_of_some _ e);have noA:∀ b:Addr,b∉(cxL P w K mg base (ps++caps) qual scope cl f (.ref c') A outer s H).ex:=fun b z=>absurd (show b∈([]:List Addr) from z) (by simp);have ul:us.length=ps.length:=by rw [<- r.length]; exact hl
 have I:Inv (cxL P w K mg base (ps++caps) qual scope cl f (.ref c') A outer s H) [] (vs.map some++cs.map some) H { s with heap:=h₁,toks:=s.toks+(ps.zip us).length }:=by
  refine⟨⟨e0.mod,S.kind,rfl,rfl,le_refl _,fun x y c h1 h2=>C.inj x y c h1 h2,fun y hy=>?_,fun y c h _=>absurd (show false=true from h) dz,fun _=>hr.hd,Around.frames_deeper e0.frames,.inr ⟨rfl,rfl⟩,fun b z=>absurd z (noA b),e0.bs,e0.bsz,fun b _ _=>noA b,fun b z=>absurd z (noA b),e0.funs,e0.frf⟩,
   rfl,e0.bare,Un.kept hk,⟨_,hns,fun i y v h1 h2 h3=>?_⟩,fun y c h=>?_,e0.hok.fresh (le_refl _),fun y c h=>(C.free y c h).1,fun p hp=>absurd (show p∈([]:List (Addr×Obj)) from hp) (by simp),e0.hok.kept hk,?_⟩
  ·have hy:scope.names.lookup y=some .cell\/scope.names.lookup y=some .free:=hy;rcases hy with hy | hy
   ·exact absurd rfl (S.nocell _ (PySem.mem_of_lookup hy))
   ·exact(C.has y).mp (S.free y hy)
  ·by_cases hi:i<ps.length
   ·have h1':ps[i]? = some y:=by
     have h1:(ps++caps)[i]? = some y:=h1
     rwa [getElem?_append_left hi] at h1
    have h2':vs[i]? = some v:=by
     rw [getElem?_append_left (by rw [length_map]; omega),getElem?_map] at h2;cases e:vs[i]? with
     | none=>rw [e] at h2; cases h2
     | some a=>rw [e] at h2; cases h2; rfl
    obtain⟨u,hu,rv⟩:=r.get h2';exact⟨u,rv,.inl ⟨S.par y (mem_of_getElem? h1'),zfX (nodup_append.mp S.nd).1 h1' hu⟩⟩
   ·have h1':caps[i - ps.length]? = some y:=by
     have h1:(ps++caps)[i]? = some y:=h1
     rwa [getElem?_append_right (by omega)] at h1
    have h2':cs[i - ps.length]? = some v:=by
     rw [getElem?_append_right (by rw [length_map]; omega),length_map,hl,getElem?_map] at h2;cases e:cs[i - ps.length]? with
     | none=>rw [e] at h2; cases h2
     | some a=>rw [e] at h2; cases h2; rfl
    obtain⟨c,u,e1,rv,cl'⟩:=C.at_ _ y v h1' h2';exact⟨u,rv,.inr ⟨.inr (S.cap y (mem_of_getElem? h1')),c,e1,cl'.keeps hk⟩⟩
  ·obtain⟨v,q⟩:=(C.free y c h).2;exact⟨v,q.keeps hk⟩
  ·show (vs.map some++cs.map some).length=(ps++caps).length;simp [hl,C.len]
 refine W.kla_codeExpr (wpAny_mono (hb [] _ _ H _ I q) (fun u s' hs=>?_) fun e s' z=>z.elim);obtain⟨v,H',J,rv,q'⟩:=hs;exact⟨v,H',J.os,J.bare,J.base,J.hok,rv,q'⟩
end
abbrev lamKey (qual:Str) (pos:Pos):Array Value:=#[rawInt pos.line,rawInt pos.col,.str qual 0]
abbrev zhr (qual:Str) (params:Arguments) (body:Expr) (scope:Scope) (cl:List (Str×Addr)) (pm:Value) (c':Addr) (ctv:Value):Obj:=W.kla_obj "<lambda>" qual params body scope cl pm c' ctv
section
variable {X:Cx} {ze:List (Addr×Obj)} {σ:St} {H:Hp} {s:Shared} {M:Model} {A:Around} {E:Value->Shared->Prop} {Q:Value->Shared->Prop} {c P:Addr} {qual:Str} {params:Arguments} {body:Expr} {scope:Scope} {pos:Pos} {cl:List (Str×Addr)}
theorem zlX(I:Inv X ze σ H s)(hcode:X.env.code=.ref c)(hT:((c,P),lamKey qual pos)∈tabsG)(hcl:closureFor scope X.env=pure cl)
  (h:∀ (f c':Addr) (ctv pm:Value) (H':Hp) (s':Shared),Inv X ze σ H' s'->Same H H'->H f=none->H' f=some (.frz (zhr qual params body scope cl pm c' ctv) (.own 0))->(∃ oc vs t',H' c'=some (.frz oc (.own 0))/\oc.data=.fields vs/\vs[1]? = some (.str qual t'))->Q (.ref f) s') :
  wpAny M A (makeFunction "<lambda>" qual params (.expr body) scope X.env [] [] [] pos pos.line) Q E s:=by
 have hH:H P=some (.tbl (lamKey qual pos)):=I.stkFree.tab _ hT;have C:W.CodeHd X.base c P:=I.mod.hd _ hT;have B:BltAt X.base X.mg:=I.mod.bm;obtain⟨qs,hP,hq⟩:=(show ObjOk X.prog X.w H s.heap P (.tbl (lamKey qual pos)) from I.hok P _ hH);have neP:∀ b o,X.base.get? b=some o->b≠P:=fun b o e z=>by
  have:=(I.bs b o e).2;rw [z,hH] at this;cases this
 have hg:s.heap.Ns mainGlobals X.mg:=I.mod.glob.keeps I.bk;have hgP:mainGlobals≠P:=by
  obtain⟨o,es,ep,e,_⟩:=I.mod.glob;exact neP _ o e
 have hB:s.heap.BuiltinsAt X.mg P:=by
  obtain⟨bm,ob,b1,b2,b3,b4,b5,b6⟩:=B;refine⟨bm,ob,b1,b2,fun z=>?_,neP _ _ b3,I.bk _ _ b3,b4,b5,b6⟩;obtain⟨o,es,ep,e,d,_⟩:=I.mod.glob;rw [z,e] at b3;cases b3;rw [d] at b6;cases b6
 have hC:=C.keeps I.bk;rcases hq with rfl | ⟨l,k,q,t,c',oc,vs,t',e1,rfl,e3,e4,e5⟩
 ·refine W.kla_makeFunction (mg:=X.mg) hcl I.ok.glob hg hcode hC hP trivial rfl hgP hB fun c' ctv h' tk hx hge hlt hrec htb=>?_;obtain⟨c₂,oc,vs,t',e2,hoc,hd,hv⟩:=hrec;cases e2;have hsz:s.heap.objs.size<=h'.objs.size:=le_of_lt (Nat.lt_of_le_of_lt hge hlt);have nc:H c'=none:=I.hok.fresh hge;have nf:H h'.objs.size=none:=I.hok.fresh hsz;have cf:c'≠h'.objs.size:=ne_of_lt hlt
  let fo:Obj:=zhr qual params body scope cl ((X.mg "__name__").getD .none) c' ctv
  let H':Hp:=upd (upd H c' (.frz oc (.own 0))) h'.objs.size (.frz fo (.own 0))
  have gr:Same H H':=(Same.laid nc).trans (Same.laid (by rw [zG (Ne.symm cf)]; exact nf));have hpc:P≠c':=zD hH nc;have hpf:P≠h'.objs.size:=zD hH nf;have kp:∀ b o,b≠P->s.heap.get? b=some o->(h'.push fo).get? b=some o:=fun b o nb e=>get?_push_of_some _ (hx b o nb e);have eH:∀ b,b≠c'->b≠h'.objs.size->H' b=H b:=fun b n1 n2=>by show upd _ _ _ b=_; rw [zG n2,zG n1]
  have hc':H' c'=some (.frz oc (.own 0)):=by show upd _ _ _ c'=_; rw [zG cf,zQ]
  have hf':H' h'.objs.size=some (.frz fo (.own 0)):=zQ;refine h h'.objs.size c' ctv _ H' _ (I.un ⟨fun b o e n _ _=>kp b o (fun z=>by rw [z,hH] at n; cases n) e,fun b o e n _ _=>⟨o.slots,kp b o (fun z=>by rw [z,hH] at n; cases n) e⟩,fun b o e n _=>?_,fun b o e _=>?_,fun b xs e=>gr b _ e,fun b o u e=>gr b _ e,fun b ps e=>gr b _ e⟩ fun b u e=>?_) gr nf hf' ⟨oc,vs,t',hc',hd,hv⟩
  ·have lb:=lt_size e;rw [eH b (ne_of_lt (lt_of_lt_of_le lb hge)) (ne_of_lt (lt_of_lt_of_le lb hsz))];exact n
  ·by_cases hb:b=P
   ·subst hb;exact⟨_,get?_push_of_some _ htb⟩
   ·exact⟨o,kp b o hb e⟩
  ·by_cases h1:b=h'.objs.size
   ·subst h1;rw [hf'] at e;cases e;have g:=get?_push_size h' (o:=fo) rfl;exact⟨g,_,g⟩
   ·by_cases h2:b=c'
    ·subst h2;rw [hc'] at e;cases e;have g:=get?_push_of_some fo hoc;exact⟨g,_,g⟩
    ·rw [eH b h2 h1] at e;by_cases h3:b=P
     ·subst h3;rw [hH] at e;cases e;exact⟨_,get?_push_of_some _ htb,.inr ⟨_,_,qual,0,c',oc,vs,t',rfl,rfl,hc',hd,hv⟩⟩
     ·refine(I.hok b u e).stay (fun d v hd' q1=>kp d v (fun z=>?_) q1) (fun d q1=>gr d _ q1) (fun d xs q1=>gr d _ q1) fun d o u q1=>gr d _ q1;subst z;rcases hd' with z | z
      ·exact h3 z.symm
      ·rw [hH] at z; cases z
 ·have el:rawInt pos.line=l:=congrArg (fun a:Array Value=>a.getD 0 .none) e1;have ek:rawInt pos.col=k:=congrArg (fun a:Array Value=>a.getD 1 .none) e1;have eq:qual=q:=by
   have:=congrArg (fun a:Array Value=>a.getD 2 .none) e1;have z:Value.str qual 0=Value.str q t:=this;cases z;rfl
  subst eq;rw [<- el,<- ek] at hP;have hca:codeAmong pos (#[rawInt pos.line,rawInt pos.col,Value.ref c']:Array Value).toList=some (.ref c'):=by
   simp [codeAmong,rawInt]
  refine W.kla_makeFunctionHit (mg:=X.mg) hcl I.ok.glob hg hcode hC hP trivial hca hB fun ctv h' tk kp hsz=>?_;have nf:H h'.objs.size=none:=I.hok.fresh hsz
  let fo:Obj:=zhr qual params body scope cl ((X.mg "__name__").getD .none) c' ctv
  have gr:Same H (upd H h'.objs.size (.frz fo (.own 0))):=Same.laid nf;have g:=get?_push_size h' (o:=fo) rfl;exact h h'.objs.size c' ctv _ _ _ (I.laid (t':=tk) (o:=.frz fo (.own 0)) (fun b o e=>get?_push_of_some _ (kp b o e)) hsz ⟨g,_,g⟩) gr nf zQ ⟨oc,vs,t',gr _ _ e3,e4,e5⟩
end
end L2
namespace L2
open PySem PySem.Spec PySem.Calls PyProof.Rows
open Sem (wp)
section
variable {P:Program} {w:World} {K:W.Frag} {mg:Str->Option Value} {base:Heap} {A:Around} {outer:List Env} {s s':Shared} {H H' H0:Hp} {fs:List Addr} {h0 h h':Heap}
theorem Caps.after{cl:List (Str×Addr)}{caps:List Str}{cs:List V}(C:Caps H h cl caps cs)(U:Un fs [] H H' h h'):Caps H' h' cl caps cs:=by
 have kp:∀ c v,H c=none->h.IsCell c v->h'.IsCell c v:=fun c v n ⟨o,e,d⟩=>by
  obtain⟨sl,q⟩:=U.any e n (by simp);exact⟨_,q,d⟩
 refine⟨C.len,C.inj,C.has,fun i x v e1 e2=>?_,fun x c e=>?_⟩
 ·obtain⟨c,u,q1,q2,q3⟩:=C.at_ i x v e1 e2;exact⟨c,u,q1,q2,kp c _ (C.free x c q1).1 q3⟩
 ·obtain⟨n,v,q⟩:=C.free x c e;obtain⟨o,eo,_⟩:=id q;exact⟨U.free c o eo n (by simp),v,kp c v n q⟩
def CodeFz(H:Hp)(c':Addr)(qual:Str):Prop:=∃ oc vs t',H c'=some (.frz oc (.own 0))/\oc.data=.fields vs/\vs[1]? = some (.str qual t')
theorem CodeFz.rec{c':Addr}{qual:Str}(c:CodeFz H c' qual)(hok:HOk P w H h):h.CodeRec (.ref c') qual:=by
 obtain⟨oc,vs,t',e,d,q⟩:=c;obtain⟨g,_⟩:=(show ObjOk P w H h c' (.frz oc (.own 0)) from hok _ _ e);exact⟨c',oc,vs,t',rfl,g,d,q⟩
theorem CodeFz.un{c':Addr}{qual:Str}(c:CodeFz H c' qual)(U:Un fs [] H H' h h'):CodeFz H' c' qual:=by
 obtain⟨oc,vs,t',e,r⟩:=c;exact⟨oc,vs,t',U.frzs _ _ _ e,r⟩
end
end L2
namespace L2
open PySem PySem.Spec PySem.Calls PyProof.Rows
open Sem (wp)
end L2
namespace L2
open PySem PySem.Spec PySem.Calls PyProof.Rows
open Sem (wp)
def zfy(DN:List Str)(dsc:List (Str×NameKind))(sc:Scope)(ps caps:List Str)(ks:List Nat):Bool :=
 (ks.length == caps.length) && decide ((ps++caps).Nodup) && ps.all (fun x=>sc.names.lookup x == some .local) && caps.all (fun x=>sc.names.lookup x == some .free && dsc.lookup x == some .cell) &&
 sc.names.all (fun y=>y.2 != .cell && (y.2 != .free || caps.contains y.1)) && (ks.zip caps).all (fun p=>DN[p.1]? == some p.2)
section
variable {X:Cx} {ze:List (Addr×Obj)} {σ:St} {H:Hp} {s:Shared} {dsc scope:Scope} {L:Nat} {ps caps:List Str} {ks:List Nat}
theorem zh5(hk:scope.kind=.function)(hco:scope.isCoroutine=false)(hg:scope.isGenerator=false)(h:zfy X.N dsc.names scope ps caps ks=true):LamScope ps caps scope:=by
 simp only [zfy,Bool.and_eq_true,all_eq_true,beq_iff_eq,decide_eq_true_eq] at h;obtain⟨⟨⟨⟨⟨_,nd⟩,hp⟩,hc⟩,hn⟩,_⟩:=h;refine⟨hk,hco,hg,nd,hp,fun x hx=>(hc x hx).1,fun y hy e=>?_,fun x e=>?_⟩
 ·have:=(hn y hy).1;rw [e] at this;simp at this
 ·have:=(hn _ (PySem.mem_of_lookup e)).2;simpa using this
theorem ziR(hd:X.env.scope=dsc)(hc:X.env.cells=cellsFrom L dsc.names [])(h:zfy X.N dsc.names scope ps caps ks=true):closureFor scope X.env=pure (zhF X.env scope.names []):=by
 subst hd;simp only [zfy,Bool.and_eq_true,all_eq_true,beq_iff_eq,decide_eq_true_eq] at h;obtain⟨⟨⟨⟨⟨_,nd⟩,hp⟩,hcp⟩,hn⟩,_⟩:=h;refine zdA fun y hy e=>?_;have:=(hn y hy).2;rw [e] at this;rw [hc];exact W.cellsFrom_some _ _ _ (.inl (hcp _ (by simpa using this)).2)
theorem zli{cs:List V}(I:Inv X ze σ H s)(hd:X.env.scope=dsc)(hc:X.env.cells=cellsFrom L dsc.names [])(h:zfy X.N dsc.names scope ps caps ks=true)(hσ:ks.map (fun i=>(σ[i]?).join)=cs.map some):Caps H s.heap (zhF X.env scope.names []) caps cs:=by
 have hcl:=ziR hd hc h;subst hd;simp only [zfy,Bool.and_eq_true,all_eq_true,beq_iff_eq,decide_eq_true_eq] at h;obtain⟨⟨⟨⟨⟨hl,nd⟩,hp⟩,hcp⟩,hn⟩,hz⟩:=h;have hsome:∀ x,X.env.scope.names.lookup x=some .cell->(X.env.cells.lookup x).isSome=true:=fun x e=>by
  rw [hc];exact W.cellsFrom_some _ _ _ (.inl e)
 have sub:∀ x c,(zhF X.env scope.names []).lookup x=some c->X.env.cells.lookup x=some c/\x∈caps:=fun x c e=>by
  rcases zgh (PySem.mem_of_lookup e) with q | ⟨q,ec⟩
  ·cases q
  ·have hx:x∈caps:=by have:=(hn _ q).2; simpa using this
   obtain⟨c',hc'⟩:=isSome_iff_exists.mp (hsome x (hcp x hx).2);refine⟨?_,hx⟩;rw [ec,hc'];rfl
 have has:∀ x∈caps,∃ c,(zhF X.env scope.names []).lookup x=some c:=fun x hx=>by
  obtain⟨c,hm⟩:=zen (env:=X.env) (acc:=[]) (PySem.mem_of_lookup (hcp x hx).1);exact zbG hm
 have lc:cs.length=caps.length:=by
  have:=congrArg List.length hσ;simp only [length_map] at this;omega
 refine⟨lc,fun x y c h1 h2=>I.ok.inj x y c (sub x c h1).1 (sub y c h2).1,fun x=>⟨has x,fun⟨c,e⟩=>(sub x c e).2⟩,fun i x v e1 e2=>?_,fun x c e=>⟨I.freeC x c (sub x c e).1,I.cell x c (sub x c e).1⟩⟩;obtain⟨c,ec⟩:=has x (mem_of_getElem? e1);have hi:i<ks.length:=by
  have:=(List.getElem?_eq_some_iff.mp e1).1;omega
 have ek:=getElem?_eq_getElem hi;have hsl:(σ[ks[i]]?).join=some v:=by
  have:=congrArg (fun l=>l[i]?) hσ;simp only [getElem?_map,e2,ek,map_some] at this;exact Option.some.inj this
 have hsv:σ[ks[i]]? = some (some v):=by
  cases q:σ[ks[i]]? with
  | none=>rw [q] at hsl; cases hsl
  | some a=>rw [q] at hsl; rw [show a=some v from hsl]
 have hN:X.N[ks[i]]? = some x:=hz (ks[i],x) (mem_of_getElem? (i:=i) (by rw [getElem?_zip_eq_some]; exact⟨ek,e1⟩));have hcell:=(hcp x (mem_of_getElem? e1)).2;obtain⟨m,_,hl'⟩:=I.loc;obtain⟨u,rv,lk⟩:=hl' _ x v hN hsv (.inr (.inl hcell));rcases lk with ⟨k1,_⟩ | ⟨_,c',q1,q2⟩
 ·exact absurd ((show X.env.kindOf x=some .cell from hcell).symm.trans k1) dz
 ·rw [(sub x c ec).1] at q1;cases q1;exact⟨c,u,ec,rv,q2⟩
end
theorem zgL{h o:List Addr}{H:Hp}{δ:XE}{σ:St}(r:RepE h o H δ σ):∀ {ks:List Nat} {cs:List XV},ks.map (fun i=>(δ[i]?).join)=cs.map some->∃ vs:List V,ks.map (fun i=>(σ[i]?).join)=vs.map some/\HasXs h o H cs vs
 | [],[],_=>⟨[],rfl,rfl⟩
 | [],_ :: _,e=>by simp at e
 | _ :: _,[],e=>by simp at e
 | k :: ks,x :: cs,e=>by
  simp only [map_cons,List.cons.injEq] at e;obtain⟨e1,e2⟩:=e;have e3:δ[k]? = some (some x):=by
   cases q:δ[k]? with
   | none=>rw [q] at e1; cases e1
   | some a=>rw [q] at e1; rw [show a=some x from e1]
  obtain⟨v,e4,hv⟩:=r.get k x e3;obtain⟨vs,e5,hl⟩:=zgL r e2;refine⟨v :: vs,?_,v,vs,rfl,hv,hl⟩;simp only [map_cons,e4,e5];rfl
end L2
namespace L2
open PySem PySem.Spec PySem.Calls PyProof.Rows
structure CodeAt(K:W.Frag)(mg:Str->Option Value)(x:Str)(c:Addr):Prop where
 ex:∀ f oc od fd osl,mg x=some (.ref f)->K.lookup f=some ⟨oc,od,.func fd,osl⟩->fd.code=.ref c
theorem CodeAt.of{K:W.Frag}{h:Heap}{mg:Str->Option Value}{x:Str}{c P:Addr}(X:K.In h)(G:h.Ns mainGlobals mg)(ht:W.tabIn K x=some (c,P)):CodeAt K mg x c :=
 ⟨fun f oc od fd osl hm hl=>W.law_code X G ht hm (X _ _ hl) rfl⟩
section
variable {P:Program} {w:World} {K:W.Frag} {mg:Str->Option Value} {base:Heap} {x:Str} {st:Stmt} {N ps:List Str} {k:Nat} {c:Addr}
theorem znb{q:PX}(D:Dd K mg x st ps)(C:CodeAt K mg x c)(S:FnScope N ps (zg st))(n:Nat)(hn:N.length=ps.length+n)
  (hbody:∀ (f:Addr) (A:Around) (outer:List Env) (s:Shared) (H:Hp) (E:XK) (EX:EXD),Room k (A.deeper (envOfC x (zg st) s.heap.objs.size f (.ref c))) ->
   ∃ t dt,PSs (zfE (CX1 P w) P w K mg base N x (zg st) f (.ref c) A outer s H E) (zaD st) t/\RSx E EX t dt/\∀ xs S R,q xs S R EX->dt (zbR S.length R) (xs.map some++List.replicate n none) S):DfX P w K mg base x ps (k+1) (spX ps q):=by
 obtain⟨f,fd,F,hm,hb⟩:=D.ex;have kp:=F.kp;obtain⟨oc,od,kV,doc,pm,an,cdv,ct,osl,rfl,lk,hcd⟩:=F.ex;obtain rfl:cdv=.ref c:=C.ex f _ _ _ _ hm lk;refine⟨f,_,zpP lk hcd S (fun vs H Q E h=>h.1) fun A outer s H vs Q E hr ⟨hl,h,o,S',xs,R,EX,hs',hx,hq,c,cx⟩=>?_,hm,kp,hb⟩;obtain⟨t,dt,h1,h2,h3⟩:=hbody f A outer s H E EX hr;refine⟨t,h1,h2 h o H _ _ S' _ _ ?_ hs' (h3 xs S' R hq) (eok hs' c) cx⟩;have e:N.length - vs.length=n:=by omega
 unfold start;rw [e];exact zcc hx
end
end L2
namespace L2
open PySem PySem.Spec PySem.Calls PyProof.Rows
end L2
namespace L2
open PySem PySem.Spec PySem.Calls PyProof.Rows
open Sem (wp)
def vi(H:Hp):Hp:=fun a=>match H a with
 | some (.tup xs)=>some (.tup xs)
 | some (.frz o u)=>some (.frz o u)
 | _=>none
theorem zpL{H:Hp}{b:Addr}{u:HO}:vi H b=some u->H b=some u/\((∃ xs,u=.tup xs)\/∃ o w,u=.frz o w):=by
 intro e;unfold vi at e;cases q:H b with
 | none=>rw [q] at e; cases e
 | some z =>
  rw [q] at e;cases z <;> first | (cases e; exact⟨rfl,.inl ⟨_,rfl⟩⟩) | (cases e; exact⟨rfl,.inr ⟨_,_,rfl⟩⟩) | cases e
theorem zqY{fs ex h o:List Addr}{H0 H:Hp}{g g':Heap}{S:Sto}(U:Un fs ex H0 H g g')(r:RepS h o H S):Same (vi H0) (vx h o H):=fun b u e=>by
 obtain⟨e1,e2⟩:=zpL e;have eH:H b=some u:=by
  rcases e2 with ⟨xs,rfl⟩ | ⟨ob,w,rfl⟩
  ·exact U.tups _ _ e1
  ·exact U.frzs _ _ _ e1
 refine zX.mpr ⟨fun m=>?_,fun m=>?_,eH⟩
 ·obtain⟨z,ez⟩:=r.hal b m;rw [eH] at ez;rcases e2 with ⟨xs,rfl⟩ | ⟨ob,w,rfl⟩ <;> cases z <;> cases ez
 ·obtain⟨z,ez⟩:=r.oal b m;rw [eH] at ez;rcases e2 with ⟨xs,rfl⟩ | ⟨ob,w,rfl⟩ <;> cases ez
mutual
def ImD:PyData->Bool
 | .list _=>false
 | .dict _=>false
 | .tuple ds=>ImL ds
 | .none=>true
 | .bool _=>true
 | .int _=>true
 | .str _=>true
def ImL:List PyData->Bool
 | []=>true
 | d :: ds=>ImD d && ImL ds
end
section
variable {H:Hp}
mutual
theorem Has.im{g o:List Addr}:∀ (d:PyData) (v:V),ImD d=true->Has (vx g o H) d v->Has (vi H) d v
 | .none,_,_,h=>by simp only [Has] at h ⊢; exact h
 | .bool _,_,_,h=>by simp only [Has] at h ⊢; exact h
 | .int _,_,_,h=>by simp only [Has] at h ⊢; exact h
 | .str _,_,_,h=>by simp only [Has] at h ⊢; exact h
 | .list ds,v,i,h=>by simp only [ImD,Bool.false_eq_true] at i
 | .dict ds,v,i,h=>by simp only [ImD,Bool.false_eq_true] at i
 | .tuple ds,v,i,h=>by
  simp only [Has] at h ⊢;simp only [ImD] at i;obtain⟨a,vs,e,q,l⟩:=h;have q':H a=some (.tup vs):=(zX.mp q).2.2;exact⟨a,vs,e,by unfold vi; rw [q'],HasL.im ds vs i l⟩
theorem HasL.im{g o:List Addr}:∀ (ds:List PyData) (vs:List V),ImL ds=true->HasL (vx g o H) ds vs->HasL (vi H) ds vs
 | [],_,_,h=>by simp only [HasL] at h ⊢; exact h
 | d :: ds,vs,i,h=>by
  simp only [HasL] at h ⊢;simp only [ImL,Bool.and_eq_true] at i;obtain⟨v,r,e,q,l⟩:=h;exact⟨v,r,e,Has.im d v i.1 q,HasL.im ds r i.2 l⟩
end
end
theorem ziy{h o:List Addr}{H:Hp}:∀ {ds:List PyData} {vs:List V},HasL (vx h o H) ds vs->HasXs h o H (ds.map XV.d) vs
 | [],vs,q=>by simp only [HasL] at q; exact q
 | d :: ds,vs,q=>by
  simp only [HasL] at q;obtain⟨v,r,e,hv,l⟩:=q;exact⟨v,r,e,hv,ziy l⟩
theorem zkF{h o:List Addr}{H:Hp}:∀ {ds:List PyData} {vs:List V},HasXs h o H (ds.map XV.d) vs->HasL (vx h o H) ds vs
 | [],vs,q=>by simp only [HasL]; exact q
 | d :: ds,vs,q=>by
  obtain⟨v,r,e,hv,l⟩:=q;simp only [HasL];exact⟨v,r,e,hv,zkF l⟩
theorem zgD{h o:List Addr}{H:Hp}:∀ {xs ys:List XV} {vs ws:List V},HasXs h o H xs vs->HasXs h o H ys ws->HasXs h o H (xs++ys) (vs++ws)
 | [],ys,vs,ws,q,r=>by rw [show vs=[] from q]; exact r
 | x :: xs,ys,vs,ws,⟨v,r',e,hv,l⟩,r=>by subst e; exact⟨v,r'++ws,rfl,hv,zgD l r⟩
structure LamOk(P:Program)(w:World)(K:W.Frag)(mg:Str->Option Value)(base:Heap)(k:Nat)(ps:List Str)(F:Addr)(q:PN)(s0:Shared)(H0:Hp):Prop where
 at_:∃ oc od fd sl,H0 F=some (.frz ⟨oc,od,.func fd,sl⟩ (.own 0))
 run:∀ (A:Around) (outer:List Env) (s:Shared) (H:Hp) (us:List Value) (vs:List V) (Q:VK),Room k A->Env0 P w K mg base A outer s H->(∃ fs,Un fs [] H0 H s0.heap s.heap)->Vals vs us->spN ps q vs H Q E0 ->
  codeAny (model P w) A (.call (.ref F) ⟨us,[]⟩) (fun r' s'=>match r' with | .ok (.ret u)=>CE outer P w H s Q u s' | _=>False) s
def znI(db:DE)(cds:List PyData):PN:=fun xs S R=>db (xs.map some++cds.map (fun d=>some (XV.d d))) S R
section
variable {P:Program} {w:World} {K:W.Frag} {mg:Str->Option Value} {base:Heap} {s0:Shared} {H0:Hp}
theorem zl0{k:Nat}{ps caps:List Str}{qual:Str}{params:Arguments}{body:Expr}{scope:Scope}{cl:List (Str×Addr)}{pm ctv:Value}{c' F:Addr}{cs:List V}{cds:List PyData}{t:TE}{db:DE}
  (S:LamScope ps caps scope) (hf:H0 F=some (.frz (zhr qual params body scope cl pm c' ctv) (.own 0))) (hc:CodeFz H0 c' qual)
  (hbind:∀ us:List Value,us.length=ps.length->bindArgs (W.kla_fn "<lambda>" qual params body scope cl pm (.ref c') ctv) ⟨us,[]⟩=pure (ps.zip us)) (C:Caps H0 s0.heap cl caps cs)
  (hb:∀ A outer s H,Room k (A.deeper (W.envX qual scope s.heap.objs.size F (.ref c') cl))->PE (cxL P w K mg base (ps++caps) qual scope cl F (.ref c') A outer s H) body t) (hd:RE t db) (him:HasL (vi H0) cds cs) :
  LamOk P w K mg base (k+1) ps F (znI db cds) s0 H0:=by
 refine⟨⟨_,_,_,_,hf⟩,fun A outer s H us vs Q hr e0 ⟨fs,U⟩ r ⟨hl,h,o,S',xs,R,hs,hx,hq,c⟩=>?_⟩;have hf':=U.frzs _ _ _ hf;have hc':=hc.un U;have C':=C.after U;obtain⟨g,_⟩:=(show ObjOk P w H s.heap F (.frz _ (.own 0)) from e0.hok _ _ hf');refine znJ S hr e0 g (hc'.rec e0.hok) (hbind us (by rw [<- r.length]; exact hl)) hl r C' (hb A outer s H (hr.deeper _)) ?_;refine hd h o H _ _ S' R Q ?_ hs hq c;have hcs:HasXs h o H (cds.map XV.d) cs:=ziy (HasL.mono (zqY U hs) _ _ him);have:=zcc (n:=0) (zgD hx hcs);simpa [Function.comp_def] using this
end
section
variable {X:Cx}
theorem zjp{F:Addr}{i:Nat}{x:Str}{ps:List Str}{k j:Nat}{pos pos':Pos}{e:Expr}{es:List Expr}{t:TA}{q:PN}(L:LamOk X.prog X.w X.K X.mg X.base k ps F q X.s₀ X.H₀)(hr:Room j X.A)(hk:k<=j)(hv:PE X (.Name x pos') (zjD i))(ha:PA X (e :: es) t)
  (hex:X.ex=[]:=by rfl) (q1:starEach (e :: es) X.env=(false,eval e X.env) :: starEach es X.env:=by rfl) (q2:((backTo pos (starEach es X.env)).any fun x=>x.fst)=false:=by rfl):PE X (.Call (.Name x pos') (e :: es) [] pos) (zms i F (spN ps q) t):=by
 obtain⟨oc,od,fd,sl,hF⟩:=L.at_;have hat:∀ {ze σ H s},Inv X ze σ H s->W.FnAt F s.heap:=fun {ze σ H s} I=>by
  have e1:=I.base.frzs _ _ _ hF;obtain⟨g,_⟩:=(show ObjOk X.prog X.w H s.heap F (.frz _ (.own 0)) from I.hok _ _ e1);exact⟨oc,od,fd,sl,g⟩
 intro ze s σ H Q I h;obtain⟨hs,h⟩:=h;refine wpAny_Call_Name_kw (thn (hv ze s σ H (fun v H1=>v=.ref F/\zgN (spN ps q) [] E0 t σ H1 Q) I ⟨_,hs,rfl,h⟩) fun u s1 ⟨v,H1,I1,rx,ex,q⟩=>?_);subst ex;obtain rfl:u=Value.ref F:=rx;refine W.callWith_F (hat I1) (thn (ha pos ze s1 σ H1 _ I1 q) fun us s2 ⟨vs,H2,I2,r,q3⟩=>⟨hat I2,?_⟩) q1 q2;replace q3:spN ps _ (vs++[]) H2 Q E0:=q3;rw [append_nil] at q3;have U:=I2.base;rw [hex] at U;refine wpAny_call (codeAny_mono (L.run X.A X.stack s2 H2 us vs Q (hr.mono hk) I2.env0 ⟨_,U⟩ r q3) fun r' s' z=>?_);cases r' with
 | error e=>exact z.elim
 | ok fl =>
  cases fl with
  | ret u'=>exact I2.after z
  | next=>exact z.elim
  | brk=>exact z.elim
  | cont=>exact z.elim
end
def LamFz(X:Cx)(params:Arguments)(body:Expr)(scope:Scope)(H:Hp)(F:Addr):Prop:=∃ pm c' ctv,H F=some (.frz (zhr (X.env.qual ++ "<lambda>") params body scope (zhF X.env scope.names []) pm c' ctv) (.own 0))/\CodeFz H c' (X.env.qual ++ "<lambda>")
def zrk(X:Cx)(params:Arguments)(body:Expr)(scope:Scope):TE:=fun σ H Q=>∀ F H',Same H H'->LamFz X params body scope H' F->Q (.ref F) H'
section
variable {X:Cx} {dsc scope:Scope} {L kl k j:Nat} {pl caps ps:List Str} {ks:List Nat} {params:Arguments} {body:Expr} {c P:Addr} {lp pos pos':Pos} {x:Str} {qc:Addr->PN->PN} {e:Expr} {es:List Expr} {t:TA} {tb:TE} {db:DE}
theorem zoJ(hT:((c,P),lamKey (X.env.qual ++ "<lambda>") lp)∈tabsG)(hcode:X.env.code=.ref c)(hd:X.env.scope=dsc)(hc:X.env.cells=cellsFrom L dsc.names [])(hl:zfy X.N dsc.names scope pl caps ks=true)(hdf:defaultsOf params X.env=([],[])):
  PE X (.Lambda params body scope lp) (zrk X params body scope):=by
 intro ze s σ H Q I h;exact W.kla_eval hdf (zlX I hcode hT (ziR hd hc hl) fun f c' ctv pm H2 s2 I2 sm nf hf hcf=>⟨.ref f,H2,I2,rfl,h f H2 sm ⟨pm,c',ctv,hf,hcf⟩⟩)
end
end L2
namespace L2
open PySem PySem.Spec PySem.Calls PyProof.Rows
end L2
namespace HT
open PySem PyProof.Rows
end HT
namespace L2
open PySem PySem.Spec PyProof.Rows
section
theorem lo{sc:Scope}{x:Str}(h:sc.names.lookup x=some .local:=by rfl):Loc sc x:=Or.inl h
theorem fsd{N P:List Str}{sc:Scope}(h:zq5 N P sc=true:=by decide +kernel):FnScope N P sc:=fsc h
theorem znp{X:Cx}{op:Operator}{r:R2}{a b:Expr}{ta tb:TE}{pos:Pos}(ho:OpR X (binaryOp op) r)(ha:QE X a ta)(hb:QE X b tb):QE X (.BinOp a op b pos) (tOp r ta tb):=QE.mk (zB ho ha.out hb.out)
theorem zgt{X:Cx}{i:Nat}{x:Str}{e:Expr}{t:TE}{pos pos':Pos}(hN:X.N.Nodup)(hi:X.N[i]? = some x)(hx:Loc X.env.scope x)(he:QE X e t)(hs:swapsWith e (some (.Name x pos')) pos.line X.env=pure false:=by rfl)(hf:X.fn x=true\/X.env.scope.names.lookup x=some .local:=by first | exact .inl rfl | exact .inr rfl | assumption):
  QS X (.Assign [.Name x pos'] e pos) (zou t (zgO i)):=QS.mk (zI hN hi hx he.out hs hf)
end
end L2
namespace L2
open PySem PySem.Spec PySem.Calls PyProof.Rows
structure FnOkH(P:Program)(w:World)(K:W.Frag)(mg:Str->Option Value)(base:Heap)(CX:CXT)(k:Nat)(f:Addr)(fd:FuncData)(ps:List Str)(G:Shared->Hp->Prop)(sp:Sp):Prop where
 len:∀ vs H Q E,sp vs H Q E->vs.length=ps.length
 run:∀ (A:Around) (outer:List Env) (s:Shared) (H:Hp) (args:Args) (us:List Value) (vs:List V) (Q:VK) (E:XK),Room k A->Env0 P w K mg base A outer s H->BindsTo s fd args (ps.zip us)->Vals vs us->G s H->sp vs H Q E ->
  codeAny (model P w) A (.call (.ref f) args) (CR CX outer P w H s Q E) s
structure DfHX(P:Program)(w:World)(K:W.Frag)(mg:Str->Option Value)(base:Heap)(x:Str)(ps:List Str)(k kl:Nat)(pl:List Str)(qc:Addr->PN->PX):Prop where
 ex:∃ f fd,(∀ F q,FnOkH P w K mg base (CX1 P w) k f fd ps (LamOk P w K mg base kl pl F q) (spX ps (qc F q)))/\mg x=some (.ref f)/\W.keepIn K (.ref f)=true/\Binds K fd ps []
theorem zo5{CX:CXT}{P:Program}{w:World}{K:W.Frag}{mg:Str->Option Value}{base:Heap}{k:Nat}{f:Addr}{name qual:Str}{params:Arguments}{body:List Stmt}{scope:Scope}{dV kV doc pm cdv ct oc:Value}{an od:Option Addr}{G:Shared->Hp->Prop}
  {osl:Array (Option Value)} {N ps:List Str} {sp:Sp} (lk:K.lookup f=some ⟨oc,od,.func (W.fnOf name qual params body scope dV kV doc pm an cdv ct),osl⟩) (hcd:W.codeIn K cdv qual=true) (S:FnScope N ps scope)
  (len:∀ vs H Q E,sp vs H Q E->vs.length=ps.length)
  (hbody:∀ (A:Around) (outer:List Env) (s:Shared) (H:Hp) (vs:List V) (Q:VK) (E:XK),Room k (A.deeper (envOfC qual scope s.heap.objs.size f cdv))->G s H->sp vs H Q E ->
   ∃ t,PSs (zfE CX P w K mg base N qual scope f cdv A outer s H E) body t/\t { nx:=fun _ H'=>Q .non H',rt:=Q } (start N vs) H) :
  FnOkH P w K mg base CX (k+1) f (W.fnOf name qual params body scope dV kV doc pm an cdv ct) ps G sp:=by
 refine⟨len,fun A outer s H args us vs Q E hr e0 hb r hG hsp=>?_⟩;have hl:=len _ _ _ _ hsp;have KX:K.In s.heap:=e0.mod.kin.keeps fun b o e=>(e0.bs b o e).1;have lim:s.heap.NoLimit:=e0.mod.nolimit.keeps fun b o e=>(e0.bs b o e).1;have hkind:∀ y∈ps.zip us,scope.names.lookup y.1=some .local\/(scope.names.lookup y.1=some .cell/\((cellsFrom (s.heap.objs.size+1) scope.names []).lookup y.1).isSome=true):=fun⟨n,v⟩ hy=>by
  rcases S.par n (of_mem_zip hy).1 with q | q
  ·exact .inl q
  ·exact .inr ⟨q,W.cellsFrom_some _ _ _ (.inl q)⟩
 refine codeAny_call_function hr.depth (KX _ _ lk) rfl S.co S.gen rfl (W.codeRec_of KX hcd) (hb _ _ _ _ ?_);refine wpAny_newFunctionEnv_cells S.kind hkind fun env he s1 x=>?_;subst he;refine⟨lim.keeps x.toInCall.keep,codeAny_func ?_⟩;obtain⟨t,ht,hq⟩:=hbody A outer s H vs Q E (hr.deeper _) hG hsp;have I:Inv (zfE CX P w K mg base N qual scope f cdv A outer s H E) [] (start N vs) H s1:=zeJ S hr.hd e0 hl r x;refine wpAny_mono (ht [] s1 (start N vs) H _ I hq) (fun fl s' hs=>?_) fun e s' hs=>hs;have fin:∀ {σ':St} {H':Hp} {v:V} {u:Value},Inv (zfE CX P w K mg base N qual scope f cdv A outer s H E) [] σ' H' s'->RelV v u->Q v H'->CE outer P w H s Q u s' :=
  fun {σ' H' v u} J rv q=>⟨v,H',J.os,J.bare,J.base,J.hok,rv,q⟩
 cases fl with
 | ret u =>
  obtain⟨v,σ',H',J,rv,q⟩:=hs;exact fin J rv q
 | next =>
  obtain⟨σ',H',J,q⟩:=hs;exact fin (v:=V.non) (u:=Value.none) J rfl q
 | brk =>
  obtain⟨_,_,_,q⟩:=hs;exact False.elim q
 | cont =>
  obtain⟨_,_,_,q⟩:=hs;exact False.elim q
section
variable {P:Program} {w:World} {K:W.Frag} {mg:Str->Option Value} {base:Heap} {x:Str} {st:Stmt} {N ps pl:List Str} {k kl:Nat}
theorem zom{qc:Addr->PN->PX}(D:Dd K mg x st ps)(S:FnScope N ps (zg st))(n:Nat)(hn:N.length=ps.length+n)
  (hbody:∀ (F:Addr) (ql:PN) (f:Addr) (cdv:Value) (A:Around) (outer:List Env) (s:Shared) (H:Hp) (E:XK) (EX:EXD),Room k (A.deeper (envOfC x (zg st) s.heap.objs.size f cdv))->LamOk P w K mg base kl pl F ql s H ->
   ∃ t dt,PSs (zfE (CX1 P w) P w K mg base N x (zg st) f cdv A outer s H E) (zaD st) t/\RSx E EX t dt/\∀ xs S R,qc F ql xs S R EX->dt (zbR S.length R) (xs.map some++List.replicate n none) S):DfHX P w K mg base x ps (k+1) kl pl qc:=by
 obtain⟨f,fd,F,hm,hb⟩:=D.ex;have kp:=F.kp;obtain⟨oc,od,kV,doc,pm,an,cdv,ct,osl,rfl,lk,hcd⟩:=F.ex;refine⟨f,_,fun Fl ql=>zo5 lk hcd S (fun vs H Q E h=>h.1) fun A outer s H vs Q E hr hG ⟨hl,h,o,S',xs,R,EX,hs',hx,hq,c,cx⟩=>?_,hm,kp,hb⟩;obtain⟨t,dt,h1,h2,h3⟩:=hbody Fl ql f cdv A outer s H E EX hr hG;refine⟨t,h1,h2 h o H _ _ S' _ _ ?_ hs' (h3 xs S' R hq) (eok hs' c) cx⟩;have e:N.length - vs.length=n:=by omega
 unfold start;rw [e];exact zcc hx
end
def zkJ(X:Cx)(E:XK)(params:Arguments)(body:Expr)(scope:Scope)(ks:List Nat)(qc:Addr->PN->PX)(db:DE)(ps:List Str)(t:TA):TE:=fun σ H Q=>t σ H fun vs H1 =>
 ∃ F cds cs,LamFz X params body scope H1 F/\ks.map (fun i=>(σ[i]?).join)=cs.map some/\HasL (vi H1) cds cs/\spX ps (qc F (znI db cds)) vs H1 Q E
section
variable {X:Cx} {E:XK} {dsc scope:Scope} {L kl k j:Nat} {pl caps ps:List Str} {ks:List Nat} {params:Arguments} {body:Expr} {c P:Addr} {lp pos pos':Pos} {x:Str} {qc:Addr->PN->PX} {e:Expr} {es:List Expr} {t:TA} {tb:TE} {db:DE}
theorem zko(D:DfHX X.prog X.w X.K X.mg X.base x ps k (kl+1) pl qc)(hp:Passes (CX1 X.prog X.w) X E)(hr:Room j X.A)(hk:k<=j)(hd:X.env.scope=dsc)(hc:X.env.cells=cellsFrom L dsc.names [])(hk1:scope.kind=.function)(hco:scope.isCoroutine=false)(hgn:scope.isGenerator=false)(hl:zfy X.N dsc.names scope pl caps ks=true)
  (hbind:∀ cl pm c' ctv (us:List Value),us.length=pl.length->bindArgs (W.kla_fn "<lambda>" (X.env.qual ++ "<lambda>") params body scope cl pm (.ref c') ctv) ⟨us,[]⟩=pure (pl.zip us))
  (hb:∀ cl f c' A outer s H,Room kl (A.deeper (W.envX (X.env.qual ++ "<lambda>") scope s.heap.objs.size f (.ref c') cl))->PE (cxL X.prog X.w X.K X.mg X.base (pl++caps) (X.env.qual ++ "<lambda>") scope cl f (.ref c') A outer s H) body tb) (hdb:RE tb db)
  (ha:PA X (e :: es) t) (hg:Gl X x:=by rfl) (hdg:(x == ("__debug__":Str))=false:=by decide)
  (q1:starEach (e :: es) X.env=(false,eval e X.env) :: starEach es X.env:=by rfl) (q2:((backTo pos (starEach es X.env)).any fun x=>x.fst)=false:=by rfl) :
  PE X (.Call (.Name x pos') (e :: es) [] pos) (zkJ X E params body scope ks qc db ps t):=by
 obtain⟨f,fd,Fo,hm,kp,hbi⟩:=D.ex;intro ze s σ H Q I h;refine wpAny_Call_Name_kw (zdU I hg hm ?_ hdg);refine W.callWith_K (h₀:=X.base) I.ok.mod.kin kp (thn (ha pos ze s σ H _ I h) fun us s1 ⟨vs,H1,I1,r,F,cds,cs,⟨pm,c',ctv,hf,hcf⟩,hcs,him,hq⟩=>⟨I1.kIn,?_⟩) q1 q2;have hlen:us.length=ps.length:=by rw [<- r.length]; exact hq.1
 have bd:=hbi s1 us I1.kIn (by rw [append_nil]; exact hlen);rw [append_nil] at bd;have LO:LamOk X.prog X.w X.K X.mg X.base (kl+1) pl F (znI db cds) s1 H1:=zl0 (zh5 (X:=X) hk1 hco hgn hl) hf hcf (fun us hu=>hbind _ _ _ _ us hu) (zli I1 hd hc hl hcs) (fun A outer s H hr=>hb _ _ _ A outer s H hr) hdb him;refine wpAny_call (codeAny_mono ((Fo F _).run X.A X.stack s1 H1 ⟨us,[]⟩ us vs Q E (hr.mono hk) I1.env0 bd r LO hq) fun r' s' z=>?_);cases r' with
 | error e=>exact hp ze σ H1 s1 e s' I1 z
 | ok fl =>
  cases fl with
  | ret u=>exact I1.after z
  | next=>exact False.elim z
  | brk=>exact False.elim z
  | cont=>exact False.elim z
end
def zep(EX:EXD)(ks:List Nat)(qc:Addr->PN->PX)(db d1 d2:DE):DE:=fun δ S R=>d1 δ S fun x S1=>d2 δ S1 fun y S2=>∃ (a b:PyData) (cds:List PyData),x=.d a/\y=.d b/\ks.map (fun i=>(δ[i]?).join)=cds.map (fun d=>some (XV.d d))/\ImL cds=true /\
 ∀ F,qc F (znI db cds) [.d a,.d b,.o (.ref F)] [] (ret0 S2 R) EX
theorem ziY{X:Cx}{E:XK}{EX:EXD}{params:Arguments}{body:Expr}{scope:Scope}{ks:List Nat}{qc:Addr->PN->PX}{db d1 d2:DE}{t1 t2:TE}{a b c':Str}(h1:RE t1 d1)(h2:RE t2 d2):REp (PhX E EX) (zkJ X E params body scope ks qc db [a,b,c'] (zdt t1 (zdt t2 (zdt (zrk X params body scope) zns)))) (zep EX ks qc db d1 d2):=fun h o H δ σ S R Q he hs q c x0 =>
 h1 h o H δ σ S _ _ he hs q fun o1 H1 S1 x v e1 s1 x1 q1=>h2 h o1 H1 δ σ S1 _ _ (he.mono e1) s1 q1 fun o2 H2 S2 y u e2 s2 x2 ⟨a,b,cds,ex,ey,hcs,him,hq⟩=>by
  subst ex ey;intro F H3 sm hfz;have ex3:Ex o2 H2 o2 H3:=Ex.of_same sm;have s3:=s2.same sm;have hcs':ks.map (fun i=>(δ[i]?).join)=(cds.map XV.d).map some:=by rw [hcs,map_map]; rfl
  obtain⟨cvs,hcv,hx⟩:=zgL (((he.mono e1).mono e2).mono ex3) hcs';have e13:=(e1.trans e2).trans ex3;refine⟨F,cds,cvs,hfz,hcv,HasL.im _ _ him (zkF hx),rfl,h++o2,[],[],[.d a,.d b,.o (.ref F)],_,EX,rep0 s3,⟨v,[u,.ref F],rfl,hx0 ((x1.mono e2).mono ex3),u,[.ref F],rfl,hx0 (x2.mono ex3),.ref F,[],rfl,rfl,rfl⟩,hq F,cn0 s3 (c.pre e13),(CnX.pre x0 e13).out s3⟩
def ziq:XV->List XV->Sto->RX->Prop:=fun x xs S R=>∃ k,x=.l k/\∃ ds,S[k]? = some ds/\∃ (i:Nat) (d:PyData),xs=[.d (.int i)]/\i<1000/\ds[i]? = some d/\R (.d d) (S.set k (ds.eraseIdx i))
theorem HasL.eraseIdx{H:Hp}:∀ {ds:List PyData} {vs:List V} (i:Nat),HasL H ds vs->HasL H (ds.eraseIdx i) (vs.eraseIdx i)
 | [],vs,i,l=>by rw [zF.mp l]; exact zF.mpr rfl
 | d :: ds,vs,0,l=>by
  obtain⟨v,r,rfl,_,l⟩:=zt.mp l;exact l
 | d :: ds,vs,i+1,l=>by
  obtain⟨v,r,rfl,hv,l⟩:=zt.mp l;exact zt.mpr ⟨v,_,rfl,hv,HasL.eraseIdx i l⟩
theorem zlq:RM zmS ziq:=fun h o H S x v xs vs R Q hs hx hxs q c=>by
 obtain⟨k,rfl,ds,e,i,d,rfl,hi,ed,q1⟩:=q;obtain⟨a,ea,rfl⟩:=hx;obtain⟨ws,ew,l⟩:=hs.cont k a ds ea e;obtain⟨u,rfl,hu⟩:=hxs1 hxs;obtain⟨y,ey,hy⟩:=l.get ed;have il:i<ws.length:=(List.getElem?_eq_some_iff.mp ey).1;rw [zaC hu];refine⟨a,ws,i,i,y,rfl,rfl,ew,by omega,by omega,?_,ey,c o _ _ (.d d) _ (Ex.upd ea) (hs.upd ea (l.eraseIdx i)) (HasX.mono (x:=.d d) (Ex.upd ea) hy) q1⟩;unfold seqIndex?;simp;omega
end L2
namespace L2
open PySem PySem.Spec PyProof.Rows
end L2
namespace My
open PySem L2
def zbh:PN:=fun xs S R=>(zaN (zcd (dCB zhG (zb (zi 0) (zb (dO (.ty "int")) zo))) (zla (dCB zhG (zb (zi 0) (zb (dO (.ty "bool")) zo)))))) (zbR S.length R) (xs.map some++List.replicate 0 none) S
def zcb:PN:=fun xs S R=>(zac (zaL (dOp (dI (fun _ j=>0<j) fun i j=>i % j) (dOp zbQ (zi 0) (dC (.int 7919))) (dC (.int 2147483647))) (zn 0)) (zaN (dOp (dI (fun _ j=>0<j) fun i j=>i % j) (dOp zbQ (dOp zbQ (dOp zje (zi 0) (zi 0)) (dOp zje (dC (.int 48271)) (zi 0))) (dC (.int 12345))) (dC (.int 2147483629))))) (zbR S.length R) (xs.map some++List.replicate 0 none) S
def zbX:PN:=fun xs S R=>(zac (zaL (dCB (dI2 fun i j=>if j>i then j else i) (zb (zi 0) (zb (dOp (dI0 fun i j=>i - j) (dC (.int 0)) (zi 0)) zo))) (zn 1)) (zaN (zfc (zb (zi 1) (zb (dCB zlk (zb (dOp (dIb fun i j=>decide (j<=i)) (zi 1) (dOp (dI CPow fun i j=>i ^ j.toNat) (dC (.int 10)) (dC (.int 18)))) zo)) (zb (dOp (dI (fun _ j=>0<j) fun i j=>i % j) (zi 1) (dC (.int 1000003))) zo)))))) (zbR S.length R) (xs.map some++List.replicate 1 none) S
def zab:PN:=fun xs S R=>(zaN (zcd (dCB zhG (zb (zi 0) (zb (dO (.ty "int")) zo))) (zla (dCB zhG (zb (zi 0) (zb (dO (.ty "bool")) zo)))))) (zbR S.length R) (xs.map some++List.replicate 0 none) S
def zq:PN:=fun xs S R=>(zac (zcF (dB (dOp zgB (dOp dIx (zi 0) (dC (.int 1))) (dC (.int 1)))) (zac (zaL (dOp (dI (fun _ j=>0<j) fun i j=>i % j) (dOp dIx (zi 0) (dC (.int 0))) (zi 1)) (zn 2)) (zac (zaL (dOp dFd (dOp dIx (zi 0) (dC (.int 0))) (zi 1)) (zg6 (zi 0) (dC (.int 0)))) (zaN (zi 2)))) zaz) (zac (zaL (zan 1 zcb (zb (dOp zbQ (zan 1 zcb (zb (dOp dIx (zi 0) (dC (.int 2))) zo)) (dC (.int 7))) zo)) (zg6 (zi 0) (dC (.int 2)))) (zaN (dOp (dI (fun _ j=>0<j) fun i j=>i % j) (dOp dFd (dOp dIx (zi 0) (dC (.int 2))) (dC (.int 64))) (zi 1))))) (zbR S.length R) (xs.map some++List.replicate 1 none) S
def zd7:PN:=fun xs S R=>(zac (zaL (zH 0 2 zq (zb (zi 0) (zb (dC (.int 8)) zo))) (zn 1)) (zac (zcF (dB (dOp (dIb fun i j=>decide (i<j)) (zi 1) (dC (.int 5)))) (zaN (dOp (dI0 fun i j=>i - j) (zH 0 2 zq (zb (zi 0) (zb (dC (.int 13)) zo))) (dC (.int 6)))) zaz) (zac (zcF (dB (dOp (dIb fun i j=>decide (i<j)) (zi 1) (dC (.int 7)))) (zaN (dOp (dI0 fun i j=>i - j) (zH 0 2 zq (zb (zi 0) (zb (dC (.int 2001)) zo))) (dC (.int 1000)))) zaz) (zaN (dOp zje (dOp (dI0 fun i j=>i - j) (zH 0 2 zq (zb (zi 0) (zb (dOp zje (dC (.int 2)) (dOp (dI CPow fun i j=>i ^ j.toNat) (dC (.int 10)) (dC (.int 30)))) zo))) (dOp (dI CPow fun i j=>i ^ j.toNat) (dC (.int 10)) (dC (.int 30)))) (dOp (dI CPow fun i j=>i ^ j.toNat) (dC (.int 10)) (dC (.int 28)))))))) (zbR S.length R) (xs.map some++List.replicate 1 none) S
def zba:PN:=fun xs S R=>(zac (zaL (zH 0 2 zq (zb (zi 0) (zb (dC (.int 8)) zo))) (zn 1)) (zac (zcF (dB (dOp (dIb fun i j=>decide (i<j)) (zi 1) (dC (.int 5)))) (zaN (dOp (dI0 fun i j=>i - j) (zH 0 2 zq (zb (zi 0) (zb (dC (.int 13)) zo))) (dC (.int 6)))) zaz) (zac (zcF (dB (dOp (dIb fun i j=>decide (i<j)) (zi 1) (dC (.int 7)))) (zaN (dOp (dI0 fun i j=>i - j) (zH 0 2 zq (zb (zi 0) (zb (dC (.int 2001)) zo))) (dC (.int 1000)))) zaz) (zaN (dOp zje (dOp (dI0 fun i j=>i - j) (zH 0 2 zq (zb (zi 0) (zb (dOp zje (dC (.int 2)) (dOp (dI CPow fun i j=>i ^ j.toNat) (dC (.int 10)) (dC (.int 30)))) zo))) (dOp (dI CPow fun i j=>i ^ j.toNat) (dC (.int 10)) (dC (.int 30)))) (dOp (dI CPow fun i j=>i ^ j.toNat) (dC (.int 10)) (dC (.int 28)))))))) (zbR S.length R) (xs.map some++List.replicate 1 none) S
def zfT:PN:=fun xs S R=>(zac (zaL (zH 0 1 zd7 (zb (zi 0) zo)) (zn 1)) (zac (zaL (zH 0 2 zq (zb (zi 0) (zb (dC (.int 5)) zo))) (zn 2)) (zac (zcF (dB (dOp zgB (zH 0 2 zq (zb (zi 0) (zb (dC (.int 8)) zo))) (dC (.int 7)))) (zaL (zH 0 2 zq (zb (zi 0) (zb (dOp (dI CPow fun i j=>i ^ j.toNat) (dC (.int 10)) (dC (.int 40))) zo))) (zn 2)) zaz) (zaN (zbe (zb (zi 1) (zb (dOp zbQ (zi 1) (zi 2)) zo))))))) (zbR S.length R) (xs.map some++List.replicate 2 none) S
def zcY:PN:=fun xs S R=>(zac (zaL (zfK (zb (dCB zit (zb (zi 0) (zb (dO (.ref 37)) zo))) (zb (dCB zit (zb (zi 0) (zb (dO (.ref 49)) zo))) (zb (dCB zit (zb (zi 0) (zb (dO (.ref 61)) zo))) (zb (dCB zit (zb (zi 0) (zb (dO (.ref 161)) zo))) zo))))) (zn 1)) (zac (zaL (dOp zbQ (zi 1) (zfK (zb (dCB zit (zb (zi 0) (zb (dO (.ref 73)) zo))) (zb (dCB zit (zb (zi 0) (zb (dO (.ref 85)) zo))) (zb (dCB zit (zb (zi 0) (zb (dO (.ref 104)) zo))) (zb (dCB zit (zb (zi 0) (zb (dO (.ref 123)) zo))) zo)))))) (zn 1)) (zac (zaL (dOp zbQ (zi 1) (zfK (zb (dCB zit (zb (zi 0) (zb (dO (.ref 142)) zo))) (zb (dCB zit (zb (zi 0) (zb (dO (.ref 180)) zo))) zo)))) (zn 1)) (zac (zcF (dOr (zeu (zer (dCB zit (zb (zi 0) (zb (dO (.ty "ValueError")) zo))))) (dB (dOp zl4 (zpV zgd (zi 1) (zb (dC (.bool true)) zo)) (dC (.int 1))))) (zaN (dC (.str "other"))) zaz) (zac (zaL (zfK (zb (dC (.str "span")) (zb (dC (.str "part")) (zb (dC (.str "set")) (zb (dC (.str "text")) (zb (dC (.str "row")) (zb (dC (.str "unlike")) (zb (dC (.str "drawing")) (zb (dC (.str "gap")) (zb (dC (.str "offer")) (zb (dC (.str "great")) zo))))))))))) (zn 2)) (zaN (dOp dIx (zi 2) (zpV ziz (zi 1) (zb (dC (.bool true)) zo))))))))) (zbR S.length R) (xs.map some++List.replicate 2 none) S
def zbM:PN:=fun xs S R=>(zaN (zcd (zan 1 zbh (zb (zi 0) zo)) (dOp (dIb fun i j=>decide (i<j)) (dCB zqB (zb (zi 0) zo)) (dOp (dI CPow fun i j=>i ^ j.toNat) (dC (.int 10)) (dC (.int 60)))))) (zbR S.length R) (xs.map some++List.replicate 0 none) S
def zaQ:PN:=fun xs S R=>(zac (zaL (dC (.str "abcdefghijklmnopqrstuvwxyz")) (zn 1)) (zac (zaL (zH 0 2 zq (zb (zi 0) (zb (dC (.int 3)) zo))) (zn 2)) (zac (zaL (zH 0 2 zq (zb (zi 0) (zb (dC (.int 26)) zo))) (zn 3)) (zac (zaL (zfd [none,some 1,some 3] (za1 (zb (dC (.int 8)) zo)) (zn 0) zau (dOp zje (dOp dIx (zi 1) (dOp (dI (fun _ j=>0<j) fun i j=>i % j) (dOp zbQ (zi 2) (dOp zje (dC (.int 5)) (zi 0))) (dC (.int 26)))) (dOp zbQ (dC (.int 1)) (dOp (dI (fun _ j=>0<j) fun i j=>i % j) (dOp zbQ (zi 2) (dOp zje (dC (.int 3)) (zi 0))) (dC (.int 8)))))) (zn 4)) (zac (zcF (dB (dOp zgB (zi 2) (dC (.int 0)))) (zac (zaL (zqq zlJ (dC (.str "")) (zb (zcJ [none,some 1,some 3] (za1 (zb (dC (.int 8)) zo)) (zn 0) zau (dOp dIx (zi 1) (dOp (dI (fun _ j=>0<j) fun i j=>i % j) (dOp zbQ (zi 2) (dOp zje (dC (.int 7)) (zi 0))) (dC (.int 26))))) zo)) (zn 5)) (zaL (zfd [none,some 5] (za1 (zb (dC (.int 8)) zo)) (zn 0) zau (dSl zjB (zi 1) zb0 (zfv (dOp zbQ (zi 0) (dC (.int 1)))))) (zn 4))) zaz) (zac (zcF (dB (dOp zgB (zi 2) (dC (.int 1)))) (zaL (zfc (zb (dC (.str "part")) (zb (dC (.str "gap")) (zb (dC (.str "cut")) (zb (dC (.str "a")) (zb (dC (.str "aa")) (zb (dC (.str "dear")) (zb (dC (.str "b")) (zb (dC (.str "keeps")) zo))))))))) (zn 4)) zaz) (zac (zaL (zH 0 2 zq (zb (zi 0) (zb (dC (.int 8)) zo))) (zn 6)) (zac (zaL (dOp zlK (dSl zjB (zi 4) (zfv (zi 6)) zb0) (dSl zjB (zi 4) zb0 (zfv (zi 6)))) (zn 4)) (zac (zcF (dB (dOp zgB (zH 0 2 zq (zb (zi 0) (zb (dC (.int 2)) zo))) (dC (.int 1)))) (zdS (zqu zes (zi 4))) zaz) (zaN (zi 4))))))))))) (zbR S.length R) (xs.map some++List.replicate 6 none) S
def zdE:PN:=fun xs S R=>(zac (zaL (zfc zo) (zn 2)) (zac (zgA (zcG (zi 1)) (zdN 3 (za2 (zn 3) (za2 (zn 4) (za2 (zn 5) zff)))) (zac (zaL (zfK (zb (zi 4) (zb (zi 5) (zb (dOp zbQ (zi 4) (dOp dFd (dOp (dI0 fun i j=>i - j) (zi 5) (zi 4)) (dC (.int 2)))) (zb (dCB (dI2 fun i j=>if j<i then j else i) (zb (zi 5) (zb (dOp zbQ (zi 4) (dC (.int 1))) zo))) (zb (dCB (dI2 fun i j=>if j>i then j else i) (zb (zi 4) (zb (dOp (dI0 fun i j=>i - j) (zi 5) (dC (.int 1))) zo))) zo)))))) (zn 6)) (zdS (dBM zbN (zi 2) (zb (dOp dIx (dOp zbQ (zi 6) (zfK (zb (dOp zbQ (zi 4) (dOp (dI (fun _ j=>0<j) fun i j=>i % j) (zH 0 2 zq (zb (zi 0) (zb (dOp (dI CPow fun i j=>i ^ j.toNat) (dC (.int 10)) (dC (.int 12))) zo))) (dOp zbQ (dOp (dI0 fun i j=>i - j) (zi 5) (zi 4)) (dC (.int 1))))) zo))) (zH 0 2 zq (zb (zi 0) (zb (dC (.int 6)) zo)))) zo))))) (zaN (dCB zbK (zb (zi 2) zo))))) (zbR S.length R) (xs.map some++List.replicate 5 none) S
def zbE:PN:=fun xs S R=>(zac (zaL (zH 0 1 zba (zb (zi 0) zo)) (zn 1)) (zac (zaL (zH 0 2 zq (zb (zi 0) (zb (dC (.int 5)) zo))) (zn 2)) (zac (zcF (dB (dOp zgB (zH 0 2 zq (zb (zi 0) (zb (dC (.int 8)) zo))) (dC (.int 7)))) (zaL (zH 0 2 zq (zb (zi 0) (zb (dOp (dI CPow fun i j=>i ^ j.toNat) (dC (.int 10)) (dC (.int 40))) zo))) (zn 2)) zaz) (zaN (zbe (zb (zi 1) (zb (dOp zbQ (zi 1) (zi 2)) zo))))))) (zbR S.length R) (xs.map some++List.replicate 2 none) S
def za0:PN:=fun xs S R=>(zac (zaL (zH 0 1 zaQ (zb (zi 0) zo)) (zn 2)) (zac (zaL (zfc zo) (zn 3)) (zac (zgA (za1 (zb (dOp zbQ (dC (.int 1)) (zH 0 2 zq (zb (zi 0) (zb (zi 1) zo)))) zo)) (zn 4) (zdS (dBM zbN (zi 3) (zb (dOp zbQ (zbe (zb (dOp dIx (zi 2) (zi 4)) zo)) (zH 0 1 zbE (zb (zi 0) zo))) zo)))) (zaN (dCB zbK (zb (zi 3) zo)))))) (zbR S.length R) (xs.map some++List.replicate 3 none) S
def zc2:PN:=fun xs S R=>(zaN (zfd [none] (zcG (zi 0)) (zn 0) zau (dCB zav (zb (zi 0) zo)))) (zbR S.length R) (xs.map some++List.replicate 0 none) S
def zbk:PN:=fun xs S R=>(zac (zcF (dOr (zeu (zer (dCB zhG (zb (zi 1) (zb (dO (.ty "tuple")) zo))))) (dB (dOp (dIb fun i j=>decide (j<i)) (dCB zav (zb (zi 1) zo)) (dCB zav (zb (zi 0) zo))))) (zaN (dC (.bool false))) zaz) (zaN (dCB zjO (zb (zcJ [none,none] (zd5 (zb (zi 1) (zb (zi 0) zo))) (zdN 2 (za2 (zn 0) (za2 (zn 1) zff))) zau (zcd (zan 1 zbh (zb (zi 0) zo)) (zfg (dIb fun i j=>decide (i<=j)) (dIb fun i j=>decide (i<j)) (dC (.int 0)) (zi 0) (zi 1)))) zo)))) (zbR S.length R) (xs.map some++List.replicate 0 none) S
def zcp:PN:=fun xs S R=>(zaN (zcd (zan 2 zbk (zb (zan 1 zc2 (zb (zi 0) zo)) (zb (zi 1) zo))) (dOp zgB (dCB zav (zb (zi 1) zo)) (dCB zav (zb (zi 0) zo))))) (zbR S.length R) (xs.map some++List.replicate 0 none) S
def zcN:PN:=fun xs S R=>(zaN (dCB zbK (zb (zcJ [none] (zcG (zi 0)) (zn 0) zau (dOp zbQ (zbe (zb (zbe (zb (dC (.int 0)) (zb (dC (.int 0)) zo))) zo)) (zi 0))) zo))) (zbR S.length R) (xs.map some++List.replicate 0 none) S
def zc9:PN:=fun xs S R=>(zac (zaL (dCB zdm (zb (zi 0) zo)) (zn 3)) (zac (zgA (za1 (zb (dCB zav (zb (zi 2) zo)) zo)) (zn 4) (zcF (dB (dOp (dIb fun i j=>decide (j<i)) (dOp dIx (zi 2) (zi 4)) (dC (.int 0)))) (zaL (dOp (dI0 fun i j=>i - j) (dOp dIx (zi 3) (zi 4)) (dOp dIx (dOp dIx (dOp dIx (zi 1) (zi 4)) (dOp (dI0 fun i j=>i - j) (dOp dIx (zi 2) (zi 4)) (dC (.int 1)))) (dC (.int 0)))) (zg6 (zi 3) (zi 4))) zaz)) (zaN (dCB zbK (zb (zi 3) zo))))) (zbR S.length R) (xs.map some++List.replicate 2 none) S
def zaJ:PN:=fun xs S R=>(zac (zaL (dC (.int 0)) (zn 2)) (zac (zgA (za1 (zb (dCB zav (zb (zi 1) zo)) zo)) (zn 3) (zaL (dOp zbQ (zi 2) (dOp dIx (dOp zbQ (zfK (zb (dC (.int 0)) zo)) (zcJ [none,none] (zcG (dOp dIx (zi 0) (zi 3))) (zdN 2 (za2 (zn 0) (za2 (zn 1) zff))) zau (zi 1))) (dOp dIx (zi 1) (zi 3)))) (zn 2))) (zaN (zi 2)))) (zbR S.length R) (xs.map some++List.replicate 2 none) S
def zbd:PN:=fun xs S R=>(zaN (zfd [none,none] (zd5 (zb (zan 1 zcN (zb (zi 0) zo)) (zb (zi 1) zo))) (zdN 2 (za2 (zn 0) (za2 (zn 1) zff))) zau (dOp dIx (zi 0) (zi 1)))) (zbR S.length R) (xs.map some++List.replicate 0 none) S
def zbn:PN:=fun xs S R=>(zac (zcF (dOr (zeu (zer (dCB zhG (zb (zi 0) (zb (dO (.ty "tuple")) zo))))) (dB (dOp zl4 (dCB zav (zb (zi 0) zo)) (dC (.int 2))))) (zaN (dC (.bool false))) zaz) (zaN (dCB zjO (zb (zcJ [none] (zcG (zi 0)) (zn 0) zau (zcd (zan 1 zab (zb (zi 0) zo)) (zfg (dIb fun i j=>decide (i<j)) (dIb fun i j=>decide (i<j)) (dC (.int 0)) (zi 0) (dOp (dI CPow fun i j=>i ^ j.toNat) (dC (.int 10)) (dC (.int 60)))))) zo)))) (zbR S.length R) (xs.map some++List.replicate 0 none) S
def zaX:PN:=fun xs S R=>(zac (zcF (dOr (zeu (zer (dCB zhG (zb (zi 1) (zb (dO (.ty "tuple")) zo))))) (dB (dOp zl4 (dCB zav (zb (zi 1) zo)) (dCB zav (zb (zi 0) zo))))) (zaN (dC (.bool false))) zaz) (zaN (dCB zjO (zb (zcJ [none,none] (zd5 (zb (zi 1) (zb (zi 0) zo))) (zdN 2 (za2 (zn 0) (za2 (zn 1) zff))) zau (zcd (zan 1 zab (zb (zi 0) zo)) (zfg (dIb fun i j=>decide (i<=j)) (dIb fun i j=>decide (i<=j)) (dC (.int 0)) (zi 0) (dCB zav (zb (zi 1) zo))))) zo)))) (zbR S.length R) (xs.map some++List.replicate 0 none) S
def zdC:PN:=fun xs S R=>(zac (zcF (dOr (zeu (zer (dCB zhG (zb (zi 0) (zb (dO (.ty "tuple")) zo))))) (dB (dOp zl4 (dCB zav (zb (zi 0) zo)) (dC (.int 2))))) (zaN (dC (.bool false))) zaz) (zaN (dCB zjO (zb (zcJ [none] (zcG (zi 0)) (zn 0) zau (zcd (zan 1 zbM (zb (zi 0) zo)) (dOp (dIb fun i j=>decide (j<=i)) (zi 0) (dC (.int 1))))) zo)))) (zbR S.length R) (xs.map some++List.replicate 0 none) S
def zge:PN:=fun xs S R=>(zaN (dCB zbK (zb (zcJ [none,none] (zd5 (zb (zi 0) (zb (zan 2 zbd (zb (zi 1) (zb (zi 2) zo))) zo))) (zdN 2 (za2 (zn 0) (za2 (zn 1) zff))) zau (dOp (dI0 fun i j=>i - j) (zi 0) (dOp dIx (zi 1) (dC (.int 0))))) zo))) (zbR S.length R) (xs.map some++List.replicate 0 none) S
def zbm:PN:=fun xs S R=>(zaN (dCB zqz (zb (zcJ [none] (zcG (zan 2 zbd (zb (zi 0) (zb (zi 1) zo)))) (zn 0) zau (dOp dIx (zi 0) (dC (.int 1)))) zo))) (zbR S.length R) (xs.map some++List.replicate 0 none) S
def zbl:PN:=fun xs S R=>(zac (zaL (zfc zo) (zn 2)) (zac (zgA (zcG (zi 1)) (zn 3) (zac (zaL (zfc zo) (zn 4)) (zac (zaL (dC (.int 0)) (zn 5)) (zac (zaL (dC (.int 0)) (zn 6)) (zac (zgA (za1 (zb (zH 0 2 zq (zb (zi 0) (zb (dC (.int 4)) zo))) zo)) (zn 7) (zac (zaL (dOp zbQ (dOp zbQ (zi 5) (dC (.int 1))) (zH 0 2 zq (zb (zi 0) (zb (dOp dIx (zfK (zb (dC (.int 3)) (zb (dC (.int 3)) (zb (dC (.int 3)) (zb (dOp (dI CPow fun i j=>i ^ j.toNat) (dC (.int 10)) (dC (.int 20))) zo))))) (zH 0 2 zq (zb (zi 0) (zb (dC (.int 4)) zo)))) zo)))) (zn 5)) (zac (zaL (dOp zbQ (dOp zbQ (zi 6) (dC (.int 1))) (zH 0 2 zq (zb (zi 0) (zb (dC (.int 5)) zo)))) (zn 6)) (zdS (dBM zbN (zi 4) (zb (zbe (zb (zi 5) (zb (zi 6) zo))) zo)))))) (zdS (dBM zbN (zi 2) (zb (dCB zbK (zb (zi 4) zo)) zo)))))))) (zaN (dCB zbK (zb (zi 2) zo))))) (zbR S.length R) (xs.map some++List.replicate 6 none) S
def zaW:PN:=fun xs S R=>(zac (zcF (dOr (zeu (zer (dCB zhG (zb (zi 0) (zb (dO (.ty "tuple")) zo))))) (dOr (dB (dOp (dIb fun i j=>decide (j<i)) (dCB zav (zb (zi 0) zo)) (dC (.int 3)))) (zeu (zer (dCB zjO (zb (zcJ [none] (zcG (zi 0)) (zn 0) zau (zan 1 zbn (zb (zi 0) zo))) zo)))))) (zaN (dC (.bool false))) zaz) (zac (zgA (za1 (zb (dOp (dI0 fun i j=>i - j) (dCB zav (zb (zi 0) zo)) (dC (.int 1))) zo)) (zn 1) (zcF (dOr (dB (dOp (dIb fun i j=>decide (j<=i)) (dOp dIx (dOp dIx (zi 0) (zi 1)) (dC (.int 0))) (dOp dIx (dOp dIx (zi 0) (dOp zbQ (zi 1) (dC (.int 1)))) (dC (.int 0))))) (dB (dOp (dIb fun i j=>decide (j<=i)) (dOp dIx (dOp dIx (zi 0) (zi 1)) (dC (.int 1))) (dOp dIx (dOp dIx (zi 0) (dOp zbQ (zi 1) (dC (.int 1)))) (dC (.int 1)))))) (zaN (dC (.bool false))) zaz)) (zaN (dC (.bool true))))) (zbR S.length R) (xs.map some++List.replicate 1 none) S
def zbb:PN:=fun xs S R=>(zac (zaL (zfK (zb (dCB zfP (zb (zi 0) zo)) (zb (dC .none) (zb (dC (.bool true)) (zb (dC (.int 0)) (zb (dC (.str "")) (zb (dC (.dict [])) (zb (dOp zbQ (zi 0) (zbe (zb (zbe (zb (dC (.int 1)) (zb (dC (.int 1)) zo))) zo))) (zb (zlD (zi 0) (dUn (dUI fun i=>-i) (dC (.int 1)))) (zb (dOp zbQ (zi 0) (zbe (zb (dC .none) zo))) (zb (zbe (zb (zbe (zb (dC (.int 0)) (zb (dC (.int 1)) zo))) zo)) zo))))))))))) (zn 2)) (zac (zaL (dOp zbQ (zi 2) (zfK (zb (zbe (zb (zbe (zb (dC (.int 1)) (zb (dC (.int 0)) zo))) zo)) (zb (zbe (zb (zbe (zb (dUn (dUI fun i=>-i) (dC (.int 1))) (zb (dC (.int 2)) zo))) zo)) zo)))) (zn 2)) (zac (zaL (dOp zbQ (zi 2) (zfK (zb (zbe (zb (zbe (zb (dC (.bool true)) (zb (dC (.int 1)) zo))) zo)) (zb (zbe (zb (zbe (zb (dC (.int 1)) (zb (dC .none) zo))) zo)) (zb (zbe (zb (zbe (zb (dC (.str "1")) (zb (dC (.int 1)) zo))) zo)) (zb (zbe (zb (zbe (zb (dC (.int 1)) (zb (dOp (dI CPow fun i j=>i ^ j.toNat) (dC (.int 10)) (dC (.int 60))) zo))) zo)) (zb (zbe (zb (zbe (zb (dOp (dI CPow fun i j=>i ^ j.toNat) (dC (.int 10)) (dC (.int 60))) (zb (dC (.int 1)) zo))) zo)) (zb (zbe (zb (zbe (zb (dC (.int 1)) (zb (dC (.int 1)) (zb (dC (.int 1)) zo)))) zo)) (zb (zbe (zb (zfK (zb (dC (.int 1)) (zb (dC (.int 1)) zo))) zo)) zo))))))))) (zn 2)) (zac (zaL (dOp zbQ (zi 2) (zfK (zb (zbe (zb (zbe (zb (dC (.int 1)) (zb (dC (.int 1)) zo))) (zb (zbe (zb (dC (.int 2)) (zb (dC (.int 2)) zo))) (zb (zbe (zb (dC (.int 3)) (zb (dC (.int 3)) zo))) (zb (zbe (zb (dC (.int 4)) (zb (dC (.int 4)) zo))) zo))))) (zb (zbe (zb (zbe (zb (dC (.int 1)) (zb (dC (.int 5)) zo))) (zb (zbe (zb (dC (.int 2)) (zb (dC (.int 5)) zo))) zo))) (zb (zbe (zb (zbe (zb (dC (.int 2)) (zb (dC (.int 1)) zo))) (zb (zbe (zb (dC (.int 2)) (zb (dC (.int 3)) zo))) zo))) (zb (zbe (zb (zbe (zb (dC (.int 1)) zo)) zo)) (zb (zbe (zb (zbe (zb (dOp (dI0 fun i j=>i - j) (dOp (dI CPow fun i j=>i ^ j.toNat) (dC (.int 10)) (dC (.int 60))) (dC (.int 1))) (zb (dC (.int 1)) zo))) zo)) zo))))))) (zn 2)) (zaN (dOp dIx (zi 2) (zH 0 2 zq (zb (zi 1) (zb (dCB zav (zb (zi 2) zo)) zo))))))))) (zbR S.length R) (xs.map some++List.replicate 1 none) S
def zaV:PN:=fun xs S R=>(zac (zaL (zH 0 2 zq (zb (zi 2) (zb (dCB zav (zb (zi 0) zo)) zo))) (zn 3)) (zac (zaL (zfc (zb (dCB zfP (zb (zi 0) zo)) (zb (dSl zjB (zi 0) (zfv (dC (.int 1))) zb0) (zb (dOp zbQ (zi 0) (zbe (zb (dC (.int 0)) zo))) (zb (dC .none) (zb (dC (.int 0)) (zb (dC (.str "")) (zb (zbe zo) (zb (dC (.dict [])) (zb (dC (.bool true)) zo)))))))))) (zn 4)) (zac (zgA (zcG (zfK (zb (dUn (dUI fun i=>-i) (dC (.int 1))) (zb (dOp zbQ (dCB zav (zb (dOp dIx (zi 1) (zi 3)) zo)) (dC (.int 1))) (zb (dCB zav (zb (dOp dIx (zi 1) (zi 3)) zo)) (zb (dC (.bool true)) (zb (dC .none) (zb (dC (.str "0")) (zb (zbe (zb (dC (.int 0)) zo)) (zb (dC (.bool false)) zo)))))))))) (zn 5) (zdS (dBM zbN (zi 4) (zb (dOp zbQ (dOp zbQ (dSl zjB (zi 0) zb0 (zfv (zi 3))) (zbe (zb (zi 5) zo))) (dSl zjB (zi 0) (zfv (dOp zbQ (zi 3) (dC (.int 1)))) zb0)) zo)))) (zaN (dOp dIx (zi 4) (zH 0 2 zq (zb (zi 2) (zb (dCB zav (zb (zi 4) zo)) zo)))))))) (zbR S.length R) (xs.map some++List.replicate 3 none) S
def zcr:PN:=fun xs S R=>(zac (zcF (dOr (zeu (zer (dCB zhG (zb (zi 0) (zb (dO (.ty "tuple")) zo))))) (dOr (dB (dOp (dIb fun i j=>decide (j<i)) (dCB zav (zb (zi 0) zo)) (dC (.int 3)))) (zeu (zer (dCB zjO (zb (zcJ [none] (zcG (zi 0)) (zn 0) zau (zan 1 zdC (zb (zi 0) zo))) zo)))))) (zaN (dC (.bool false))) zaz) (zaN (dCB zjO (zb (zcJ [none,none] (zd5 (zb (zi 0) (zb (dSl zqA (zi 0) (zfv (dC (.int 1))) zb0) zo))) (zdN 2 (za2 (zn 0) (za2 (zn 1) zff))) zau (zcd (dOp (dIb fun i j=>decide (i<j)) (dOp dIx (zi 0) (dC (.int 0))) (dOp dIx (zi 1) (dC (.int 0)))) (dOp (dIb fun i j=>decide (i<j)) (dOp dIx (zi 0) (dC (.int 1))) (dOp dIx (zi 1) (dC (.int 1)))))) zo)))) (zbR S.length R) (xs.map some++List.replicate 0 none) S
def zct:PN:=fun xs S R=>(zaN (zan 2 zcp (zb (zan 1 zcN (zb (zi 0) zo)) (zb (zi 1) zo)))) (zbR S.length R) (xs.map some++List.replicate 0 none) S
def zcg:PN:=fun xs S R=>(zac (zgA (za1 (zb (dCB zav (zb (zi 1) zo)) zo)) (zn 2) (zcF (dOr (dB (dOp (dIb fun i j=>decide (j<=i)) (zi 2) (dCB zav (zb (zi 0) zo)))) (zeu (zer (zan 1 zaW (zb (dOp dIx (zi 1) (zi 2)) zo))))) (zaN (zi 2)) zaz)) (zac (zcF (dB (dOp (dIb fun i j=>decide (i<j)) (dCB zav (zb (zi 1) zo)) (dCB zav (zb (zi 0) zo)))) (zaN (dCB zav (zb (zi 1) zo))) zaz) (zaN (dC .none)))) (zbR S.length R) (xs.map some++List.replicate 1 none) S
def zay:PN:=fun xs S R=>(zac (zaL (dCB zdm (zb (zi 0) zo)) (zn 2)) (zac (zaL (zH 0 2 zq (zb (zi 1) (zb (dC (.int 8)) zo))) (zn 3)) (zac (zaL (zH 0 2 zq (zb (zi 1) (zb (dCB zav (zb (zi 2) zo)) zo))) (zn 4)) (zac (zcF (dB (dOp (dIb fun i j=>decide (i<j)) (zi 3) (dC (.int 3)))) (zaL (zH 1 2 zbb (zb (dOp dIx (zi 2) (zi 4)) (zb (zi 1) zo))) (zg6 (zi 2) (zi 4))) zaz) (zac (zcF (dB (dOp zgB (zi 3) (dC (.int 3)))) (zdS (dBM zbN (zi 2) (zb (zbe zo) zo))) zaz) (zac (zcF (dB (dOp zgB (zi 3) (dC (.int 4)))) (zdS (dBM ziq (zi 2) (zb (zi 4) zo))) zaz) (zaN (zi 2)))))))) (zbR S.length R) (xs.map some++List.replicate 3 none) S
def zaA:PN:=fun xs S R=>(zac (zaL (zan 3 zge (zb (zi 0) (zb (zi 1) (zb (zi 2) zo)))) (zn 3)) (zac (zcF (dOr (zeu (zer (dCB zhG (zb (zi 3) (zb (dO (.ty "tuple")) zo))))) (zeu (zer (dCB zjO (zb (zcJ [none] (zcG (zi 3)) (zn 0) zau (zan 1 zab (zb (zi 0) zo))) zo))))) (zaN (dC (.bool false))) zaz) (zac (zaL (zan 2 zbm (zb (zi 1) (zb (zi 2) zo))) (zn 4)) (zaN (zcd (dOp zgB (zi 3) (zan 3 zc9 (zb (zi 0) (zb (zi 1) (zb (zi 2) zo))))) (zcd (zan 1 zab (zb (zi 4) zo)) (dOp zgB (zi 4) (zan 2 zaJ (zb (zi 1) (zb (zi 2) zo)))))))))) (zbR S.length R) (xs.map some++List.replicate 2 none) S
def zbc(F:Addr)(ql:PN):PX:=fun xs S R EX=>(zac (zgA (zgj (zb (zi 1) zo)) (zdN 2 (za2 (zn 3) (za2 (zn 4) zff))) (zcF (dOr (dB (dOp (dIb fun i j=>decide (j<=i)) (zi 3) (dCB zav (zb (zi 0) zo)))) (zeu (zer (zik 2 F 2 ql (zb (dOp dIx (zi 0) (zi 3)) (zb (zi 4) zo)))))) (zeO EX 142 ["number"] (zb (zi 3) zo)) zaz)) (zac (zcF (dB (dOp (dIb fun i j=>decide (i<j)) (dCB zav (zb (zi 1) zo)) (dCB zav (zb (zi 0) zo)))) (zeO EX 142 ["number"] (zb (dCB zav (zb (zi 1) zo)) zo)) zaz) (zaN (dCB zbK (zb (zi 1) zo))))) (zbR S.length R) (xs.map some++List.replicate 2 none) S
def zcX:PX:=fun xs S R EX=>(zaN (zep EX [] zbc (zan 1 zcr (zb (zi 1) zo)) (zi 0) (zi 1))) (zbR S.length R) (xs.map some++List.replicate 0 none) S
def zbi:PN:=fun xs S R=>(zac (zaL (dCB zdm (zb (zi 1) zo)) (zn 2)) (zac (zaL (zan 2 zcg (zb (zi 0) (zb (zi 1) zo))) (zn 3)) (zac (zlL (knA 4) 2 zcX (zb (zi 0) (zb (zi 2) zo)) 5 (zaN (zcd (dOp zgB (zim zcY (zb (zi 5) zo)) (dC (.str "offer"))) (zcd (zan 1 zab (zb (dXA [104,142] (zi 5) "number") zo)) (zcd (dOp zgB (dXA [104,142] (zi 5) "number") (zi 3)) (dOp zqt (zi 2) (zi 1))))))) (zac (zcF (dOr (dB (dOp zlY (zi 3) (dC .none))) (dOr (zeu (zer (dCB zhG (zb (zi 4) (zb (dO (.ty "tuple")) zo))))) (dB (dOp zqw (zi 2) (zi 1))))) (zaN (dC (.bool false))) zaz) (zac (zdS (dBM zbN (zi 2) (zb (dC (.int 0)) zo))) (zaN (dOp zgB (zi 4) (dCB zbK (zb (zi 1) zo))))))))) (zbR S.length R) (xs.map some++List.replicate 4 none) S
def zhW:DS:=(zcF (dOr (zeu (zer (zan 2 zbi (zb (zbe (zb (zbe (zb (dC (.str "a")) (zb (dC (.int 0)) (zb (dC (.int 0)) zo)))) zo)) (zb (zfK zo) zo))))) (zeu (zer (zan 2 zbi (zb (zbe (zb (zbe (zb (dC (.str "a")) (zb (dC (.int 0)) (zb (dC (.int 0)) zo)))) zo)) (zb (zfK (zb (zbe zo) zo)) zo)))))) (zaN (dC (.bool false))) zaz)
def znl:DS:=(zac (zaL (zan 1 zbX (zb (zi 1) zo)) (zn 2)) (zac (zaL (zH 0 2 za0 (zb (zi 2) (zb (dC (.int 8)) zo))) (zn 3)) (zac (zaL (zH 0 2 zbl (zb (zi 2) (zb (zi 3) zo))) (zn 4)) (zac (zaL (zH 0 2 zdE (zb (zi 2) (zb (zi 3) zo))) (zn 5)) (zgA (za1 (zb (dC (.int 2)) zo)) (zn 6) (zac (zcF (dOr (zeu (zer (zan 2 zbi (zb (zi 3) (zb (zH 1 2 zay (zb (zi 4) (zb (zi 2) zo))) zo))))) (zeu (zer (zan 2 zbi (zb (zi 3) (zb (dCB zfP (zb (zi 4) zo)) zo)))))) (zaN (dC (.bool false))) zaz) (zac (zaL (dCB zbK (zb (zcJ [none,some 2] (zcG (zi 4)) (zn 0) zau (zH 0 2 zq (zb (zi 1) (zb (dOp zbQ (dCB zav (zb (zi 0) zo)) (dC (.int 1))) zo)))) zo)) (zn 7)) (zac (zgA (zcG (zfK (zb (zi 7) (zb (dOp zeS (zbe (zb (dC (.int 0)) zo)) (dCB zav (zb (zi 4) zo))) (zb (zH 2 3 zaV (zb (zi 7) (zb (zi 4) (zb (zi 2) zo)))) zo))))) (zn 8) (zac (zaL (zan 2 zct (zb (zi 4) (zb (zi 8) zo))) (zn 9)) (zcF (dOr (zeu (zer (dCB zhG (zb (zi 9) (zb (dO (.ty "bool")) zo))))) (dB (dOp zl4 (zi 9) (zan 2 zaX (zb (zi 4) (zb (zi 8) zo)))))) (zaN (dC (.bool false))) zaz))) (zcF (dOr (zeu (zer (zan 3 zaA (zb (zi 5) (zb (zi 4) (zb (zi 7) zo)))))) (zeu (zer (zan 3 zaA (zb (zi 5) (zb (zi 4) (zb (dOp zeS (zbe (zb (dC (.int 0)) zo)) (dCB zav (zb (zi 4) zo))) zo))))))) (zaN (dC (.bool false))) zaz)))))))))
def zeY:PN:=fun xs S R=>(zac (zaL (dCB zdm (zb (zi 0) zo)) (zn 3)) (zac (zgA (za1 (zb (dCB zav (zb (zi 2) zo)) zo)) (zn 4) (zcF (dB (dOp (dIb fun i j=>decide (j<i)) (dOp dIx (zi 2) (zi 4)) (dC (.int 0)))) (zaL (dOp (dI0 fun i j=>i - j) (dOp dIx (zi 3) (zi 4)) (dOp dIx (dOp dIx (dOp dIx (zi 1) (zi 4)) (dOp (dI0 fun i j=>i - j) (dOp dIx (zi 2) (zi 4)) (dC (.int 1)))) (dC (.int 0)))) (zg6 (zi 3) (zi 4))) zaz)) (zaN (dCB zbK (zb (zi 3) zo))))) (zbR S.length R) (xs.map some++List.replicate 2 none) S
end My
namespace My
open PySem L2
theorem seq1{t u:DS}{E:DEnds}{δ:XE}{S:Sto}(h:t { E with nx:=u E } δ S):zac t u E δ S:=h
theorem cut{t u:DS}{E:DEnds}{δ:XE}{S:Sto}(I:XE->Sto->Prop)(h1:∀ N:XE->Sto->Prop,(∀ δ' S',I δ' S'->N δ' S')->t { E with nx:=N } δ S)(h2:∀ δ' S',I δ' S'->u E δ' S'):zac t u E δ S:=h1 _ h2
theorem zkL(i j:Int):PyData.eqv (.int i) (.int j)=decide (i=j):=rfl
theorem ziJ(i j:Bool):PyData.eqv (.bool i) (.bool j)=decide (i=j):=by cases i <;> cases j <;> rfl
theorem zpo(i:Int):SeqAt.shaped (.int i)=true:=rfl
theorem zpy(i:Bool):SeqAt.shaped (.bool i)=true:=rfl
theorem zk3:("int" ∈ zlI)=True:=eq_true dz
theorem zid:("bool" ∈ zlI)=True:=eq_true dz
theorem zhq:("tuple" ∈ zlI)=True:=eq_true dz
theorem ziB:("list" ∈ zlI)=True:=eq_true dz
end My
namespace My
open PySem L2
local macro_rules | `(tactic| walk_at "d")=>`(tactic| (try simp only [zaL,zep,ziq,znI,zo1,zik,all_cons,List.all_nil,Bool.and_self,zeS,zeO,dXA,zmH,zlL,knA,zrt,zo3,zmB,zrD,zo2,zkk,zqw,zqt,zim,zgd,zmG,zpI,zmn,zrr,zqA,zlD,zn,zi,dC,dO,dOp,dUn,zo,zb,dCB,zbe,zfK,zfc,dB,zeu,dOr,zcd,zrp,zla,dIf,zfg,dI,dI0,dIb,dUI,zgB,zl4,zrm,zlY,zpn,zo9,zo6,zpx,zm5,zmz,zmt,zme,zm6,zmJ,zkz,zmf,zmg,dFd,zer,zmK,zm0,zb0,zfv,dSl,zav,zmC,zmD,zmQ,zhG,zqB,zlk,dI2,zbK,zfP,zdm,dBM,zqu,zqq,zpV,zbN,zes,zk1,zri,zlJ,ziz,zlK,zqz,zjO,zan,zH,zmq,zhj,zdR,zpU,zo7,zql,zpT,asL,zmE,zpu,zoO,zpW,zp2,zj1,zkT,zm4,zmV,zmv,zpR,zo0,zkc,zmj,zmF,zmW,zmy,zaN,zcF,zdS,zaz,zmh,zgA,zcG,zmw,zmI,za1,zkd,zgj,zd5,zdN,za2,zqc,zqa,zpQ,zqb,zpl,zoB,zff,zg6,zcJ,zfd,zau,zmr,zre,zgs,zij,ziS,zgM,zfM,List.replicate,map_cons,map_nil,map_some,Option.bind_some,Option.bind_none,Option.join_some,getElem?_cons_zero,getElem?_cons_succ,set_cons_zero,set_cons_succ,List.take_succ_cons,take_zero,List.take_nil,length_cons,length_nil,nil_append,cons_append,Option.some.injEq,exists_eq_left',exists_eq_left,List.cons.injEq,XV.d.injEq,XV.l.injEq,XV.o.injEq,PyData.int.injEq,PyData.list.injEq,PyData.tuple.injEq,PyData.bool.injEq,PyData.str.injEq,and_true,true_and,decide_eq_true_eq,Bool.not_true,Bool.not_false,Bool.false_eq_true,Bool.true_eq_false,not_true_eq_false,not_false_eq_true,↓reduceIte,decide_true,decide_false,Bool.not_eq_true',zjV,decide_eq_false_iff_not,Nat.reduceAdd,Nat.reduceMul,zero_add,Nat.reduceLT,Nat.reduceLeDiff,Nat.reduceEqDiff,Int.reduceLT,Int.reduceLE,Int.reduceNeg,Int.reducePow,Int.reduceToNat,Int.reduceEq,Int.reduceAdd,Int.reduceSub,Int.reduceMul,le_refl,zero_le,length_append,length_map,zkL,ziJ,zpo,zpy,List.isEmpty_nil,List.isEmpty_cons,Int.cast_ofNat_Int,Int.natCast_zero,Int.natCast_one,zk3,zid,zhq,ziB,zkP,ziM,zhh,ziF]))
local macro_rules | `(tactic| walk_at "n")=>`(tactic| (refine seq1 ?_; walk_at "d"))
local macro_rules | `(tactic| walk_at "dX")=>`(tactic| (try simp -implicitDefEqProofs only [zaL,zep,ziq,znI,zo1,zik,all_cons,List.all_nil,Bool.and_self,zeS,zeO,dXA,zmH,zlL,knA,zrt,zo3,zmB,zrD,zo2,zkk,zqw,zqt,zim,zgd,zmG,zpI,zmn,zrr,zqA,zlD,zn,zi,dC,dO,dOp,dUn,zo,zb,dCB,zbe,zfK,zfc,dB,zeu,dOr,zcd,zrp,zla,dIf,zfg,dI,dI0,dIb,dUI,zgB,zl4,zrm,zlY,zpn,zo9,zo6,zpx,zm5,zmz,zmt,zme,zm6,zmJ,zkz,zmf,zmg,dFd,zer,zmK,zm0,zb0,zfv,dSl,zav,zmC,zmD,zmQ,zhG,zqB,zlk,dI2,zbK,zfP,zdm,dBM,zqu,zqq,zpV,zbN,zes,zk1,zri,zlJ,ziz,zlK,zqz,zjO,zan,zH,zmq,zhj,zdR,zpU,zo7,zql,zpT,asL,zmE,zpu,zoO,zpW,zp2,zj1,zkT,zm4,zmV,zmv,zpR,zo0,zkc,zmj,zmF,zmW,zmy,zaN,zcF,zdS,zaz,zmh,zgA,zcG,zmw,zmI,za1,zkd,zgj,zd5,zdN,za2,zqc,zqa,zpQ,zqb,zpl,zoB,zff,zg6,zcJ,zfd,zau,zmr,zre,zgs,zij,ziS,zgM,zfM,List.replicate,map_cons,map_nil,map_some,Option.bind_some,Option.bind_none,Option.join_some,getElem?_cons_zero,getElem?_cons_succ,set_cons_zero,set_cons_succ,List.take_succ_cons,take_zero,List.take_nil,length_cons,length_nil,nil_append,cons_append,Option.some.injEq,exists_eq_left',exists_eq_left,List.cons.injEq,XV.d.injEq,XV.l.injEq,XV.o.injEq,PyData.int.injEq,PyData.list.injEq,PyData.tuple.injEq,PyData.bool.injEq,PyData.str.injEq,and_true,true_and,decide_eq_true_eq,Bool.not_true,Bool.not_false,Bool.false_eq_true,Bool.true_eq_false,not_true_eq_false,not_false_eq_true,↓reduceIte,decide_true,decide_false,Bool.not_eq_true',zjV,decide_eq_false_iff_not,Nat.reduceAdd,Nat.reduceMul,zero_add,Nat.reduceLT,Nat.reduceLeDiff,Nat.reduceEqDiff,Int.reduceLT,Int.reduceLE,Int.reduceNeg,Int.reducePow,Int.reduceToNat,Int.reduceEq,Int.reduceAdd,Int.reduceSub,Int.reduceMul,le_refl,zero_le,length_append,length_map,zkL,ziJ,zpo,zpy,List.isEmpty_nil,List.isEmpty_cons,Int.cast_ofNat_Int,Int.natCast_zero,Int.natCast_one,zk3,zid,zhq,ziB,zkP,ziM,zhh,ziF]))
local macro_rules | `(tactic| walk_at "e")=>`(tactic| (try simp only [zac,zaL,zep,ziq,znI,zo1,zik,all_cons,List.all_nil,Bool.and_self,zeS,zeO,dXA,zmH,zlL,knA,zrt,zo3,zmB,zrD,zo2,zkk,zqw,zqt,zim,zgd,zmG,zpI,zmn,zrr,zqA,zlD,zn,zi,dC,dO,dOp,dUn,zo,zb,dCB,zbe,zfK,zfc,dB,zeu,dOr,zcd,zrp,zla,dIf,zfg,dI,dI0,dIb,dUI,zgB,zl4,zrm,zlY,zpn,zo9,zo6,zpx,zm5,zmz,zmt,zme,zm6,zmJ,zkz,zmf,zmg,dFd,zer,zmK,zm0,zb0,zfv,dSl,zav,zmC,zmD,zmQ,zhG,zqB,zlk,dI2,zbK,zfP,zdm,dBM,zqu,zqq,zpV,zbN,zes,zk1,zri,zlJ,ziz,zlK,zqz,zjO,zan,zH,zmq,zhj,zdR,zpU,zo7,zql,zpT,asL,zmE,zpu,zoO,zpW,zp2,zj1,zkT,zm4,zmV,zmv,zpR,zo0,zkc,zmj,zmF,zmW,zmy,zaN,zcF,zdS,zaz,zmh,zgA,zcG,zmw,zmI,za1,zkd,zgj,zd5,zdN,za2,zqc,zqa,zpQ,zqb,zpl,zoB,zff,zg6,zcJ,zfd,zau,zmr,zre,zgs,zij,ziS,zgM,zfM,List.replicate,map_cons,map_nil,map_some,Option.bind_some,Option.bind_none,Option.join_some,getElem?_cons_zero,getElem?_cons_succ,set_cons_zero,set_cons_succ,List.take_succ_cons,take_zero,List.take_nil,length_cons,length_nil,nil_append,cons_append,Option.some.injEq,exists_eq_left',exists_eq_left,List.cons.injEq,XV.d.injEq,XV.l.injEq,XV.o.injEq,PyData.int.injEq,PyData.list.injEq,PyData.tuple.injEq,PyData.bool.injEq,PyData.str.injEq,and_true,true_and,decide_eq_true_eq,Bool.not_true,Bool.not_false,Bool.false_eq_true,Bool.true_eq_false,not_true_eq_false,not_false_eq_true,↓reduceIte,decide_true,decide_false,Bool.not_eq_true',zjV,decide_eq_false_iff_not,Nat.reduceAdd,Nat.reduceMul,zero_add,Nat.reduceLT,Nat.reduceLeDiff,Nat.reduceEqDiff,Int.reduceLT,Int.reduceLE,Int.reduceNeg,Int.reducePow,Int.reduceToNat,Int.reduceEq,Int.reduceAdd,Int.reduceSub,Int.reduceMul,le_refl,zero_le,length_append,length_map,zkL,ziJ,zpo,zpy,List.isEmpty_nil,List.isEmpty_cons,Int.cast_ofNat_Int,Int.natCast_zero,Int.natCast_one,zk3,zid,zhq,ziB,zkP,ziM,zhh,ziF]))
section
variable {R:RX}
theorem ze9{n:Int}(q:∀ m,0<=m->R (.d (.int m)) []):zcb [.d (.int n)] [] R:=by
 unfold zcb;walk_at "e";have h1:=Int.emod_nonneg (n+7919) (show (2147483647:Int)≠0 by decide);have h2:=Int.emod_lt_of_pos (n+7919) (show (0:Int)<2147483647 by decide);exact⟨zfO (by omega) (by omega),zfO dz dz,q _ (Int.emod_nonneg _ dz)⟩
theorem zw{p:List PyData}{n:Int}(hp:zam p)(hn:0<n)(hb:n.natAbs.log2<9000)(q:∀ r p',0<=r->r<n->zam p'->R (.d (.int r)) [p']):zq [.l 0,.d (.int n)] [p] R:=by
 obtain⟨l,g,sd,rfl,hl⟩:=hp;unfold zq;walk_at "e";split
 ·refine⟨hn,.inl ⟨⟨hn,hb⟩,0,rfl,?_⟩⟩;walk_at "e";exact q _ _ (Int.emod_nonneg _ (by omega)) (Int.emod_lt_of_pos _ hn) ⟨_,_,_,rfl,Int.ediv_nonneg hl (by omega)⟩
 ·refine ze9 fun m _=>?_;walk_at "e";refine ze9 fun m' h'=>?_;walk_at "e";refine⟨2,rfl,?_⟩;walk_at "e";exact .inl ⟨⟨by decide,by decide +kernel⟩,hn,q _ _ (Int.emod_nonneg _ (by omega)) (Int.emod_lt_of_pos _ hn) ⟨_,_,_,rfl,hl⟩⟩
theorem zf7{n:Int}(q:∀ p,zam p->R (.l 0) [p]):zbX [.d (.int n)] [] R:=by
 unfold zbX;walk_at "e";refine⟨⟨by decide,by decide,by decide⟩,?_⟩;refine .inr (q _ ⟨_,_,_,rfl,?_⟩);split <;> omega
theorem zef{p:List PyData}(hp:zam p)(q:∀ r p',-10 ^ 58<=r->r<=10 ^ 58->zam p'->R (.d (.int r)) [p']):zba [.l 0] [p] R:=by
 unfold zba;walk_at "e";refine zw hp dz (by decide +kernel) fun r p1 r0 r1 hp1=>?_;walk_at "e";split
 ·refine zw hp1 dz (by decide +kernel) fun r p2 r0 r1 hp2=>?_;walk_at "e";exact q _ _ (by omega) (by omega) hp2
 ·split
  ·refine zw hp1 dz (by decide +kernel) fun r p2 r0 r1 hp2=>?_;walk_at "e";exact q _ _ (by omega) (by omega) hp2
  ·refine⟨⟨by decide,by decide,by decide⟩,zfO dz dz,?_⟩;have k1:(10:Int) ^ 30=1000000000000000000000000000000:=by decide +kernel
   have k2:(10:Int) ^ 28=10000000000000000000000000000:=by decide +kernel
   refine zw hp1 (by decide +kernel) (by decide +kernel) fun r p2 r0 r1 hp2=>?_;walk_at "e"
   try simp only [k1,k2] at r1 ⊢
   refine⟨⟨by decide,by decide,by decide⟩,⟨by decide,by decide,by decide⟩,zqN 128 128 (by omega) (by decide +kernel),q _ _ (by omega) (by omega) hp2⟩
theorem zgb{p:List PyData}(hp:zam p)(q:∀ r p',-10 ^ 58<=r->r<=10 ^ 58->zam p'->R (.d (.int r)) [p']):zd7 [.l 0] [p] R:=zef hp q
theorem zh7{p:List PyData}(hp:zam p)(q:∀ lo hi p',lo<=hi->-10 ^ 58<=lo->hi<=10 ^ 59->zam p'->R (.d (spD lo hi)) [p']):zfT [.l 0] [p] R:=by
 unfold zfT;walk_at "e";refine zgb hp fun lo p1 l0 l1 hp1=>?_;walk_at "e";refine zw hp1 dz (by decide +kernel) fun wd p2 w0 w1 hp2=>?_;walk_at "e";refine zw hp2 dz (by decide +kernel) fun t p3 t0 t1 hp3=>?_;walk_at "e";split
 ·refine⟨⟨by decide,by decide,by decide⟩,?_⟩;refine zw hp3 (by decide +kernel) (by decide +kernel) fun wd p4 w0 w1 hp4=>?_;walk_at "e";have k1:(10:Int) ^ 40=10000000000000000000000000000000000000000:=by decide +kernel
  try rw [k1] at w1
  exact q lo (lo+wd) _ (by omega) l0 (by omega) hp4
 ·exact q lo (lo+wd) _ (by omega) l0 (by omega) hp3
theorem zfA{p:List PyData}(hp:zam p)(q:∀ lo hi p',lo<=hi->-10 ^ 58<=lo->hi<=10 ^ 59->zam p'->R (.d (spD lo hi)) [p']):zbE [.l 0] [p] R:=zh7 hp q
end
section
variable {R:RX}
theorem zpM{α:Type}[Inhabited α]{l:List α}{i:Int}(h0:0<=i)(h1:i<l.length)(d:α):atI l i=some (l.getD i.toNat d):=by
 obtain⟨k,rfl⟩:=Int.eq_ofNat_of_zero_le h0;have hk:k<l.length:=by omega
 rw [zbg (getElem?_eq_getElem hk)];simp [getD_eq_getElem?_getD,hk]
theorem zii:("abcdefghijklmnopqrstuvwxyz":Str).length=26:=by decide
theorem zlp:("abcdefghijklmnopqrstuvwxyz":Str).cps.toList.length=26:=by rw [<- zii]; simp [Str.length]
theorem zhb:("abcdefghijklmnopqrstuvwxyz":Str).length<=sizeLine:=le_of_lt (small1000 (by rw [zii]; decide))
theorem len1(c:Nat):(⟨#[c]⟩:Str).length=1:=rfl
abbrev lsgn (i:Int):Str:=⟨#[("abcdefghijklmnopqrstuvwxyz":Str).cps.toList.getD i.toNat 0]⟩
theorem zkZ{i:Int}(h0:0<=i)(h1:i<26):atI ("abcdefghijklmnopqrstuvwxyz":Str).cps.toList i=some (("abcdefghijklmnopqrstuvwxyz":Str).cps.toList.getD i.toNat 0):=zpM h0 (by rw [zlp]; exact h1) 0
theorem zkv{ds:List PyData}{a b:Option Int}{d:PyData}(m:d∈zcZ ds a b):d∈ds:=by
 unfold zcZ at m;exact List.mem_of_mem_drop (List.mem_of_mem_take m)
def zdY(z:Str):Bool:=decide (z.length<=100) && PyData.strOk z && !decide (z = "zy")
theorem zqh:∀ f<26,∀ k<8,zdY (PySem.Txt.mul (lsgn (((f:Nat)+5*(0+((k:Nat):Int))) % 26)) (1+((f:Nat)+3*(0+((k:Nat):Int))) % 8))=true:=by decide +kernel
theorem zoZ:∀ f<26,∀ k<8,zdY (PySem.Txt.slice (PySem.Txt.join "" ((List.range 8).map fun k:Nat=>lsgn (((f:Nat)+7*(0+(k:Int))) % 26))) none (some (0+((k:Nat):Int)+1)))=true:=by decide +kernel
theorem znN{ds:List PyData}(h:∀ d∈ds,∃ z:Str,d=.str z/\zdY z=true):∃ zs:List Str,ds=zs.map PyData.str/\zs.length=ds.length/\∀ z∈zs,zdY z=true:=by
 induction ds with
 | nil=>exact⟨[],rfl,rfl,by simp⟩
 | cons d ds ih =>
  obtain⟨z,rfl,hz⟩:=h d mem_cons_self;obtain⟨zs,rfl,hl,hzs⟩:=ih fun d m=>h d (mem_cons_of_mem _ m);refine⟨z :: zs,rfl,by simp,fun y m=>?_⟩;rcases mem_cons.mp m with rfl | m
  ·exact hz
  ·exact hzs y m
theorem zkR(a b:Str):(a++b).length=a.length+b.length:=strLen_append a b
theorem zhy:∀ zs:List Str,(∀ z∈zs,z.length<=1)->(Str.join "" zs).length<=zs.length
 | [],_=>le_refl 0
 | [a],h=>h a mem_cons_self
 | a :: b :: r,h=>by
  show (a ++ "" ++ Str.join "" (b :: r)).length<=_;rw [zkR,zkR];have e:("":Str).length=0:=rfl;have h1:=h a mem_cons_self;have h2:=zhy (b :: r) fun z m=>h z (mem_cons_of_mem _ m);rw [e];simp only [length_cons] at h2 ⊢;omega
def zgR(ds:List PyData):Prop:=∀ d∈ds,∃ z:Str,d=.str z/\zdY z=true
theorem zhJ{ds:List PyData}{a:Int}(h0:0<=a)(h1:a<=ds.length):(zcZ ds (some a) none++zcZ ds none (some a)).length=ds.length:=by
 obtain⟨k,rfl⟩:=Int.eq_ofNat_of_zero_le h0;have e1:HT.sIx ds.length 0 (some (k:Int))=k:=by rw [HT.sIx_nat]; omega
 have e2:HT.sIx ds.length ds.length (some (k:Int))=k:=by rw [HT.sIx_nat]; omega
 have e3:HT.sIx ds.length ds.length none=ds.length:=rfl;have e4:HT.sIx ds.length 0 none=0:=rfl;unfold zcZ;rw [e1,e2,e3,e4,length_append,length_take,length_take,length_drop,length_drop];omega
def zj4:List Str:=["part","gap","cut","a","aa","dear","b","keeps"]
set_option maxHeartbeats 8000000 in
theorem ze5{p:List PyData}(hp:zam p)(q:∀ (ns:List Str) p',ns.length=8->(∀ z∈ns,zdY z=true)->zam p'->R (.d (.list (ns.map PyData.str))) [p']):zaQ [.l 0] [p] R:=by
 unfold zaQ;walk_at "dX"
 (refine seq1 ?_; walk_at "dX")
 (refine seq1 ?_; walk_at "dX")
 refine zw hp dz (by decide +kernel) fun way p1 w0 w1 hp1=>?_;walk_at "dX"
 (refine seq1 ?_; walk_at "dX")
 refine zw hp1 dz (by decide +kernel) fun fst p2 f0 f1 hp2=>?_;walk_at "dX";refine cut (fun δ' S'=>∃ (ds:List PyData),zgR ds/\ds.length=8/\S'=[p2,ds]/\δ'=[some (.l 0),some (.d (.str ("abcdefghijklmnopqrstuvwxyz":Str))),some (.d (.int way)),some (.d (.int fst)),some (.l 1),none,none]) (fun N hN=>?_) ?_
 ·walk_at "dX";refine cmp1 (S0:=[p2]) (fun k:Nat=>.str (PySem.Txt.mul (lsgn ((fst+5*(0+k)) % 26)) (1+(fst+3*(0+k)) % 8))) rfl (List.range 8) (by simp) ?_ ?_
  ·intro k mk u acc R' hk;have b1:=Int.emod_nonneg (fst+5*(0+(k:Int))) (show (26:Int)≠0 by decide);have b2:=Int.emod_lt_of_pos (fst+5*(0+(k:Int))) (show (0:Int)<26 by decide);have b3:=Int.emod_nonneg (fst+3*(0+(k:Int))) (show (8:Int)≠0 by decide);have b4:=Int.emod_lt_of_pos (fst+3*(0+(k:Int))) (show (0:Int)<8 by decide);walk_at "dX";refine⟨zfO dz dz,zhb,_,zkZ b1 b2,?_⟩;walk_at "dX";refine⟨zfO dz dz,?_⟩;walk_at "dX";exact⟨by rw [len1]; decide,by omega,by omega,hk _⟩
  ·refine hN _ _ ⟨_,?_,by simp,rfl,rfl⟩;intro d m;obtain⟨k,mk,rfl⟩:=mem_map.mp m;obtain⟨f,rfl⟩:=Int.eq_ofNat_of_zero_le f0;exact⟨_,rfl,zqh f (by omega) k (mem_range.mp mk)⟩
 rintro _ _ ⟨ds,hds,hl,rfl,rfl⟩;refine cut (fun δ' S'=>∃ (ds:List PyData) (T:Sto) (k:Nat) (u:Option XV),zgR ds/\ds.length=8/\T[k]? = some ds/\S'=p2 :: T/\δ'=[some (.l 0),some (.d (.str ("abcdefghijklmnopqrstuvwxyz":Str))),some (.d (.int way)),some (.d (.int fst)),some (.l (k+1)),u,none]) (fun N hN=>?_) ?_
 ·walk_at "dX";split
  ·refine seq1 ?_;walk_at "dX";refine cmp1 (S0:=[p2,ds]) (fun k:Nat=>.str (lsgn ((fst+7*(0+k)) % 26))) rfl (List.range 8) (by simp) ?_ ?_
   ·intro k mk u acc R' hk;have b1:=Int.emod_nonneg (fst+7*(0+(k:Int))) (show (26:Int)≠0 by decide);have b2:=Int.emod_lt_of_pos (fst+7*(0+(k:Int))) (show (0:Int)<26 by decide);walk_at "dX";refine⟨zfO dz dz,zhb,_,zkZ b1 b2,?_⟩;exact hk _
   ·walk_at "dX";refine⟨(List.range 8).map fun k:Nat=>lsgn ((fst+7*(0+k)) % 26),by rw [map_map]; rfl,by decide,by simp,fun y m=>?_,?_⟩
    ·obtain⟨k,_,rfl⟩:=mem_map.mp m;show 1<=1000;decide
    ·have wl:(PySem.Txt.join "" ((List.range 8).map fun k:Nat=>lsgn ((fst+7*(0+k)) % 26))).length<=8*1016:=by
      have:=zlS (y:=("":Str)) (zs:=(List.range 8).map fun k:Nat=>lsgn ((fst+7*(0+k)) % 26)) dz (fun y m=>by
       obtain⟨k,_,rfl⟩:=mem_map.mp m;show 1<=1000;decide)
      simpa using this
     have wl':(PySem.Txt.join "" ((List.range 8).map fun k:Nat=>lsgn ((fst+7*(0+k)) % 26))).length<=8:=by
      show (Builtin.Str.glued _ _).length<=_;rw [StrLaws.glued_eq_join];have:=zhy ((List.range 8).map fun k:Nat=>lsgn ((fst+7*(0+k)) % 26)) (fun y m=>by
       obtain⟨k,_,rfl⟩:=mem_map.mp m;exact le_refl 1)
      simpa using this
     walk_at "dX";refine cmp1 (S0:=[p2,ds]) (fun k:Nat=>.str (PySem.Txt.slice (PySem.Txt.join "" ((List.range 8).map fun k:Nat=>lsgn ((fst+7*(0+k)) % 26))) none (some (0+k+1)))) rfl (List.range 8) (by simp) ?_ ?_
     ·intro k mk u acc R' hk;walk_at "dX";exact⟨le_trans wl (by rw [sizeLine_eq]; decide),hk _⟩
     ·refine hN _ _ ⟨_,[ds,_],1,_,?_,?_,rfl,rfl,rfl⟩
      ·intro d m;obtain⟨k,mk,rfl⟩:=mem_map.mp m;obtain⟨f,rfl⟩:=Int.eq_ofNat_of_zero_le f0;exact⟨_,rfl,zoZ f (by omega) k (mem_range.mp mk)⟩
      ·simp
  ·exact hN _ _ ⟨ds,[ds],0,none,hds,hl,rfl,rfl,rfl⟩
 rintro _ _ ⟨ds,T,k,u,hds,hl,hk,rfl,rfl⟩;refine cut (fun δ' S'=>∃ (ds:List PyData) (T:Sto) (k:Nat),zgR ds/\ds.length=8/\T[k]? = some ds/\S'=p2 :: T/\δ'=[some (.l 0),some (.d (.str ("abcdefghijklmnopqrstuvwxyz":Str))),some (.d (.int way)),some (.d (.int fst)),some (.l (k+1)),u,none]) (fun N hN=>?_) ?_
 ·walk_at "dX";split
  ·refine hN _ _ ⟨zj4.map PyData.str,T++[zj4.map PyData.str],T.length,?_,rfl,by rw [getElem?_concat_length],rfl,rfl⟩;intro d m;obtain⟨z,hz,rfl⟩:=mem_map.mp m;refine⟨z,rfl,?_⟩;simp only [zj4,mem_cons,not_mem_nil,or_false] at hz;rcases hz with rfl | rfl | rfl | rfl | rfl | rfl | rfl | rfl <;> decide +kernel
  ·exact hN _ _ ⟨ds,T,k,hds,hl,hk,rfl,rfl⟩
 rintro _ _ ⟨ds,T,k,hds,hl,hk,rfl,rfl⟩
 (refine seq1 ?_; walk_at "dX")
 refine zw hp2 dz (by decide +kernel) fun at' p3 a0 a1 hp3=>?_;walk_at "dX"
 (refine seq1 ?_; walk_at "dX")
 refine⟨ds,hk,ds,hk,?_⟩;have hc:=zhJ (ds:=ds) a0 (by omega);rw [length_append] at hc;refine⟨by omega,?_⟩;have hk2:(T++[zcZ ds (some at') none++zcZ ds none (some at')])[T.length]? = some (zcZ ds (some at') none++zcZ ds none (some at')):=by rw [getElem?_concat_length]
 have hs2:zgR (zcZ ds (some at') none++zcZ ds none (some at')):=fun d m=>(mem_append.mp m).elim (fun m=>hds d (zkv m)) fun m=>hds d (zkv m);have hl2:(zcZ ds (some at') none++zcZ ds none (some at')).length=8:=by rw [length_append]; omega
 generalize zcZ ds (some at') none++zcZ ds none (some at')=es at hk2 hs2 hl2 ⊢;refine seq1 ?_;walk_at "dX";refine zw hp3 dz (by decide +kernel) fun r p4 r0 r1 hp4=>?_;walk_at "dX";have fin':∀ (fs:List PyData),zgR fs->fs.length=8->R (.d (.list fs)) [p4]:=by
  intro fs h1 h2;obtain⟨zs,rfl,z1,z2⟩:=znN h1;exact q zs p4 (by omega) z2 hp4
 split
 ·refine⟨by simp,es,hk2,?_⟩;walk_at "dX";rw [if_neg (by omega)];refine⟨es.reverse,by simp [ziV],.inl (fin' _ (fun d m=>hs2 d (mem_reverse.mp m)) (by simpa using hl2))⟩
 ·rw [if_neg (by omega)];exact⟨es,hk2,.inl (fin' _ hs2 hl2)⟩
abbrev Part:=Str×Int×Int
def zlh(p:Part):PyData:=.tuple [.str p.1,.int p.2.1,.int p.2.2]
def zil(ps:List Part):PyData:=.tuple (ps.map zlh)
structure Prt(p:Part):Prop where
 nm:zdY p.1=true
 le:p.2.1<=p.2.2
 lo:-10 ^ 58<=p.2.1
 hi:p.2.2<=10 ^ 59
structure Drw(ps:List Part):Prop where
 l1:1<=ps.length
 l8:ps.length<=8
 all:∀ p∈ps,Prt p
theorem zb5{α:Type}{f:α->PyData}{l:List α}{k:Nat}{x:α}(e:l[k]? = some x):atI (l.map f) (k:Int)=some (f x):=zbg (by rw [getElem?_map,e]; rfl)
theorem ze4{Q:PN}{p:List PyData}{m:Int}{span:PN}{names:PN}(hQ:Q=fun xs S R=>(zac (zaL (zH 0 1 names (zb (zi 0) zo)) (zn 2)) (zac (zaL (zfc zo) (zn 3)) (zac (zgA (za1 (zb (dOp zbQ (dC (.int 1)) (zH 0 2 zq (zb (zi 0) (zb (zi 1) zo)))) zo)) (zn 4) (zdS (dBM zbN (zi 3) (zb (dOp zbQ (zbe (zb (dOp dIx (zi 2) (zi 4)) zo)) (zH 0 1 span (zb (zi 0) zo))) zo)))) (zaN (dCB zbK (zb (zi 3) zo)))))) (zbR S.length R) (xs.map some++List.replicate 3 none) S)
  (hnames:∀ {p:List PyData} {R:RX},zam p->(∀ (ns:List Str) p',ns.length=8->(∀ z∈ns,zdY z=true)->zam p'->R (.d (.list (ns.map PyData.str))) [p'])->names [.l 0] [p] R)
  (hspan:∀ {p:List PyData} {R:RX},zam p->(∀ lo hi p',lo<=hi->-10 ^ 58<=lo->hi<=10 ^ 59->zam p'->R (.d (spD lo hi)) [p'])->span [.l 0] [p] R)
  (hp:zam p) (m1:0<m) (m8:m<=8) (q:∀ (ps:List Part) p',Drw ps->zam p'->R (.d (zil ps)) [p']):Q [.l 0,.d (.int m)] [p] R:=by
 subst hQ;walk_at "d"
 walk_at "n"
 refine hnames hp fun ns p1 hn hz hp1=>?_;walk_at "d"
 walk_at "n"
 walk_at "n";refine zw hp1 m1 (zcV m1 (by omega)) fun r p2 r0 r1 hp2=>?_;walk_at "d";refine zaI (fun i δ S=>∃ (p:List PyData) (ps:List Part) (u:Option XV),zam p/\ps.length=i/\(∀ p∈ps,Prt p)/\S=[p,ps.map zlh]/\δ=[some (.l 0),some (.d (.int m)),some (.d (.list (ns.map PyData.str))),some (.l 1),u]) ⟨p2,[],_,hp2,rfl,by simp,rfl,rfl⟩ ?_ ?_
 ·rintro i d _ _ N hi ⟨p,ps,u,hp,hl,ha,rfl,rfl⟩ hN;obtain⟨hi',rfl⟩:=zbr hi;have i8:i<ns.length:=by omega
  have e:=zb5 (f:=PyData.str) (getElem?_eq_getElem i8);walk_at "d";simp only [Int.zero_add];refine⟨_,e,?_⟩;walk_at "d";refine hspan hp fun lo hi p3 h1 h2 h3 hp3=>?_;simp only [spD];walk_at "d";refine⟨by omega,hN _ _ ⟨p3,ps++[(ns[i],lo,hi)],_,hp3,by simp [hl],fun x hx=>?_,by simp [zlh],rfl⟩⟩;rcases mem_append.mp hx with hx | hx
  ·exact ha x hx
  ·rw [mem_singleton.mp hx];exact⟨hz _ (getElem_mem i8),h1,h2,h3⟩
 ·rintro _ _ ⟨p,ps,u,hp,hl,ha,rfl,rfl⟩;rw [zap] at hl;walk_at "d";exact q ps p ⟨by omega,by omega,ha⟩ hp
theorem zc4{p:List PyData}{m:Int}(hp:zam p)(m1:0<m)(m8:m<=8)(q:∀ (ps:List Part) p',Drw ps->zam p'->R (.d (zil ps)) [p']):za0 [.l 0,.d (.int m)] [p] R :=
 ze4 (span:=zbE) (names:=zaQ) rfl ze5 zfA hp m1 m8 q
end
section
variable {R:RX} {S:Sto}
abbrev Term:=Nat×Int
structure Gap where
 ts:List Term
 lo:Int
 hi:Int
theorem znj(p:Part):zlh p=.tuple [.str p.1,.int p.2.1,.int p.2.2]:=rfl
def zdq(ns:List Int):PyData:=.tuple (ns.map PyData.int)
def worth(ts:List Term)(ns:List Int):Int:=(ts.map fun t=>t.2*ns.getD t.1 0).sum
theorem zoi{ns:List Int}{k:Nat}(h:k<ns.length):ns[k]? = some (ns.getD k 0):=by
 rw [getElem?_eq_getElem h,getD_eq_getElem?_getD,getElem?_eq_getElem h];rfl
def part(ps:List Part)(k:Nat):Part:=ps.getD k ("",0,0)
theorem zng{ps:List Part}{k:Nat}(h:k<ps.length):ps[k]? = some (part ps k):=by
 unfold part;rw [getElem?_eq_getElem h,getD_eq_getElem?_getD,getElem?_eq_getElem h];rfl
def plo(ps:List Part)(k:Nat):Int:=(part ps k).2.1
def phi(ps:List Part)(k:Nat):Int:=(part ps k).2.2
theorem znq{α:Type}{f:α->PyData}{l:List α}{i:Nat}{d:PyData}(h:(l.map f)[i]? = some d):∃ x,l[i]? = some x/\d=f x:=by
 rw [getElem?_map] at h;obtain⟨x,e,rfl⟩:=Option.map_eq_some_iff.mp h;exact⟨x,e,rfl⟩
theorem znY{ds:List PyData}{r:Int}{P:PyData->Prop}(h0:0<=r)(h1:r<ds.length)(hP:∀ d∈ds,P d):∃ d,atI ds r=some d/\P d:=by
 obtain⟨k,rfl⟩:=Int.eq_ofNat_of_zero_le h0;have hk:k<ds.length:=by omega
 exact⟨ds[k],zbg (getElem?_eq_getElem hk),hP _ (getElem_mem hk)⟩
end
section
variable {R:RX} {S:Sto}
def zoP(g:Gap)(ns:List Int):Bool:=decide (g.lo<=worth g.ts ns/\worth g.ts ns<=g.hi)
structure InBox(ps:List Part)(ns:List Int):Prop where
 len:ns.length=ps.length
 ok:∀ k,k<ps.length->plo ps k<=ns.getD k 0/\ns.getD k 0<=phi ps k
end
section
variable {R:RX} {S:Sto}
def zc8:PyData->Bool
 | .int _=>true
 | _=>false
theorem zgE{d:PyData}(q:R (.d (.bool (zc8 d))) []):zab [.d d] [] R:=by
 unfold zab;cases d <;> (walk_at "e"; exact q)
end
section
variable {R:RX} {S:Sto}
def rng(lo:Int)(n:Nat):List Int:=(List.range n).map fun k:Nat=>lo+k
def zrO(p:Part):List Int:=rng p.2.1 (p.2.2 - p.2.1+1).toNat
def ext(found:List (List Int))(p:Part):List (List Int):=found.flatMap fun a=>(zrO p).map fun x=>a++[x]
theorem zgw{α:Type}{l:List α}{i:Nat}{x:α}(h:l[i]? = some x):l.take (i+1)=l.take i++[x]:=by rw [List.take_add_one,h]; rfl
end
section
variable {R:RX} {S:Sto}
theorem znt{n:Nat}(a:List Int):Shp (n+1) (zdq a):=zgp (zhR fun _ _=>zjT)
end
section
variable {R:RX} {S:Sto}
abbrev Off:=Int×Int×Int
def offer(os:List (List Off))(ks:List Nat)(i:Nat):Off:=(os.getD i []).getD (ks.getD i 0) (0,0,0)
end
section
variable {R:RX} {S:Sto}
def few0(s1 s2 r:Int):Int:=if (r - (s1+2*s2)+2) / 3>0 then (r - (s1+2*s2)+2) / 3 else 0
def few(s1 s2 r:Int):Int:=if s1=0/\(r - few0 s1 s2 r) % 2=1 then few0 s1 s2 r+1 else few0 s1 s2 r
end
section
variable {R:RX}
theorem zaZ{d:PyData}(q:R (.d (.bool (zc8 d))) []):zbh [.d d] [] R:=by
 unfold zbh;cases d <;> (walk_at "e"; exact q)
theorem len2{ds:List PyData}(h:ds.length=2):∃ x y,ds=[x,y]:=by
 match ds,h with
 | [x,y],_=>exact⟨x,y,rfl⟩
theorem Rb{x y:Bool}{S:Sto}(q:R (.d (.bool y)) S)(e:x=y):R (.d (.bool x)) S:=by rw [e]; exact q
def zot:PyData->Bool
 | .int a=>decide (-10 ^ 60<a/\a<10 ^ 60)
 | _=>false
theorem zhC{d:PyData}(q:R (.d (.bool (zot d))) []):zbM [.d d] [] R:=by
 unfold zbM;cases d with
 | int a =>
  walk_at "e";refine zaZ ?_;walk_at "e";have k:(10:Int) ^ 60=1000000000000000000000000000000000000000000000000000000000000:=by decide +kernel
  have e0:zot (.int a)=decide (-10 ^ 60<a/\a<10 ^ 60):=rfl;rw [e0,k] at q;rw [if_pos (show zc8 (.int a)=true from rfl)];refine⟨⟨by decide,by decide,by decide⟩,Rb q ?_⟩;rw [Bool.eq_iff_iff];simp only [decide_eq_true_eq];by_cases h:a<0
  ·rw [if_pos h];omega
  ·rw [if_neg h];omega
 | none=>(walk_at "e"; refine zaZ ?_; walk_at "e"; exact q)
 | bool b=>(walk_at "e"; refine zaZ ?_; walk_at "e"; exact q)
 | tuple b=>(walk_at "e"; refine zaZ ?_; walk_at "e"; exact q)
 | str b=>(walk_at "e"; refine zaZ ?_; walk_at "e"; exact q)
 | list b=>(walk_at "e"; refine zaZ ?_; walk_at "e"; exact q)
 | dict b=>(walk_at "e"; refine zaZ ?_; walk_at "e"; exact q)
theorem zgo{d:PyData}(h:zot d=true):∃ a,d=.int a:=by
 cases d <;> simp [zot] at h ⊢
end
section
variable {R:RX} {S:Sto}
inductive Hs:PyData->Prop
 | tup {ds:List PyData}:(∀ x r,ds=x :: r->SeqAt.shaped x=true)->(∀ y∈ds,Hs y)->Hs (.tuple ds)
 | oth {d:PyData}:(∀ ds,d≠.tuple ds)->Hs d
theorem Hs.hd{x:PyData}{r:List PyData}(h:Hs (.tuple (x :: r))):SeqAt.shaped x=true:=by
 cases h with
 | tup h1 h2=>exact h1 x r rfl
 | oth h=>exact absurd rfl (h _)
theorem Hs.item{ds:List PyData}(h:Hs (.tuple ds)):∀ y∈ds,Hs y:=by
 cases h with
 | tup h1 h2=>exact h2
 | oth h=>exact absurd rfl (h _)
end
section
def fil:List Nat->List (List Int)
 | []=>[[]]
 | s :: r=>(List.range s).flatMap fun k:Nat=>(fil r).map fun z=>(k:Int) :: z
def Bgn:List Nat->List Int->Prop
 | _,[]=>True
 | [],_ :: _=>False
 | s :: r,k :: b=>(0<=k/\k<s)/\Bgn r b
end
section
variable {R:RX} {S:Sto}
abbrev Trm:=Int×Int
def zed(p:Trm):PyData:=.tuple [.int p.1,.int p.2]
def zec(l:List Trm):PyData:=.tuple (l.map zed)
def zdl(tr:List (List Trm)):PyData:=.tuple (tr.map zec)
theorem zcS(p:Trm):zed p=.tuple [.int p.1,.int p.2]:=rfl
theorem zbx(l:List Trm):zec l=.tuple (l.map zed):=rfl
def wys(l:List Trm):List Trm:=(0,0) :: l
def szT(tr:List (List Trm)):List Nat:=tr.map fun l=>l.length+1
def szD(sz:List Nat):PyData:=.list (sz.map fun n:Nat=>.int n)
def way(l:List Trm)(k:Int):Trm:=(wys l).getD k.toNat (0,0)
structure Trs(n:Nat)(tr:List (List Trm)):Prop where
 len:tr.length=n
 l3:∀ l∈tr,l.length<=3
 n8:n<=8
theorem za6{n:Nat}{tr:List (List Trm)}(h:Trs n tr):tr.length<=8:=by have:=h.len; have:=h.n8; omega
theorem zfR{n:Nat}{tr:List (List Trm)}(ht:Trs n tr)(q:R (.d (zdl (tr.map wys))) []):zcN [.d (zdl tr)] [] R:=by
 have h8:=za6 ht;unfold zcN zdl;walk_at "d";refine cmp1 (S0:=[]) (fun l:List Trm=>zec (wys l)) rfl tr (by omega) ?_ ?_
 ·intro l ml u acc R' hk;have:=ht.l3 l ml;rw [zbx];walk_at "d";refine⟨by first | omega | (simp only [length_map]; omega),?_⟩;exact hk _
 ·walk_at "d";unfold zdl at q;rw [map_map] at q;exact q
theorem zkr{n:Nat}{tr:List (List Trm)}(ht:Trs n tr)(q:R (.d (szD (szT tr))) []):zc2 [.d (zdl (tr.map wys))] [] R:=by
 have h8:=za6 ht;unfold zc2 zdl;walk_at "d";rw [map_map];refine cmp1 (S0:=[]) (fun l:List Trm=>.int ((l.length+1:Nat):Int)) rfl tr (by omega) ?_ ?_
 ·intro l ml u acc R' hk;show zn 0 (.d (zec (wys l))) _ _ _;rw [zbx];walk_at "d";have:=hk (some (.d (.tuple ((wys l).map zed))));simpa [wys] using this
 ·walk_at "d";unfold szD szT at q;rw [map_map] at q;exact .inl q
theorem zic:∀ {sz:List Nat} {b:List Int} {i:Nat} {k:Int} {s:Nat},Bgn sz b->b[i]? = some k->sz[i]? = some s->0<=k/\k<s
 | _,[],_,_,_,_,e,_=>by simp at e
 | [],_ :: _,_,_,_,h,_,_=>by cases h
 | s0 :: sz,k0 :: b,0,k,s,h,e1,e2=>by
  simp at e1 e2;subst e1 e2;exact h.1
 | s0 :: sz,k0 :: b,i+1,k,s,h,e1,e2=>zic h.2 (by simpa using e1) (by simpa using e2)
theorem zk2:∀ {sz:List Nat} {b:List Int},Bgn sz b->b.length<=sz.length
 | _,[],_=>zero_le _
 | [],_ :: _,h=>by cases h
 | s :: sz,k :: b,h=>by have:=zk2 h.2; simp; omega
theorem zqd{tr:List (List Trm)}{b:List Int}(hb:Bgn (szT tr) b){i:Nat}{l:List Trm}{k:Int}(h1:tr[i]? = some l)(h2:b[i]? = some k):atI ((wys l).map zed) k=some (zed (way l k)):=by
 have:=zic hb h2 (s:=l.length+1) (by unfold szT; rw [getElem?_map,h1]; rfl);obtain⟨n,rfl⟩:=Int.eq_ofNat_of_zero_le this.1;refine zbg ?_;have hn:n<(wys l).length:=by simp [wys]; omega
 rw [getElem?_map,getElem?_eq_getElem hn];simp [way,getD_eq_getElem?_getD,getElem?_eq_getElem hn]
theorem zc7{n:Nat}{tr:List (List Trm)}{b:List Int}(ht:Trs n tr)(hb:Bgn (szT tr) b)(q:R (.d (.list ((tr.zip b).map fun q=>zed (way q.1 q.2)))) []):zbd [.d (zdl tr),.d (zdq b)] [] R:=by
 have h8:=za6 ht;unfold zbd;walk_at "d";refine zfR ht ?_;unfold zdl zdq;walk_at "d";rw [map_map,zc0];refine cmp2 (S0:=[]) (fun q:List Trm×Int=>zed (way q.1 q.2)) rfl (tr.zip b) (by simp; omega) ?_ ?_
 ·intro x mx u v acc R' hk;obtain⟨i,hi⟩:=mem_iff_getElem?.mp mx;rw [getElem?_zip_eq_some] at hi;have e:=zqd hb hi.1 hi.2;show zdN 2 _ (.d (.tuple [zec (wys x.1),.int x.2])) _ _ _;rw [zbx];walk_at "d";refine⟨_,e,?_⟩;exact hk _ _
 ·walk_at "d";exact .inl q
def prc(tr:List (List Trm))(b:List Int):Int:=((tr.zip b).map fun q=>(way q.1 q.2).2).sum
theorem zeQ{n:Nat}{tr:List (List Trm)}{b:List Int}(ht:Trs n tr)(hb:Bgn (szT tr) b)(q:R (.d (.int (prc tr b))) []):zbm [.d (zdl tr),.d (zdq b)] [] R:=by
 have h8:=za6 ht;unfold zbm;walk_at "d";refine zc7 ht hb ?_;walk_at "d";refine cmp1 (S0:=[]) (fun q:List Trm×Int=>.int (way q.1 q.2).2) rfl (tr.zip b) (by simp; omega) ?_ ?_
 ·intro x mx u acc R' hk;rw [zcS];walk_at "d";exact hk _
 ·walk_at "d";exact⟨_,by rw [map_map]; rfl,q⟩
def fld(ns:List Int)(tr:List (List Trm))(b:List Int):List Int:=(ns.zip (tr.zip b)).map fun q=>q.1 - (way q.2.1 q.2.2).1
theorem zlV{n:Nat}{ns:List Int}{tr:List (List Trm)}{b:List Int}(ht:Trs n tr)(hb:Bgn (szT tr) b)(q:R (.d (zdq (fld ns tr b))) []):zge [.d (zdq ns),.d (zdl tr),.d (zdq b)] [] R:=by
 have h8:=za6 ht;unfold zge;walk_at "d";refine zc7 ht hb ?_;unfold zdq;walk_at "d";rw [zc0];refine cmp2 (S0:=[]) (fun q:Int×(List Trm×Int)=>.int (q.1 - (way q.2.1 q.2.2).1)) rfl (ns.zip (tr.zip b)) (by simp; omega) ?_ ?_
 ·intro x mx u v acc R' hk;show zdN 2 _ (.d (.tuple [.int x.1,zed (way x.2.1 x.2.2)])) _ _ _;rw [zcS];walk_at "d";exact hk _ _
 ·walk_at "d";unfold zdq fld at q;rw [map_map] at q;exact q
theorem zhZ{ns:List Int}{tr:List (List Trm)}{b:List Int}(h1:ns.length=tr.length)(hb:b.length<=tr.length):(fld ns tr b).length=b.length:=by
 simp [fld];omega
theorem zn1{α:Type}{ds:List α}{k:Nat}(h:k<=ds.length):zcZ ds (some (k:Int)) none=ds.drop k:=by
 have e1:HT.sIx ds.length 0 (some (k:Int))=k:=by rw [HT.sIx_nat]; omega
 have e2:HT.sIx ds.length ds.length none=ds.length:=rfl;unfold zcZ;rw [e1,e2,List.take_of_length_le (by simp)]
def Sz(sz:List Nat):Prop:=sz.length<=8/\∀ s∈sz,s<=4
theorem zoI{n:Nat}{tr:List (List Trm)}(ht:Trs n tr):Sz (szT tr):=by
 refine⟨by simp [szT]; exact za6 ht,fun s m=>?_⟩;obtain⟨l,ml,rfl⟩:=mem_map.mp m;have:=ht.l3 l ml;omega
def chN(n:Nat):PyData->Bool
 | .int k=>decide (0<=k/\k<n)
 | _=>false
def bgN(sz:List Nat):PyData->Bool
 | .tuple ds=>decide (ds.length<=sz.length) && ((ds.zip sz).map fun q=>chN q.2 q.1).all id
 | _=>false
theorem zjR{sz:List Nat}{ds:List PyData}:bgN sz (.tuple ds)=(decide (ds.length<=sz.length) && ((ds.zip sz).map fun q=>chN q.2 q.1).all id):=rfl
theorem zhn{d:PyData}(q:R (.d (.bool (zc8 d))) []):zbh [.d d] [] R:=by
 unfold zbh;cases d <;> (walk_at "e"; exact q)
theorem zeg{sz:List Nat}{d:PyData}(hz:Sz sz)(q:R (.d (.bool (bgN sz d))) []):zbk [.d (szD sz),.d d] [] R:=by
 obtain⟨h8,h4⟩:=hz;unfold zbk szD;cases d with
 | tuple ds =>
  walk_at "d"
  walk_at "n"
  by_cases h:ds.length<=sz.length
  ·rw [if_neg (by omega)];walk_at "d";rw [zjR,decide_eq_true h] at q;have ez:zgy ds (sz.map fun n:Nat=>PyData.int n)=(ds.zip sz).map fun q=>.tuple [q.1,.int (q.2:Nat)]:=by
    have:=zc0 (fun d:PyData=>d) (fun n:Nat=>PyData.int n) ds sz
    rwa [map_id'] at this
   rw [ez];refine cmp2 (S0:=[]) (fun q:PyData×Nat=>.bool (chN q.2 q.1)) rfl (ds.zip sz) (by simp; omega) ?_ ?_
   ·intro x mx u v acc R' hk;obtain⟨d,l⟩:=x;walk_at "d";refine zhn ?_;cases d with
    | int k =>
     simp only [zc8];walk_at "d";have e0:chN l (.int k)=decide (0<=k/\k<l):=rfl;by_cases h0:0<=k
     ·rw [if_pos h0];have:=hk (some (.d (.int k))) (some (.d (.int l)));rw [e0] at this;simpa [h0] using this
     ·rw [if_neg h0];have:=hk (some (.d (.int k))) (some (.d (.int l)));rw [e0] at this;simpa [h0] using this
    | none=>exact hk _ _
    | bool b=>exact hk _ _
    | str b=>exact hk _ _
    | list b=>exact hk _ _
    | dict b=>exact hk _ _
    | tuple b=>exact hk _ _
   ·walk_at "d";refine⟨(ds.zip sz).map fun q=>chN q.2 q.1,by rw [map_map]; rfl,?_⟩;exact q
  ·rw [if_pos (by omega)];rw [zjR,decide_eq_false h] at q;exact q
 | none=>(walk_at "d"; walk_at "n"; exact q)
 | bool b=>(walk_at "d"; walk_at "n"; exact q)
 | int b=>(walk_at "d"; walk_at "n"; exact q)
 | str b=>(walk_at "d"; walk_at "n"; exact q)
 | list b=>(walk_at "d"; walk_at "n"; exact q)
 | dict b=>(walk_at "d"; walk_at "n"; exact q)
theorem cmp1dT{n:Nat}{S0:Sto}{g:DG}{te:DE}{fin:Sto->Prop}{caps:XE}(f:PyData->PyData)(hn:S0.length=n)(l:List PyData){u:Option XV}(hl:l.length<=1000)
  (el:∀ x∈l,∀ (u:Option XV) acc (R:XE->RX),(∀ u',R (u' :: caps) (.d (f x)) (S0++[acc]))->g (.d x) (u :: caps) (S0++[acc]) fun τ1 S1=>te τ1 S1 (R τ1)) (hf:fin (S0++[l.map f])):zgz n g zau te fin l (u :: caps) (S0++[[]]):=by
 have:=cmp1 (h:=fun d:PyData=>d) (g:=g) (te:=te) (fin:=fin) (caps:=caps) (u:=u) f hn l hl el hf
 rwa [map_id'] at this
theorem zlr{α:Type}:∀ ds:List α,zcZ ds (some 1) none=ds.tail
 | []=>by
  unfold zcZ;simp
 | x :: r=>by
  have:=zn1 (ds:=x :: r) (k:=1) (by simp);rw [List.drop_one] at this;exact this
theorem Rb'{b c:Bool}{S:Sto}(q:R (.d (.bool b)) S)(e:b=c):R (.d (.bool c)) S:=e▸q
def t2:PyData->Bool
 | .tuple [_,_]=>true
 | _=>false
def sn1:PyData->PyData
 | .tuple [_,b]=>b
 | _=>.none
end
section
variable {R:RX} {S:Sto}
theorem zi7{p:List PyData}{ps:List Part}(hp:zam p)(hd:Drw ps)(q:∀ ns p',InBox ps ns->zam p'->R (.d (zdq ns)) [p']):zdE [.l 0,.d (zil ps)] [p] R:=by
 have l8:=hd.l8;unfold zdE;rw [zil];walk_at "d"
 walk_at "n"
 walk_at "n";refine zaI (fun i δ S=>∃ (p:List PyData) (ns:List Int) (u1 u2 u3 u4:Option XV),S=[p,ns.map PyData.int]/\zam p/\δ=[some (.l 0),some (.d (.tuple (ps.map zlh))),some (.l 1),u1,u2,u3,u4]/\ns.length=i/\∀ j,j<i->plo ps j<=ns.getD j 0/\ns.getD j 0<=phi ps j) ⟨p,[],_,_,_,_,rfl,hp,rfl,rfl,fun j hj=>by omega⟩ ?_ ?_
 ·rintro i d _ _ N hi ⟨p,ns,u1,u2,u3,u4,rfl,hp,rfl,hl,hns⟩ hN;obtain⟨t,ht,rfl⟩:=znq hi;have mt:=mem_of_getElem? ht;have lo:=(hd.all t mt).le;have il:i<ps.length:=(List.getElem?_eq_some_iff.mp ht).1;have et:part ps i=t:=Option.some.inj ((zng il).symm.trans ht);rw [znj];walk_at "d";walk_at "n";refine .inl ⟨⟨by decide,by decide +kernel⟩,?_⟩;walk_at "d";refine⟨⟨by decide,by decide,by decide⟩,?_⟩;refine zw hp dz (by decide +kernel) fun r p1 r0 r1 hp1=>?_;walk_at "d";refine⟨by omega,?_⟩;refine zw hp1 dz (by decide +kernel) fun r' p2 r2 r3 hp2=>?_;have b1:=Int.emod_nonneg r (show t.2.2 - t.2.1+1≠0 by omega);have b2:=Int.emod_lt_of_pos r (show 0<t.2.2 - t.2.1+1 by omega);obtain⟨d,ed,n,rfl,n0,n1⟩:=znY (P:=fun d=>∃ n,d=.int n/\t.2.1<=n/\n<=t.2.2) (ds:=[PyData.int t.2.1,PyData.int t.2.2,PyData.int (t.2.1+(t.2.2 - t.2.1) / 2),PyData.int (if t.2.1+1<t.2.2 then t.2.1+1 else t.2.2),PyData.int (if t.2.2 - 1>t.2.1 then t.2.2 - 1 else t.2.1),PyData.int (t.2.1+r % (t.2.2 - t.2.1+1))]) r2 r3 (by
   intro d m;simp only [mem_cons,not_mem_nil,or_false] at m;rcases m with rfl | rfl | rfl | rfl | rfl | rfl
   ·exact⟨_,rfl,by omega,by omega⟩
   ·exact⟨_,rfl,by omega,by omega⟩
   ·exact⟨_,rfl,by omega,by omega⟩
   ·exact⟨_,rfl,by split <;> omega,by split <;> omega⟩
   ·exact⟨_,rfl,by split <;> omega,by split <;> omega⟩
   ·exact⟨_,rfl,by omega,by omega⟩)
  walk_at "d";refine⟨_,ed,?_⟩;walk_at "d";refine⟨by omega,hN _ _ ⟨p2,ns++[n],_,_,_,_,by simp,hp2,rfl,by simp [hl],fun j hj=>?_⟩⟩;by_cases hji:j<i
  ·have e:(ns++[n]).getD j 0=ns.getD j 0:=by
    rw [getD_eq_getElem?_getD,getD_eq_getElem?_getD,getElem?_append_left (by omega)]
   rw [e];exact hns j hji
  ·have hj2:j=ns.length:=by omega
   subst hj2;have e:(ns++[n]).getD ns.length 0=n:=by
    rw [getD_eq_getElem?_getD,getElem?_concat_length];rfl
   rw [e,hl];unfold plo phi;rw [et];exact⟨n0,n1⟩
 ·rintro _ _ ⟨p,ns,u1,u2,u3,u4,rfl,hp,rfl,hl,hns⟩;rw [length_map] at hl hns;walk_at "d";exact q ns p ⟨hl,hns⟩ hp
end
section
variable {R:RX} {S:Sto}
theorem zbD{d:PyData}(q:R (.d (.bool (zc8 d))) []):zab [.d d] [] R:=by
 unfold zab;cases d <;> (walk_at "e"; exact q)
theorem zj6{α β:Type}:∀ (a:List α) (b:List β) (j:Nat),a.zip (b.take j)=(a.zip b).take j
 | [],b,j=>by simp
 | x :: a,[],j=>by simp
 | x :: a,y :: b,0=>by simp
 | x :: a,y :: b,j+1=>by simp [zj6 a b j]
theorem zl1{tr:List (List Trm)}{b:List Int}{i:Nat}{l:List Trm}{k:Int}(h1:tr[i]? = some l)(h2:b[i]? = some k):prc tr (b.take (i+1))=prc tr (b.take i)+(way l k).2:=by
 unfold prc;rw [zj6,zj6,List.take_add_one,(getElem?_zip_eq_some (z:=(l,k))).mpr ⟨h1,h2⟩];simp
theorem zn6{tr:List (List Trm)}{b:List Int}(hb:Bgn (szT tr) b){i:Nat}{l:List Trm}{k:Int}(h1:tr[i]? = some l)(h2:b[i]? = some k):atI (PyData.int 0 :: l.map fun p=>PyData.int p.2) k=some (.int (way l k).2):=by
 have:=zic hb h2 (s:=l.length+1) (by unfold szT; rw [getElem?_map,h1]; rfl);obtain⟨n,rfl⟩:=Int.eq_ofNat_of_zero_le this.1;refine zbg ?_;have hn:n<(wys l).length:=by simp [wys]; omega
 have e:(PyData.int 0 :: l.map fun p=>PyData.int p.2)=(wys l).map fun p=>PyData.int p.2:=rfl;rw [e,getElem?_map,getElem?_eq_getElem hn];simp [way,getD_eq_getElem?_getD,getElem?_eq_getElem hn]
theorem zeV{n:Nat}{tr:List (List Trm)}{b:List Int}(ht:Trs n tr)(hb:Bgn (szT tr) b)(q:R (.d (.int (prc tr b))) []):zaJ [.d (zdl tr),.d (zdq b)] [] R:=by
 have h8:=za6 ht;have bl:=zk2 hb;have bl':b.length<=tr.length:=by simpa [szT] using bl
 unfold zaJ;walk_at "d"
 walk_at "n"
 walk_at "n"
 refine⟨b.length,by unfold zdq; walk_at "d",?_⟩;refine zaI (fun i δ S=>∃ (u:Option XV),S=[]/\δ=[some (.d (zdl tr)),some (.d (zdq b)),some (.d (.int (prc tr (b.take i)))),u]) ⟨none,rfl,by simp [prc]⟩ ?_ ?_
 ·rintro i d _ _ N hi ⟨u,rfl,rfl⟩ hN;obtain⟨hi',rfl⟩:=zbr hi;have hi8:i<b.length:=by simpa using hi'
  have hb1:=getElem?_eq_getElem hi8;have ht1:=getElem?_eq_getElem (show i<tr.length by omega);have e1:atI (tr.map zec) (i:Int)=some (zec tr[i]):=zb5 ht1;have l3:=ht.l3 _ (getElem_mem (show i<tr.length by omega));unfold zdl zdq;simp only [Int.zero_add];walk_at "d";refine⟨_,e1,?_⟩;rw [zbx];walk_at "d";refine cmp2 (S0:=[]) (fun p:Trm=>.int p.2) rfl tr[i] (by omega) ?_ ?_
  ·intro x mx u v acc R' hk;rw [zcS];walk_at "d";exact hk _ _
  walk_at "d";refine⟨by omega,_,zb5 hb1,?_⟩;walk_at "d";refine⟨_,zn6 hb ht1 hb1,?_⟩;walk_at "d";refine hN _ _ ⟨some (.d (.int i)),rfl,?_⟩;rw [zl1 ht1 hb1];rfl
 ·rintro _ _ ⟨u,rfl,rfl⟩;rw [zap,Int.toNat_natCast,List.take_length];walk_at "d";exact q
end
section
variable {R:RX} {S:Sto}
theorem zkf{α:Type}{l:List α}{n:Nat}{x:α}(h:l[n]? = some x):l.drop n=x :: l.drop (n+1):=by
 obtain⟨hn,e⟩:=List.getElem?_eq_some_iff.mp h;rw [drop_eq_getElem_cons hn,e]
end
section
variable {R:RX} {S:Sto}
def Rsg(l:List Trm):Prop:=∀ i j:Nat,i<=j->j<=l.length->(way l i).1<=(way l j).1/\(way l i).2<=(way l j).2
theorem zh6{l:List Trm}{x:Trm}{i:Nat}(h:i<=l.length):way (l++[x]) i=way l i:=by
 unfold way wys;rw [Int.toNat_natCast,<- cons_append,getD_eq_getElem?_getD,getD_eq_getElem?_getD,getElem?_append_left (by simp; omega)]
theorem zgu{l:List Trm}{x:Trm}:way (l++[x]) ((l.length+1:Nat):Int)=x:=by
 unfold way wys;rw [Int.toNat_natCast,<- cons_append,getD_eq_getElem?_getD,getElem?_append_right (by simp)];simp
theorem zlm(l:List Trm):way l ((0:Nat):Int)=(0,0):=rfl
theorem znX:Rsg []:=fun i j h1 h2=>by
 have:i=j:=by simp at h2; omega
 subst this;exact⟨Int.le_refl _,Int.le_refl _⟩
theorem zly{l:List Trm}{x:Trm}(h:Rsg l)(hx:(way l l.length).1<=x.1/\(way l l.length).2<=x.2):Rsg (l++[x]):=fun i j h1 h2=>by
 rw [length_append,length_singleton] at h2;by_cases hj:j<=l.length
 ·rw [zh6 (by omega),zh6 hj];exact h i j h1 hj
 ·have ej:j=l.length+1:=by omega
  subst ej;rw [zgu];by_cases hi:i<=l.length
  ·rw [zh6 hi];have:=h i l.length hi (le_refl _);omega
  ·have ei:i=l.length+1:=by omega
   subst ei;rw [zgu];exact⟨Int.le_refl _,Int.le_refl _⟩
structure TrR(n:Nat)(tr:List (List Trm)):Prop extends Trs n tr where
 up:∀ l∈tr,Rsg l
theorem zem{p:List PyData}{ps:List Part}(hp:zam p)(hd:Drw ps)(q:∀ tr p',TrR ps.length tr->zam p'->R (.d (zdl tr)) [p']):zbl [.l 0,.d (zil ps)] [p] R:=by
 have l8:=hd.l8;unfold zbl;rw [zil];walk_at "d"
 walk_at "n"
 walk_at "n"
 refine zaI (fun i δ S=>∃ (p:List PyData) (tr:List (List Trm)) (T:Sto) (u3 u4 u5 u6 u7:Option XV),S=p :: tr.map zec :: T/\zam p/\tr.length=i/\(∀ l∈tr,l.length<=3/\Rsg l)/\δ=[some (.l 0),some (.d (.tuple (ps.map zlh))),some (.l 1),u3,u4,u5,u6,u7]) ⟨p,[],[],none,none,none,none,none,rfl,hp,rfl,by simp,rfl⟩ ?_ ?_
 ·rintro i d _ _ N hi ⟨p,tr,T,u3,u4,u5,u6,u7,rfl,hp,htl,htr,rfl⟩ hN;have il:i<ps.length:=by
   have:=(List.getElem?_eq_some_iff.mp hi).1;simpa using this
  walk_at "d"
  walk_at "n"
  walk_at "n"
  walk_at "n"
  walk_at "n"
  refine zw hp dz (by decide +kernel) fun r p1 r0 r1 hp1=>?_;walk_at "d";refine zaI (fun j δ S=>∃ (p:List PyData) (row:List Trm) (m pr:Int) (u7:Option XV),S=p :: tr.map zec :: (T++[row.map zed])/\zam p/\row.length=j/\Rsg row/\way row row.length=(m,pr)/\δ=[some (.l 0),some (.d (.tuple (ps.map zlh))),some (.l 1),some (.d d),some (.l (T.length+1+1)),some (.d (.int m)),some (.d (.int pr)),u7]) ⟨p1,[],0,0,_,rfl,hp1,rfl,znX,rfl,rfl⟩ ?_ ?_
  ·rintro j e _ _ N hj ⟨p,row,m,pr,u7,rfl,hp,hrow,hsg,hlast,rfl⟩ hN;obtain⟨hj',rfl⟩:=zbr hj;walk_at "d"
   walk_at "n"
   refine⟨⟨by decide,by decide,by decide⟩,?_⟩;refine zw hp dz (by decide +kernel) fun r2 p2 r20 r21 hp2=>?_;obtain⟨d2,ed2,n2,rfl,n20,n21⟩:=znY (P:=fun d=>∃ n:Int,d=.int n/\0<n/\n.natAbs.log2<9000) (ds:=[PyData.int 3,.int 3,.int 3,.int ((10:Int) ^ (20:Int).toNat)]) r20 (by simpa using r21) (by
    intro d m;simp only [mem_cons,not_mem_nil,or_false] at m;rcases m with rfl | rfl | rfl | rfl
    ·exact⟨3,rfl,by decide,by decide +kernel⟩
    ·exact⟨3,rfl,by decide,by decide +kernel⟩
    ·exact⟨3,rfl,by decide,by decide +kernel⟩
    ·exact⟨_,rfl,by decide,by decide +kernel⟩)
   walk_at "d";refine⟨_,ed2,?_⟩;refine zw hp2 n20 n21 fun r3 p3 r30 r31 hp3=>?_;walk_at "d"
   walk_at "n"
   refine zw hp3 dz (by decide +kernel) fun r4 p4 r40 r41 hp4=>?_;have gl:(T++[row.map zed])[T.length]? = some (row.map zed):=by simp
   have sl:∀ x,(T++[row.map zed]).set T.length x=T++[x]:=fun x=>by simp
   walk_at "d";refine⟨by omega,row.map zed,gl,by simp; omega,?_⟩;rw [sl];refine hN _ _ ⟨p4,row++[(m+1+r3,pr+1+r4)],_,_,_,by simp [zed],hp4,by simp [hrow],zly hsg ?_,?_,rfl⟩
   ·rw [hlast];constructor
    ·show m<=m+1+r3;omega
    ·show pr<=pr+1+r4;omega
   ·rw [length_append,length_singleton];exact zgu
  ·rintro _ _ ⟨p,row,m,pr,u7,rfl,hp,hrow,hsg,hlast,rfl⟩;rw [zap] at hrow;walk_at "d";refine⟨by omega,_,by simp; rfl,by omega,hN _ _ ⟨p,tr++[row],_,_,_,_,_,_,by simp [zec]; rfl,hp,by simp [htl],fun l ml=>?_,rfl⟩⟩;rcases mem_append.mp ml with ml | ml
   ·exact htr l ml
   ·rw [mem_singleton.mp ml];exact⟨by omega,hsg⟩
 ·rintro _ _ ⟨p,tr,T,u3,u4,u5,u6,u7,rfl,hp,htl,htr,rfl⟩;walk_at "d";exact q tr p ⟨⟨by simpa using htl,fun l m=>(htr l m).1,l8⟩,fun l m=>(htr l m).2⟩ hp
theorem zpa{ns:List Int}{tr:List (List Trm)}{z:List Int}{i:Nat}{x k:Int}{l:List Trm}(e1:ns[i]? = some x)(e2:tr[i]? = some l)(e3:z[i]? = some k):(fld ns tr z).getD i 0=x - (way l k).1:=by
 unfold fld;rw [getD_eq_getElem?_getD,getElem?_map,(getElem?_zip_eq_some (z:=(x,(l,k)))).mpr ⟨e1,(getElem?_zip_eq_some (z:=(l,k))).mpr ⟨e2,e3⟩⟩];rfl
section
variable {n:Nat} {ps:List Part} {gs:List Gap} {ns:List Int} {tr:List (List Trm)} {price:Int}
def zqL(gs:List Gap)(ms:List Int):Bool:=gs.all fun g=>zoP g ms
end
theorem zga{n:Nat}{ns:List Int}{tr:List (List Trm)}{b:List Int}(ht:Trs n tr)(hb:Bgn (szT tr) b)(h1:ns.length=tr.length)(hbl:b.length=tr.length)(q:R (.d (zdq (fld ns tr b))) []):zeY [.d (zdq ns),.d (zdl tr),.d (zdq b)] [] R:=by
 have h8:=za6 ht;unfold zeY zdq;walk_at "d"
 walk_at "n"
 walk_at "n"
 refine zaI (fun i δ S=>∃ (ms:List Int) (u:Option XV),S=[ms.map PyData.int]/\ms=(fld ns tr b).take i++ns.drop i/\δ=[some (.d (.tuple (ns.map PyData.int))),some (.d (zdl tr)),some (.d (.tuple (b.map PyData.int))),some (.l 0),u]) ⟨ns,none,rfl,by simp,rfl⟩ ?_ ?_
 ·rintro i d _ _ N hi ⟨ms,u,rfl,hms,rfl⟩ hN;obtain⟨hi',rfl⟩:=zbr hi;have hi8:i<b.length:=by simpa using hi'
  have eb:=getElem?_eq_getElem hi8;have et:=getElem?_eq_getElem (show i<tr.length by omega);have inl:i<ns.length:=by omega
  have en:=getElem?_eq_getElem inl;have fl:=zhZ (ns:=ns) (tr:=tr) (b:=b) h1 (by omega);have em:ms[i]? = some (ns[i]'inl):=by
   rw [hms,getElem?_append_right (by simp; omega),length_take,List.getElem?_drop,show i+(i - min i (fld ns tr b).length)=i by omega];exact en
  have ml:ms.length=ns.length:=by rw [hms]; simp; omega
  have bb:=zic hb eb (s:=(tr[i]'(by omega)).length+1) (by unfold szT; rw [getElem?_map,et]; rfl);have ef:=zpa en et eb;have nx:∀ x:Int,x=(fld ns tr b).getD i 0->ms.set i x=(fld ns tr b).take (i+1)++ns.drop (i+1):=fun x ex=>by
   have e1:(fld ns tr b)[i]? = some x:=by rw [ex]; exact zoi (by omega)
   rw [hms,List.set_append_right _ _ (by simp; omega),length_take,show i - min i (fld ns tr b).length=0 by omega,zkf en,set_cons_zero,zgw e1,append_assoc];rfl
  rw [Int.zero_add];walk_at "d";refine⟨_,zb5 eb,?_⟩;walk_at "d";by_cases h0:0<b[i]
  ·rw [if_pos h0];unfold zdl;walk_at "d";obtain⟨c,hc⟩:=Int.eq_ofNat_of_zero_le bb.1;have hm:c - 1<(tr[i]'(by omega)).length:=by omega
   have e:(c:Int) - 1=((c - 1:Nat):Int):=by omega
   refine⟨_,zb5 em,_,zb5 et,_,zb5 eb,?_⟩;rw [hc,zbx];walk_at "d";rw [e];refine⟨_,zb5 (getElem?_eq_getElem hm),?_⟩;rw [zcS];walk_at "d";refine⟨i,by unfold ixN; rw [if_pos (by omega),if_pos (by simp; omega)]; simp,?_⟩;rw [<- List.map_set];refine hN _ _ ⟨ms.set i _,_,rfl,nx _ ?_,rfl⟩;rw [ef,hc];congr 2;unfold way wys;rw [Int.toNat_natCast,getD_eq_getElem?_getD];obtain⟨c',rfl⟩:∃ c',c=c'+1:=⟨c - 1,by omega⟩;rw [getElem?_cons_succ,getElem?_eq_getElem (by omega)];rfl
  ·rw [if_neg h0];refine hN _ _ ⟨ms.set i (ns[i]'inl),_,?_,nx _ ?_,rfl⟩
   ·have:ms.set i (ns[i]'inl)=ms:=by
     obtain⟨hh,e⟩:=List.getElem?_eq_some_iff.mp em;rw [<- e];exact List.set_getElem_self hh
    rw [this]
   ·rw [ef,show b[i]=((0:Nat):Int) by omega,zlm];omega
 ·rintro _ _ ⟨ms,u,rfl,hms,rfl⟩;walk_at "d";have fl:=zhZ (ns:=ns) (tr:=tr) (b:=b) h1 (by omega);rw [zap] at hms;have e:ms=fld ns tr b:=by
   rw [hms,List.take_of_length_le (by simp; omega),List.drop_of_length_le (by simp; omega),append_nil]
  rw [e];exact q
end
section
variable {R:RX} {S:Sto}
def zoo(gs:List Gap)(ns:List Int)(tr:List (List Trm)):List (List Int):=(fil (szT tr)).filter fun z=>zqL gs (fld ns tr z)
def oD:Option Int->PyData
 | none=>.none
 | some m=>.int m
def IsL(gs:List Gap)(ns:List Int)(tr:List (List Trm)):Option Int->Prop
 | none=>zoo gs ns tr=[]
 | some m=>(∃ z∈zoo gs ns tr,prc tr z=m)/\∀ z∈zoo gs ns tr,m<=prc tr z
end
section
variable {R:RX} {S:Sto}
def zq7(C:Addr):Str:=if C=37 then "span" else if C=49 then "part" else if C=61 then "set" else if C=161 then "text" else if C=73 then "row" else if C=85 then "unlike" else if C=104 then "drawing" else if C=123 then "gap" else if C=142 then "offer" else "great"
theorem zlf{C D:Addr}{fs:List (Str×PyData)}(hC:C∈excs)(hD:D∈excs)(q:R (.d (.bool (decide (C=D)))) S):zit [.x C fs,.o (.ref D)] S R:=⟨C,fs,_,rfl,rfl,hC,.inl ⟨D,rfl,hD,q⟩⟩
theorem zrJ{C:Addr}{fs:List (Str×PyData)}(hC:C∈excs)(q:R (.d (.bool true)) S):zit [.x C fs,.o (.ty "ValueError")] S R:=⟨C,fs,_,rfl,rfl,hC,.inr ⟨rfl,q⟩⟩
theorem zhO{C:Addr}{fs:List (Str×PyData)}(hC:C∈excs)(q:R (.d (.str (zq7 C))) []):zcY [.x C fs] [] R:=by
 unfold zcY;walk_at "d"
 walk_at "n"
 refine zlf hC dz ?_;walk_at "d";refine zlf hC dz ?_;walk_at "d";refine zlf hC dz ?_;walk_at "d";refine zlf hC dz ?_;walk_at "d"
 walk_at "n"
 refine zlf hC dz ?_;walk_at "d";refine zlf hC dz ?_;walk_at "d";refine zlf hC dz ?_;walk_at "d";refine zlf hC dz ?_;walk_at "d"
 walk_at "n"
 refine zlf hC dz ?_;walk_at "d";refine zlf hC dz ?_;walk_at "d"
 walk_at "n"
 refine zrJ hC ?_;walk_at "d";refine⟨[decide (C=37),decide (C=49),decide (C=61),decide (C=161),decide (C=73),decide (C=85),decide (C=104),decide (C=123),decide (C=142),decide (C=180)],rfl,?_⟩;have sh:∀ bs:List Bool,SeqAt.shaped (.list (bs.map PyData.bool))=true:=fun bs=>(ziA (zhR fun _ _=>(zie:Shp 0 _))).ok;simp only [excs,mem_cons,not_mem_nil,or_false] at hC;rcases hC with rfl | rfl | rfl | rfl | rfl | rfl | rfl | rfl | rfl | rfl
 ·rw [if_neg dz]
  walk_at "n"
  exact⟨sh [true,false,false,false,false,false,false,false,false,false],0,⟨_,rfl,rfl⟩,(fun m e hm he=>by rcases m with _ | _ | _ | _ | _ | _ | _ | _ | _ | m <;> first | (exfalso; omega) | (cases he; rfl)),_,rfl,q⟩
 ·rw [if_neg dz]
  walk_at "n"
  exact⟨sh [false,true,false,false,false,false,false,false,false,false],1,⟨_,rfl,rfl⟩,(fun m e hm he=>by rcases m with _ | _ | _ | _ | _ | _ | _ | _ | _ | m <;> first | (exfalso; omega) | (cases he; rfl)),_,rfl,q⟩
 ·rw [if_neg dz]
  walk_at "n"
  exact⟨sh [false,false,true,false,false,false,false,false,false,false],2,⟨_,rfl,rfl⟩,(fun m e hm he=>by rcases m with _ | _ | _ | _ | _ | _ | _ | _ | _ | m <;> first | (exfalso; omega) | (cases he; rfl)),_,rfl,q⟩
 ·rw [if_neg dz]
  walk_at "n"
  exact⟨sh [false,false,false,false,true,false,false,false,false,false],4,⟨_,rfl,rfl⟩,(fun m e hm he=>by rcases m with _ | _ | _ | _ | _ | _ | _ | _ | _ | m <;> first | (exfalso; omega) | (cases he; rfl)),_,rfl,q⟩
 ·rw [if_neg dz]
  walk_at "n"
  exact⟨sh [false,false,false,false,false,true,false,false,false,false],5,⟨_,rfl,rfl⟩,(fun m e hm he=>by rcases m with _ | _ | _ | _ | _ | _ | _ | _ | _ | m <;> first | (exfalso; omega) | (cases he; rfl)),_,rfl,q⟩
 ·rw [if_neg dz]
  walk_at "n"
  exact⟨sh [false,false,false,false,false,false,true,false,false,false],6,⟨_,rfl,rfl⟩,(fun m e hm he=>by rcases m with _ | _ | _ | _ | _ | _ | _ | _ | _ | m <;> first | (exfalso; omega) | (cases he; rfl)),_,rfl,q⟩
 ·rw [if_neg dz]
  walk_at "n"
  exact⟨sh [false,false,false,false,false,false,false,true,false,false],7,⟨_,rfl,rfl⟩,(fun m e hm he=>by rcases m with _ | _ | _ | _ | _ | _ | _ | _ | _ | m <;> first | (exfalso; omega) | (cases he; rfl)),_,rfl,q⟩
 ·rw [if_neg dz]
  walk_at "n"
  exact⟨sh [false,false,false,false,false,false,false,false,true,false],8,⟨_,rfl,rfl⟩,(fun m e hm he=>by rcases m with _ | _ | _ | _ | _ | _ | _ | _ | _ | m <;> first | (exfalso; omega) | (cases he; rfl)),_,rfl,q⟩
 ·rw [if_neg dz]
  walk_at "n"
  exact⟨sh [false,false,false,true,false,false,false,false,false,false],3,⟨_,rfl,rfl⟩,(fun m e hm he=>by rcases m with _ | _ | _ | _ | _ | _ | _ | _ | _ | m <;> first | (exfalso; omega) | (cases he; rfl)),_,rfl,q⟩
 ·rw [if_neg dz]
  walk_at "n"
  exact⟨sh [false,false,false,false,false,false,false,false,false,true],9,⟨_,rfl,rfl⟩,(fun m e hm he=>by rcases m with _ | _ | _ | _ | _ | _ | _ | _ | _ | m <;> first | (exfalso; omega) | (cases he; rfl)),_,rfl,q⟩
end
section
variable {R:RX} {S:Sto} {EX:EXD}
def n1B:PyData->Bool
 | .int k=>decide (1<=k)
 | _=>false
def zgX(d:PyData):Bool:=zot d && n1B d
def tmB:PyData->Bool
 | .tuple [a,b]=>zgX a && zgX b
 | _=>false
theorem zq4(a b:PyData):tmB (.tuple [a,b])=(zgX a && zgX b):=rfl
theorem zhN{d:PyData}{T:RX}(q:T (.d (.bool (zgX d))) S):zcd (zan 1 zbM (zb (zi 0) zo)) (dOp (dIb fun i j=>decide (j<=i)) (zi 0) (dC (.int 1))) [some (.d d)] S T:=by
 walk_at "d";refine zhC ?_;unfold zgX at q;cases hn:zot d with
 | false =>
  walk_at "d";rw [hn] at q;exact q
 | true =>
  obtain⟨k,rfl⟩:=zgo hn;rw [hn] at q;walk_at "d";exact q
theorem zjj{d:PyData}(q:R (.d (.bool (tmB d))) []):zdC [.d d] [] R:=by
 unfold zdC;cases d with
 | tuple ds =>
  walk_at "d";walk_at "n"
  match ds,q with
  | [x,y],q =>
   rw [zq4] at q;walk_at "d";refine cmp1dT (S0:=[]) (fun d=>.bool (zgX d)) rfl [x,y] (by simp) ?_ ?_
   ·intro c mc u acc R' hk;exact zhN (hk _)
   ·walk_at "d";refine⟨[zgX x,zgX y],rfl,?_⟩;exact Rb q (by simp)
  | [],q=>(walk_at "d"; exact q)
  | [x],q=>(walk_at "d"; exact q)
  | x :: y :: z :: r,q =>
   walk_at "d";rw [if_pos (by omega)];exact q
 | none=>(walk_at "d"; walk_at "n"; exact q)
 | bool b=>(walk_at "d"; walk_at "n"; exact q)
 | int b=>(walk_at "d"; walk_at "n"; exact q)
 | str b=>(walk_at "d"; walk_at "n"; exact q)
 | list b=>(walk_at "d"; walk_at "n"; exact q)
 | dict b=>(walk_at "d"; walk_at "n"; exact q)
def trT:PyData->Trm
 | .tuple [.int a,.int b]=>(a,b)
 | _=>(0,0)
theorem znk{d:PyData}(h:tmB d=true):d=zed (trT d):=by
 match d,h with
 | .tuple [a,b],h =>
  rw [zq4,Bool.and_eq_true] at h;unfold zgX at h;rw [Bool.and_eq_true,Bool.and_eq_true] at h;obtain⟨i,rfl⟩:=zgo h.1.1;obtain⟨j,rfl⟩:=zgo h.2.1;rfl
theorem ziI:∀ {ds:List PyData},ds.all tmB=true->ds=(ds.map trT).map zed
 | [],_=>rfl
 | d :: ds,h=>by
  rw [all_cons,Bool.and_eq_true] at h;rw [map_cons,map_cons,<- znk h.1,<- ziI h.2]
def upT(p q:Trm):Bool:=decide (p.1<q.1) && decide (p.2<q.2)
def riB(ts:List Trm):Bool:=(ts.zip ts.tail).all fun p=>upT p.1 p.2
theorem zjY{ts:List Trm}:riB ts=true↔∀ j p r,ts[j]? = some p->ts[j+1]? = some r->upT p r=true:=by
 unfold riB;rw [all_eq_true];constructor
 ·intro h j p r ep er;refine h (p,r) (mem_of_getElem? (i:=j) ?_);rw [getElem?_zip_eq_some];exact⟨ep,by rw [List.getElem?_tail]; exact er⟩
 ·rintro h ⟨p,r⟩ m;obtain⟨j,e⟩:=mem_iff_getElem?.mp m;rw [getElem?_zip_eq_some,List.getElem?_tail] at e;exact h j p r e.1 e.2
def zld:PyData->Bool
 | .tuple ds=>decide (ds.length<=3) && (ds.all tmB && riB (ds.map trT))
 | _=>false
theorem zqI(ds:List PyData):zld (.tuple ds)=(decide (ds.length<=3) && (ds.all tmB && riB (ds.map trT))):=rfl
theorem zg0{d:PyData}(q:R (.d (.bool (zld d))) []):zcr [.d d] [] R:=by
 unfold zcr;cases d with
 | tuple ds =>
  rw [zqI] at q;walk_at "d";walk_at "n";by_cases h1:ds.length<=3
  ·rw [if_neg (by omega)];rw [decide_eq_true h1,Bool.true_and] at q;refine cmp1dT (S0:=[]) (fun d=>.bool (tmB d)) rfl ds (by omega) ?_ ?_
   ·intro c mc u acc R' hk;walk_at "d";refine zjj ?_;walk_at "d";exact hk _
   ·walk_at "d";refine⟨ds.map tmB,by rw [map_map]; rfl,?_⟩;rw [all_map,show ds.all (id∘tmB)=ds.all tmB from rfl];cases ha:ds.all tmB with
    | false =>
     rw [ha] at q;exact q
    | true =>
     rw [ha,Bool.true_and] at q;have ef:=ziI ha;have el:(ds.map trT).length=ds.length:=length_map _;generalize ds.map trT=ts at ef q el;subst ef;walk_at "d";rw [zlr,<- List.map_tail,zc0];refine cmp2 (S0:=[]) (fun p:Trm×Trm=>.bool (upT p.1 p.2)) rfl (ts.zip ts.tail) (by simp; omega) ?_ ?_
     ·intro p mp u v acc R' hk;rw [zcS,zcS];unfold upT at hk;walk_at "d";by_cases h:p.1.1<p.2.1
      ·rw [if_pos h];rw [decide_eq_true h,Bool.true_and] at hk;exact hk _ _
      ·rw [if_neg h];rw [decide_eq_false h,Bool.false_and] at hk;exact hk _ _
     ·walk_at "d";refine⟨(ts.zip ts.tail).map fun p=>upT p.1 p.2,by rw [map_map]; rfl,?_⟩;rw [all_map];exact q
  ·rw [decide_eq_false h1,Bool.false_and] at q;rw [if_pos (by omega)];exact q
 | none=>(walk_at "d"; walk_at "n"; exact q)
 | bool b=>(walk_at "d"; walk_at "n"; exact q)
 | int b=>(walk_at "d"; walk_at "n"; exact q)
 | str b=>(walk_at "d"; walk_at "n"; exact q)
 | list b=>(walk_at "d"; walk_at "n"; exact q)
 | dict b=>(walk_at "d"; walk_at "n"; exact q)
theorem zeF{d:PyData}{T:RX}(q:T (.d (.bool (zgX d))) S):zcd (zan 1 zab (zb (zi 0) zo)) (zfg (dIb fun i j=>decide (i<j)) (dIb fun i j=>decide (i<j)) (dC (.int 0)) (zi 0) (dOp (dI CPow fun i j=>i ^ j.toNat) (dC (.int 10)) (dC (.int 60)))) [some (.d d)] S T:=by
 walk_at "d";refine zbD ?_;cases hw:zc8 d with
 | false =>
  walk_at "d";have:zgX d=false:=by
   unfold zgX;cases d <;> first | rfl | cases hw
  rw [this] at q;exact q
 | true =>
  obtain⟨k,rfl⟩:∃ k,d=.int k:=by cases d <;> first | exact⟨_,rfl⟩ | cases hw
  have k60:(10:Int) ^ 60=1000000000000000000000000000000000000000000000000000000000000:=by decide +kernel
  have e:zgX (.int k)=(decide (0<k) && decide (k<1000000000000000000000000000000000000000000000000000000000000)):=by
   show (decide (-10 ^ 60<k/\k<10 ^ 60) && decide (1<=k))=_;rw [k60,Bool.eq_iff_iff];simp only [Bool.and_eq_true,decide_eq_true_eq];omega
  rw [e] at q;walk_at "d";by_cases h:0<k
  ·rw [if_pos h];rw [decide_eq_true h,Bool.true_and] at q;exact⟨⟨by decide,by decide,by decide⟩,q⟩
  ·rw [if_neg h];rw [decide_eq_false h,Bool.false_and] at q;exact q
theorem ze2{d:PyData}(q:R (.d (.bool (tmB d))) []):zbn [.d d] [] R:=by
 unfold zbn;cases d with
 | tuple ds =>
  walk_at "d";walk_at "n"
  match ds,q with
  | [x,y],q =>
   rw [zq4] at q;walk_at "d";refine cmp1dT (S0:=[]) (fun d=>.bool (zgX d)) rfl [x,y] (by simp) ?_ ?_
   ·intro c mc u acc R' hk;exact zeF (hk _)
   ·walk_at "d";refine⟨[zgX x,zgX y],rfl,?_⟩;exact Rb q (by simp)
  | [],q=>(walk_at "d"; exact q)
  | [x],q=>(walk_at "d"; exact q)
  | x :: y :: z :: r,q =>
   walk_at "d";rw [if_pos (by omega)];exact q
 | none=>(walk_at "d"; walk_at "n"; exact q)
 | bool b=>(walk_at "d"; walk_at "n"; exact q)
 | int b=>(walk_at "d"; walk_at "n"; exact q)
 | str b=>(walk_at "d"; walk_at "n"; exact q)
 | list b=>(walk_at "d"; walk_at "n"; exact q)
 | dict b=>(walk_at "d"; walk_at "n"; exact q)
theorem zdX{d:PyData}(q:R (.d (.bool (zld d))) []):zaW [.d d] [] R:=by
 unfold zaW;cases d with
 | tuple ds =>
  rw [zqI] at q;walk_at "d";walk_at "n";by_cases h1:ds.length<=3
  ·rw [if_neg (by omega)];rw [decide_eq_true h1,Bool.true_and] at q;refine cmp1dT (S0:=[]) (fun d=>.bool (tmB d)) rfl ds (by omega) ?_ ?_
   ·intro c mc u acc R' hk;walk_at "d";refine ze2 ?_;walk_at "d";exact hk _
   ·walk_at "d";refine⟨ds.map tmB,by rw [map_map]; rfl,?_⟩;rw [all_map,show ds.all (id∘tmB)=ds.all tmB from rfl];cases ha:ds.all tmB with
    | false =>
     rw [ha] at q;exact q
    | true =>
     rw [ha,Bool.true_and] at q;have ef:=ziI ha;have el:(ds.map trT).length=ds.length:=length_map _;generalize ds.map trT=ts at ef q el;subst ef;rw [if_neg dz];walk_at "n";refine zaI (fun i δ S=>∃ (u:Option XV),S=[]/\(∀ j p r,j<i->ts[j]? = some p->ts[j+1]? = some r->upT p r=true)/\δ=[some (.d (.tuple (ts.map zed))),u]) ⟨_,rfl,fun j p r h=>(by omega),rfl⟩ ?_ ?_
     ·rintro i d _ _ N hi ⟨u,rfl,hu,rfl⟩ hN;obtain⟨hi',rfl⟩:=zbr hi;have i1:i+1<ts.length:=by omega
      have i0:i<ts.length:=by omega
      have ea:atI (ts.map zed) (i:Int)=some (zed ts[i]):=zb5 (getElem?_eq_getElem i0);have eo:atI (ts.map zed) ((i:Int)+1)=some (zed ts[i+1]):=by
       rw [show (i:Int)+1=((i+1:Nat):Int) by omega];exact zb5 (getElem?_eq_getElem i1)
      have e1:=getElem?_eq_getElem i0;have e2:=getElem?_eq_getElem i1;generalize ts[i]=a at ea e1;generalize ts[i+1]=o at eo e2;have Q:upT a o=false->R (.d (.bool false)) []:=fun h=>Rb q (by
       symm
       rw [Bool.eq_false_iff];intro hr;rw [zjY] at hr;rw [hr i a o e1 e2] at h;cases h)
      rw [zcS] at ea eo;rw [Int.zero_add];walk_at "d";refine⟨_,ea,?_⟩;walk_at "d";refine⟨_,eo,?_⟩;walk_at "d";unfold upT at Q;split
      ·rename_i h;exact Q (by rw [decide_eq_false (by omega)]; rfl)
      ·rename_i h3;refine⟨_,ea,?_⟩;walk_at "d";refine⟨_,eo,?_⟩;walk_at "d";split
       ·rename_i h;exact Q (by rw [Bool.and_eq_false_iff]; exact .inr (decide_eq_false (by omega)))
       ·rename_i h4;refine hN _ _ ⟨_,rfl,fun j p r hj ep er=>?_,rfl⟩;by_cases hji:j<i
        ·exact hu j p r hji ep er
        ·have:j=i:=by omega
         subst this;rw [e1] at ep;rw [e2] at er;cases ep;cases er;unfold upT;rw [Bool.and_eq_true,decide_eq_true_eq,decide_eq_true_eq];omega
     ·rintro _ _ ⟨u,rfl,hu,rfl⟩;walk_at "d";refine Rb q ?_
      symm
      rw [zjY];intro j p r ep er;have:=(List.getElem?_eq_some_iff.mp er).1;exact hu j p r (by rw [zap]; omega) ep er
  ·rw [decide_eq_false h1,Bool.false_and] at q;rw [if_pos (by omega)];exact q
 | none=>(walk_at "d"; walk_at "n"; exact q)
 | bool b=>(walk_at "d"; walk_at "n"; exact q)
 | int b=>(walk_at "d"; walk_at "n"; exact q)
 | str b=>(walk_at "d"; walk_at "n"; exact q)
 | list b=>(walk_at "d"; walk_at "n"; exact q)
 | dict b=>(walk_at "d"; walk_at "n"; exact q)
def zhE(n:Nat):List PyData->Nat->Option Nat
 | [],_=>none
 | d :: ds,i=>if i<n/\zld d=true then zhE n ds (i+1) else some i
def zh9(n:Nat)(ds:List PyData):PyData:=match zhE n ds 0 with
 | some i=>.int i
 | none=>if ds.length<n then .int ds.length else .none
theorem zgI{n:Nat}{ds:List PyData}{i:Nat}(h:i<ds.length):zhE n (ds.drop i) i=if i<n/\zld ds[i]=true then zhE n (ds.drop (i+1)) (i+1) else some i:=by
 rw [drop_eq_getElem_cons h,zhE]
theorem zeG{n:Nat}:∀ {ds:List PyData} {i:Nat},zhE n ds i=none->∀ d∈ds,zld d=true
 | [],_,_,d,m=>by cases m
 | e :: ds,i,h,d,m=>by
  rw [zhE] at h;split at h
  ·rename_i hg;rcases mem_cons.mp m with rfl | m
   ·exact hg.2
   ·exact zeG h d m
  ·cases h
theorem zkE(n:Nat)(ds:List PyData):zh9 n ds=.none/\zhE n ds 0=none\/∃ i:Nat,zh9 n ds=.int i:=by
 unfold zh9;cases zhE n ds 0 with
 | some i=>exact .inr ⟨i,rfl⟩
 | none =>
  dsimp only;split
  ·exact .inr ⟨_,rfl⟩
  ·exact .inl ⟨rfl,rfl⟩
theorem zhg{ps:List Part}{ds:List PyData}(hn:ds.length<=100)(q:R (.d (zh9 ps.length ds)) []):zcg [.d (zil ps),.d (.list ds)] [] R:=by
 unfold zcg;rw [zil];walk_at "d";walk_at "n";refine zaI (fun i δ S=>∃ (u:Option XV),S=[]/\zhE ps.length ds 0=zhE ps.length (ds.drop i) i/\δ=[some (.d (.tuple (ps.map zlh))),some (.d (.list ds)),u]) ⟨_,rfl,rfl,rfl⟩ ?_ ?_
 ·rintro i d _ _ N hi ⟨u,rfl,hb,rfl⟩ hN;obtain⟨hi',rfl⟩:=zbr hi;have hi2:i<ds.length:=by simpa using hi'
  have e:ds[i]? = some ds[i]:=getElem?_eq_getElem hi2;have ea:atI ds (i:Int)=some ds[i]:=zbg e;rw [zgI hi2] at hb;rw [Int.zero_add];walk_at "d";by_cases hp:i<ps.length
  ·rw [if_neg (by omega)];refine⟨_,ea,?_⟩;refine zdX ?_;walk_at "d";cases hg:zld ds[i] with
   | false =>
    rw [hg,if_neg (fun h=>by cases h.2)] at hb;unfold zh9 at q;rw [hb] at q;exact q
   | true =>
    rw [hg,if_pos ⟨hp,rfl⟩] at hb;rw [if_neg dz];exact hN _ _ ⟨_,rfl,hb,rfl⟩
  ·rw [if_neg (fun h=>hp h.1)] at hb;rw [if_pos (by omega)];unfold zh9 at q;rw [hb] at q;exact q
 ·rintro _ _ ⟨u,rfl,hb,rfl⟩;have hb':zhE ps.length ds 0=none:=by
   rw [hb];rw [zap];rw [List.drop_eq_nil_of_le (as:=ds) (by omega)];rfl
  unfold zh9 at q;rw [hb'] at q;dsimp only at q;walk_at "d";walk_at "n";by_cases h:ds.length<ps.length
  ·rw [if_pos h] at q;rw [if_pos (by omega)];exact q
  ·rw [if_neg h] at q;rw [if_neg (by omega)];exact q
theorem zlT{F:Addr}{ql:PN}{ps:List Part}{ds:List PyData}(hn:ds.length<=100)(hl:∀ a d,∀ R':RX,R' (.d (.bool (zld d))) []->ql [.d a,.d d] [] R')(q1:zh9 ps.length ds=.none->R (.d (.tuple ds)) [])(q2:∀ i:Nat,zh9 ps.length ds=.int i->EX 142 [("number",.int i)]):zbc F ql [.d (zil ps),.d (.list ds),.o (.ref F)] [] R EX:=by
 unfold zbc;rw [zil];walk_at "d";walk_at "n";refine zaI (fun i δ S=>∃ (u v:Option XV),S=[]/\zhE ps.length ds 0=zhE ps.length (ds.drop i) i/\δ=[some (.d (.tuple (ps.map zlh))),some (.d (.list ds)),some (.o (.ref F)),u,v]) ⟨_,_,rfl,rfl,rfl⟩ ?_ ?_
 ·rintro i d _ _ N hi ⟨u,v,rfl,hb,rfl⟩ hN;obtain⟨e,he,rfl⟩:=zdx ds 0 i d hi;have hi2:i<ds.length:=(List.getElem?_eq_some_iff.mp he).1;have ee:e=ds[i]:=by rw [getElem?_eq_getElem hi2] at he; exact(Option.some.inj he).symm
  subst ee;rw [zgI hi2] at hb;rw [zero_add];walk_at "d";by_cases hp:i<ps.length
  ·rw [if_neg (by omega)];refine⟨_,zb5 (getElem?_eq_getElem hp),?_⟩;walk_at "d";refine hl _ _ _ ?_;walk_at "d";cases hg:zld ds[i] with
   | false =>
    rw [hg,if_neg (fun h=>by cases h.2)] at hb;exact q2 i (by unfold zh9; rw [hb])
   | true =>
    rw [hg,if_pos ⟨hp,rfl⟩] at hb;rw [if_neg dz];exact hN _ _ ⟨_,_,rfl,hb,rfl⟩
  ·rw [if_neg (fun h=>hp h.1)] at hb;rw [if_pos (by omega)];exact q2 i (by unfold zh9; rw [hb])
 ·rintro _ _ ⟨u,v,rfl,hb,rfl⟩;have hb':zhE ps.length ds 0=none:=by
   rw [hb,zcL,drop_length];rfl
  have ed:zh9 ps.length ds=if ds.length<ps.length then .int ds.length else .none:=by unfold zh9; rw [hb']
  walk_at "d";walk_at "n";by_cases h:ds.length<ps.length
  ·rw [if_pos (by omega)];exact q2 ds.length (by rw [ed,if_pos h])
  ·rw [if_neg (by omega)];exact q1 (by rw [ed,if_neg h])
theorem zlx{ps:List Part}{ds:List PyData}(hn:ds.length<=100)(q1:zh9 ps.length ds=.none->R (.d (.tuple ds)) [])(q2:∀ i:Nat,zh9 ps.length ds=.int i->EX 142 [("number",.int i)]):zcX [.d (zil ps),.d (.list ds)] [] R EX:=by
 unfold zcX;walk_at "d";refine⟨_,_,[],rfl,rfl,rfl,rfl,fun F=>zlT hn (fun a d R' h=>?_) (fun e=>?_) q2⟩
 ·unfold znI;walk_at "d";refine zg0 ?_;walk_at "d";exact h
 ·walk_at "d";exact q1 e
theorem zh2{ds:List PyData}(h:∀ d∈ds,dkE d=true):zjC ds=true:=by
 induction ds with
 | nil=>rfl
 | cons d r ih=>rw [zjC,h d mem_cons_self,ih fun e m=>h e (mem_cons_of_mem _ m)]; rfl
theorem zdf{n:Nat}{ds:List PyData}(h:∀ d∈ds,d.depth<=n):PyData.depthAll ds<=n:=by
 induction ds with
 | nil=>exact zero_le _
 | cons d r ih=>rw [PyData.depthAll]; exact Nat.max_le.mpr ⟨h d mem_cons_self,ih fun e m=>h e (mem_cons_of_mem _ m)⟩
theorem zgH{ds:List PyData}(h:∀ d∈ds,zfw d=true):zex ds=true:=by
 induction ds with
 | nil=>rfl
 | cons d r ih=>rw [zex,h d mem_cons_self,ih fun e m=>h e (mem_cons_of_mem _ m)]; rfl
structure ThO(d:PyData):Prop where
 dk:dkE d=true
 dp:d.depth<=5
theorem ziv{d:PyData}(h:zld d=true):∃ ts:List Trm,d=zec ts:=by
 cases d with
 | tuple ds =>
  rw [zqI,Bool.and_eq_true,Bool.and_eq_true] at h;exact⟨ds.map trT,by rw [zbx,<- ziI h.2.1]⟩
 | _=>cases h
theorem zcm{ps:List Part}{ds:List PyData}(hn:ds.length<=100)(ht:∀ d∈ds,ThO d)(q:R (.d (.bool true)) []):zbi [.d (zil ps),.d (.list ds)] [] R:=by
 have e1:=zh2 fun d m=>(ht d m).dk;have e2:PyData.depthAll ds<=60:=le_trans (zdf fun d m=>(ht d m).dp) dz;unfold zbi;walk_at "d"
 walk_at "n"
 walk_at "n"
 refine zhg hn ?_;walk_at "d";walk_at "n";refine zlx hn (fun ed=>?_) fun i ed=>?_
 ·have hb:zhE ps.length ds 0=none:=by
   rcases zkE ps.length ds with h | ⟨i,h⟩
   ·exact h.2
   ·rw [ed] at h; cases h
  have nl:zfw (.tuple ds)=true:=zgH fun d m=>by
   obtain⟨ts,rfl⟩:=ziv (zeG hb d m);rw [zbx];exact zgH fun e me=>by
    obtain⟨o,_,rfl⟩:=mem_map.mp me;rfl
  have st:SeqAt.shaped (.tuple ds)=true:=(zgp (n:=2) fun d m=>by
   obtain⟨ts,rfl⟩:=ziv (zeG hb d m);rw [zbx];exact zgp (n:=1) fun e me=>by
    obtain⟨o,_,rfl⟩:=mem_map.mp me;rw [zcS];exact zgp fun i mi=>by
     simp only [mem_cons,not_mem_nil,or_false] at mi;rcases mi with rfl | rfl <;> exact zjT).ok
  walk_at "d";refine⟨nl,?_⟩;rw [ed];walk_at "n";refine .inr ⟨e1,e2,?_⟩
  walk_at "n"
  refine⟨by omega,?_⟩;refine⟨st,st,?_⟩;rw [SeqAt.eqv_refl _ (SeqAt.canLay_of_shaped st)];exact q
 ·have ln:List.lookup ("number":Str) [(("number":Str),PyData.int i)]=some (.int i):=rfl;refine⟨by decide,fun f d l=>?_,?_⟩
  ·rw [lookup_cons] at l;split at l
   ·cases l; rfl
   ·cases l
  generalize [(("number":Str),PyData.int i)]=fs at ln;walk_at "d";refine⟨142,fs,rfl,zhO dz ?_⟩;walk_at "d";refine⟨by decide +kernel,by decide +kernel,?_⟩;rw [if_pos (by decide +kernel)];refine⟨142,fs,_,rfl,by decide,ln,zgE ?_⟩;walk_at "d";rw [if_pos (show zc8 (.int i)=true from rfl),ed];refine⟨142,fs,_,rfl,by decide,ln,rfl,rfl,?_⟩;rw [if_pos (SeqAt.eqv_refl _ (SeqAt.canLay_of_shaped rfl))];exact .inr ⟨e1,e2,q⟩
def lnB(n:Nat):PyData->Bool
 | .tuple ds=>decide (ds.length=n)
 | _=>false
theorem lnT(n:Nat)(ds:List PyData):lnB n (.tuple ds)=decide (ds.length=n):=rfl
def fiB(tr:List (List Trm))(d:PyData):Bool:=bgN (szT tr) d && lnB tr.length d
theorem zgf{n:Nat}{tr:List (List Trm)}{d:PyData}(ht:Trs n tr)(q:R (.d (.bool (fiB tr d))) []):zcp [.d (zdl (tr.map wys)),.d d] [] R:=by
 have l8:=za6 ht;unfold zcp;walk_at "d";refine zkr ht ?_;walk_at "d";refine zeg (zoI ht) ?_;walk_at "d";unfold fiB at q;cases d with
 | tuple ds =>
  cases hb:bgN (szT tr) (.tuple ds) with
  | false =>
   rw [hb] at q;exact q
  | true =>
   rw [hb,Bool.true_and,lnT] at q;unfold zdl;walk_at "d";refine Rb q ?_;rw [decide_eq_decide];omega
 | _=>exact q
theorem zgG{n:Nat}{tr:List (List Trm)}{d:PyData}(ht:Trs n tr)(q:R (.d (.bool (fiB tr d))) []):zct [.d (zdl tr),.d d] [] R:=by
 unfold zct;walk_at "d";refine zfR ht ?_;walk_at "d";refine zgf ht ?_;walk_at "d";exact q
theorem zdO{n:Nat}{tr:List (List Trm)}{d:PyData}(ht:Trs n tr)(q:R (.d (.bool (fiB tr d))) []):zaX [.d (zdl tr),.d d] [] R:=by
 have h8:=za6 ht;unfold zaX zdl;unfold fiB at q;cases d with
 | tuple ds =>
  rw [lnT] at q;walk_at "d"
  walk_at "n"
  have hs:(szT tr).length=tr.length:=by simp [szT]
  by_cases h:ds.length=tr.length
  ·rw [if_neg (by simp; omega)];rw [zjR,decide_eq_true (show ds.length<=(szT tr).length by omega),decide_eq_true h,Bool.true_and,Bool.and_true] at q;have ez:zgy ds (tr.map zec)=(ds.zip tr).map fun q=>.tuple [q.1,zec q.2]:=by
    have:=zc0 (fun d:PyData=>d) zec ds tr
    rwa [map_id'] at this
   walk_at "d";rw [ez];refine cmp2 (S0:=[]) (fun q:PyData×List Trm=>.bool (chN (q.2.length+1) q.1)) rfl (ds.zip tr) (by simp; omega) ?_ ?_
   ·intro x mx u v acc R' hk;obtain⟨d,l⟩:=x;rw [zbx];walk_at "d";refine zbD ?_;cases d with
    | int k =>
     simp only [zc8];walk_at "d";have e0:chN (l.length+1) (.int k)=decide (0<=k/\k<((l.length+1:Nat):Int)):=rfl;have:=hk (some (.d (.int k))) (some (.d (.tuple (l.map zed))));rw [e0] at this;by_cases h0:0<=k
     ·rw [if_pos h0];refine Rb' this ?_;simp only [decide_eq_decide];omega
     ·rw [if_neg h0];refine Rb' this ?_;rw [decide_eq_false];omega
    | none=>exact hk _ _
    | bool b=>exact hk _ _
    | str b=>exact hk _ _
    | list b=>exact hk _ _
    | dict b=>exact hk _ _
    | tuple b=>exact hk _ _
   ·walk_at "d";refine⟨(ds.zip tr).map fun q=>chN (q.2.length+1) q.1,by rw [map_map]; rfl,?_⟩;have e1:(ds.zip (szT tr)).map (fun q=>chN q.2 q.1)=(ds.zip tr).map fun q=>chN (q.2.length+1) q.1:=by
     unfold szT;rw [List.zip_map_right,map_map];rfl
    rw [e1] at q;exact q
  ·rw [decide_eq_false h,Bool.and_false] at q;rw [if_pos (by omega)];exact q
 | none=>(walk_at "d"; walk_at "n"; exact q)
 | bool b=>(walk_at "d"; walk_at "n"; exact q)
 | int b=>(walk_at "d"; walk_at "n"; exact q)
 | str b=>(walk_at "d"; walk_at "n"; exact q)
 | list b=>(walk_at "d"; walk_at "n"; exact q)
 | dict b=>(walk_at "d"; walk_at "n"; exact q)
theorem zda{n:Nat}{ns:List Int}{tr:List (List Trm)}{b:List Int}(ht:Trs n tr)(hb:Bgn (szT tr) b)(h1:ns.length=tr.length)(hbl:b.length=tr.length)(q:R (.d (.bool true)) []):zaA [.d (zdq ns),.d (zdl tr),.d (zdq b)] [] R:=by
 have h8:=za6 ht;have sf:SeqAt.shaped (zdq (fld ns tr b))=true:=((znt _:Shp 1 _)).ok;unfold zaA;walk_at "d"
 walk_at "n"
 refine zlV ht hb ?_;walk_at "d";refine seq1 ?_;rw [show zdq (fld ns tr b)=.tuple ((fld ns tr b).map PyData.int) from rfl];walk_at "d";refine cmp1 (S0:=[]) (fun k:Int=>.bool true) rfl (fld ns tr b) (by rw [zhZ h1 (by omega)]; omega) ?_ ?_
 ·intro c mc u acc R' hk;walk_at "d";refine zbD ?_;walk_at "d";exact hk _
 walk_at "d";refine⟨(fld ns tr b).map fun _=>true,by rw [map_map]; rfl,?_⟩;rw [if_neg (by simp)]
 walk_at "n"
 refine zeQ ht hb ?_;walk_at "d";refine zga ht hb h1 hbl ?_;walk_at "d";refine⟨sf,sf,?_⟩;rw [if_pos (show (PyData.tuple ((fld ns tr b).map PyData.int)).eqv (zdq (fld ns tr b))=true from SeqAt.eqv_refl _ (SeqAt.canLay_of_shaped sf))];refine zbD ?_;walk_at "d";rw [if_pos (show zc8 (.int (prc tr b))=true from rfl)];refine zeV ht hb ?_;walk_at "d";exact Rb q (by simp)
structure Th4(d:PyData):Prop where
 dk:dkE d=true
 dp:d.depth<=4
theorem zgm{ds:List PyData}(h:∀ d∈ds,Th4 d):ThO (.tuple ds):=⟨by rw [dkE]; exact zh2 fun d m=>(h d m).dk,by
 have:=zdf fun d m=>(h d m).dp;rw [PyData.depth];omega⟩
theorem znV{ds:List PyData}(h:∀ d∈ds,Th4 d):ThO (.list ds):=⟨by rw [dkE]; exact zh2 fun d m=>(h d m).dk,by
 have:=zdf fun d m=>(h d m).dp;rw [PyData.depth];omega⟩
theorem zfb{l:List Trm}:∀ d∈l.map zed,Th4 d:=fun d m=>by
 obtain⟨o,_,rfl⟩:=mem_map.mp m;exact⟨rfl,le_of_ble_eq_true rfl⟩
theorem ix5{ds:List PyData}{r n:Int}{Q:PyData->Prop}(h0:0<=r)(h1:r<n)(hn:(ds.length:Int)=n)(hP:∀ d∈ds,ThO d)(q:∀ d,ThO d->Q d):∃ d,atI ds r=some d/\Q d:=by
 obtain⟨d,ed,hd⟩:=znY (P:=ThO) h0 (by omega) hP;exact⟨d,ed,q d hd⟩
theorem zel{p:List PyData}{l:List Trm}(hp:zam p)(l3:l.length<=3)(q:∀ d p',ThO d->zam p'->R (.d d) [p']):zbb [.d (zec l),.l 0] [p] R:=by
 unfold zbb;rw [zbx];walk_at "d"
 walk_at "n"
 refine⟨by omega,by omega,?_⟩
 walk_at "n"
 walk_at "n"
 refine⟨⟨by decide,by decide,by decide⟩,⟨by decide,by decide,by decide⟩,?_⟩
 walk_at "n"
 refine⟨⟨by decide,by decide,by decide⟩,?_⟩;refine zw hp dz (by decide +kernel) fun r1 p1 r10 r11 hp1=>?_;walk_at "d";refine ix5 (n:=24) r10 r11 rfl (fun d m=>?_) (fun d hd=>q d p1 hd hp1);simp only [mem_cons,not_mem_nil,or_false] at m;rcases m with rfl | rfl | rfl | rfl | rfl | rfl | rfl | rfl | rfl | rfl | rfl | rfl | rfl | rfl | rfl | rfl | rfl | rfl | rfl | rfl | rfl | rfl | rfl | rfl
 ·exact znV zfb
 ·exact⟨rfl,le_of_ble_eq_true rfl⟩
 ·exact⟨rfl,le_of_ble_eq_true rfl⟩
 ·exact⟨rfl,le_of_ble_eq_true rfl⟩
 ·exact⟨rfl,le_of_ble_eq_true rfl⟩
 ·exact⟨rfl,le_of_ble_eq_true rfl⟩
 ·refine zgm fun e m=>?_;rcases mem_append.mp m with m | m
  ·exact zfb e m
  ·rw [mem_singleton.mp m]; exact⟨rfl,le_of_ble_eq_true rfl⟩
 ·exact zgm fun e m=>zfb e (mem_reverse.mp m)
 ·refine zgm fun e m=>?_;rcases mem_append.mp m with m | m
  ·exact zfb e m
  ·rw [mem_singleton.mp m]; exact⟨rfl,le_of_ble_eq_true rfl⟩
 all_goals exact⟨rfl,le_of_ble_eq_true rfl⟩
theorem zk7(l:List Trm):ThO (zec l):=zgm zfb
theorem zej{n:Nat}{p:List PyData}{tr:List (List Trm)}(hp:zam p)(ht:Trs n tr)(t1:1<=tr.length)(q:∀ ds p',ds.length<=9->(∀ d∈ds,ThO d)->zam p'->R (.d (.list ds)) [p']):zay [.d (zdl tr),.l 0] [p] R:=by
 have h8:=za6 ht;have lg:((tr.length:Int)).natAbs.log2<9000:=zcV (by omega) (by omega);unfold zay zdl;walk_at "d"
 walk_at "n"
 walk_at "n"
 refine zw hp dz (by decide +kernel) fun r1 p1 r10 r11 hp1=>?_;walk_at "d"
 walk_at "n"
 refine zw hp1 (by omega) lg fun r2 p2 r20 r21 hp2=>?_;walk_at "d";obtain⟨k,rfl⟩:=Int.eq_ofNat_of_zero_le r20;have k8:k<tr.length:=by omega
 refine cut (I:=fun δ S=>∃ p ds,S=[p,ds]/\zam p/\ds.length=tr.length/\(∀ d∈ds,ThO d)/\δ=[some (XV.d (PyData.tuple (List.map zec tr))),some (XV.l 0),some (XV.l 1),some (XV.d (PyData.int r1)),some (XV.d (PyData.int k))]) (fun N hN=>?_) ?_
 ·have h0:∀ d∈tr.map zec,ThO d:=fun d m=>by
   obtain⟨l,_,rfl⟩:=mem_map.mp m;exact zk7 l
  walk_at "d";split
  ·walk_at "d";refine⟨_,zb5 (getElem?_eq_getElem k8),?_⟩;refine zel hp2 (ht.l3 _ (getElem_mem k8)) fun d p3 hd hp3=>?_;walk_at "d";refine⟨k,by unfold ixN; simp; omega,hN _ _ ⟨_,_,rfl,hp3,by simp,fun e m=>?_,rfl⟩⟩;rcases List.mem_or_eq_of_mem_set m with m | rfl
   ·exact h0 e m
   ·exact hd
  ·exact hN _ _ ⟨_,_,rfl,hp2,by simp,h0,rfl⟩
 rintro _ _ ⟨p3,ds,rfl,hp3,hl,hds,rfl⟩;refine cut (I:=fun δ S=>∃ p ds,S=[p,ds]/\zam p/\tr.length<=ds.length/\ds.length<=9/\(∀ d∈ds,ThO d)/\δ=[some (XV.d (PyData.tuple (List.map zec tr))),some (XV.l 0),some (XV.l 1),some (XV.d (PyData.int r1)),some (XV.d (PyData.int k))]) (fun N hN=>?_) ?_
 ·walk_at "d";split
  ·walk_at "d";refine⟨by omega,hN _ _ ⟨_,_,rfl,hp3,by simp; omega,by simp; omega,fun e m=>?_,rfl⟩⟩;rcases mem_append.mp m with m | m
   ·exact hds e m
   ·rw [mem_singleton.mp m]; exact⟨rfl,le_of_ble_eq_true rfl⟩
  ·exact hN _ _ ⟨_,_,rfl,hp3,by omega,by omega,hds,rfl⟩
 rintro _ _ ⟨p4,es,rfl,hp4,hl1,hl2,hes,rfl⟩;walk_at "n";split
 ·walk_at "d";exact⟨k,_,rfl,by omega,getElem?_eq_getElem (show k<es.length by omega),.inl (q _ _ (by rw [List.length_eraseIdx]; split <;> omega) (fun e m=>hes e (List.mem_of_mem_eraseIdx m)) hp4)⟩
 ·walk_at "d";exact .inl (q _ _ hl2 hes hp4)
theorem zdP{n:Nat}{p:List PyData}{tr:List (List Trm)}{b:List Int}(hp:zam p)(ht:Trs n tr)(b1:1<=b.length)(hbl:b.length=tr.length)(q:∀ d p',zam p'->R (.d d) [p']):zaV [.d (zdq b),.d (zdl tr),.l 0] [p] R:=by
 have h8:=za6 ht;have lg:((b.length:Int)).natAbs.log2<9000:=zcV (by omega) (by omega);unfold zaV zdl zdq;walk_at "d"
 walk_at "n"
 refine zw hp (by omega) lg fun r1 p1 r10 r11 hp1=>?_;obtain⟨k,rfl⟩:=Int.eq_ofNat_of_zero_le r10;have k8:k<b.length:=by omega
 have kt:k<tr.length:=by omega
 have et:atI (tr.map zec) (k:Int)=some (.tuple (tr[k].map zed)):=zb5 (getElem?_eq_getElem kt);walk_at "d"
 walk_at "n"
 refine⟨fun z=>?_,by omega,?_⟩
 ·have:=z.1;rw [show (1:Int)=((1:Nat):Int) from rfl,HT.sIx_nat] at this;omega
 walk_at "n";refine⟨_,et,?_⟩;walk_at "d";refine⟨_,et,?_⟩;walk_at "d";refine zaI (fun i δ S=>∃ (acc:List PyData) (u:Option XV),S=[p1,acc]/\acc.length=9+i/\δ=[some (XV.d (PyData.tuple (List.map PyData.int b))),some (XV.d (PyData.tuple (List.map zec tr))),some (XV.l 0),some (XV.d (PyData.int k)),some (XV.l 1),u]) ⟨_,_,rfl,rfl,rfl⟩ ?_ ?_
 ·rintro i d _ _ N hi ⟨acc,u,rfl,ha,rfl⟩ hN;have i8:i<8:=(List.getElem?_eq_some_iff.mp hi).1;have l1:=zeX (b.map PyData.int) none (some (k:Int));have l2:=zeX (b.map PyData.int) (some ((k:Int)+1)) none;rw [length_map] at l1 l2;walk_at "d";refine⟨?_,by omega,?_,by omega,by omega,hN _ _ ⟨_,_,rfl,by simp; omega,rfl⟩⟩
  ·rw [HT.sIx_nat];omega
  ·rw [show ((k:Int)+1)=((k+1:Nat):Int) by omega,HT.sIx_nat];omega
 ·rintro _ _ ⟨acc,u,rfl,ha,rfl⟩;simp only [length_cons,length_nil] at ha;walk_at "d";rw [ha];refine zw hp1 dz (by decide +kernel) fun r5 p5 r50 r51 hp5=>?_;walk_at "d";obtain⟨j,rfl⟩:=Int.eq_ofNat_of_zero_le r50;exact⟨_,zbg (getElem?_eq_getElem (show j<acc.length by omega)),q _ _ hp5⟩
theorem zmR:∀ {tr:List (List Trm)} {b:List Int},(∀ (i:Nat) (l:List Trm) (k:Int),tr[i]? = some l->b[i]? = some k->0<=k/\k<=l.length)->b.length=tr.length->Bgn (szT tr) b
 | [],[],_,_=>trivial
 | [],_ :: _,_,h=>by simp at h
 | _ :: _,[],_,h=>by simp at h
 | l :: tr,k :: b,h,hl=>by
  have h0:=h 0 l k rfl rfl;exact⟨⟨h0.1,by show k<((l.length+1:Nat):Int); omega⟩,zmR (fun i l k e1 e2=>h (i+1) l k e1 e2) (by simpa using hl)⟩
theorem zoK{g:DG}{te:DE}{fin:Sto->Prop}{α:Type}(F:PyData->α->Prop)(f:α->PyData)(P:XE->Prop):∀ (ds:List PyData) (acc:List α) (p:List PyData) (τ:XE),P τ->zam p->acc.length+ds.length<=1000 ->
  (∀ d∈ds,∀ τ p acc (R:XE->RX),P τ->zam p->(∀ τ' x p',P τ'->zam p'->F d x->R τ' (.d (f x)) [p',acc])->g (.d d) τ [p,acc] fun τ1 S1=>te τ1 S1 (R τ1)) ->
  (∀ xs p',zam p'->(∀ (i:Nat) d x,ds[i]? = some d->xs[i]? = some x->F d x)->xs.length=ds.length->fin [p',(acc++xs).map f])->zgz 1 g zau te fin ds τ [p,acc.map f]
 | [],acc,p,τ,_,hp,_,_,h=>by
  have:=h [] p hp (by simp) rfl;rw [append_nil] at this;exact this
 | d :: ds,acc,p,τ,hP,hp,hl,el,h=>by
  show g (.d d) τ [p,acc.map f] fun τ1 S1=>zau τ1 S1 fun b S2=>if b=true then te τ1 S2 fun x S3=>asD x fun e=>∃ acc,S3[1]? = some acc/\acc.length<1000/\zgz 1 g zau te fin ds τ1 (S3.set 1 (acc++[e])) else zgz 1 g zau te fin ds τ1 S2
  simp only [zau,↓reduceIte];rw [length_cons] at hl;refine el d mem_cons_self τ p (acc.map f) (fun τ1 x S3=>asD x fun e=>∃ acc,S3[1]? = some acc/\acc.length<1000/\zgz 1 g zau te fin ds τ1 (S3.set 1 (acc++[e]))) hP hp fun τ' x p' hP' hp' hF=>?_;refine⟨acc.map f,rfl,by rw [length_map]; omega,?_⟩;have e:([p',acc.map f]:Sto).set 1 (acc.map f++[f x])=[p',(acc++[x]).map f]:=by simp
  rw [e];refine zoK F f P ds (acc++[x]) p' τ' hP' hp' (by rw [length_append,length_singleton]; omega) (fun e m=>el e (mem_cons_of_mem _ m)) fun xs p'' hp'' fs hl=>?_;rw [append_assoc];refine h (x :: xs) p'' hp'' (fun i d' y e1 e2=>?_) (by simp [hl]);cases i with
  | zero=>cases e1; cases e2; exact hF
  | succ i=>exact fs i d' y e1 e2
theorem ziw:∀ {tr:List (List Trm)},Bgn (szT tr) (List.replicate tr.length 0)
 | []=>trivial
 | l :: tr=>⟨⟨Int.le_refl _,by show (0:Int)<((l.length+1:Nat):Int); omega⟩,ziw⟩
theorem zlQ(n:Nat):(List.replicate n [PyData.int 0]).flatten=(List.replicate n (0:Int)).map PyData.int:=by
 induction n with
 | zero=>rfl
 | succ n ih=>rw [replicate_succ,flatten_cons,ih]; rfl
theorem zhP(a:Addr)(n:Int):znl (zrT a 9) ((some (.o (.ref a)) :: List.replicate 9 none).set 1 (some (.d (.int n)))) []:=by
 unfold znl;walk_at "d"
 walk_at "n"
 refine zf7 fun p hp=>?_;walk_at "d"
 walk_at "n"
 refine zc4 hp dz dz fun ps p1 hd hp1=>?_;walk_at "d"
 walk_at "n"
 refine zem hp1 hd fun tr p2 ht hp2=>?_;walk_at "d"
 walk_at "n"
 refine zi7 hp2 hd fun ns p3 hn hp3=>?_;walk_at "d";have d8:=hd.l8;have d1:=hd.l1;have tl:=ht.len;have h8:=za6 ht.toTrs;refine zaI (fun i δ S=>∃ (p:List PyData) (u1 u2 u3 u4:Option XV),S=[p]/\zam p/\δ=[some (.o (.ref a)),some (.d (.int n)),some (.l 0),some (.d (zil ps)),some (.d (zdl tr)),some (.d (zdq ns)),u1,u2,u3,u4]) ⟨_,_,_,_,_,rfl,hp3,rfl⟩ ?_ ?_
 ·rintro i d _ _ N hi ⟨p,u1,u2,u3,u4,rfl,hp,rfl⟩ hN;walk_at "d";walk_at "n";refine zej hp ht.toTrs (by omega) fun ds p4 hl hds hp4=>?_;walk_at "d";refine zcm (by omega) hds ?_;walk_at "d";refine⟨tr.map zec,rfl,?_⟩;refine zcm (by simp; omega) (fun d m=>?_) ?_
  ·obtain⟨l,_,rfl⟩:=mem_map.mp m;exact zk7 l
  walk_at "d";walk_at "n";refine⟨tr.map zec,rfl,?_⟩;refine zoK (α:=Int) (fun d x=>0<=x/\∀ l,d=zec l->x<=l.length) PyData.int (fun τ=>∃ u,τ=[u,some (.l 0)]) _ [] p4 _ ⟨_,rfl⟩ hp4 (by simp; omega) ?_ ?_
  ·rintro d md _ p acc R' ⟨u,rfl⟩ hp hk;obtain⟨l,ml,rfl⟩:=mem_map.mp md;have l3:=ht.l3 l ml;rw [zbx];walk_at "d";refine zw hp (by omega) (zcV (by omega) (by omega)) fun r p5 r0 r1 hp5=>?_;walk_at "d";refine hk _ r p5 ⟨_,rfl⟩ hp5 ⟨r0,fun l' e=>?_⟩;have:l.length=l'.length:=by
    rw [zbx] at e;injection e with e
    simpa using congrArg List.length e
   omega
  intro b p5 hp5 hb hbl;rw [length_map] at hbl;have hB:Bgn (szT tr) b:=zmR (fun i l k e1 e2=>by
   have:=hb i (zec l) k (by rw [getElem?_map,e1]; rfl) e2;exact⟨this.1,this.2 l rfl⟩) hbl
  refine⟨[p5],_,rfl,rfl,?_⟩;rw [nil_append];rw [show PyData.tuple (b.map PyData.int)=zdq b from rfl];have ez:PyData.tuple (List.replicate tr.length [PyData.int 0]).flatten=zdq (List.replicate tr.length 0):=by rw [zlQ]; rfl
  have nl:ns.length=tr.length:=by rw [tl]; exact hn.len
  walk_at "n";refine⟨tr.length,by unfold zdl; walk_at "d",by simp,by omega,by omega,by omega,?_⟩;refine zdP hp5 ht.toTrs (by omega) hbl fun e p6 hp6=>?_;walk_at "d";rw [Int.toNat_natCast,ez];refine zaI (fun i δ S=>∃ (u3 u4:Option XV),S=[p6]/\δ=[some (.o (.ref a)),some (.d (.int n)),some (.l 0),some (.d (zil ps)),some (.d (zdl tr)),some (.d (zdq ns)),some (.d d),some (.d (zdq b)),u3,u4]) ⟨_,_,rfl,rfl⟩ ?_ ?_
  ·rintro j x _ _ N2 hj ⟨u3,u4,rfl,rfl⟩ hN2;walk_at "d";walk_at "n";refine zgG ht.toTrs ?_;walk_at "d";refine zdO ht.toTrs ?_;walk_at "d";exact hN2 _ _ ⟨_,_,rfl,rfl⟩
  ·rintro _ _ ⟨u3,u4,rfl,rfl⟩;walk_at "d";refine zda ht.toTrs hB nl hbl ?_;walk_at "d";refine⟨tr.length,by unfold zdl; walk_at "d",by simp,by omega,by omega,by omega,?_⟩;rw [Int.toNat_natCast,ez];refine zda ht.toTrs ziw nl (by simp) ?_;walk_at "d";exact hN _ _ ⟨_,_,_,_,_,rfl,hp6,rfl⟩
 ·rintro _ _ ⟨p,u1,u2,u3,u4,rfl,hp,rfl⟩;walk_at "d"
theorem zjr(a:Addr):zhW (zrf a 9) (some (.o (.ref a)) :: List.replicate 9 none) []:=by
 unfold zhW;walk_at "d";refine zcm (ps:=[("a",0,0)]) (ds:=[]) dz (fun d m=>by cases m) ?_;walk_at "d";refine zcm (ps:=[("a",0,0)]) (ds:=[.tuple []]) dz (fun d m=>?_) ?_
 ·rw [mem_singleton.mp m]; exact⟨rfl,le_of_ble_eq_true rfl⟩
 walk_at "d"
end
end My
namespace My
open PySem L2
def top (i : Nat) : Stmt := PySem.Challenge.pw_gaugewright_k66_trims_and_filings.main.body.getD i (.Pass ⟨0, 0, 0, 0⟩)
abbrev zdB:Stmt:=top 31
theorem zfq:FnScope ["script","k"] ["script","k"] (zg zdB):=fsd
abbrev zd6:Stmt:=top 33
theorem zdI:FnScope ["cell","left"] ["cell"] (zg zd6):=fsd
abbrev zfJ:Stmt:=top 32
theorem zeN:FnScope ["seed"] ["seed"] (zg zfJ):=fsd
abbrev zfS:Stmt:=top 34
theorem zew:FnScope ["pen","many","found"] ["pen","many"] (zg zfS):=fsd
abbrev zaO:Stmt:=top 38
theorem zK:FnScope ["pen","letters","way","first","names","word","at"] ["pen"] (zg zaO):=fsd
abbrev zcK:Stmt:=top 36
theorem zcv:FnScope ["pen","way"] ["pen"] (zg zcK):=fsd
abbrev zf4:Stmt:=top 37
theorem zcl:FnScope ["pen","low","wide"] ["pen"] (zg zf4):=fsd
abbrev zcE:Stmt:=top 39
theorem zaH:FnScope ["pen","most","names","drawing","k"] ["pen","most"] (zg zcE):=fsd
abbrev zdc:Stmt:=top 41
theorem zN:FnScope ["pen","drawing","found","part","row","much","price","k"] ["pen","drawing"] (zg zdc):=fsd
abbrev zhz:Stmt:=top 40
theorem zbH:FnScope ["pen","drawing","one","name","low","high","some"] ["pen","drawing"] (zg zhz):=fsd
abbrev zeP:Stmt:=top 35
theorem zd4:FnScope ["found"] ["found"] (zg zeP):=fsd
abbrev zb2:Stmt:=top 45
theorem zeR:FnScope ["thing"] ["thing"] (zg zb2):=fsd
abbrev zbv:Stmt:=top 46
theorem zb7:FnScope ["thing","k"] ["thing"] (zg zbv):=fsd
abbrev ze7:Stmt:=top 47
theorem zd8:FnScope ["drawing","things","at"] ["drawing","things"] (zg ze7):=fsd
abbrev zcP:Stmt:=top 16
theorem zbu:FnScope ["drawing","things","are_right","number","thing"] ["drawing","things","are_right"] (zg zcP):=fsd
abbrev zf2:Stmt:=top 13
theorem zhH:FnScope ["thing"] ["thing"] (zg zf2):=fsd
abbrev zeW:Stmt:=top 14
theorem zgQ:FnScope ["thing"] ["thing"] (zg zeW):=fsd
abbrev ze6:Stmt:=top 24
theorem zjo:FnScope ["thing"] ["thing"] (zg ze6):=fsd
abbrev zcf:Stmt:=top 23
theorem zg7:FnScope ["thing"] ["thing"] (zg zcf):=fsd
abbrev zc1:Stmt:=top 22
theorem zhS:FnScope ["drawing","things"] ["drawing","things"] (zg zc1):=fsd
abbrev zfG:Stmt:=top 44
theorem zbO:FnScope ["e","marks","words"] ["e"] (zg zfG):=fsd
abbrev zf3:Stmt:=top 50
theorem zbP:FnScope ["drawing","things","handed","due","found","e"] ["drawing","things"] (zg zf3):=fsd
abbrev zcu:Stmt:=top 52
theorem zaG:FnScope ["filing","trims","pen","at","some","odd"] ["filing","trims","pen"] (zg zcu):=fsd
abbrev zb1:Stmt:=top 19
theorem zfa:FnScope ["sizes","thing"] ["sizes","thing"] (zg zb1):=fsd
abbrev zdK:Stmt:=top 18
theorem zh3:FnScope ["offers"] ["offers"] (zg zdK):=fsd
abbrev zeU:Stmt:=top 17
theorem zhc:FnScope ["offers","thing"] ["offers","thing"] (zg zeU):=fsd
abbrev zfh:Stmt:=top 25
theorem zjf:FnScope ["trims"] ["trims"] (zg zfh):=fsd
abbrev zeA:Stmt:=top 27
theorem zhu:FnScope ["trims","thing"] ["trims","thing"] (zg zeA):=fsd
abbrev zcj:Stmt:=top 26
theorem zfs:FnScope ["trims","filing"] ["trims","filing"] (zg zcj):=fsd
abbrev zhQ:Stmt:=top 28
theorem zl6:FnScope ["built","trims","filing"] ["built","trims","filing"] (zg zhQ):=fsd
abbrev zb4:Stmt:=top 29
theorem zfe:FnScope ["trims","filing"] ["trims","filing"] (zg zb4):=fsd
abbrev zc5:Stmt:=top 42
theorem zbI:FnScope ["built","trims","filing","left","part"] ["built","trims","filing"] (zg zc5):=fsd
abbrev zbZ:Stmt:=top 43
theorem za7:FnScope ["trims","filing","total","part"] ["trims","filing"] (zg zbZ):=fsd
abbrev zdj:Stmt:=top 53
theorem zcI:FnScope ["built","trims","filing","left","told"] ["built","trims","filing"] (zg zdj):=fsd
abbrev zcM:Stmt:=top 48
theorem zas:FnScope ["row","pen","some"] ["row","pen"] (zg zcM):=fsd
abbrev zcQ:Stmt:=top 49
theorem zaU:FnScope ["trims","pen","things","way","at"] ["trims","pen"] (zg zcQ):=fsd
abbrev zbz:Stmt:=top 51
theorem zdW:FnScope ["trims","thing"] ["trims","thing"] (zg zbz):=fsd
abbrev s_law:Stmt:=top 54
theorem zc6:FnScope ["script","cell","pen","drawing","trims","built","turn","filing","thing","told"] ["script"] (zg s_law):=fsd
abbrev s_I_NoOffer:Stmt:=znx (top 9) 0
theorem zg5:FnScope ["self","number"] ["self","number"] (zg s_I_NoOffer):=fsc (by decide +kernel)
structure Txt(mg:Str->Option Value):Prop where
 n_range:mg "range" = none
 n_list:mg "list" = none
 n_tuple:mg "tuple" = none
 n_len:mg "len" = none
 n_isinstance:mg "isinstance" = none
 n_bool:mg "bool" = none
 n_max:mg "max" = none
 n_int:mg "int" = none
 n_min:mg "min" = none
 n_all:mg "all" = none
 n_enumerate:mg "enumerate" = none
 n_abs:mg "abs" = none
 n_zip:mg "zip" = none
 n_ValueError:mg "ValueError" = none
 n_sum:mg "sum" = none
 g_MOST_TRIMS:∃ t,mg "MOST_TRIMS" = some (.int 3 t)
structure Dds(K:W.Frag)(mg:Str->Option Value):Prop where
 a0:Dd K mg "_law_cell_at" zdB ["script","k"]
 a1:Dd K mg "_law_pen_of" zd6 ["cell"]
 a2:Dd K mg "_law_next" zfJ ["seed"]
 a3:Dd K mg "_law_draw" zfS ["pen","many"]
 a4:Dd K mg "_law_names_of" zaO ["pen"]
 a5:Dd K mg "_law_number_of" zcK ["pen"]
 a6:Dd K mg "_law_span" zf4 ["pen"]
 a7:Dd K mg "_law_drawing_of" zcE ["pen","most"]
 a8:Dd K mg "_law_trims_of" zdc ["pen","drawing"]
 a9:Dd K mg "_law_set" zhz ["pen","drawing"]
 a10:Dd K mg "_law_whole" zeP ["found"]
 a11:Dd K mg "_law_one_trim" zb2 ["thing"]
 a12:Dd K mg "_law_some_trims" zbv ["thing"]
 a13:Dd K mg "_law_amiss" ze7 ["drawing","things"]
 a14:Dd K mg "made_by_parts" zcP ["drawing","things","are_right"]
 a15:Dd K mg "is_whole" zf2 ["thing"]
 a16:Dd K mg "is_number" zeW ["thing"]
 a17:Dd K mg "is_trim" ze6 ["thing"]
 a18:Dd K mg "are_trims" zcf ["thing"]
 a19:Dd K mg "trims_of" zc1 ["drawing","things"]
 a20:Dd K mg "_law_kind" zfG ["e"]
 a21:Dd K mg "_law_made" zf3 ["drawing","things"]
 a22:Dd K mg "_law_odd_filing" zcu ["filing","trims","pen"]
 a23:Dd K mg "is_beginning" zb1 ["sizes","thing"]
 a24:Dd K mg "sizes_of" zdK ["offers"]
 a25:Dd K mg "is_choice" zeU ["offers","thing"]
 a26:Dd K mg "ways_of" zfh ["trims"]
 a27:Dd K mg "is_filing" zeA ["trims","thing"]
 a28:Dd K mg "chosen_ways" zcj ["trims","filing"]
 a29:Dd K mg "filed" zhQ ["built","trims","filing"]
 a30:Dd K mg "filing_price" zb4 ["trims","filing"]
 a31:Dd K mg "_law_filed_of" zc5 ["built","trims","filing"]
 a32:Dd K mg "_law_price_of" zbZ ["trims","filing"]
 a33:Dd K mg "_law_right" zdj ["built","trims","filing"]
 a34:Dd K mg "_law_odd_trims" zcM ["row","pen"]
 a35:Dd K mg "_law_things_of" zcQ ["trims","pen"]
 a36:Dd K mg "_law_filing_due" zbz ["trims","thing"]
structure Exx(K:W.Frag)(mg:Str->Option Value):Prop where
 ex:Exs K
 m_GaugeError:mg "GaugeError" = some (.ref 24)
 m_NoSpan:mg "NoSpan" = some (.ref 37)
 m_NoPart:mg "NoPart" = some (.ref 49)
 m_NoSet:mg "NoSet" = some (.ref 61)
 m_NoRow:mg "NoRow" = some (.ref 73)
 m_Unlike:mg "Unlike" = some (.ref 85)
 m_NoDrawing:mg "NoDrawing" = some (.ref 104)
 m_NoGap:mg "NoGap" = some (.ref 123)
 m_NoOffer:mg "NoOffer" = some (.ref 142)
 m_NoText:mg "NoText" = some (.ref 161)
 m_TooGreat:mg "TooGreat" = some (.ref 180)
 c_GaugeError:ExCls K 24 none
 c_NoSpan:ExCls K 37 none
 c_NoPart:ExCls K 49 none
 c_NoSet:ExCls K 61 none
 c_NoRow:ExCls K 73 none
 c_Unlike:ExCls K 85 none
 r_NoOffer:XI K 142 ["number"] "NoOffer.__init__" s_I_NoOffer
 a_number:ExsI K [104,142] "number"
structure Lams(K:W.Frag)(mg:Str->Option Value):Prop where
 l_trims_of:∃ c P,CodeAt K mg "trims_of" c/\((c,P),L2.lamKey (("trims_of" ++ ".<locals>.") ++ "<lambda>") ⟨59,42,0,0⟩)∈L2.tabsG
section
variable {P:Program} {w:World} {K:W.Frag} {mg:Str->Option Value} {base:Heap}
theorem zhD{f:Addr}{fd:FuncData}(F:Fun K "__init__" "NoOffer.__init__" s_I_NoOffer f fd):FnOk P w K mg base CX0 1 f fd ["self","number"] (spI K ["number"]):=F.ok zg5 zn5 fun cdv A outer s H vs Q E hr h=>⟨_,(zk (zne (pv 0) (pv 1) rfl)),init1 h⟩
local macro_rules | `(tactic| walk_at "r")=>`(tactic| repeat' (first | with_reducible (first | refine zf ?_ ?_ | refine zm | refine zr | refine zO | refine zy | refine zZ ?_ ?_ | refine zbp ?_ ?_ | refine zdb ?_ | refine zaB ?_ | refine zcx | refine zdQ | refine zcn ?_ ?_ | refine zZ | refine zdT | refine zby | refine zeI | refine zrv | refine zf | refine ze1 ?_ ?_ ?_ | refine zae ?_ ?_ | refine zfo | refine zmo | refine zfk | refine zb6 ?_ | refine zca ?_ | refine zmT | refine zdZ ?_ | refine zek ?_ ?_ | refine znK | refine zis | refine zaB | refine zcA | refine zeo | refine zoc ?_ | refine zg3 ?_ ?_ ?_ | refine zbp | refine zq1 ?_ ?_ ?_ | refine zdF | refine znn ?_ | refine zdD ?_ | refine zkh | refine zdy ?_ ?_ | refine zek | refine zoN | refine ze1 | refine znT ?_ ?_ ?_ ?_ | refine zmu | refine zhV ?_ | refine zh0 | refine zaF ?_ ?_ | refine ziC | refine zht | refine zps ?_ ?_ | refine zcy ?_ | refine zb6 | refine zca | refine zqT | refine zqP | refine zdZ | refine zjL | refine zig | refine zqQ ?_ ?_ | refine zrG | refine ze3 ?_ | refine zdi | refine zoM ?_ | refine zkM | refine znA | refine zg3 | refine zeK | refine znO | refine zm3 | refine znz | refine zpf ?_ ?_ | refine zi5 | refine zpY | refine znH ?_ | refine zoT | refine zmA | refine zn4 ?_ ?_ | refine zlq | refine zlu ?_ | refine zll ?_ ?_ | refine zaj ?_ ?_ ?_ | refine zaR ?_ ?_ | refine zqx ?_ | refine zaR | refine zaj | refine zqx) | rfl))
theorem zgn(T:Txt mg:=by assumption)(dd:Dds K mg:=by assumption):Df P w K mg base "_law_cell_at" ["script","k"] 1 (sp2 (zoq K)):=by
 refine Df.of2 dd.a0 zfq (fun v u=>[some v,some u]) (fun _ _=>rfl) fun f cdv A outer s H v u Q E hr h=>?_;obtain⟨a,ns,i,rfl,rfl,hS,h0,q⟩:=h;refine⟨_,(zh (za5 (zP zd9 (pv 1) (zj zjS (by rfl) T.n_len zY (za (pv 0) zc)) (nomark _)) (zk (zx (zak zkC (pv 0) (pv 1) (fun _ _=>rfl)))) zM) (zk (zx zd))),?_⟩;simp only [znf,zqs,zod,tOp,zlw,tCB,zdt,zns,zqD,tC,zop,zjF,getElem?_cons_zero,getElem?_cons_succ];refine⟨a,_,rfl,.inl hS,?_⟩;simp only [zjF,zqR,decide_eq_true_eq];refine ite2 (fun hi=>?_) (fun _=>q 0);obtain⟨n,e⟩:=zoe h0 hi;exact⟨a,_,i,_,rfl,rfl,hS,e,q n⟩
variable (T:Txt mg:=by assumption) (dd:Dds K mg:=by assumption) (xx:Exx K mg:=by assumption) (ll:Lams K mg:=by assumption)
include T dd xx ll
theorem zhw:Df P w K mg base "_law_pen_of" ["cell"] 1 (spN ["cell"] zbX):=by
 exact Df.dN dd.a1 zdI 1 rfl fun f cdv A outer s H E hr=>⟨_,_,(zh (zI (i:=1) zdI.nd rfl lo (zj (zg1 rfl) (by rfl) T.n_max zm2 (za (pv 0) (za (zB zcB zd (pv 0)) zc)))) (zk (zx (zbf (za (pv 1) (za (zW zkl (by rfl) T.n_int ziN (za (zbw zju (pv 1) (zB zcD zd zd) (nomark _)) zc)) (za (zB zdz (pv 1) zd) zc))))))),(by walk_at "r"),fun xs S R q=>q⟩
theorem zf1:Df P w K mg base "_law_next" ["seed"] 1 (spN ["seed"] zcb):=by
 exact Df.dN dd.a2 zeN 0 rfl fun f cdv A outer s H E hr=>⟨_,_,(zh (zI (i:=0) zeN.nd rfl lo (zB zdz (zB zE (pv 0) zd) zd)) (zk (zx (zB zdz (zB zE (zB zE (zB zcR (pv 0) (pv 0)) (zB zcR zd (pv 0))) zd) zd)))),(by walk_at "r"),fun xs S R q=>q⟩
theorem zA:Df P w K mg base "_law_draw" ["pen","many"] 2 (spN ["pen","many"] zq):=by
 exact Df.dN dd.a3 zew 1 rfl fun f cdv A outer s H E hr=>⟨_,_,(zh (za5 (zP (zbV hr.units) (zak zL (pv 0) zd (fun _ _=>rfl)) zd (nomark _)) (zh (zI (i:=2) zew.nd rfl lo (zB zdz (zak zL (pv 0) zd (fun _ _=>rfl)) (pv 1))) (zh (ziL (zB zkn (zak zL (pv 0) zd (fun _ _=>rfl)) (pv 1)) (zir (pv 0) zd zev)) (zk (zx (pv 2))))) zM) (zh (ziL (zv zf1 hr dz (za (zB zE (zv zf1 hr dz (za (zak zL (pv 0) zd (fun _ _=>rfl)) zc)) zd) zc)) (zir (pv 0) zd zev)) (zk (zx (zB zdz (zB zkn (zak zL (pv 0) zd (fun _ _=>rfl)) zd) (pv 1)))))),(by walk_at "r"),fun xs S R q=>q⟩
theorem zfn:Df P w K mg base "_law_names_of" ["pen"] 3 (spN ["pen"] zaQ):=by
 exact Df.dN dd.a4 zK 6 rfl fun f cdv A outer s H E hr=>⟨_,_,(zh (zI (i:=1) zK.nd rfl (Or.inr rfl) zal) (zh (zI (i:=2) zK.nd rfl lo (zv zA hr dz (za (pv 0) (za zd zc)))) (zh (zI (i:=3) zK.nd rfl (Or.inr rfl) (zv zA hr dz (za (pv 0) (za zd zc)))) (zh (zjI (i:=4) (fun _ _ h=>h) rfl (zR rfl rfl rfl rfl (N:=["k","letters","first"]) (caps:=[none,some 1,some 3]) (by show za3 ["pen","letters","way","first","names","word","at"] (zg zaO).names _ _ _=true; decide +kernel)) zK.nd rfl rfl (zat rfl T.n_range (za zd zc)) (fun _ _ _ _=>(zC (i:=0) (by show List.Nodup (["k","letters","first"]:List Str); decide) rfl (Or.inl rfl))) (fun _ _ _ _=>zax) (fun _ _ _ _=>(zB zcR (zak zL (pv 1) (zB zdz (zB zE (pv 2) (zB zcR zd (pv 0))) zd) (fun _ _=>rfl)) (zB zE zd (zB zdz (zB zE (pv 2) (zB zcR zd (pv 0))) zd))))) (zh (za5 (zP (zbV hr.units) (pv 2) zd (nomark _)) (zh (zI (i:=5) zK.nd rfl (Or.inr rfl) (ze8 PySem.F.plainAttrs_str PySem.F.slot_str_join PySem.F.type_str_join zm7 zal (za (zaM (fun _ _ h=>h) rfl (zR rfl rfl rfl rfl (N:=["k","letters","first"]) (caps:=[none,some 1,some 3]) (by show za3 ["pen","letters","way","first","names","word","at"] (zg zaO).names _ _ _=true; decide +kernel)) (zat rfl T.n_range (za zd zc)) (fun _ _ _ _=>(zC (i:=0) (by show List.Nodup (["k","letters","first"]:List Str); decide) rfl (Or.inl rfl))) (fun _ _ _ _=>zax) (fun _ _ _ _=>(zak zL (pv 1) (zB zdz (zB zE (pv 2) (zB zcR zd (pv 0))) zd) (fun _ _=>rfl)))) zc))) (zk (zjI (i:=4) (fun _ _ h=>h) rfl (zR rfl rfl rfl rfl (N:=["k","word"]) (caps:=[none,some 5]) (by show za3 ["pen","letters","way","first","names","word","at"] (zg zaO).names _ _ _=true; decide +kernel)) zK.nd rfl rfl (zat rfl T.n_range (za zd zc)) (fun _ _ _ _=>(zC (i:=0) (by show List.Nodup (["k","word"]:List Str); decide) rfl (Or.inl rfl))) (fun _ _ _ _=>zax) (fun _ _ _ _=>(zbY zfU (pv 1) zdn (zcs (zB zE (pv 0) zd))))))) zM) (zh (za5 (zP (zbV hr.units) (pv 2) zd (nomark _)) (zk (zI (i:=4) zK.nd rfl lo (zbf (za zal (za zal (za zal (za zal (za zal (za zal (za zal (za zal zc))))))))))) zM) (zh (zI (i:=6) zK.nd rfl lo (zv zA hr dz (za (pv 0) (za zd zc)))) (zh (zI (i:=4) zK.nd rfl lo (zB zkm (zbY zfU (pv 4) (zcs (pv 6)) zdn) (zbY zfU (pv 4) zdn (zcs (pv 6))))) (zh (za5 (zP (zbV hr.units) (zv zA hr dz (za (pv 0) (za zd zc))) zd (nomark _)) (zk (zcq (zpJ PySem.F.plainAttrs_list PySem.F.slot_list_reverse PySem.F.type_list_reverse zi3 (pv 4)))) zM) (zk (zx (pv 4)))))))))))),(zZ (zbp zeI zy) (zZ (by walk_at "r") (zZ (by walk_at "r") (zZ (zbp (zet (zdD (zf zO zr)) zy zaw (zaj zht (zaj zdQ zm (zaj zmo (zaj zcx zm (zaj zht zO zm)) zO)) (zaj zcx zO (zaj zmo (zaj zcx zm (zaj zht zO zm)) zO)))) zy) (zZ (ze1 (by walk_at "r") (zZ (zbp (zm3 zl3 zeI (zf (za9 (zdD (zf zO zr)) zy zaw (zaj zdQ zm (zaj zmo (zaj zcx zm (zaj zht zO zm)) zO))) zr)) zy) (zbp (zet (zdD (zf zO zr)) zy zaw (znT zmu zm zh0 (zhV (zaj zcx zm zO)))) zy)) zby) (by walk_at "r")))))),fun xs S R q=>q⟩
theorem zeM:Df P w K mg base "_law_number_of" ["pen"] 3 (spN ["pen"] zba):=by
 exact Df.dN dd.a5 zcv 1 rfl fun f cdv A outer s H E hr=>⟨_,_,(zh (zI (i:=1) zcv.nd rfl lo (zv zA hr dz (za (pv 0) (za zd zc)))) (zh (za5 (zP zd9 (pv 1) zd (nomark _)) (zk (zx (zB zcB (zv zA hr dz (za (pv 0) (za zd zc))) zd))) zM) (zh (za5 (zP zd9 (pv 1) zd (nomark _)) (zk (zx (zB zcB (zv zA hr dz (za (pv 0) (za zd zc))) zd))) zM) (zk (zx (zB zcR (zB zcB (zv zA hr dz (za (pv 0) (za (zB zcR zd (zB zcD zd zd)) zc))) (zB zcD zd zd)) (zB zcD zd zd))))))),(by walk_at "r"),fun xs S R q=>q⟩
theorem zi6:Df P w K mg base "_law_span" ["pen"] 4 (spN ["pen"] zbE):=by
 exact Df.dN dd.a6 zcl 2 rfl fun f cdv A outer s H E hr=>⟨_,_,(zh (zI (i:=1) zcl.nd rfl lo (zv zeM hr dz (za (pv 0) zc))) (zh (zI (i:=2) zcl.nd rfl lo (zv zA hr dz (za (pv 0) (za zd zc)))) (zh (za5 (zP (zbV hr.units) (zv zA hr dz (za (pv 0) (za zd zc))) zd (nomark _)) (zk (zI (i:=2) zcl.nd rfl lo (zv zA hr dz (za (pv 0) (za (zB zcD zd zd) zc))))) zM) (zk (zx (zaS (za (pv 1) (za (zB zE (pv 1) (pv 2)) zc)))))))),(by walk_at "r"),fun xs S R q=>q⟩
theorem zee:Df P w K mg base "_law_drawing_of" ["pen","most"] 5 (spN ["pen","most"] za0):=by
 exact Df.dN dd.a7 zaH 3 rfl fun f cdv A outer s H E hr=>⟨_,_,(zh (zI (i:=2) zaH.nd rfl lo (zv zfn hr dz (za (pv 0) zc))) (zh (zI (i:=3) zaH.nd rfl lo (zbf zc)) (zh (zb8 PassesOwn.never rfl (zat rfl T.n_range (za (zB zE zd (zv zA hr dz (za (pv 0) (za (pv 1) zc)))) zc)) (zC (i:=4) zaH.nd rfl (Or.inl rfl)) (zk (zcq (ze8 PySem.F.plainAttrs_list PySem.F.slot_list_append PySem.F.type_list_append zbs (pv 3) (za (zB zE (zaS (za (zak zL (pv 2) (pv 4) (fun _ _=>rfl)) zc)) (zv zi6 hr dz (za (pv 0) zc))) zc))))) (zk (zx (zW zS (by rfl) T.n_tuple zag (za (pv 3) zc))))))),(by walk_at "r"),fun xs S R q=>q⟩
theorem zfu:Df P w K mg base "_law_trims_of" ["pen","drawing"] 3 (spN ["pen","drawing"] zbl):=by
 exact Df.dN dd.a8 zN 6 rfl fun f cdv A outer s H E hr=>⟨_,_,(zh (zI (i:=2) zN.nd rfl lo (zbf zc)) (zh (zb8 PassesOwn.never rfl (zbW (pv 1)) (zC (i:=3) zN.nd rfl (Or.inl rfl)) (zh (zI (i:=4) zN.nd rfl lo (zbf zc)) (zh (zI (i:=5) zN.nd rfl lo zd) (zh (zI (i:=6) zN.nd rfl lo zd) (zh (zb8 PassesOwn.never rfl (zat rfl T.n_range (za (zv zA hr dz (za (pv 0) (za zd zc))) zc)) (zC (i:=7) zN.nd rfl (Or.inl rfl)) (zh (zI (i:=5) zN.nd rfl lo (zB zE (zB zE (pv 5) zd) (zv zA hr dz (za (pv 0) (za (zak zL (zbf (za zd (za zd (za zd (za (zB zcD zd zd) zc))))) (zv zA hr dz (za (pv 0) (za zd zc))) (fun _ _=>rfl)) zc))))) (zh (zI (i:=6) zN.nd rfl lo (zB zE (zB zE (pv 6) zd) (zv zA hr dz (za (pv 0) (za zd zc))))) (zk (zcq (ze8 PySem.F.plainAttrs_list PySem.F.slot_list_append PySem.F.type_list_append zbs (pv 4) (za (zaS (za (pv 5) (za (pv 6) zc))) zc))))))) (zk (zcq (ze8 PySem.F.plainAttrs_list PySem.F.slot_list_append PySem.F.type_list_append zbs (pv 2) (za (zW zS (by rfl) T.n_tuple zag (za (pv 4) zc)) zc))))))))) (zk (zx (zW zS (by rfl) T.n_tuple zag (za (pv 2) zc)))))),(by walk_at "r"),fun xs S R q=>q⟩
theorem zks:Df P w K mg base "_law_set" ["pen","drawing"] 3 (spN ["pen","drawing"] zdE):=by
 exact Df.dN dd.a9 zbH 5 rfl fun f cdv A outer s H E hr=>⟨_,_,(zh (zI (i:=2) zbH.nd rfl lo (zbf zc)) (zh (zb8 PassesOwn.never rfl (zbW (pv 1)) (zd3 (n:=3) rfl (zai (zC (i:=3) zbH.nd rfl (Or.inl rfl)) (zai (zC (i:=4) zbH.nd rfl (Or.inl rfl)) (zai (zC (i:=5) zbH.nd rfl (Or.inl rfl)) zcO)))) (zh (zI (i:=6) zbH.nd rfl lo (zbf (za (pv 4) (za (pv 5) (za (zB zE (pv 4) (zB zkn (zB zcB (pv 5) (pv 4)) zd)) (za (zj (zjN rfl) (by rfl) T.n_min zoS (za (pv 5) (za (zB zE (pv 4) zd) zc))) (za (zj (zg1 rfl) (by rfl) T.n_max zm2 (za (pv 4) (za (zB zcB (pv 5) zd) zc))) zc))))))) (zk (zcq (ze8 PySem.F.plainAttrs_list PySem.F.slot_list_append PySem.F.type_list_append zbs (pv 2) (za (zak zL (zB zE (pv 6) (zbf (za (zB zE (pv 4) (zB zdz (zv zA hr dz (za (pv 0) (za (zB zcD zd zd) zc))) (zB zE (zB zcB (pv 5) (pv 4)) zd))) zc))) (zv zA hr dz (za (pv 0) (za zd zc))) (fun _ _=>rfl)) zc)))))) (zk (zx (zW zS (by rfl) T.n_tuple zag (za (pv 2) zc)))))),(by walk_at "r"),fun xs S R q=>q⟩
theorem zhL:DfN P w K mg base "_law_whole" ["found"] 1 (spN ["found"] zab):=by
 exact DfN.dN dd.a10 zd4 0 rfl fun f cdv A outer s H hr=>⟨_,_,(zk (zx (zbJ (zj zar (by rfl) T.n_isinstance zp (za (pv 0) (za (zaK rfl T.n_int ziN (v:=.ty "int") rfl) zc))) (zcC (zj7 (zj zar (by rfl) T.n_isinstance zp (za (pv 0) (za (zaK rfl T.n_bool zf8 (v:=.ty "bool") rfl) zc)))))))),(by walk_at "r"),fun xs S R q=>q⟩
theorem zci:Df P w K mg base "_law_whole" ["found"] 1 (spN ["found"] zab):=by
 exact Df.dN dd.a10 zd4 0 rfl fun f cdv A outer s H E hr=>⟨_,_,(zk (zx (zbJ (zj zar (by rfl) T.n_isinstance zp (za (pv 0) (za (zaK rfl T.n_int ziN (v:=.ty "int") rfl) zc))) (zcC (zj7 (zj zar (by rfl) T.n_isinstance zp (za (pv 0) (za (zaK rfl T.n_bool zf8 (v:=.ty "bool") rfl) zc)))))))),(by walk_at "r"),fun xs S R q=>q⟩
theorem zfl:Df P w K mg base "_law_one_trim" ["thing"] 2 (spN ["thing"] zbn):=by
 exact Df.dN dd.a11 zeR 0 rfl fun f cdv A outer s H E hr=>⟨_,_,(zh (za5 (PW.pt (zch (zaT (zU (zj zar (by rfl) T.n_isinstance zp (za (pv 0) (za (zaK rfl T.n_tuple zag (v:=.ty "tuple") rfl) zc))) (fun _=>rfl))) (zbC (zP (zf0 hr.units) (zj zu (by rfl) T.n_len zY (za (pv 0) zc)) zd (nomark _))))) (zk (zx zbS)) zM) (zk (zx (zj (zbt rfl) (by rfl) T.n_all zd0 (za (zaM (fun _ _ h=>h) rfl (zR (L:=0) rfl rfl rfl rfl (N:=["number"]) (caps:=[none]) (by show za3 ["thing"] (zg zb2).names _ _ _=true; decide +kernel)) (zbW (pv 0)) (fun _ _ _ _=>(zC (i:=0) (by show List.Nodup (["number"]:List Str); decide) rfl (Or.inl rfl))) (fun _ _ _ _=>zax) (fun _ _ _ _=>(zbJ (zv zci hr dz (za (pv 0) zc)) (zcC (zgg zd9 zd9 zd (pv 0) (zB zcD zd zd)))))) zc))))),(zZ (by walk_at "r") (zaB (zaR zdF (zf (za9 (zcy zm) zy zaw (zdy (zae (zf zm zr)) (zgr zfk zfk zO zm (zaj zmo zO zO)))) zr)))),fun xs S R q=>q⟩
theorem zei:Df P w K mg base "_law_some_trims" ["thing"] 3 (spN ["thing"] zaW):=by
 exact Df.dN dd.a12 zb7 1 rfl fun f cdv A outer s H E hr=>⟨_,_,(zh (za5 (PW.pt (zch (zaT (zU (zj zar (by rfl) T.n_isinstance zp (za (pv 0) (za (zaK rfl T.n_tuple zag (v:=.ty "tuple") rfl) zc))) (fun _=>rfl))) (zch (zP zlR (zj zu (by rfl) T.n_len zY (za (pv 0) zc)) zd (nomark _)) (zbC (zaT (zU (zj (zbt rfl) (by rfl) T.n_all zd0 (za (zaM (fun _ _ h=>h) rfl (zR (L:=0) rfl rfl rfl rfl (N:=["one"]) (caps:=[none]) (by show za3 ["thing","k"] (zg zbv).names _ _ _=true; decide +kernel)) (zbW (pv 0)) (fun _ _ _ _=>(zC (i:=0) (by show List.Nodup (["one"]:List Str); decide) rfl (Or.inl rfl))) (fun _ _ _ _=>zax) (fun _ _ _ _=>(zv zfl hr dz (za (pv 0) zc)))) zc)) (fun _=>rfl))))))) (zk (zx zbS)) zM) (zh (zb8 PassesOwn.never rfl (zat rfl T.n_range (za (zB zcB (zj zu (by rfl) T.n_len zY (za (pv 0) zc)) zd) zc)) (zC (i:=1) zb7.nd rfl (Or.inl rfl)) (zk (za5 (PW.pt (zch (zP zju (zak zL (zak zL (pv 0) (pv 1) (fun _ _=>rfl)) zd (fun _ _=>rfl)) (zak zL (zak zL (pv 0) (zB zE (pv 1) zd) (fun _ _=>rfl)) zd (fun _ _=>rfl)) (nomark _)) (zbC (zP zju (zak zL (zak zL (pv 0) (pv 1) (fun _ _=>rfl)) zd (fun _ _=>rfl)) (zak zL (zak zL (pv 0) (zB zE (pv 1) zd) (fun _ _=>rfl)) zd (fun _ _=>rfl)) (nomark _))))) (zk (zx zbS)) zM))) (zk (zx zbS)))),(zZ (ze1 (zek (by walk_at "r") (zek (by walk_at "r") (zb6 (zca (zaR zdF (zf (za9 (zcy zm) zy zaw (zae (zf zm zr))) zr)))))) (zaB zfo) zby) (by walk_at "r")),fun xs S R q=>q⟩
theorem zhX:Df P w K mg base "_law_amiss" ["drawing","things"] 4 (spN ["drawing","things"] zcg):=by
 exact Df.dN dd.a13 zd8 1 rfl fun f cdv A outer s H E hr=>⟨_,_,(zh (zb8 PassesOwn.never rfl (zat rfl T.n_range (za (zj zu (by rfl) T.n_len zY (za (pv 1) zc)) zc)) (zC (i:=2) zd8.nd rfl (Or.inl rfl)) (zk (za5 (PW.pt (zch (zP zju (pv 2) (zj zu (by rfl) T.n_len zY (za (pv 0) zc)) (nomark _)) (zbC (zaT (zU (zv zei hr dz (za (zak zL (pv 1) (pv 2) (fun _ _=>rfl)) zc)) (fun _=>rfl)))))) (zk (zx (pv 2))) zM))) (zh (za5 (zP zd9 (zj zu (by rfl) T.n_len zY (za (pv 1) zc)) (zj zu (by rfl) T.n_len zY (za (pv 0) zc)) (nomark _)) (zk (zx (zj zu (by rfl) T.n_len zY (za (pv 1) zc)))) zM) (zk (zx zeD)))),(by walk_at "r"),fun xs S R q=>q⟩
theorem zeL:DfHX P w K mg base "made_by_parts" ["drawing","things","are_right"] 6 (4+1) ["part","thing"] zbc:=by
 exact zom dd.a14 zbu 2 rfl fun F ql f cdv A outer s H E EX hr LA=>⟨_,_,(zh (zb8 PassesOwn.leaving rfl (zl5 rfl T.n_enumerate (za (pv 1) zc)) (zd3 (n:=2) rfl (zai (zC (i:=3) zbu.nd rfl (Or.inl rfl)) (zai (zC (i:=4) zbu.nd rfl (Or.inl rfl)) zcO))) (zk (za5 (PT.nox (PW.pt (zch (zP zju (pv 3) (zj zu (by rfl) T.n_len zY (za (pv 0) zc)) (nomark _)) (zbC (zaT (zU (zjp LA hr dz (pv 2) (za (zak zL (pv 0) (pv 3) (fun _ _=>rfl)) (za (pv 4) zc))) (fun _=>rfl))))))) (zk (zha xx.r_NoOffer (fun _ _ F=>zhD F) ziQ hr dz xx.m_NoOffer dz (za (pv 3) zc))) zM))) (zh (za5 (PT.nox (zP zd9 (zj zu (by rfl) T.n_len zY (za (pv 1) zc)) (zj zu (by rfl) T.n_len zY (za (pv 0) zc)) (nomark _))) (zk (zha xx.r_NoOffer (fun _ _ F=>zhD F) ziQ hr dz xx.m_NoOffer dz (za (zj zu (by rfl) T.n_len zY (za (pv 1) zc)) zc))) zM) (PSs.nox (zk (zx (zW zS (by rfl) T.n_tuple zag (za (pv 1) zc))))))),(zmY (zp3 (zni (by walk_at "r")) (by walk_at "r") (zmU (zjM (by walk_at "r")) (zgW xx.r_NoOffer.i xx.r_NoOffer.na (zf zm zr)) (zh8 zby))) (zmY (zmU (zjM (by walk_at "r")) (zgW xx.r_NoOffer.i xx.r_NoOffer.na (by walk_at "r")) (zh8 zby)) (zh8 (by walk_at "r")))),fun xs S R q=>q⟩
theorem zfZ:Df P w K mg base "is_whole" ["thing"] 1 (spN ["thing"] zbh):=by
 exact Df.dN dd.a15 zhH 0 rfl fun f cdv A outer s H E hr=>⟨_,_,(zk (zx (zbJ (zj zar (by rfl) T.n_isinstance zp (za (pv 0) (za (zaK rfl T.n_int ziN (v:=.ty "int") rfl) zc))) (zcC (zj7 (zj zar (by rfl) T.n_isinstance zp (za (pv 0) (za (zaK rfl T.n_bool zf8 (v:=.ty "bool") rfl) zc)))))))),(by walk_at "r"),fun xs S R q=>q⟩
theorem zhY:Df P w K mg base "is_number" ["thing"] 2 (spN ["thing"] zbM):=by
 exact Df.dN dd.a16 zgQ 0 rfl fun f cdv A outer s H E hr=>⟨_,_,(zk (zx (zbJ (zv zfZ hr dz (za (pv 0) zc)) (zcC (zbw zd9 (zj zmb (by rfl) T.n_abs zoy (za (pv 0) zc)) (zB zcD zd zd) (nomark _)))))),(by walk_at "r"),fun xs S R q=>q⟩
theorem zkG:Df P w K mg base "is_trim" ["thing"] 3 (spN ["thing"] zdC):=by
 exact Df.dN dd.a17 zjo 0 rfl fun f cdv A outer s H E hr=>⟨_,_,(zh (za5 (PW.pt (zch (zaT (zU (zj zar (by rfl) T.n_isinstance zp (za (pv 0) (za (zaK rfl T.n_tuple zag (v:=.ty "tuple") rfl) zc))) (fun _=>rfl))) (zbC (zP (zf0 hr.units) (zj zu (by rfl) T.n_len zY (za (pv 0) zc)) zd (nomark _))))) (zk (zx zbS)) zM) (zk (zx (zj (zbt rfl) (by rfl) T.n_all zd0 (za (zaM (fun _ _ h=>h) rfl (zR (L:=0) rfl rfl rfl rfl (N:=["number"]) (caps:=[none]) (by show za3 ["thing"] (zg ze6).names _ _ _=true; decide +kernel)) (zbW (pv 0)) (fun _ _ _ _=>(zC (i:=0) (by show List.Nodup (["number"]:List Str); decide) rfl (Or.inl rfl))) (fun _ _ _ _=>zax) (fun _ _ _ _=>(zbJ (zv zhY hr dz (za (pv 0) zc)) (zcC (zbw zju (pv 0) zd (nomark _)))))) zc))))),(zZ (by walk_at "r") (zaB (zaR zdF (zf (za9 (zcy zm) zy zaw (zdy (zae (zf zm zr)) (zaj zfk zm zO))) zr)))),fun xs S R q=>q⟩
theorem zhI:Df P w K mg base "are_trims" ["thing"] 4 (spN ["thing"] zcr):=by
 exact Df.dN dd.a18 zg7 0 rfl fun f cdv A outer s H E hr=>⟨_,_,(zh (za5 (PW.pt (zch (zaT (zU (zj zar (by rfl) T.n_isinstance zp (za (pv 0) (za (zaK rfl T.n_tuple zag (v:=.ty "tuple") rfl) zc))) (fun _=>rfl))) (zch (zP zlR (zj zu (by rfl) T.n_len zY (za (pv 0) zc)) (zlj rfl T.g_MOST_TRIMS) (nomark _)) (zbC (zaT (zU (zj (zbt rfl) (by rfl) T.n_all zd0 (za (zaM (fun _ _ h=>h) rfl (zR (L:=0) rfl rfl rfl rfl (N:=["trim"]) (caps:=[none]) (by show za3 ["thing"] (zg zcf).names _ _ _=true; decide +kernel)) (zbW (pv 0)) (fun _ _ _ _=>(zC (i:=0) (by show List.Nodup (["trim"]:List Str); decide) rfl (Or.inl rfl))) (fun _ _ _ _=>zax) (fun _ _ _ _=>(zv zkG hr dz (za (pv 0) zc)))) zc)) (fun _=>rfl))))))) (zk (zx zbS)) zM) (zk (zx (zj (zbt rfl) (by rfl) T.n_all zd0 (za (zaM (fun _ _ h=>h) rfl (zR (L:=0) rfl rfl rfl rfl (N:=["ahead","trim"]) (caps:=[none,none]) (by show za3 ["thing"] (zg zcf).names _ _ _=true; decide +kernel)) (zey rfl T.n_zip (za (pv 0) (za (zbY zn7 (pv 0) (zcs zd) zdn) zc))) (fun _ _ _ _=>(zd3 (n:=2) rfl (zai (zC (i:=0) (by show List.Nodup (["ahead","trim"]:List Str); decide) rfl (Or.inl rfl)) (zai (zC (i:=1) (by show List.Nodup (["ahead","trim"]:List Str); decide) rfl (Or.inl rfl)) zcO)))) (fun _ _ _ _=>zax) (fun _ _ _ _=>(zbJ (zbw zd9 (zak zL (pv 0) zd (fun _ _=>rfl)) (zak zL (pv 1) zd (fun _ _=>rfl)) (nomark _)) (zcC (zbw zd9 (zak zL (pv 0) zd (fun _ _=>rfl)) (zak zL (pv 1) zd (fun _ _=>rfl)) (nomark _)))))) zc))))),(zZ (ze1 (zek (by walk_at "r") (zek (by walk_at "r") (zb6 (zca (zaR zdF (zf (za9 (zcy zm) zy zaw (zae (zf zm zr))) zr)))))) (zaB zfo) zby) (zaB (zaR zdF (zf (za9 (zeH (zf zm (zf (znT znP zm (zhV zO) zh0) zr))) (ze3 (zaF zy (zaF zy zdi))) zaw (zdy (zaj zfk (zaj zdQ zm zO) (zaj zdQ zm zO)) (zaj zfk (zaj zdQ zm zO) (zaj zdQ zm zO)))) zr)))),fun xs S R q=>q⟩
theorem zjb:DfX P w K mg base "trims_of" ["drawing","things"] 9 (spX ["drawing","things"] zcX):=by
 obtain⟨c,P',hc,ht⟩:=ll.l_trims_of;exact znb dd.a19 hc zhS 0 rfl fun f A outer s H E EX hr=>⟨_,_,(zk (zx (zko (L:=0) (kl:=4) (pl:=["part","thing"]) (caps:=[]) (ks:=[]) zeL pass1 hr dz rfl rfl rfl rfl rfl (by show zfy ["drawing","things"] (zg zc1).names _ _ _ _=true; decide +kernel) (fun _ _ _ _ us hl=>by obtain⟨_,_,rfl⟩:=L2.len2 hl; rfl) (fun cl f c' A outer s H hr=>(zv zhI hr dz (za (pv 1) zc))) (zae (zf zm zr)) (za (PE.nox (pv 0)) (za (PE.nox (pv 1)) (za (zoJ (L:=0) (pl:=["part","thing"]) (caps:=[]) (ks:=[]) ht rfl rfl rfl (by show zfy ["drawing","things"] (zg zc1).names _ _ _ _=true; decide +kernel) rfl) zc)))))),(zoH (ziY zm zm)),fun xs S R q=>q⟩
theorem zji:DfN P w K mg base "_law_kind" ["e"] 1 (spN ["e"] zcY):=by
 exact DfN.dN dd.a20 zbO 2 rfl fun f cdv A outer s H hr=>⟨_,_,(zh (zI (i:=1) zbO.nd rfl lo (zgv (zV (zj za8 (by rfl) T.n_isinstance zp (za (pv 0) (za (zbL (v:=.ref 37) rfl xx.m_NoSpan rfl) zc))) (zV (zj za8 (by rfl) T.n_isinstance zp (za (pv 0) (za (zbL (v:=.ref 49) rfl xx.m_NoPart rfl) zc))) (zV (zj za8 (by rfl) T.n_isinstance zp (za (pv 0) (za (zbL (v:=.ref 61) rfl xx.m_NoSet rfl) zc))) (zV (zj za8 (by rfl) T.n_isinstance zp (za (pv 0) (za (zbL (v:=.ref 161) rfl xx.m_NoText rfl) zc))) zJ)))))) (zh (zI (i:=1) zbO.nd rfl lo (zB zE (pv 1) (zgv (zV (zj za8 (by rfl) T.n_isinstance zp (za (pv 0) (za (zbL (v:=.ref 73) rfl xx.m_NoRow rfl) zc))) (zV (zj za8 (by rfl) T.n_isinstance zp (za (pv 0) (za (zbL (v:=.ref 85) rfl xx.m_Unlike rfl) zc))) (zV (zj za8 (by rfl) T.n_isinstance zp (za (pv 0) (za (zbL (v:=.ref 104) rfl xx.m_NoDrawing rfl) zc))) (zV (zj za8 (by rfl) T.n_isinstance zp (za (pv 0) (za (zbL (v:=.ref 123) rfl xx.m_NoGap rfl) zc))) zJ))))))) (zh (zI (i:=1) zbO.nd rfl lo (zB zE (pv 1) (zbf (za (zj za8 (by rfl) T.n_isinstance zp (za (pv 0) (za (zbL (v:=.ref 142) rfl xx.m_NoOffer rfl) zc))) (za (zj za8 (by rfl) T.n_isinstance zp (za (pv 0) (za (zbL (v:=.ref 180) rfl xx.m_TooGreat rfl) zc))) zc))))) (zh (za5 (PW.pt (zch (zaT (zU (zj za8 (by rfl) T.n_isinstance zp (za (pv 0) (za (zaK rfl T.n_ValueError zgi (v:=.ty "ValueError") rfl) zc))) (fun _=>rfl))) (zbC (zP (zf0 hr.units) (ze8 PySem.F.plainAttrs_list PySem.F.slot_list_count PySem.F.type_list_count zj5 (pv 1) (za zbS zc)) zd (nomark _))))) (zk (zx zal)) zM) (zh (zI (i:=2) zbO.nd rfl lo (zgv (zV zal (zV zal (zV zal (zV zal (zV zal (zV zal (zV zal (zV zal (zV zal (zV zal zJ)))))))))))) (zk (zx (zak zL (pv 2) (ze8 PySem.F.plainAttrs_list PySem.F.slot_list_index PySem.F.type_list_index (zj9 hr.units) (pv 1) (za zbS zc)) (fun _ _=>rfl))))))))),(zZ (zbp (zdZ (zf (zaR (zcA xx.ex) (by walk_at "r")) (zf (zaR (zcA xx.ex) (by walk_at "r")) (zf (zaR (zcA xx.ex) (by walk_at "r")) (zf (zaR (zcA xx.ex) (by walk_at "r")) zr))))) zy) (zZ (zbp (zaj zcx zm (zdZ (zf (zaR (zcA xx.ex) (by walk_at "r")) (zf (zaR (zcA xx.ex) (by walk_at "r")) (zf (zaR (zcA xx.ex) (by walk_at "r")) (zf (zaR (zcA xx.ex) (by walk_at "r")) zr)))))) zy) (zZ (zbp (zaj zcx zm (zdZ (zf (zaR (zcA xx.ex) (by walk_at "r")) (zf (zaR (zcA xx.ex) (by walk_at "r")) zr)))) zy) (zZ (ze1 (zek (zb6 (zca (zaR (zcA xx.ex) (by walk_at "r")))) (zqx (zaj ziC (zkM zjv zm (zf zfo zr)) zO))) (zaB zeI) zby) (zZ (by walk_at "r") (zaB (zaj zdQ zm (zkM zj8 zm (zf zfo zr))))))))),fun xs S R q=>q⟩
theorem zcW:Df P w K mg base "_law_made" ["drawing","things"] 10 (spN ["drawing","things"] zbi):=by
 exact Df.dN dd.a21 zbP 4 rfl fun f cdv A outer s H E hr=>⟨_,_,(zh (zI (i:=2) zbP.nd rfl lo (zW za4 (by rfl) T.n_list zdV (za (pv 1) zc))) (zh (zI (i:=3) zbP.nd rfl lo (zv zhX hr dz (za (pv 0) (za (pv 1) zc)))) (zh (zno (i:=5) (fun _ _ z=>z) rfl rfl zbP.nd rfl rfl rfl xx.m_GaugeError xx.c_GaugeError (zoG (i:=4) zbP.nd rfl (Or.inl rfl) (zqK zjb hr dz (fun _ _ z=>z) (za (pv 0) (za (pv 2) zc)))) (fun _=>(zk (zx (zbJ (zbw (zbV hr.units) (zlc zji (hr.suite _) dz (za (pv 5) zc)) zal (nomark _)) (zbJ (zlc zhL (hr.suite _) dz (za (zo4 (pv 5) rfl) zc)) (zbJ (zbw (zbV hr.units) (zo4 (pv 5) rfl) (pv 3) (nomark _)) (zcC (zbw (zoA hr.units) (pv 2) (pv 1) (nomark _)))))))))) (zh (za5 (PW.pt (zch (zP zmc (pv 3) zeD (nomark _)) (zch (zaT (zU (zj zar (by rfl) T.n_isinstance zp (za (pv 4) (za (zaK rfl T.n_tuple zag (v:=.ty "tuple") rfl) zc))) (fun _=>rfl))) (zbC (zP (zpg hr.units) (pv 2) (pv 1) (nomark _)))))) (zk (zx zbS)) zM) (zh (zcq (ze8 PySem.F.plainAttrs_list PySem.F.slot_list_append PySem.F.type_list_append zbs (pv 2) (za zd zc))) (zk (zx (zbw (zbV hr.units) (pv 4) (zW zS (by rfl) T.n_tuple zag (za (pv 1) zc)) (nomark _))))))))),(zZ (by walk_at "r") (zZ (by walk_at "r") (zZ (zok xx.ex rfl zoD (fun _ _ _ _=>rfl) (zf zm (zf zm zr)) (zaB (zdy (zaj zis (zl7 rfl (zf zm zr)) zeI) (zdy (zae (zf (zoz xx.a_number zm) zr)) (zdy (zaj zis (zoz xx.a_number zm) zm) (zaj zpd zm zm)))))) (by walk_at "r")))),fun xs S R q=>q⟩
theorem zeh:Df P w K mg base "_law_odd_filing" ["filing","trims","pen"] 3 (spN ["filing","trims","pen"] zaV):=by
 exact Df.dN dd.a22 zaG 3 rfl fun f cdv A outer s H E hr=>⟨_,_,(zh (zI (i:=3) zaG.nd rfl lo (zv zA hr dz (za (pv 2) (za (zj zu (by rfl) T.n_len zY (za (pv 0) zc)) zc)))) (zh (zI (i:=4) zaG.nd rfl lo (zbf (za (zW za4 (by rfl) T.n_list zdV (za (pv 0) zc)) (za (zbY zfU (pv 0) (zcs zd) zdn) (za (zB zE (pv 0) (zaS (za zd zc))) (za zeD (za zd (za zal (za (zaS zc) (za (zqi zif) (za zbS zc))))))))))) (zh (zb8 PassesOwn.never rfl (zbW (zgv (zV (znh zj2 zd) (zV (zB zE (zj zu (by rfl) T.n_len zY (za (zak zL (pv 1) (pv 3) (fun _ _=>rfl)) zc)) zd) (zV (zj zu (by rfl) T.n_len zY (za (zak zL (pv 1) (pv 3) (fun _ _=>rfl)) zc)) (zV zbS (zV zeD (zV zal (zV (zaS (za zd zc)) (zV zbS zJ)))))))))) (zC (i:=5) zaG.nd rfl (Or.inl rfl)) (zk (zcq (ze8 PySem.F.plainAttrs_list PySem.F.slot_list_append PySem.F.type_list_append zbs (pv 4) (za (zB zE (zB zE (zbY zfU (pv 0) zdn (zcs (pv 3))) (zaS (za (pv 5) zc))) (zbY zfU (pv 0) (zcs (zB zE (pv 3) zd)) zdn)) zc))))) (zk (zx (zak zL (pv 4) (zv zA hr dz (za (pv 2) (za (zj zu (by rfl) T.n_len zY (za (pv 4) zc)) zc))) (fun _ _=>rfl))))))),(by walk_at "r"),fun xs S R q=>q⟩
theorem zfp:Df P w K mg base "is_beginning" ["sizes","thing"] 2 (spN ["sizes","thing"] zbk):=by
 exact Df.dN dd.a23 zfa 0 rfl fun f cdv A outer s H E hr=>⟨_,_,(zh (za5 (PW.pt (zch (zaT (zU (zj zar (by rfl) T.n_isinstance zp (za (pv 1) (za (zaK rfl T.n_tuple zag (v:=.ty "tuple") rfl) zc))) (fun _=>rfl))) (zbC (zP zlR (zj zu (by rfl) T.n_len zY (za (pv 1) zc)) (zj zu (by rfl) T.n_len zY (za (pv 0) zc)) (nomark _))))) (zk (zx zbS)) zM) (zk (zx (zj (zbt rfl) (by rfl) T.n_all zd0 (za (zaM (fun _ _ h=>h) rfl (zR (L:=0) rfl rfl rfl rfl (N:=["number","size"]) (caps:=[none,none]) (by show za3 ["sizes","thing"] (zg zb1).names _ _ _=true; decide +kernel)) (zey rfl T.n_zip (za (pv 1) (za (pv 0) zc))) (fun _ _ _ _=>(zd3 (n:=2) rfl (zai (zC (i:=0) (by show List.Nodup (["number","size"]:List Str); decide) rfl (Or.inl rfl)) (zai (zC (i:=1) (by show List.Nodup (["number","size"]:List Str); decide) rfl (Or.inl rfl)) zcO)))) (fun _ _ _ _=>zax) (fun _ _ _ _=>(zbJ (zv zfZ hr dz (za (pv 0) zc)) (zcC (zgg zol zd9 zd (pv 0) (pv 1)))))) zc))))),(zZ (by walk_at "r") (zaB (zaR zdF (zf (za9 (zeH (zf zm (zf zm zr))) (ze3 (zaF zy (zaF zy zdi))) zaw (zdy (zae (zf zm zr)) (zgr zfk zfk zO zm zm))) zr)))),fun xs S R q=>q⟩
theorem zja:Df P w K mg base "sizes_of" ["offers"] 1 (spN ["offers"] zc2):=by
 exact Df.dN dd.a24 zh3 0 rfl fun f cdv A outer s H E hr=>⟨_,_,(zk (zx (zaM (fun _ _ h=>h) rfl (zR (L:=0) rfl rfl rfl rfl (N:=["of_part"]) (caps:=[none]) (by show za3 ["offers"] (zg zdK).names _ _ _=true; decide +kernel)) (zbW (pv 0)) (fun _ _ _ _=>(zC (i:=0) (by show List.Nodup (["of_part"]:List Str); decide) rfl (Or.inl rfl))) (fun _ _ _ _=>zax) (fun _ _ _ _=>(zj zu (by rfl) T.n_len zY (za (pv 0) zc)))))),(zaB (zet (zcy zm) zy zaw (zaR zdT (zf zm zr)))),fun xs S R q=>q⟩
theorem zh1:Df P w K mg base "is_choice" ["offers","thing"] 3 (spN ["offers","thing"] zcp):=by
 exact Df.dN dd.a25 zhc 0 rfl fun f cdv A outer s H E hr=>⟨_,_,(zk (zx (zbJ (zv zfp hr dz (za (zv zja hr dz (za (pv 0) zc)) (za (pv 1) zc))) (zcC (zbw (zbV hr.units) (zj zu (by rfl) T.n_len zY (za (pv 1) zc)) (zj zu (by rfl) T.n_len zY (za (pv 0) zc)) (nomark _)))))),(by walk_at "r"),fun xs S R q=>q⟩
theorem zhx:Df P w K mg base "ways_of" ["trims"] 1 (spN ["trims"] zcN):=by
 exact Df.dN dd.a26 zjf 0 rfl fun f cdv A outer s H E hr=>⟨_,_,(zk (zx (zW zS (by rfl) T.n_tuple zag (za (zaM (fun _ _ h=>h) rfl (zR (L:=0) rfl rfl rfl rfl (N:=["of_part"]) (caps:=[none]) (by show za3 ["trims"] (zg zfh).names _ _ _=true; decide +kernel)) (zbW (pv 0)) (fun _ _ _ _=>(zC (i:=0) (by show List.Nodup (["of_part"]:List Str); decide) rfl (Or.inl rfl))) (fun _ _ _ _=>zax) (fun _ _ _ _=>(zB zE (zaS (za (zaS (za zd (za zd zc))) zc)) (pv 0)))) zc)))),(zaB (zaR zeo (zf (za9 (zcy zm) zy zaw (zaj zcx (zdb (zf (zdb (zf zO (zf zO zr))) zr)) zm)) zr))),fun xs S R q=>q⟩
theorem zhM:Df P w K mg base "is_filing" ["trims","thing"] 4 (spN ["trims","thing"] zct):=by
 exact Df.dN dd.a27 zhu 0 rfl fun f cdv A outer s H E hr=>⟨_,_,(zk (zx (zv zh1 hr dz (za (zv zhx hr dz (za (pv 0) zc)) (za (pv 1) zc))))),(by walk_at "r"),fun xs S R q=>q⟩
theorem zdr:Df P w K mg base "chosen_ways" ["trims","filing"] 2 (spN ["trims","filing"] zbd):=by
 exact Df.dN dd.a28 zfs 0 rfl fun f cdv A outer s H E hr=>⟨_,_,(zk (zx (zaM (fun _ _ h=>h) rfl (zR (L:=0) rfl rfl rfl rfl (N:=["of_part","number"]) (caps:=[none,none]) (by show za3 ["trims","filing"] (zg zcj).names _ _ _=true; decide +kernel)) (zey rfl T.n_zip (za (zv zhx hr dz (za (pv 0) zc)) (za (pv 1) zc))) (fun _ _ _ _=>(zd3 (n:=2) rfl (zai (zC (i:=0) (by show List.Nodup (["of_part","number"]:List Str); decide) rfl (Or.inl rfl)) (zai (zC (i:=1) (by show List.Nodup (["of_part","number"]:List Str); decide) rfl (Or.inl rfl)) zcO)))) (fun _ _ _ _=>zax) (fun _ _ _ _=>(zak zL (pv 0) (pv 1) (fun _ _=>rfl)))))),(zaB (zet (zeH (zf (zae (zf zm zr)) (zf zm zr))) (ze3 (zaF zy (zaF zy zdi))) zaw (zaj zdQ zm zm))),fun xs S R q=>q⟩
theorem znB:Df P w K mg base "filed" ["built","trims","filing"] 3 (spN ["built","trims","filing"] zge):=by
 exact Df.dN dd.a29 zl6 0 rfl fun f cdv A outer s H E hr=>⟨_,_,(zk (zx (zW zS (by rfl) T.n_tuple zag (za (zaM (fun _ _ h=>h) rfl (zR (L:=0) rfl rfl rfl rfl (N:=["number","way"]) (caps:=[none,none]) (by show za3 ["built","trims","filing"] (zg zhQ).names _ _ _=true; decide +kernel)) (zey rfl T.n_zip (za (pv 0) (za (zv zdr hr dz (za (pv 1) (za (pv 2) zc))) zc))) (fun _ _ _ _=>(zd3 (n:=2) rfl (zai (zC (i:=0) (by show List.Nodup (["number","way"]:List Str); decide) rfl (Or.inl rfl)) (zai (zC (i:=1) (by show List.Nodup (["number","way"]:List Str); decide) rfl (Or.inl rfl)) zcO)))) (fun _ _ _ _=>zax) (fun _ _ _ _=>(zB zcB (pv 0) (zak zL (pv 1) zd (fun _ _=>rfl))))) zc)))),(zaB (zaR zeo (zf (za9 (zeH (zf zm (zf (zae (zf zm (zf zm zr))) zr))) (ze3 (zaF zy (zaF zy zdi))) zaw (zaj znK zm (zaj zdQ zm zO))) zr))),fun xs S R q=>q⟩
theorem zfD:Df P w K mg base "filing_price" ["trims","filing"] 3 (spN ["trims","filing"] zbm):=by
 exact Df.dN dd.a30 zfe 0 rfl fun f cdv A outer s H E hr=>⟨_,_,(zk (zx (zj (zku rfl) (by rfl) T.n_sum zpw (za (zaM (fun _ _ h=>h) rfl (zR (L:=0) rfl rfl rfl rfl (N:=["way"]) (caps:=[none]) (by show za3 ["trims","filing"] (zg zb4).names _ _ _=true; decide +kernel)) (zbW (zv zdr hr dz (za (pv 0) (za (pv 1) zc)))) (fun _ _ _ _=>(zC (i:=0) (by show List.Nodup (["way"]:List Str); decide) rfl (Or.inl rfl))) (fun _ _ _ _=>zax) (fun _ _ _ _=>(zak zL (pv 0) zd (fun _ _=>rfl)))) zc)))),(zaB (zaR zmA (zf (za9 (zcy (zae (zf zm (zf zm zr)))) zy zaw (zaj zdQ zm zO)) zr))),fun xs S R q=>q⟩
theorem zfi:Df P w K mg base "_law_filed_of" ["built","trims","filing"] 1 (spN ["built","trims","filing"] zc9):=by
 exact Df.dN dd.a31 zbI 2 rfl fun f cdv A outer s H E hr=>⟨_,_,(zh (zI (i:=3) zbI.nd rfl lo (zW za4 (by rfl) T.n_list zdV (za (pv 0) zc))) (zh (zb8 PassesOwn.never rfl (zat rfl T.n_range (za (zj zu (by rfl) T.n_len zY (za (pv 2) zc)) zc)) (zC (i:=4) zbI.nd rfl (Or.inl rfl)) (zk (za5 (zP zlR (zak zL (pv 2) (pv 4) (fun _ _=>rfl)) zd (nomark _)) (zk (ziL (zB zcB (zak zL (pv 3) (pv 4) (fun _ _=>rfl)) (zak zL (zak zL (zak zL (pv 1) (pv 4) (fun _ _=>rfl)) (zB zcB (zak zL (pv 2) (pv 4) (fun _ _=>rfl)) zd) (fun _ _=>rfl)) zd (fun _ _=>rfl))) (zir (pv 3) (pv 4) zev))) zM))) (zk (zx (zW zS (by rfl) T.n_tuple zag (za (pv 3) zc)))))),(by walk_at "r"),fun xs S R q=>q⟩
theorem zfj:Df P w K mg base "_law_price_of" ["trims","filing"] 1 (spN ["trims","filing"] zaJ):=by
 exact Df.dN dd.a32 za7 2 rfl fun f cdv A outer s H E hr=>⟨_,_,(zh (zI (i:=2) za7.nd rfl lo zd) (zh (zb8 PassesOwn.never rfl (zat rfl T.n_range (za (zj zu (by rfl) T.n_len zY (za (pv 1) zc)) zc)) (zC (i:=3) za7.nd rfl (Or.inl rfl)) (zk (zI (i:=2) za7.nd rfl lo (zB zE (pv 2) (zak zL (zB zE (zbf (za zd zc)) (zaM (fun _ _ h=>h) rfl (zR (L:=0) rfl rfl rfl rfl (N:=["much","price"]) (caps:=[none,none]) (by show za3 ["trims","filing","total","part"] (zg zbZ).names _ _ _=true; decide +kernel)) (zbW (zak zL (pv 0) (pv 3) (fun _ _=>rfl))) (fun _ _ _ _=>(zd3 (n:=2) rfl (zai (zC (i:=0) (by show List.Nodup (["much","price"]:List Str); decide) rfl (Or.inl rfl)) (zai (zC (i:=1) (by show List.Nodup (["much","price"]:List Str); decide) rfl (Or.inl rfl)) zcO)))) (fun _ _ _ _=>zax) (fun _ _ _ _=>(pv 1)))) (zak zL (pv 1) (pv 3) (fun _ _=>rfl)) (fun _ _=>rfl)))))) (zk (zx (pv 2))))),(zZ (zbp zO zy) (zZ (zg3 (by walk_at "r") zy (zbp (zaj zcx zm (zaj zdQ (zaj zcx (by walk_at "r") (za9 (zcy (zaj zdQ zm zm)) (ze3 (zaF zy (zaF zy zdi))) zaw zm)) (by walk_at "r"))) zy)) (zaB zm))),fun xs S R q=>q⟩
theorem zeC:Df P w K mg base "_law_right" ["built","trims","filing"] 4 (spN ["built","trims","filing"] zaA):=by
 exact Df.dN dd.a33 zcI 2 rfl fun f cdv A outer s H E hr=>⟨_,_,(zh (zI (i:=3) zcI.nd rfl lo (zv znB hr dz (za (pv 0) (za (pv 1) (za (pv 2) zc))))) (zh (za5 (PW.pt (zch (zaT (zU (zj zar (by rfl) T.n_isinstance zp (za (pv 3) (za (zaK rfl T.n_tuple zag (v:=.ty "tuple") rfl) zc))) (fun _=>rfl))) (zbC (zaT (zU (zj (zbt rfl) (by rfl) T.n_all zd0 (za (zaM (fun _ _ h=>h) rfl (zR (L:=0) rfl rfl rfl rfl (N:=["number"]) (caps:=[none]) (by show za3 ["built","trims","filing","left","told"] (zg zdj).names _ _ _=true; decide +kernel)) (zbW (pv 3)) (fun _ _ _ _=>(zC (i:=0) (by show List.Nodup (["number"]:List Str); decide) rfl (Or.inl rfl))) (fun _ _ _ _=>zax) (fun _ _ _ _=>(zv zci hr dz (za (pv 0) zc)))) zc)) (fun _=>rfl)))))) (zk (zx zbS)) zM) (zh (zI (i:=4) zcI.nd rfl lo (zv zfD hr dz (za (pv 1) (za (pv 2) zc)))) (zk (zx (zbJ (zbw (zbV hr.units) (pv 3) (zv zfi hr dz (za (pv 0) (za (pv 1) (za (pv 2) zc)))) (nomark _)) (zbJ (zv zci hr dz (za (pv 4) zc)) (zcC (zbw (zbV hr.units) (pv 4) (zv zfj hr dz (za (pv 1) (za (pv 2) zc))) (nomark _)))))))))),(zZ (by walk_at "r") (zZ (ze1 (zek (by walk_at "r") (zb6 (zca (zaR zdF (zf (za9 (zcy zm) zy zaw (zae (zf zm zr))) zr))))) (zaB zfo) zby) (by walk_at "r"))),fun xs S R q=>q⟩
theorem zeE:Df P w K mg base "_law_odd_trims" ["row","pen"] 3 (spN ["row","pen"] zbb):=by
 exact Df.dN dd.a34 zas 1 rfl fun f cdv A outer s H E hr=>⟨_,_,(QSs.out (zdJ (zgt (i:=2) zas.nd rfl (Or.inl rfl) (zg9 (zbU (QE.mk (zW za4 (by rfl) T.n_list zdV (za (pv 0) zc))) (zao (QE.mk zeD) (zao (QE.mk zbS) (zao (QE.mk zd) (zao (QE.mk zal) (zqO (QE.mk (zqi zif)) (zbU (QE.mk (zB zE (pv 0) (zaS (za (zaS (za zd (za zd zc))) zc)))) (zbU (QE.mk (zm8 (pv 0) (znh zj2 zd))) (zbU (QE.mk (zB zE (pv 0) (zaS (za zeD zc)))) (zaE (zaa (zaE (zaa (zao (QE.mk zd) (zao (QE.mk zd) zJ))) zJ)) zJ)))))))))))) (zdJ (zgt (i:=2) zas.nd rfl (Or.inl rfl) (znp zE (QE.mk (pv 2)) (zg9 (zaE (zaa (zaE (zaa (zao (QE.mk zd) (zao (QE.mk zd) zJ))) zJ)) (zaE (zaa (zaE (zaa (zbU (QE.mk (znh zj2 zd)) (zao (QE.mk zd) zJ))) zJ)) zJ))))) (zdJ (zgt (i:=2) zas.nd rfl (Or.inl rfl) (znp zE (QE.mk (pv 2)) (zg9 (zaE (zaa (zaE (zaa (zao (QE.mk zbS) (zao (QE.mk zd) zJ))) zJ)) (zaE (zaa (zaE (zaa (zao (QE.mk zd) (zao (QE.mk zeD) zJ))) zJ)) (zaE (zaa (zaE (zaa (zao (QE.mk zal) (zao (QE.mk zd) zJ))) zJ)) (zaE (zaa (zaE (zaa (zao (QE.mk zd) (zbU (QE.mk (zB zcD zd zd)) zJ))) zJ)) (zaE (zaa (zaE (zaa (zbU (QE.mk (zB zcD zd zd)) (zao (QE.mk zd) zJ))) zJ)) (zaE (zaa (zaE (zaa (zao (QE.mk zd) (zao (QE.mk zd) (zao (QE.mk zd) zJ)))) zJ)) (zaE (zaa (zqU (zg9 (zao (QE.mk zd) (zao (QE.mk zd) zJ))) zJ)) zJ)))))))))) (zdJ (zgt (i:=2) zas.nd rfl (Or.inl rfl) (znp zE (QE.mk (pv 2)) (zg9 (zaE (zaa (zaE (zaa (zao (QE.mk zd) (zao (QE.mk zd) zJ))) (zaE (zaa (zao (QE.mk zd) (zao (QE.mk zd) zJ))) (zaE (zaa (zao (QE.mk zd) (zao (QE.mk zd) zJ))) (zaE (zaa (zao (QE.mk zd) (zao (QE.mk zd) zJ))) zJ))))) (zaE (zaa (zaE (zaa (zao (QE.mk zd) (zao (QE.mk zd) zJ))) (zaE (zaa (zao (QE.mk zd) (zao (QE.mk zd) zJ))) zJ))) (zaE (zaa (zaE (zaa (zao (QE.mk zd) (zao (QE.mk zd) zJ))) (zaE (zaa (zao (QE.mk zd) (zao (QE.mk zd) zJ))) zJ))) (zaE (zaa (zaE (zaa (zao (QE.mk zd) zJ)) zJ)) (zaE (zaa (zaE (zaa (zbU (QE.mk (zB zcB (zB zcD zd zd) zd)) (zao (QE.mk zd) zJ))) zJ)) zJ)))))))) (QSs.mk (zk (zx (zak zL (pv 2) (zv zA hr dz (za (pv 1) (za (zj zu (by rfl) T.n_len zY (za (pv 2) zc)) zc))) (fun _ _=>rfl)))))))))),(by walk_at "r"),fun xs S R q=>q⟩
theorem zez:Df P w K mg base "_law_things_of" ["trims","pen"] 4 (spN ["trims","pen"] zay):=by
 exact Df.dN dd.a35 zaU 3 rfl fun f cdv A outer s H E hr=>⟨_,_,(zh (zI (i:=2) zaU.nd rfl lo (zW za4 (by rfl) T.n_list zdV (za (pv 0) zc))) (zh (zI (i:=3) zaU.nd rfl lo (zv zA hr dz (za (pv 1) (za zd zc)))) (zh (zI (i:=4) zaU.nd rfl lo (zv zA hr dz (za (pv 1) (za (zj zu (by rfl) T.n_len zY (za (pv 2) zc)) zc)))) (zh (za5 (zP zd9 (pv 3) zd (nomark _)) (zk (ziL (zv zeE hr dz (za (zak zL (pv 2) (pv 4) (fun _ _=>rfl)) (za (pv 1) zc))) (zir (pv 2) (pv 4) zev))) zM) (zh (za5 (zP (zbV hr.units) (pv 3) zd (nomark _)) (zk (zcq (ze8 PySem.F.plainAttrs_list PySem.F.slot_list_append PySem.F.type_list_append zbs (pv 2) (za (zaS zc) zc)))) zM) (zh (za5 (zP (zbV hr.units) (pv 3) zd (nomark _)) (zk (zcq (ze8 PySem.F.plainAttrs_list PySem.F.slot_list_pop PySem.F.type_list_pop zlF (pv 2) (za (pv 4) zc)))) zM) (zk (zx (pv 2))))))))),(by walk_at "r"),fun xs S R q=>q⟩
theorem zea:Df P w K mg base "_law_filing_due" ["trims","thing"] 2 (spN ["trims","thing"] zaX):=by
 exact Df.dN dd.a36 zdW 0 rfl fun f cdv A outer s H E hr=>⟨_,_,(zh (za5 (PW.pt (zch (zaT (zU (zj zar (by rfl) T.n_isinstance zp (za (pv 1) (za (zaK rfl T.n_tuple zag (v:=.ty "tuple") rfl) zc))) (fun _=>rfl))) (zbC (zP (zf0 hr.units) (zj zu (by rfl) T.n_len zY (za (pv 1) zc)) (zj zu (by rfl) T.n_len zY (za (pv 0) zc)) (nomark _))))) (zk (zx zbS)) zM) (zk (zx (zj (zbt rfl) (by rfl) T.n_all zd0 (za (zaM (fun _ _ h=>h) rfl (zR (L:=0) rfl rfl rfl rfl (N:=["number","one"]) (caps:=[none,none]) (by show za3 ["trims","thing"] (zg zbz).names _ _ _=true; decide +kernel)) (zey rfl T.n_zip (za (pv 1) (za (pv 0) zc))) (fun _ _ _ _=>(zd3 (n:=2) rfl (zai (zC (i:=0) (by show List.Nodup (["number","one"]:List Str); decide) rfl (Or.inl rfl)) (zai (zC (i:=1) (by show List.Nodup (["number","one"]:List Str); decide) rfl (Or.inl rfl)) zcO)))) (fun _ _ _ _=>zax) (fun _ _ _ _=>(zbJ (zv zci hr dz (za (pv 0) zc)) (zcC (zgg zol zol zd (pv 0) (zj zu (by rfl) T.n_len zY (za (pv 1) zc))))))) zc))))),(zZ (by walk_at "r") (zaB (zaR zdF (zf (za9 (zeH (zf zm (zf zm zr))) (ze3 (zaF zy (zaF zy zdi))) zaw (zdy (zae (zf zm zr)) (zgr zfk zfk zO zm (zaR zdT (zf zm zr))))) zr)))),fun xs S R q=>q⟩
theorem ok_law{f:Addr}{fd:FuncData}(F:Fun K "law" "law" s_law f fd):FnOk P w K mg base CX0 11 f fd ["script"] (sp1 (zqF K)):=by
 refine F.ok1 zc6 (fun v=>[some v,none,none,none,none,none,none,none,none,none]) (fun _=>rfl) fun cdv A outer s H v Q E hr h=>?_;obtain⟨a,ns,rfl,hS,hlen,q⟩:=h;refine⟨_,(zh (za5 (PW.pt (zch (zaT (zU (zv zcW hr dz (za (zaS (za (zaS (za zal (za zd (za zd zc)))) zc)) (za (zbf zc) zc))) (fun _=>rfl))) (zbC (zaT (zU (zv zcW hr dz (za (zaS (za (zaS (za zal (za zd (za zd zc)))) zc)) (za (zbf (za (zaS zc) zc)) zc))) (fun _=>rfl)))))) (zk (zx zbS)) zM) (zh (zb8 PassesOwn.never rfl (zog (zB zkm (zbf (za (zpO zgn hr dz (pv 0) zd) zc)) (zbY zjZ (pv 0) (zcs zd) (zcs zd)))) (zC (i:=1) zc6.nd rfl (Or.inl rfl)) (zh (zI (i:=2) zc6.nd rfl (Or.inr rfl) (zv zhw hr dz (za (pv 1) zc))) (zh (zI (i:=3) zc6.nd rfl lo (zv zee hr dz (za (pv 2) (za zd zc)))) (zh (zI (i:=4) zc6.nd rfl lo (zv zfu hr dz (za (pv 2) (za (pv 3) zc)))) (zh (zI (i:=5) zc6.nd rfl lo (zv zks hr dz (za (pv 2) (za (pv 3) zc)))) (zk (zb8 PassesOwn.never rfl (zat rfl T.n_range (za zd zc)) (zC (i:=6) zc6.nd rfl (Or.inl rfl)) (zh (za5 (PW.pt (zch (zaT (zU (zv zcW hr dz (za (pv 3) (za (zv zez hr dz (za (pv 4) (za (pv 2) zc))) zc))) (fun _=>rfl))) (zbC (zaT (zU (zv zcW hr dz (za (pv 3) (za (zW za4 (by rfl) T.n_list zdV (za (pv 4) zc)) zc))) (fun _=>rfl)))))) (zk (zx zbS)) zM) (zh (zI (i:=7) zc6.nd rfl lo (zW zS (by rfl) T.n_tuple zag (za (zaM (fun _ _ h=>h) rfl (zR rfl rfl rfl rfl (N:=["one","pen"]) (caps:=[none,some 2]) (by show za3 ["script","cell","pen","drawing","trims","built","turn","filing","thing","told"] (zg s_law).names _ _ _=true; decide +kernel)) (zbW (pv 4)) (fun _ _ _ _=>(zC (i:=0) (by show List.Nodup (["one","pen"]:List Str); decide) rfl (Or.inl rfl))) (fun _ _ _ _=>zax) (fun _ _ _ _=>(zv zA hr dz (za (pv 1) (za (zB (znG (K:=K) rfl) (zj (zj3 (K:=K) rfl) (by rfl) T.n_len zY (za (pv 0) zc)) zd) zc))))) zc))) (zh (zb8 PassesOwn.never rfl (zbW (zbf (za (pv 7) (za (zB zgY (zaS (za zd zc)) (zj zu (by rfl) T.n_len zY (za (pv 4) zc))) (za (zv zeh hr dz (za (pv 7) (za (pv 4) (za (pv 2) zc)))) zc))))) (zC (i:=8) zc6.nd rfl (Or.inl rfl)) (zh (zI (i:=9) zc6.nd rfl lo (zv zhM hr dz (za (pv 4) (za (pv 8) zc)))) (zk (za5 (PW.pt (zch (zaT (zU (zj zar (by rfl) T.n_isinstance zp (za (pv 9) (za (zaK rfl T.n_bool zf8 (v:=.ty "bool") rfl) zc))) (fun _=>rfl))) (zbC (zP (zf0 hr.units) (pv 9) (zv zea hr dz (za (pv 4) (za (pv 8) zc))) (nomark _))))) (zk (zx zbS)) zM)))) (zk (za5 (PW.pt (zch (zaT (zU (zv zeC hr dz (za (pv 5) (za (pv 4) (za (pv 7) zc)))) (fun _=>rfl))) (zbC (zaT (zU (zv zeC hr dz (za (pv 5) (za (pv 4) (za (zB zgY (zaS (za zd zc)) (zj zu (by rfl) T.n_len zY (za (pv 4) zc))) zc)))) (fun _=>rfl)))))) (zk (zx zbS)) zM)))))))))))) (zk (zx zbS)))),?_⟩;refine znd (a:=a) (m:=9) (dt:=zhW) (ze1 (zek (zb6 (zca (zae (zf (zdb (zf (zdb (zf zeI (zf zO (zf zO zr)))) zr)) (zf (zdZ zr) zr))))) (zb6 (zca (zae (zf (zdb (zf (zdb (zf zeI (zf zO (zf zO zr)))) zr)) (zf (zdZ (zf (zdb zr) zr)) zr)))))) (zaB zfo) zby) rfl rfl (zjr a) fun σ1 H1 z0 z1 s1=>?_;exact zoa (m:=9) (db:=znl) (zZ (zbp (zae (zf zm zr)) zy) (zZ (zbp (zcn (i:=0) (zf zm (zf zO zr))) zy) (zZ (zbp (zcn (i:=0) (zf zm (zf zm zr))) zy) (zZ (zbp (zcn (i:=0) (zf zm (zf zm zr))) zy) (zg3 (zdD (zf zO zr)) zy (zZ (ze1 (zek (zb6 (zca (zae (zf zm (zf (zcn (i:=1) (zf zm (zf zm zr))) zr))))) (zb6 (zca (zae (zf zm (zf (zaR zig (zf zm zr)) zr)))))) (zaB zfo) zby) (zZ (zbp (zaR zeo (zf (za9 (zcy zm) zy zaw (zcn (i:=0) (zf zm (zf (zaj zcx (zaR zdT (zf zm zr)) zO) zr)))) zr)) zy) (zZ (zg3 (zcy (zdZ (zf zm (zf (zaj zeK (zdb (zf zO zr)) (zaR zdT (zf zm zr))) (zf (zcn (i:=2) (zf zm (zf zm (zf zm zr)))) zr))))) zy (zZ (zbp (zae (zf zm (zf zm zr))) zy) (ze1 (zek (zb6 (zca (zaR zmT (zf zm (zf zrv zr))))) (zqx (zaj ziC zm (zae (zf zm (zf zm zr)))))) (zaB zfo) zby))) (ze1 (zek (zb6 (zca (zae (zf zm (zf zm (zf zm zr)))))) (zb6 (zca (zae (zf zm (zf zm (zf (zaj zeK (zdb (zf zO zr)) (zaR zdT (zf zm zr))) zr))))))) (zaB zfo) zby))))))))) z0 z1 (s1.seq hS) hlen (fun n=>zhP a n) dz fun _ H2 _=>q H2
end
end My
theorem zdw:L2.tabsG=[((226,222),L2.lamKey (("trims_of" ++ ".<locals>.") ++ "<lambda>") ⟨59,42,0,0⟩)]:=rfl
namespace PySem.W.Fast
def tw13131832415189880793:Unit:=()
def tw9901518699426411313:Unit:=()
def tw7888624607647213093:Unit:=()
def tw11304332206874272517:Unit:=()
def tw13388669917721262924:Unit:=()
def tw2453453476541773836:Unit:=()
def tw12157309241695972805:Unit:=()
def tw1367914844027379438:Unit:=()
def tw2751093587232662068:Unit:=()
def tw2236263228708579934:Unit:=()
def tw6358276550591666468:Unit:=()
def tw9170441534614925531:Unit:=()
def tw14388736847276929948:Unit:=()
def tw3005248251088389272:Unit:=()
def tw5098001071482044698:Unit:=()
def tw521222693294246940:Unit:=()
def tw8728718247413662366:Unit:=()
def tw7493771629468178167:Unit:=()
def tw3535520827656067358:Unit:=()
def tw4956969226210811717:Unit:=()
def tw509449562537830501:Unit:=()
def tw1356824275981942268:Unit:=()
def tw13106833226565169513:Unit:=()
def tw197807994247357529:Unit:=()
def tw8690534429636731762:Unit:=()
def tw10184290796653937663:Unit:=()
def tw4552708980418647480:Unit:=()
def tw9224373534319519228:Unit:=()
def tw11641580705657191375:Unit:=()
def tw1298420654742859398:Unit:=()
def tw6737231938591695807:Unit:=()
def tw17657616419544423330:Unit:=()
def tw404555714273982307:Unit:=()
def tw12300182705404864733:Unit:=()
def tw8097711125641010635:Unit:=()
def tw4093359725974772705:Unit:=()
def tw4925096920894184662:Unit:=()
def tw8187629832050277056:Unit:=()
def tw13752274669701175620:Unit:=()
def tw5701711156135430748:Unit:=()
def tw16617401848185894803:Unit:=()
def tw7780404853196811129:Unit:=()
def tw5671283298379383249:Unit:=()
def tw14894474067753480817:Unit:=()
def tw521679600791396308:Unit:=()
def tw15640907139008903579:Unit:=()
def tw15956022765361401255:Unit:=()
def tw5767226031361935646:Unit:=()
def tw498559212181651809:Unit:=()
def tw6501731151970613984:Unit:=()
def tw3394875724575503563:Unit:=()
def tw11894608402023991770:Unit:=()
def tw10878950564486952584:Unit:=()
def tw3697838350374512632:Unit:=()
def tw940514018212519836:Unit:=()
def tw6337130936845079048:Unit:=()
def tw17888738884763311685:Unit:=()
def tw16795142798490714261:Unit:=()
def tw18123815783529314549:Unit:=()
def tw8551774019986871836:Unit:=()
def tw13371869785670073358:Unit:=()
def tw8150092951446957845:Unit:=()
def tw11468071773925715027:Unit:=()
def tw12217217996708052572:Unit:=()
def tw6307863656524064678:Unit:=()
def tw5085584818575479108:Unit:=()
def tw16598412975136889753:Unit:=()
def tw790513648154480627:Unit:=()
def tw13894773684423888158:Unit:=()
def tw9680231224386942062:Unit:=()
def tw14399125104582068519:Unit:=()
def tw2911473397852300823:Unit:=()
def tw10030112338043451437:Unit:=()
def tw10734028917516169332:Unit:=()
def tw3495037766458467312:Unit:=()
def tw12727352639536777591:Unit:=()
def tw9962370705247332488:Unit:=()
def tw8452249095069396291:Unit:=()
def tw5021419991797352194:Unit:=()
def tw2947559924321222554:Unit:=()
def tw15198494995031043202:Unit:=()
def tw16198982434022214790:Unit:=()
def tw13481833652226516673:Unit:=()
def tw5318609060621557301:Unit:=()
def tw3552400120553922989:Unit:=()
def tw17402572668855874630:Unit:=()
def tw17422016497628968777:Unit:=()
def tw9123971047560233918:Unit:=()
def tw7222241466470127110:Unit:=()
def tw10516801209990488154:Unit:=()
def tw6146503268391943214:Unit:=()
def tw11924871749412438317:Unit:=()
def tw4854089379905532840:Unit:=()
def tw1405449417936019138:Unit:=()
def tw8482964775858874268:Unit:=()
def tw17374185232106575618:Unit:=()
def tw4830385681365115132:Unit:=()
def tw2260694444637093741:Unit:=()
def tw5702946008667748:Unit:=()
def tw14324306693459006301:Unit:=()
def tw15998940934464706038:Unit:=()
def tw5033940939729768350:Unit:=()
def tw3861129610699424672:Unit:=()
def tw9259855599111870772:Unit:=()
def tw14221564924819051698:Unit:=()
def tw6160734302994703105:Unit:=()
def tw8574059918004336071:Unit:=()
def tw4750610404857050721:Unit:=()
def tw2315584528260904961:Unit:=()
def tw10027460338372125263:Unit:=()
def tw10093583513778498732:Unit:=()
def tw8933495785588894129:Unit:=()
def tw3895254815538835389:Unit:=()
def tw11248905063292908930:Unit:=()
def tw967090889605314917:Unit:=()
def tw405374526545824765:Unit:=()
def tw1844058977412076732:Unit:=()
def tw13791712594333691828:Unit:=()
def tw16803870189938751405:Unit:=()
def tw2820739385654919760:Unit:=()
def tw3479859843768155975:Unit:=()
def tw13880826609807278332:Unit:=()
def tw4816375958186216489:Unit:=()
def tw12415082806161559575:Unit:=()
def tw18233706844927459829:Unit:=()
def tw694540532148657678:Unit:=()
def tw3737782064296441752:Unit:=()
def tw15596656566237273442:Unit:=()
def tw10498926033275046350:Unit:=()
def tw18040406484892213899:Unit:=()
def tw15316152559573301127:Unit:=()
def tw17593089413248652885:Unit:=()
def tw11362973305511060372:Unit:=()
def tw6416441004570822731:Unit:=()
def tw973032955650418458:Unit:=()
def tw4357780526533528992:Unit:=()
def tw10590305584650622988:Unit:=()
def tw4440611499245185941:Unit:=()
def tw6435944200625168308:Unit:=()
def tw4388033776842789692:Unit:=()
def tw10085795299068708456:Unit:=()
def tw4298788647229850327:Unit:=()
def tw3263586133378072099:Unit:=()
def tw2569620294076512861:Unit:=()
def tw1101852546449524722:Unit:=()
def tw17779466100732392265:Unit:=()
def tw7732898103536554978:Unit:=()
def tw9171948893637177177:Unit:=()
def tw18233068267766506223:Unit:=()
def tw2771338763123873221:Unit:=()
def tw7482776394543258180:Unit:=()
def tw10275384466671977899:Unit:=()
def tw2739324408247642055:Unit:=()
def tw3242466310472149416:Unit:=()
def tw17859493472663867687:Unit:=()
def tw7586088836273759606:Unit:=()
def tw12084573954172798406:Unit:=()
def tw6840912872206279053:Unit:=()
def tw16203423016865553441:Unit:=()
def tw18038708316382419431:Unit:=()
def tw8178432934594411509:Unit:=()
def tw10115384325064741612:Unit:=()
def tw3460573234423507160:Unit:=()
def tw11050289981389809154:Unit:=()
def tw7062167800776168496:Unit:=()
def tw13776299071542415297:Unit:=()
def tw14986471147372837122:Unit:=()
def tw8350747188957485285:Unit:=()
def tw11349926092049779943:Unit:=()
def tw16650322705848829618:Unit:=()
def tw9656311723868984608:Unit:=()
def tw1346520921554080022:Unit:=()
def tw6330541158892519605:Unit:=()
def tw12301584793208635105:Unit:=()
def tw7032916759019494722:Unit:=()
def tw522396456934651065:Unit:=()
def tw6382905686120685641:Unit:=()
def tw7998133306277866963:Unit:=()
def tw14571366305916357660:Unit:=()
def tw4200952858698326583:Unit:=()
def tw16837582233665296399:Unit:=()
def tw17965603868495526283:Unit:=()
def tw3673891220132783624:Unit:=()
end PySem.W.Fast
open PySem PySem.W PyProof.Rows L2
set_option maxRecDepth 100000 in
set_option maxHeartbeats 0 in
theorem PySem.Challenge.cw_gaugewright_k66_trims_and_filings_holds : PySem.Challenge.rw_gaugewright_k66_trims_and_filings.Holds := by
 w_on; o_law; k_head; (case hw=>w_witness2)
 k_fill
 refine L2.walk_law (l := PySem.Challenge.rw_gaugewright_k66_trims_and_filings) (k := 11) rfl rfl ⟨rfl, by decide, by decide⟩ (fun w h Y => W.km_in_of Y) ?TT ?F
 case TT =>
  intro w h Y;have KX:=W.km_in_of Y;have t8:=W.km_tabs_of Y;refine⟨?nd,?hd,?em,?of⟩
  case nd=>rw [zdw]; exact nodup_cons.mpr ⟨by simp,nodup_nil⟩
  case hd=>rw [zdw]; exact List.forall_mem_cons.mpr ⟨W.codeHd_of_K (c:=226) (P:=222) KX (by kernel_rfl),fun _ h=>nomatch h⟩
  case em=>rw [zdw]; exact List.forall_mem_cons.mpr ⟨t8 222 (by k_mem),fun _ h=>nomatch h⟩
  case of=>rw [zdw]; exact List.forall_mem_cons.mpr ⟨(by kernel_rfl),fun _ h=>nomatch h⟩
 case F =>
  intro w mg fa h KX G hmg;have d_law:Dd (L2.KOf KX) mg "law" My.s_law ["script"]:=by
   dsimp only [L2.KOf];refine' Dd.mk' KX G ?a ?l ?c ?k ?b
   (case a=>k_is); (case l=>k_is); (case c=>k_is); (case k=>k_is); (case b=>intro _ _ _ _ _ _ us hl; obtain⟨_,rfl⟩:=L2.len1 hl; rfl)
  have g15:∃ t,mg "MOST_TRIMS" = some (.int 3 t):=by
   apply Exists.intro;apply W.mg_of KX G
   k_is
  have T:My.Txt mg:=by
   refine' ⟨W.mg_none_of KX G ?z0,W.mg_none_of KX G ?z1,W.mg_none_of KX G ?z2,W.mg_none_of KX G ?z3,W.mg_none_of KX G ?z4,W.mg_none_of KX G ?z5,W.mg_none_of KX G ?z6,W.mg_none_of KX G ?z7,W.mg_none_of KX G ?z8,W.mg_none_of KX G ?z9,W.mg_none_of KX G ?z10,W.mg_none_of KX G ?z11,W.mg_none_of KX G ?z12,W.mg_none_of KX G ?z13,W.mg_none_of KX G ?z14,g15⟩
   (case z0=>k_is); (case z1=>k_is); (case z2=>k_is); (case z3=>k_is); (case z4=>k_is); (case z5=>k_is); (case z6=>k_is); (case z7=>k_is); (case z8=>k_is); (case z9=>k_is); (case z10=>k_is); (case z11=>k_is); (case z12=>k_is); (case z13=>k_is); (case z14=>k_is)
  have m24:mg "GaugeError" = some (.ref 24):=by
   apply W.mg_of KX G
   k_is
  have c24:L2.ExCls (L2.KOf KX) 24 none:=by
   apply L2.exc_of_in;dsimp only [L2.KOf,L2.veB]
   k_exc
  have m37:mg "NoSpan" = some (.ref 37):=by
   apply W.mg_of KX G
   k_is
  have k37:L2.ExK (L2.KOf KX) 37:=by
   dsimp only [L2.KOf];refine' L2.ExK.mk' ?a ?b ?c ?d ?e ?f
   (case a=>k_is); (case b=>k_is); (case c=>k_is); (case d=>k_is); (case e=>k_is); (case f=>rfl)
  have c37:L2.ExCls (L2.KOf KX) 37 none:=by
   apply L2.exc_of_in;dsimp only [L2.KOf,L2.veB]
   k_exc
  have m49:mg "NoPart" = some (.ref 49):=by
   apply W.mg_of KX G
   k_is
  have k49:L2.ExK (L2.KOf KX) 49:=by
   dsimp only [L2.KOf];refine' L2.ExK.mk' ?a ?b ?c ?d ?e ?f
   (case a=>k_is); (case b=>k_is); (case c=>k_is); (case d=>k_is); (case e=>k_is); (case f=>rfl)
  have c49:L2.ExCls (L2.KOf KX) 49 none:=by
   apply L2.exc_of_in;dsimp only [L2.KOf,L2.veB]
   k_exc
  have m61:mg "NoSet" = some (.ref 61):=by
   apply W.mg_of KX G
   k_is
  have k61:L2.ExK (L2.KOf KX) 61:=by
   dsimp only [L2.KOf];refine' L2.ExK.mk' ?a ?b ?c ?d ?e ?f
   (case a=>k_is); (case b=>k_is); (case c=>k_is); (case d=>k_is); (case e=>k_is); (case f=>rfl)
  have c61:L2.ExCls (L2.KOf KX) 61 none:=by
   apply L2.exc_of_in;dsimp only [L2.KOf,L2.veB]
   k_exc
  have m73:mg "NoRow" = some (.ref 73):=by
   apply W.mg_of KX G
   k_is
  have k73:L2.ExK (L2.KOf KX) 73:=by
   dsimp only [L2.KOf];refine' L2.ExK.mk' ?a ?b ?c ?d ?e ?f
   (case a=>k_is); (case b=>k_is); (case c=>k_is); (case d=>k_is); (case e=>k_is); (case f=>rfl)
  have c73:L2.ExCls (L2.KOf KX) 73 none:=by
   apply L2.exc_of_in;dsimp only [L2.KOf,L2.veB]
   k_exc
  have m85:mg "Unlike" = some (.ref 85):=by
   apply W.mg_of KX G
   k_is
  have k85:L2.ExK (L2.KOf KX) 85:=by
   dsimp only [L2.KOf];refine' L2.ExK.mk' ?a ?b ?c ?d ?e ?f
   (case a=>k_is); (case b=>k_is); (case c=>k_is); (case d=>k_is); (case e=>k_is); (case f=>rfl)
  have c85:L2.ExCls (L2.KOf KX) 85 none:=by
   apply L2.exc_of_in;dsimp only [L2.KOf,L2.veB]
   k_exc
  have m104:mg "NoDrawing" = some (.ref 104):=by
   apply W.mg_of KX G
   k_is
  have k104:L2.ExK (L2.KOf KX) 104:=by
   dsimp only [L2.KOf];refine' L2.ExK.mk' ?a ?b ?c ?d ?e ?f
   (case a=>k_is); (case b=>k_is); (case c=>k_is); (case d=>k_is); (case e=>k_is); (case f=>rfl)
  have m123:mg "NoGap" = some (.ref 123):=by
   apply W.mg_of KX G
   k_is
  have k123:L2.ExK (L2.KOf KX) 123:=by
   dsimp only [L2.KOf];refine' L2.ExK.mk' ?a ?b ?c ?d ?e ?f
   (case a=>k_is); (case b=>k_is); (case c=>k_is); (case d=>k_is); (case e=>k_is); (case f=>rfl)
  have m142:mg "NoOffer" = some (.ref 142):=by
   apply W.mg_of KX G
   k_is
  have k142:L2.ExK (L2.KOf KX) 142:=by
   dsimp only [L2.KOf];refine' L2.ExK.mk' ?a ?b ?c ?d ?e ?f
   (case a=>k_is); (case b=>k_is); (case c=>k_is); (case d=>k_is); (case e=>k_is); (case f=>rfl)
  have m161:mg "NoText" = some (.ref 161):=by
   apply W.mg_of KX G
   k_is
  have k161:L2.ExK (L2.KOf KX) 161:=by
   dsimp only [L2.KOf];refine' L2.ExK.mk' ?a ?b ?c ?d ?e ?f
   (case a=>k_is); (case b=>k_is); (case c=>k_is); (case d=>k_is); (case e=>k_is); (case f=>rfl)
  have m180:mg "TooGreat" = some (.ref 180):=by
   apply W.mg_of KX G
   k_is
  have k180:L2.ExK (L2.KOf KX) 180:=by
   dsimp only [L2.KOf];refine' L2.ExK.mk' ?a ?b ?c ?d ?e ?f
   (case a=>k_is); (case b=>k_is); (case c=>k_is); (case d=>k_is); (case e=>k_is); (case f=>rfl)
  have sp:L2.SpK (L2.KOf KX):=by
   dsimp only [L2.KOf];refine' ⟨?a,?b⟩
   (case a=>k_is); (case b=>k_is)
  have i37:∃ ini,L2.ExCls (L2.KOf KX) 37 ini:=⟨_,c37⟩;have i49:∃ ini,L2.ExCls (L2.KOf KX) 49 ini:=⟨_,c49⟩;have i61:∃ ini,L2.ExCls (L2.KOf KX) 61 ini:=⟨_,c61⟩;have i73:∃ ini,L2.ExCls (L2.KOf KX) 73 ini:=⟨_,c73⟩;have i85:∃ ini,L2.ExCls (L2.KOf KX) 85 ini:=⟨_,c85⟩;have i104:∃ ini,L2.ExCls (L2.KOf KX) 104 ini:=by
   apply Exists.intro;refine' L2.exc_ofI ?l ?o ?s ?i c24
   (case l=>dsimp only [L2.KOf]; k_is); (case o=>dsimp only [L2.KOf]; k_is); (case s=>rfl); (case i=>dsimp only [L2.KOf]; k_is)
  have i123:∃ ini,L2.ExCls (L2.KOf KX) 123 ini:=by
   apply Exists.intro;refine' L2.exc_ofI ?l ?o ?s ?i c24
   (case l=>dsimp only [L2.KOf]; k_is); (case o=>dsimp only [L2.KOf]; k_is); (case s=>rfl); (case i=>dsimp only [L2.KOf]; k_is)
  have i142:∃ ini,L2.ExCls (L2.KOf KX) 142 ini:=by
   apply Exists.intro;refine' L2.exc_ofI ?l ?o ?s ?i c24
   (case l=>dsimp only [L2.KOf]; k_is); (case o=>dsimp only [L2.KOf]; k_is); (case s=>rfl); (case i=>dsimp only [L2.KOf]; k_is)
  have i161:∃ ini,L2.ExCls (L2.KOf KX) 161 ini:=by
   apply Exists.intro;refine' L2.exc_ofI ?l ?o ?s ?i c24
   (case l=>dsimp only [L2.KOf]; k_is); (case o=>dsimp only [L2.KOf]; k_is); (case s=>rfl); (case i=>dsimp only [L2.KOf]; k_is)
  have i180:∃ ini,L2.ExCls (L2.KOf KX) 180 ini:=by
   apply Exists.intro;refine' L2.exc_ofI ?l ?o ?s ?i c24
   (case l=>dsimp only [L2.KOf]; k_is); (case o=>dsimp only [L2.KOf]; k_is); (case s=>rfl); (case i=>dsimp only [L2.KOf]; k_is)
  have n104_number:L2.NoAttr (L2.KOf KX) 104 "number":=by
   unfold L2.NoAttr;dsimp only [L2.KOf]
   k_is
  have e104:L2.ExI (L2.KOf KX) 104:=by
   refine' ⟨k104,?b,?c⟩
   (case b=>dsimp only [L2.KOf]; k_is); (case c=>dsimp only [L2.KOf]; k_is)
  have n142_number:L2.NoAttr (L2.KOf KX) 142 "number":=by
   unfold L2.NoAttr;dsimp only [L2.KOf]
   k_is
  have e142:L2.ExI (L2.KOf KX) 142:=by
   refine' ⟨k142,?b,?c⟩
   (case b=>dsimp only [L2.KOf]; k_is); (case c=>dsimp only [L2.KOf]; k_is)
  have r142:L2.XI (L2.KOf KX) 142 ["number"] "NoOffer.__init__" My.s_I_NoOffer:=by
   refine' L2.XI.mk' ?l ?o ?s ?i c24 ?t ?f ?c ?k ?b ?kc k142 e142.hd e142.sa ?na
   (case l=>dsimp only [L2.KOf]; k_is); (case o=>dsimp only [L2.KOf]; k_is); (case s=>rfl); (case i=>dsimp only [L2.KOf]; k_is); (case t=>dsimp only [L2.KOf]; k_is); (case f=>dsimp only [L2.KOf]; k_is); (case c=>dsimp only [L2.KOf]; k_is); (case k=>dsimp only [L2.KOf]; k_is); (case b=>intro _ _ _ _ _ _ us hl; obtain⟨_,_,rfl⟩:=L2.len2 hl; rfl); (case kc=>dsimp only [L2.KOf]; k_is)
   (case na=>intro a m; simp only [mem_cons,not_mem_nil,or_false] at m; rcases m with rfl <;> assumption)
  have a_number:L2.ExsI (L2.KOf KX) [104,142] "number":=by
   refine⟨fun C m=>?_,fun C m=>?_⟩
   ·simp only [mem_cons,not_mem_nil,or_false] at m;rcases m with rfl | rfl <;> assumption
   ·simp only [mem_cons,not_mem_nil,or_false] at m;rcases m with rfl | rfl <;> assumption
  have ex:L2.Exs (L2.KOf KX):=by
   refine⟨sp,fun C m=>?_,fun C m=>?_,fun C m=>?_⟩
   ·simp only [L2.excs,mem_cons,not_mem_nil,or_false] at m;rcases m with rfl | rfl | rfl | rfl | rfl | rfl | rfl | rfl | rfl | rfl <;> assumption
   ·simp only [L2.exc0,mem_cons,not_mem_nil,or_false] at m;rcases m with rfl | rfl | rfl | rfl | rfl <;> assumption
   ·simp only [L2.excs,mem_cons,not_mem_nil,or_false] at m;rcases m with rfl | rfl | rfl | rfl | rfl | rfl | rfl | rfl | rfl | rfl <;> assumption
  have xx:My.Exx (L2.KOf KX) mg:=⟨ex,m24,m37,m49,m61,m73,m85,m104,m123,m142,m161,m180,c24,c37,c49,c61,c73,c85,r142,a_number⟩;have dd:My.Dds (L2.KOf KX) mg:=by constructor <;> (dsimp only [L2.KOf]; refine' Dd.mk' KX G ?a ?l ?c ?k ?b; (case a=>k_is); (case l=>k_is); (case c=>k_is); (case k=>k_is); (case b=>(intro _ _ _ _ _ _ us hl; first | (obtain⟨_,rfl⟩:=L2.len1 hl; rfl) | (obtain⟨_,_,rfl⟩:=L2.len2 hl; rfl) | (obtain⟨_,_,_,rfl⟩:=L2.len3 hl; rfl))))
  obtain⟨f,fd,F,hm,_⟩:=d_law.ex;have e0:=hmg.symm.trans hm;cases e0;have ll:My.Lams (L2.KOf KX) mg:=⟨⟨226,222,L2.CodeAt.of (P:=222) KX G (by dsimp only [L2.KOf]; kernel_rfl),by rw [zdw]; exact mem_cons_self⟩⟩;exact⟨fd,F.bind1 fun _ _ _ _ _ _ _=>rfl,fun base _ _=>My.ok_law T dd xx ll F⟩
#print axioms PySem.Challenge.cw_gaugewright_k66_trims_and_filings_holds
end