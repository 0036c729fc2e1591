import PyProof.Rows.All
import Wide.All
import OpenK.AllK
import Wide.FinOn
import Lean
import PyProof.EqAt
import PyProof.EqKinds
import PyProof.TupleCall
import KE.KTupSum
import KE.KSortTup
import PyProof.SetKind
import PyProof.SetRoads
import PyProof.SetNew
import PyProof.DictKinds
import PyProof.NsDelKeeps
import PyProof.StrWalks
import KE.KEqDict
import KE.KDictList
import PyProof.AttrMissSeq
import PyProof.WalksMore
import KE.KDictOf
import PyProof.Rows.Range3
import KE.KItemsList
import PyProof.FactsAll.dict_3
import KE.KMinKey
import PyProof.Rows.CallKwBuiltin
import PyProof.TupleOfSeq
import KE.KLam
import KE.KNestM
import PyProof.Rows.StrNews
import KE.KIntText
import PyProof.StrLawsTight
import PyProof.StrLawsChain
import PyProof.Rows.CatFin
import PySem.Challenge.RW_gaugewright_k71_jobs_read
open Option (isSome_iff_exists isSome_map map_eq_some_iff map_some toList_some)
open Nat (le_add_right le_of_lt le_refl le_succ le_trans lt_irrefl lt_of_le_of_lt lt_of_lt_of_le lt_or_ge lt_succ_of_lt lt_succ_self ne_of_gt ne_of_lt succ_ne_self zero_add zero_le)
open List (all_cons all_eq_true all_map any_cons append_assoc append_nil cons_append drop_length eq_nil_of_length_eq_zero filterMap_cons find?_cons flatMap_cons flatten_cons foldl_cons forIn_cons forIn_nil getD_eq_getElem?_getD getElem?_append_left getElem?_append_right getElem?_concat_length getElem?_cons_succ getElem?_cons_zero getElem?_eq_getElem getElem?_map getElem?_set_ne getElem?_set_self length_append length_cons length_drop length_map length_nil length_set length_singleton length_take lookup_cons map_append map_cons map_map map_nil map_take mem_append mem_append_left mem_append_right mem_cons mem_cons_of_mem mem_cons_self mem_filter mem_iff_getElem? mem_map mem_of_getElem? mem_of_mem_take mem_range mem_singleton nil_append nodup_append nodup_cons nodup_nil not_mem_nil of_mem_zip replicate_succ reverse_cons set_cons_succ set_cons_zero size_toArray take_add_one take_length take_of_length_le take_zero)
open PySem.Heap (get?_push_of_some get?_push_size get?_update_other get?_update_self lt_size size_push size_update)
open Array (length_toList)
theorem dz{p:Prop}[Decidable p](h:decide p=true:=by rfl):p:=of_decide_eq_true h
set_option Elab.async false
set_option linter.all false
set_option maxRecDepth 100000
set_option maxHeartbeats 8000000
noncomputable section
namespace L2
open PySem PySem.Spec PyProof.Rows
section
abbrev Key:=Sum Int Str
def zjM:Key->Value->Bool
 | .inl k,v=>Value.isInt k v
 | .inr x,v=>Value.isStrOf x v
def zso(w:World):Key->Int
 | .inl k=>hashInt k
 | .inr x=>hashStr w x
theorem zax:∀ {k:Key} {v:Value},zjM k v=true->(∃ i t,k=Sum.inl i/\v=Value.int i t)\/(∃ x t,k=Sum.inr x/\v=Value.str x t)
 | .inl i,v,h=>by
  obtain⟨t,e⟩:=Value.isInt_shape (k:=i) (v:=v) h;exact .inl ⟨i,t,rfl,e⟩
 | .inr x,v,h=>by
  obtain⟨t,e⟩:=Value.isStrOf_shape (x:=x) (v:=v) h;exact .inr ⟨x,t,rfl,e⟩
theorem zke(i:Int)(t:Tok):zjM (.inl i) (.int i t)=true:=by simp [zjM,Value.isInt]
theorem zlF(x:Str)(t:Tok):zjM (.inr x) (.str x t)=true:=by simp [zjM,Value.isStrOf]
theorem zqs(a b:Int):decide ((Sum.inl a:Key)=Sum.inl b)=(a == b):=by
 by_cases e:a=b
 ·subst e; simp
 ·have h:¬ (Sum.inl a:Key)=Sum.inl b:=fun q=>e (Sum.inl.inj q);rw [decide_eq_false h];exact(beq_eq_false_iff_ne.mpr e).symm
theorem zpe(a b:Str):decide ((Sum.inr a:Key)=Sum.inr b)=decide (a=b):=by
 by_cases e:a=b
 ·subst e; simp
 ·have h:¬ (Sum.inr a:Key)=Sum.inr b:=fun q=>e (Sum.inr.inj q);rw [decide_eq_false h,decide_eq_false e]
theorem zqj(a:Int)(b:Str):decide ((Sum.inl a:Key)=Sum.inr b)=false:=decide_eq_false (fun q=>nomatch q)
theorem zpX(a:Str)(b:Int):decide ((Sum.inr a:Key)=Sum.inl b)=false:=decide_eq_false (fun q=>nomatch q)
def za7(prog:Program)(w:World):PySem.KeyKind prog w Key where
 is:=zjM
 hash:=zso w
 inj:=fun v a b ha hb=>by
  rcases zax ha with ⟨i,t,rfl,rfl⟩ | ⟨x,t,rfl,rfl⟩
  ·rcases zax hb with ⟨j,u,rfl,e⟩ | ⟨y,u,rfl,e⟩
   ·injection e with e1 _; rw [e1]
   ·exact nomatch e
  ·rcases zax hb with ⟨j,u,rfl,e⟩ | ⟨y,u,rfl,e⟩
   ·exact nomatch e
   ·injection e with e1 _; rw [e1]
 byValue:=fun k v h=>by
  rcases zax h with ⟨i,t,rfl,rfl⟩ | ⟨x,t,rfl,rfl⟩ <;> rfl
 pyHash:=fun hv h=>by
  rcases zax hv with ⟨i,t,rfl,rfl⟩ | ⟨x,t,rfl,rfl⟩
  ·exact wpAny_pyHash_int h
  ·exact wpAny_pyHash_str h
 eqBool:=fun hu hv h=>by
  rcases zax hu with ⟨i,t,rfl,rfl⟩ | ⟨x,t,rfl,rfl⟩
  ·rcases zax hv with ⟨j,u,rfl,rfl⟩ | ⟨y,u,rfl,rfl⟩
   ·rw [zqs] at h; exact wpAny_eqBool_int h
   ·rw [zqj] at h; exact SeqAt.EqAt.int_str i t y u _ _ _ _ h
  ·rcases zax hv with ⟨j,u,rfl,rfl⟩ | ⟨y,u,rfl,rfl⟩
   ·rw [zpX] at h; exact SeqAt.EqAt.str_int x t j u _ _ _ _ h
   ·rw [zpe] at h; exact wpAny_eqBool_str h
 «strs»:=fun k x t v h=>by
  rcases zax h with ⟨i,u,rfl,e⟩ | ⟨y,u,rfl,e⟩
  ·exact nomatch e
  ·injection e with e1 _
   subst e1;cases v <;> rfl
theorem zh2(prog:Program)(w:World)(i:Int)(t:Tok):(za7 prog w).is (.inl i) (.int i t)=true:=zke i t
theorem zh4(prog:Program)(w:World)(x:Str)(t:Tok):(za7 prog w).is (.inr x) (.str x t)=true:=zlF x t
end
section
inductive V where
 | non | bl (b:Bool) | int (i:Int) | str (x:Str) | byt (b:Array UInt8) | flt (b:UInt64) | ref (a:Addr) | ty (n:String)
 deriving DecidableEq
def RelV:V->Value->Prop
 | .non,u=>u=Value.none
 | .bl b,u=>u=Value.bool b
 | .int i,u=>∃ t,u=Value.int i t
 | .str x,u=>∃ t,u=Value.str x t
 | .byt b,u=>∃ t,u=Value.bytes b t
 | .flt b,u=>∃ t,u=Value.float b t
 | .ref a,u=>u=Value.ref a
 | .ty n,u=>u=Value.type n
abbrev Vals:List V->List Value->Prop:=Paired RelV
theorem Vals.length{xs:List V}{us:List Value}(r:Vals xs us):xs.length=us.length:=Paired.length r
theorem Vals.get:∀ {xs:List V} {us:List Value} {i:Nat} {x:V},Vals xs us->xs[i]? = some x->∃ u,us[i]? = some u/\RelV x u
 | _,_,_,_,.nil,e=>by simp at e
 | _,_,0,_,.cons r _,e=>by simp at e; subst e; exact⟨_,rfl,r⟩
 | _,_,i+1,x,.cons _ t,e=>by
  obtain⟨u,h1,h2⟩:=Vals.get (i:=i) (x:=x) t (by simpa using e);exact⟨u,by simpa using h1,h2⟩
theorem Vals.set{x:V}{u:Value}(r:RelV x u):∀ {xs:List V} {us:List Value} (i:Nat),Vals xs us->Vals (xs.set i x) (us.set i u)
 | _,_,_,.nil=>.nil
 | _,_,0,.cons _ t=>.cons r t
 | _,_,i+1,.cons q t=>.cons q (Vals.set r i t)
theorem Vals.append:∀ {xs ys:List V} {us ws:List Value},Vals xs us->Vals ys ws->Vals (xs++ys) (us++ws)
 | _,_,_,_,.nil,s=>s
 | _,_,_,_,.cons r t,s=>.cons r (Vals.append t s)
theorem Vals.take:∀ {xs:List V} {us:List Value} (n:Nat),Vals xs us->Vals (xs.take n) (us.take n)
 | _,_,0,_=>.nil
 | _,_,_+1,.nil=>.nil
 | _,_,n+1,.cons r t=>.cons r (Vals.take n t)
theorem Vals.drop:∀ {xs:List V} {us:List Value} (n:Nat),Vals xs us->Vals (xs.drop n) (us.drop n)
 | _,_,0,r=>r
 | _,_,_+1,.nil=>.nil
 | _,_,n+1,.cons _ t=>Vals.drop n t
def RelO:Option V->Option Value->Prop
 | some v,some u=>RelV v u
 | none,none=>True
 | _,_=>False
def KV{κ:Type}:List (κ×V)->List (κ×Value)->Prop:=Paired fun(p:κ×V) (q:κ×Value)=>p.1=q.1/\RelV p.2 q.2
def kV:Key->V
 | .inl i=>.int i
 | .inr x=>.str x
inductive HO where
 | lst (xs:List V)
 | tup (xs:List V)
 | dK (kvs:List (Key×V)) | dT (kvs:List (List Key×V))
 | set (S:Int->Bool) (n:Nat)
 | ins (C dx:Addr) (fs:List (Str×V))
 | own (x:Addr)
 | xd (fs:List (Str×V))
 | met (f x:Addr)
 | rng (lo hi:Int)
 | frz (o:Obj) (u:HO)
 | tbl (ps:Array Value)
 | ext (φ:Heap->Prop)
abbrev Hp:=Addr->Option HO
def upd(H:Hp)(a:Addr)(o:HO):Hp:=fun b=>if b=a then some o else H b
theorem zaq{H:Hp}{a:Addr}{o:HO}:upd H a o a=some o:=by unfold upd; rw [if_pos rfl]
theorem zF{H:Hp}{a b:Addr}{o:HO}(h:b≠a):upd H a o b=H b:=by unfold upd; rw [if_neg h]
theorem zrm{H:Hp}{a b:Addr}{o u:HO}(h:H a=some o)(h':H b=some u)(d:o≠u):a≠b:=by
 intro e; subst e; rw [h] at h'; exact d (Option.some.inj h')
theorem zQ{H:Hp}{a b:Addr}{o:HO}(h:H a=some o)(h':H b=none):a≠b:=by
 intro e; subst e; rw [h] at h'; cases h'
def TblOk(H:Hp)(ps qs:Array Value):Prop:=qs = #[]\/∃ (l c:Value) (q:Str) (t:Tok) (k:Addr) (oc:Obj) (vs:Array Value) (t':Tok),ps = #[l,c,.str q t]/\qs = #[l,c,.ref k]/\H k=some (.frz oc (.own 0))/\oc.data=.fields vs/\vs[1]? = some (.str q t')
theorem TblOk.stay{H H':Hp}{ps qs:Array Value}(x:TblOk H ps qs)(hf:∀ b o u,H b=some (.frz o u)->H' b=some (.frz o u)):TblOk H' ps qs:=by
 rcases x with x | ⟨l,c,q,t,k,oc,vs,t',e1,e2,e3,r⟩
 ·exact .inl x
 ·exact .inr ⟨l,c,q,t,k,oc,vs,t',e1,e2,hf _ _ _ e3,r⟩
section
variable (P:Program) (w:World)
def ObjOk(H:Hp)(h:Heap)(a:Addr):HO->Prop
 | .lst xs=>xs.length<=sizeLine/\∃ (its:List Value) (n:Nat),Vals xs its/\h.get? a=some { cls:=.type "list",data:=.seq its.toArray n }
 | .tup xs=>(xs.length<=sizeLine/\∃ o:Obj,h.get? a=some o/\o.dict=none)/\∃ its:List Value,Vals xs its/\IsTup h a its.toArray
 | .dK kvs=>kvs.length<=sizeLine/\(a == sysModules)=false/\∃ vs,KV kvs vs/\h.DictOf (za7 P w) a vs
 | .dT kvs=>kvs.length<=sizeLine/\(a == sysModules)=false/\∃ xs:List (List Key×Addr×Value),
   Paired (fun(p:List Key×V) (q:List Key×Addr×Value)=>p.1=q.1/\H q.2.1=some (.tup (p.1.map kV))/\RelV p.2 q.2.2) kvs xs /\
   ∃ o es ep,h.get? a=some o/\o.ExactDict/\o.data=.dict es ep/\es.toList=xs.map (entryOfKey (tupleKind (za7 P w)))/\(xs.map (·.1)).Nodup
 | .set S n=>h.SetOf (intKind P w) a S n
 | .ins C dx fs=>H dx=some (.own a)/\fs.length<=1000/\dx≠a/\h.get? a=some (W.instObj C dx) /\
   ∃ mA,h.Ns1 dx mA/\(∀ f,RelO (fs.lookup f) (mA f))/\PySem.Within mA (fs.map (·.1))
 | .own _=>∃ o,h.get? a=some o
 | .xd fs=>∃ mA,h.Ns1 a mA/\∀ f,RelO (fs.lookup f) (mA f)
 | .rng lo hi=>∃ t u v,h.get? a=some { cls:=.type "range",data:=.fields #[.int lo t,.int hi u,.int 1 v] }
 | .frz o u=>h.get? a=some o/\ObjOk H h a u
 | .tbl ps=>∃ qs:Array Value,h.get? a=some { cls:=.none,data:=.fields qs }/\TblOk H ps qs
 | .met f x=>h.get? a=some (W.methodObj (.ref f) (.ref x))
 | .ext φ=>φ h/\(∃ o,h.get? a=some o)/\∀ h1 h2:Heap,φ h1->(∀ o,h1.get? a=some o->h2.get? a=some o)->φ h2
def HOk(H:Hp)(h:Heap):Prop:=∀ a o,H a=some o->ObjOk P w H h a o
end
section
variable {P:Program} {w:World} {H H':Hp} {h h':Heap} {a:Addr} {o:HO}
theorem ObjOk.lt(x:ObjOk P w H h a o):a<h.objs.size:=by
 cases o with
 | lst xs=>obtain⟨_,_,_,_,e⟩:=x; exact lt_size e
 | tup xs=>obtain⟨_,_,_,p⟩:=x; exact p.lt
 | dK kvs=>obtain⟨_,_,_,_,o,_,_,e,_⟩:=x; exact lt_size e
 | dT kvs=>obtain⟨_,_,_,_,o,_,_,e,_⟩:=x; exact lt_size e
 | set S n=>obtain⟨o,_,_,_,e,_⟩:=x; exact lt_size e
 | ins C dx fs=>obtain⟨_,_,_,e,_⟩:=x; exact lt_size e
 | own y=>obtain⟨_,e⟩:=x; exact lt_size e
 | xd fs=>obtain⟨_,⟨_,_,_,e,_⟩,_⟩:=x; exact lt_size e
 | rng lo hi=>obtain⟨_,_,_,e⟩:=x; exact lt_size e
 | frz ob u=>obtain⟨e,_⟩:=x; exact lt_size e
 | tbl ps=>obtain⟨_,e,_⟩:=x; exact lt_size e
 | met f y=>exact lt_size (show h.get? a=some _ from x)
 | ext φ=>obtain⟨_,⟨_,e⟩,_⟩:=x; exact lt_size e
theorem Paired.mapP{α β:Type}{F G:α->β->Prop}:∀ {l₁:List α} {l₂:List β},Paired F l₁ l₂->(∀ a b,F a b->G a b)->Paired G l₁ l₂
 | _,_,.nil,_=>.nil
 | _,_,.cons r t,f=>.cons (f _ _ r) (Paired.mapP t f)
theorem ObjOk.stay(x:ObjOk P w H h a o)(k:∀ b u,(b=a\/H b=some (.own a))->h.get? b=some u->h'.get? b=some u)
  (ho:∀ b,H b=some (.own a)->H' b=some (.own a)) (ht:∀ b xs,H b=some (.tup xs)->H' b=some (.tup xs))
  (hf:∀ b o u,H b=some (.frz o u)->H' b=some (.frz o u):=by first | exact fun _ _ _ q=>q | (intro b o u q; rw [zF (zQ q (by assumption))]; exact q)):ObjOk P w H' h' a o:=by
 induction o with
 | lst xs=>obtain⟨z,its,n,r,e⟩:=x; exact⟨z,its,n,r,k _ _ (.inl rfl) e⟩
 | tup xs=>obtain⟨⟨z,o2,e2,d2⟩,its,r,ob,e,c⟩:=x; exact⟨⟨z,o2,k _ _ (.inl rfl) e2,d2⟩,its,r,ob,k _ _ (.inl rfl) e,c⟩
 | dK kvs=>obtain⟨z,y,vs,r,ob,es,ep,e,c⟩:=x; exact⟨z,y,vs,r,ob,es,ep,k _ _ (.inl rfl) e,c⟩
 | dT kvs =>
  obtain⟨z,y,xs,r,ob,es,ep,e,c⟩:=x;exact⟨z,y,xs,Paired.mapP r fun p q z=>⟨z.1,ht _ _ z.2.1,z.2.2⟩,ob,es,ep,k _ _ (.inl rfl) e,c⟩
 | set S n=>obtain⟨ob,es,ep,t,e,c⟩:=x; exact⟨ob,es,ep,t,k _ _ (.inl rfl) e,c⟩
 | ins C dx fs =>
  obtain⟨d,z,ne,e,mA,⟨od,es,ep,e2,c⟩,r⟩:=x;exact⟨ho _ d,z,ne,k _ _ (.inl rfl) e,mA,⟨od,es,ep,k _ _ (.inr d) e2,c⟩,r⟩
 | own y=>obtain⟨ob,e⟩:=x; exact⟨ob,k _ _ (.inl rfl) e⟩
 | xd fs=>obtain⟨mA,⟨od,es,ep,e,c⟩,r⟩:=x; exact⟨mA,⟨od,es,ep,k _ _ (.inl rfl) e,c⟩,r⟩
 | rng lo hi=>obtain⟨t,u,v,e⟩:=x; exact⟨t,u,v,k _ _ (.inl rfl) e⟩
 | frz ob u ih=>obtain⟨e,q⟩:=x; exact⟨k _ _ (.inl rfl) e,ih q⟩
 | tbl ps =>
  obtain⟨qs,e,q⟩:=x;exact⟨qs,k a _ (.inl rfl) e,q.stay hf⟩
 | met f y =>
  have e:h.get? a=some (W.methodObj (.ref f) (.ref y)):=x;show h'.get? a=some (W.methodObj (.ref f) (.ref y));exact k a _ (.inl rfl) e
 | ext φ=>obtain⟨p,⟨o,e⟩,st⟩:=x; exact⟨st _ _ p fun o q=>k _ _ (.inl rfl) q,⟨o,k _ _ (.inl rfl) e⟩,st⟩
theorem HOk.lt(x:HOk P w H h)(e:H a=some o):a<h.objs.size:=(x a o e).lt
theorem HOk.fresh(x:HOk P w H h)(e:h.objs.size<=a):H a=none:=by
 cases q:H a with
 | none=>rfl
 | some u=>exact absurd (lt_of_lt_of_le (x.lt q) e) (lt_irrefl _)
theorem HOk.kept(x:HOk P w H h)(k:∀ b u,h.get? b=some u->h'.get? b=some u):HOk P w H h':=fun a o e =>
 (x a o e).stay (fun b u _ q=>k b u q) (fun _ q=>q) fun _ _ q=>q
theorem HOk.laid(x:HOk P w H h)(k:∀ b u,h.get? b=some u->h'.get? b=some u)(hp:h.objs.size<=a)(new:ObjOk P w (upd H a o) h' a o):HOk P w (upd H a o) h':=fun b u e=>by
 have hn:=x.fresh hp;by_cases hb:b=a
 ·subst hb; rw [zaq] at e; cases e; exact new
 ·rw [zF hb] at e;exact(x b u e).stay (fun c v _ q=>k c v q) (fun c q=>by rw [zF (zQ q hn)]; exact q) fun c xs q=>by rw [zF (zQ q hn)]; exact q
end
def Rd(H:Hp)(a:Addr)(u:HO):Prop:=H a=some u\/∃ o,H a=some (.frz o u)
theorem Rd.ok{P:Program}{w:World}{H:Hp}{h:Heap}{a:Addr}{u:HO}(r:Rd H a u)(x:HOk P w H h):ObjOk P w H h a u:=by
 rcases r with r | ⟨o,r⟩
 ·exact x a u r
 ·obtain⟨_,q⟩:=x a _ r;exact q
def Mut:Option HO->Prop
 | some (.lst _)=>True
 | some (.dK _)=>True
 | some (.dT _)=>True
 | some (.set _ _)=>True
 | some (.ins _ _ _)=>True
 | some (.ext _)=>True
 | _=>False
section
variable {P:Program} {w:World} {H:Hp} {h h':Heap} {x e:Addr} {o':HO}
theorem HOk.write(ok:HOk P w H h)(mu:Mut (H x))(he:e=x\/H e=some (.own x))(k:∀ b u,b≠e->h.get? b=some u->h'.get? b=some u)(heo:∃ u,h'.get? e=some u)
  (new:ObjOk P w (upd H x o') h' x o'):HOk P w (upd H x o') h':=fun b u q=>by
 have nown:∀ c y,H c=some (.own y)->c≠x:=fun c y r z=>by subst z; rw [r] at mu; exact mu
 have ntup:∀ c xs,H c=some (.tup xs)->c≠x:=fun c xs r z=>by subst z; rw [r] at mu; exact mu
 have nfrz:∀ c o u,H c=some (.frz o u)->c≠x:=fun c o u r z=>by subst z; rw [r] at mu; exact mu
 by_cases hb:b=x
 ·subst hb; rw [zaq] at q; cases q; exact new
 ·rw [zF hb] at q;by_cases hbe:b=e
  ·have q':H b=some (.own x):=by
    rcases he with z | z
    ·exact absurd (hbe.trans z) hb
    ·rw [hbe]; exact z
   rw [q] at q'; cases q';obtain⟨v,hv⟩:=heo;exact⟨v,by rw [hbe]; exact hv⟩
  ·refine(ok b u q).stay (fun c v hc r=>k c v ?_ r) (fun c r=>by rw [zF (nown c b r)]; exact r) (fun c xs r=>by rw [zF (ntup c xs r)]; exact r) fun c o u r=>by rw [zF (nfrz c o u r)]; exact r
   rcases hc with rfl | hc
   ·exact hbe
   ·rintro rfl;rcases he with z | z
    ·exact nown c b hc z
    ·rw [hc] at z; cases z; exact hb rfl
end
structure Un(fs ex:List Addr)(H H':Hp)(h h':Heap):Prop where
 keep:∀ b o,h.get? b=some o->H b=none->b∉fs->b∉ex->h'.get? b=some o
 slot:∀ b o,h.get? b=some o->H b=none->b∈fs->b∉ex->∃ sl,h'.get? b=some { o with slots:=sl }
 free:∀ b o,h.get? b=some o->H b=none->b∉ex->H' b=none
 there:∀ b o,h.get? b=some o->b∉ex->∃ o',h'.get? b=some o'
 tups:∀ b xs,H b=some (.tup xs)->H' b=some (.tup xs)
 frzs:∀ b o u,H b=some (.frz o u)->H' b=some (.frz o u)
 tbls:∀ b ps,H b=some (.tbl ps)->H' b=some (.tbl ps)
section
variable {fs fs' ex ex':List Addr} {H H1 H2:Hp} {h h1 h2 h':Heap} {a x e:Addr} {o:HO}
theorem Un.any(u:Un fs ex H H1 h h1){b:Addr}{ob:Obj}(q:h.get? b=some ob)(n:H b=none)(hx:b∉ex):∃ sl,h1.get? b=some { ob with slots:=sl }:=by
 by_cases hb:b∈fs
 ·exact u.slot b ob q n hb hx
 ·exact⟨ob.slots,u.keep b ob q n hb hx⟩
theorem Un.trans(a:Un fs ex H H1 h h1)(b:Un fs ex H1 H2 h1 h2):Un fs ex H H2 h h2 where
 keep:=fun c ob q n hc hx=>b.keep c ob (a.keep c ob q n hc hx) (a.free c ob q n hx) hc hx
 slot:=fun c ob q n hc hx=>by
  obtain⟨sl,e1⟩:=a.slot c ob q n hc hx;obtain⟨sl',e2⟩:=b.slot c _ e1 (a.free c ob q n hx) hc hx;exact⟨sl',e2⟩
 free:=fun c ob q n hx=>by
  obtain⟨o',e1⟩:=a.there c ob q hx;exact b.free c o' e1 (a.free c ob q n hx) hx
 there:=fun c ob q hx=>by
  obtain⟨o',e1⟩:=a.there c ob q hx;exact b.there c o' e1 hx
 tups:=fun c xs q=>b.tups c xs (a.tups c xs q)
 frzs:=fun c ob xs q=>b.frzs c ob xs (a.frzs c ob xs q)
 tbls:=fun c ps q=>b.tbls c _ (a.tbls c ps q)
theorem Un.kept(k:∀ b u,h.get? b=some u->h'.get? b=some u):Un fs ex H H h h' :=
 ⟨fun b ob q _ _ _=>k b ob q,fun b ob q _ _ _=>⟨ob.slots,k b ob q⟩,fun _ _ _ n _=>n,fun b ob q _=>⟨ob,k b ob q⟩,fun _ _ q=>q,fun _ _ _ q=>q,fun _ _ q=>q⟩
theorem Un.refl:Un fs ex H H h h:=Un.kept fun _ _ q=>q
theorem Un.laid(k:∀ b u,h.get? b=some u->h'.get? b=some u)(hp:h.objs.size<=a)(hn:H a=none):Un fs ex H (upd H a o) h h' where
 keep:=fun b u q _ _ _=>k b u q
 slot:=fun b u q _ _ _=>⟨u.slots,k b u q⟩
 free:=fun b u q n _=>by rw [zF (ne_of_lt (lt_of_lt_of_le (lt_size q) hp))]; exact n
 there:=fun b u q _=>⟨u,k b u q⟩
 tups:=fun b xs q=>by rw [zF (zQ q hn)]; exact q
 frzs:=fun b u xs q=>by rw [zF (zQ q hn)]; exact q
 tbls:=fun b ps q=>by rw [zF (zQ q hn)]; exact q
theorem Un.write(mu:Mut (H x))(he:e=x\/H e=some (.own x))(k:∀ b u,b≠e->h.get? b=some u->h'.get? b=some u)(heo:∃ u,h'.get? e=some u):Un fs ex H (upd H x o) h h':=by
 have hx:∀ b,H b=none->b≠x:=fun b n z=>by subst z; rw [n] at mu; exact mu
 have hb:∀ b,H b=none->b≠e:=fun b n z=>by
  subst z;rcases he with r | r
  ·exact hx b n r
  ·rw [n] at r; cases r
 have hm:∀ b u,H b=some u->¬ Mut (some u)->b≠x:=fun b u q nm z=>by subst z; rw [q] at mu; exact nm mu
 refine⟨fun b u q n _ _=>k b u (hb b n) q,fun b u q n _ _=>⟨u.slots,k b u (hb b n) q⟩,fun b u q n _=>by rw [zF (hx b n)]; exact n,fun b u q _=>?_,
  fun b xs q=>by rw [zF (hm b _ q fun z=>z)]; exact q,fun b u xs q=>by rw [zF (hm b _ q fun z=>z)]; exact q,fun b ps q=>by rw [zF (hm b _ q fun z=>z)]; exact q⟩
 by_cases hbe:b=e
 ·subst hbe; exact heo
 ·exact⟨u,k b u hbe q⟩
theorem Un.mono(u:Un fs ex H H1 h h1)(hs:∀ b∈fs,b∈fs')(hx:∀ b∈ex,b∈ex'):Un fs' ex' H H1 h h1 :=
 ⟨fun b ob q n hb he=>u.keep b ob q n (fun z=>hb (hs b z)) fun z=>he (hx b z),fun _ _ q n _ he=>u.any q n fun z=>he (hx _ z),fun b ob q n he=>u.free b ob q n fun z=>he (hx b z),fun b ob q he=>u.there b ob q fun z=>he (hx b z),u.tups,u.frzs,u.tbls⟩
end
def trk(h:Heap)(H:Hp):List Addr:=(List.range h.objs.size).filter fun a=>(H a).isSome
def zmB(h:Heap)(H:Hp):Heap:=W.hideAll h (trk h H)
theorem zlp(h:Heap)(H:Hp):(zmB h H).objs.size=h.objs.size:=W.hideAll_size _ _
theorem zmv{h:Heap}{H:Hp}{b:Addr}{o:Obj}(e:h.get? b=some o)(n:H b=none):(zmB h H).get? b=some o :=
 W.hideAll_get _ e fun hm=>by
  have q:(H b).isSome=true:=(mem_filter.mp hm).2;rw [n] at q; simp at q
theorem zoP{h:Heap}{H:Hp}{b:Addr}{o:Obj}(e:(zmB h H).get? b=some o):h.get? b=some o/\H b=none:=by
 have e':h.get? b=some o:=W.of_hideAll (trk h H) e;refine⟨e',?_⟩;cases q:H b with
 | none=>rfl
 | some x =>
  have hm:b∈trk h H:=mem_filter.mpr ⟨mem_range.mpr (lt_size e'),by simp [q]⟩;have z:(zmB h H).get? b=none:=W.hideAll_none (trk h H) hm;rw [z] at e; cases e
def zn6(g h:Heap)(L:Addr):List (Addr×Obj):=(List.range h.objs.size).filterMap fun a=>if a=L\/(g.get? a).isSome=true then none else (h.get? a).map fun o=>(a,o)
def rest(g h:Heap)(L d:Addr):List (Addr×Obj):=(zn6 g h L).filter fun p=>decide (p.1≠d)
end
section
def tabsG:List ((Addr×Addr)×Array Value):=[]
def BltAt(base:Heap)(mg:Str->Option Value):Prop:=∃ bm ob,mg "__builtins__" = some (.ref bm)/\bm≠builtinsNs/\base.get? bm=some ob/\ob.cls=.type "module"/\ob.dict=some builtinsNs/\ob.data=.plain
structure Frf(fs:List Addr)(H:Hp):Prop where
 free:∀ b∈fs,H b=none
 tab:∀ q∈tabsG,H q.1.2=some (.tbl q.2)
structure Mod(K:W.Frag)(mg:Str->Option Value)(base:Heap):Prop where
 kin:K.In base
 glob:base.Ns mainGlobals mg
 blt:∃ mb,base.Ns builtinsNs mb/\∀ x:Str,x ≠ "__name__"->mb x=bootBuiltins x
 nolimit:base.NoLimit
 bm:BltAt base mg
 hd:∀ q∈tabsG,W.CodeHd base q.1.1 q.1.2
structure Cx where
 prog:Program
 w:World
 K:W.Frag
 mg:Str->Option Value
 base:Heap
 A:Around
 N:List Str
 s₀:Shared
 H₀:Hp
 env:Env
 outer:List Env
 stack:List Env
 ex:List Addr
 fn:Str->Bool
 calm:Bool
 pn:List (Addr×Obj)
 xe:Value->Shared->Prop
def frs(l:List Env):List Addr:=l.filterMap (·.frame)
abbrev Cx.fs (X:Cx):List Addr:=frs X.outer
def Vis(sc:Scope)(x:Str):Prop:=sc.names.lookup x=some .local\/sc.names.lookup x=some .cell\/sc.names.lookup x=some .free
def Loc(sc:Scope)(x:Str):Prop:=sc.names.lookup x=some .local\/sc.names.lookup x=some .cell
def Look(env:Env)(h:Heap)(m:Str->Option Value)(x:Str)(u:Value):Prop :=
 (env.kindOf x=some .local/\m x=some u)\/((env.kindOf x=some .cell\/env.kindOf x=some .free)/\∃ c,env.cells.lookup x=some c/\h.IsCell c (some u))
structure Cx.Ok(X:Cx):Prop where
 mod:Mod X.K X.mg X.base
 kind:X.env.scope.kind=.function
 glob:X.env.globals=mainGlobals
 blt:X.env.builtins=builtinsNs
 above:X.s₀.heap.objs.size<=X.env.locals
 inj:∀ x y c,X.env.cells.lookup x=some c->X.env.cells.lookup y=some c->x=y
 has:∀ x,(X.env.kindOf x=some .cell\/X.env.kindOf x=some .free)->∃ c,X.env.cells.lookup x=some c
 cab:∀ x c,X.fn x=true->X.env.cells.lookup x=some c->X.s₀.heap.objs.size<=c
 hd:X.calm=true->X.A.handled=none
 frames:X.A.frames=some X.stack
 stk:X.stack=X.outer\/(X.stack=X.env :: X.outer/\X.env.frame=some X.env.locals)
 exf:∀ b∈X.ex,b≠X.env.locals/\∀ x c,X.env.cells.lookup x=some c->c≠b
 bs:∀ b o,X.base.get? b=some o->X.s₀.heap.get? b=some o/\X.H₀ b=none
 bsz:X.base.objs.size<=X.s₀.heap.objs.size
 noex:∀ b o,X.base.get? b=some o->b∉X.ex
 exfs:∀ b∈X.ex,b∉X.fs
 funs:X.s₀.heap.FunFrames X.base X.outer
 frf:Frf X.fs X.H₀
structure Inv(X:Cx)(zh:List (Addr×Obj))(σ:List (Option V))(H:Hp)(s:Shared):Prop where
 ok:X.Ok
 os:s.os=X.s₀.os
 bare:AllBare s.gens
 base:Un X.fs X.ex X.H₀ H X.s₀.heap s.heap
 loc:∃ m,s.heap.Ns X.env.locals m/\∀ (i:Nat) (x:Str) (v:V),X.N[i]? = some x->σ[i]? = some (some v)->Vis X.env.scope x->∃ u,RelV v u/\Look X.env s.heap m x u
 cell:∀ x c,X.env.cells.lookup x=some c->∃ v,s.heap.IsCell c v
 free:H X.env.locals=none
 freeC:∀ x c,X.env.cells.lookup x=some c->H c=none
 pin:∀ p∈X.pn++zh,s.heap.get? p.1=some p.2/\H p.1=none/\p.1≠X.env.locals/\p.1∉X.fs/\∀ v,p.2.data≠.cell v
 hok:HOk X.prog X.w H s.heap
 len:σ.length=X.N.length
section
variable {X:Cx} {zh:List (Addr×Obj)} {σ:List (Option V)} {H H':Hp} {s:Shared} {h':Heap}
theorem Cx.Ok.nofr(ok:X.Ok){b:Addr}{o:Obj}(e:X.base.get? b=some o):b∉X.fs:=fun hb=>by
 have:=(ok.funs.mem hb).1;rw [e] at this; cases this
theorem Inv.bs(I:Inv X zh σ H s):∀ b o,X.base.get? b=some o->s.heap.get? b=some o/\H b=none:=fun b o e =>
 ⟨I.base.keep b o (I.ok.bs b o e).1 (I.ok.bs b o e).2 (I.ok.nofr e) (I.ok.noex b o e),I.base.free b o (I.ok.bs b o e).1 (I.ok.bs b o e).2 (I.ok.noex b o e)⟩
theorem Inv.bk(I:Inv X zh σ H s):∀ b o,X.base.get? b=some o->s.heap.get? b=some o:=fun b o e=>(I.bs b o e).1
theorem Inv.mod(I:Inv X zh σ H s):Mod X.K X.mg X.base:=I.ok.mod
theorem Inv.kIn(I:Inv X zh σ H s):X.K.In s.heap:=I.ok.mod.kin.keeps I.bk
theorem Inv.lt(I:Inv X zh σ H s):X.env.locals<s.heap.objs.size:=let ⟨_,hn,_⟩:=I.loc; hn.lt
theorem Inv.sz(I:Inv X zh σ H s):X.s₀.heap.objs.size<=s.heap.objs.size:=le_trans I.ok.above (le_of_lt I.lt)
theorem Inv.nofs(I:Inv X zh σ H s){a:Addr}(h:s.heap.objs.size<=a):a∉X.fs:=fun hb=>by
 obtain⟨_,o,ho,_⟩:=I.ok.funs.mem hb;exact absurd (lt_of_lt_of_le (lt_size ho) (le_trans I.sz h)) (lt_irrefl _)
theorem Inv.cne(I:Inv X zh σ H s):∀ x c,X.env.cells.lookup x=some c->c≠X.env.locals:=fun x c e z=>by
 obtain⟨v,o,ho,hd⟩:=I.cell x c e;obtain⟨m,⟨o',es,ep,ho',hd',_⟩,_⟩:=I.loc;rw [z,ho'] at ho; cases ho; rw [hd'] at hd; cases hd
theorem Inv.funs(I:Inv X zh σ H s):s.heap.FunFrames X.base X.outer:=by
 have all:∀ (l:List Env),(∀ b∈frs l,b∈X.fs)->X.s₀.heap.FunFrames X.base l->s.heap.FunFrames X.base l:=by
  intro l;induction l with
  | nil=>intro _ _; trivial
  | cons env r ih =>
   intro hs hl;obtain⟨hk,⟨L,o,hf,hn,ho,hd⟩,hr⟩:=hl;have hL:L∈X.fs:=hs L (by unfold frs; rw [filterMap_cons,hf]; exact mem_cons_self);obtain⟨sl,e⟩:=I.base.slot L o ho (I.ok.frf.free L hL) hL fun z=>I.ok.exfs L z hL;exact⟨hk,⟨L,_,hf,hn,e,hd⟩,ih (fun b hb=>hs b (by unfold frs; rw [filterMap_cons,hf]; exact mem_cons_of_mem _ hb)) hr⟩
 exact all X.outer (fun _ hb=>hb) I.ok.funs
theorem Inv.stack(I:Inv X zh σ H s):s.heap.FunFrames X.base X.stack:=by
 rcases I.ok.stk with e | ⟨e,hf⟩
 ·rw [e]; exact I.funs
 ·rw [e];obtain⟨m,hn,_⟩:=I.loc;refine .cons (by rw [I.ok.kind]; decide) hf hn ?_ I.funs;exact Heap.get?_none_of_le (le_trans I.ok.bsz I.ok.above)
theorem Inv.stkSub(I:Inv X zh σ H s):∀ b∈frs X.stack,b∈X.env.locals :: X.fs:=fun b hb=>by
 rcases I.ok.stk with e | ⟨e,hf⟩
 ·rw [e] at hb; exact mem_cons_of_mem _ hb
 ·rw [e] at hb;unfold frs at hb;rw [filterMap_cons,hf] at hb;exact hb
theorem Inv.stkFree(I:Inv X zh σ H s):Frf (frs X.stack) H:=⟨fun b hb=>by
 rcases mem_cons.mp (I.stkSub b hb) with e | hb
 ·rw [e]; exact I.free
 ·obtain⟨_,o,ho,_⟩:=I.ok.funs.mem hb;exact I.base.free b o ho (I.ok.frf.free b hb) fun z=>I.ok.exfs b z hb,fun q hq=>I.base.tbls _ _ (I.ok.frf.tab q hq)⟩
theorem Inv.step{g':Array GenState}{t':Nat}{d':Drawn}{ch:List Addr}(I:Inv X zh σ H s)
  (hch:∀ b∈ch,(b∈X.ex\/X.s₀.heap.objs.size<=b)/\b≠X.env.locals/\(∀ x c,X.env.cells.lookup x=some c->c≠b)/\∀ p∈X.pn++zh,p.1≠b)
  (keep:∀ b o,b≠X.env.locals->b∉X.fs->b∉ch->s.heap.get? b=some o->H b=none->h'.get? b=some o)
  (slot:∀ b o,b≠X.env.locals->b∈X.fs->b∉ch->s.heap.get? b=some o->H b=none->∃ sl,h'.get? b=some { o with slots:=sl }) (free:∀ b o,b∉ch->s.heap.get? b=some o->H b=none->H' b=none)
  (there:∀ b o,b∉ch->s.heap.get? b=some o->∃ o',h'.get? b=some o')
  (tups:∀ b xs,H b=some (.tup xs)->H' b=some (.tup xs)) (frzs:∀ b o u,H b=some (.frz o u)->H' b=some (.frz o u)) (tbls:∀ b ps,H b=some (.tbl ps)->H' b=some (.tbl ps))
  (ns:∀ m,s.heap.Ns X.env.locals m->h'.Ns X.env.locals m) (hok:HOk X.prog X.w H' h') (hg:AllBare g') :
  Inv X zh σ H' { s with heap:=h',gens:=g',drawn:=d',toks:=t' }:=by
 have neL:∀ b o,X.s₀.heap.get? b=some o->b≠X.env.locals:=fun b o e=>ne_of_lt (lt_of_lt_of_le (lt_size e) I.ok.above);have neC:∀ b o,X.s₀.heap.get? b=some o->b∉X.ex->b∉ch:=fun b o e hx hb=>by
  rcases(hch b hb).1 with z | z
  ·exact hx z
  ·exact absurd (lt_of_lt_of_le (lt_size e) z) (lt_irrefl _)
 have cellK:∀ x c,X.env.cells.lookup x=some c->∀ v,s.heap.IsCell c v->h'.IsCell c v:=fun x c e v ⟨o,ho,hd⟩=>by
  have nch:c∉ch:=fun z=>(hch c z).2.2.1 x c e rfl;by_cases hc:c∈X.fs
  ·obtain⟨sl,q⟩:=slot c o (I.cne x c e) hc nch ho (I.freeC x c e);exact⟨_,q,hd⟩
  ·exact⟨o,keep c o (I.cne x c e) hc nch ho (I.freeC x c e),hd⟩
 refine⟨I.ok,I.os,hg,⟨fun b o e n hb hx=>?_,fun b o e n hb hx=>?_,fun b o e n hx=>?_,fun b o e hx=>?_,fun b xs e=>tups b xs (I.base.tups b xs e),fun b o xs e=>frzs b o xs (I.base.frzs b o xs e),fun b ps e=>?_⟩,?_,fun x c e=>?_,?_,fun x c e=>?_,fun p hp=>?_,hok,I.len⟩
 ·exact keep b o (neL b o e) hb (neC b o e hx) (I.base.keep b o e n hb hx) (I.base.free b o e n hx)
 ·obtain⟨sl,e1⟩:=I.base.slot b o e n hb hx;obtain⟨sl',e2⟩:=slot b _ (neL b o e) hb (neC b o e hx) e1 (I.base.free b o e n hx);exact⟨sl',e2⟩
 ·obtain⟨o',e1⟩:=I.base.there b o e hx;exact free b o' (neC b o e hx) e1 (I.base.free b o e n hx)
 ·obtain⟨o',e1⟩:=I.base.there b o e hx;exact there b o' (neC b o e hx) e1
 ·exact tbls b _ (I.base.tbls b ps e)
 ·obtain⟨m,hn,hl⟩:=I.loc;refine⟨m,ns m hn,fun i x v e1 e2 e3=>?_⟩;obtain⟨u,r,l⟩:=hl i x v e1 e2 e3;refine⟨u,r,?_⟩;rcases l with l | ⟨k,c,e,z⟩
  ·exact .inl l
  ·exact .inr ⟨k,c,e,cellK x c e _ z⟩
 ·obtain⟨v,z⟩:=I.cell x c e;exact⟨v,cellK x c e v z⟩
 ·obtain⟨m,⟨o,_,_,ho,_⟩,_⟩:=I.loc;exact free _ o (fun z=>(hch _ z).2.1 rfl) ho I.free
 ·obtain⟨v,o,ho,hd⟩:=I.cell x c e;exact free c o (fun z=>(hch c z).2.2.1 x c e rfl) ho (I.freeC x c e)
 ·obtain⟨e,n,ne,nf,d⟩:=I.pin p hp;have nch:p.1∉ch:=fun z=>(hch p.1 z).2.2.2 p hp rfl;exact⟨keep p.1 p.2 ne nf nch e n,free p.1 p.2 nch e n,ne,nf,d⟩
theorem Inv.un{t':Nat}(I:Inv X zh σ H s)(u:Un X.fs [] H H' s.heap h')(hok:HOk X.prog X.w H' h'):Inv X zh σ H' { s with heap:=h',toks:=t' }:=by
 obtain⟨m,⟨o,es,ep,ho,r⟩,_⟩:=id I.loc;obtain⟨sl,hL⟩:=u.any ho I.free (by simp);exact I.step (g':=s.gens) (d':=s.drawn) (ch:=[]) (fun _ z=>nomatch z) (fun b o _ hb _ e n=>u.keep b o e n hb (by simp)) (fun b o _ hb _ e n=>u.slot b o e n hb (by simp)) (fun b o _ e n=>u.free b o e n (by simp)) (fun b o _ e=>u.there b o e (by simp)) u.tups u.frzs u.tbls (fun m' hm=>by
  obtain⟨o',es',ep',ho',r'⟩:=hm;rw [ho] at ho'; cases ho';exact⟨_,es',ep',hL,r'⟩) hok I.bare
theorem Inv.call{g':Array GenState}{t':Nat}{d':Drawn}{ch:List Addr}(I:Inv X zh σ H s)(u:Un (frs X.stack) ch H H' s.heap h')(hok:HOk X.prog X.w H' h')(hg:AllBare g')
  (hch:∀ b∈ch,(b∈X.ex\/X.s₀.heap.objs.size<=b)/\b≠X.env.locals/\(∀ x c,X.env.cells.lookup x=some c->c≠b)/\∀ p∈X.pn++zh,p.1≠b) :
  Inv X zh σ H' { s with heap:=h',gens:=g',drawn:=d',toks:=t' }:=by
 obtain⟨m,⟨o,es,ep,ho,r⟩,_⟩:=id I.loc;obtain⟨sl,hL⟩:=u.any ho I.free fun z=>(hch _ z).2.1 rfl;exact I.step (ch:=ch) hch (fun b o hL hb hc e n=>u.keep b o e n (fun z=>(mem_cons.mp (I.stkSub b z)).elim hL hb) hc) (fun b o _ _ hc e n=>u.any e n hc) (fun b o hc e n=>u.free b o e n hc) (fun b o hc e=>u.there b o e hc) u.tups u.frzs u.tbls (fun m' hm=>by
  obtain⟨o',es',ep',ho',r'⟩:=hm;rw [ho] at ho'; cases ho';exact⟨_,es',ep',hL,r'⟩) hok hg
theorem Inv.turned{t':Nat}{it:Addr}(I:Inv X zh σ H s)(k:∀ b o,b≠it->s.heap.get? b=some o->h'.get? b=some o)(hn:H it=none)(hL:it≠X.env.locals)
  (h1:it∈X.ex\/X.s₀.heap.objs.size<=it) (h2:∀ x c,X.env.cells.lookup x=some c->c≠it) (h3:∀ p∈X.pn++zh,p.1≠it):Inv X zh σ H { s with heap:=h',toks:=t' }:=by
 have nit:∀ b u,H b=some u->b≠it:=fun b u e z=>by rw [z,hn] at e; cases e
 refine I.step (g':=s.gens) (d':=s.drawn) (ch:=[it]) (fun b hb=>?_) (fun b o _ _ hc e _=>k b o (fun z=>hc (by simp [z])) e) (fun b o _ _ hc e _=>⟨o.slots,k b o (fun z=>hc (by simp [z])) e⟩) (fun _ _ _ _ n=>n)
  (fun b o hc e=>⟨o,k b o (fun z=>hc (by simp [z])) e⟩) (fun _ _ e=>e) (fun _ _ _ e=>e) (fun _ _ e=>e) (fun m hm=>?_) (fun b u e=>?_) I.bare
 ·have e:b=it:=by simpa using hb
  subst e;exact⟨h1,hL,h2,h3⟩
 ·obtain⟨o,es,ep,ho,r⟩:=hm;exact⟨o,es,ep,k _ o (Ne.symm hL) ho,r⟩
 ·refine(I.hok b u e).stay (fun c v hc q=>k c v ?_ q) (fun _ q=>q) fun _ _ q=>q;rcases hc with z | z
  ·rw [z]; exact nit b u e
  ·exact nit c _ z
theorem Inv.tok(I:Inv X zh σ H s)(t:Nat):Inv X zh σ H { s with toks:=t }:=I.un (h':=s.heap) (t':=t) Un.refl I.hok
theorem Inv.kept{t':Nat}(I:Inv X zh σ H s)(k:∀ b u,s.heap.get? b=some u->h'.get? b=some u):Inv X zh σ H { s with heap:=h',toks:=t' }:=I.un (Un.kept k) (I.hok.kept k)
theorem Inv.laid{a:Addr}{o:HO}{t':Nat}(I:Inv X zh σ H s)(k:∀ b u,s.heap.get? b=some u->h'.get? b=some u)(hp:s.heap.objs.size<=a)(new:ObjOk X.prog X.w (upd H a o) h' a o):
  Inv X zh σ (upd H a o) { s with heap:=h',toks:=t' }:=I.un (Un.laid k hp (I.hok.fresh hp)) (I.hok.laid k hp new)
theorem Inv.write{x e:Addr}{o:HO}{t':Nat}(I:Inv X zh σ H s)(mu:Mut (H x))(he:e=x\/H e=some (.own x))(k:∀ b u,b≠e->s.heap.get? b=some u->h'.get? b=some u)(heo:∃ u,h'.get? e=some u)
  (new:ObjOk X.prog X.w (upd H x o) h' x o):Inv X zh σ (upd H x o) { s with heap:=h',toks:=t' }:=I.un (Un.write mu he k heo) (I.hok.write mu he k heo new)
theorem Inv.pins_of{pins':List (Addr×Obj)}(I:Inv X zh σ H s)(h:∀ p∈pins',s.heap.get? p.1=some p.2/\H p.1=none/\p.1≠X.env.locals/\p.1∉X.fs/\∀ v,p.2.data≠.cell v):Inv X pins' σ H s :=
 ⟨I.ok,I.os,I.bare,I.base,I.loc,I.cell,I.free,I.freeC,fun p hp=>(mem_append.mp hp).elim (fun z=>I.pin p (mem_append_left _ z)) (h p),I.hok,I.len⟩
theorem zik{N:List Str}(hN:N.Nodup){i j:Nat}{x:Str}(a:N[i]? = some x)(b:N[j]? = some x):i=j:=by
 obtain⟨h1,e1⟩:=List.getElem?_eq_some_iff.mp a;obtain⟨h2,e2⟩:=List.getElem?_eq_some_iff.mp b;exact(List.getElem_inj hN).mp (e1.trans e2.symm)
theorem zly{M:Model}{A:Around}{E:Value->Shared->Prop}{i:Nat}{x:Str}{v:V}{u:Value}{Q:Unit->Shared->Prop}(I:Inv X zh σ H s)(hN:X.N.Nodup)(hi:X.N[i]? = some x)(hx:Loc X.env.scope x)(r:RelV v u)
  (h:∀ s',Inv X zh (σ.set i (some v)) H s'->(∃ a,Heap.SameBut a s.heap s'.heap/\(a=X.env.locals\/X.env.cells.lookup x=some a))->Q () s') (hf:X.fn x=true\/X.env.scope.names.lookup x=some .local:=by first | exact .inl rfl | exact .inr rfl | assumption):wpAny M A (storeName X.env x u) Q E s:=by
 obtain⟨m,hn,hl⟩:=id I.loc;have hcls:(X.env.scope.kind == .class || (X.env.scope.kind == .module && X.env.locals != X.env.globals))=false:=by rw [I.ok.kind]; rfl
 have hiσ:i<σ.length:=by rw [I.len]; exact(List.getElem?_eq_some_iff.mp hi).1
 have cne:=I.cne;have tracked:∀ {a:Addr} {h':Heap},(∃ o,s.heap.get? a=some o/\H a=none)->Heap.SameBut a s.heap h'->HOk X.prog X.w H h':=fun {a h'} ha hs b ob e=>by
  obtain⟨_,_,hfree⟩:=ha;refine(I.hok b ob e).stay (fun c w' hc q=>(hs.2 c ?_).trans q) (fun _ q=>q) fun _ _ q=>q;rintro rfl;rcases hc with rfl | hc
  ·rw [hfree] at e; cases e
  ·rw [hfree] at hc; cases hc
 rcases hx with hk | hk
 ·refine wpAny_storeName_local hk hn (fun h' hn' hs=>?_) hcls;obtain⟨oL,_,_,hoL,_⟩:=id hn;refine h _ ⟨I.ok,I.os,I.bare,⟨fun b o e n hb hx=>?_,fun b o e n hb hx=>?_,I.base.free,fun b o e hx=>?_,I.base.tups,I.base.frzs,I.base.tbls⟩,⟨_,hn',fun j y v' e1 e2 e3=>?_⟩,fun y c e=>?_,I.free,I.freeC,fun p hp=>?_,tracked ⟨oL,hoL,I.free⟩ hs,by simpa using I.len⟩ ⟨_,hs,.inl rfl⟩
  ·exact(hs.2 b (ne_of_lt (lt_of_lt_of_le (lt_size e) I.ok.above))).trans (I.base.keep b o e n hb hx)
  ·obtain⟨sl,e1⟩:=I.base.slot b o e n hb hx;exact⟨sl,(hs.2 b (ne_of_lt (lt_of_lt_of_le (lt_size e) I.ok.above))).trans e1⟩
  ·obtain⟨o',e1⟩:=I.base.there b o e hx;exact⟨o',(hs.2 b (ne_of_lt (lt_of_lt_of_le (lt_size e) I.ok.above))).trans e1⟩
  ·by_cases hj:j=i
   ·subst hj;rw [hi] at e1; cases e1;rw [getElem?_set_self hiσ] at e2;cases e2;exact⟨u,r,.inl ⟨hk,by simp⟩⟩
   ·rw [getElem?_set_ne (Ne.symm hj)] at e2;obtain⟨u',r',q⟩:=hl j y v' e1 e2 e3;refine⟨u',r',?_⟩;rcases q with ⟨k,e⟩ | ⟨k,c,e,z⟩
    ·refine .inl ⟨k,?_⟩;have:y≠x:=fun e=>hj (zik hN e1 (e▸hi));simp [this,e]
    ·exact .inr ⟨k,c,e,z.sameBut hs (cne y c e)⟩
  ·obtain⟨w',z⟩:=I.cell y c e;exact⟨w',z.sameBut hs (cne y c e)⟩
  ·obtain⟨e,n,ne,nf,d⟩:=I.pin p hp;exact⟨(hs.2 p.1 ne).trans e,n,ne,nf,d⟩
 ·have hfn:X.fn x=true:=by
   rcases hf with z | z
   ·exact z
   ·rw [z] at hk; cases hk
  obtain⟨c,hc⟩:=I.ok.has x (.inl hk);obtain⟨w',z⟩:=I.cell x c hc;refine wpAny_storeName_cell I.ok.kind hk hc z (fun h' hc' hs=>?_);obtain⟨oc,hoc,hocd⟩:=id z;refine h { s with heap:=h' } ⟨I.ok,I.os,I.bare,⟨fun b o e n hb hx=>?_,fun b o e n hb hx=>?_,I.base.free,fun b o e hx=>?_,I.base.tups,I.base.frzs,I.base.tbls⟩,⟨m,hn.sameBut hs (Ne.symm (cne x c hc)),fun j y v' e1 e2 e3=>?_⟩,fun y c' e=>?_,I.free,I.freeC,fun p hp=>?_,tracked ⟨oc,hoc,I.freeC x c hc⟩ hs,by simpa using I.len⟩ ⟨c,hs,.inr hc⟩
  ·exact(hs.2 b (ne_of_lt (lt_of_lt_of_le (lt_size e) (I.ok.cab x c hfn hc)))).trans (I.base.keep b o e n hb hx)
  ·obtain⟨sl,e1⟩:=I.base.slot b o e n hb hx;exact⟨sl,(hs.2 b (ne_of_lt (lt_of_lt_of_le (lt_size e) (I.ok.cab x c hfn hc)))).trans e1⟩
  ·obtain⟨o',e1⟩:=I.base.there b o e hx;exact⟨o',(hs.2 b (ne_of_lt (lt_of_lt_of_le (lt_size e) (I.ok.cab x c hfn hc)))).trans e1⟩
  ·by_cases hj:j=i
   ·subst hj;rw [hi] at e1; cases e1;rw [getElem?_set_self hiσ] at e2;cases e2;exact⟨u,r,.inr ⟨.inl hk,c,hc,hc'⟩⟩
   ·rw [getElem?_set_ne (Ne.symm hj)] at e2;obtain⟨u',r',q⟩:=hl j y v' e1 e2 e3;refine⟨u',r',?_⟩;rcases q with q | ⟨k,c',e,z'⟩
    ·exact .inl q
    ·refine .inr ⟨k,c',e,z'.sameBut hs ?_⟩;rintro rfl;exact hj (zik hN e1 (I.ok.inj _ _ _ e hc▸hi))
  ·by_cases hcc:c'=c
   ·subst hcc; exact⟨_,hc'⟩
   ·obtain⟨w2,z2⟩:=I.cell y c' e;exact⟨w2,z2.sameBut hs hcc⟩
  ·obtain⟨e,n,ne,nf,d⟩:=I.pin p hp;refine⟨(hs.2 p.1 ?_).trans e,n,ne,nf,d⟩;intro q;rw [q,hoc] at e;have q':oc=p.2:=Option.some.inj e;exact d w' (by rw [<- q']; exact hocd)
theorem zgt{M:Model}{A:Around}{E:Value->Shared->Prop}{i:Nat}{x:Str}{v:V}{u:Value}{Q:Unit->Shared->Prop}(I:Inv X zh σ H s)(hN:X.N.Nodup)(hi:X.N[i]? = some x)(hx:Loc X.env.scope x)(r:RelV v u)
  (h:∀ s',Inv X zh (σ.set i (some v)) H s'->Q () s') (hf:X.fn x=true\/X.env.scope.names.lookup x=some .local:=by first | exact .inl rfl | exact .inr rfl | assumption):wpAny M A (storeName X.env x u) Q E s :=
 zly I hN hi hx r (fun s' I' _=>h s' I') hf
theorem Inv.call'{s':Shared}{ch:List Addr}(I:Inv X zh σ H s)(ho:s'.os=s.os)(u:Un (frs X.stack) ch H H' s.heap s'.heap)(hok:HOk X.prog X.w H' s'.heap)(hg:AllBare s'.gens)
  (hch:∀ b∈ch,(b∈X.ex\/X.s₀.heap.objs.size<=b)/\b≠X.env.locals/\(∀ x c,X.env.cells.lookup x=some c->c≠b)/\∀ p∈X.pn++zh,p.1≠b):Inv X zh σ H' s':=by
 obtain⟨h',g',d',t',o'⟩:=s';have e:o'=s.os:=ho;subst e;exact I.call (g':=g') (t':=t') (d':=d') u hok hg hch
end
abbrev XK:=Value->Option Addr->Hp->Prop
abbrev St:=List (Option V)
abbrev VK:=V->Hp->Prop
abbrev TE:=St->Hp->VK->Prop
abbrev TT:=St->Hp->(Bool->Hp->Prop)->Prop
abbrev TA:=St->Hp->(List V->Hp->Prop)->Prop
structure Ends where
 nx:St->Hp->Prop
 rt:VK
 bk:St->Hp->Prop:=fun _ _=>False
 ct:St->Hp->Prop:=fun _ _=>False
abbrev TS:=Ends->St->Hp->Prop
def EP(X:Cx)(zh:List (Addr×Obj))(σ:St)(Q:VK)(u:Value)(s':Shared):Prop:=∃ v H',Inv X zh σ H' s'/\RelV v u/\Q v H'
def TP(X:Cx)(zh:List (Addr×Obj))(σ:St)(Q:Bool->Hp->Prop)(b:Bool)(s':Shared):Prop:=∃ H',Inv X zh σ H' s'/\Q b H'
def AP(X:Cx)(zh:List (Addr×Obj))(σ:St)(Q:List V->Hp->Prop)(us:List Value)(s':Shared):Prop:=∃ vs H',Inv X zh σ H' s'/\Vals vs us/\Q vs H'
def SP(X:Cx)(zh:List (Addr×Obj))(D:Ends)(f:Flow)(s':Shared):Prop :=
 match f with
 | .next=>∃ σ' H',Inv X zh σ' H' s'/\D.nx σ' H'
 | .brk=>∃ σ' H',Inv X zh σ' H' s'/\D.bk σ' H'
 | .cont=>∃ σ' H',Inv X zh σ' H' s'/\D.ct σ' H'
 | .ret u=>∃ v σ' H',Inv X zh σ' H' s'/\RelV v u/\D.rt v H'
def PE(X:Cx)(e:Expr)(t:TE):Prop :=
 ∀ (zh:List (Addr×Obj)) (s:Shared) (σ:St) (H:Hp) (Q:VK),Inv X zh σ H s->t σ H Q->wpAny (model X.prog X.w) X.A (eval e X.env) (EP X zh σ Q) X.xe s
def PT(X:Cx)(e:Expr)(t:TT):Prop :=
 ∀ (zh:List (Addr×Obj)) (s:Shared) (σ:St) (H:Hp) (Q:Bool->Hp->Prop),Inv X zh σ H s->t σ H Q->wpAny (model X.prog X.w) X.A (isTrue e X.env (eval e X.env)) (TP X zh σ Q) X.xe s
def PW(X:Cx)(e:Expr)(t:TT):Prop :=
 ∀ (whole:Sem Value) (zh:List (Addr×Obj)) (s:Shared) (σ:St) (H:Hp) (Q:Bool->Hp->Prop),Inv X zh σ H s->t σ H Q->wpAny (model X.prog X.w) X.A (isTrue e X.env whole) (TP X zh σ Q) X.xe s
theorem PW.pt{X:Cx}{e:Expr}{t:TT}(h:PW X e t):PT X e t:=h _
def PA(X:Cx)(es:List Expr)(t:TA):Prop :=
 ∀ (pos:Pos) (zh:List (Addr×Obj)) (s:Shared) (σ:St) (H:Hp) (Q:List V->Hp->Prop),Inv X zh σ H s->t σ H Q->wpAny (model X.prog X.w) X.A (spliced (backTo pos (starEach es X.env))) (AP X zh σ Q) X.xe s
def PS(X:Cx)(st:Stmt)(t:TS):Prop :=
 ∀ (zh:List (Addr×Obj)) (s:Shared) (σ:St) (H:Hp) (D:Ends),Inv X zh σ H s->t D σ H->wpAny (model X.prog X.w) X.A (exec st X.env) (SP X zh D) X.xe s
def PSs(X:Cx)(st:List Stmt)(t:TS):Prop :=
 ∀ (zh:List (Addr×Obj)) (s:Shared) (σ:St) (H:Hp) (D:Ends),Inv X zh σ H s->t D σ H->wpAny (model X.prog X.w) X.A (execs st X.env) (SP X zh D) X.xe s
theorem thn{α:Type}{t:Sem α}{Q Q':α->Shared->Prop}{M:Model}{A:Around}{E:Value->Shared->Prop}{s:Shared}(h:wpAny M A t Q E s)(hQ:∀ a s,Q a s->Q' a s):wpAny M A t Q' E s:=wpAny_mono h hQ fun _ _ x=>x
end
section
section
variable {X:Cx}
def zlR(i:Nat):TE:=fun σ H Q=>∃ v,σ[i]? = some (some v)/\Q v H
def tC(v:V):TE:=fun _ H Q=>Q v H
theorem zo9{i:Nat}{x:Str}{pos:Pos}(hN:X.N[i]? = some x)(hv:Vis X.env.scope x)(hd:(x == ("__debug__":Str))=false:=by decide)(hcd:(x == ("__classdict__":Str))=false:=by decide):PE X (.Name x pos) (zlR i):=by
 intro zh s σ H Q I h;obtain⟨v,e,h⟩:=h;obtain⟨m,hn,hl⟩:=I.loc;obtain⟨u,r,l⟩:=hl i x v hN e hv;have fin:EP X zh σ Q u s:=⟨v,H,I,r,h⟩;rcases l with ⟨hk,hm⟩ | ⟨hk,c,hc,hcell⟩
 ·exact wpAny_Name (wpAny_loadName_local I.ok.kind hk hn hm fin) hd
 ·rcases hk with hk | hk
  ·exact wpAny_Name (wpAny_loadName_cell I.ok.kind hk hc hcell fin) hd
  ·exact wpAny_Name (wpAny_loadName_free I.ok.kind hk hc hcell fin hcd) hd
theorem zj{i j pos}:PE X (.Constant (.int i) j pos) (tC (.int i)):=fun _ _ _ H _ I h=>wpAny_Constant_int ⟨.int i,H,I.tok _,⟨_,rfl⟩,h⟩
theorem zeM{b j pos}:PE X (.Constant (.bool b) j pos) (tC (.bl b)):=fun _ _ _ H _ I h=>Constant_bool ⟨.bl b,H,I,rfl,h⟩
theorem zan{x j pos}:PE X (.Constant (.str x) j pos) (tC (.str x)):=fun _ _ _ H _ I h=>Calls.Constant_str ⟨.str x,H,I.tok _,⟨_,rfl⟩,h⟩
def Gl(X:Cx)(x:Str):Prop:=X.env.kindOf x=some .globalImplicit
theorem zla{E:Value->Shared->Prop}{zh:List (Addr×Obj)}{s:Shared}{σ:St}{H:Hp}{x:Str}{u:Value}{pos:Pos}{Q:Value->Shared->Prop}(I:Inv X zh σ H s)(hg:Gl X x)(hm:X.mg x=some u)(h:Q u s)
  (hd:(x == ("__debug__":Str))=false:=by decide):wpAny (model X.prog X.w) X.A (eval (.Name x pos) X.env) Q E s :=
 Calls.Name_function_global I.ok.kind hg (Calls.loadGlobal_global (by rw [I.ok.glob]; exact I.mod.glob.keeps I.bk) hm h) hd
theorem zdP{E:Value->Shared->Prop}{zh:List (Addr×Obj)}{s:Shared}{σ:St}{H:Hp}{x:Str}{u:Value}{pos:Pos}{Q:Value->Shared->Prop}(I:Inv X zh σ H s)(hg:Gl X x)(hm:X.mg x=none)(hv:bootBuiltins x=some u)(h:Q u s)
  (hn:x ≠ "__name__":=by decide) (hd:(x == ("__debug__":Str))=false:=by decide):wpAny (model X.prog X.w) X.A (eval (.Name x pos) X.env) Q E s:=by
 obtain⟨mb,h1,h2⟩:=I.mod.blt;exact Calls.Name_function_global I.ok.kind hg (Calls.loadGlobal_builtin (by rw [I.ok.glob]; exact I.mod.glob.keeps I.bk) hm (by rw [I.ok.blt]; exact h1.keeps I.bk) ((h2 x hn).trans hv) h) hd
theorem zku{x:Str}{v:V}{u:Value}{pos:Pos}(hg:Gl X x)(hm:X.mg x=some u)(r:RelV v u)(hd:(x == ("__debug__":Str))=false:=by decide):PE X (.Name x pos) (tC v) :=
 fun _ _ _ H _ I h=>zla I hg hm ⟨v,H,I,r,h⟩ hd
theorem za4{x:Str}{v:V}{u:Value}{pos:Pos}(hg:Gl X x)(hm:X.mg x=none)(hv:bootBuiltins x=some u)(r:RelV v u)(hn:x ≠ "__name__":=by decide)(hd:(x == ("__debug__":Str))=false:=by decide):PE X (.Name x pos) (tC v) :=
 fun _ _ _ H _ I h=>zdP I hg hm hv ⟨v,H,I,r,h⟩ hn hd
variable {a b:Expr} {ta tb:TE} {pos:Pos}
variable {tA tB':TT} {rest:List Expr}
def zr0(t u:TT):TT:=fun σ H Q=>t σ H fun c H1=>if c=true then u σ H1 Q else Q false H1
def tOr(t u:TT):TT:=fun σ H Q=>t σ H fun c H1=>if c=true then Q true H1 else u σ H1 Q
def zrT(t:TT):TT:=fun σ H Q=>t σ H fun c H1=>Q (!c) H1
theorem zhX(ha:PT X a tA):PW X (.BoolOp .And [a] pos) tA:=by
 intro wh zh s σ H Q I h;refine isTrue_and (thn (ha zh s σ H Q I h) fun c s1 e=>?_);cases c with
 | true=>exact isTrue_and_nil e
 | false=>exact e
theorem zcj(ha:PT X a tA):PW X (.BoolOp .Or [a] pos) tA:=by
 intro wh zh s σ H Q I h;refine isTrue_or (thn (ha zh s σ H Q I h) fun c s1 e=>?_);cases c with
 | false=>exact isTrue_or_nil e
 | true=>exact e
theorem zk5(ha:PT X a tA)(hb:PW X (.BoolOp .And (b :: rest) pos) tB'):PW X (.BoolOp .And (a :: b :: rest) pos) (zr0 tA tB'):=by
 intro wh zh s σ H Q I h;refine isTrue_and (thn (ha zh s σ H _ I h) fun c s1 ⟨H1,I1,q1⟩=>?_);cases c with
 | true=>exact hb wh zh s1 σ H1 Q I1 q1
 | false=>exact⟨H1,I1,q1⟩
theorem zdR(ha:PT X a tA)(hb:PW X (.BoolOp .Or (b :: rest) pos) tB'):PW X (.BoolOp .Or (a :: b :: rest) pos) (tOr tA tB'):=by
 intro wh zh s σ H Q I h;refine isTrue_or (thn (ha zh s σ H _ I h) fun c s1 ⟨H1,I1,q1⟩=>?_);cases c with
 | true=>exact⟨H1,I1,q1⟩
 | false=>exact hb wh zh s1 σ H1 Q I1 q1
theorem zaU(ha:PT X a tA):PT X (.UnaryOp .Not a pos) (zrT tA):=by
 intro zh s σ H Q I h;exact isTrue_not (ha zh s σ H (fun c H1=>Q (!c) H1) I h)
def zpW(ta tb:TE):TE:=fun σ H Q=>ta σ H fun x H1=>∃ c,x=.bl c/\if c=true then tb σ H1 Q else Q (.bl false) H1
def zqP(ta:TE):TE:=fun σ H Q=>ta σ H fun x H1=>∃ c,x=.bl c/\Q (.bl (!c)) H1
theorem zee{op}{t:TE}(h:PE X a t):PE X (.BoolOp op [a] pos) t:=fun zh s σ H Q I hw=>BoolOp_one (h zh s σ H Q I hw)
theorem zdr(ha:PE X a ta)(hb:PE X (.BoolOp .And (b :: rest) pos) tb):PE X (.BoolOp .And (a :: b :: rest) pos) (zpW ta tb):=by
 intro zh s σ H Q I h;refine BoolOp_and (thn (ha zh s σ H _ I h) fun v s1 ⟨x,H1,I1,r1,q1⟩=>?_);obtain⟨c,rfl,q1⟩:=q1;cases r1;refine wpAny_truthy_bool ?_;cases c with
 | true=>exact hb zh s1 σ H1 Q I1 q1
 | false=>exact⟨.bl false,H1,I1,rfl,q1⟩
theorem zm5(ha:PE X a ta):PE X (.UnaryOp .Not a pos) (zqP ta):=by
 intro zh s σ H Q I h;refine UnaryOp_ (thn (ha zh s σ H _ I h) fun v s1 ⟨x,H1,I1,r1,q1⟩=>?_);obtain⟨c,rfl,q1⟩:=q1;cases r1;exact not_of (wpAny_truthy_bool ⟨.bl (!c),H1,I1,rfl,q1⟩)
def tIf(t:TT)(ta tb:TE):TE:=fun σ H Q=>t σ H fun c H1=>if c=true then ta σ H1 Q else tb σ H1 Q
theorem zma{c:Expr}(hc:PT X c tA)(ha:PE X a ta)(hb:PE X b tb):PE X (.IfExp c a b pos) (tIf tA ta tb):=by
 intro zh s σ H Q I h;refine wpAny_IfExp (thn (hc zh s σ H _ I h) fun d s1 ⟨H1,I1,q1⟩=>?_);cases d with
 | true=>exact ha zh s1 σ H1 Q I1 q1
 | false=>exact hb zh s1 σ H1 Q I1 q1
end
end
section
def SqL(K:W.Frag)(H:Hp)(a:Addr)(xs:List V):Prop :=
 Rd H a (.lst xs) \/
  ∃ (o:Obj) (its:Array Value) (n:Nat),K.lookup a=some o/\o.cls=.type "list"/\o.dict=none/\o.data=.seq its n/\its.size<=sizeLine/\Vals xs its.toList
def SqT(K:W.Frag)(H:Hp)(a:Addr)(xs:List V):Prop :=
 Rd H a (.tup xs) \/
  ∃ (o:Obj) (its:Array Value) (n:Nat),K.lookup a=some o/\o.cls=.type "tuple"/\o.data=.seq its n/\its.size<=sizeLine/\Vals xs its.toList
def zsm:Value->Option V
 | .none=>some .non
 | .bool b=>some (.bl b)
 | .int i _=>some (.int i)
 | .str x _=>some (.str x)
 | .bytes b _=>some (.byt b)
 | .float b _=>some (.flt b)
 | .ref a=>some (.ref a)
 | .type n=>some (.ty n)
 | _=>none
theorem RelV.abs{x:V}{u:Value}(r:RelV x u):zsm u=some x:=by
 cases x with
 | non=>cases r; rfl
 | bl _=>cases r; rfl
 | int _=>obtain⟨t,rfl⟩:=r; rfl
 | str _=>obtain⟨t,rfl⟩:=r; rfl
 | byt _=>obtain⟨t,rfl⟩:=r; rfl
 | flt _=>obtain⟨t,rfl⟩:=r; rfl
 | ref _=>cases r; rfl
 | ty _=>cases r; rfl
theorem RelV.inj{x y:V}{u:Value}(r:RelV x u)(q:RelV y u):x=y:=Option.some.inj (r.abs.symm.trans q.abs)
theorem Vals.inj:∀ {xs ys:List V} {us:List Value},Vals xs us->Vals ys us->xs=ys
 | _,_,_,.nil,.nil=>rfl
 | _,_,_,.cons r t,.cons r' t'=>by rw [r.inj r',Vals.inj t t']
section
variable {X:Cx} {zh:List (Addr×Obj)} {σ:St} {H:Hp} {s:Shared} {a:Addr} {xs ys:List V}
theorem SqL.of{K:W.Frag}(h:H a=some (.lst xs)):SqL K H a xs:=.inl (.inl h)
theorem SqT.of{K:W.Frag}(h:H a=some (.tup xs)):SqT K H a xs:=.inl (.inl h)
theorem Inv.list(I:Inv X zh σ H s)(h:SqL X.K H a xs):∃ its:List Value,Vals xs its/\PlainL s.heap a its.toArray/\xs.length<=sizeLine:=by
 rcases h with h | ⟨o,its,n,hk,hc,hd,hs,hz,r⟩
 ·obtain⟨z,its,n,r,e⟩:=h.ok I.hok;exact⟨its,r,⟨_,n,e,rfl,rfl,rfl⟩,z⟩
 ·refine⟨its.toList,r,⟨o,n,I.kIn a o hk,hc,hd,by simpa using hs⟩,?_⟩;have e:=r.length;simp only [length_toList] at e;omega
theorem Inv.tuple(I:Inv X zh σ H s)(h:SqT X.K H a xs):∃ its:List Value,Vals xs its/\IsTup s.heap a its.toArray/\xs.length<=sizeLine:=by
 rcases h with h | ⟨o,its,n,hk,hc,hs,hz,r⟩
 ·obtain⟨z,its,r,p⟩:=h.ok I.hok;exact⟨its,r,p,z.1⟩
 ·refine⟨its.toList,r,⟨o,I.kIn a o hk,hc,n,by simpa using hs⟩,?_⟩;have e:=r.length;simp only [length_toList] at e;omega
theorem Inv.list_inj(I:Inv X zh σ H s)(h:SqL X.K H a xs)(h':SqL X.K H a ys):xs=ys:=by
 obtain⟨its,r,⟨o,n,e,_,_,d⟩,_⟩:=I.list h;obtain⟨its',r',⟨o',n',e',_,_,d'⟩,_⟩:=I.list h';rw [e] at e'; cases e';rw [d] at d';injection d' with d1 _
 have:its=its':=by simpa using congrArg Array.toList d1
 subst this;exact r.inj r'
theorem Inv.tuple_inj(I:Inv X zh σ H s)(h:SqT X.K H a xs)(h':SqT X.K H a ys):xs=ys:=by
 obtain⟨its,r,⟨o,e,_,n,d⟩,_⟩:=I.tuple h;obtain⟨its',r',⟨o',e',_,n',d'⟩,_⟩:=I.tuple h';rw [e] at e'; cases e';rw [d] at d';injection d' with d1 _
 have:its=its':=by simpa using congrArg Array.toList d1
 subst this;exact r.inj r'
end
abbrev Cx.wish (X:Cx) (E:Value->Shared->Prop):Cx:={ X with xe:=E }
abbrev Cx.nox (X:Cx):Cx:=X.wish fun _ _=>False
theorem Cx.Ok.wish{X:Cx}(ok:X.Ok)(E:Value->Shared->Prop):(X.wish E).Ok :=
 ⟨ok.mod,ok.kind,ok.glob,ok.blt,ok.above,ok.inj,ok.has,ok.cab,ok.hd,ok.frames,ok.stk,ok.exf,ok.bs,ok.bsz,ok.noex,ok.exfs,ok.funs,ok.frf⟩
theorem Cx.Ok.unwish{X:Cx}{E:Value->Shared->Prop}(ok:(X.wish E).Ok):X.Ok :=
 ⟨ok.mod,ok.kind,ok.glob,ok.blt,ok.above,ok.inj,ok.has,ok.cab,ok.hd,ok.frames,ok.stk,ok.exf,ok.bs,ok.bsz,ok.noex,ok.exfs,ok.funs,ok.frf⟩
section
variable {X:Cx} {zh:List (Addr×Obj)} {σ:St} {H:Hp} {s:Shared} {E:Value->Shared->Prop}
theorem Inv.wish(I:Inv X zh σ H s)(E:Value->Shared->Prop):Inv (X.wish E) zh σ H s:=⟨I.ok.wish E,I.os,I.bare,I.base,I.loc,I.cell,I.free,I.freeC,I.pin,I.hok,I.len⟩
theorem Inv.unwish(I:Inv (X.wish E) zh σ H s):Inv X zh σ H s:=⟨I.ok.unwish,I.os,I.bare,I.base,I.loc,I.cell,I.free,I.freeC,I.pin,I.hok,I.len⟩
theorem SP.unwish{D:Ends}{f:Flow}{s':Shared}(h:SP (X.wish E) zh D f s'):SP X zh D f s':=by
 cases f with
 | next=>obtain⟨σ',H',I,q⟩:=h; exact⟨σ',H',I.unwish,q⟩
 | brk=>obtain⟨σ',H',I,q⟩:=h; exact⟨σ',H',I.unwish,q⟩
 | cont=>obtain⟨σ',H',I,q⟩:=h; exact⟨σ',H',I.unwish,q⟩
 | ret u=>obtain⟨v,σ',H',I,r,q⟩:=h; exact⟨v,σ',H',I.unwish,r,q⟩
theorem PSs.nox{st:List Stmt}{t:TS}(h:PSs X.nox st t):PSs X st t:=fun zh s σ H D I hw =>
 wpAny_mono (h zh s σ H D (I.wish _) hw) (fun _ _ q=>q.unwish) fun _ _ z=>False.elim z
end
section
variable {X:Cx} {st:Stmt} {rest:List Stmt} {t u:TS} {e:Expr} {te:TE} {pos:Pos}
def znT:TS:=fun D σ H=>D.nx σ H
def zgI(t u:TS):TS:=fun D σ H=>t { D with nx:=u D } σ H
theorem zI:PSs X [] znT:=fun _ _ σ H _ I h=>wpAny_execs_nil ⟨σ,H,I,h⟩
theorem zk(h1:PS X st t)(h2:PSs X rest u):PSs X (st :: rest) (zgI t u):=by
 intro zh s σ H D I h;refine wpAny_execs_cons (thn (h1 zh s σ H { D with nx:=u D } I h) fun f s1 q=>?_);cases f with
 | next =>
  obtain⟨σ',H',I',q⟩:=q;exact h2 zh s1 σ' H' D I' q
 | ret v=>exact q
 | brk=>exact q
 | cont=>exact q
theorem zq(h1:PS X st t):PSs X [st] t:=by
 intro zh s σ H D I h;refine wpAny_execs_cons (thn (h1 zh s σ H D I h) fun f s1 q=>?_);cases f with
 | next=>exact wpAny_execs_nil q
 | ret v=>exact q
 | brk=>exact q
 | cont=>exact q
theorem Inv.quiet{zh:List (Addr×Obj)}{σ:St}{H:Hp}{s:Shared}(I:Inv X zh σ H s):interactive X.env=false:=by simp [interactive,I.ok.kind]
def zpc(te:TE):TS:=fun D σ H=>te σ H fun _ H1=>D.nx σ H1
theorem zdL(he:PE X e te)(hs:swapsWith e none pos.line X.env=pure false:=by rfl):PS X (.Expr e pos) (zpc te):=by
 intro zh s σ H D I h;exact wpAny_Expr_any (thn (he zh s σ H _ I h) fun v s1 ⟨x,H1,I1,r1,q1⟩=>⟨σ,H1,I1,q1⟩) I.quiet hs
def zrG(te:TE):TS:=fun D σ H=>te σ H D.rt
theorem zG(he:PE X e te):PS X (.Return (some e) pos) (zrG te):=by
 intro zh s σ H D I h;exact wpAny_Return_some (thn (he zh s σ H _ I h) fun v s1 ⟨x,H1,I1,r1,q1⟩=>⟨x,σ,H1,I1,r1,q1⟩)
def zrb(c:TT)(t u:TS):TS:=fun D σ H=>c σ H fun b H1=>if b=true then t D σ H1 else u D σ H1
theorem zaD{c:Expr}{a b:List Stmt}{tc:TT}(hc:PT X c tc)(ha:PSs X a t)(hb:PSs X b u):PS X (.If c a b pos) (zrb tc t u):=by
 intro zh s σ H D I h;refine wpAny_If (thn (hc zh s σ H _ I h) fun d s1 ⟨H1,I1,q1⟩=>?_);cases d with
 | true=>exact ha zh s1 σ H1 D I1 q1
 | false=>exact hb zh s1 σ H1 D I1 q1
def znq:TS:=fun _ _ _=>False
theorem zaO:PS X st znq:=fun _ _ _ _ _ _ h=>h.elim
end
abbrev TG:=V->St->Hp->(St->Hp->Prop)->Prop
abbrev TGs:=List V->St->Hp->(St->Hp->Prop)->Prop
def PG(X:Cx)(target:Expr)(t:TG):Prop :=
 ∀ (zh:List (Addr×Obj)) (s:Shared) (σ:St) (H:Hp) (v:V) (u:Value) (Q:St->Hp->Prop),Inv X zh σ H s->RelV v u->t v σ H Q ->
  wpAny (model X.prog X.w) X.A (assign target X.env u) (fun _ s'=>∃ σ' H',Inv X zh σ' H' s'/\Q σ' H') X.xe s
def PGs(X:Cx)(ts:List Expr)(t:TGs):Prop :=
 ∀ (zh:List (Addr×Obj)) (s:Shared) (σ:St) (H:Hp) (vs:List V) (us:List Value) (Q:St->Hp->Prop),Inv X zh σ H s->Vals vs us->t vs σ H Q ->
  wpAny (model X.prog X.w) X.A (assignInOrder ((assignEach ts X.env).map (·.2)) us) (fun _ s'=>∃ σ' H',Inv X zh σ' H' s'/\Q σ' H') X.xe s
abbrev TSet:=V->V->V->Hp->(Hp->Prop)->Prop
def PSet(X:Cx)(t:TSet):Prop :=
 ∀ (zh:List (Addr×Obj)) (s:Shared) (σ:St) (H:Hp) (o i v:V) (ov iv u:Value) (Q:Hp->Prop),Inv X zh σ H s->RelV o ov->RelV i iv->RelV v u->t o i v H Q ->
  wpAny (model X.prog X.w) X.A (setItem ov iv u) (fun _ s'=>∃ H',Inv X zh σ H' s'/\Q H') X.xe s
section
variable {X:Cx} {pos:Pos}
def zic(i:Nat):TG:=fun v σ H Q=>Q (σ.set i (some v)) H
theorem zE{i:Nat}{x:Str}(hN:X.N.Nodup)(hi:X.N[i]? = some x)(hx:Loc X.env.scope x)(hf:X.fn x=true\/X.env.scope.names.lookup x=some .local:=by first | exact .inl rfl | exact .inr rfl | assumption):PG X (.Name x pos) (zic i):=by
 intro zh s σ H v u Q I r h;exact wpAny_assign_Name (zgt I hN hi hx r (fun s' I'=>⟨_,H,I',h⟩) hf)
def zr8:TGs:=fun vs σ H Q=>vs=[]/\Q σ H
def zpO(t:TG)(u:TGs):TGs:=fun vs σ H Q=>∃ v r,vs=v :: r/\t v σ H fun σ' H'=>u r σ' H' Q
theorem zb9:PGs X [] zr8:=by
 intro zh s σ H vs us Q I r h;obtain⟨e,h⟩:=h;subst e;cases r;exact assignInOrder_nil ⟨σ,H,I,h⟩
theorem zW{e:Expr}{es:List Expr}{t:TG}{u:TGs}(h1:PG X e t)(h2:PGs X es u)
  (hs:(assignEach (e :: es) X.env).map (·.2)=assign e X.env :: (assignEach es X.env).map (·.2):=by rfl):PGs X (e :: es) (zpO t u):=by
 intro zh s σ H vs us Q I r h;obtain⟨v,vr,e1,h⟩:=h;subst e1;cases r with
 | cons r rr =>
  rw [hs];refine assignInOrder_cons (thn (h1 zh s σ H _ _ _ I r h) fun _ s1 ⟨σ1,H1,I1,q1⟩=>?_);exact h2 zh s1 σ1 H1 _ _ Q I1 rr q1
def zrY(K:W.Frag)(n:Nat)(t:TGs):TG:=fun v σ H Q=>∃ a xs,v=.ref a/\SqT K H a xs/\xs.length=n/\t xs σ H Q
theorem zdn{es:List Expr}{k:Nat}{t:TGs}{n:Nat}(hc:X.calm=true)(h:PGs X es t)
  (hn:(assignEach es X.env).length=n:=by rfl) (hst:(assignEach es X.env).findIdx? (·.1)=none:=by rfl):PG X (.Tuple es k pos) (zrY X.K n t):=by
 intro zh s σ H v u Q I r hw;obtain⟨a,xs,e1,hq,hl,hw⟩:=hw;subst e1;cases r;obtain⟨its,rv,ht,hz⟩:=I.tuple hq;refine assign_Tuple_tuple (I.ok.hd hc) ht (by simp [hn,<- hl,rv.length]) hst fun h' hx=>?_;have I1:Inv X zh σ H { s with heap:=h' }:=I.kept (t':=s.toks) fun b o e=>hx b o (ne_of_lt (lt_size e)) e;exact h zh _ σ H xs _ Q I1 (by simpa using rv) hw
def zsk(to ti:TE)(t:TSet):TG:=fun v σ H Q=>to σ H fun o H1=>ti σ H1 fun i H2=>t o i v H2 fun H3=>Q σ H3
theorem zk2{o i:Expr}{to ti:TE}{t:TSet}(ho:PE X o to)(hi:PE X i ti)(hs:PSet X t)
  (ha:∀ v,assign (.Subscript o i pos) X.env v=(do
   let ov <- holding [v] (eval o X.env)
   let iv <- holding [v,ov] (eval i X.env)
   standAt pos
   holding [v,ov,iv] (setItem ov iv v)
   release [v,ov,iv] []):=by intro _; rfl):PG X (.Subscript o i pos) (zsk to ti t):=by
 intro zh s σ H v u Q I r h;rw [ha];refine wpAny_bind (wpAny_holding (thn (ho zh s σ H _ I h) fun ov s1 ⟨x,H1,I1,r1,q1⟩=>?_));refine wpAny_bind (wpAny_holding (thn (hi zh s1 σ H1 _ I1 q1) fun iv s2 ⟨y,H2,I2,r2,q2⟩=>?_));refine wpAny_bind (wpAny_standAt (wpAny_bind (wpAny_holding (thn (hs zh s2 σ H2 x y v ov iv u _ I2 r1 r2 r q2) fun _ s3 ⟨H3,I3,q3⟩=>?_))));exact wpAny_release ⟨σ,H3,I3,q3⟩
def zqC(te:TE)(g:TG):TS:=fun D σ H=>te σ H fun x H1=>g x σ H1 D.nx
theorem ziF{tg e:Expr}{te:TE}{g:TG}(he:PE X e te)(hg:PG X tg g)(hs:swapsWithSole [tg] e pos.line X.env=pure false:=by rfl)(hw:swappedStores [tg] e X.env=pure none:=by rfl)
  (h1:(assignEach [tg] X.env).map (·.2)=[assign tg X.env]:=by rfl):PS X (.Assign [tg] e pos) (zqC te g):=by
 intro zh s σ H D I h;refine wpAny_Assign_stores (thn (he zh s σ H _ I h) fun v s1 ⟨x,H1,I1,r1,q1⟩=>?_) hs hw;rw [h1];exact thn (hg zh s1 σ H1 x v _ I1 r1 q1) fun _ s2 q=>q
theorem zO{i:Nat}{x:Str}{e:Expr}{te:TE}{pos':Pos}(hN:X.N.Nodup)(hi:X.N[i]? = some x)(hx:Loc X.env.scope x)(he:PE X e te)(hs:swapsWith e (some (.Name x pos')) pos.line X.env=pure false:=by rfl)(hf:X.fn x=true\/X.env.scope.names.lookup x=some .local:=by first | exact .inl rfl | exact .inr rfl | assumption):
  PS X (.Assign [.Name x pos'] e pos) (zqC te (zic i)):=by
 intro zh s σ H D I h;refine wpAny_Assign_Name (thn (he zh s σ H _ I h) fun v s1 ⟨y,H1,I1,r1,q1⟩=>?_) hs;exact zgt I1 hN hi hx r1 (fun s2 I2=>⟨_,H1,I2,q1⟩) hf
end
structure It where
 go:Nat->Hp->Prop
 yld:Nat->Hp->V->Hp->Prop
 stop:Nat->Hp->Prop
def FpOk(X:Cx)(zh:List (Addr×Obj))(H:Hp)(b:Addr):Prop :=
 H b=none/\b≠X.env.locals/\b∉X.fs/\(b∈X.ex\/X.s₀.heap.objs.size<=b)/\(∀ x c,X.env.cells.lookup x=some c->c≠b)/\∀ p∈X.pn++zh,p.1≠b
theorem Inv.fpOk{X:Cx}{zh:List (Addr×Obj)}{σ:St}{H H':Hp}{s:Shared}{b:Addr}(I:Inv X zh σ H s)(hb:s.heap.objs.size<=b)(hn:H' b=none):FpOk X zh H' b:=by
 refine⟨hn,ne_of_gt (lt_of_lt_of_le I.lt hb),I.nofs hb,.inr (le_trans I.sz hb),fun x c e z=>?_,fun p hp z=>?_⟩
 ·obtain⟨v,q⟩:=I.cell x c e;exact absurd (lt_of_lt_of_le q.lt (by rw [z]; exact hb)) (lt_irrefl _)
 ·exact absurd (lt_of_lt_of_le (lt_size (I.pin p hp).1) (by rw [z]; exact hb)) (lt_irrefl _)
structure Turn(P:Program)(w:World)(K:W.Frag)(tg:Expr)(J:It)(fp:List Addr)(it:Addr)(tn:Nat->Heap->Prop):Prop where
 mem:it∈fp
 obj:∀ i h,tn i h->∀ b∈fp,∃ o,h.get? b=some o/\∀ v,o.data≠.cell v
 keep:∀ i h h',tn i h->(∀ b∈fp,∀ o,h.get? b=some o->h'.get? b=some o)->tn i h'
 item:∀ (X:Cx),X.prog=P->X.w=w->X.K=K->X.calm=true->∀ (i:Nat) (zh:List (Addr×Obj)) (s:Shared) (σ:St) (H:Hp) (E:Value->Shared->Prop),Inv X zh σ H s->(∀ b∈fp,FpOk X zh H b)->tn i s.heap->J.go i H ->
  wpAny (model P w) X.A (pyNext (.ref it)) (fun r s1=>∃ u,r=some u /\
   wpAny (model P w) X.A (letOwnedTupleGo tg (.ref it) u) (fun _ s2=>∃ x H',Inv X zh σ H' s2/\RelV x u/\J.yld i H x H'/\tn (i+1) s2.heap/\∀ b∈fp,H' b=none) E s1) E s
 done:∀ (X:Cx),X.prog=P->X.w=w->X.K=K->X.calm=true->∀ (i:Nat) (zh:List (Addr×Obj)) (s:Shared) (σ:St) (H:Hp) (E:Value->Shared->Prop),Inv X zh σ H s->(∀ b∈fp,FpOk X zh H b)->tn i s.heap->J.stop i H ->
  wpAny (model P w) X.A (pyNext (.ref it)) (fun r s1=>r=none/\Inv X zh σ H s1) E s
 self:∀ (A:Around) (i:Nat) (s:Shared) (Q:Value->Shared->Prop) (E:Value->Shared->Prop),tn i s.heap->Q (.ref it) s->wpAny (model P w) A (pyIter (.ref it)) Q E s
abbrev TI:=St->Hp->(It->Hp->Prop)->Prop
def PIE(X:Cx)(zh:List (Addr×Obj))(σ:St)(tg:Expr)(R:It->Hp->Prop)(itv:Value)(s2:Shared):Prop :=
 ∃ (it:Addr) (fp:List Addr) (tn:Nat->Heap->Prop) (J:It) (H':Hp),itv=.ref it/\Inv X zh σ H' s2/\Turn X.prog X.w X.K tg J fp it tn/\tn 0 s2.heap/\(∀ b∈fp,FpOk X zh H' b)/\R J H'
def PI(X:Cx)(tg iter:Expr)(wi:TI):Prop :=
 ∀ (zh:List (Addr×Obj)) (s:Shared) (σ:St) (H:Hp) (R:It->Hp->Prop),Inv X zh σ H s->wi σ H R ->
  wpAny (model X.prog X.w) X.A (eval iter X.env) (fun v s1=>wpAny (model X.prog X.w) X.A (pyIter v) (PIE X zh σ tg R) X.xe s1) X.xe s
theorem zjt{M:Model}{A:Around}{E:Value->Shared->Prop}{s:Shared}{tg:Expr}{it:Addr}{u:Value}{o:Obj}{n:String}{vs:Array Value}{Q:Unit->Shared->Prop}(ho:s.heap.get? it=some o)(hc:o.cls=.type n)(hd:o.data=.fields vs)
    (hn:["enumerate","zip","dict_itemiterator","dict_reverseitemiterator","odict_iterator","itertools.zip_longest","itertools.pairwise"].contains n=false) (hQ:Q () s):wpAny M A (letOwnedTupleGo tg (.ref it) u) Q E s:=by
  unfold letOwnedTupleGo;cases tg <;> first
    | exact wpAny_pure hQ
    | (cases u <;> first
        | exact wpAny_pure hQ
        | (refine wpAny_bind (wpAny_load ho ?_)
           rw [hc,hd];show wpAny M A (if (["enumerate","zip","dict_itemiterator","dict_reverseitemiterator","odict_iterator","itertools.zip_longest","itertools.pairwise"].contains n && vs[0]? == some (rawInt _))=true then _ else _) Q E s;rw [if_neg (by intro h; rw [hn,Bool.false_and] at h; cases h)];exact wpAny_pure hQ))
def Itl(K:W.Frag)(a:Addr):It :=
 ⟨fun i H=>∃ xs x,SqL K H a xs/\xs[i]? = some x,fun i H x H'=>H'=H/\∀ xs,SqL K H a xs->xs[i]? = some x,fun i H=>∃ xs,SqL K H a xs/\xs.length<=i⟩
def Itt(K:W.Frag)(a:Addr):It :=
 ⟨fun i H=>∃ xs x,SqT K H a xs/\xs[i]? = some x,fun i H x H'=>H'=H/\∀ xs,SqT K H a xs->xs[i]? = some x,fun i H=>∃ xs,SqT K H a xs/\xs.length<=i⟩
def Itr(lo:Int)(n:Nat):It:=⟨fun i _=>i<n,fun i H x H'=>H'=H/\x=.int (lo+i),fun i _=>n<=i⟩
theorem zhg{P:Program}{w:World}{K:W.Frag}{tg:Expr}(a it:Addr):Turn P w K tg (Itl K a) [it] it (fun i h=>h.IsListIter it a i) where
 mem:=by simp
 obj:=fun i h st b hb=>by
  have e:b=it:=by simpa using hb
  subst e;obtain⟨o,e,c,d⟩:=st;exact⟨o,e,fun v z=>by rw [d] at z; cases z⟩
 keep:=fun i h h' st k=>st.at fun o e=>k it (by simp) o e
 item:=by
  intro X hP hw hK hc i zh s σ H E I hf st hg;subst hP hw hK;obtain⟨xs,x,hq,hx⟩:=hg;obtain⟨its,rv,p,hz⟩:=I.list hq;obtain⟨u,hu,ru⟩:=rv.get hx;obtain⟨f0,f1,f2,f3,f4,f5⟩:=hf it (by simp);refine wpAny_pyNext_list_item st p.isList (x:=u) (by simpa using hu) fun h' st' sb=>?_;have I1:Inv X zh σ H { s with heap:=h' }:=I.turned (t':=s.toks) (fun b o hb e=>(sb.2 b hb).trans e) f0 f1 f3 f4 f5;obtain⟨o,e,c,d⟩:=id st';exact⟨u,rfl,zjt (s:={ s with heap:=h' }) e c d dz ⟨x,H,I1,ru,⟨rfl,fun ys hy=>by rw [I.list_inj hy hq]; exact hx⟩,st',fun b hb=>(hf b hb).1⟩⟩
 done:=by
  intro X hP hw hK hc i zh s σ H E I hf st hg;subst hP hw hK;obtain⟨xs,hq,hx⟩:=hg;obtain⟨its,rv,p,hz⟩:=I.list hq;obtain⟨f0,f1,f2,f3,f4,f5⟩:=hf it (by simp);have hl:=rv.length;exact wpAny_pyNext_list_end (I.ok.hd hc) st p.isList (by simp; omega) fun h' eb=>⟨rfl,I.turned (t':=s.toks) (fun b o hb e=>eb b o hb e) f0 f1 f3 f4 f5⟩
 self:=fun _ _ _ _ _ st h=>wpAny_pyIter_listiter st h
theorem zji{P:Program}{w:World}{K:W.Frag}{tg:Expr}(a it:Addr):Turn P w K tg (Itt K a) [it] it (fun i h=>h.IsTupleIter it a i) where
 mem:=by simp
 obj:=fun i h st b hb=>by
  have e:b=it:=by simpa using hb
  subst e;obtain⟨o,e,c,d⟩:=st;exact⟨o,e,fun v z=>by rw [d] at z; cases z⟩
 keep:=fun i h h' st k=>st.at fun o e=>k it (by simp) o e
 item:=by
  intro X hP hw hK hc i zh s σ H E I hf st hg;subst hP hw hK;obtain⟨xs,x,hq,hx⟩:=hg;obtain⟨its,rv,p,hz⟩:=I.tuple hq;obtain⟨u,hu,ru⟩:=rv.get hx;obtain⟨f0,f1,f2,f3,f4,f5⟩:=hf it (by simp);refine wpAny_pyNext_tuple_item st (show s.heap.IsTuple a its.toArray from p) (x:=u) (by simpa using hu) fun h' st' sb=>?_;have I1:Inv X zh σ H { s with heap:=h' }:=I.turned (t':=s.toks) (fun b o hb e=>(sb.2 b hb).trans e) f0 f1 f3 f4 f5;obtain⟨o,e,c,d⟩:=id st';exact⟨u,rfl,zjt (s:={ s with heap:=h' }) e c d dz ⟨x,H,I1,ru,⟨rfl,fun ys hy=>by rw [I.tuple_inj hy hq]; exact hx⟩,st',fun b hb=>(hf b hb).1⟩⟩
 done:=by
  intro X hP hw hK hc i zh s σ H E I hf st hg;subst hP hw hK;obtain⟨xs,hq,hx⟩:=hg;obtain⟨its,rv,p,hz⟩:=I.tuple hq;obtain⟨f0,f1,f2,f3,f4,f5⟩:=hf it (by simp);have hl:=rv.length;exact wpAny_pyNext_tuple_end (I.ok.hd hc) st (show s.heap.IsTuple a its.toArray from p) (by simp; omega) fun h' eb=>⟨rfl,I.turned (t':=s.toks) (fun b o hb e=>eb b o hb e) f0 f1 f3 f4 f5⟩
 self:=fun _ _ _ _ _ st h=>wpAny_pyIter_tupleiter st h
theorem zjs{P:Program}{w:World}{K:W.Frag}{tg:Expr}(it:Addr)(lo:Int)(n:Nat):Turn P w K tg (Itr lo n) [it] it (fun i h=>IsRangeIter h it (lo+(i:Nat)*1) ((n:Int) - (i:Nat)) 1) where
 mem:=by simp
 obj:=fun i h st b hb=>by
  have e:b=it:=by simpa using hb
  subst e;exact⟨_,st,fun v z=>by
   have z':Data.fields _=Data.cell v:=z;cases z'⟩
 keep:=fun i h h' st k=>k it (by simp) _ st
 item:=by
  intro X hP hw hK hc i zh s σ H E I hf st hg;subst hP hw hK;obtain⟨f0,f1,f2,f3,f4,f5⟩:=hf it (by simp);have W:=Walks.range (prog:=X.prog) (w:=X.w) (I.ok.hd hc) it lo 1 n;refine W.item i s _ _ hg st fun v h' tk hv st' kk=>?_;obtain⟨t,rfl⟩:=hv;have I1:Inv X zh σ H { s with heap:=h',toks:=tk }:=I.turned (fun b o hb e=>kk b o (by simpa using hb) e) f0 f1 f3 f4 f5;refine⟨_,rfl,zjt (s:={ s with heap:=h',toks:=tk }) (n:="range_iterator") st' rfl rfl dz ⟨.int (lo+i),H,I1,⟨t,?_⟩,⟨rfl,rfl⟩,st',fun b hb=>(hf b hb).1⟩⟩;rw [Int.mul_one]
 done:=by
  intro X hP hw hK hc i zh s σ H E I hf st hg;subst hP hw hK;obtain⟨f0,f1,f2,f3,f4,f5⟩:=hf it (by simp);exact wpAny_pyNext_range_end (I.ok.hd hc) st (by have:n<=i:=hg; omega) fun h' eb=>⟨rfl,I.turned (t':=s.toks) (fun b o hb e=>eb b o hb e) f0 f1 f3 f4 f5⟩
 self:=fun _ _ _ _ _ st h=>wpAny_pyIter_rangeiter st h
end
section
section
variable {X:Cx} {tg:Expr}
def zoh(K:W.Frag)(tl:TE):TI:=fun σ H R=>tl σ H fun x H1=>∃ a,x=.ref a/\(∃ xs,SqL K H1 a xs)/\R (Itl K a) H1
theorem zn2{l:Expr}{tl:TE}(hl:PE X l tl):PI X tg l (zoh X.K tl):=by
 intro zh s σ H R I h;refine thn (hl zh s σ H _ I h) fun v s1 ⟨x,H1,I1,r1,q1⟩=>?_;obtain⟨a,e,⟨xs,hq⟩,q⟩:=q1;subst e;cases r1;obtain⟨its,rv,p,hz⟩:=I1.list hq;refine wpAny_pyIter_list p.isList ?_;refine⟨s1.heap.objs.size,[s1.heap.objs.size],_,_,H1,rfl,I1.kept (t':=s1.toks) fun b o e=>get?_push_of_some _ e,zhg a _,⟨_,get?_push_size _ rfl,rfl,rfl⟩,fun b hb=>?_,q⟩;have e:b=s1.heap.objs.size:=by simpa using hb
 subst e;exact I1.fpOk (le_refl _) (I1.hok.fresh (le_refl _))
def zqX(wi:TI)(g:TG)(tb:TS):TS:=fun D σ H=>wi σ H fun J H1=>∃ W:Nat->Nat->St->Hp->Prop,(∃ m,W 0 m σ H1)/\∀ i m σ H,W i m σ H ->
 (J.stop i H/\D.nx σ H)\/(J.go i H/\∃ N:St->Hp->Prop,(∀ σ' H',N σ' H'->∃ m',m'<m/\W (i+1) m' σ' H')/\∀ x H',J.yld i H x H'->g x σ H' fun σ2 H2=>tb { D with nx:=N,ct:=N,bk:=D.nx } σ2 H2)
def zhG(fp:List Addr)(h:Heap):List (Addr×Obj):=fp.filterMap fun b=>(h.get? b).map fun o=>(b,o)
theorem zda{fp:List Addr}{h:Heap}{b:Addr}{o:Obj}(hb:b∈fp)(e:h.get? b=some o):(b,o)∈zhG fp h:=List.mem_filterMap.mpr ⟨b,hb,by rw [e]; rfl⟩
theorem zlx{fp:List Addr}{h:Heap}{p:Addr×Obj}(hp:p∈zhG fp h):p.1∈fp/\h.get? p.1=some p.2:=by
 obtain⟨b,hb,e⟩:=List.mem_filterMap.mp hp;cases q:h.get? b with
 | none=>rw [q] at e; cases e
 | some o =>
  rw [q] at e;have e':(b,o)=p:=Option.some.inj e;subst e';exact⟨hb,q⟩
theorem Inv.pinned{zh:List (Addr×Obj)}{σ:St}{H:Hp}{s:Shared}{fp:List Addr}(I:Inv X zh σ H s)(hf:∀ b∈fp,FpOk X zh H b)(ho:∀ b∈fp,∃ o,s.heap.get? b=some o/\∀ v,o.data≠.cell v):Inv X (zh++zhG fp s.heap) σ H s :=
 I.pins_of fun p hp=>(mem_append.mp hp).elim (fun z=>I.pin p (mem_append_right _ z)) fun z=>by
  obtain⟨hb,e⟩:=zlx z;obtain⟨f0,f1,f2,_⟩:=hf p.1 hb;obtain⟨o,e',d⟩:=ho p.1 hb;rw [e] at e'; cases e';exact⟨e,f0,f1,f2,d⟩
theorem Inv.unpinned{zh pl:List (Addr×Obj)}{σ:St}{H:Hp}{s:Shared}(I:Inv X (zh++pl) σ H s):Inv X zh σ H s:=I.pins_of fun p hp=>I.pin p (mem_append_right _ (mem_append_left _ hp))
theorem zc7{iter:Expr}{body:List Stmt}{wi:TI}{g:TG}{tb:TS}{pos:Pos}(hp:PassesOwn (model X.prog X.w) X.A X.env X.xe)(hc:X.calm=true)(hi:PI X tg iter wi)(hg:PG X tg g)(hb:PSs X body tb)
  (hs:∀ x,foldedSetIterable iter X.env x=pure x:=by intro _; rfl):PS X (.For tg iter body [] pos) (zqX wi g tb):=by
 intro zh s σ H D I h;refine wpAny_For (thn (hi zh s σ H _ I h) fun v s1 h1=>thn h1 fun itv s2 h2=>?_) hs;obtain⟨it,fp,tn,J,H2,e,I2,T,st2,f2,W,⟨m0,w0⟩,turn⟩:=h2;subst e
 -- what stays true of the iterator's objects through the loop
 have stat:∀ {H':Hp},(∀ b∈fp,H' b=none)->∀ b∈fp,FpOk X zh H' b:=fun hn b hb=>⟨hn b hb,(f2 b hb).2⟩;refine codeAny_forLoop_any (fun n s'=>∃ i σ' H',Inv X zh σ' H' s'/\tn i s'.heap/\(∀ b∈fp,H' b=none)/\W i n σ' H') ?_ m0 ⟨0,σ,H2,I2,st2,fun b hb=>(f2 b hb).1,w0⟩;rintro n s3 ⟨i,σ3,H3,I3,st3,fr3,w3⟩;rcases turn i n σ3 H3 w3 with ⟨stop,qn⟩ | ⟨go,N,hN,step⟩
 ·refine wpAny_passesOwn hp (thn (T.done X rfl rfl rfl hc i zh s3 σ3 H3 X.xe I3 (stat fr3) st3 stop) fun r s4 ⟨hr,I4⟩=>?_);subst hr;exact wpAny_execs_nil ⟨σ3,H3,I4,qn⟩
 ·refine wpAny_passesOwn hp (thn (T.item X rfl rfl rfl hc i zh s3 σ3 H3 X.xe I3 (stat fr3) st3 go) fun r s4 ⟨u,hr,h4⟩=>?_);subst hr;refine wpAny_passesOwn hp (thn h4 fun _ s5 ⟨x,H5,I5,r5,y5,st5,fr5⟩=>?_);have I5':=I5.pinned (stat fr5) (T.obj _ _ st5);refine wpAny_passesOwn hp (thn (hg _ s5 σ3 H5 x u _ I5' r5 (step x H5 y5)) fun _ s6 ⟨σ6,H6,I6,q6⟩=>?_);refine wpAny_passesOwn hp (thn (hb _ s6 σ6 H6 _ I6 q6) fun f s7 q7=>?_);have again:∀ {σ7:St} {H7:Hp},Inv X (zh++zhG fp s5.heap) σ7 H7 s7->N σ7 H7->∃ m,m<n/\∃ i σ' H',Inv X zh σ' H' s7/\tn i s7.heap/\(∀ b∈fp,H' b=none)/\W i m σ' H':=fun {σ7 H7} I7 n7=>by
   obtain⟨m',hm,w7⟩:=hN σ7 H7 n7;refine⟨m',hm,i+1,σ7,H7,I7.unpinned,T.keep _ _ _ st5 fun b hb o e=>(I7.pin (b,o) (mem_append_right _ (mem_append_right _ (zda hb e)))).1,fun b hb=>?_,w7⟩;obtain⟨o,e,d⟩:=T.obj _ _ st5 b hb;exact(I7.pin (b,o) (mem_append_right _ (mem_append_right _ (zda hb e)))).2.1
  cases f with
  | next=>obtain⟨σ7,H7,I7,n7⟩:=q7; exact again I7 n7
  | cont=>obtain⟨σ7,H7,I7,n7⟩:=q7; exact again I7 n7
  | brk=>obtain⟨σ7,H7,I7,q7⟩:=q7; exact⟨σ7,H7,I7.unpinned,q7⟩
  | ret v=>obtain⟨x7,σ7,H7,I7,r7,q7⟩:=q7; exact⟨x7,σ7,H7,I7.unpinned,r7,q7⟩
end
theorem zl9{K:W.Frag}{a:Addr}{xs:List V}{g:TG}{tb:TS}{D:Ends}{σ:St}{H:Hp}(Pv:Nat->St->Hp->Prop)(h0:Pv 0 σ H)(hl:∀ i σ H,i<=xs.length->Pv i σ H->SqL K H a xs)
  (hs:∀ i x σ H,xs[i]? = some x->Pv i σ H->g x σ H fun σ2 H2=>tb { D with nx:=Pv (i+1),ct:=Pv (i+1),bk:=D.nx } σ2 H2) (hd:∀ σ H,Pv xs.length σ H->D.nx σ H) :
  ∃ W:Nat->Nat->St->Hp->Prop,(∃ m,W 0 m σ H)/\∀ i m σ H,W i m σ H ->
   ((Itl K a).stop i H/\D.nx σ H)\/((Itl K a).go i H/\∃ N:St->Hp->Prop,(∀ σ' H',N σ' H'->∃ m',m'<m/\W (i+1) m' σ' H')/\∀ x H',(Itl K a).yld i H x H'->g x σ H' fun σ2 H2=>tb { D with nx:=N,ct:=N,bk:=D.nx } σ2 H2):=by
 refine⟨fun i m σ H=>m=xs.length - i/\i<=xs.length/\Pv i σ H,⟨xs.length,by simp,zero_le _,h0⟩,?_⟩;rintro i m σ H ⟨rfl,hi,p⟩;have q:=hl i σ H hi p;by_cases hlt:i<xs.length
 ·refine .inr ⟨⟨xs,xs[i],q,by simp [hlt]⟩,Pv (i+1),fun σ' H' p'=>⟨xs.length - (i+1),by omega,rfl,hlt,p'⟩,fun x H' y=>?_⟩;obtain⟨e,y⟩:=y;subst e;exact hs i x σ _ (y xs q) p
 ·have e:i=xs.length:=by omega
  subst e;exact .inl ⟨⟨xs,q,le_refl _⟩,hd σ H p⟩
end
section
abbrev R2:=V->V->Hp->VK->Prop
def OpR(X:Cx)(f:Value->Value->Sem Value)(r:R2):Prop :=
 ∀ (zh:List (Addr×Obj)) (s:Shared) (σ:St) (H:Hp) (x y:V) (v u:Value) (Q:VK),Inv X zh σ H s->RelV x v->RelV y u->r x y H Q ->
  wpAny (model X.prog X.w) X.A (f v u) (EP X zh σ Q) X.xe s
def UnR(X:Cx)(f:Value->Sem Value)(r:V->Hp->VK->Prop):Prop :=
 ∀ (zh:List (Addr×Obj)) (s:Shared) (σ:St) (H:Hp) (x:V) (v:Value) (Q:VK),Inv X zh σ H s->RelV x v->r x H Q ->
  wpAny (model X.prog X.w) X.A (f v) (EP X zh σ Q) X.xe s
def CallR(X:Cx)(f:Value)(r:List V->Hp->VK->Prop):Prop :=
 ∀ (zh:List (Addr×Obj)) (s:Shared) (σ:St) (H:Hp) (xs:List V) (us:List Value) (Q:VK),Inv X zh σ H s->Vals xs us->r xs H Q ->
  wpAny (model X.prog X.w) X.A (call f us) (EP X zh σ Q) X.xe s
def TruR(X:Cx)(r:V->Hp->(Bool->Hp->Prop)->Prop):Prop :=
 ∀ (zh:List (Addr×Obj)) (s:Shared) (σ:St) (H:Hp) (x:V) (v:Value) (Q:Bool->Hp->Prop),Inv X zh σ H s->RelV x v->r x H Q ->
  wpAny (model X.prog X.w) X.A (truthy v) (TP X zh σ Q) X.xe s
def tOp(r:R2)(ta tb:TE):TE:=fun σ H Q=>ta σ H fun x H1=>tb σ H1 fun y H2=>r x y H2 Q
def tUn(r:V->Hp->VK->Prop)(ta:TE):TE:=fun σ H Q=>ta σ H fun x H1=>r x H1 Q
def rI(C:Int->Int->Prop)(g:Int->Int->V):R2:=fun x y H Q=>∃ i j,x=.int i/\y=.int j/\C i j/\Q (g i j) H
def rI0(g:Int->Int->V):R2:=fun x y H Q=>∃ i j,x=.int i/\y=.int j/\Q (g i j) H
def rU(g:Int->V):V->Hp->VK->Prop:=fun x H Q=>∃ i,x=.int i/\Q (g i) H
section
variable {X:Cx} {a b c:Expr} {ta tb tc:TE} {pos:Pos}
theorem zrE(ha:PE X a ta)(hb:PE X b tb){zh:List (Addr×Obj)}{s:Shared}{σ:St}{H:Hp}{R:V->V->Hp->Prop}(I:Inv X zh σ H s)
  (h:ta σ H fun x H1=>tb σ H1 fun y H2=>R x y H2) {Q:Value->Shared->Prop} {f:Value->Value->Sem Value}
  (hf:∀ v u s2 x y H2,Inv X zh σ H2 s2->RelV x v->RelV y u->R x y H2->wpAny (model X.prog X.w) X.A (f v u) Q X.xe s2) :
  wpAny (model X.prog X.w) X.A (eval a X.env) (fun v s₁=>wpAny (model X.prog X.w) X.A (eval b X.env) (fun u s₂=>wpAny (model X.prog X.w) X.A (f v u) Q X.xe s₂) X.xe s₁) X.xe s:=by
 refine thn (ha zh s σ H _ I h) fun v s1 ⟨x,H1,I1,r1,q1⟩=>?_;refine thn (hb zh s1 σ H1 _ I1 q1) fun u s2 ⟨y,H2,I2,r2,q2⟩=>?_;exact hf v u s2 x y H2 I2 r1 r2 q2
theorem zN{op:Operator}{r:R2}(ho:OpR X (binaryOp op) r)(ha:PE X a ta)(hb:PE X b tb):PE X (.BinOp a op b pos) (tOp r ta tb):=by
 intro zh s σ H Q I h;exact wpAny_BinOp (zrE ha hb I h fun v u s2 x y H2 I2 rx ry q=>ho zh s2 σ H2 x y v u Q I2 rx ry q)
theorem zjl{op:UnaryOp}{r:V->Hp->VK->Prop}(ho:UnR X (unaryOp op) r)(ha:PE X a ta):PE X (.UnaryOp op a pos) (tUn r ta):=by
 intro zh s σ H Q I h;exact UnaryOp_ (thn (ha zh s σ H _ I h) fun v s1 ⟨x,H1,I1,r1,q1⟩=>ho zh s1 σ H1 x v Q I1 r1 q1)
theorem opI{f:Value->Value->Sem Value}{C:Int->Int->Prop}{g:Int->Int->Int}
  (rule:∀ (i j:Int) (t u:Tok) (s:Shared) (Q:Value->Shared->Prop) (E:Value->Shared->Prop),C i j->Q (.int (g i j) s.toks) { s with toks:=s.toks+1 }->wpAny (model X.prog X.w) X.A (f (.int i t) (.int j u)) Q E s) :
  OpR X f (rI C fun i j=>.int (g i j)):=by
 intro zh s σ H x y v u Q I rx ry h;obtain⟨i,j,rfl,rfl,hc,q⟩:=h;obtain⟨t,rfl⟩:=rx;obtain⟨t',rfl⟩:=ry;exact rule i j t t' s _ _ hc ⟨.int (g i j),H,I.tok _,⟨_,rfl⟩,q⟩
theorem zrZ{f:Value->Value->Sem Value}{g:Int->Int->Int}
  (rule:∀ (i j:Int) (t u:Tok) (s:Shared) (Q:Value->Shared->Prop) (E:Value->Shared->Prop),Q (.int (g i j) s.toks) { s with toks:=s.toks+1 }->wpAny (model X.prog X.w) X.A (f (.int i t) (.int j u)) Q E s) :
  OpR X f (rI0 fun i j=>.int (g i j)):=by
 intro zh s σ H x y v u Q I rx ry h;obtain⟨i,j,rfl,rfl,q⟩:=h;obtain⟨t,rfl⟩:=rx;obtain⟨t',rfl⟩:=ry;exact rule i j t t' s _ _ ⟨.int (g i j),H,I.tok _,⟨_,rfl⟩,q⟩
theorem zra{f:Value->Value->Sem Value}{g:Int->Int->Bool}
  (rule:∀ (i j:Int) (t u:Tok) (s:Shared) (Q:Value->Shared->Prop) (E:Value->Shared->Prop),Q (.bool (g i j)) s->wpAny (model X.prog X.w) X.A (f (.int i t) (.int j u)) Q E s) :
  OpR X f (rI0 fun i j=>.bl (g i j)):=by
 intro zh s σ H x y v u Q I rx ry h;obtain⟨i,j,rfl,rfl,q⟩:=h;obtain⟨t,rfl⟩:=rx;obtain⟨t',rfl⟩:=ry;exact rule i j t t' s _ _ ⟨.bl (g i j),H,I,rfl,q⟩
def CDivN(i j:Int):Prop:=j≠0/\j.natAbs<1073741824
def CPow(i j:Int):Prop:=0<=j/\j<=1000000/\i.natAbs<2 ^ 64
theorem zpo:OpR X (binaryOp .Add) (rI0 fun i j=>.int (i+j)):=zrZ fun _ _ _ _ _ _ _ q=>add_int q
theorem zf0:OpR X (binaryOp .Sub) (rI0 fun i j=>.int (i - j)):=zrZ fun _ _ _ _ _ _ _ q=>sub_int q
theorem zmI:OpR X (binaryOp .FloorDiv) (rI CDivN fun i j=>.int (i.fdiv j)):=opI fun _ _ _ _ _ _ _ hc q=>floordiv_int hc.1 q (.inl (PyProof.noPylong_small hc.2))
theorem zea:OpR X (binaryOp .Mod) (rI (fun _ j=>0<j) fun i j=>.int (i % j)):=opI fun i j _ _ _ _ _ hc q=>by
 have h1:(0:Int)<j:=hc;exact mod_int' (by omega) (by rw [Int.fmod_eq_emod_of_nonneg i (by omega)]; exact q)
theorem zf7:OpR X (binaryOp .Pow) (rI CPow fun i j=>.int (i ^ j.toNat)):=opI fun _ _ _ _ _ _ _ hc q=>pow_int_small hc.1 hc.2.1 hc.2.2 q
theorem unI{f:Value->Sem Value}{g:Int->Int}
  (rule:∀ (i:Int) (t:Tok) (s:Shared) (Q:Value->Shared->Prop) (E:Value->Shared->Prop),Q (.int (g i) s.toks) { s with toks:=s.toks+1 }->wpAny (model X.prog X.w) X.A (f (.int i t)) Q E s) :
  UnR X f (rU fun i=>.int (g i)):=by
 intro zh s σ H x v Q I rx h;obtain⟨i,rfl,q⟩:=h;obtain⟨t,rfl⟩:=rx;exact rule i t s _ _ ⟨.int (g i),H,I.tok _,⟨_,rfl⟩,q⟩
theorem zf2:UnR X (unaryOp .USub) (rU fun i=>.int (-i)):=unI fun _ _ _ _ _ q=>neg_int q
end
section
variable {X:Cx} {a b c:Expr} {ta tb tc:TE} {pos:Pos}
theorem znB{zh:List (Addr×Obj)}{σ:St}{H:Hp}{s:Shared}{Q:VK}{k k':Bool}(I:Inv X zh σ H s)(q:Q (.bl k) H)(e:k=k'):EP X zh σ Q (.bool k') s:=by
 subst e;exact⟨.bl k,H,I,rfl,q⟩
theorem zjp:OpR X (compareOp .Lt) (rI0 fun i j=>.bl (decide (i<j))):=zra fun _ _ _ _ _ _ _ q=>lt_int q
theorem zej:OpR X (compareOp .LtE) (rI0 fun i j=>.bl (decide (i<=j))):=zra fun _ _ _ _ _ _ _ q=>le_int q
theorem zrs:OpR X (compareOp .Gt) (rI0 fun i j=>.bl (decide (j<i))):=zra fun _ _ _ _ _ _ _ q=>gt_int q
theorem zrv:OpR X (compareOp .GtE) (rI0 fun i j=>.bl (decide (j<=i))):=zra fun _ _ _ _ _ _ _ q=>ge_int q
theorem zlL:OpR X (compareOp .In) (fun x y H Q=>∃ i j,x=.str i/\y=.str j/\Q (.bl (!(Builtin.Str.occurrences j i 0 j.length 1).isEmpty)) H):=by
 intro zh s σ H x y v u Q I rx ry h;obtain⟨i,j,rfl,rfl,q⟩:=h;obtain⟨t,rfl⟩:=rx;obtain⟨t',rfl⟩:=ry;exact in_str (znB I q rfl)
theorem zg3:OpR X (compareOp .NotIn) (fun x y H Q=>∃ i j,x=.str i/\y=.str j/\Q (.bl (!(!(Builtin.Str.occurrences j i 0 j.length 1).isEmpty))) H):=by
 intro zh s σ H x y v u Q I rx ry h;obtain⟨i,j,rfl,rfl,q⟩:=h;obtain⟨t,rfl⟩:=rx;obtain⟨t',rfl⟩:=ry;exact notIn_str (znB I q rfl)
theorem OpR.or{f:Value->Value->Sem Value}{r r':R2}(h:OpR X f r)(h':OpR X f r'):OpR X f (fun x y H Q=>r x y H Q\/r' x y H Q):=by
 intro zh s σ H x y v u Q I rx ry q;rcases q with q | q
 ·exact h zh s σ H x y v u Q I rx ry q
 ·exact h' zh s σ H x y v u Q I rx ry q
theorem nomark(b:Expr){op:CmpOp}(h:op≠.In:=by decide)(h2:op≠.NotIn:=by decide):behindInMarks op b=false:=by
 have e1:(op == CmpOp.In)=false:=by cases op <;> first | rfl | exact absurd rfl h
 have e2:(op == CmpOp.NotIn)=false:=by cases op <;> first | rfl | exact absurd rfl h2
 cases b <;> simp [behindInMarks,e1,e2]
theorem zdJ{op:CmpOp}{r:R2}(ho:OpR X (compareOp op) r)(ha:PE X a ta)(hb:PE X b tb)(hm:behindInMarks op b=false):PE X (.Compare a [op] [b] pos) (tOp r ta tb):=by
 intro zh s σ H Q I h;exact wpAny_Compare1 (zrE ha hb I h fun v u s2 x y H2 I2 rx ry q=>ho zh s2 σ H2 x y v u Q I2 rx ry q) hm
def zln(t:TE):TT:=fun σ H Q=>t σ H fun x H'=>∃ k,x=.bl k/\Q k H'
theorem zV{op:CmpOp}{r:R2}(ho:OpR X (compareOp op) r)(ha:PE X a ta)(hb:PE X b tb)(hm:behindInMarks op b=false):PT X (.Compare a [op] [b] pos) (zln (tOp r ta tb)):=by
 intro zh s σ H Q I h;refine wpAny_isTrue_Compare1 (thn (ha zh s σ H _ I h) fun v s1 ⟨x,H1,I1,r1,q1⟩=>thn (hb zh s1 σ H1 _ I1 q1) fun u s2 ⟨y,H2,I2,r2,q2⟩ =>
  thn (ho zh s2 σ H2 x y v u _ I2 r1 r2 q2) fun c s3 ⟨z,H3,I3,r3,k,e,q3⟩=>?_) hm
 subst e;cases r3;exact wpAny_truthy_bool ⟨H3,I3,q3⟩
def zko(r r':R2)(ta tb tc:TE):TE:=fun σ H Q=>ta σ H fun x H1=>tb σ H1 fun y H2=>r x y H2 fun z H3=>∃ k,z=.bl k /\
 (if k=true then tc σ H3 fun w' H4=>r' y w' H4 Q else Q (.bl false) H3)
theorem ziX{op op':CmpOp}{r r':R2}(ho:OpR X (compareOp op) r)(ho':OpR X (compareOp op') r')(ha:PE X a ta)(hb:PE X b tb)(hc:PE X c tc)
  (hm:lastMarks [op,op'] [b,c]=false:=by with_unfolding_all rfl):PE X (.Compare a [op,op'] [b,c] pos) (zko r r' ta tb tc):=by
 intro zh s σ H Q I h;refine Compare_chain (thn (ha zh s σ H _ I h) fun v s1 ⟨x,H1,I1,r1,q1⟩=>chain_link (thn (hb zh s1 σ H1 _ I1 q1) fun u s2 ⟨y,H2,I2,r2,q2⟩ =>
  thn (ho zh s2 σ H2 x y v u _ I2 r1 r2 q2) fun d s3 ⟨z,H3,I3,r3,k,e,q3⟩=>?_)) hm
 subst e;cases r3;refine wpAny_truthy_bool ?_;cases k with
 | false=>exact ite_ff ⟨.bl false,H3,I3,rfl,q3⟩
 | true=>exact ite_tt (chain_last (thn (hc zh s3 σ H3 _ I3 q3) fun w' s4 ⟨z',H4,I4,r4,q4⟩=>ho' zh s4 σ H4 y z' u w' Q I4 r2 r4 q4))
theorem zeY{op op':CmpOp}{r r':R2}(ho:OpR X (compareOp op) r)(ho':OpR X (compareOp op') r')(ha:PE X a ta)(hb:PE X b tb)(hc:PE X c tc)
  (hm:lastMarks [op,op'] [b,c]=false:=by with_unfolding_all rfl):PT X (.Compare a [op,op'] [b,c] pos) (zln (zko r r' ta tb tc)):=by
 intro zh s σ H Q I h;refine isTrue_chain (thn (ha zh s σ H _ I h) fun v s1 ⟨x,H1,I1,r1,q1⟩=>test_link (thn (hb zh s1 σ H1 _ I1 q1) fun u s2 ⟨y,H2,I2,r2,q2⟩ =>
  thn (ho zh s2 σ H2 x y v u _ I2 r1 r2 q2) fun d s3 ⟨z,H3,I3,r3,k,e,q3⟩=>?_)) hm
 subst e;cases r3;refine wpAny_truthy_bool ?_;cases k with
 | false =>
  obtain⟨k',e',q'⟩:=q3;cases e';exact ite_ff ⟨H3,I3,q'⟩
 | true =>
  refine ite_tt (test_last (thn (hc zh s3 σ H3 _ I3 q3) fun w' s4 ⟨z',H4,I4,r4,q4⟩=>thn (ho' zh s4 σ H4 y z' u w' _ I4 r2 r4 q4) fun d' s5 ⟨z2,H5,I5,r5,k2,e2,q5⟩=>?_));subst e2;cases r5;exact wpAny_truthy_bool ⟨H5,I5,q5⟩
def TruV(K:W.Frag)(x:V)(H:Hp)(k:Bool):Prop :=
 match x with
 | .non=>k=false
 | .bl b=>k=b
 | .int i=>k=(i != 0)
 | .str y=>y.length<=sizeLine/\k=((y.length:Int) != 0)
 | .byt y=>y.size<=sizeLine/\k=((y.size:Int) != 0)
 | .ref p=>(∃ xs,SqL K H p xs/\k = !xs.isEmpty)\/(∃ xs,SqT K H p xs/\k = !xs.isEmpty)\/∃ kvs,H p=some (.dK kvs)/\k = !kvs.isEmpty
 | _=>False
theorem zjn{κ:Type}{kvs:List (κ×V)}{vs:List (κ×Value)}(r:KV kvs vs):(!vs.isEmpty) = !kvs.isEmpty:=by
 cases r <;> rfl
theorem zf4{xs:List V}{its:List Value}(r:Vals xs its):(!its.toArray.isEmpty) = !xs.isEmpty:=by
 cases r <;> simp
theorem line63:(sizeLine:Nat)<2 ^ 63:=by rw [sizeLine_eq]; decide
theorem zpk:TruR X (fun x H Q=>∃ k,TruV X.K x H k/\Q k H):=by
 intro zh s σ H x v Q I rx h;obtain⟨k,e,q⟩:=h;have hl:=line63;have hs:sizeLine=16777216:=sizeLine_eq;cases x with
 | non =>
  cases rx;have e':k=false:=e;subst e';exact truthy_none ⟨H,I,q⟩
 | bl b =>
  cases rx;have e':k=b:=e;subst e';exact wpAny_truthy_bool ⟨H,I,q⟩
 | int i =>
  obtain⟨t,rfl⟩:=rx;have e':k=(i != 0):=e;subst e';exact PySem.P.truthy_int ⟨H,I,q⟩
 | str y =>
  obtain⟨t,rfl⟩:=rx;obtain⟨hy,e'⟩:y.length<=sizeLine/\k=((y.length:Int) != 0):=e;subst e';exact PySem.P.truthy_str (by omega) ⟨H,I.tok _,q⟩
 | byt y =>
  obtain⟨t,rfl⟩:=rx;obtain⟨hy,e'⟩:y.size<=sizeLine/\k=((y.size:Int) != 0):=e;subst e';exact W.truthy_bytes (by omega) ⟨H,I.tok _,q⟩
 | ref p =>
  cases rx;have e':(∃ xs,SqL X.K H p xs/\k = !xs.isEmpty)\/(∃ xs,SqT X.K H p xs/\k = !xs.isEmpty)\/∃ kvs,H p=some (.dK kvs)/\k = !kvs.isEmpty:=e;rcases e' with ⟨xs,hx,e'⟩ | ⟨xs,hx,e'⟩ | ⟨kvs,hx,e'⟩
  ·subst e';obtain⟨its,r,pl,hz⟩:=I.list hx;have hlen:=r.length;exact wpAny_truthy_list pl.isList (by simp only [size_toArray]; omega) ⟨H,I.tok _,by rw [zf4 r]; exact q⟩
  ·subst e';obtain⟨its,r,pl,hz⟩:=I.tuple hx;have hlen:=r.length;exact truthy_tuple pl (by simp only [size_toArray]; omega) ⟨H,I.tok _,by rw [zf4 r]; exact q⟩
  ·subst e';obtain⟨hz,hS,vs,r,m⟩:kvs.length<=sizeLine/\(p == sysModules)=false/\∃ vs,KV kvs vs/\s.heap.DictOf (za7 X.prog X.w) p vs:=I.hok p _ hx;have hlen:kvs.length=vs.length:=Paired.length r;exact wpAny_truthy_dict hS m (by omega) ⟨H,I.tok _,by rw [zjn r]; exact q⟩
 | _=>exact(show False from e).elim
theorem zag(ha:PE X a ta)(he:∀ whole,isTrue a X.env whole=(do let v <- whole; standAt a.pos; holding [v] (truthy v))):
  PT X a (fun σ H Q=>ta σ H fun x H'=>∃ k,TruV X.K x H' k/\Q k H'):=by
 intro zh s σ H Q I h;exact isTrue_plain (thn (ha zh s σ H _ I h) fun v s1 ⟨x,H1,I1,r1,q1⟩=>zpk zh s1 σ H1 x v Q I1 r1 q1) (he _)
theorem zjN:OpR X (binaryOp .Add) (fun x y H Q=>∃ i j,x=.str i/\y=.str j/\i.length+j.length<=sizeLine/\Q (.str (i++j)) H):=by
 intro zh s σ H x y v u Q I rx ry h;obtain⟨i,j,rfl,rfl,hz,q⟩:=h;obtain⟨t,rfl⟩:=rx;obtain⟨t',rfl⟩:=ry;exact add_str (fun t' tk=>⟨.str (i++j),H,I.tok _,⟨_,rfl⟩,q⟩) hz
theorem vals1{x:V}{us:List Value}(r:Vals [x] us):∃ u,us=[u]/\RelV x u:=by
 cases r with
 | cons r1 r2=>cases r2; exact⟨_,rfl,r1⟩
theorem vals2{x y:V}{us:List Value}(r:Vals [x,y] us):∃ u w',us=[u,w']/\RelV x u/\RelV y w':=by
 cases r with
 | cons r1 r2 =>
  cases r2 with
  | cons r3 r4=>cases r4; exact⟨_,_,rfl,r1,r3⟩
theorem zij:CallR X (.builtin "abs") (fun xs H Q=>∃ i,xs=[.int i]/\Q (.int (if i<0 then -i else i)) H):=by
 intro zh s σ H xs us Q I r h;obtain⟨i,rfl,q⟩:=h;obtain⟨u,rfl,t,rfl⟩:=vals1 r;exact call_abs_int fun u tk=>⟨.int (if i<0 then -i else i),H,I.tok _,⟨_,rfl⟩,q⟩
theorem zlK(hc:X.calm=true):CallR X (.builtin "max") (fun xs H Q=>∃ i j,xs=[.int i,.int j]/\Q (.int (if j>i then j else i)) H):=by
 intro zh s σ H xs us Q I r h;obtain⟨i,j,rfl,q⟩:=h;obtain⟨u,w',rfl,⟨t,rfl⟩,⟨t',rfl⟩⟩:=vals2 r;refine max_two_ints (I.ok.hd hc) fun h' tk k=>⟨_,H,I.kept k,?_,q⟩;by_cases hj:j>i
 ·rw [if_pos hj,if_pos hj]; exact⟨_,rfl⟩
 ·rw [if_neg hj,if_neg hj]; exact⟨_,rfl⟩
theorem zj5:CallR X (.type "int") (fun xs H Q=>(∃ i,xs=[.int i]/\Q (.int i) H)\/∃ k,xs=[.bl k]/\Q (.int (if k then 1 else 0)) H):=by
 intro zh s σ H xs us Q I r h;rcases h with ⟨i,rfl,q⟩ | ⟨k,rfl,q⟩
 ·obtain⟨u,rfl,t,rfl⟩:=vals1 r;exact call_int_int ⟨.int i,H,I,⟨_,rfl⟩,q⟩
 ·obtain⟨u,rfl,r1⟩:=vals1 r;cases r1;exact call_int_bool ⟨.int (if k then 1 else 0),H,I.tok _,⟨_,rfl⟩,q⟩
theorem zav:CallR X (.type "str") (fun xs H Q=>∃ i,xs=[.int i]/\i.natAbs.log2<1920/\Q (.str (toString i)) H):=by
 intro zh s σ H xs us Q I r h;obtain⟨i,rfl,hz,q⟩:=h;obtain⟨u,rfl,t,rfl⟩:=vals1 r;exact PySem.P.str_of_int hz ⟨.str _,H,I.tok _,⟨_,rfl⟩,q⟩
end
end
section
structure ObjM(h:Heap)(x dx C:Addr)(mA:Str->Option Value):Prop where
 obj:h.get? x=some (W.instObj C dx)
 ns:h.Ns1 dx mA
 ne:dx≠x
theorem zkg{h:Heap}{dx:Addr}{mA:Str->Option Value}(n:h.Ns1 dx mA):∃ od,h.get? dx=some od/\∀ name,W.lookIn name od=some (mA name):=by
 obtain⟨o,es,ep,ho,hd,hk,_,hm⟩:=n;refine⟨o,ho,fun name=>?_⟩;have e:=hm name;unfold nsFind findBy at e;rw [<- Array.find?_toList] at e;unfold W.lookIn;rw [hd];dsimp only;split
 ·rename_i y q;rw [q] at e;exact congrArg some e
 ·rename_i q;rw [q] at e;have a:es.toList.any (·.refKey)=false:=by
   rw [List.any_eq_false];intro y hy;obtain⟨z,t,hkey⟩:=hk y (Array.mem_toList_iff.mp hy);simp [DictEntry.refKey,hkey]
  have a':¬ es.toList.any (·.refKey)=true:=by rw [a]; exact Bool.false_ne_true
  rw [if_neg a'];exact congrArg some e
theorem ObjM.look{h:Heap}{x dx C:Addr}{mA:Str->Option Value}(I:ObjM h x dx C mA):∃ od,W.InstAt h x (W.instObj C dx) C (some od)/\∀ name,W.lookIn name od=some (mA name) :=
 let ⟨od,ho,hl⟩:=zkg I.ns
 ⟨od,⟨I.obj,rfl,rfl,ho⟩,hl⟩
section
variable {P:Program} {w:World} {H H':Hp} {h h':Heap} {a C dx:Addr} {fs fs':List (Str×V)}
theorem zop(hok:HOk P w H h)(e:H a=some (.ins C dx fs)):∃ mA,ObjM h a dx C mA/\(∀ f,RelO (fs.lookup f) (mA f))/\PySem.Within mA (fs.map (·.1))/\fs.length<=1000/\H dx=some (.own a):=by
 obtain⟨d,z,ne,ob,mA,n,r,q⟩:=(show ObjOk P w H h a (.ins C dx fs) from hok a _ e);exact⟨mA,⟨ob,n,ne⟩,r,q,z,d⟩
end
structure Cls(K:W.Frag)(C:Addr):Prop where
 pg:W.plainGet K C Str.empty=true
 hd:W.hasDictIn K C=true
 po:W.plainOver K C=true
 sa:W.findIn K (.ref C) "__setattr__" = some (some (.builtin "object.__setattr__"))
theorem Cls.get{K:W.Frag}{C:Addr}(c:Cls K C)(f:Str):W.plainGet K C f=true:=c.pg
section
variable {X:Cx} {zh:List (Addr×Obj)} {σ:St} {H:Hp} {s:Shared} {A:Around} {E:Value->Shared->Prop} {Q:Value->Shared->Prop} {c:Value} {b:Bool}
inductive TyOf (K:W.Frag) (H:Hp):V->Value->Prop where
 | non:TyOf K H .non (.type "NoneType")
 | bl (x:Bool):TyOf K H (.bl x) (.type "bool")
 | int (i:Int):TyOf K H (.int i) (.type "int")
 | str (x:Str):TyOf K H (.str x) (.type "str")
 | flt (x:UInt64):TyOf K H (.flt x) (.type "float")
 | lst {a:Addr} {xs:List V} (e:H a=some (.lst xs)):TyOf K H (.ref a) (.type "list")
 | frz {a:Addr} {o:Obj} {xs:List V} (e:H a=some (.frz o (.lst xs))):TyOf K H (.ref a) (.type "list")
 | tup {a:Addr} {xs:List V} (e:H a=some (.tup xs)):TyOf K H (.ref a) (.type "tuple")
 | dK {a:Addr} {kvs:List (Key×V)} (e:Rd H a (.dK kvs)):TyOf K H (.ref a) (.type "dict")
 | dT {a:Addr} {kvs:List (List Key×V)} (e:Rd H a (.dT kvs)):TyOf K H (.ref a) (.type "dict")
 | ins {a C dx:Addr} {fs:List (Str×V)} (e:H a=some (.ins C dx fs)) (cl:Cls K C) (ha:W.findIn K (.ref C) "__class__" = some (some (.builtin "object.__class__")))
   (hn:W.specialIn K (.builtin "object.__class__") "__get__" = some (some (.builtin "getset_descriptor.__get__"))) (htk:W.takesIn K (.builtin "object.__class__")=some true)
   (hm:W.mroIn K C (.type "object")=some true):TyOf K H (.ref a) (.ref C)
theorem zkr{x:V}{u t:Value}(I:Inv X zh σ H s)(rx:RelV x u)(ty:TyOf X.K H x t)(e:W.kitOne X.K t c=some b)(h:∀ tk,Q (.bool b) { s with toks:=tk }):
  wpAny (model X.prog X.w) A (call (.builtin "isinstance") [u,c]) Q E s:=by
 cases ty with
 | non=>cases (show u=Value.none from rx); exact W.kia_one W.kitx_none I.kIn True.intro e (fun z=>nomatch z) h
 | bl y=>cases (show u=Value.bool y from rx); exact W.kia_one W.kitx_bool I.kIn True.intro e (fun z=>nomatch z) h
 | int i=>obtain⟨t,q⟩:=(show ∃ t,u=Value.int i t from rx); cases q; exact W.kia_one W.kitx_int I.kIn True.intro e (fun z=>nomatch z) h
 | str y=>obtain⟨t,q⟩:=(show ∃ t,u=Value.str y t from rx); cases q; exact W.kia_one W.kitx_str I.kIn True.intro e (fun z=>nomatch z) h
 | flt y=>obtain⟨t,q⟩:=(show ∃ t,u=Value.float y t from rx); cases q; exact W.kia_one W.kitx_float I.kIn True.intro e (fun z=>nomatch z) h
 | @lst a xs ea =>
  cases (show u=Value.ref a from rx);obtain⟨_,_,n,_,h1⟩:=(show ObjOk X.prog X.w H s.heap a (.lst xs) from I.hok a _ ea);exact W.kia_one W.kitx_list I.kIn ⟨_,h1,rfl⟩ e (fun z=>nomatch z) h
 | @frz a ob xs ea =>
  cases (show u=Value.ref a from rx);obtain⟨_,_,_,n,_,h1⟩:=(show ObjOk X.prog X.w H s.heap a (.frz ob (.lst xs)) from I.hok a _ ea);exact W.kia_one W.kitx_list I.kIn ⟨_,h1,rfl⟩ e (fun z=>nomatch z) h
 | @tup a xs ea =>
  cases (show u=Value.ref a from rx);obtain⟨_,_,_,p⟩:=(show ObjOk X.prog X.w H s.heap a (.tup xs) from I.hok a _ ea);obtain⟨o,h1,h2,_⟩:=p;exact W.kia_one W.kitx_tuple I.kIn ⟨o,h1,h2⟩ e (fun z=>nomatch z) h
 | @dK a kvs ea =>
  cases (show u=Value.ref a from rx);obtain⟨_,_,vs,_,p⟩:=(show ObjOk X.prog X.w H s.heap a (.dK kvs) from ea.ok I.hok);obtain⟨o,es,ep,h1,h2,_⟩:=p;exact W.kia_one W.kitx_dict I.kIn ⟨o,h1,h2.1⟩ e (fun z=>nomatch z) h
 | @dT a kvs ea =>
  cases (show u=Value.ref a from rx);obtain⟨_,_,xs,_,o,es,ep,h1,h2,_⟩:=(show ObjOk X.prog X.w H s.heap a (.dT kvs) from ea.ok I.hok);exact W.kia_one W.kitx_dict I.kIn ⟨o,h1,h2.1⟩ e (fun z=>nomatch z) h
 | @ins a C dx fs ea cl ha hn htk hm =>
  cases (show u=Value.ref a from rx);obtain⟨mA,O,_⟩:=zop I.hok ea;obtain⟨od,J,_⟩:=O.look;exact W.kia_one (W.kitx_own (cl.get _) cl.hd ha hn htk hm) I.kIn J e (fun z=>nomatch z) h
end
end
section
structure Room(k:Nat)(A:Around):Prop where
 hd:A.handled=none
 dp:A.depth+3*k+5<recursionLimit
 un:A.units+16*k+200<cLine
theorem Room.mono{j k:Nat}{A:Around}(r:Room k A)(h:j<=k):Room j A:=⟨r.hd,by have:=r.dp; omega,by have:=r.un; omega⟩
theorem Room.deeper{k:Nat}{A:Around}(r:Room (k+1) A)(env:Env):Room k (A.deeper env) :=
 ⟨r.hd,by have:=r.dp; show A.depth+1+3*k+5<_; omega,by have:=r.un; show A.units+3+16*k+200<_; omega⟩
theorem Room.depth{k:Nat}{A:Around}(r:Room k A):A.depth<recursionLimit:=by have:=r.dp; omega
theorem Room.units{k:Nat}{A:Around}(r:Room k A):A.units+64<cLine:=by have:=r.un; omega
def zo3:TA:=fun _ H Q=>Q [] H
def zjh(ta:TE)(tr:TA):TA:=fun σ H Q=>ta σ H fun x H1=>tr σ H1 fun xs H2=>Q (x :: xs) H2
section
variable {X:Cx} {e:Expr} {es:List Expr} {te:TE} {t:TA} {pos:Pos}
theorem zf:PA X [] zo3:=fun _ _ _ _ H Q I h=>Calls.spliced_nil ⟨[],H,I,.nil,h⟩
theorem zc(ha:PE X e te)(hr:PA X es t)(hs:starEach (e :: es) X.env=(false,eval e X.env) :: starEach es X.env:=by rfl):PA X (e :: es) (zjh te t):=by
 intro pos zh s σ H Q I h;rw [hs];show wpAny _ _ (spliced ((false,eval e X.env) :: backTo pos (starEach es X.env))) _ _ s;refine Calls.spliced_cons (thn (ha zh s σ H _ I h) fun u s1 ⟨x,H1,I1,r1,q1⟩=>?_);exact thn (hr pos zh s1 σ H1 _ I1 q1) fun us s2 ⟨xs,H2,I2,r2,q2⟩=>⟨x :: xs,H2,I2,.cons r1 r2,q2⟩
def zr6(t:TA):TE:=fun σ H Q=>t σ H fun xs H1=>xs.length<=sizeLine/\∀ p,H1 p=none->Q (.ref p) (upd H1 p (.tup xs))
def zo7(t:TA):TE:=fun σ H Q=>t σ H fun xs H1=>xs.length<=sizeLine/\∀ p,H1 p=none->Q (.ref p) (upd H1 p (.lst xs))
theorem zbm{x1}(h:PA X es t):PE X (.Tuple es x1 pos) (zr6 t):=by
 intro zh s σ H Q I hq;refine wpAny_Tuple_spliced (thn (h pos zh s σ H _ I hq) fun us s1 ⟨xs,H1,I1,r,z,q⟩=>⟨by rw [<- r.length]; exact z,?_⟩);have hf:H1 s1.heap.objs.size=none:=I1.hok.fresh (le_refl _);refine⟨.ref s1.heap.objs.size,upd H1 s1.heap.objs.size (.tup xs),I1.laid (t':=s1.toks) (fun b u e=>get?_push_of_some _ e) (le_refl _) ?_,rfl,q _ hf⟩;exact⟨⟨z,_,get?_push_size _ rfl,rfl⟩,us,r,⟨_,get?_push_size _ rfl,rfl,_,rfl⟩⟩
theorem zbS(h:PA X es t):PE X (.List es pos) (zo7 t):=by
 intro zh s σ H Q I hq;refine wpAny_List_spliced (thn (h pos zh s σ H _ I hq) fun us s1 ⟨xs,H1,I1,r,z,q⟩=>⟨by rw [<- r.length]; exact z,?_⟩);have hf:H1 s1.heap.objs.size=none:=I1.hok.fresh (le_refl _);refine⟨.ref s1.heap.objs.size,upd H1 s1.heap.objs.size (.lst xs),I1.laid (t':=s1.toks) (fun b u e=>get?_push_of_some _ e) (le_refl _) ?_,rfl,q _ hf⟩;exact⟨z,us,0,r,get?_push_size _ rfl⟩
end
abbrev Sp:=List V->Hp->VK->XK->Prop
abbrev CXT:=List Env->Hp->Shared->XK->Value->Shared->Prop
structure Env0(P:Program)(w:World)(K:W.Frag)(mg:Str->Option Value)(base:Heap)(A:Around)(outer:List Env)(s:Shared)(H:Hp):Prop where
 frames:A.frames=some outer
 mod:Mod K mg base
 bs:∀ b o,base.get? b=some o->s.heap.get? b=some o/\H b=none
 bsz:base.objs.size<=s.heap.objs.size
 funs:s.heap.FunFrames base outer
 frf:Frf (frs outer) H
 hok:HOk P w H s.heap
 bare:AllBare s.gens
def CE(outer:List Env)(P:Program)(w:World)(H:Hp)(s:Shared)(Q:VK)(u:Value)(s':Shared):Prop :=
 ∃ v H',s'.os=s.os/\AllBare s'.gens/\Un (frs outer) [] H H' s.heap s'.heap/\HOk P w H' s'.heap/\RelV v u/\Q v H'
def CR(CX:CXT)(outer:List Env)(P:Program)(w:World)(H:Hp)(s:Shared)(Q:VK)(E:XK)(r:Result)(s':Shared):Prop :=
 match r with
 | .ok (.ret u)=>CE outer P w H s Q u s'
 | .ok _=>False
 | .error e=>CX outer H s E e s'
structure FnOk(P:Program)(w:World)(K:W.Frag)(mg:Str->Option Value)(base:Heap)(CX:CXT)(k:Nat)(f:Addr)(fd:FuncData)(ps:List Str)(sp:Sp):Prop where
 len:∀ vs H Q E,sp vs H Q E->vs.length=ps.length
 run:∀ (A:Around) (outer:List Env) (s:Shared) (H:Hp) (args:Args) (us:List Value) (vs:List V) (Q:VK) (E:XK),Room k A->Env0 P w K mg base A outer s H->BindsTo s fd args (ps.zip us)->Vals vs us->sp vs H Q E ->
  codeAny (model P w) A (.call (.ref f) args) (CR CX outer P w H s Q E) s
section
variable {X:Cx} {zh:List (Addr×Obj)} {σ:St} {H:Hp} {s s':Shared}
theorem Inv.env0(I:Inv X zh σ H s):Env0 X.prog X.w X.K X.mg X.base X.A X.stack s H :=
 ⟨I.ok.frames,I.ok.mod,I.bs,le_trans I.ok.bsz I.sz,I.stack,I.stkFree,I.hok,I.bare⟩
theorem Inv.after{Q:VK}{u:Value}(I:Inv X zh σ H s)(h:CE X.stack X.prog X.w H s Q u s'):EP X zh σ Q u s':=by
 obtain⟨v,H',os,bare,un,hok,r,q⟩:=h;obtain⟨hh,g,d,t,os'⟩:=s';obtain rfl:os'=s.os:=os;exact⟨v,H',I.call (h':=hh) (g':=g) (d':=d) (t':=t) (ch:=[]) un hok bare (fun b z=>absurd z (by simp)),r,q⟩
end
def zkS(sp:Sp)(dvs:List V)(E:XK)(t:TA):TE:=fun σ H Q=>t σ H fun vs H1=>sp (vs++dvs) H1 Q E
def Binds(K:W.Frag)(fd:FuncData)(ps:List Str)(ds:List Value):Prop :=
 ∀ (s:Shared) (us:List Value),K.In s.heap->(us++ds).length=ps.length->BindsTo s fd ⟨us,[]⟩ (ps.zip (us++ds))
theorem Binds.all{K:W.Frag}{fd:FuncData}{ps:List Str}(h:∀ us:List Value,us.length=ps.length->bindArgs fd ⟨us,[]⟩=pure (ps.zip us)):Binds K fd ps []:=fun s us _ hl=>by
 rw [append_nil] at hl ⊢;exact .of_eq (h us hl)
def Passes(CX:CXT)(X:Cx)(E:XK):Prop:=∀ (zh:List (Addr×Obj)) (σ:St) (H:Hp) (s:Shared) (e:Value) (s':Shared),Inv X zh σ H s->CX X.stack H s E e s'->X.xe e s'
section
variable {X:Cx} {CX:CXT} {k:Nat} {f C:Addr} {fd:FuncData} {ps:List Str} {sp:Sp} {dvs:List V} {ds:List Value} {E:XK} {x m:Str} {p pos apos:Pos} {e o:Expr} {es:List Expr} {ta:TE} {t:TA}
theorem zqT{zh:List (Addr×Obj)}{σ:St}{H:Hp}{s:Shared}{Q:VK}{us:List Value}{vs:List V}(F:FnOk X.prog X.w X.K X.mg X.base CX k f fd ps sp)(hr:Room k X.A)(hb:Binds X.K fd ps ds)(hd:Vals dvs ds)(hx:Passes CX X E)
  (I:Inv X zh σ H s) (r:Vals vs us) (h:sp (vs++dvs) H Q E):wpAny (model X.prog X.w) X.A (call (.ref f) us) (EP X zh σ Q) X.xe s:=by
 have r2:Vals (vs++dvs) (us++ds):=r.append hd;have hl:(us++ds).length=ps.length:=by rw [<- r2.length]; exact F.len _ _ _ _ h
 refine wpAny_call (codeAny_mono (F.run X.A X.stack s H ⟨us,[]⟩ (us++ds) (vs++dvs) Q E hr I.env0 (hb s us I.kIn hl) r2 h) fun r s' hq=>?_);cases r with
 | error e=>exact hx zh σ H s e s' I hq
 | ok fl =>
  cases fl with
  | ret u=>exact I.after hq
  | next=>exact False.elim hq
  | brk=>exact False.elim hq
  | cont=>exact False.elim hq
theorem zkD(F:FnOk X.prog X.w X.K X.mg X.base CX k f fd ps sp)(hr:Room k X.A)(hg:Gl X x)(hm:X.mg x=some (.ref f))(hk:W.keepIn X.K (.ref f)=true)(hb:Binds X.K fd ps ds)(hd:Vals dvs ds)(hx:Passes CX X E)
  (ha:PA X (e :: es) t) (hdb:(x == ("__debug__":Str))=false:=by decide) (he:starEach (e :: es) X.env=(false,eval e X.env) :: starEach es X.env:=by rfl) (hpl:(backTo pos (starEach es X.env)).any (·.1)=false:=by rfl) :
  PE X (.Call (.Name x p) (e :: es) [] pos) (zkS sp dvs E t):=by
 intro zh s σ H Q I h;refine wpAny_Call_Name_kw (zla I hg hm ?_ hdb);refine W.callWith_K (h₀:=X.base) I.ok.mod.kin hk (thn (ha pos zh s σ H _ I h) fun us s1 ⟨vs,H1,I1,r,q⟩=>⟨I1.kIn,?_⟩) he hpl;exact zqT F hr hb hd hx I1 r q
end
structure FnScope(N P:List Str)(sc:Scope):Prop where
 kind:sc.kind=.function
 co:sc.isCoroutine=false
 gen:sc.isGenerator=false
 nd:N.Nodup
 pre:N.take P.length=P
 par:∀ x∈P,sc.names.lookup x=some .local\/sc.names.lookup x=some .cell
 nofree:∀ y∈sc.names,y.2≠.free
theorem zgW{kindOf:Str->Option NameKind}{x:Str}:∀ {binds:List (Str×Value)} {m:Str->Option Value},(∀ v,(x,v)∉binds)->bindL kindOf binds m x=m x
 | [],_,_=>rfl
 | (n,v) :: r,m,h=>by
  unfold bindL;rw [zgW fun w hw=>h w (mem_cons_of_mem _ hw)];split
  ·have:x≠n:=by rintro rfl; exact h v mem_cons_self
   simp [this]
  ·rfl
theorem zhw{kindOf:Str->Option NameKind}{x:Str}:∀ {binds:List (Str×Value)} {m:Str->Option Value},(∀ v,(x,v)∉binds)->bindC kindOf binds m x=m x
 | [],_,_=>rfl
 | (n,v) :: r,m,h=>by
  unfold bindC;rw [zhw fun w hw=>h w (mem_cons_of_mem _ hw)];split
  ·rfl
  ·have:x≠n:=by rintro rfl; exact h v mem_cons_self
   simp [this]
theorem zht{kindOf:Str->Option NameKind}{x:Str}{v:Value}:∀ {P:List Str} {vs:List Value} {i:Nat} {m:Str->Option Value},P.Nodup->P[i]? = some x->vs[i]? = some v->kindOf x=some .local ->
  bindL kindOf (P.zip vs) m x=some v
 | [],_,_,_,_,h,_,_=>by simp at h
 | _ :: _,[],_,_,_,_,h,_=>by simp at h
 | p :: P,w :: vs,0,m,nd,h1,h2,hk=>by
  simp at h1 h2; subst h1; subst h2;show bindL kindOf ((p,w) :: P.zip vs) m p=_;unfold bindL;rw [zgW fun v hv=>(nodup_cons.mp nd).1 (of_mem_zip hv).1,if_pos hk];simp
 | p :: P,w :: vs,i+1,m,nd,h1,h2,hk=>by
  show bindL kindOf ((p,w) :: P.zip vs) m x=_;unfold bindL;exact zht (i:=i) (nodup_cons.mp nd).2 (by simpa using h1) (by simpa using h2) hk
theorem zhK{kindOf:Str->Option NameKind}{x:Str}{v:Value}:∀ {P:List Str} {vs:List Value} {i:Nat} {m:Str->Option Value},P.Nodup->P[i]? = some x->vs[i]? = some v->kindOf x≠some .local ->
  bindC kindOf (P.zip vs) m x=some v
 | [],_,_,_,_,h,_,_=>by simp at h
 | _ :: _,[],_,_,_,_,h,_=>by simp at h
 | p :: P,w :: vs,0,m,nd,h1,h2,hk=>by
  simp at h1 h2; subst h1; subst h2;show bindC kindOf ((p,w) :: P.zip vs) m p=_;unfold bindC;rw [zhw fun v hv=>(nodup_cons.mp nd).1 (of_mem_zip hv).1,if_neg hk];simp
 | p :: P,w :: vs,i+1,m,nd,h1,h2,hk=>by
  show bindC kindOf ((p,w) :: P.zip vs) m x=_;unfold bindC;exact zhK (i:=i) (nodup_cons.mp nd).2 (by simpa using h1) (by simpa using h2) hk
def start(N:List Str)(vs:List V):St:=vs.map some++List.replicate (N.length - vs.length) none
def zlO(CX:CXT)(P:Program)(w:World)(K:W.Frag)(mg:Str->Option Value)(base:Heap)(N:List Str)(qual:Str)(scope:Scope)(f:Addr)(cd:Value)(A:Around)(outer:List Env)(s:Shared)(H:Hp)(E:XK):Cx where
 prog:=P
 w:=w
 K:=K
 mg:=mg
 base:=base
 A:=A.deeper (envOfC qual scope s.heap.objs.size f cd)
 N:=N
 s₀:=s
 H₀:=H
 env:=envOfC qual scope s.heap.objs.size f cd
 outer:=outer
 stack:=envOfC qual scope s.heap.objs.size f cd :: outer
 ex:=[]
 calm:=true
 fn:=fun _=>true
 pn:=[]
 xe:=fun e s'=>wpAny (model P w) (A.deeper (envOfC qual scope s.heap.objs.size f cd)) (leaving (envOfC qual scope s.heap.objs.size f cd) e) (fun _ s''=>CX outer H s E e s'') (fun e' s''=>CX outer H s E e' s'') s'
theorem ziA{sc:Scope}{n:Nat}{x:Str}(h:sc.names.lookup x=some .cell):∃ c,(cellsFrom n sc.names []).lookup x=some c:=by
 have q:=W.cellsFrom_some sc.names n [] (.inl h);exact isSome_iff_exists.mp q
theorem zj1{CX:CXT}{P:Program}{w:World}{K:W.Frag}{mg:Str->Option Value}{base:Heap}{N ps:List Str}{qual:Str}{scope:Scope}{f:Addr}{cd:Value}{A:Around}{outer:List Env}{s s1:Shared}{H:Hp}{E:XK}{us:List Value}{vs:List V}
  (S:FnScope N ps scope) (hd:A.handled=none) (e0:Env0 P w K mg base A outer s H) (hl:vs.length=ps.length) (r:Vals vs us)
  (x:InCallC s s.heap.objs.size (bindL (envOfC qual scope s.heap.objs.size f cd).kindOf (ps.zip us) fun _=>none) (cellsFrom (s.heap.objs.size+1) scope.names []) (bindC (envOfC qual scope s.heap.objs.size f cd).kindOf (ps.zip us) fun _=>none) s1) :
  Inv (zlO CX P w K mg base N qual scope f cd A outer s H E) [] (start N vs) H s1:=by
 have hpl:ps.length<=N.length:=by have:=congrArg List.length S.pre; rw [length_take] at this; omega
 obtain⟨h1,tk,rfl,hk⟩:=x.done;have noA:∀ b:Addr,b∉(zlO CX P w K mg base N qual scope f cd A outer s H E).ex:=fun b z=>absurd (show b∈([]:List Addr) from z) (by simp);refine⟨⟨e0.mod,S.kind,rfl,rfl,le_refl _,fun y z c h1 h2=>?_,fun y hy=>?_,fun y c _ h=>?_,fun _=>hd,Around.frames_deeper e0.frames,.inr ⟨rfl,rfl⟩,fun b z=>absurd z (noA b),e0.bs,e0.bsz,fun b _ _=>noA b,fun b z=>absurd z (noA b),e0.funs,e0.frf⟩,
  rfl,e0.bare,Un.kept hk,⟨_,x.toInCall.ns,fun i y v h1 h2 h3=>?_⟩,fun y c h=>⟨_,x.cell y c h⟩,e0.hok.fresh (le_refl _),fun y c h=>?_,fun p hp=>absurd (show p∈([]:List (Addr×Obj)) from hp) (by simp),e0.hok.kept hk,?_⟩
 ·exact name_of_addr x.apart (PySem.mem_of_lookup h1) (PySem.mem_of_lookup h2)
 ·have hy:scope.names.lookup y=some .cell\/scope.names.lookup y=some .free:=hy;rcases hy with hy | hy
  ·exact ziA hy
  ·exact absurd rfl (S.nofree _ (PySem.mem_of_lookup hy))
 ·exact le_of_lt (x.above y c (PySem.mem_of_lookup h))
 ·have hi:i<vs.length:=by
   unfold start at h2;by_cases hi:i<vs.length
   ·exact hi
   ·rw [getElem?_append_right (by simpa using hi)] at h2;rw [List.getElem?_replicate] at h2;split at h2 <;> cases h2
  have ha:vs[i]? = some v:=by
   unfold start at h2;rw [getElem?_append_left (by simpa using hi),getElem?_map] at h2;cases e:vs[i]? with
   | none=>rw [e] at h2; cases h2
   | some a=>rw [e] at h2; cases h2; rfl
  obtain⟨u,hu,rv⟩:=r.get ha;have hp:ps[i]? = some y:=by
   rw [<- S.pre,List.getElem?_take_of_lt (by omega)]; exact h1
  have ndP:ps.Nodup:=by rw [<- S.pre]; exact S.nd.sublist (List.take_sublist _ _)
  refine⟨u,rv,?_⟩;rcases S.par y (mem_of_getElem? hp) with k | k
  ·exact .inl ⟨k,zht ndP hp hu k⟩
  ·obtain⟨c,e⟩:=ziA (n:=s.heap.objs.size+1) k;refine .inr ⟨.inl k,c,e,?_⟩;have q:=x.cell y c e;rw [zhK ndP hp hu (by show scope.names.lookup y≠_; rw [k]; decide)] at q;exact q
 ·exact e0.hok.fresh (le_of_lt (x.above y c (PySem.mem_of_lookup h)))
 ·unfold start;show _=N.length;rw [length_append,length_map,List.length_replicate];omega
theorem zrF{CX:CXT}{P:Program}{w:World}{K:W.Frag}{mg:Str->Option Value}{base:Heap}{k:Nat}{f:Addr}{name qual:Str}{params:Arguments}{body:List Stmt}{scope:Scope}{dV kV doc pm cdv ct oc:Value}{an od:Option Addr}
  {osl:Array (Option Value)} {N ps:List Str} {sp:Sp} (lk:K.lookup f=some ⟨oc,od,.func (W.fnOf name qual params body scope dV kV doc pm an cdv ct),osl⟩) (hcd:W.codeIn K cdv qual=true) (S:FnScope N ps scope)
  (len:∀ vs H Q E,sp vs H Q E->vs.length=ps.length)
  (hbody:∀ (A:Around) (outer:List Env) (s:Shared) (H:Hp) (vs:List V) (Q:VK) (E:XK),Room k (A.deeper (envOfC qual scope s.heap.objs.size f cdv))->sp vs H Q E ->
   ∃ t,PSs (zlO CX P w K mg base N qual scope f cdv A outer s H E) body t/\t { nx:=fun _ H'=>Q .non H',rt:=Q } (start N vs) H) :
  FnOk P w K mg base CX (k+1) f (W.fnOf name qual params body scope dV kV doc pm an cdv ct) ps sp:=by
 refine⟨len,fun A outer s H args us vs Q E hr e0 hb r hsp=>?_⟩;have hl:=len _ _ _ _ hsp;have KX:K.In s.heap:=e0.mod.kin.keeps fun b o e=>(e0.bs b o e).1;have lim:s.heap.NoLimit:=e0.mod.nolimit.keeps fun b o e=>(e0.bs b o e).1;have hkind:∀ y∈ps.zip us,scope.names.lookup y.1=some .local\/(scope.names.lookup y.1=some .cell/\((cellsFrom (s.heap.objs.size+1) scope.names []).lookup y.1).isSome=true):=fun⟨n,v⟩ hy=>by
  rcases S.par n (of_mem_zip hy).1 with q | q
  ·exact .inl q
  ·exact .inr ⟨q,W.cellsFrom_some _ _ _ (.inl q)⟩
 refine codeAny_call_function hr.depth (KX _ _ lk) rfl S.co S.gen rfl (W.codeRec_of KX hcd) (hb _ _ _ _ ?_);refine wpAny_newFunctionEnv_cells S.kind hkind fun env he s1 x=>?_;subst he;refine⟨lim.keeps x.toInCall.keep,codeAny_func ?_⟩;obtain⟨t,ht,hq⟩:=hbody A outer s H vs Q E (hr.deeper _) hsp;have I:Inv (zlO CX P w K mg base N qual scope f cdv A outer s H E) [] (start N vs) H s1:=zj1 S hr.hd e0 hl r x;refine wpAny_mono (ht [] s1 (start N vs) H _ I hq) (fun fl s' hs=>?_) fun e s' hs=>hs;have fin:∀ {σ':St} {H':Hp} {v:V} {u:Value},Inv (zlO CX P w K mg base N qual scope f cdv A outer s H E) [] σ' H' s'->RelV v u->Q v H'->CE outer P w H s Q u s' :=
  fun {σ' H' v u} J rv q=>⟨v,H',J.os,J.bare,J.base,J.hok,rv,q⟩
 cases fl with
 | ret u =>
  obtain⟨v,σ',H',J,rv,q⟩:=hs;exact fin J rv q
 | next =>
  obtain⟨σ',H',J,q⟩:=hs;exact fin (v:=V.non) (u:=Value.none) J rfl q
 | brk =>
  obtain⟨_,_,_,q⟩:=hs;exact False.elim q
 | cont =>
  obtain⟨_,_,_,q⟩:=hs;exact False.elim q
end
section
section
variable {X:Cx} {x:Str} {p pos:Pos} {e:Expr} {es:List Expr} {t:TA} {id T:String} {r:List V->Hp->VK->Prop}
def tCB(r:List V->Hp->VK->Prop)(t:TA):TE:=fun σ H Q=>t σ H fun vs H1=>r vs H1 Q
theorem zx(hc:CallR X (.builtin id) r)(hg:Gl X x)(hm:X.mg x=none)(hv:bootBuiltins x=some (.builtin id))(ha:PA X (e :: es) t)(hn:x ≠ "__name__":=by decide)(hdb:(x == ("__debug__":Str))=false:=by decide)
  (he:starEach (e :: es) X.env=(false,eval e X.env) :: starEach es X.env:=by rfl) (hpl:(backTo pos (starEach es X.env)).any (·.1)=false:=by rfl):PE X (.Call (.Name x p) (e :: es) [] pos) (tCB r t):=by
 intro zh s σ H Q I h;refine wpAny_Call_Name_kw (zdP I hg hm hv ?_ hn hdb);exact PyProof.Rows.callWith_builtin1 (thn (ha pos zh s σ H _ I h) fun us s1 ⟨vs,H1,I1,r1,q1⟩=>hc zh s1 σ H1 vs us Q I1 r1 q1) he hpl
theorem zam(hc:CallR X (.type T) r)(hg:Gl X x)(hm:X.mg x=none)(hv:bootBuiltins x=some (.type T))(ha:PA X (e :: es) t)(hn:x ≠ "__name__":=by decide)(hdb:(x == ("__debug__":Str))=false:=by decide)
  (he:starEach (e :: es) X.env=(false,eval e X.env) :: starEach es X.env:=by rfl) (hpl:(backTo pos (starEach es X.env)).any (·.1)=false:=by rfl):PE X (.Call (.Name x p) (e :: es) [] pos) (tCB r t):=by
 intro zh s σ H Q I h;refine wpAny_Call_Name_kw (zdP I hg hm hv ?_ hn hdb);exact PyProof.Rows.callWith_type1 (thn (ha pos zh s σ H _ I h) fun us s1 ⟨vs,H1,I1,r1,q1⟩=>hc zh s1 σ H1 vs us Q I1 r1 q1) he hpl
end
end
end L2
namespace HT
open PySem PyProof.Rows
def lexLt:List Int->List Int->Bool
 | [],[]=>false
 | [],_ :: _=>true
 | _ :: _,[]=>false
 | x :: xs,y :: ys=>if x=y then lexLt xs ys else decide (x<y)
theorem lexLt_cons(x y:Int)(xs ys:List Int):lexLt (x :: xs) (y :: ys)=if x=y then lexLt xs ys else decide (x<y):=rfl
theorem zgv:lexLt [] []=false:=rfl
theorem zfJ(y:Int)(ys:List Int):lexLt [] (y :: ys)=true:=rfl
theorem zfL(x:Int)(xs:List Int):lexLt (x :: xs) []=false:=rfl
theorem zmy(A:Around)(s:Shared)(a:Int)(t:Tok)(c:Int)(u:Tok):∃ e,SeqAt.EqAt A s (.int a t) (.int c u) e/\(e=true↔a=c) :=
 ⟨(a == c),SeqAt.EqAt.int_int a t c u,by simp⟩
theorem zlV(A:Around)(s:Shared)(a:Int)(t:Tok)(c:Int)(u:Tok)(prog:Program)(w:World)(E:Value->Shared->Prop)(Q:Value->Shared->Prop)(h:Q (.bool (decide (a<c))) s):
  wpAny (model prog w) A (richCompare .Lt (.int a t) (.int c u)) Q E s :=
 (PyProof.Rows.lt_int h:wpAny (model prog w) A (compareOp .Lt (.int a t) (.int c u)) Q E s)
section
open PySem.SeqAt
open PySem.AutoSeq1 (wpAny_loadPart')
open PySem.MeetsSeq PySem.MeetsSeq2 PySem.MeetsSeq3
theorem zgD(l b:Addr)(items items2:Array Value)(n n2:Nat)(dd dd2:Option Addr)(sl sl2:Array (Option Value))(ns ms:List Int)(hi:IntsAre items.toList ns)(hj:IntsAre items2.toList ms):
  Meets (Builtin.«tuple.__lt__» ⟨[.ref l,.ref b],[]⟩)
   (fun _ R s=>s.heap.get? l=some { cls:=.type "tuple",dict:=dd,data:=.seq items n,slots:=sl }/\s.heap.get? b=some { cls:=.type "tuple",dict:=dd2,data:=.seq items2 n2,slots:=sl2 } /\
    R (.ok (.ret (.bool (lexLt ns ms)))) s) :=
 .of_wp fun prog w A R s h=>by
  obtain⟨hp,g,d,tk,os⟩:=s; obtain⟨hl,hb,h⟩:=h;have f2:=AutoSeq1.sub_tuple_tuple;have z1:items.size=ns.length:=by rw [<- hi.length]; simp
  have z2:items2.size=ms.length:=by rw [<- hj.length]; simp
  wp_walk using wpAny_loadPart' hl,wpAny_loadPart' hb,wpAny_forIn_list _ (fun rest b s'=>b.1=none/\s'=⟨hp,g,d,tk,os⟩/\∃ (vs ws:List Value) (ns' ms':List Int),rest=vs.zip ws /\
   IntsAre vs ns'/\IntsAre ws ms'/\ns'.length+items2.size=ms'.length+items.size/\R (.ok (.ret (.bool (lexLt ns' ms')))) ⟨hp,g,d,tk,os⟩) _
  case turn =>
   rintro⟨y,x⟩ rest b s' ⟨hb',rfl,vs,ws,ns',ms',hz,hvi,hwi,hlen,hR⟩;cases hvi with
   | nil=>rw [List.zip_nil_left] at hz; cases hz
   | cons a t hvi' =>
    cases hwi with
    | nil=>rw [List.zip_nil_right] at hz; cases hz
    | cons c u hwi' =>
     rw [List.zip_cons_cons] at hz;injection hz with hyx hrest
     injection hyx with hy hx
     subst hy hx;rw [lexLt_cons] at hR;simp only [length_cons] at hlen;obtain⟨e,he,hiff⟩:=zmy A.in1 ⟨hp,g,d,tk,os⟩ a t c u;refine wpAny_bind (he prog w _ _ ?_);cases e with
     | true =>
      rw [if_pos (hiff.mp rfl)] at hR
      wp_walk
      exact⟨rfl,rfl,_,_,_,_,hrest,hvi',hwi',by omega,hR⟩
     | false =>
      rw [if_neg (fun q=>absurd (hiff.mpr q) Bool.false_ne_true)] at hR;have hri:=zlV A.in1 ⟨hp,g,d,tk,os⟩ a t c u prog w
      wp_walk using hri
      exact⟨_,rfl,by simpa using hR⟩
  case fin =>
   rintro⟨b1,b2⟩ s' ⟨hb',rfl,vs,ws,ns',ms',hz,hvi,hwi,hlen,hR⟩;simp only at hb';subst hb';have hv:lexLt ns' ms'=decide (items.size<items2.size):=by
    cases hvi with
    | nil =>
     cases hwi with
     | nil =>
      simp only [length_nil] at hlen;rw [zgv];exact(decide_eq_false (by omega)).symm
     | cons c u hw =>
      simp only [length_nil,length_cons] at hlen;rw [zfJ];exact(decide_eq_true (by omega)).symm
    | cons a t hv =>
     cases hwi with
     | nil =>
      simp only [length_nil,length_cons] at hlen;rw [zfL];exact(decide_eq_false (by omega)).symm
     | cons c u hw =>
      rw [List.zip_cons_cons] at hz;cases hz
   rw [hv] at hR
   wp_walk
   exact⟨_,rfl,by simpa [Builtin.Tuple.tupleCompareSizes] using hR⟩
  case h =>
   exact⟨rfl,rfl,items.toList,items2.toList,ns,ms,rfl,hi,hj,by omega,h⟩
end
section
variable {prog:Program} {w:World} {A:Around} {E:Value->Shared->Prop} {s:Shared}
theorem lt_tupInts{l b:Addr}{items items2:Array Value}{ns ms:List Int}{Q:Value->Shared->Prop}(hl:IsTup s.heap l items)(hb:IsTup s.heap b items2)(hi:IntsAre items.toList ns)(hj:IntsAre items2.toList ms)
  (hu:A.units<cLine) (h:Q (.bool (lexLt ns ms)) s):wpAny (model prog w) A (compareOp .Lt (.ref l) (.ref b)) Q E s:=by
 obtain⟨⟨cls,dd,data,sl⟩,ho,hc,n,hd⟩:=id hl;obtain⟨⟨cls2,dd2,data2,sl2⟩,ho2,hc2,n2,hd2⟩:=id hb;simp only at hc hd hc2 hd2;subst hc hd hc2 hd2;exact richCompare_meets_room (op:=.Lt) ⟨_,ho,rfl⟩ ⟨_,ho2,rfl⟩ PySem.F.slot_tuple_lt PySem.F.entry_tuple_lt (PySem.F.args_tuple_lt_2 _ _) (zgD l b items items2 n n2 dd dd2 sl sl2 ns ms hi hj)
  ⟨ho,ho2,show Value.bool (lexLt ns ms)≠Value.notImplemented/\Q (.bool (lexLt ns ms)) s from⟨(fun x=>nomatch x),h⟩⟩ hu
theorem cat_tup{t b:Addr}{vs ws:List Value}{Q:Value->Shared->Prop}(ht:IsTup s.heap t vs.toArray)(hb:IsTup s.heap b ws.toArray)(hv:vs≠[])
  (h1:ws=[]->Q (.ref t) s) (h2:ws≠[]->Q (.ref s.heap.objs.size) { s with heap:=s.heap.push { cls:=.type "tuple",data:=.seq (vs++ws).toArray } })
  (hsz:vs.length+ws.length<=sizeLine):wpAny (model prog w) A (binaryOp .Add (.ref t) (.ref b)) Q E s:=by
 obtain⟨⟨cls,dd,data,sl⟩,ho,hc,n,hd⟩:=id ht;obtain⟨⟨cls2,dd2,data2,sl2⟩,ho2,hc2,n2,hd2⟩:=id hb;simp only at hc hd hc2 hd2;subst hc hd hc2 hd2;have e:vs.toArray++ws.toArray=(vs++ws).toArray:=by simp
 by_cases hw:ws=[]
 ·exact concat_meets ⟨_,ho,rfl⟩ ⟨_,ho2,rfl⟩ noFill_tuple_add seq_tuple_add PySem.F.slot_tuple_add PySem.F.entry_tuple_add (PySem.F.args_tuple_add_2 _ _)
   (tuple_addW1 t b vs.toArray ws.toArray n n2 dd dd2 sl sl2 (by simpa using hv) (by simp [hw])) ⟨ho,ho2,h1 hw⟩
 ·refine concat_meets ⟨_,ho,rfl⟩ ⟨_,ho2,rfl⟩ noFill_tuple_add seq_tuple_add PySem.F.slot_tuple_add PySem.F.entry_tuple_add (PySem.F.args_tuple_add_2 _ _)
   (tuple_addW2 t b vs.toArray ws.toArray n n2 dd dd2 sl sl2 (by simpa using hv) (by simpa using hw) (by rw [size_toArray,size_toArray]; exact hsz)) ⟨ho,ho2,?_⟩
  rw [e];exact h2 hw
def sIx(n d:Nat):Option Int->Nat
 | none=>d
 | some v=>if v<0 then (v+(n:Int)).toNat else min v.toNat n
theorem sIx_nat(n d k:Nat):sIx n d (some (k:Int))=min k n:=by
 show (if (k:Int)<0 then ((k:Int)+(n:Int)).toNat else min (k:Int).toNat n)=min k n;rw [if_neg (by omega),Int.toNat_natCast]
theorem zqc(n d:Nat)(hd:d<=n)(o:Option Int):sIx n d o<=n:=by
 cases o with
 | none=>exact hd
 | some v =>
  show (if v<0 then (v+(n:Int)).toNat else min v.toNat n)<=n;by_cases hv:v<0
  ·rw [if_pos hv]; omega
  ·rw [if_neg hv]; exact Nat.min_le_right _ _
theorem zk0(v:Int)(n d:Nat):(if v<0 then max (v+(n:Int)) 0 else min v (n:Int))=((sIx n d (some v):Nat):Int):=by
 show (if v<0 then max (v+(n:Int)) 0 else min v (n:Int))=(((if v<0 then (v+(n:Int)).toNat else min v.toNat n):Nat):Int);by_cases hv:v<0
 ·simp only [if_pos hv]; omega
 ·simp only [if_neg hv]; omega
theorem zjD(lo hi:Option Int)(n:Nat):Builtin.Slice.sliceAdjust lo hi 1 (n:Int)=(((sIx n 0 lo:Nat):Int),((sIx n n hi:Nat):Int)):=by
 have h1:¬ ((1:Int)<0):=by omega
 unfold Builtin.Slice.sliceAdjust;simp only [h1,if_false];refine Prod.ext ?_ ?_
 ·cases lo with
  | none=>rfl
  | some v=>exact zk0 v n 0
 ·cases hi with
  | none=>rfl
  | some v=>exact zk0 v n n
theorem zjJ(i j:Nat):Builtin.Slice.slicePlaces (i:Int) (j:Int) 1=j - i:=by
 unfold Builtin.Slice.slicePlaces;have h1:(1:Int)>0:=by omega
 simp only [h1,if_true,Int.ediv_one];split <;> omega
theorem zgb{v:Value}{o:Option Int}{Q:Option Int->Shared->Prop}(p:IsPart v o)(h:Q o s):wpAny (model prog w) A (Builtin.Slice.slicePartIndex v) Q E s:=by
 cases p with
 | none=>exact slicePart_none h
 | int i t=>exact slicePart_int h
theorem zeK{sl:Addr}{vl vu:Value}{lo hi:Option Int}{n:Nat}{Q:Int×Int×Nat->Shared->Prop}(hs:s.heap.IsSliceOf sl vl vu .none)(pl:IsPart vl lo)(pu:IsPart vu hi)
  (h:Q (((sIx n 0 lo:Nat):Int),1,sIx n n hi - sIx n 0 lo) s):wpAny (model prog w) A (Builtin.Slice.sliceApplied (.ref sl) (pure (n:Int))) Q E s:=by
 obtain⟨os,hos,hcs,hds⟩:=id hs;unfold Builtin.Slice.sliceApplied Builtin.Slice.sliceFields;refine wpAny_bind (wpAny_bind (wpAny_field hos hds (x:=vl) rfl (wpAny_bind (wpAny_field hos hds (x:=vu) rfl (wpAny_bind (wpAny_field hos hds (x:=.none) rfl (wpAny_pure ?_)))))));refine wpAny_bind (slicePart_none ?_);show wpAny _ _ (if ((1:Int) == 0)=true then _ else _) _ _ s;rw [if_neg dz];refine wpAny_bind (zgb pl (wpAny_bind (zgb pu (wpAny_bind (wpAny_pure ?_)))));show wpAny _ _ (match Builtin.Slice.sliceAdjust lo hi 1 (n:Int) with | (lo,hi)=>pure (lo,(1:Int),Builtin.Slice.slicePlaces lo hi 1)) _ _ s;rw [zjD lo hi n];show wpAny _ _ (pure (((sIx n 0 lo:Nat):Int),(1:Int),Builtin.Slice.slicePlaces ((sIx n 0 lo:Nat):Int) ((sIx n n hi:Nat):Int) 1)) _ _ s;rw [zjJ];exact wpAny_pure h
theorem zmH(xs:Array Value)(i k:Nat):((List.range k).filterMap fun(m:Nat)=>xs[((i:Int)+(m:Int)*1).toNat]?).toArray=((xs.toList.drop i).take k).toArray:=by
 have e:(fun(m:Nat)=>xs[((i:Int)+(m:Int)*1).toNat]?)=fun m=>xs[i+m]?:=by
  funext m;have:((i:Int)+(m:Int)*1).toNat=i+m:=by omega
  rw [this]
 rw [e];have:=pick_run xs i k;rw [List.filterMap_map] at this;have e2:((fun x=>xs[x]?)∘fun x=>i+x)=fun m=>xs[i+m]?:=rfl;rw [e2] at this;rw [this]
theorem getItem_tuple_cut{t sl:Addr}{items:Array Value}{vl vu:Value}{lo hi:Option Int}{Q:Value->Shared->Prop}(ht:IsTup s.heap t items)(hs:s.heap.IsSliceOf sl vl vu .none)(pl:IsPart vl lo)(pu:IsPart vu hi)
  (hw:¬ (sIx items.size 0 lo=0/\sIx items.size items.size hi=items.size))
  (h:Q (.ref s.heap.objs.size) { s with heap:=s.heap.push { cls:=.type "tuple",data:=.seq ((items.toList.drop (sIx items.size 0 lo)).take (sIx items.size items.size hi - sIx items.size 0 lo)).toArray } })
  (hsz:items.size<=sizeLine):wpAny (model prog w) A (getItem (.ref t) (.ref sl)) Q E s:=by
 have htake:sizeOk (.seq ((items.toList.drop (sIx items.size 0 lo)).take (sIx items.size items.size hi - sIx items.size 0 lo)).toArray):=by
  show ((items.toList.drop (sIx items.size 0 lo)).take (sIx items.size items.size hi - sIx items.size 0 lo)).toArray.size<=sizeLine;rw [size_toArray,length_take,length_drop,length_toList];omega
 have hj:sIx items.size items.size hi<=items.size:=zqc _ _ (le_refl _) hi;obtain⟨os,hos,hcs,hds⟩:=id hs;have hTs:s.TypeIs (.ref sl) "slice":=⟨os,hos,hcs⟩;unfold getItem
 try with_reducible refine wpAny_holding ?_
 first | refine wpAny_bind (wpAny_pure ?_) | skip
 refine wpAny_bind (wpAny_sequenceKey ht.typeIs dz ?_);refine wpAny_bind (wpAny_callSpecial?_slot (name:=Str.ofString "__getitem__") ht.typeIs PyProof.Rows.slot_tuple_getitem
  (wpAny_call_entry PyProof.Rows.slot_tuple_getitem ht.typeIs entry_tuple_getitem ?_ (args_tuple_getitem _ _)))
 show wpAny _ _ (Builtin.Tuple.tupleItemsOf (.ref t) >>= _) _ _ s;refine wpAny_bind (tupleItemsOf_ ht ?_);refine wpAny_bind (wpAny_typeOf hTs ?_);rw [if_pos dz];refine wpAny_bind (zeK hs pl pu ?_);have hno:¬ ((((sIx items.size 0 lo:Nat):Int) == 0 && (1:Int) == 1 && (sIx items.size items.size hi - sIx items.size 0 lo) == items.size)=true):=by
  intro q;rw [Bool.and_eq_true,Bool.and_eq_true] at q;have q1:((sIx items.size 0 lo:Nat):Int)=0:=eq_of_beq q.1.1;have q2:sIx items.size items.size hi - sIx items.size 0 lo=items.size:=eq_of_beq q.2;exact hw ⟨by omega,by omega⟩
 show wpAny _ _ (if (((sIx items.size 0 lo:Nat):Int) == 0 && (1:Int) == 1 && (sIx items.size items.size hi - sIx items.size 0 lo) == items.size)=true then _ else _) _ _ s;rw [if_neg hno,zmH]
 first
  | exact wpAny_bind (m:=Builtin.Tuple.tupleExact _) (wpAny_newObj_type (wpAny_pure ⟨_,rfl,wpAny_pure h⟩) htake)
  | exact wpAny_bind (m:=Builtin.Tuple.tupleExact _) (wpAny_newObj_type (wpAny_bind (wpAny_pure (wpAny_pure ⟨_,rfl,wpAny_pure h⟩))) htake)
  | exact wpAny_bind (wpAny_bind (m:=Builtin.Tuple.tupleExact _) (wpAny_newObj_type (wpAny_pure (wpAny_pure ⟨_,rfl,wpAny_pure h⟩)) htake))
  | exact wpAny_bind (wpAny_bind (m:=Builtin.Tuple.tupleExact _) (wpAny_newObj_type (wpAny_pure ⟨_,rfl,wpAny_pure h⟩) htake))
end
end HT
namespace L2
open PySem PySem.Spec PyProof.Rows
section
abbrev TO:=St->Hp->(Option Int->Hp->Prop)->Prop
def PO(X:Cx)(e:Option Expr)(t:TO):Prop :=
 ∀ (zh:List (Addr×Obj)) (s:Shared) (σ:St) (H:Hp) (Q:Option Int->Hp->Prop),Inv X zh σ H s->t σ H Q ->
  wpAny (model X.prog X.w) X.A (evalPart e X.env) (fun u s'=>∃ o H',Inv X zh σ H' s'/\IsPart u o/\Q o H') X.xe s
def zkK:TO:=fun _ H Q=>Q none H
def zjA(t:TE):TO:=fun σ H Q=>t σ H fun x H1=>∃ i,x=.int i/\Q (some i) H1
theorem zbK{ns:List Int}:∀ {us:List Value},Vals (ns.map V.int) us->IntsAre us ns:=by
 induction ns with
 | nil=>intro us r; rw [map_nil] at r; cases r; exact .nil
 | cons n ns ih =>
  intro us r;rw [map_cons] at r;cases r with
  | cons r1 r2 =>
   obtain⟨t,e⟩:=r1;subst e;exact .cons n t (ih r2)
section
variable {X:Cx} {e:Expr} {te:TE} {lo hi:Option Expr} {tl th:TO} {pos p2:Pos}
theorem zgz:PO X none zkK:=by
 intro zh s σ H Q I h;rw [evalPart_none];exact wpAny_pure ⟨none,H,I,.none,h⟩
theorem zc4(h:PE X e te):PO X (some e) (zjA te):=by
 intro zh s σ H Q I hw;rw [evalPart_some];refine thn (h zh s σ H _ I hw) fun u s1 ⟨x,H1,I1,r1,q1⟩=>?_;obtain⟨i,rfl,q⟩:=q1;obtain⟨t,rfl⟩:=r1;exact⟨some i,H1,I1,.int i t,q⟩
def SlR(X:Cx)(r:V->Option Int->Option Int->Hp->VK->Prop):Prop :=
 ∀ (zh:List (Addr×Obj)) (s:Shared) (σ:St) (H:Hp) (x:V) (v vl vu:Value) (lo hi:Option Int) (sl:Addr) (Q:VK),Inv X zh σ H s->RelV x v->s.heap.IsSliceOf sl vl vu .none->IsPart vl lo->IsPart vu hi->r x lo hi H Q ->
  ∃ T id,typeLookup (.type T) "__getitem__" = pure (some (.builtin id))/\s.TypeIs v T/\wpAny (model X.prog X.w) X.A (getItem v (.ref sl)) (EP X zh σ Q) X.xe s
theorem SlR.or{r r':V->Option Int->Option Int->Hp->VK->Prop}(h:SlR X r)(h':SlR X r'):SlR X (fun x lo hi H Q=>r x lo hi H Q\/r' x lo hi H Q):=by
 intro zh s σ H x v vl vu lo hi sl Q I rx hs pl pu q;rcases q with q | q
 ·exact h zh s σ H x v vl vu lo hi sl Q I rx hs pl pu q
 ·exact h' zh s σ H x v vl vu lo hi sl Q I rx hs pl pu q
def tSl(r:V->Option Int->Option Int->Hp->VK->Prop)(te:TE)(tl th:TO):TE:=fun σ H Q=>te σ H fun x H1=>tl σ H1 fun l H2=>th σ H2 fun u H3=>r x l u H3 Q
theorem zde{r:V->Option Int->Option Int->Hp->VK->Prop}(hr:SlR X r)(he:PE X e te)(hl:PO X lo tl)(hu:PO X hi th):PE X (.Subscript e (.Slice lo hi none p2) pos) (tSl r te tl th):=by
 intro zh s σ H Q I h;refine Subscript_ (thn (he zh s σ H _ I h) fun v s1 ⟨x,H1,I1,r1,q1⟩=>?_);refine wpAny_Slice (thn (hl zh s1 σ H1 _ I1 q1) fun vl s2 ⟨l,H2,I2,pl,q2⟩=>thn (hu zh s2 σ H2 _ I2 q2) fun vu s3 ⟨u,H3,I3,pu,q3⟩=>?_);rw [evalPart_none];refine wpAny_pure ?_;have I4:Inv X zh σ H3 { s3 with heap:=s3.heap.push { cls:=.type "slice",data:=.fields #[vl,vu,.none] } }:=I3.kept (t':=s3.toks) fun b ob q=>get?_push_of_some _ q;obtain⟨T,id,hT,ht,hg⟩:=hr zh { s3 with heap:=s3.heap.push { cls:=.type "slice",data:=.fields #[vl,vu,.none] } } σ H3 x v vl vu l u s3.heap.objs.size Q I4 r1 (Heap.IsSliceOf.new ..) pl pu q3;show wpAny (model X.prog X.w) X.A (subscriptTail e (.Slice lo hi none p2) v (.ref s3.heap.objs.size)) (EP X zh σ Q) X.xe { s3 with heap:=s3.heap.push { cls:=.type "slice",data:=.fields #[vl,vu,.none] } };exact tail_any (ops:=[.ref s3.heap.objs.size,v]) ht hT hg (by with_unfolding_all rfl)
def zjz(xs:List V)(lo hi:Option Int):List V:=(xs.drop (HT.sIx xs.length 0 lo)).take (HT.sIx xs.length xs.length hi - HT.sIx xs.length 0 lo)
theorem zdC(xs:List V)(lo hi:Option Int):(zjz xs lo hi).length<=xs.length:=by
 unfold zjz;rw [length_take,length_drop];omega
def zrK(K:W.Frag):V->Option Int->Option Int->Hp->VK->Prop:=fun x lo hi H Q=>∃ a xs,x=.ref a/\SqT K H a xs /\
 ¬ (HT.sIx xs.length 0 lo=0/\HT.sIx xs.length xs.length hi=xs.length)/\∀ p,H p=none->Q (.ref p) (upd H p (.tup (zjz xs lo hi)))
theorem zpM:SlR X (zrK X.K):=by
 intro zh s σ H x v vl vu lo hi sl Q I rx hs pl pu h;obtain⟨a,xs,rfl,hx,hw,q⟩:=h;cases rx;obtain⟨its,r,ht,hz⟩:=I.tuple hx;have hlen:its.toArray.size=xs.length:=by rw [size_toArray]; exact r.length.symm
 refine⟨"tuple",_,PyProof.Rows.slot_tuple_getitem.lookup,ht.typeIs,?_⟩;refine HT.getItem_tuple_cut ht hs pl pu (by rw [hlen]; exact hw) ?_ (by rw [hlen]; exact hz);rw [hlen];refine⟨.ref s.heap.objs.size,_,I.laid (t':=s.toks) (o:=.tup (zjz xs lo hi)) (fun b ob q=>get?_push_of_some _ q) (le_refl _) ?_,rfl,q _ (I.hok.fresh (le_refl _))⟩;exact⟨⟨le_trans (zdC xs lo hi) hz,_,get?_push_size _ rfl,rfl⟩,_,(r.drop (HT.sIx xs.length 0 lo)).take (HT.sIx xs.length xs.length hi - HT.sIx xs.length 0 lo),IsTup.new _ _⟩
def zn7(K:W.Frag):R2:=fun x y H Q=>∃ a b xs ys,x=.ref a/\y=.ref b/\SqT K H a xs/\SqT K H b ys/\xs≠[]/\xs.length+ys.length<=sizeLine /\
 (ys=[]->Q (.ref a) H)/\(ys≠[]->∀ p,H p=none->Q (.ref p) (upd H p (.tup (xs++ys))))
theorem Vals.nil_iff{xs:List V}{us:List Value}(r:Vals xs us):us=[]↔xs=[]:=by
 cases r with
 | nil=>simp
 | cons _ _=>simp
theorem zoO:OpR X (binaryOp .Add) (zn7 X.K):=by
 intro zh s σ H x y v u Q I rx ry h;obtain⟨a,b,xs,ys,rfl,rfl,ha,hb,hx,hz,q1,q2⟩:=h;cases rx;cases ry;obtain⟨its,r1,p1,_⟩:=I.tuple ha;obtain⟨its2,r2,p2,_⟩:=I.tuple hb;refine HT.cat_tup p1 p2 (fun z=>hx (r1.nil_iff.mp z)) (fun z=>⟨.ref a,H,I,rfl,q1 (r2.nil_iff.mp z)⟩) (fun z=>?_) (by rw [<- r1.length,<- r2.length]; exact hz);refine⟨.ref s.heap.objs.size,_,I.laid (t':=s.toks) (o:=.tup (xs++ys)) (fun b ob q=>get?_push_of_some _ q) (le_refl _) ?_,rfl,q2 (fun w=>z (r2.nil_iff.mpr w)) _ (I.hok.fresh (le_refl _))⟩;exact⟨⟨by rw [length_append]; exact hz,_,get?_push_size _ rfl,rfl⟩,_,r1.append r2,IsTup.new _ _⟩
end
end
section
def ixN(n:Nat)(i:Int):Option Nat:=if 0<=i then (if i<n then some i.toNat else none) else if -(n:Int)<=i then some (i+n).toNat else none
def atI{α:Type}(xs:List α)(i:Int):Option α:=(ixN xs.length i).bind fun j=>xs[j]?
theorem zlh{n:Nat}{i:Int}{j:Nat}(h:ixN n i=some j):seqIndex? i n=some j/\j<n/\-(n:Int)<=i/\i<n:=by
 unfold ixN at h;by_cases h0:0<=i
 ·rw [if_pos h0] at h;by_cases h1:i<n
  ·rw [if_pos h1] at h;have e:i.toNat=j:=Option.some.inj h;exact⟨by rw [seqIndex_of h0 h1,e],by omega,by omega,h1⟩
  ·rw [if_neg h1] at h; cases h
 ·rw [if_neg h0] at h;by_cases h1:-(n:Int)<=i
  ·rw [if_pos h1] at h;have e:(i+n).toNat=j:=Option.some.inj h;exact⟨by rw [seqIndex_neg (by omega) h1,e],by omega,h1,by omega⟩
  ·rw [if_neg h1] at h; cases h
theorem zhQ{α:Type}{xs:List α}{i:Int}{v:α}(h:atI xs i=some v):∃ j,seqIndex? i xs.length=some j/\xs[j]? = some v/\j<xs.length/\-(xs.length:Int)<=i/\i<xs.length:=by
 unfold atI at h;cases e:ixN xs.length i with
 | none=>rw [e] at h; cases h
 | some j =>
  rw [e] at h;obtain⟨h1,h2,h3,h4⟩:=zlh e;exact⟨j,h1,h,h2,h3,h4⟩
theorem zcB{α:Type}{xs:List α}{j:Nat}{v:α}(h:xs[j]? = some v):atI xs (j:Int)=some v:=by
 have hj:j<xs.length:=(List.getElem?_eq_some_iff.mp h).1;have e:ixN xs.length (j:Int)=some j:=by
  unfold ixN;rw [if_pos (by omega),if_pos (by omega)]; simp
 unfold atI; rw [e]; exact h
def PlainIx(b:Expr):Prop:=∀ o i,subscripted b false o i=operate [o,i] (getItem o i)
def IxR(X:Cx)(r:R2):Prop :=
 ∀ (value slice:Expr) (zh:List (Addr×Obj)) (s:Shared) (σ:St) (H:Hp) (x y:V) (v u:Value) (Q:VK),Inv X zh σ H s->RelV x v->RelV y u->r x y H Q ->
  subscripted slice false v u=operate [v,u] (getItem v u)->wpAny (model X.prog X.w) X.A (subscriptTail value slice v u) (EP X zh σ Q) X.xe s
def MtR(X:Cx)(id:String)(r:V->List V->Hp->VK->Prop):Prop :=
 ∀ (zh:List (Addr×Obj)) (s:Shared) (σ:St) (H:Hp) (x:V) (xs:List V) (v:Value) (us:List Value) (Q:VK),Inv X zh σ H s->RelV x v->Vals xs us->r x xs H Q ->
  wpAny (model X.prog X.w) X.A (call (.builtin id) (v :: us)) (EP X zh σ Q) X.xe s
section
variable {X:Cx} {a b:Expr} {ta tb:TE} {pos:Pos}
theorem IxR.or{r r':R2}(h:IxR X r)(h':IxR X r'):IxR X (fun x y H Q=>r x y H Q\/r' x y H Q):=by
 intro value slice zh s σ H x y v u Q I rx ry q hs;rcases q with q | q
 ·exact h value slice zh s σ H x y v u Q I rx ry q hs
 ·exact h' value slice zh s σ H x y v u Q I rx ry q hs
theorem zT{r:R2}(hr:IxR X r)(ha:PE X a ta)(hb:PE X b tb)(hs:PlainIx b):PE X (.Subscript a b pos) (tOp r ta tb):=by
 intro zh s σ H Q I h;exact Subscript_ (zrE ha hb I h fun v u s2 x y H2 I2 rx ry q=>hr a b zh s2 σ H2 x y v u Q I2 rx ry q (hs _ _))
def zrC(K:W.Frag):R2:=fun x y H Q=>∃ p xs i v,x=.ref p/\y=.int i/\SqL K H p xs/\atI xs i=some v/\Q v H
def zrt(K:W.Frag):R2:=fun x y H Q=>∃ p xs i v,x=.ref p/\y=.int i/\SqT K H p xs/\atI xs i=some v/\Q v H
def zrq:R2:=fun x y H Q=>∃ z i c,x=.str z/\y=.int i/\z.length<=sizeLine/\atI z.cps.toList i=some c/\Q (.str ⟨#[c]⟩) H
theorem zli:IxR X (zrC X.K):=by
 intro value slice zh s σ H x y v u Q I rx ry h hs;obtain⟨p,xs,i,z,rfl,rfl,hq,he,q⟩:=h;cases rx;obtain⟨t,rfl⟩:=ry;obtain⟨its,r,pl,hz⟩:=I.list hq;obtain⟨j,h1,h2,h3,h4,h5⟩:=zhQ he;obtain⟨w,ew,rw'⟩:=r.get h2;have hl:=r.length;have hn:=line63;have fin:EP X zh σ Q w s:=⟨z,H,I,rw',q⟩;by_cases h0:0<=i
 ·have hj:i.toNat=j:=by
   rw [seqIndex_of h0 h5] at h1;exact Option.some.inj h1
  exact item_listR pl.isList h0 (by omega) (by rw [hj]; simpa using ew) fin hs
 ·have hj:(i+(its.toArray.size:Int)).toNat=j:=by
   rw [seqIndex_neg (by omega) h4] at h1;rw [size_toArray,<- hl];exact Option.some.inj h1
  exact subscriptTail_builtinR (x:=w) pl.isList.typeIs slot_list_getitem.lookup
   (wpAny_getItem_list_neg (Q:=fun r s'=>r=w/\EP X zh σ Q r s') pl.isList (by omega) (by rw [size_toArray] <;> omega) (by omega) (by rw [hj]; simpa using ew) ⟨rfl,fin⟩) hs
theorem zpL:IxR X (zrt X.K):=by
 intro value slice zh s σ H x y v u Q I rx ry h hs;obtain⟨p,xs,i,z,rfl,rfl,hq,he,q⟩:=h;cases rx;obtain⟨t,rfl⟩:=ry;obtain⟨its,r,pl,hz⟩:=I.tuple hq;obtain⟨j,h1,h2,h3,h4,h5⟩:=zhQ he;obtain⟨w,ew,rw'⟩:=r.get h2;have hl:=r.length;have hn:=line63;have fin:EP X zh σ Q w s:=⟨z,H,I,rw',q⟩;exact subscriptTail_builtinR (x:=w) pl.typeIs slot_tuple_getitem.lookup
  (getItem_tuple (j:=j) (Q:=fun r s'=>r=w/\EP X zh σ Q r s') pl (by omega) (by omega) (by rw [size_toArray,<- hl]; exact h1) (by simpa using ew) ⟨rfl,fin⟩) hs
theorem zqK:IxR X zrq:=by
 intro value slice zh s σ H x y v u Q I rx ry h hs;obtain⟨z,i,c,rfl,rfl,hz,he,q⟩:=h;obtain⟨t,rfl⟩:=rx;obtain⟨t',rfl⟩:=ry;obtain⟨j,h1,h2,h3,h4,h5⟩:=zhQ he;have hl:z.cps.toList.length=z.length:=by simp [Str.length]
 rw [hl] at h1 h4 h5;have hn:=line63;exact tail_any (typeIs_str s z t) slot_str_getitem.lookup (getItem_str (c:=c) (by
  have e1:decide (i < -(2 ^ 63:Int))=false:=decide_eq_false (by omega);have e2:decide (i≥2 ^ 63)=false:=decide_eq_false (by omega);rw [e1,e2,Bool.or_false]) (by rw [h1]; simpa using h2) ⟨.str ⟨#[c]⟩,H,I.tok _,⟨_,rfl⟩,q⟩) hs
def rIx(K:W.Frag):R2:=fun x y H Q=>zrC K x y H Q\/zrt K x y H Q\/zrq x y H Q
theorem zB:IxR X (rIx X.K):=zli.or (zpL.or zqK)
theorem zjf(its:List Value)(n j:Nat)(u:Value):Obj.mapSeq (·.setIfInBounds j u) { cls:=.type "list",data:=.seq its.toArray n } = { cls:=.type "list",data:=.seq (its.set j u).toArray n }:=by
 simp [Obj.mapSeq]
theorem Inv.lst{zh:List (Addr×Obj)}{σ:St}{H:Hp}{s:Shared}{p:Addr}{xs:List V}(I:Inv X zh σ H s)(h:H p=some (.lst xs)):
  ∃ (its:List Value) (n:Nat),Vals xs its/\s.heap.get? p=some { cls:=.type "list",data:=.seq its.toArray n }/\xs.length<=sizeLine:=by
 obtain⟨z,its,n,r,e⟩:=I.hok p _ h;exact⟨its,n,r,e,z⟩
theorem Inv.lstUpd{zh:List (Addr×Obj)}{σ:St}{H:Hp}{s:Shared}{p:Addr}{xs ys:List V}{its its':List Value}{n n':Nat}{f:Obj->Obj}(I:Inv X zh σ H s)(h:H p=some (.lst xs))
  (ho:s.heap.get? p=some { cls:=.type "list",data:=.seq its.toArray n }) (hf:f { cls:=.type "list",data:=.seq its.toArray n } = { cls:=.type "list",data:=.seq its'.toArray n' }) (r:Vals ys its') (hz:ys.length<=sizeLine) (t:Nat) :
  Inv X zh σ (upd H p (.lst ys)) { s with heap:=s.heap.update p f,toks:=t }:=by
 have e:(s.heap.update p f).get? p=some { cls:=.type "list",data:=.seq its'.toArray n' }:=by
  rw [get?_update_self f ho (by rw [hf] <;> rfl),hf]
 refine I.write (x:=p) (e:=p) (by rw [h]; trivial) (.inl rfl) (fun b u hb q=>(get?_update_other _ _ (Ne.symm hb)).trans q) ⟨_,e⟩ ?_;exact⟨hz,its',n',r,e⟩
def zql:V->V->V->Hp->(Hp->Prop)->Prop:=fun o i v H Q=>∃ p xs k j,o=.ref p/\i=.int k/\H p=some (.lst xs)/\ixN xs.length k=some j/\Q (upd H p (.lst (xs.set j v)))
theorem zgy:PSet X zql:=by
 intro zh s σ H o i v ov iv u Q I ro ri rv h;obtain⟨p,xs,k,j,rfl,rfl,hp,hj,q⟩:=h;cases ro;obtain⟨t,rfl⟩:=ri;obtain⟨its,n,r,ho,hz⟩:=I.lst hp;obtain⟨h1,h2,h3,h4⟩:=zlh hj;have hl:=r.length;have hn:=line63;have I':Inv X zh σ (upd H p (.lst (xs.set j v))) { s with heap:=s.heap.update p (Obj.mapSeq (·.setIfInBounds j u)) } :=
  I.lstUpd hp ho (zjf its n j u) (r.set rv j) (by rw [length_set]; exact hz) s.toks
 by_cases h0:0<=k
 ·have hk:k.toNat=j:=by
   rw [seqIndex_of h0 h4] at h1;exact Option.some.inj h1
  exact W.ki_setAt ho h0 (by omega) (by rw [size_toArray,<- hl]; exact h4) (by rw [hk]; exact⟨_,I',q⟩)
 ·have hk:(k+(its.toArray.size:Int)).toNat=j:=by
   rw [seqIndex_neg (by omega) h3] at h1;rw [size_toArray,<- hl];exact Option.some.inj h1
  exact W.ki_setBack ho (by omega) (by rw [size_toArray,<- hl]; exact h3) (by omega) (by rw [hk]; exact⟨_,I',q⟩)
theorem zhf(lo hi:Option Int)(n:Nat):(sliceBounds lo hi none n).1=((HT.sIx n 0 lo:Nat):Int)/\(sliceBounds lo hi none n).2.1=((HT.sIx n n hi:Nat):Int)/\(sliceBounds lo hi none n).2.2=1:=by
 refine⟨?_,?_,rfl⟩
 ·cases lo with
  | none=>simp [sliceBounds,HT.sIx]
  | some i =>
   simp only [sliceBounds,HT.sIx,Option.getD_none,show (1:Int)>0 by decide,if_true];by_cases h:i<0
   ·simp only [h,if_true] <;> omega
   ·simp only [h,if_false] <;> omega
 ·cases hi with
  | none=>simp [sliceBounds,HT.sIx]
  | some i =>
   simp only [sliceBounds,HT.sIx,Option.getD_none,show (1:Int)>0 by decide,if_true];by_cases h:i<0
   ·simp only [h,if_true] <;> omega
   ·simp only [h,if_false] <;> omega
theorem zgB(its:List Value)(lo hi:Option Int):slicePick its.toArray lo hi none=((its.drop (HT.sIx its.length 0 lo)).take (HT.sIx its.length its.length hi - HT.sIx its.length 0 lo)).toArray:=by
 obtain⟨h1,h2,h3⟩:=zhf lo hi its.toArray.size;unfold slicePick;rw [h1,h2,h3];simp only [sliceRange_one,pick_run,size_toArray] <;> rfl
def zqk(K:W.Frag):V->Option Int->Option Int->Hp->VK->Prop:=fun x lo hi H Q=>∃ a xs,x=.ref a/\SqL K H a xs/\∀ p,H p=none->Q (.ref p) (upd H p (.lst (zjz xs lo hi)))
theorem zlz:SlR X (zqk X.K):=by
 intro zh s σ H x v vl vu lo hi sl Q I rx hs pl pu h;obtain⟨a,xs,rfl,hx,q⟩:=h;cases rx;obtain⟨its,r,ht,hz⟩:=I.list hx;have hlen:=r.length;refine⟨"list",_,slot_list_getitem.lookup,ht.isList.typeIs,?_⟩;refine wpAny_getItem_list_slice ht.isList hs pl pu .none (by simp) ?_ (by rw [size_toArray] <;> omega);rw [zgB,<- hlen];refine⟨.ref s.heap.objs.size,_,I.laid (t':=s.toks) (o:=.lst (zjz xs lo hi)) (fun b ob q=>get?_push_of_some _ q) (le_refl _) ?_,rfl,q _ (I.hok.fresh (le_refl _))⟩;exact⟨le_trans (zdC xs lo hi) hz,_,0,(r.drop (HT.sIx xs.length 0 lo)).take (HT.sIx xs.length xs.length hi - HT.sIx xs.length 0 lo),get?_push_size _ rfl⟩
theorem zez:CallR X (.builtin "len") (fun xs H Q=>∃ p ys,xs=[.ref p]/\(SqL X.K H p ys\/SqT X.K H p ys)/\Q (.int ys.length) H):=by
 intro zh s σ H xs us Q I r h;obtain⟨p,ys,rfl,hq,q⟩:=h;obtain⟨u,rfl,rx⟩:=vals1 r;cases rx;have hn:=line63;rcases hq with hq | hq
 ·obtain⟨its,r',pl,hz⟩:=I.list hq;have hlen:=r'.length;exact Calls.call_len_list pl.isList (by simp only [size_toArray] <;> omega) ⟨.int ys.length,H,I.tok _,⟨s.toks+1,by rw [size_toArray,hlen]⟩,q⟩
 ·obtain⟨its,r',pl,hz⟩:=I.tuple hq;have hlen:=r'.length;exact len_tuple pl (by simp only [size_toArray] <;> omega) ⟨.int ys.length,H,I.tok _,⟨s.toks+1,by rw [size_toArray,hlen]⟩,q⟩
theorem zg0:CallR X (.builtin "len") (fun xs H Q=>∃ z,xs=[.str z]/\z.length<=sizeLine/\Q (.int z.length) H):=by
 intro zh s σ H xs us Q I r h;obtain⟨z,rfl,hz,q⟩:=h;obtain⟨u,rfl,t,rfl⟩:=vals1 r;have hn:=line63;exact len_str (by omega) ⟨.int z.length,H,I.tok _,⟨_,rfl⟩,q⟩
theorem CallR.or{f:Value}{r r':List V->Hp->VK->Prop}(h:CallR X f r)(h':CallR X f r'):CallR X f (fun xs H Q=>r xs H Q\/r' xs H Q):=by
 intro zh s σ H xs us Q I rs q;rcases q with q | q
 ·exact h zh s σ H xs us Q I rs q
 ·exact h' zh s σ H xs us Q I rs q
theorem zg1:CallR X (.type "list") (fun xs H Q=>∃ p ys,xs=[.ref p]/\(SqL X.K H p ys\/SqT X.K H p ys)/\∀ l,H l=none->Q (.ref l) (upd H l (.lst ys))):=by
 intro zh s σ H xs us Q I r h;obtain⟨p,ys,rfl,hq,q⟩:=h;obtain⟨u,rfl,rx⟩:=vals1 r;cases rx;have fin:∀ (its:List Value),Vals ys its->ys.length<=sizeLine->∀ (h':Heap) (c':Nat),(∀ b o',s.heap.get? b=some o'->h'.get? b=some o') ->
   h'.get? s.heap.objs.size=some { cls:=.type "list",dict:=none,data:=.seq its.toArray c',slots:=#[] }->EP X zh σ Q (.ref s.heap.objs.size) { s with heap:=h' }:=fun its r' hz h' c' kp e =>
  ⟨.ref s.heap.objs.size,_,I.laid (t':=s.toks) kp (le_refl _) (show ObjOk X.prog X.w _ h' _ (.lst ys) from⟨hz,its,c',r',e⟩),rfl,q _ (I.hok.fresh (le_refl _))⟩
 rcases hq with hq | hq
 ·obtain⟨its,r',pl,hz⟩:=I.list hq;have hlen:=r'.length;obtain⟨o,ho,hc,n,hd⟩:=pl.isList;exact call_list_seq p (.inl rfl) ho hc hd (fun h' c' kp e=>fin its r' hz h' c' kp e) (by simp only [size_toArray] <;> omega)
 ·obtain⟨its,r',pl,hz⟩:=I.tuple hq;have hlen:=r'.length;obtain⟨o,ho,hc,n,hd⟩:=pl;exact call_list_seq p (.inr rfl) ho hc hd (fun h' c' kp e=>fin its r' hz h' c' kp e) (by simp only [size_toArray] <;> omega)
theorem zbA:CallR X (.type "tuple") (fun xs H Q=>∃ p ys,xs=[.ref p]/\((SqL X.K H p ys/\∀ l,H l=none->Q (.ref l) (upd H l (.tup ys)))\/(SqT X.K H p ys/\Q (.ref p) H))):=by
 intro zh s σ H xs us Q I r h;obtain⟨p,ys,rfl,h⟩:=h;obtain⟨u,rfl,rx⟩:=vals1 r;cases rx;rcases h with ⟨hq,q⟩ | ⟨hq,q⟩
 ·obtain⟨its,r',pl,hz⟩:=I.list hq;have hlen:=r'.length;refine call_tuple_list pl.isList (fun h' kp=>?_) (by simp only [size_toArray] <;> omega);have I1:Inv X zh σ H { s with heap:=h' }:=I.kept (t':=s.toks) kp;have I2:Inv X zh σ (upd H h'.objs.size (.tup ys)) { s with heap:=h'.push { cls:=.type "tuple",data:=.seq its.toArray } } :=
   I1.laid (t':=s.toks) (fun b o e=>get?_push_of_some _ e) (le_refl _) (show ObjOk X.prog X.w _ _ _ (.tup ys) from⟨⟨hz,_,get?_push_size _ rfl,rfl⟩,its,r',IsTup.new _ _⟩)
  exact⟨.ref h'.objs.size,_,I2,rfl,q _ (I1.hok.fresh (le_refl _))⟩
 ·obtain⟨its,r',pl,hz⟩:=I.tuple hq;exact call_tuple_same pl ⟨.ref p,H,I,rfl,q⟩
def tyV(K:W.Frag)(T:String)(x:V)(H:Hp):Prop:=match x with
 | .str _=>T = "str"
 | .int _=>T = "int"
 | .ref p=>(T = "list"/\∃ xs,SqL K H p xs)\/(T = "tuple"/\∃ o,K.lookup p=some o/\o.cls=.type "tuple"/\o.dict=none) \/
   (T = "dict"/\((∃ kvs,H p=some (.dK kvs))\/∃ kvs,H p=some (.dT kvs)))\/(T = "set"/\∃ S n,H p=some (.set S n))
 | _=>False
theorem znL{zh:List (Addr×Obj)}{σ:St}{H:Hp}{s:Shared}{T:String}{x:V}{v:Value}(I:Inv X zh σ H s)(r:RelV x v)(ty:tyV X.K T x H):
  s.TypeIs v T/\∀ a,v=.ref a->∃ ob,s.heap.get? a=some ob/\ob.dict=none:=by
 cases x with
 | str z =>
  obtain⟨t,rfl⟩:=r;cases (show T = "str" from ty);exact⟨typeIs_str s z t,fun _ e=>nomatch e⟩
 | int i =>
  obtain⟨t,rfl⟩:=r;cases (show T = "int" from ty);exact⟨typeIs_int s i t,fun _ e=>nomatch e⟩
 | ref p =>
  cases r;rcases ty with ⟨rfl,xs,hq⟩ | ⟨rfl,o,hk,hc,hd⟩ | ⟨rfl,hk⟩ | ⟨rfl,S,n,hk⟩
  ·obtain⟨its,_,pl,_⟩:=I.list hq;refine⟨pl.isList.typeIs,fun a e=>?_⟩;cases e;obtain⟨o,n,e,c,hd,_⟩:=pl;exact⟨o,e,hd⟩
  ·refine⟨⟨o,I.kIn p o hk,hc⟩,fun a e=>?_⟩;cases e;exact⟨o,I.kIn _ o hk,hd⟩
  ·have z:∃ o,s.heap.get? p=some o/\o.ExactDict:=by
    rcases hk with ⟨kvs,hk⟩ | ⟨kvs,hk⟩
    ·obtain⟨_,_,_,_,o,_,_,e,ex,_⟩:=I.hok p _ hk;exact⟨o,e,ex⟩
    ·obtain⟨_,_,_,_,o,_,_,e,ex,_⟩:=I.hok p _ hk;exact⟨o,e,ex⟩
   obtain⟨o,e,ex⟩:=z;refine⟨⟨o,e,ex.1⟩,fun a e2=>?_⟩;cases e2;exact⟨o,e,ex.2.1⟩
  ·obtain⟨o,_,_,_,e,ex,_⟩:=I.hok p _ hk;refine⟨⟨o,e,ex.1⟩,fun a e2=>?_⟩;cases e2;exact⟨o,e,ex.2.1⟩
 | _=>exact False.elim ty
def zr9(K:W.Frag)(T:String)(r:V->List V->Hp->VK->Prop)(to:TE):TE:=fun σ H Q=>to σ H fun x H1=>tyV K T x H1/\r x [] H1 Q
def tBM(K:W.Frag)(T:String)(r:V->List V->Hp->VK->Prop)(to:TE)(t:TA):TE:=fun σ H Q=>to σ H fun x H1=>tyV K T x H1/\t σ H1 fun xs H2=>r x xs H2 Q
variable {o e:Expr} {es:List Expr} {to:TE} {t:TA} {name:Str} {apos cpos:Pos} {T id:String} {r:V->List V->Hp->VK->Prop}
theorem zqZ(pa:PlainAttrs T)(slot:Slot T name id)(hty:typeOf (.builtin id)=pure (.type "method_descriptor"))(hm:MtR X id r)(ho:PE X o to)
  (hbase:attributeBase o name X.env (eval o X.env)=eval o X.env:=by rfl) (hline:(apos.endLine == cpos.line)=true:=by rfl):PE X (.Call (.Attribute o name apos) [] [] cpos) (zr9 X.K T r to):=by
 intro zh s σ H Q I h;refine wpAny_Call_method0_late hbase hline (thn (ho zh s σ H _ I h) fun v s1 ⟨x,H1,I1,r1,ty,q1⟩=>?_);obtain⟨h1,h2⟩:=znL I1 r1 ty;exact⟨T,id,pa,slot,hty,h1,h2,Calls.callWith_builtin rfl (PySem.evalArgs_none (hm zh s1 σ H1 x [] v [] Q I1 r1 .nil q1))⟩
theorem zdF(pa:PlainAttrs T)(slot:Slot T name id)(hty:typeOf (.builtin id)=pure (.type "method_descriptor"))(hm:MtR X id r)(ho:PE X o to)(ha:PA X (e :: es) t)
  (hbase:attributeBase o name X.env (eval o X.env)=eval o X.env:=by rfl)
  (hfew:((backTo cpos (starEach (e :: es) X.env)).all (fun x=>!x.1) && (backToKw cpos (keywordEach [] X.env)).all (fun x=>x.1.isSome)
   && decide ((e :: es).length+([]:List Keyword).length+(if ([]:List Keyword).isEmpty then 0 else 1)<30))=true:=by rfl)
  (hline:(apos.endLine == cpos.line)=true:=by rfl) (hs:starEach (e :: es) X.env=(false,eval e X.env) :: starEach es X.env:=by rfl) (hplain:(backTo cpos (starEach es X.env)).any (·.1)=false:=by rfl) :
  PE X (.Call (.Attribute o name apos) (e :: es) [] cpos) (tBM X.K T r to t):=by
 intro zh s σ H Q I h;refine wpAny_Call_method_late hbase hfew hline rfl (thn (ho zh s σ H _ I h) fun v s1 ⟨x,H1,I1,r1,ty,q1⟩=>?_);obtain⟨h1,h2⟩:=znL I1 r1 ty;refine⟨T,id,pa,slot,hty,h1,h2,?_⟩;have hA:=ha cpos zh s1 σ H1 _ I1 q1;rw [hs] at hA ⊢;refine Calls.callWith_builtin (by show (false || (backTo cpos (starEach es X.env)).any (·.1))=false; rw [hplain] <;> rfl) (Calls.evalArgs_plain ?_);exact thn hA fun us s2 ⟨vs,H2,I2,r2,q2⟩=>hm zh s2 σ H2 x vs v us Q I2 r1 r2 q2
end
end
section
def MtM(X:Cx)(id:String)(r:V->List V->Hp->VK->Prop):Prop :=
 ∀ (zh:List (Addr×Obj)) (s:Shared) (σ:St) (H:Hp) (x:V) (xs:List V) (v:Value) (us:List Value) (Q:VK),Inv X zh σ H s->RelV x v->Vals xs us->r x xs H Q ->
  wpAny (model X.prog X.w) X.A (call (.builtin id) (v :: us)) (EP X zh σ Q) X.xe s
theorem Vals.one:∀ {x:V} {us:List Value},Vals [x] us->∃ u,us=[u]/\RelV x u
 | _,_,.cons r .nil=>⟨_,rfl,r⟩
theorem Vals.zero:∀ {us:List Value},Vals [] us->us=[]
 | _,.nil=>rfl
theorem Vals.reverse{xs:List V}{us:List Value}(h:Vals xs us):Vals xs.reverse us.reverse:=by
 induction h with
 | nil=>exact .nil
 | cons r t ih=>rw [reverse_cons,reverse_cons]; exact Vals.append ih (.cons r .nil)
theorem Vals.rep{xs:List V}{us:List Value}(h:Vals xs us):∀ k:Nat,Vals (List.replicate k xs).flatten (List.replicate k us).flatten
 | 0=>.nil
 | k+1=>by
  rw [replicate_succ,replicate_succ,flatten_cons,flatten_cons];exact Vals.append h (Vals.rep h k)
theorem zhz(its:List Value):∀ (k:Nat) (acc:List Value),
  List.foldl (fun x1 x2=>x1++x2) acc.toArray (List.replicate k its.toArray)=(acc++(List.replicate k its).flatten).toArray
 | 0,acc=>by simp
 | k+1,acc=>by
  have e:acc.toArray++its.toArray=(acc++its).toArray:=by simp
  have e2:(acc++its)++(List.replicate k its).flatten=acc++(List.replicate (k+1) its).flatten:=by
   rw [replicate_succ,flatten_cons,append_assoc]
  rw [<- e2,<- zhz its k (acc++its),<- e,replicate_succ,foldl_cons]
section
variable {X:Cx} {zh:List (Addr×Obj)} {σ:St} {H:Hp} {s:Shared} {l b:Addr} {xs ys zs:List V}
theorem Inv.lset{its its':List Value}{n:Nat}{f:Array Value->Array Value}{t':Nat}(I:Inv X zh σ H s)(hH:H l=some (.lst xs))
  (e:s.heap.get? l=some { cls:=.type "list",data:=.seq its.toArray n }) (hf:f its.toArray=its'.toArray) (hv:Vals ys its') (hz:ys.length<=sizeLine) :
  Inv X zh σ (upd H l (.lst ys)) { s with heap:=s.heap.update l (Obj.mapSeq f),toks:=t' }:=by
 have q:=PySem.IsL.update e f;rw [hf] at q;refine I.write (x:=l) (e:=l) (by rw [hH]; exact trivial) (.inl rfl) (fun b' u hb hu=>(get?_update_other s.heap (Obj.mapSeq f) (Ne.symm hb)).trans hu) ⟨_,q⟩ ?_;exact⟨hz,its',_,hv,q⟩
theorem Inv.lnew{its:List Value}{t':Nat}(I:Inv X zh σ H s)(hv:Vals ys its)(hz:ys.length<=sizeLine):
  Inv X zh σ (upd H s.heap.objs.size (.lst ys)) { s with heap:=s.heap.push { cls:=.type "list",data:=.seq its.toArray },toks:=t' } :=
 I.laid (fun _ _ q=>get?_push_of_some _ q) (le_refl _) ⟨hz,its,0,hv,get?_push_size _ rfl⟩
theorem Inv.fresh(I:Inv X zh σ H s):H s.heap.objs.size=none:=I.hok.fresh (le_refl _)
theorem Inv.lstM(I:Inv X zh σ H s)(hH:H l=some (.lst xs)):xs.length<=sizeLine/\∃ (its:List Value) (n:Nat),Vals xs its/\xs.length=its.length/\s.heap.get? l=some { cls:=.type "list",data:=.seq its.toArray n }:=by
 obtain⟨z,its,n,r,e⟩:=I.hok l _ hH;exact⟨z,its,n,r,r.length,e⟩
theorem ziI{n:Nat}(h:n<=sizeLine):Builtin.List.listTooLong n=false:=by
 unfold Builtin.List.listTooLong;exact decide_eq_false (by omega)
end
section
variable {X:Cx}
def zkL:V->List V->Hp->VK->Prop:=fun x vs H Q=>∃ l xs y,x=.ref l/\vs=[y]/\H l=some (.lst xs)/\xs.length<sizeLine/\Q .non (upd H l (.lst (xs++[y])))
theorem zcZ:MtM X "list.append" zkL:=by
 intro zh s σ H x vs v us Q I rx rv h;obtain⟨l,xs,y,rfl,rfl,hH,hz,q⟩:=h;cases rx;obtain⟨u,rfl,ru⟩:=rv.one;obtain⟨z,its,n,r,hl,e⟩:=I.lstM hH;refine call_meets F.slot_list_append ⟨_,e,rfl⟩ F.entry_list_append (F.args_list_append_2 _ _) (PySem.list_append l its.toArray n u (by rw [size_toArray]; omega)) ⟨e,?_⟩;refine⟨.non,_,I.lset (its':=its++[u]) hH e (by simp) (r.append (.cons ru .nil)) ?_,rfl,q⟩;rw [length_append,length_singleton];omega
def zkY:V->List V->Hp->VK->Prop:=fun x vs H Q=>∃ l b xs zs,x=.ref l/\vs=[.ref b]/\H l=some (.lst xs)/\H b=some (.lst zs)/\xs.length+zs.length<=sizeLine/\Q .non (upd H l (.lst (xs++zs)))
theorem zhv:MtM X "list.extend" zkY:=by
 intro zh s σ H x vs v us Q I rx rv h;obtain⟨l,b,xs,zs,rfl,rfl,hH,hB,hz,q⟩:=h;cases rx;obtain⟨u,rfl,ru⟩:=rv.one;cases ru;obtain⟨z,its,n,r,hl,e⟩:=I.lstM hH;obtain⟨z2,its2,n2,r2,hl2,e2⟩:=I.lstM hB;have hsz:its.toArray.size+its2.toArray.size<=sizeLine:=by rw [size_toArray,size_toArray]; omega
 have hlong:¬ (!its.toArray.isEmpty && Builtin.List.listTooLong (its.toArray.size+its2.toArray.size))=true:=by
  rw [ziI hsz,Bool.and_false];exact Bool.false_ne_true
 refine call_meets F.slot_list_extend ⟨_,e,rfl⟩ F.entry_list_extend (F.args_list_extend_2 _ _)
  (AutoSeq1.list_extend_list_list_0 l its.toArray n b its2.toArray n2 hlong (by rw [size_toArray]; omega) (by omega)) ⟨e,e2,?_⟩
 refine⟨.non,_,I.lset (its':=its++its2) hH e (by simp) (r.append r2) ?_,rfl,q⟩;rw [length_append];omega
def ziJ:V->List V->Hp->VK->Prop:=fun x vs H Q=>∃ l xs,x=.ref l/\vs=[]/\H l=some (.lst xs)/\Q .non (upd H l (.lst xs.reverse))
theorem zi5:MtM X "list.reverse" ziJ:=by
 intro zh s σ H x vs v us Q I rx rv h;obtain⟨l,xs,rfl,rfl,hH,q⟩:=h;cases rx;have hus:=rv.zero;subst hus;obtain⟨z,its,n,r,hl,e⟩:=I.lstM hH;refine call_meets F.slot_list_reverse ⟨_,e,rfl⟩ F.entry_list_reverse (F.args_list_reverse_1 _) (AutoSeq1.list_reverse_list_0 l its.toArray n (by rw [size_toArray]; omega)) ⟨e,?_⟩;refine⟨.non,_,I.lset (its':=its.reverse) hH e (by simp) r.reverse ?_,rfl,q⟩;rw [List.length_reverse];omega
def zo5:R2:=fun x y H Q=>∃ l b xs zs,x=.ref l/\y=.ref b/\H l=some (.lst xs)/\H b=some (.lst zs)/\xs.length+zs.length<=sizeLine/\∀ p,H p=none->Q (.ref p) (upd H p (.lst (xs++zs)))
theorem zlm:OpR X (binaryOp .Add) zo5:=by
 intro zh s σ H x y v u Q I rx ry h;obtain⟨l,b,xs,zs,rfl,rfl,hH,hB,hz,q⟩:=h;cases rx;cases ry;obtain⟨z,its,n,r,hl,e⟩:=I.lstM hH;obtain⟨z2,its2,n2,r2,hl2,e2⟩:=I.lstM hB;refine PySem.P.add_list e e2 ?_ (by rw [size_toArray,size_toArray]; omega);have ea:its.toArray++its2.toArray=(its++its2).toArray:=by simp
 rw [ea];exact⟨.ref _,_,I.lnew (t':=s.toks) (r.append r2) (by rw [length_append]; omega),rfl,q _ I.fresh⟩
def zsl:R2:=fun x y H Q=>∃ l k xs,x=.ref l/\y=.int k/\H l=some (.lst xs)/\-(2 ^ 63)<=k/\k<2 ^ 63/\xs.length*k.toNat<=sizeLine /\
 ∀ p,H p=none->Q (.ref p) (upd H p (.lst (List.replicate k.toNat xs).flatten))
theorem zof{α:Type}(xs:List α)(k:Nat):(List.replicate k xs).flatten.length=k*xs.length:=by
 induction k with
 | zero=>simp
 | succ k ih=>rw [replicate_succ,flatten_cons,length_append,ih,Nat.succ_mul,Nat.add_comm]
theorem zqo:OpR X (binaryOp .Mult) zsl:=by
 intro zh s σ H x y v u Q I rx ry h;obtain⟨l,k,xs,rfl,rfl,hH,h1,h2,hz,q⟩:=h;cases rx;obtain⟨t,rfl⟩:=ry;obtain⟨z,its,n,r,hl,e⟩:=I.lstM hH;have hlen:its.toArray.size*k.toNat<=sizeLine:=by rw [size_toArray,<- hl]; exact hz
 have hcap:¬ its.toArray.size*k.toNat>(2 ^ 63 - 1) / 8:=by
  have:(sizeLine:Nat)<=(2 ^ 63 - 1) / 8:=by decide
  omega
 have hfit:¬ (!Builtin.List.listFitsIndex k)=true:=by
  rw [fitsIndex_both h1 h2];exact Bool.false_ne_true
 have hlong:¬ Builtin.List.listTooLong (its.toArray.size*k.toNat)=true:=by
  rw [ziI hlen];exact Bool.false_ne_true
 have hnew:List.foldl (fun x1 x2=>x1++x2) #[] (List.replicate (if its.toArray.isEmpty=true then 0 else k.toNat) its.toArray)=(List.replicate k.toNat its).flatten.toArray:=by
  have f0:∀ m:Nat,List.foldl (fun x1 x2=>x1++x2) #[] (List.replicate m its.toArray)=(List.replicate m its).flatten.toArray:=fun m=>by
   have:=zhz its m [];rw [nil_append] at this;exact this
  rw [f0];cases its with
  | nil=>simp
  | cons a r'=>rw [if_neg (by simp)]
 refine wpAny_binaryOp_repeat_ref (T:="list") (U:="int") dz ⟨_,e,rfl⟩ (fun s'=>typeIs_int s' k t) noFill_list_mul F.fills_int_mul F.slot_int_rmul repeat_list F.slot_int_index.lookup
  (call_meets F.slot_int_rmul (typeIs_int s k t) F.entry_int_rmul (F.args_int_rmul_2 _ _) (int___rmul___int_list k t l its.toArray n)
   ⟨e,rfl,⟨_,e,rfl⟩,call_meets F.slot_list_mul ⟨_,e,rfl⟩ F.entry_list_mul (F.args_list_mul_2 _ _) (AutoListH.list___mul___list_int_3 l its.toArray n k t hfit hcap hlong) ⟨e,?_⟩⟩)
 rw [hnew];exact⟨.ref _,_,I.lnew (t':=s.toks) (r.rep k.toNat) (by rw [zof,Nat.mul_comm]; exact hz),rfl,q _ I.fresh⟩
end
end
section
section
variable {κ:Type} [DecidableEq κ]
def zjR(kvs:List (κ×V))(k:κ):Option V:=(kvs.find? fun kv=>decide (kv.1=k)).map (·.2)
def zhM(kvs:List (κ×V))(k:κ)(v:V):List (κ×V) :=
 if (kvs.any fun kv=>decide (kv.1=k))=true then kvs.map (fun kv=>if kv.1=k then (kv.1,v) else kv) else kvs++[(k,v)]
theorem zeO{p:κ×V}{r:List (κ×V)}{k:κ}(e:p.1=k):zjR (p :: r) k=some p.2:=by simp [zjR,find?_cons,e]
theorem zeZ{p:κ×V}{r:List (κ×V)}{k:κ}(e:¬ p.1=k):zjR (p :: r) k=zjR r k:=by simp [zjR,find?_cons,e]
theorem ziy(k:κ):∀ kvs:List (κ×V),(kvs.any fun kv=>decide (kv.1=k))=(zjR kvs k).isSome
 | []=>rfl
 | p :: r=>by
  rw [any_cons];by_cases e:p.1=k
  ·simp only [zeO e,decide_eq_true e,Bool.true_or,Option.isSome_some]
  ·rw [zeZ e,decide_eq_false e,Bool.false_or]; exact ziy k r
theorem zfd(kvs:List (κ×V))(k:κ)(v:V):(zhM kvs k v).length<=kvs.length+1:=by
 unfold zhM;split
 ·rw [length_map]; omega
 ·rw [length_append,length_cons,length_nil]; omega
theorem RelO.isSome_eq{o:Option V}{u:Option Value}(r:RelO o u):o.isSome=u.isSome:=by
 cases o with
 | none=>cases u with
  | none=>rfl
  | some _=>exact(show False from r).elim
 | some _=>cases u with
  | none=>exact(show False from r).elim
  | some _=>rfl
theorem KV.val{kvs:List (κ×V)}{vs:List (κ×Value)}(r:KV kvs vs)(k:κ):RelO (zjR kvs k) (valueAt vs k):=by
 unfold KV at r;induction r with
 | nil=>exact True.intro
 | @cons p q ps qs h t ih =>
  obtain⟨h1,h2⟩:=h;by_cases e:p.1=k
  ·have e':q.1=k:=h1.symm.trans e;have b:valueAt (q :: qs) k=some q.2:=by simp [valueAt,find?_cons,e']
   rw [zeO e,b]; exact h2
  ·have e':¬ q.1=k:=fun z=>e (h1.trans z);have b:valueAt (q :: qs) k=valueAt qs k:=by simp [valueAt,find?_cons,e']
   rw [zeZ e,b]; exact ih
theorem KV.any{kvs:List (κ×V)}{vs:List (κ×Value)}(r:KV kvs vs)(k:κ):(kvs.any fun kv=>decide (kv.1=k))=vs.any fun kv=>decide (kv.1=k):=by
 unfold KV at r;induction r with
 | nil=>rfl
 | cons h t ih=>rw [any_cons,any_cons,ih,h.1]
theorem KV.repl{kvs:List (κ×V)}{vs:List (κ×Value)}(r:KV kvs vs)(k:κ){y:V}{u:Value}(ry:RelV y u):
  KV (kvs.map fun kv=>if kv.1=k then (kv.1,y) else kv) (vs.map fun kv=>if kv.1=k then (kv.1,u) else kv):=by
 unfold KV at r ⊢;induction r with
 | nil=>exact .nil
 | @cons p q ps qs h t ih =>
  rw [map_cons,map_cons];refine .cons ?_ ih;obtain⟨h1,h2⟩:=h;by_cases e:p.1=k
  ·rw [if_pos e,if_pos (h1.symm.trans e)]; exact⟨h1,ry⟩
  ·rw [if_neg e,if_neg (fun z=>e (h1.trans z))]; exact⟨h1,h2⟩
theorem KV.put{kvs:List (κ×V)}{vs:List (κ×Value)}(r:KV kvs vs)(k:κ){y:V}{u:Value}(ry:RelV y u):KV (zhM kvs k y) (stored vs k u):=by
 unfold zhM stored;rw [r.any k];by_cases e:(vs.any fun kv=>decide (kv.1=k))=true
 ·rw [if_pos e,if_pos e]; exact r.repl k ry
 ·rw [if_neg e,if_neg e]; exact Paired.snoc r ⟨rfl,ry⟩
theorem KV.length{kvs:List (κ×V)}{vs:List (κ×Value)}(r:KV kvs vs):kvs.length=vs.length:=Paired.length r
end
theorem zoG{P:Program}{w:World}{k:Key}{u:Value}(r:RelV (kV k) u):(za7 P w).is k u=true:=by
 cases k with
 | inl i=>obtain⟨t,e⟩:=(show ∃ t,u=Value.int i t from r); subst e; exact zh2 P w i t
 | inr x=>obtain⟨t,e⟩:=(show ∃ t,u=Value.str x t from r); subst e; exact zh4 P w x t
theorem zgX{P:Program}{w:World}:∀ {ks:List Key} {us:List Value},Vals (ks.map kV) us->ItemsAre (za7 P w) ks us
 | [],_,r=>by rw [map_nil] at r; cases r; exact .nil
 | k :: ks,_,r=>by
  rw [map_cons] at r;cases r with
  | cons h t=>exact .cons (zoG h) (zgX t)
abbrev KT (H:Hp):List (List Key×V)->List (List Key×Addr×Value)->Prop:=Paired fun p q=>p.1=q.1/\H q.2.1=some (.tup (p.1.map kV))/\RelV p.2 q.2.2
theorem KT.val{H:Hp}{kvs:List (List Key×V)}{xs:List (List Key×Addr×Value)}(r:KT H kvs xs)(k:List Key):RelO (zjR kvs k) ((atKey xs k).map (·.2)):=by
 induction r with
 | nil=>exact True.intro
 | @cons p q ps qs h t ih =>
  obtain⟨h1,_,h2⟩:=h;by_cases e:p.1=k
  ·have e':q.1=k:=h1.symm.trans e;have b:atKey (q :: qs) k=some q.2:=by simp [atKey,find?_cons,e']
   rw [zeO e,b]; exact h2
  ·have e':¬ q.1=k:=fun z=>e (h1.trans z);have b:atKey (q :: qs) k=atKey qs k:=by simp [atKey,find?_cons,e']
   rw [zeZ e,b]; exact ih
theorem KT.repl{H:Hp}{kvs:List (List Key×V)}{xs:List (List Key×Addr×Value)}(r:KT H kvs xs)(k:List Key){y:V}{u:Value}(ry:RelV y u):
  KT H (kvs.map fun kv=>if kv.1=k then (kv.1,y) else kv) (xs.map (putAt k u)):=by
 induction r with
 | nil=>exact .nil
 | @cons p q ps qs h t ih =>
  rw [map_cons,map_cons];refine .cons ?_ ih;obtain⟨h1,h2,h3⟩:=h;unfold putAt;by_cases e:p.1=k
  ·rw [if_pos e,if_pos (h1.symm.trans e)]; exact⟨h1,h2,ry⟩
  ·rw [if_neg e,if_neg (fun z=>e (h1.trans z))]; exact⟨h1,h2,h3⟩
theorem KT.put{H:Hp}{kvs:List (List Key×V)}{xs:List (List Key×Addr×Value)}(r:KT H kvs xs)(k:List Key){b:Addr}{y:V}{u:Value}(hb:H b=some (.tup (k.map kV)))(ry:RelV y u):
  KT H (zhM kvs k y) (storedH xs k b u):=by
 have e:(kvs.any fun kv=>decide (kv.1=k))=(atKey xs k).isSome:=by
  rw [ziy,(r.val k).isSome_eq,isSome_map]
 unfold zhM storedH;rw [e];by_cases q:(atKey xs k).isSome=true
 ·rw [if_pos q,if_pos q]; exact r.repl k ry
 ·rw [if_neg q,if_neg q]; exact Paired.snoc r ⟨rfl,hb,ry⟩
theorem KT.keeps{H H':Hp}{kvs:List (List Key×V)}{xs:List (List Key×Addr×Value)}(r:KT H kvs xs)(ht:∀ b ys,H b=some (.tup ys)->H' b=some (.tup ys)):KT H' kvs xs :=
 Paired.mapP r fun _ _ z=>⟨z.1,ht _ _ z.2.1,z.2.2⟩
section
variable {P:Program} {w:World} {H:Hp} {h:Heap} {a:Addr}
theorem zqS{u:HO}(ok:HOk P w H h)(e:Rd H a u):ObjOk P w H h a u:=e.ok ok
theorem zqB{kvs:List (Key×V)}(ok:HOk P w H h)(e:Rd H a (.dK kvs)):kvs.length<=sizeLine/\(a == sysModules)=false/\∃ vs,KV kvs vs/\h.DictOf (za7 P w) a vs :=
 show ObjOk P w H h a (.dK kvs) from zqS ok e
theorem zrA{kvs:List (Key×V)}(ok:HOk P w H h)(e:H a=some (.dK kvs)):kvs.length<=sizeLine/\(a == sysModules)=false/\∃ vs,KV kvs vs/\h.DictOf (za7 P w) a vs:=zqB ok (.inl e)
theorem zlb{ks:List Key}(ok:HOk P w H h)(e:H a=some (.tup (ks.map kV))):(tupleKind (za7 P w)).is h ks a:=by
 obtain⟨_,its,r,o,h1,h2,n,h3⟩:=(show ObjOk P w H h a (.tup (ks.map kV)) from ok a _ e);exact⟨o,its.toArray,n,h1,h2,h3,by simpa using zgX r⟩
theorem zqq{kvs:List (List Key×V)}(ok:HOk P w H h)(e:Rd H a (.dT kvs)):kvs.length<=sizeLine/\(a == sysModules)=false /\
  ∃ xs,KT H kvs xs/\h.DictOfH (tupleKind (za7 P w)) a xs:=by
 obtain⟨z,y,xs,r,o,es,ep,h1,h2,h3,h4,h5⟩:=(show ObjOk P w H h a (.dT kvs) from zqS ok e);refine⟨z,y,xs,r,o,es,ep,h1,h2,h3,h4,fun x hx=>?_,h5⟩;have all:∀ {l:List (List Key×V)} {m:List (List Key×Addr×Value)},KT H l m->∀ x∈m,(tupleKind (za7 P w)).is h x.1 x.2.1:=by
  intro l m q;induction q with
  | nil=>intro x hx; exact nomatch hx
  | @cons p q ps qs hq t ih =>
   intro x hx;rcases mem_cons.mp hx with e | hx
   ·subst e;exact zlb ok (by rw [<- hq.1]; exact hq.2.1)
   ·exact ih x hx
 exact all r x hx
theorem zrk{kvs:List (List Key×V)}(ok:HOk P w H h)(e:H a=some (.dT kvs)):kvs.length<=sizeLine/\(a == sysModules)=false /\
  ∃ xs,KT H kvs xs/\h.DictOfH (tupleKind (za7 P w)) a xs:=zqq ok (.inl e)
end
def DGet(H:Hp)(a:Addr)(y:V)(r:Option V):Prop :=
 (∃ kvs k,Rd H a (.dK kvs)/\y=kV k/\r=zjR kvs k)\/∃ kvs k b,Rd H a (.dT kvs)/\y=.ref b/\H b=some (.tup (k.map kV))/\r=zjR kvs k
def DPut(H:Hp)(a:Addr)(y v:V)(H':Hp):Prop :=
 (∃ kvs k,H a=some (.dK kvs)/\y=kV k/\kvs.length<sizeLine/\H'=upd H a (.dK (zhM kvs k v))) \/
 ∃ kvs k b,H a=some (.dT kvs)/\y=.ref b/\H b=some (.tup (k.map kV))/\kvs.length<sizeLine/\H'=upd H a (.dT (zhM kvs k v))
theorem DPut.k{H:Hp}{a:Addr}{kvs:List (Key×V)}{k:Key}{v:V}(e:H a=some (.dK kvs))(hl:kvs.length<sizeLine):DPut H a (kV k) v (upd H a (.dK (zhM kvs k v))):=.inl ⟨kvs,k,e,rfl,hl,rfl⟩
theorem DPut.t{H:Hp}{a b:Addr}{kvs:List (List Key×V)}{k:List Key}{v:V}(e:H a=some (.dT kvs))(eb:H b=some (.tup (k.map kV)))(hl:kvs.length<sizeLine):
  DPut H a (.ref b) v (upd H a (.dT (zhM kvs k v))):=.inr ⟨kvs,k,b,e,rfl,eb,hl,rfl⟩
section
variable {X:Cx} {zh:List (Addr×Obj)} {σ:St} {H:Hp} {s:Shared} {a:Addr} {y v:V} {u r:Value} {o:Option V} {A:Around} {E:Value->Shared->Prop}
theorem Inv.big(I:Inv X zh σ H s):sysModules<s.heap.objs.size:=by
 have h:mainGlobals<s.heap.objs.size:=(I.mod.glob.keeps I.bk).lt;exact Nat.lt_trans dz h
theorem zsv{Q:Value->Shared->Prop}(hu:A.units+1<cLine)(I:Inv X zh σ H s)(g:DGet H a y o)(ry:RelV y u)(h:∀ s',Inv X zh σ H s'->Q (.bool o.isSome) s'):
  wpAny (model X.prog X.w) A (compareOp .In u (.ref a)) Q E s:=by
 rcases g with ⟨kvs,k,e,ey,l⟩ | ⟨kvs,k,b,e,ey,eb,l⟩
 ·subst ey;obtain⟨z,hd,vs,rel,dd⟩:=zqB I.hok e;refine wpAny_in_of (zoG ry) hd dd.mapOf ?_;rw [<- (rel.val k).isSome_eq,<- l];exact h _ (I.tok _)
 ·subst ey;cases (show u=Value.ref b from ry);obtain⟨z,hd,xs,rel,dd⟩:=zqq I.hok e;refine wpAny_in_heap (tupleKind_room_in1 hu) (zlb I.hok eb) hd dd ?_;have q:=(rel.val k).isSome_eq;rw [isSome_map] at q;rw [<- q,<- l];exact h _ (I.tok _)
theorem zjU{h':Heap}{t':Nat}{ob:HO}(I:Inv X zh σ H s)(mu:Mut (H a))(hs:Heap.SameBut a s.heap h')(he:∃ q,h'.get? a=some q)(new:ObjOk X.prog X.w (upd H a ob) h' a ob):
  Inv X zh σ (upd H a ob) { s with heap:=h',toks:=t' } :=
 I.write (x:=a) (e:=a) mu (.inl rfl) (fun b q hb z=>(hs.2 b hb).trans z) he new
theorem zpd{P:Program}{w:World}{H':Hp}{h':Heap}{kvs:List (Key×V)}{vs:List (Key×Value)}(z:kvs.length<=sizeLine)(hd:(a == sysModules)=false)(rel:KV kvs vs)(dd:h'.DictOf (za7 P w) a vs):
  ObjOk P w H' h' a (.dK kvs):=⟨z,hd,vs,rel,dd⟩
theorem zkb{H':Hp}{Q:Unit->Shared->Prop}(hu:A.units+1<cLine)(I:Inv X zh σ H s)(g:DPut H a y v H')(ry:RelV y u)(rv:RelV v r)(h:∀ s',Inv X zh σ H' s'->Q () s'):
  wpAny (model X.prog X.w) A (setItem (.ref a) u r) Q E s:=by
 rcases g with ⟨kvs,k,e,ey,l,eH⟩ | ⟨kvs,k,b,e,ey,eb,l,eH⟩
 ·subst ey eH;obtain⟨z,hd,vs,rel,dd⟩:=zrA I.hok e;have hz:vs.length<=sizeLine:=by rw [<- rel.length]; exact z
  have hl:(zhM kvs k v).length<=sizeLine:=by have:=zfd kvs k v; omega
  refine wpAny_setItem_pairs (hsz:=hz) (zoG ry) dd fun h' dd' hs=>h _ ?_;have he:∃ q,h'.get? a=some q:=let ⟨q,_,_,hq,_⟩:=dd'; ⟨q,hq⟩;exact zjU I (by rw [e]; exact True.intro) hs he (zpd hl hd (rel.put k rv) dd')
 ·subst ey eH;cases (show u=Value.ref b from ry);obtain⟨z,hd,xs,rel,dd⟩:=zrk I.hok e;have hz:xs.length<=sizeLine:=by rw [<- Paired.length rel]; exact z
  have hl:(zhM kvs k v).length<=sizeLine:=by have:=zfd kvs k v; omega
  refine wpAny_setItem_heap (hsz:=hz) (tupleKind_room_in1 hu) (zlb I.hok eb) dd fun h' dd' hs=>h _ ?_;obtain⟨q,es,ep,hq,h2,h3,h4,_,h5⟩:=dd';refine zjU I (by rw [e]; exact True.intro) hs ⟨q,hq⟩ ⟨hl,hd,_,(rel.put k eb rv).keeps fun c ys ec=>?_,q,es,ep,hq,h2,h3,h4,h5⟩;rw [zF (zrm ec e (fun z=>nomatch z))];exact ec
end
def zqM(td ty tv:TE):TS:=fun D σ H=>tv σ H fun v H1=>td σ H1 fun x H2=>ty σ H2 fun y H3=>∃ a H4,x=.ref a/\DPut H3 a y v H4/\D.nx σ H4
section
variable {X:Cx} {o i e value:Expr} {pos pos' tpos:Pos} {td ty tv:TE}
theorem zoa(hu:X.A.units+1<cLine)(ho:PE X o td)(hi:PE X i ty)(hv:PE X value tv)(hs:swapsWith value (some (.Subscript o i pos')) pos.line X.env=pure false):
  PS X (.Assign [.Subscript o i pos'] value pos) (zqM td ty tv):=by
 intro zh s σ H D I h;refine wpAny_Assign_Subscript (thn (hv zh s σ H _ I h) fun r s1 ⟨v,H1,I1,rv,q1⟩=>thn (ho zh s1 σ H1 _ I1 q1) fun u s2 ⟨x,H2,I2,rx,q2⟩=>thn (hi zh s2 σ H2 _ I2 q2) fun iv s3 ⟨y,H3,I3,ry,a,H4,ex,g,q3⟩=>?_) hs;subst ex;obtain rfl:u=Value.ref a:=rx;exact zkb hu I3 g ry rv fun s4 I4=>⟨σ,H4,I4,q3⟩
end
theorem zmz{P:Program}{w:World}{H:Hp}(h:Heap)(hb:sysModules<h.objs.size):ObjOk P w H (h.push { cls:=.type "dict",data:=.dict #[] }) h.objs.size (.dK []) :=
 ⟨zero_le _,beq_eq_false_iff_ne.mpr (Ne.symm (ne_of_lt hb)),[],.nil,Heap.DictOf.new h⟩
def znF:TE:=fun _ H Q=>∀ p,H p=none->Q (.ref p) (upd H p (.dK []))
section
variable {X:Cx} {pos:Pos}
theorem zmo:PE X (.Dict [] [] pos) znF:=fun zh s σ H Q I h =>
 wpAny_Dict_empty ⟨.ref s.heap.objs.size,_,I.laid (a:=s.heap.objs.size) (o:=.dK []) (t':=s.toks) (fun _ _ q=>get?_push_of_some _ q) (le_refl _) (zmz s.heap I.big),rfl,h _ (I.hok.fresh (le_refl _))⟩
end
structure M1(X:Cx)(o:Expr)(m:Str)(apos:Pos)(e:Expr)(cpos:Pos):Prop where
 base:attributeBase o m X.env (eval o X.env)=eval o X.env
 few:((backTo cpos (starEach [e] X.env)).all (fun x=>!x.1) && (backToKw cpos (keywordEach [] X.env)).all (fun x=>x.1.isSome)
  && decide (([e]:List Expr).length+([]:List Keyword).length+(if ([]:List Keyword).isEmpty then 0 else 1)<30))=true
 line:(apos.endLine == cpos.line)=true
 trees:backTo cpos (starEach [e] X.env)=[(false,eval e X.env)]
structure M2(X:Cx)(o:Expr)(m:Str)(apos:Pos)(e f:Expr)(cpos:Pos):Prop where
 base:attributeBase o m X.env (eval o X.env)=eval o X.env
 few:((backTo cpos (starEach [e,f] X.env)).all (fun x=>!x.1) && (backToKw cpos (keywordEach [] X.env)).all (fun x=>x.1.isSome)
  && decide (([e,f]:List Expr).length+([]:List Keyword).length+(if ([]:List Keyword).isEmpty then 0 else 1)<30))=true
 line:(apos.endLine == cpos.line)=true
 trees:backTo cpos (starEach [e,f] X.env)=[(false,eval e X.env),(false,eval f X.env)]
end
end L2
namespace Att
open PySem PySem.W PySem.Calls PyProof.Rows
theorem zfy{P:Params}{h:Heap}:∀ (ns:List Int) (vs:List Value),WellAll P h vs (ns.map WData.int)->IntsAre vs ns:=by
 intro ns;induction ns with
 | nil =>
  intro vs w;rw [map_nil] at w;cases w;exact .nil
 | cons n ns ih =>
  intro vs w;rw [map_cons] at w;cases w with
  | cons a b =>
   cases a;exact .cons _ _ (ih _ b)
theorem zk7{l:OpenLaw}{n:Nat}(hn:l.most=some n){P:Params}{h:Heap}{args:List WData}{vals:List Value}
  (hpre:l.row.toRowW.claim.pre args=true) (hwl:WellAll P h vals args) :
  ∃ a vs ns,vals=[Value.ref a]/\args=[WData.list (ns.map WData.int)]/\h.get? a=some { cls:=.type "list",data:=.seq vs.toArray }/\IntsAre vs ns/\ns.length<=n:=by
 have hsh:WShape.hasAll [] args [.list .int]=true:=(pre_splitW hpre).1;have hc:l.pre.holds [] { args:=args } = true:=(pre_splitW hpre).2;obtain⟨d,r,rfl,h1,h2⟩:=hasAllW_cons hsh;obtain rfl:=hasAllW_nil h2;obtain⟨xs,rfl,h3⟩:=hasW_list h1;obtain⟨ns,rfl⟩:=items_int h3;have hlen:ns.length<=n:=by
  unfold OpenLaw.pre at hc;have h4:(WTm.not (.lt (.lit (.int (n:Int))) (.len (.arg 0)))).holds [] { args:=[.list (ns.map .int)] } = true:=by
   have h4:=(holds_andW hc).1;rw [hn] at h4;exact h4
  have h5:=condW_of h4 (w_not (w_lt w_lit (w_len_list (w_arg rfl))));rw [length_map] at h5;refine Nat.le_of_not_lt fun q=>?_;have q':(n:Int)<((ns.length:Nat):Int):=by omega
  first
   | (rw [decide_eq_true q'] at h5; exact absurd h5 dz)
   | (simp at h5; omega)
 cases hwl with
 | cons w1 w2 =>
  cases w2;cases w1 with
  | list ho hall=>exact⟨_,_,ns,rfl,rfl,ho,zfy ns _ hall,hlen⟩
theorem zkE(l:OpenLaw)(args:List WData):l.row.toRowW.claim.post args (.bool true) args=true :=
 postW_of (r:=l.row.toRowW) (X:=(true == true))
  (show WShape.has [] (.bool true) .bool=true by first | rfl | decide | simp [WShape.has,WShape.arms,WShape.armsAll])
  (show (WTm.eq .res (.lit (.bool true))).value [] { args:=args,res:=some (.bool true),after:=args } = some (.bool (true == true)) from w_eq_bool (w_res rfl) w_lit) rfl
theorem attach_call{l:OpenLaw}{n:Nat}{q:Program}{loose:List Str}{XP:(Str->Option Value)->Heap->Prop}{YP:World->Heap->Prop}{d:DefRec}
  (hn:l.most=some n) (hdf:d.params.defaults=[])
  (call:∀ (w:World) (s₀ s₁:Shared) (mg mb:Str->Option Value) (fa:Addr) (o:Obj) (pm cd doc:Value) (a:Addr) (vs:List Value) (ns:List Int),
   Ground q loose [] XP w s₀ mg mb s₁.heap->YP w s₁.heap ->
   s₁.heap.get? fa=some o->o.data=.func (docDef d.name d.params d.body d.scope pm cd doc)->s₁.heap.CodeRec cd d.name->mg d.name=some (.ref fa) ->
   s₁.heap.get? a=some { cls:=.type "list",data:=.seq vs.toArray }->IntsAre vs ns->ns.length<=n->s₁.gens = #[] ->
   codeAny (model l.prog w) callerA (.call (.ref fa) ⟨[.ref a],[]⟩) (fun r s'=>r=.ok (.ret (.bool true))/\OldK s₁.heap s'.heap/\s'.os=s₁.os/\AllBare s'.gens) s₁) :
  WalkO q loose XP YP l.row.toRowW d [] (fun f vs=>PySem.call f vs):=by
 intro w s₀ s₁ mg mb G Y fa o pm cd doc dV kV ho hd hcd hD hmg hg args vals as hpre hlay hrd hwl hlo;obtain rfl:dV=.none:=Dflts.none hD hdf;obtain rfl:kV=.none:=Dflts.noKw hD;obtain⟨a,vs,ns,rfl,rfl,hobj,hints,hlen⟩:=zk7 hn hpre hwl;refine enter_call (codeAny_mono (call w s₀ s₁ mg mb fa o pm cd doc a vs ns G Y ho (fd_plain hd) hcd hmg hobj hints hlen hg) fun r s' hq=>?_);obtain⟨rfl,h2,h3,h4⟩:=hq;exact⟨.inl ⟨.bool true,.bool true,[],rfl,fun _=>rfl,.bool true,zkE l _,fun _=>⟨List.Pairwise.nil,fun _ hm=>(nomatch hm)⟩⟩,h2,h3,h4⟩
end Att
namespace L2
open PySem PySem.Spec PyProof.Rows
section
theorem zhL:∀ {vs:List Value} {ns:List Int},IntsAre vs ns->Vals (ns.map V.int) vs
 | _,_,.nil=>.nil
 | _,_,.cons n t h=>.cons ⟨t,rfl⟩ (zhL h)
def Only(H:Hp):Prop:=∀ b,H b=none\/(∃ o xs,H b=some (.frz o (.lst xs)))\/∃ q∈tabsG,q.1.2=b/\H b=some (.tbl q.2)
def zer(b:Addr):Option HO:=(tabsG.find? fun q=>q.1.2 == b).map fun q=>.tbl q.2
theorem zdd{b:Addr}{u:HO}(e:zer b=some u):∃ q∈tabsG,q.1.2=b/\u=.tbl q.2:=by
 unfold zer at e;cases h:tabsG.find? fun q=>q.1.2 == b with
 | none=>rw [h] at e; cases e
 | some q =>
  rw [h] at e;cases e;exact⟨q,List.mem_of_find?_eq_some h,by simpa using List.find?_some h,rfl⟩
theorem zi3{l:List ((Addr×Addr)×Array Value)}(nd:(l.map fun q=>q.1.2).Nodup){q:(Addr×Addr)×Array Value}(h:q∈l):l.find? (fun r=>r.1.2 == q.1.2)=some q:=by
 induction l with
 | nil=>cases h
 | cons p l ih =>
  rw [map_cons,nodup_cons] at nd;rcases mem_cons.mp h with e | e
  ·subst e; simp
  ·have ne:¬ p.1.2=q.1.2:=fun z=>nd.1 (by rw [z]; exact List.mem_map_of_mem (f:=fun q:(Addr×Addr)×Array Value=>q.1.2) e);rw [List.find?_cons_of_neg (by simpa using ne)];exact ih nd.2 e
theorem zhB(nd:(tabsG.map fun q=>q.1.2).Nodup){q:(Addr×Addr)×Array Value}(h:q∈tabsG):zer q.1.2=some (.tbl q.2):=by
 unfold zer;rw [zi3 nd h];rfl
structure TabsOk(K:W.Frag)(h:Heap):Prop where
 nd:(tabsG.map fun q=>q.1.2).Nodup
 hd:∀ q∈tabsG,W.CodeHd h q.1.1 q.1.2
 empty:∀ q∈tabsG,h.get? q.1.2=some (W.tabObj #[])
 off:∀ q∈tabsG,K.lookup q.1.2=none
theorem TabsOk.none{K:W.Frag}{h:Heap}(e:tabsG=[]):TabsOk K h:=⟨by rw [e]; exact nodup_nil,fun q z=>absurd z (by rw [e]; simp),fun q z=>absurd z (by rw [e]; simp),fun q z=>absurd z (by rw [e]; simp)⟩
theorem zl7{P:Program}{w:World}{K:W.Frag}{mg mb:Str->Option Value}{CX:CXT}{k:Nat}{fa a:Addr}{fd:FuncData}{x:Str}{sp:Sp}{s₁:Shared}{vs:List Value}{ns:List Int}
  (KX:K.In s₁.heap) (TT:TabsOk K s₁.heap) (hbm:BltAt s₁.heap mg) (hns:s₁.heap.Ns mainGlobals mg) (hb:s₁.heap.Ns builtinsNs mb) (hbb:∀ x:Str,x ≠ "__name__"->mb x=bootBuiltins x) (hlim:s₁.heap.NoLimit) (hg:s₁.gens = #[])
  (ha:s₁.heap.get? a=some { cls:=.type "list",data:=.seq vs.toArray }) (hi:IntsAre vs ns) (hl:ns.length<=sizeLine) (hr:Room k callerA)
  (F:∀ base:Heap,K.In base->base.Ns mainGlobals mg->FnOk P w K mg base CX k fa fd [x] sp) (hbind:∀ (s:Shared) (u:Value),BindsTo s fd ⟨[u],[]⟩ [(x,u)])
  (hsp:∀ H:Hp,Only H->SqL K H a (ns.map V.int)->sp [.ref a] H (fun v _=>v=.bl true) fun _ _ _=>False)
  (hCX:∀ H e s',CX [] H s₁ (fun _ _ _=>False) e s'->False) :
  codeAny (model P w) callerA (.call (.ref fa) ⟨[.ref a],[]⟩) (fun r s'=>r=.ok (.ret (.bool true))/\OldK s₁.heap s'.heap/\s'.os=s₁.os/\AllBare s'.gens) s₁:=by
 have rv:=zhL hi;have lenV:=hi.length
 -- from an abstract heap in which nothing but the script may be tracked
 have core:∀ H:Hp,Only H->SqL K H a (ns.map V.int)->HOk P w H s₁.heap->(∀ b,H b≠none->b=a\/∃ q∈tabsG,q.1.2=b)->(H a≠none->K.lookup a=none)->(∀ q∈tabsG,H q.1.2=some (.tbl q.2)) ->
   codeAny (model P w) callerA (.call (.ref fa) ⟨[.ref a],[]⟩) (fun r s'=>r=.ok (.ret (.bool true))/\OldK s₁.heap s'.heap/\s'.os=s₁.os/\AllBare s'.gens) s₁:=by
  intro H hO hS hok hA hK hTab;have noO:∀ {b:Addr} {o:Obj},s₁.heap.get? b=some o->o.cls≠.type "list"->o.cls≠.none->H b=none:=fun {b o} e c1 c2=>by
   cases q:H b with
   | none=>rfl
   | some u =>
    rcases hA b (by rw [q]; simp) with e' | ⟨r,hr',e'⟩
    ·subst e';rw [ha] at e; cases e;exact absurd rfl c1
    ·have:=TT.empty r hr';rw [e',e] at this;cases this;exact absurd rfl c2
  have base_of:∀ {b:Addr} {o:Obj},s₁.heap.get? b=some o->H b=none->(zmB s₁.heap H).get? b=some o:=fun e n=>zmv e n;have noA:∀ {b:Addr} {o:Obj} {es:Array DictEntry} {ep:Nat},s₁.heap.get? b=some o->o.data=.dict es ep->H b=none:=fun {b o es ep} e d=>by
   cases q:H b with
   | none=>rfl
   | some u =>
    rcases hA b (by rw [q]; simp) with e' | ⟨r,hr',e'⟩
    ·subst e';rw [ha] at e; cases e;have d':Data.seq vs.toArray _=Data.dict es ep:=d;cases d'
    ·have:=TT.empty r hr';rw [e',e] at this;cases this;cases d
  have nsK:∀ {b:Addr} {m:Str->Option Value},s₁.heap.Ns b m->(zmB s₁.heap H).Ns b m:=fun {b m} ⟨o,es,ep,e,d,r⟩=>⟨o,es,ep,base_of e (noA e d),d,r⟩;have hKb:K.In (zmB s₁.heap H):=fun b o e=>base_of (KX b o e) (by
   cases q:H b with
   | none=>rfl
   | some u =>
    rcases hA b (by rw [q]; simp) with e' | ⟨r,hr',e'⟩
    ·subst e';rw [hK (by rw [q]; simp)] at e; cases e
    ·rw [<- e',TT.off r hr'] at e; cases e)
  have hM:Mod K mg (zmB s₁.heap H):=⟨hKb,nsK hns,⟨mb,nsK hb,hbb⟩,let ⟨mc,h1,h2⟩:=hlim; ⟨mc,nsK h1,h2⟩,
   let ⟨bm,ob,b1,b2,b3,b4,b5⟩:=hbm; ⟨bm,ob,b1,b2,base_of b3 (noO b3 (by rw [b4]; decide) (by rw [b4]; decide)),b4,b5⟩,
   fun q hq=>let ⟨o,vs,file,tf,flags,tg,inF,text,tt,e1,c1,r⟩:=TT.hd q hq; ⟨o,vs,file,tf,flags,tg,inF,text,tt,base_of e1 (noO e1 (by rw [c1]; decide) (by rw [c1]; decide)),c1,r⟩⟩
  have e0:Env0 P w K mg (zmB s₁.heap H) callerA [] s₁ H:=⟨rfl,hM,fun b o e=>zoP e,Nat.le_of_eq (zlp _ _),trivial,⟨fun b hb=>absurd (show b∈([]:List Addr) from hb) (by simp),hTab⟩,hok,.of_eq hg⟩;refine codeAny_mono ((F _ hKb (nsK hns)).run callerA [] s₁ H ⟨[.ref a],[]⟩ [.ref a] [.ref a] _ _ hr e0 (hbind s₁ (.ref a)) (.cons rfl .nil) (hsp H hO hS)) fun r s' h=>?_;cases r with
  | error e=>exact(hCX H e s' h).elim
  | ok fl =>
   cases fl with
   | next=>exact False.elim h
   | brk=>exact False.elim h
   | cont=>exact False.elim h
   | ret u =>
    obtain⟨v,H',os,bare,un,hok',r',q⟩:=h;have q':v=.bl true:=q;subst q';obtain rfl:u=Value.bool true:=r';have all:∀ b o,s₁.heap.get? b=some o->s'.heap.get? b=some o\/∃ q∈tabsG,q.1.2=b/\o=W.tabObj #[]/\∃ ps,s'.heap.get? b=some (W.tabObj ps):=fun b o e=>by
     cases q:H b with
     | none=>exact .inl (un.keep b o e q (by intro z; exact absurd (show b∈([]:List Addr) from z) (by simp)) (by simp))
     | some u =>
      rcases hO b with z | ⟨ob,xs,z⟩ | ⟨r,hr',e',z⟩
      ·rw [q] at z; cases z
      ·have z2:=un.frzs b ob _ z;obtain⟨e1,_⟩:=hok b _ z;obtain⟨e2,_⟩:=hok' b _ z2;rw [e] at e1; cases e1;exact .inl e2
      ·obtain⟨qs,e2,_⟩:=hok' b _ (un.tbls b _ z);have:=TT.empty r hr';rw [e',e] at this;cases this;exact .inr ⟨r,hr',e',rfl,qs,e2⟩
    refine⟨rfl,⟨fun b o e=>?_,fun b o e=>?_⟩,os,bare⟩
    ·rcases all b o e with z | ⟨r,hr',rfl,rfl,ps,z⟩
     ·exact .inl z
     ·exact .inr (.inl ⟨((TT.hd r hr').tab (TT.empty r hr')).isCodeTable,rfl,#[],ps,rfl,by rw [Array.empty_append]; exact z⟩)
    ·rcases all b o e with z | ⟨r,hr',rfl,rfl,ps,z⟩
     ·exact⟨o,z⟩
     ·exact⟨_,z⟩
 have naT:∀ q∈tabsG,q.1.2≠a:=fun q hq z=>by
  have:=TT.empty q hq;rw [z,ha] at this;cases this
 have tOk:∀ (H:Hp) (b:Addr) (u:HO),zer b=some u->ObjOk P w H s₁.heap b u:=fun H b u z=>by
  obtain⟨q,hq,rfl,rfl⟩:=zdd z;exact⟨#[],TT.empty q hq,.inl rfl⟩
 cases hk:K.lookup a with
 | some o =>
  -- the script is one of the module's own objects
  have e:=KX a o hk;rw [ha] at e;cases e;refine core zer (fun b=>?_) (.inr ⟨_,vs.toArray,_,hk,rfl,rfl,rfl,by rw [size_toArray,lenV]; exact hl,by simpa using rv⟩) (tOk zer) (fun b z=>?_) (fun z=>?_) fun q hq=>zhB TT.nd hq
  ·cases q:zer b with
   | none=>exact .inl rfl
   | some u=>obtain⟨r,hr',e',rfl⟩:=zdd q; exact .inr (.inr ⟨r,hr',e',rfl⟩)
  ·cases q:zer b with
   | none=>exact absurd q z
   | some u=>obtain⟨r,hr',e',_⟩:=zdd q; exact .inr ⟨r,hr',e'⟩
  ·cases q:zer a with
   | none=>exact absurd q z
   | some u=>obtain⟨r,hr',e',_⟩:=zdd q; exact absurd e' (naT r hr')
 | none =>
  refine core (fun b=>if b=a then some (.frz { cls:=.type "list",data:=.seq vs.toArray } (.lst (ns.map V.int))) else zer b) (fun b=>?_) (.inl (.inr ⟨{ cls:=.type "list",data:=.seq vs.toArray },if_pos rfl⟩)) (fun b u z=>?_) (fun b z=>?_) (fun _=>hk) fun q hq=>(if_neg (naT q hq)).trans (zhB TT.nd hq)
  ·by_cases hb:b=a
   ·exact .inr (.inl ⟨_,_,if_pos hb⟩)
   ·cases q:zer b with
    | none=>exact .inl ((if_neg hb).trans q)
    | some u=>obtain⟨r,hr',e',rfl⟩:=zdd q; exact .inr (.inr ⟨r,hr',e',(if_neg hb).trans q⟩)
  ·by_cases hb:b=a
   ·have z':=(if_pos hb).symm.trans z;cases z';subst hb;exact⟨ha,by rw [length_map]; exact hl,vs,_,rv,ha⟩
   ·have z':=(if_neg hb).symm.trans z;exact tOk _ b u z'
  ·by_cases hb:b=a
   ·exact .inl hb
   ·cases q:zer b with
    | none=>exact absurd ((if_neg hb).trans q) z
    | some u=>obtain⟨r,hr',e',_⟩:=zdd q; exact .inr ⟨r,hr',e'⟩
end
section
abbrev KOf {K:W.Frag} {h:Heap} (_:K.In h):W.Frag:=K
theorem walk_of{l:W.OpenLaw}{n k:Nat}{q:Program}{loose:List Str}{XP:(Str->Option Value)->Heap->Prop}{YP:World->Heap->Prop}{d:DefRec}{K:Params->W.Frag}{CX:World->CXT}{sp:World->Sp}{x:Str}
  (hn:l.most=some n) (hn2:n<=sizeLine) (hdf:d.params.defaults=[]) (hr:Room k callerA)
  (hY:∀ (w:World) (h:Heap),YP w h->(K w.params).In h)
  (hT:∀ (w:World) (h:Heap),YP w h->TabsOk (K w.params) h)
  (F:∀ (w:World) (mg:Str->Option Value) (fa:Addr) (h:Heap),(K w.params).In h->h.Ns mainGlobals mg->mg d.name=some (.ref fa) ->
   ∃ fd:FuncData,(∀ (s:Shared) (u:Value),BindsTo s fd ⟨[u],[]⟩ [(x,u)]) /\
    ∀ base:Heap,(K w.params).In base->base.Ns mainGlobals mg->FnOk l.prog w (K w.params) mg base (CX w) k fa fd [x] (sp w))
  (hsp:∀ (w:World) (H:Hp) (a:Addr) (ns:List Int),ns.length<=n->Only H->SqL (K w.params) H a (ns.map V.int)->sp w [.ref a] H (fun v _=>v=.bl true) fun _ _ _=>False)
  (hCX:∀ (w:World) (H:Hp) (s:Shared) (e:Value) (s':Shared),CX w [] H s (fun _ _ _=>False) e s'->False) :
  W.WalkO q loose XP YP l.row.toRowW d [] (fun f vs=>PySem.call f vs):=by
 refine Att.attach_call hn hdf fun w s₀ s₁ mg mb fa o pm cd doc a vs ns G Y ho hd hcd hmg hobj hints hlen hg=>?_;have KX:=hY w _ Y;obtain⟨fd,hb,hF⟩:=F w mg fa _ KX G.T.g hmg;exact zl7 KX (hT w _ Y) (let ⟨bm,ob,a1,a2,a3,a4,a5,a6⟩:=G.T.bmain; ⟨bm,ob,a1,a2,a3,a4,a5,a6⟩) G.T.g G.T.b G.T.builtins G.T.nolimit hg hobj hints (le_trans hlen hn2) hr hF hb (fun H hO hS=>hsp w H a ns hlen hO hS) fun H e s'=>hCX w H s₁ e s'
end
section
def zdH(s:Stmt):Arguments:=match s with
 | .FunctionDef _ a _ _ _ _ _ _ _ _=>a
 | _=>{ posonlyargs:=[],args:=[],vararg:=none,kwonlyargs:=[],kw_defaults:=[],kwarg:=none,defaults:=[] }
def zbw(s:Stmt):List Stmt:=match s with
 | .FunctionDef _ _ b _ _ _ _ _ _ _=>b
 | _=>[]
def zn(s:Stmt):Scope:=match s with
 | .FunctionDef _ _ _ _ _ _ sc _ _ _=>sc
 | _=>{ kind:=.function,names:=[],isGenerator:=false,isCoroutine:=false }
abbrev CX0:CXT:=fun _ _ _ _ _ _=>False
abbrev E0:XK:=fun _ _ _=>False
theorem pass0{X:Cx}:Passes CX0 X E0:=fun _ _ _ _ _ _ _ h=>h.elim
structure Fun(K:W.Frag)(x qual:Str)(st:Stmt)(f:Addr)(fd:FuncData):Prop where
 ex:∃ (oc:Value) (od:Option Addr) (kV doc pm:Value) (an:Option Addr) (cdv ct:Value) (osl:Array (Option Value)),
  fd=W.fnOf x qual (zdH st) (zbw st) (zn st) .none kV doc pm an cdv ct/\K.lookup f=some ⟨oc,od,.func fd,osl⟩/\W.codeIn K cdv qual=true
 kp:W.keepIn K (.ref f)=true
section
variable {P:Program} {w:World} {K:W.Frag} {mg:Str->Option Value} {base:Heap}
theorem Fun.ok{x qual:Str}{st:Stmt}{f:Addr}{fd:FuncData}{N ps:List Str}{k:Nat}{sp:Sp}(F:Fun K x qual st f fd)(S:FnScope N ps (zn st))(len:∀ vs H Q E,sp vs H Q E->vs.length=ps.length)
  (hbody:∀ (cdv:Value) (A:Around) (outer:List Env) (s:Shared) (H:Hp) (vs:List V) (Q:VK) (E:XK),Room k (A.deeper (envOfC qual (zn st) s.heap.objs.size f cdv))->sp vs H Q E ->
   ∃ t,PSs (zlO CX0 P w K mg base N qual (zn st) f cdv A outer s H E).nox (zbw st) t/\t { nx:=fun _ H'=>Q .non H',rt:=Q } (start N vs) H):FnOk P w K mg base CX0 (k+1) f fd ps sp:=by
 obtain⟨oc,od,kV,doc,pm,an,cdv,ct,osl,rfl,lk,hcd⟩:=F.ex;refine zrF lk hcd S len fun A outer s H vs Q E hr hsp=>?_;obtain⟨t,h,q⟩:=hbody cdv A outer s H vs Q E hr hsp;exact⟨t,h.nox,q⟩
theorem Fun.binds{x qual:Str}{st:Stmt}{f:Addr}{fd:FuncData}{ps:List Str}(F:Fun K x qual st f fd)
  (h:∀ (kV doc pm:Value) (an:Option Addr) (cdv ct:Value) (us:List Value),us.length=ps.length->bindArgs (W.fnOf x qual (zdH st) (zbw st) (zn st) .none kV doc pm an cdv ct) ⟨us,[]⟩=pure (ps.zip us)):Binds K fd ps []:=by
 obtain⟨oc,od,kV,doc,pm,an,cdv,ct,osl,rfl,lk,hcd⟩:=F.ex;exact .all (h kV doc pm an cdv ct)
theorem zm4{x qual:Str}{st:Stmt}{f:Addr}{oc:Value}{od an:Option Addr}{osl:Array (Option Value)}{kV doc pm cdv ct:Value}(l:K.lookup f=some ⟨oc,od,.func (W.fnOf x qual (zdH st) (zbw st) (zn st) .none kV doc pm an cdv ct),osl⟩)
  (c:W.codeIn K cdv qual=true) (k:W.keepIn K (.ref f)=true):Fun K x qual st f (W.fnOf x qual (zdH st) (zbw st) (zn st) .none kV doc pm an cdv ct):=⟨⟨oc,od,kV,doc,pm,an,cdv,ct,osl,rfl,l,c⟩,k⟩
end
theorem zrL{A:Around}{k:Nat}(hr:Room k A):A.units+1<cLine:=lt_of_le_of_lt (Nat.add_le_add_left (by decide:1<=64) _) hr.units
theorem small1000{n:Nat}(h:n<=1000):n<sizeLine:=lt_of_le_of_lt h dz
section
variable {X:Cx}
theorem pv(i:Nat){x:Str}{pos:Pos}(hN:X.N[i]? = some x:=by rfl)(hv:Vis X.env.scope x:=by first | exact Or.inl rfl | exact Or.inr (Or.inl rfl) | exact Or.inr (Or.inr rfl))(hd:(x == ("__debug__":Str))=false:=by decide)
  (hcd:(x == ("__classdict__":Str))=false:=by decide):PE X (.Name x pos) (zlR i):=zo9 hN hv hd hcd
end
theorem zmE{A B:Prop}(h:B):if false=true then A else B:=by
 rw [if_neg Bool.false_ne_true];exact h
theorem zmF{A B:Prop}(h:A):if true=true then A else B:=by
 rw [if_pos rfl];exact h
theorem ite2{c A B:Prop}[Decidable c](h1:c->A)(h2:¬ c->B):if c then A else B:=by
 by_cases h:c
 ·rw [if_pos h];exact h1 h
 ·rw [if_neg h];exact h2 h
def Same(H H':Hp):Prop:=∀ b o,H b=some o->H' b=some o
theorem Same.refl(H:Hp):Same H H:=fun _ _ h=>h
theorem Same.trans{H H1 H2:Hp}(a:Same H H1)(b:Same H1 H2):Same H H2:=fun c o h=>b c o (a c o h)
theorem Same.seq{K:W.Frag}{H H':Hp}{a:Addr}{xs:List V}(e:Same H H')(h:SqL K H a xs):SqL K H' a xs:=by
 rcases h with (h | ⟨o,h⟩) | h
 ·exact .inl (.inl (e _ _ h))
 ·exact .inl (.inr ⟨o,e _ _ h⟩)
 ·exact .inr h
end
section
section
variable {X:Cx}
def CDivX(i j:Int):Prop:=0<j/\j.natAbs.log2<9000
theorem zms:OpR X (binaryOp .FloorDiv) (rI CDivX fun i j=>.int (i / j)):=opI fun i j _ _ _ _ _ hc q=>by
 have h1:(0:Int)<j:=hc.1;exact floordiv_int (by omega) (by rw [Int.fdiv_eq_ediv_of_nonneg i (by omega)]; exact q) (.inl (PyProof.noPylong_of_log2 hc.2))
theorem zn0:OpR X (binaryOp .Mult) (rI IntMulOk fun i j=>.int (i*j)):=opI fun _ _ _ _ _ _ _ hc q=>mul_int q hc
theorem zk8{k:Int}{n:Nat}(h:k.natAbs<2 ^ n):Builtin.Int.intBits k<=n:=by
 unfold Builtin.Int.intBits;split
 ·exact zero_le _
 ·rename_i h0;have hk:k.natAbs≠0:=by
   intro z;apply h0;rw [Int.natAbs_eq_zero.mp z];rfl
  have:=(Nat.log2_lt hk).mpr h;omega
theorem zrw{i j:Int}(n m:Nat)(hi:i.natAbs<2 ^ n)(hj:j.natAbs<2 ^ m)(hn:n<=2 ^ 20:=by decide)(hm:m<=2 ^ 20:=by decide):IntMulOk i j :=
 .of_bits (le_trans (zk8 hi) hn) (le_trans (zk8 hj) hm)
theorem zeF{i j:Int}(h1:-(2 ^ 64)<i)(h2:i<2 ^ 64):IntMulOk i j:=.of_left (intBits_le_64 h1 h2)
theorem zep{n:Int}{k:Nat}(h0:0<n)(h:n<2 ^ k):n.natAbs.log2<k:=by
 refine(Nat.log2_lt (by omega)).mpr ?_;have e:((2 ^ k:Nat):Int)=(2:Int) ^ k:=by simp
 omega
end
def kD:Key->PyData
 | .inl i=>.int i
 | .inr x=>.str x
def DOf(H:Hp)(a:Addr)(ks:List PyData)(vs:List V):Prop :=
 (∃ (ob:Obj) (m:List (Key×V)),H a=some (.frz ob (.dK m))/\ks=m.map (fun p=>kD p.1)/\vs=m.map (·.2)) \/
 ∃ (ob:Obj) (p:List Key×V) (m:List (List Key×V)),H a=some (.frz ob (.dT (p :: m)))/\ks=(p :: m).map (fun p=>.tuple (p.1.map kD))/\vs=(p :: m).map (·.2)
mutual
def Has(H:Hp):PyData->V->Prop
 | .none,v=>v=.non
 | .bool b,v=>v=.bl b
 | .int i,v=>v=.int i
 | .str x,v=>v=.str x
 | .list ds,v=>∃ a vs,v=.ref a/\H a=some (.lst vs)/\HasL H ds vs
 | .tuple ds,v=>∃ a vs,v=.ref a/\H a=some (.tup vs)/\HasL H ds vs
 | .dict kvs,v=>∃ a vs,v=.ref a/\DOf H a (kvs.map (·.1)) vs/\HasV H kvs vs
def HasL(H:Hp):List PyData->List V->Prop
 | [],vs=>vs=[]
 | d :: ds,vs=>∃ v r,vs=v :: r/\Has H d v/\HasL H ds r
def HasV(H:Hp):List (PyData×PyData)->List V->Prop
 | [],vs=>vs=[]
 | p :: ps,vs=>∃ v r,vs=v :: r/\HasP H p v/\HasV H ps r
def HasP(H:Hp):PyData×PyData->V->Prop
 | (_,d),v=>Has H d v
end
mutual
theorem Has.mono{H H':Hp}(s:Same H H'):∀ (d:PyData) (v:V),Has H d v->Has H' d v
 | .none,_,h=>by simp only [Has] at h ⊢; exact h
 | .bool _,_,h=>by simp only [Has] at h ⊢; exact h
 | .int _,_,h=>by simp only [Has] at h ⊢; exact h
 | .str _,_,h=>by simp only [Has] at h ⊢; exact h
 | .list ds,v,h=>by
  simp only [Has] at h ⊢;obtain⟨a,vs,e,q,l⟩:=h;exact⟨a,vs,e,s _ _ q,HasL.mono s ds vs l⟩
 | .tuple ds,v,h=>by
  simp only [Has] at h ⊢;obtain⟨a,vs,e,q,l⟩:=h;exact⟨a,vs,e,s _ _ q,HasL.mono s ds vs l⟩
 | .dict kvs,v,h=>by
  simp only [Has] at h ⊢;obtain⟨a,vs,e,q,l⟩:=h;refine⟨a,vs,e,?_,HasV.mono s kvs vs l⟩;rcases q with ⟨ob,m,e1,e2⟩ | ⟨ob,p,m,e1,e2⟩
  ·exact .inl ⟨ob,m,s _ _ e1,e2⟩
  ·exact .inr ⟨ob,p,m,s _ _ e1,e2⟩
theorem HasL.mono{H H':Hp}(s:Same H H'):∀ (ds:List PyData) (vs:List V),HasL H ds vs->HasL H' ds vs
 | [],_,h=>by simp only [HasL] at h ⊢; exact h
 | d :: ds,vs,h=>by
  simp only [HasL] at h ⊢;obtain⟨v,r,e,q,l⟩:=h;exact⟨v,r,e,Has.mono s d v q,HasL.mono s ds r l⟩
theorem HasV.mono{H H':Hp}(s:Same H H'):∀ (ds:List (PyData×PyData)) (vs:List V),HasV H ds vs->HasV H' ds vs
 | [],_,h=>by simp only [HasV] at h ⊢; exact h
 | d :: ds,vs,h=>by
  simp only [HasV] at h ⊢;obtain⟨v,r,e,q,l⟩:=h;exact⟨v,r,e,HasP.mono s d v q,HasV.mono s ds r l⟩
theorem HasP.mono{H H':Hp}(s:Same H H'):∀ (p:PyData×PyData) (v:V),HasP H p v->HasP H' p v
 | (_,d),v,h=>by
  simp only [HasP] at h ⊢;exact Has.mono s d v h
end
section
variable {H:Hp} {v:V}
theorem zdf:Has H .none v↔v=.non:=by simp only [Has]
theorem zcM{b:Bool}:Has H (.bool b) v↔v=.bl b:=by simp only [Has]
theorem zbV{i:Int}:Has H (.int i) v↔v=.int i:=by simp only [Has]
theorem zbP{x:Str}:Has H (.str x) v↔v=.str x:=by simp only [Has]
theorem zaN{ds:List PyData}:Has H (.list ds) v↔∃ a vs,v=.ref a/\H a=some (.lst vs)/\HasL H ds vs:=by simp only [Has]
theorem zai{ds:List PyData}:Has H (.tuple ds) v↔∃ a vs,v=.ref a/\H a=some (.tup vs)/\HasL H ds vs:=by simp only [Has]
theorem ziu{kvs:List (PyData×PyData)}:Has H (.dict kvs) v↔∃ a vs,v=.ref a/\DOf H a (kvs.map (·.1)) vs/\HasV H kvs vs:=by simp only [Has]
theorem zmh{vs:List V}:HasV H [] vs↔vs=[]:=by simp only [HasV]
theorem zhn{p:PyData×PyData}{ds:List (PyData×PyData)}{vs:List V}:HasV H (p :: ds) vs↔∃ v r,vs=v :: r/\Has H p.2 v/\HasV H ds r:=by
 obtain⟨k,d⟩:=p;simp only [HasV,HasP]
theorem zw{vs:List V}:HasL H [] vs↔vs=[]:=by simp only [HasL]
theorem zu{d:PyData}{ds:List PyData}{vs:List V}:HasL H (d :: ds) vs↔∃ v r,vs=v :: r/\Has H d v/\HasL H ds r:=by simp only [HasL]
theorem HasL.length:∀ {ds:List PyData} {vs:List V},HasL H ds vs->vs.length=ds.length
 | [],_,h=>by rw [zw.mp h]; rfl
 | d :: ds,vs,h=>by
  obtain⟨v,r,e,_,l⟩:=zu.mp h;rw [e,length_cons,length_cons,HasL.length l]
theorem HasL.get:∀ {ds:List PyData} {vs:List V} {i:Nat} {d:PyData},HasL H ds vs->ds[i]? = some d->∃ v,vs[i]? = some v/\Has H d v
 | [],_,_,_,_,e=>by simp at e
 | c :: ds,vs,0,d,h,e=>by
  obtain⟨v,r,rfl,q,_⟩:=zu.mp h;simp at e;subst e;exact⟨v,rfl,q⟩
 | c :: ds,vs,i+1,d,h,e=>by
  obtain⟨v,r,rfl,_,l⟩:=zu.mp h;obtain⟨u,e1,e2⟩:=HasL.get (i:=i) (d:=d) l (by simpa using e);exact⟨u,by simpa using e1,e2⟩
theorem HasL.append:∀ {ds es:List PyData} {vs us:List V},HasL H ds vs->HasL H es us->HasL H (ds++es) (vs++us)
 | [],es,vs,us,h,h'=>by rw [zw.mp h]; exact h'
 | d :: ds,es,vs,us,h,h'=>by
  obtain⟨v,r,rfl,q,l⟩:=zu.mp h;exact zu.mpr ⟨v,r++us,rfl,q,HasL.append l h'⟩
end
def tyD:PyData->String
 | .none=>"NoneType" | .bool _=>"bool" | .int _=>"int" | .str _=>"str" | .list _=>"list" | .tuple _=>"tuple" | .dict _=>"dict"
theorem Has.ty{K:W.Frag}{H:Hp}{d:PyData}{v:V}(h:Has H d v):TyOf K H v (.type (tyD d)):=by
 cases d with
 | none=>rw [zdf.mp h]; exact .non
 | bool b=>rw [zcM.mp h]; exact .bl b
 | int i=>rw [zbV.mp h]; exact .int i
 | str x=>rw [zbP.mp h]; exact .str x
 | list ds=>obtain⟨a,vs,rfl,e,_⟩:=zaN.mp h; exact .lst e
 | tuple ds=>obtain⟨a,vs,rfl,e,_⟩:=zai.mp h; exact .tup e
 | dict kvs =>
  obtain⟨a,vs,rfl,e,_⟩:=ziu.mp h;rcases e with ⟨ob,m,e,_⟩ | ⟨ob,p,m,e,_⟩
  ·exact .dK (.inr ⟨ob,e⟩)
  ·exact .dT (.inr ⟨ob,e⟩)
def zrf:List String:=["NoneType","bool","int","str","list","tuple","dict"]
def zl0:List String:=["int","bool","str","list","tuple","dict"]
def zlN(t c:String):Bool:=t == c || (t == "bool" && c == "int")
def zoe(d:PyData)(c:String):Bool:=zlN (tyD d) c
theorem zos(d:PyData):tyD d∈zrf:=by cases d <;> simp [tyD,zrf]
theorem zn4(K:W.Frag){t c:String}(ht:t∈zrf)(hc:c∈zl0):W.kitOne K (.type t) (.type c)=some (zlN t c):=by
 simp only [zrf,zl0,mem_cons,not_mem_nil,or_false] at ht hc;rcases ht with rfl | rfl | rfl | rfl | rfl | rfl | rfl <;> rcases hc with rfl | rfl | rfl | rfl | rfl | rfl <;> rfl
def zro:List V->Hp->VK->Prop
 | [x,.ty c],H,Q=>∃ d,Has H d x/\c∈zl0/\Q (.bl (zoe d c)) H
 | _,_,_=>False
theorem znS{H:Hp}{d:PyData}{x:V}{c:String}{Q:VK}(h:Has H d x)(hc:c∈zl0)(q:Q (.bl (zoe d c)) H):zro [x,.ty c] H Q:=⟨d,h,hc,q⟩
section
variable {X:Cx}
theorem zaC:CallR X (.builtin "isinstance") zro:=by
 intro zh s σ H xs us Q I r h
 match xs,h with
 | [x,.ty c],h =>
  obtain⟨d,hx,hc,q⟩:=h;obtain⟨u,w',rfl,ru,rw'⟩:=vals2 r;cases (show w'=Value.type c from rw');exact zkr I ru hx.ty (zn4 X.K (zos d) hc) fun tk=>⟨.bl _,H,I.tok tk,rfl,q⟩
end
def sp1(p:V->Hp->VK->Prop):Sp:=fun vs H Q _=>match vs with | [x]=>p x H Q | _=>False
def sp2(p:V->V->Hp->VK->Prop):Sp:=fun vs H Q _=>match vs with | [x,y]=>p x y H Q | _=>False
theorem zkl{p:V->Hp->VK->Prop}:∀ (vs:List V) (H:Hp) (Q:VK) (E:XK),sp1 p vs H Q E->∃ x,vs=[x]/\p x H Q:=by
 intro vs H Q E h
 match vs,h with
 | [x],h=>exact⟨x,rfl,h⟩
theorem zkc{p:V->V->Hp->VK->Prop}:∀ (vs:List V) (H:Hp) (Q:VK) (E:XK),sp2 p vs H Q E->∃ x y,vs=[x,y]/\p x y H Q:=by
 intro vs H Q E h
 match vs,h with
 | [x,y],h=>exact⟨x,y,rfl,h⟩
structure Dd(K:W.Frag)(mg:Str->Option Value)(x:Str)(st:Stmt)(ps:List Str):Prop where
 ex:∃ f fd,Fun K x x st f fd/\mg x=some (.ref f)/\Binds K fd ps []
structure Df(P:Program)(w:World)(K:W.Frag)(mg:Str->Option Value)(base:Heap)(x:Str)(ps:List Str)(k:Nat)(sp:Sp):Prop where
 ex:∃ f fd,FnOk P w K mg base CX0 k f fd ps sp/\mg x=some (.ref f)/\W.keepIn K (.ref f)=true/\Binds K fd ps []
section
variable {P:Program} {w:World} {K:W.Frag} {mg:Str->Option Value} {base:Heap} {x a b c d e:Str} {st:Stmt} {N:List Str} {k:Nat}
theorem Df.of{ps:List Str}{sp:Sp}(D:Dd K mg x st ps)(S:FnScope N ps (zn st))(len:∀ vs H Q E,sp vs H Q E->vs.length=ps.length)
  (hbody:∀ (f:Addr) (cdv:Value) (A:Around) (outer:List Env) (s:Shared) (H:Hp) (vs:List V) (Q:VK) (E:XK),Room k (A.deeper (envOfC x (zn st) s.heap.objs.size f cdv))->sp vs H Q E ->
   ∃ t,PSs (zlO CX0 P w K mg base N x (zn st) f cdv A outer s H E).nox (zbw st) t/\t { nx:=fun _ H'=>Q .non H',rt:=Q } (start N vs) H):Df P w K mg base x ps (k+1) sp:=by
 obtain⟨f,fd,F,hm,hb⟩:=D.ex;exact⟨f,fd,F.ok S len (hbody f),hm,F.kp,hb⟩
theorem Df.of2{p:V->V->Hp->VK->Prop}(D:Dd K mg x st [a,b])(S:FnScope N [a,b] (zn st))(σ0:V->V->St)(hs:∀ v u,start N [v,u]=σ0 v u)
  (hbody:∀ (f:Addr) (cdv:Value) (A:Around) (outer:List Env) (s:Shared) (H:Hp) (v u:V) (Q:VK) (E:XK),Room k (A.deeper (envOfC x (zn st) s.heap.objs.size f cdv))->p v u H Q ->
   ∃ t,PSs (zlO CX0 P w K mg base N x (zn st) f cdv A outer s H E).nox (zbw st) t/\t { nx:=fun _ H'=>Q .non H',rt:=Q } (σ0 v u) H):Df P w K mg base x [a,b] (k+1) (sp2 p):=by
 refine Df.of D S (fun vs H Q E h=>?_) fun f cdv A outer s H vs Q E hr h=>?_
 ·obtain⟨x,y,rfl,_⟩:=zkc vs H Q E h;rfl
 ·obtain⟨x,y,rfl,h⟩:=zkc vs H Q E h;rw [hs];exact hbody f cdv A outer s H x y Q E hr h
end
def tC2(p:V->V->Hp->VK->Prop)(ta tb:TE):TE:=fun σ H Q=>ta σ H fun x H1=>tb σ H1 fun y H2=>p x y H2 Q
section
variable {X:Cx} {x a b c d e':Str} {k j:Nat} {pos pos':Pos} {e1 e2 e3 e4 e5:Expr} {t1 t2 t3 t4 t5:TE}
theorem zpf{p:V->V->Hp->VK->Prop}(D:Df X.prog X.w X.K X.mg X.base x [a,b] k (sp2 p))(hr:Room j X.A)(hk:k<=j)(h1:PE X e1 t1)(h2:PE X e2 t2)(hg:Gl X x:=by rfl)(hdb:(x == ("__debug__":Str))=false:=by decide)
  (q1:starEach [e1,e2] X.env=(false,eval e1 X.env) :: starEach [e2] X.env:=by rfl) (q2:starEach [e2] X.env=(false,eval e2 X.env) :: starEach [] X.env:=by rfl)
  (hpl:(backTo pos (starEach [e2] X.env)).any (·.1)=false:=by rfl):PE X (.Call (.Name x pos') [e1,e2] [] pos) (tC2 p t1 t2):=by
 obtain⟨f,fd,F,hm,kp,hb⟩:=D.ex;intro zh s σ H Q I h;exact zkD (dvs:=[]) (ds:=[]) (E:=E0) F (hr.mono hk) hg hm kp hb .nil pass0 (zc h1 (zc h2 zf q2) q1) hdb q1 hpl zh s σ H Q I h
end
theorem Dd.mk'{K:W.Frag}{h:Heap}{mg:Str->Option Value}(X:K.In h)(G:h.Ns mainGlobals mg){x:Str}{st:Stmt}{ps:List Str}{f:Addr}{oc:Value}{od an:Option Addr}{osl:Array (Option Value)}{kV doc pm cdv ct:Value}
  (a:W.nsIn K mainGlobals x=some (some (.ref f))) (l:K.lookup f=some ⟨oc,od,.func (W.fnOf x x (zdH st) (zbw st) (zn st) .none kV doc pm an cdv ct),osl⟩)
  (c:W.codeIn K cdv x=true) (k:W.keepIn K (.ref f)=true)
  (hb:∀ (kV doc pm:Value) (an:Option Addr) (cdv ct:Value) (us:List Value),us.length=ps.length->bindArgs (W.fnOf x x (zdH st) (zbw st) (zn st) .none kV doc pm an cdv ct) ⟨us,[]⟩=pure (ps.zip us)):Dd K mg x st ps :=
 ⟨f,_,zm4 (st:=st) l c k,W.mg_of X G a,(zm4 (st:=st) l c k).binds hb⟩
theorem za5:bootBuiltins "len" = some (.builtin "len"):=by decide +kernel
theorem zH:bootBuiltins "isinstance" = some (.builtin "isinstance"):=by decide +kernel
theorem znc:bootBuiltins "max" = some (.builtin "max"):=by decide +kernel
theorem zpm:bootBuiltins "min" = some (.builtin "min"):=by decide +kernel
theorem zmS:bootBuiltins "abs" = some (.builtin "abs"):=by decide +kernel
theorem ziz:bootBuiltins "int" = some (.type "int"):=by decide +kernel
theorem zll:bootBuiltins "bool" = some (.type "bool"):=by decide +kernel
theorem zcP:bootBuiltins "str" = some (.type "str"):=by decide +kernel
theorem zn9:bootBuiltins "list" = some (.type "list"):=by decide +kernel
theorem zbh:bootBuiltins "tuple" = some (.type "tuple"):=by decide +kernel
section
variable {H:Hp} {Q:VK}
theorem zmt{i:Nat}{σ:St}:zlR i σ H Q↔match σ[i]? with | some (some v)=>Q v H | _=>False:=by
 unfold zlR;constructor
 ·rintro⟨v,e,q⟩;rw [e];exact q
 ·intro h;split at h
  ·rename_i v e;exact⟨v,e,h⟩
  ·exact h.elim
theorem zjT{g:Int->Int->V}{i j:Int}:rI0 g (.int i) (.int j) H Q↔Q (g i j) H :=
 ⟨fun⟨_,_,e1,e2,q⟩=>by cases e1; cases e2; exact q,fun q=>⟨i,j,rfl,rfl,q⟩⟩
theorem zrB{p:Bool->Prop}{b:Bool}:(∃ c,V.bl b=V.bl c/\p c)↔p b:=⟨fun⟨_,e,q⟩=>by cases e; exact q,fun q=>⟨b,rfl,q⟩⟩
end
section
variable {K:W.Frag} {H:Hp} {Q:VK} {x y:V} {d:PyData} {ds:List PyData}
def zrg(K:W.Frag):List V->Hp->VK->Prop:=fun xs H Q=>∃ p ys,xs=[.ref p]/\(SqL K H p ys\/SqT K H p ys)/\Q (.int ys.length) H
end
section
variable {X:Cx}
theorem zlJ:CallR X (.builtin "len") (zrg X.K):=zez
end
def hid(a:Addr)(H:Hp):Hp:=fun b=>if b=a then none else H b
theorem zqz{a b:Addr}{H:Hp}(h:b≠a):hid a H b=H b:=if_neg h
theorem zl2{a:Addr}{H:Hp}:hid a H a=none:=if_pos rfl
theorem Same.laid{H:Hp}{p:Addr}{o:HO}(h:H p=none):Same H (upd H p o):=fun b u e=>by
 rw [zF (zQ e h)];exact e
section
variable {X:Cx} {zh:List (Addr×Obj)} {σ:St} {H:Hp} {s:Shared} {a:Addr} {m:List (Key×V)}
def zsx(i:Nat)(t:TS):TS:=fun D σ H=>t { D with nx:=fun σ' H'=>∃ a m,σ'[i]? = some (some (.ref a))/\H' a=some (.dK m)/\∀ ob,D.nx σ' (upd H' a (.frz ob (.dK m))) } σ H
end
end
section
theorem zlE(d:PyData):zoe d "int" = match d with | .int _=>true | .bool _=>true | _=>false:=by cases d <;> first | rfl | (show zlN _ _=_; simp [zlN,tyD])
theorem zi0(d:PyData):zoe d "bool" = match d with | .bool _=>true | _=>false:=by cases d <;> first | rfl | (show zlN _ _=_; simp [zlN,tyD])
theorem zhJ(d:PyData):zoe d "tuple" = match d with | .tuple _=>true | _=>false:=by cases d <;> first | rfl | (show zlN _ _=_; simp [zlN,tyD])
theorem zkO(d:PyData):zoe d "str" = match d with | .str _=>true | _=>false:=by cases d <;> first | rfl | (show zlN _ _=_; simp [zlN,tyD])
def vw:List Addr->Hp->Hp
 | [],H=>H
 | a :: r,H=>hid a (vw r H)
def zoD(K:W.Frag):V->V->Hp->VK->Prop:=fun x y H Q=>∃ (a:Addr) (ns:List Int) (i:Int),x=.ref a/\y=.int i/\SqL K H a (ns.map V.int)/\0<=i/\∀ n,Q (.int n) H
theorem zoz{ns:List Int}{i:Int}(h0:0<=i)(h1:i<((ns.map V.int).length:Int)):∃ n,atI (ns.map V.int) i=some (.int n):=by
 obtain⟨k,rfl⟩:=Int.eq_ofNat_of_zero_le h0;have hk:k<ns.length:=by rw [length_map] at h1; omega
 exact⟨ns[k],zcB (by rw [getElem?_map,getElem?_eq_getElem hk]; rfl)⟩
theorem zmG{ns:List Int}{lo hi:Option Int}{x:V}(h:x∈zjz (ns.map V.int) lo hi):∃ n,x=.int n:=by
 have h1:=List.mem_of_mem_drop (mem_of_mem_take h);obtain⟨n,_,e⟩:=mem_map.mp h1;exact⟨n,e.symm⟩
theorem Fun.bind1{K:W.Frag}{x a:Str}{st:Stmt}{f:Addr}{fd:FuncData}(F:Fun K x x st f fd)
  (h:∀ (kV doc pm:Value) (an:Option Addr) (cdv ct:Value) (u:Value),bindArgs (W.fnOf x x (zdH st) (zbw st) (zn st) .none kV doc pm an cdv ct) ⟨[u],[]⟩=pure [(a,u)]):∀ (s:Shared) (u:Value),BindsTo s fd ⟨[u],[]⟩ [(a,u)]:=by
 obtain⟨oc,od,kV,doc,pm,an,cdv,ct,osl,rfl,lk,hcd⟩:=F.ex;exact fun s u=>.of_eq (h kV doc pm an cdv ct u)
def zrI(K:W.Frag):V->Hp->VK->Prop:=fun x H Q=>∃ (a:Addr) (ns:List Int),x=.ref a/\SqL K H a (ns.map V.int)/\ns.length<=63/\∀ H',Q (.bl true) H'
theorem walk_law{l:W.OpenLaw}{k:Nat}{q:Program}{loose:List Str}{XP:(Str->Option Value)->Heap->Prop}{YP:World->Heap->Prop}{d:DefRec}{K:Params->W.Frag}(hn:l.most=some 63)(hdf:d.params.defaults=[])
  (hr:Room k callerA) (hY:∀ (w:World) (h:Heap),YP w h->(K w.params).In h) (hT:∀ (w:World) (h:Heap),YP w h->TabsOk (K w.params) h)
  (F:∀ (w:World) (mg:Str->Option Value) (fa:Addr) (h:Heap),(K w.params).In h->h.Ns mainGlobals mg->mg d.name=some (.ref fa) ->
   ∃ fd:FuncData,(∀ (s:Shared) (u:Value),BindsTo s fd ⟨[u],[]⟩ [("script",u)])/\∀ base:Heap,(K w.params).In base->base.Ns mainGlobals mg->FnOk l.prog w (K w.params) mg base CX0 k fa fd ["script"] (sp1 (zrI (K w.params)))) :
  W.WalkO q loose XP YP l.row.toRowW d [] (fun f vs=>PySem.call f vs) :=
 L2.walk_of (n:=63) (k:=k) (x:="script") (CX:=fun _=>CX0) (sp:=fun w=>sp1 (zrI (K w.params))) hn dz hdf hr hY hT F (fun _ _ a ns hl _ hS=>⟨a,ns,rfl,hS,hl,fun _=>rfl⟩) fun _ _ _ _ _ z=>z
theorem Fun.ok1{P:Program}{w:World}{K:W.Frag}{mg:Str->Option Value}{base:Heap}{x a:Str}{st:Stmt}{f:Addr}{fd:FuncData}{N:List Str}{k:Nat}{p:V->Hp->VK->Prop}(F:Fun K x x st f fd)(S:FnScope N [a] (zn st))(σ0:V->St)(hs:∀ v,start N [v]=σ0 v)
  (hbody:∀ (cdv:Value) (A:Around) (outer:List Env) (s:Shared) (H:Hp) (v:V) (Q:VK) (E:XK),Room k (A.deeper (envOfC x (zn st) s.heap.objs.size f cdv))->p v H Q ->
   ∃ t,PSs (zlO CX0 P w K mg base N x (zn st) f cdv A outer s H E).nox (zbw st) t/\t { nx:=fun _ H'=>Q .non H',rt:=Q } (σ0 v) H):FnOk P w K mg base CX0 (k+1) f fd [a] (sp1 p):=by
 refine F.ok S (fun vs H Q E h=>?_) fun cdv A outer s H vs Q E hr h=>?_
 ·obtain⟨x,rfl,_⟩:=zkl vs H Q E h;rfl
 ·obtain⟨x,rfl,h⟩:=zkl vs H Q E h;rw [hs];exact hbody cdv A outer s H x Q E hr h
end
section
mutual
theorem Has.reads{X:Cx}{zh:List (Addr×Obj)}{σ:St}{H:Hp}{s:Shared}(I:Inv X zh σ H s):∀ (d:PyData) (v:V) (u:Value),Has H d v->d.canLay0=true->RelV v u->∃ as,Reads s.heap u d as
 | .none,v,u,h,_,r=>by
  rw [zdf.mp h] at r;cases (show u=Value.none from r);exact⟨_,.none⟩
 | .bool b,v,u,h,_,r=>by
  rw [zcM.mp h] at r;cases (show u=Value.bool b from r);exact⟨_,.bool b⟩
 | .int i,v,u,h,_,r=>by
  rw [zbV.mp h] at r;obtain⟨t,q⟩:=(show ∃ t,u=Value.int i t from r);cases q;exact⟨_,.int i t⟩
 | .str x,v,u,h,_,r=>by
  rw [zbP.mp h] at r;obtain⟨t,q⟩:=(show ∃ t,u=Value.str x t from r);cases q;exact⟨_,.str x t⟩
 | .list ds,v,u,h,c,r=>by
  obtain⟨a,vs,rfl,e,l⟩:=zaN.mp h;cases (show u=Value.ref a from r);obtain⟨_,its,n,rv,e1⟩:=(show ObjOk X.prog X.w H s.heap a (.lst vs) from I.hok a _ e);obtain⟨as,q⟩:=HasL.reads I ds vs its l (by simpa only [PyData.canLay0] using c) rv;exact⟨_,.list e1 rfl rfl (by simpa using q)⟩
 | .tuple ds,v,u,h,c,r=>by
  obtain⟨a,vs,rfl,e,l⟩:=zai.mp h;cases (show u=Value.ref a from r);obtain⟨_,its,rv,o,e1,e2,n,e3⟩:=(show ObjOk X.prog X.w H s.heap a (.tup vs) from I.hok a _ e);obtain⟨as,q⟩:=HasL.reads I ds vs its l (by simpa only [PyData.canLay0] using c) rv;exact⟨_,.tuple e1 e2 e3 (by simpa using q)⟩
 | .dict _,_,_,_,c,_=>by simp [PyData.canLay0] at c
theorem HasL.reads{X:Cx}{zh:List (Addr×Obj)}{σ:St}{H:Hp}{s:Shared}(I:Inv X zh σ H s):∀ (ds:List PyData) (vs:List V) (us:List Value),HasL H ds vs->PyData.canLayAll0 ds=true->Vals vs us->∃ as,ReadsAll s.heap us ds as
 | [],vs,us,h,_,r=>by
  rw [zw.mp h] at r;cases r;exact⟨_,.nil⟩
 | d :: ds,vs,us,h,c,r=>by
  obtain⟨v,w',rfl,h1,h2⟩:=zu.mp h;have c':d.canLay0=true/\PyData.canLayAll0 ds=true:=by simpa [PyData.canLayAll0] using c
  cases r with
  | cons r1 r2 =>
   obtain⟨as,q1⟩:=Has.reads I d v _ h1 c'.1 r1;obtain⟨bs,q2⟩:=HasL.reads I ds w' _ h2 c'.2 r2;exact⟨_,.cons q1 q2⟩
end
def zr7:R2:=fun x y H Q=>∃ d e,Has H d x/\Has H e y/\SeqAt.shaped d=true/\SeqAt.shaped e=true/\Q (.bl (PyData.eqv d e)) H
def zsg:R2:=fun x y H Q=>∃ d e,Has H d x/\Has H e y/\SeqAt.shaped d=true/\SeqAt.shaped e=true/\Q (.bl (!PyData.eqv d e)) H
section
variable {X:Cx}
theorem zbO(hu:X.A.units+64<cLine):OpR X (compareOp .Eq) zr7:=by
 intro zh s σ H x y v u Q I rx ry h;obtain⟨d,e,hd,he,sd,se,q⟩:=h;obtain⟨as,q1⟩:=Has.reads I d x v hd (SeqAt.canLay_of_shaped sd) rx;obtain⟨bs,q2⟩:=Has.reads I e y u he (SeqAt.canLay_of_shaped se) ry;exact eq_dataH q1 q2 sd se hu ⟨.bl _,H,I,rfl,q⟩
theorem zfp(hu:X.A.units+64<cLine):OpR X (compareOp .NotEq) zsg:=by
 intro zh s σ H x y v u Q I rx ry h;obtain⟨d,e,hd,he,sd,se,q⟩:=h;obtain⟨as,q1⟩:=Has.reads I d x v hd (SeqAt.canLay_of_shaped sd) rx;obtain⟨bs,q2⟩:=Has.reads I e y u he (SeqAt.canLay_of_shaped se) ry;exact ne_dataH q1 q2 sd se hu ⟨.bl _,H,I,rfl,q⟩
end
section
variable {prog:Program} {w:World} {A:Around} {E:Value->Shared->Prop} {s:Shared} {l:Addr}
theorem zjL{xs:Array (Int×Tok)}{Q:Value->Shared->Prop}(hh:A.handled=none)(hl:s.heap.IsTuple l (intItems xs))(hne:0<xs.size)
  (h:∀ v h' tk,(intItems xs)[argBest (fun i j=>decide (numAt xs i<numAt xs j)) (xs.size - 1)]? = some v->(∀ b o,s.heap.get? b=some o->h'.get? b=some o)->Q v { s with heap:=h',toks:=tk }) :
  wpAny (model prog w) A (call (.builtin "min") [.ref l]) Q E s:=by
 have hlt:l<s.heap.objs.size:=by obtain⟨o,e,_⟩:=hl; exact lt_size e
 refine call_min_walk (wpAny_pyIter_tuple hl ?_);refine⟨_,[_,l],[_],_,_,_,_,rfl,Walks.tuple (A:=A.in1) hh _ l (ne_of_lt hlt) (intItems xs),⟨⟨_,get?_push_size _ rfl,rfl,rfl⟩,hl.push _⟩,fun c hc=>?_,by simpa [intItems] using hne,CmpOf.ints_lt (numAt xs) (fun _ _=>intItems_at),fun v h' tk hP hk=>?_⟩
 ·show c<(s.heap.push _).objs.size;rw [size_push];rcases mem_cons.mp hc with rfl | hc
  ·exact lt_succ_self _
  ·rcases mem_cons.mp hc with rfl | hc
   ·exact lt_succ_of_lt hlt
   ·cases hc
 ·refine h v h' tk (by simpa [intItems] using hP) fun b o e=>hk b o (fun hm=>?_) (get?_push_of_some _ e);rcases mem_cons.mp hm with e1 | hm
  ·exact absurd (e1▸lt_size e) (lt_irrefl _)
  ·cases hm
theorem zjo{xs:Array (Int×Tok)}{Q:Value->Shared->Prop}(hh:A.handled=none)(hl:s.heap.IsTuple l (intItems xs))(hne:0<xs.size)
  (h:∀ v h' tk,(intItems xs)[argBest (fun i j=>decide (numAt xs i>numAt xs j)) (xs.size - 1)]? = some v->(∀ b o,s.heap.get? b=some o->h'.get? b=some o)->Q v { s with heap:=h',toks:=tk }) :
  wpAny (model prog w) A (call (.builtin "max") [.ref l]) Q E s:=by
 have hlt:l<s.heap.objs.size:=by obtain⟨o,e,_⟩:=hl; exact lt_size e
 refine call_max_walk (wpAny_pyIter_tuple hl ?_);refine⟨_,[_,l],[_],_,_,_,_,rfl,Walks.tuple (A:=A.in1) hh _ l (ne_of_lt hlt) (intItems xs),⟨⟨_,get?_push_size _ rfl,rfl,rfl⟩,hl.push _⟩,fun c hc=>?_,by simpa [intItems] using hne,CmpOf.ints_gt (numAt xs) (fun _ _=>intItems_at),fun v h' tk hP hk=>?_⟩
 ·show c<(s.heap.push _).objs.size;rw [size_push];rcases mem_cons.mp hc with rfl | hc
  ·exact lt_succ_self _
  ·rcases mem_cons.mp hc with rfl | hc
   ·exact lt_succ_of_lt hlt
   ·cases hc
 ·refine h v h' tk (by simpa [intItems] using hP) fun b o e=>hk b o (fun hm=>?_) (get?_push_of_some _ e);rcases mem_cons.mp hm with e1 | hm
  ·exact absurd (e1▸lt_size e) (lt_irrefl _)
  ·cases hm
theorem zgE{vs:List Value}{ns:List Int}(hi:IntsAre vs ns):∃ xs:Array (Int×Tok),vs.toArray=intItems xs/\ns=xs.toList.map (·.1):=by
 obtain⟨xs,e⟩:=hi.allInts.items;exact⟨xs,e,by rw [<- hi.numsOf,<- nums_intItems,<- e]⟩
end
def zrr(K:W.Frag):List V->Hp->VK->Prop:=fun xs H Q=>∃ p ns,xs=[.ref p]/\(SqL K H p (ns.map V.int)\/SqT K H p (ns.map V.int))/\ns≠[]/\∀ m,m∈ns->(∀ a,a∈ns->m<=a)->Q (.int m) H
def zsj(K:W.Frag):List V->Hp->VK->Prop:=fun xs H Q=>∃ p ns,xs=[.ref p]/\(SqL K H p (ns.map V.int)\/SqT K H p (ns.map V.int))/\ns≠[]/\∀ m,m∈ns->(∀ a,a∈ns->a<=m)->Q (.int m) H
section
variable {X:Cx}
theorem zlq(hc:X.calm=true):CallR X (.builtin "min") (zrr X.K):=by
 intro zh s σ H xs us Q I r h;obtain⟨p,ns,rfl,hq,hne,q⟩:=h;obtain⟨u,rfl,rx⟩:=vals1 r;cases (show u=Value.ref p from rx);have done:∀ (ys:Array (Int×Tok)) (v:Value) (h':Heap) (tk:Nat),ns=ys.toList.map (·.1)->0<ys.size->(intItems ys)[argBest (fun i j=>decide (numAt ys i<numAt ys j)) (ys.size - 1)]? = some v ->
   (∀ b o,s.heap.get? b=some o->h'.get? b=some o)->EP X zh σ Q v { s with heap:=h',toks:=tk }:=by
  intro ys v h' tk hns hsz hv hk;obtain⟨t,rfl⟩:=intItems_at hv;obtain⟨h1,h2⟩:=argBest_lt (numAt ys) (ys.size - 1);refine⟨.int _,H,I.kept (t':=tk) hk,⟨t,rfl⟩,q _ ?_ fun a ha=>?_⟩
  ·rw [hns,numAt_eq]; exact getD_mem (by rw [length_map,length_toList]; omega)
  ·rw [hns] at ha;obtain⟨j,hj,rfl⟩:=mem_getD ha;rw [length_map,length_toList] at hj;rw [<- numAt_eq]; exact h2 j (by omega)
 rcases hq with hq | hq
 ·obtain⟨its,rv,pl,_⟩:=I.list hq;obtain⟨ys,e,hns⟩:=zgE (zbK rv);have hsz:0<ys.size:=by
   cases ys with
   | mk l=>cases l with
    | nil=>exact absurd hns hne
    | cons _ _=>exact Nat.succ_pos _
  exact min_intList (I.ok.hd hc) (by rw [<- e]; exact pl.isList) hsz fun v h' tk hv hk=>done ys v h' tk hns hsz hv hk
 ·obtain⟨its,rv,pl,_⟩:=I.tuple hq;obtain⟨ys,e,hns⟩:=zgE (zbK rv);have hsz:0<ys.size:=by
   cases ys with
   | mk l=>cases l with
    | nil=>exact absurd hns hne
    | cons _ _=>exact Nat.succ_pos _
  exact zjL (I.ok.hd hc) (by rw [<- e]; exact pl) hsz fun v h' tk hv hk=>done ys v h' tk hns hsz hv hk
theorem zlv(hc:X.calm=true):CallR X (.builtin "max") (zsj X.K):=by
 intro zh s σ H xs us Q I r h;obtain⟨p,ns,rfl,hq,hne,q⟩:=h;obtain⟨u,rfl,rx⟩:=vals1 r;cases (show u=Value.ref p from rx);have done:∀ (ys:Array (Int×Tok)) (v:Value) (h':Heap) (tk:Nat),ns=ys.toList.map (·.1)->0<ys.size->(intItems ys)[argBest (fun i j=>decide (numAt ys i>numAt ys j)) (ys.size - 1)]? = some v ->
   (∀ b o,s.heap.get? b=some o->h'.get? b=some o)->EP X zh σ Q v { s with heap:=h',toks:=tk }:=by
  intro ys v h' tk hns hsz hv hk;obtain⟨t,rfl⟩:=intItems_at hv;obtain⟨h1,h2⟩:=argBest_gt (numAt ys) (ys.size - 1);refine⟨.int _,H,I.kept (t':=tk) hk,⟨t,rfl⟩,q _ ?_ fun a ha=>?_⟩
  ·rw [hns,numAt_eq]; exact getD_mem (by rw [length_map,length_toList]; omega)
  ·rw [hns] at ha;obtain⟨j,hj,rfl⟩:=mem_getD ha;rw [length_map,length_toList] at hj;rw [<- numAt_eq]; exact h2 j (by omega)
 rcases hq with hq | hq
 ·obtain⟨its,rv,pl,_⟩:=I.list hq;obtain⟨ys,e,hns⟩:=zgE (zbK rv);have hsz:0<ys.size:=by
   cases ys with
   | mk l=>cases l with
    | nil=>exact absurd hns hne
    | cons _ _=>exact Nat.succ_pos _
  exact max_intList (I.ok.hd hc) (by rw [<- e]; exact pl.isList) hsz fun v h' tk hv hk=>done ys v h' tk hns hsz hv hk
 ·obtain⟨its,rv,pl,_⟩:=I.tuple hq;obtain⟨ys,e,hns⟩:=zgE (zbK rv);have hsz:0<ys.size:=by
   cases ys with
   | mk l=>cases l with
    | nil=>exact absurd hns hne
    | cons _ _=>exact Nat.succ_pos _
  exact zjo (I.ok.hd hc) (by rw [<- e]; exact pl) hsz fun v h' tk hv hk=>done ys v h' tk hns hsz hv hk
end
section
variable {K:W.Frag} {o:List Addr} {σ:St} {H0:Hp} {t t1 t2 t3 t4 t5:TE} {ta:TA} {tt tu:TT} {d d1 d2 d3 d4 d5:PyData} {ds:List PyData} {b c:Bool}
def zon:PyData->Bool
 | .none=>true
 | _=>false
end
def spD(a b:Int):PyData:=.tuple [.int a,.int b]
end
section
theorem zks{K:W.Frag}{a:Addr}{ns:List Int}{N:Int}{j:Nat}{tb:TS}{D:Ends}{σ:St}{H:Hp}(P:St->Prop)(h0:σ[0]? = some (some (.ref a)))(hS:SqL K H a (ns.map V.int))(hlen:ns.length<=63)(hP:P σ)
  (turn:∀ (n:Int) (σ:St) (H1 H2:Hp),P σ->Same H H1->Same H1 H2->tb { D with nx:=fun σ' H'=>Same H1 H'/\P σ',ct:=fun σ' H'=>Same H1 H'/\P σ',bk:=D.nx } (σ.set j (some (.int n))) H2)
  (done:∀ (σ:St) (H1:Hp),P σ->Same H H1->D.nx σ H1) :
  zqX (zoh K (tOp zo5 (zo7 (zjh (tC2 (zoD K) (zlR 0) (tC (.int 0))) zo3)) (tSl (zqk K) (zlR 0) (zjA (tC (.int 1))) (zjA (tC (.int N)))))) (zic j) tb D σ H:=by
 refine⟨_,h0,a,ns,0,rfl,rfl,hS,by decide,fun n0=>⟨by show 1<=sizeLine; decide,fun p hp=>?_⟩⟩;have s1:Same H (upd H p (.lst [.int n0])):=Same.laid hp;refine⟨_,h0,_,rfl,_,rfl,a,_,rfl,s1.seq hS,fun p2 hp2=>?_⟩;have s2:=s1.trans (Same.laid (o:=.lst (zjz (ns.map V.int) (some 1) (some N))) hp2);have np:p≠p2:=zQ zaq hp2;have hz:(zjz (ns.map V.int) (some 1) (some N)).length<=63:=le_trans (zdC _ _ _) (by rw [length_map]; exact hlen);refine⟨p,p2,_,_,rfl,rfl,by rw [zF np,zaq],zaq,le_of_lt (small1000 (by simp only [length_cons,length_nil]; omega)),fun p3 hp3=>?_⟩;have s3:=s2.trans (Same.laid (o:=.lst ([V.int n0]++zjz (ns.map V.int) (some 1) (some N))) hp3);refine⟨p3,rfl,⟨_,.of zaq⟩,zl9 (K:=K) (a:=p3) (xs:=[V.int n0]++zjz (ns.map V.int) (some 1) (some N)) (fun i σ' H'=>Same _ H'/\P σ') ⟨Same.refl _,hP⟩ (fun i σ H4 _ ⟨s4,_⟩=>.of (s4 _ _ zaq)) ?_ ?_⟩
 ·rintro i x σ' H4 hi ⟨s4,p4⟩;obtain⟨n,rfl⟩:∃ n,x=.int n:=by
   rcases mem_append.mp (mem_of_getElem? hi) with m | m
   ·exact⟨n0,mem_singleton.mp m⟩
   ·exact zmG m
  exact turn n σ' _ H4 p4 s3 s4
 ·rintro σ' H4 ⟨s4,p4⟩;exact done σ' H4 p4 (s3.trans s4)
end
section
section
variable {prog:Program} {w:World} {A:Around} {E:Value->Shared->Prop} {R:Result->Shared->Prop} {s:Shared}
theorem zhI{elt target iter:Expr}{ifs:List Expr}{scope:Scope}{pos:Pos}{it acc:Value}{env:Env}(I:Nat->Shared->Prop)
  (turn:∀ n s,I n s->wpAny (model prog w) A (pyNext it) (fun r s₁=>match r with
   | none=>R (.ok .next) s₁
   | some v=>wpAny (model prog w) A (letOwnedTupleGo target it v) (fun _ s₀=>wpAny (model prog w) A (assign target env v) (fun _ s₂ =>
     wpAny (model prog w) A (forIn ifs true fun c r=>if r=true then do let ok <- isTrue c env (eval c env); pure (ForInStep.yield ok) else pure (ForInStep.yield r)) (fun ok s₃ =>
      if ok=true then wpAny (model prog w) A (eval elt env) (fun x s₄ =>
       wpAny (model prog w) A (call (.builtin "list.append") [acc,x]) (fun _ s₅=>∃ m,m<n/\I m s₅) (fun _ _=>False) s₄) (fun _ _=>False) s₃
      else ∃ m,m<n/\I m s₃) (fun _ _=>False) s₂) (fun _ _=>False) s₀) (fun _ _=>False) s₁) (fun _ _=>False) s)
  (n:Nat) (h:I n s) :
  codeAny (model prog w) A (.compLoop (.ListComp elt [⟨target,iter,ifs,0⟩] scope pos) 0 it acc env) R s:=by
 have up:∀ {α:Type} {t:Sem α} {Q:α->Shared->Prop} {E':Value->Shared->Prop} {s':Shared},wpAny (model prog w) A t Q (fun _ _=>False) s'->wpAny (model prog w) A t Q E' s':=fun h=>wpAny_mono h (fun _ _ q=>q) fun _ _ z=>z.elim;refine codeAny_loop rfl I (fun n s hI=>?_) n h;show wpAny _ A ((compTurn (.ListComp elt [⟨target,iter,ifs,0⟩] scope pos) 0 it acc env).onRaise (fun x=>do noteFrame x env; theTreesLotGoes x)) _ _ s;refine wpAny_noted ?_;rw [compTurn_list];refine wpAny_bind (wpAny_standAt (wpAny_bind (thn (up (turn n s hI)) fun r s₁ h₁=>?_)));cases r with
 | none=>exact wpAny_pure h₁
 | some v =>
  refine wpAny_bind (thn (up h₁) fun _ s₀ h₀=>?_);refine wpAny_bind (thn (up h₀) fun _ s₂ h₂=>wpAny_bind (thn (up h₂) fun ok s₃ h₃=>?_));cases ok with
  | false=>exact wpAny_pure ⟨rfl,h₃⟩
  | true =>
   exact wpAny_bind (wpAny_bind (thn (up h₃) fun x s₄ h₄=>wpAny_bind (thn (up h₄) fun _ s₅ h₅=>wpAny_pure (wpAny_pure ⟨rfl,h₅⟩))))
end
def zbo(X:Cx)(scope:Scope)(cl:List (Str×Addr))(C:Addr)(s₃:Shared)(H₃:Hp)(fp:List Addr)(N:List Str):Cx where
 prog:=X.prog
 w:=X.w
 K:=X.K
 mg:=X.mg
 base:=X.base
 A:=X.A
 N:=N
 s₀:=s₃
 H₀:=H₃
 env:=compEnvC scope cl C X.env
 outer:=X.stack
 stack:=X.stack
 ex:=fp
 fn:=fun _=>false
 calm:=X.calm
 pn:=[]
 xe:=fun _ _=>False
def PTs(X:Cx)(ifs:List Expr)(t:TT):Prop :=
 ∀ (zh:List (Addr×Obj)) (s:Shared) (σ:St) (H:Hp) (Q:Bool->Hp->Prop),Inv X zh σ H s->t σ H Q ->
  wpAny (model X.prog X.w) X.A (forIn ifs true fun c r=>if r=true then do let ok <- isTrue c X.env (eval c X.env); pure (ForInStep.yield ok) else pure (ForInStep.yield r)) (TP X zh σ Q) X.xe s
def zqm:TT:=fun _ H Q=>Q true H
theorem zbc{X:Cx}:PTs X [] zqm:=fun _ _ _ H _ I h=>wpAny_tests_nil ⟨H,I,h⟩
def tau(caps:List (Option Nat))(σ:St):St:=caps.map fun o=>o.bind fun i=>(σ[i]?).join
def zkx(caps:List (Option Nat))(wi:TI)(g:TG)(tt:TT)(te:TE):TE:=fun σ H Q=>wi σ H fun J H1=>∀ D,H1 D=none->∃ W:Nat->Nat->St->Hp->Prop,(∃ m,W 0 m (tau caps σ) (upd H1 D (.lst []))) /\
 ∀ i m τ H2,W i m τ H2->(J.stop i H2/\Q (.ref D) H2)\/(J.go i H2/\∀ x H3,J.yld i H2 x H3->g x τ H3 fun τ4 H4=>tt τ4 H4 fun b H5 =>
  if b=true then te τ4 H5 fun v H6=>∃ xs,H6 D=some (.lst xs)/\xs.length<sizeLine/\∃ m',m'<m/\W (i+1) m' τ4 (upd H6 D (.lst (xs++[v]))) else ∃ m',m'<m/\W (i+1) m' τ4 H5)
structure CompOk(X:Cx)(scope:Scope)(cl:List (Str×Addr))(N:List Str)(caps:List (Option Nat)):Prop where
 clos:closureFor scope X.env=pure cl
 sub:∀ x c,cl.lookup x=some c->X.env.cells.lookup x=some c
 kind:scope.kind=.function
 cell:∀ y∈scope.names,y.2≠.cell
 names:∀ y∈scope.names,y.2=.local->scope.names.lookup y.1=some .local
 has:∀ x,((relabel scope X.env).names.lookup x=some .cell\/(relabel scope X.env).names.lookup x=some .free)->∃ c,cl.lookup x=some c
 cap:∀ (j i:Nat) (x:Str),caps[j]? = some (some i)->N[j]? = some x->X.N[i]? = some x/\Vis X.env.scope x/\¬ X.env.kindOf x=some .local/\∃ c,cl.lookup x=some c/\((relabel scope X.env).names.lookup x=some .cell\/(relabel scope X.env).names.lookup x=some .free)
 len:caps.length=N.length
section
variable {X:Cx} {scope:Scope} {cl:List (Str×Addr)} {N:List Str} {caps:List (Option Nat)} {tg iter elt:Expr} {ifs:List Expr} {pos:Pos} {wi:TI} {g:TG} {tt:TT} {te:TE}
theorem zjg{zh:List (Addr×Obj)}{σ:St}{H:Hp}{s:Shared}{fp:List Addr}{h₁:Heap}{t':Nat}(c:CompOk X scope cl N caps)(I:Inv X zh σ H s)(f:∀ b∈fp,FpOk X zh H b)(fo:∀ b∈fp,∃ o,s.heap.get? b=some o)
  (hns:h₁.Ns s.heap.objs.size (fun _=>none)) (hk:∀ b o,s.heap.get? b=some o->h₁.get? b=some o) :
  Inv (zbo X scope cl s.heap.objs.size s H fp N) [] (tau caps σ) H { s with heap:=h₁,toks:=t' }:=by
 have lt:∀ b∈fp,b<s.heap.objs.size:=fun b hb=>by obtain⟨o,e⟩:=fo b hb; exact lt_size e
 have cells:∀ x k,cl.lookup x=some k->∃ v,s.heap.IsCell k v:=fun x k e=>I.cell x k (c.sub x k e);refine⟨⟨I.ok.mod,c.kind,I.ok.glob,I.ok.blt,le_refl _,fun x y k h1 h2=>I.ok.inj x y k (c.sub x k h1) (c.sub y k h2),fun x hx=>c.has x hx,fun x k h _=>absurd (show false=true from h) dz,I.ok.hd,I.ok.frames,.inl rfl,
  fun b hb=>⟨ne_of_lt (lt b hb),fun x k e=>(f b hb).2.2.2.2.1 x k (c.sub x k e)⟩,I.bs,le_trans I.ok.bsz I.sz,fun b o e hb=>?_,fun b hb z=>?_,I.stack,I.stkFree⟩,
  rfl,I.bare,Un.kept hk,⟨_,hns,fun j x v h1 h2 h3=>?_⟩,fun x k e=>?_,I.hok.fresh (le_refl _),fun x k e=>I.freeC x k (c.sub x k e),fun p hp=>absurd (show p∈([]:List (Addr×Obj)) from hp) (by simp),I.hok.kept hk,?_⟩
 ·rcases(f b hb).2.2.2.1 with q | q
  ·exact I.ok.noex b o e q
  ·exact absurd (lt_of_lt_of_le (lt_size e) (le_trans I.ok.bsz q)) (lt_irrefl _)
 ·rcases mem_cons.mp (I.stkSub b z) with q | q
  ·exact(f b hb).2.1 q
  ·exact(f b hb).2.2.1 q
 ·have h2':(caps.map fun o=>o.bind fun i=>(σ[i]?).join)[j]? = some (some v):=h2;rw [getElem?_map] at h2';cases e:caps[j]? with
  | none=>rw [e] at h2'; cases h2'
  | some oi =>
   rw [e] at h2';have h2'':(oi.bind fun i=>(σ[i]?).join)=some v:=Option.some.inj h2';cases oi with
   | none=>cases h2''
   | some i =>
    have h4:(σ[i]?).join=some v:=h2'';have h5:σ[i]? = some (some v):=by
     cases q:σ[i]? with
     | none=>rw [q] at h4; cases h4
     | some w'=>rw [q] at h4; exact congrArg some h4
    obtain⟨k1,k2,k3,cc,k4,k5⟩:=c.cap j i x e h1;obtain⟨m,hn,hl⟩:=I.loc;obtain⟨u,r,l⟩:=hl i x v k1 h5 k2;refine⟨u,r,.inr ⟨k5,cc,k4,?_⟩⟩;rcases l with ⟨q,_⟩ | ⟨_,c',hc',hcell⟩
    ·exact(k3 q).elim
    ·rw [c.sub x cc k4] at hc';cases hc';exact hcell.keeps hk
 ·obtain⟨v,q⟩:=cells x k e;exact⟨v,q.keeps hk⟩
 ·show (caps.map _).length=N.length;rw [length_map];exact c.len
theorem zkj{zh:List (Addr×Obj)}{σ τ:St}{H H':Hp}{s s':Shared}{h':Heap}{fp:List Addr}(I:Inv X zh σ H s)(f:∀ b∈fp,FpOk X zh H b)(J:Inv (zbo X scope cl s.heap.objs.size s H fp N) [] τ H' s')(hs:Heap.SameBut s.heap.objs.size s'.heap h'):
  Inv X zh σ H' { s' with heap:=h' }:=by
 have hC:H' s.heap.objs.size=none:=J.free;have keep:∀ b o,b≠s.heap.objs.size->s'.heap.get? b=some o->h'.get? b=some o:=fun b o nb e=>hs.extBut b o nb e;have u1:Un (frs X.stack) (s.heap.objs.size :: fp) H H' s.heap s'.heap:=Un.mono J.base (fun b hb=>hb) (fun b hb=>mem_cons_of_mem _ hb);have u2:Un (frs X.stack) (s.heap.objs.size :: fp) H' H' s'.heap h' :=
  ⟨fun b o e _ _ hx=>keep b o (fun z=>hx (by rw [z]; exact mem_cons_self)) e,fun b o e _ _ hx=>⟨o.slots,keep b o (fun z=>hx (by rw [z]; exact mem_cons_self)) e⟩,fun _ _ _ n _=>n,fun b o e hx=>⟨o,keep b o (fun z=>hx (by rw [z]; exact mem_cons_self)) e⟩,fun _ _ q=>q,fun _ _ _ q=>q,fun _ _ q=>q⟩
 have hok:HOk X.prog X.w H' h':=fun a o e=>(J.hok a o e).stay (fun b u hb q=>keep b u (fun z=>by
  rcases hb with hb | hb
  ·rw [<- hb,z,hC] at e; cases e
  ·rw [z,hC] at hb; cases hb) q) (fun b q=>q) fun b xs q=>q
 refine I.call' (s':={ s' with heap:=h' }) (ch:=s.heap.objs.size :: fp) J.os (u1.trans u2) hok J.bare fun b hb=>?_;rcases mem_cons.mp hb with rfl | hb
 ·refine⟨.inr I.sz,ne_of_gt I.lt,fun x k e z=>?_,fun p hp z=>?_⟩
  ·obtain⟨v,q⟩:=I.cell x k e;exact absurd q.lt (by rw [z]; exact lt_irrefl _)
  ·exact absurd (lt_size (I.pin p hp).1) (by rw [z]; exact lt_irrefl _)
 ·obtain⟨f0,f1,f2,f3,f4,f5⟩:=f b hb;exact⟨f3,f1,f4,f5⟩
theorem zf9{zh:List (Addr×Obj)}{σ:St}{H2:Hp}{s2:Shared}{it:Addr}{fp:List Addr}{tn:Nat->Heap->Prop}{J:It}{RR:Value->Addr->Result->Shared->Prop}{E:Value->Shared->Prop}(hc:X.calm=true)(c:CompOk X scope cl N caps)
  (I2:Inv X zh σ H2 s2) (T:Turn X.prog X.w X.K tg J fp it tn) (st2:tn 0 s2.heap) (f2:∀ b∈fp,FpOk X zh H2 b)
  (hg:∀ C s H fp,PG (zbo X scope cl C s H fp N) tg g) (ht:∀ C s H fp,PTs (zbo X scope cl C s H fp N) ifs tt) (he:∀ C s H fp,PE (zbo X scope cl C s H fp N) elt te)
  (Q:VK) (hq:∀ D,H2 D=none->∃ W:Nat->Nat->St->Hp->Prop,(∃ m,W 0 m (tau caps σ) (upd H2 D (.lst []))) /\
   ∀ i m τ H2,W i m τ H2->(J.stop i H2/\Q (.ref D) H2)\/(J.go i H2/\∀ x H3,J.yld i H2 x H3->g x τ H3 fun τ4 H4=>tt τ4 H4 fun b H5 =>
    if b=true then te τ4 H5 fun v H6=>∃ xs,H6 D=some (.lst xs)/\xs.length<sizeLine/\∃ m',m'<m/\W (i+1) m' τ4 (upd H6 D (.lst (xs++[v]))) else ∃ m',m'<m/\W (i+1) m' τ4 H5))
  (hRR:∀ (D C:Addr) (H':Hp) (s':Shared) (m:Str->Option Value),s'.heap.Ns C m->FpOk X zh H' C->(∀ h',Heap.SameBut C s'.heap h'->Inv X zh σ H' { s' with heap:=h' })->Q (.ref D) H'->RR (.ref D) C (.ok .next) s') :
  wpAny (model X.prog X.w) X.A (newList []) (fun acc s₃=>wpAny (model X.prog X.w) X.A (newFunctionEnv scope X.env.globals cl [] X.env.qual none .none (some X.env)) (fun cenv s₄ =>
   codeAny (model X.prog X.w) X.A (.compStart (.ListComp elt [⟨tg,iter,ifs,0⟩] scope pos) 0 (.ref it) acc { cenv with scope:=relabel scope X.env }) (RR acc cenv.locals) s₄) E s₃) E s2:=by
 have hD:H2 s2.heap.objs.size=none:=I2.hok.fresh (le_refl _);obtain⟨W,⟨m0,w0⟩,turn⟩:=hq s2.heap.objs.size hD;have I3:Inv X zh σ (upd H2 s2.heap.objs.size (.lst [])) { s2 with heap:=s2.heap.push { cls:=.type "list",data:=.seq ([]:List Value).toArray } }:=I2.laid (t':=s2.toks) (fun b u e=>get?_push_of_some _ e) (le_refl _) ⟨zero_le _,[],0,.nil,get?_push_size _ rfl⟩;have fo:∀ b∈fp,∃ o,s2.heap.get? b=some o:=fun b hb=>by obtain⟨o,e,_⟩:=T.obj 0 _ st2 b hb; exact⟨o,e⟩
 have f3:∀ b∈fp,FpOk X zh (upd H2 s2.heap.objs.size (.lst [])) b:=fun b hb=>by
  obtain⟨o,e⟩:=fo b hb;refine⟨?_,(f2 b hb).2⟩;rw [zF (ne_of_lt (lt_size e))];exact(f2 b hb).1
 refine wpAny_newObj_type (wpAny_newFunctionEnv c.cell (by intro y hy; simp at hy) (fun h₁ hns₁ hsb₁=>?_) c.kind);have hk:∀ b o,(s2.heap.push { cls:=.type "list",data:=.seq ([]:List Value).toArray }).get? b=some o->h₁.get? b=some o:=fun b o e=>hsb₁.extBut b o (ne_of_lt (lt_size e)) (get?_push_of_some _ e);have st4:tn 0 h₁:=T.keep 0 _ _ st2 fun b _ o e=>hk b o (get?_push_of_some _ e);have I4:=zjg (t':=s2.toks+([]:List (Str×Value)).length) c I3 f3 (fun b hb=>by obtain⟨o,e⟩:=fo b hb; exact⟨o,get?_push_of_some _ e⟩) hns₁ hk;have fpok:∀ {H':Hp},(∀ b∈fp,H' b=none)->∀ b∈fp,FpOk (zbo X scope cl (s2.heap.push { cls:=.type "list",data:=.seq ([]:List Value).toArray }).objs.size { s2 with heap:=s2.heap.push { cls:=.type "list",data:=.seq ([]:List Value).toArray } } (upd H2 s2.heap.objs.size (.lst [])) fp N) [] H' b:=fun hn b hb =>
  ⟨hn b hb,(I4.ok.exf b hb).1,I4.ok.exfs b hb,.inl hb,(I4.ok.exf b hb).2,fun p hp=>absurd (show p∈([]:List (Addr×Obj)) from hp) (by simp)⟩
 have loop:codeAny (model X.prog X.w) X.A (.compLoop (.ListComp elt [⟨tg,iter,ifs,0⟩] scope pos) 0 (.ref it) (.ref s2.heap.objs.size) (compEnvC scope cl (s2.heap.push { cls:=.type "list",data:=.seq ([]:List Value).toArray }).objs.size X.env))
   (RR (.ref s2.heap.objs.size) (s2.heap.push { cls:=.type "list",data:=.seq ([]:List Value).toArray }).objs.size) { s2 with heap:=h₁,toks:=s2.toks+([]:List (Str×Value)).length }:=by
  refine zhI (fun n s'=>∃ i τ H',Inv (zbo X scope cl (s2.heap.push { cls:=.type "list",data:=.seq ([]:List Value).toArray }).objs.size { s2 with heap:=s2.heap.push { cls:=.type "list",data:=.seq ([]:List Value).toArray } } (upd H2 s2.heap.objs.size (.lst [])) fp N) [] τ H' s'/\tn i s'.heap/\(∀ b∈fp,H' b=none)/\W i n τ H') ?_ m0 ⟨0,_,_,I4,st4,fun b hb=>(f3 b hb).1,w0⟩;rintro n s5 ⟨i,τ,H5,I5,st5,fr5,w5⟩;rcases turn i n τ H5 w5 with ⟨stop,qn⟩ | ⟨go,step⟩
  ·refine thn (T.done (zbo X scope cl (s2.heap.push { cls:=.type "list",data:=.seq ([]:List Value).toArray }).objs.size { s2 with heap:=s2.heap.push { cls:=.type "list",data:=.seq ([]:List Value).toArray } } (upd H2 s2.heap.objs.size (.lst [])) fp N) rfl rfl rfl hc i [] s5 τ H5 (fun _ _=>False) I5 (fpok fr5) st5 stop) fun r s6 ⟨hr,I6⟩=>?_;subst hr;obtain⟨m,hn,_⟩:=id I6.loc;exact hRR _ _ H5 s6 m hn (I3.fpOk (le_refl _) I6.free) (fun h' hs=>zkj I3 f3 I6 hs) qn
  ·refine thn (T.item (zbo X scope cl (s2.heap.push { cls:=.type "list",data:=.seq ([]:List Value).toArray }).objs.size { s2 with heap:=s2.heap.push { cls:=.type "list",data:=.seq ([]:List Value).toArray } } (upd H2 s2.heap.objs.size (.lst [])) fp N) rfl rfl rfl hc i [] s5 τ H5 (fun _ _=>False) I5 (fpok fr5) st5 go) fun r s6 ⟨u,hr,h6⟩=>?_;subst hr;refine thn h6 fun _ s7 ⟨x,H7,I7,r7,y7,st7,fr7⟩=>?_;have I7':=I7.pinned (fpok fr7) (T.obj _ _ st7);refine thn (hg _ _ _ _ _ s7 τ H7 x u _ I7' r7 (step x H7 y7)) fun _ s8 ⟨τ8,H8,I8,q8⟩=>?_;refine thn (ht _ _ _ _ _ s8 τ8 H8 _ I8 q8) fun ok s9 ⟨H9,I9,q9⟩=>?_;have again:∀ {H':Hp} {s':Shared} {m:Nat},Inv (zbo X scope cl (s2.heap.push { cls:=.type "list",data:=.seq ([]:List Value).toArray }).objs.size { s2 with heap:=s2.heap.push { cls:=.type "list",data:=.seq ([]:List Value).toArray } } (upd H2 s2.heap.objs.size (.lst [])) fp N) ([]++zhG fp s7.heap) τ8 H' s'->(m<n/\W (i+1) m τ8 H') ->
     ∃ m,m<n/\∃ i τ H',Inv (zbo X scope cl (s2.heap.push { cls:=.type "list",data:=.seq ([]:List Value).toArray }).objs.size { s2 with heap:=s2.heap.push { cls:=.type "list",data:=.seq ([]:List Value).toArray } } (upd H2 s2.heap.objs.size (.lst [])) fp N) [] τ H' s'/\tn i s'.heap/\(∀ b∈fp,H' b=none)/\W i m τ H':=fun {H' s' m} I' q=>by
    refine⟨m,q.1,i+1,τ8,H',I'.unpinned,T.keep _ _ _ st7 fun b hb o e=>(I'.pin (b,o) (mem_append_right _ (mem_append_right _ (zda hb e)))).1,fun b hb=>?_,q.2⟩;obtain⟨o,e,d⟩:=T.obj _ _ st7 b hb;exact(I'.pin (b,o) (mem_append_right _ (mem_append_right _ (zda hb e)))).2.1
   cases ok with
   | false =>
    rw [if_neg Bool.false_ne_true] at q9 ⊢;obtain⟨m',hm,w9⟩:=q9;exact again I9 ⟨hm,w9⟩
   | true =>
    rw [if_pos rfl] at q9 ⊢;refine thn (he _ _ _ _ _ s9 τ8 H9 _ I9 q9) fun v s10 ⟨z,H10,I10,r10,xs,hx,hz,m',hm,w10⟩=>?_;refine thn (zcZ _ s10 τ8 H10 (.ref s2.heap.objs.size) [z] (.ref s2.heap.objs.size) [v] (fun _ H11=>W (i+1) m' τ8 H11) I10 rfl (.cons r10 .nil) ⟨_,xs,z,rfl,rfl,hx,hz,w10⟩) fun _ s11 ⟨_,H11,I11,_,w11⟩=>?_;exact again I11 ⟨hm,w11⟩
 exact codeAny_compStart_list loop (T.self _ 0 _ _ _ st4 loop)
theorem zfB(hx:∀ e s,X.xe e s->False)(hc:X.calm=true)(c:CompOk X scope cl N caps)(hi:PI X tg iter wi)(hg:∀ C s H fp,PG (zbo X scope cl C s H fp N) tg g)(ht:∀ C s H fp,PTs (zbo X scope cl C s H fp N) ifs tt)(he:∀ C s H fp,PE (zbo X scope cl C s H fp N) elt te)
  (hs:∀ x,foldedSetIterable iter X.env x=pure x:=by intro _; rfl):PE X (.ListComp elt [⟨tg,iter,ifs,0⟩] scope pos) (zkx caps wi g tt te):=by
 intro zh s σ H Q I h;rw [eval_ListComp];refine wpAny_comprehension_free (use:=none) rfl hs c.clos c.kind c.names (thn (hi zh s σ H _ I h) fun v s1 h1=>thn h1 fun itv s2 h2=>?_);obtain⟨it,fp,tn,J,H2,e,I2,T,st2,f2,q2⟩:=h2;subst e;exact zf9 (RR:=fun acc C=>compPost (model X.prog X.w) X.A X.xe none (EP X zh σ Q) acc C) hc c I2 T st2 f2 hg ht he Q q2 fun D C H' s' m hn _ hb q=>⟨m,hn,fun h' hs=>⟨.ref D,H',hb h' hs,rfl,q⟩⟩
theorem zcx{i:Nat}{y:Str}{py spos:Pos}(hx:∀ e s,X.xe e s->False)(hc:X.calm=true)(c:CompOk X scope cl N caps)(hN:X.N.Nodup)(hyi:X.N[i]? = some y)(hl:X.env.scope.names.lookup y=some .local)(hi:PI X tg iter wi)(hg:∀ C s H fp,PG (zbo X scope cl C s H fp N) tg g)
  (ht:∀ C s H fp,PTs (zbo X scope cl C s H fp N) ifs tt) (he:∀ C s H fp,PE (zbo X scope cl C s H fp N) elt te)
  (hsw:swapsWith (.ListComp elt [⟨tg,iter,ifs,0⟩] scope pos) (some (.Name y py)) spos.line X.env=pure true:=by rfl)
  (hs:∀ x,foldedSetIterable iter X.env x=pure x:=by intro _; rfl):PS X (.Assign [.Name y py] (.ListComp elt [⟨tg,iter,ifs,0⟩] scope pos) spos) (zqC (zkx caps wi g tt te) (zic i)):=by
 intro zh s σ H D I h;rw [exec_Assign_Name_used _ _ _ _ hsw];refine wpAny_bind (wpAny_standAt (wpAny_bind ?_));show wpAny _ X.A (do let _ <- comprehension (.ListComp elt [⟨tg,iter,ifs,0⟩] scope pos) scope X.env _ (newList []) false (eval iter X.env) (some (assign (.Name y py) X.env))) _ _ s;refine wpAny_bind (wpAny_mono (wpAny_comprehension_free (use:=some (assign (.Name y py) X.env)) (Q:=fun _ s'=>SP X zh D .next s') rfl hs c.clos c.kind c.names (thn (hi zh s σ H _ I h) fun v s1 h1=>thn h1 fun itv s2 h2=>?_)) (fun _ s' hq=>wpAny_pure (wpAny_pure hq)) fun _ _ e=>e);obtain⟨it,fp,tn,J,H2,e,I2,T,st2,f2,q2⟩:=h2;subst e;refine zf9 (RR:=fun acc C=>compPost (model X.prog X.w) X.A X.xe (some (assign (.Name y py) X.env)) (fun _ s'=>SP X zh D .next s') acc C) hc c I2 T st2 f2 hg ht he (fun v H'=>D.nx (σ.set i (some v)) H') q2 fun Da C H' s' m hn f hb q=>?_;obtain⟨o,es,ep,ho,hd,r⟩:=hn;have I':Inv X zh σ H' s':=hb s'.heap (Heap.SameBut.refl _ _);have I'':Inv X (zh++[(C,o)]) σ H' s':=I'.pins_of fun p hp=>(mem_append.mp hp).elim (fun z=>I'.pin p (mem_append_right _ z)) fun z=>by
  cases mem_singleton.mp z;exact⟨ho,f.1,f.2.1,f.2.2.1,fun v e=>by rw [hd] at e; cases e⟩
 refine wpAny_assign_Name (zgt I'' hN hyi (.inl hl) (show RelV (V.ref Da) (Value.ref Da) from rfl) (fun s2 J2=>?_) (.inr hl));refine⟨m,⟨o,es,ep,(J2.pin (C,o) (mem_append_right _ (mem_append_right _ (mem_singleton.mpr rfl)))).1,hd,r⟩,fun h' hs=>?_⟩;exact⟨_,H',J2.unpinned.turned (t':=s2.toks) (fun b ob nb e=>hs.extBut b ob nb e) f.1 f.2.1 f.2.2.2.1 f.2.2.2.2.1 f.2.2.2.2.2,q⟩
end
def zkw(env:Env):List (Str×NameKind)->List (Str×Addr)->List (Str×Addr)
 | [],acc=>acc
 | (n,k) :: r,acc=>zkw env r (if k == .free then (n,(env.cells.lookup n).getD 0) :: acc else acc)
theorem ziB{env:Env}{x:Str}{c:Addr}:∀ {names:List (Str×NameKind)} {acc:List (Str×Addr)},(x,c)∈zkw env names acc->(x,c)∈acc\/((x,NameKind.free)∈names/\c=(env.cells.lookup x).getD 0)
 | [],_,h=>.inl h
 | (n,k) :: r,acc,h=>by
  rcases ziB (names:=r) h with h | ⟨h,e⟩
  ·by_cases hk:k == .free
   ·rw [if_pos hk] at h;rcases mem_cons.mp h with h | h
    ·cases h;have:k=.free:=by simpa using hk
     subst this;exact .inr ⟨mem_cons_self,rfl⟩
    ·exact .inl h
   ·rw [if_neg hk] at h;exact .inl h
  ·exact .inr ⟨mem_cons_of_mem _ h,e⟩
theorem ziT{env:Env}{p:Str×Addr}:∀ {names:List (Str×NameKind)} {acc:List (Str×Addr)},p∈acc->p∈zkw env names acc
 | [],_,h=>h
 | (n,k) :: r,acc,h=>ziT (names:=r) (by split <;> first | exact mem_cons_of_mem _ h | exact h)
theorem zgr{env:Env}{x:Str}:∀ {names:List (Str×NameKind)} {acc:List (Str×Addr)},(x,NameKind.free)∈names->∃ c,(x,c)∈zkw env names acc
 | (n,k) :: r,acc,h=>by
  rcases mem_cons.mp h with h | h
  ·cases h;exact⟨_,ziT (names:=r) (by rw [if_pos dz]; exact mem_cons_self)⟩
  ·exact zgr (names:=r) h
theorem zcw{β:Type}{x:Str}{c:β}:∀ {l:List (Str×β)},(x,c)∈l->∃ c',l.lookup x=some c'
 | (n,v) :: r,h=>by
  cases e:x == n with
  | true=>exact⟨v,by rw [lookup_cons,e]⟩
  | false =>
   rcases mem_cons.mp h with h | h
   ·cases h;simp at e
   ·obtain⟨c',q⟩:=zcw (l:=r) h;exact⟨c',by rw [lookup_cons,e]; exact q⟩
theorem zgp{env:Env}{scope:Scope}(h:∀ y∈scope.names,y.2=.free->(env.cells.lookup y.1).isSome=true):closureFor scope env=pure (zkw env scope.names []):=by
 have go:∀ (names:List (Str×NameKind)) (acc:List (Str×Addr)),(∀ y∈names,y.2=.free->(env.cells.lookup y.1).isSome=true) ->
   (forIn names acc (fun(x:Str×NameKind) (cs:List (Str×Addr))=>(if x.2 == .free then (do let c <- cellOf env x.1; pure (ForInStep.yield ((x.1,c) :: cs))) else pure (ForInStep.yield cs):Sem (ForInStep (List (Str×Addr))))))=(pure (zkw env names acc):Sem (List (Str×Addr))):=by
  intro names;induction names with
  | nil=>intro acc _; rfl
  | cons y r ih =>
   intro acc hy;obtain⟨n,k⟩:=y;rw [forIn_cons];by_cases hk:k == .free
   ·have hs:=hy (n,k) mem_cons_self (by simpa using hk);obtain⟨c,hc⟩:=isSome_iff_exists.mp hs;have hc':env.cells.lookup n=some c:=hc;simp only [hk,if_true,cellOf,hc',pure_bind,zkw,Option.getD_some];exact ih _ fun y hy'=>hy y (mem_cons_of_mem _ hy')
   ·simp only [hk,Bool.false_eq_true,if_false,pure_bind,zkw];exact ih _ fun y hy'=>hy y (mem_cons_of_mem _ hy')
 have g:=go scope.names [] h;exact(bind_pure _).trans g
def zby(DN:List Str)(dsc sc:List (Str×NameKind))(N:List Str)(caps:List (Option Nat)):Bool :=
 (caps.length == N.length) && sc.all (fun y=>y.2 != .cell && (y.2 != .free || dsc.lookup y.1 == some .cell) && (y.2 != .local || sc.lookup y.1 == some .local)) &&
 (caps.zip N).all fun p=>match p.1 with | none=>true | some i=>DN[i]? == some p.2 && dsc.lookup p.2 == some .cell && sc.lookup p.2 == some .free
theorem zcS{dsc:List (Str×NameKind)}{env:Env}{x:Str}{k:NameKind}:∀ {names:List (Str×NameKind)},(names.map fun(n,k)=>if (k == .free && env.scope.kind == .function && env.kindOf n == some .cell) then (n,.cell) else (n,k)).lookup x=some k ->
  ∃ k',names.lookup x=some k'/\(k'=k\/(k'=.free/\k=.cell))
 | [],h=>by simp at h
 | (n,k0) :: r,h=>by
  cases e:x == n with
  | true =>
   refine⟨k0,by rw [lookup_cons,e],?_⟩;rw [map_cons] at h;dsimp only at h;split at h
   ·rename_i hc;rw [lookup_cons,e] at h;have:k0=.free:=by simp at hc; exact hc.1.1
    cases h;exact .inr ⟨this,rfl⟩
   ·rw [lookup_cons,e] at h;cases h;exact .inl rfl
  | false =>
   rw [map_cons] at h;dsimp only at h;have h':(r.map fun(n,k)=>if (k == NameKind.free && env.scope.kind == .function && env.kindOf n == some .cell) then (n,NameKind.cell) else (n,k)).lookup x=some k:=by
    split at h <;> (rw [lookup_cons,e] at h; exact h)
   obtain⟨k',q,z⟩:=zcS (dsc:=dsc) h';exact⟨k',by rw [lookup_cons,e]; exact q,z⟩
theorem zf6{env:Env}{x:Str}(h1:env.scope.kind=.function)(h2:env.kindOf x=some .cell):∀ {names:List (Str×NameKind)},names.lookup x=some .free ->
  (names.map fun(n,k)=>if (k == .free && env.scope.kind == .function && env.kindOf n == some .cell) then (n,.cell) else (n,k)).lookup x=some .cell
 | [],h=>by simp at h
 | (n,k0) :: r,h=>by
  rw [map_cons];cases e:x == n with
  | true =>
   rw [lookup_cons,e] at h;cases h;have en:x=n:=by simpa using e
   subst en;dsimp only;rw [if_pos (by rw [h1,h2]; decide),lookup_cons,e]
  | false =>
   rw [lookup_cons,e] at h;have ih:=zf6 h1 h2 (names:=r) h;dsimp only;split <;> (rw [lookup_cons,e]; exact ih)
theorem zap{X:Cx}{dsc:Scope}{L:Nat}{scope:Scope}{N:List Str}{caps:List (Option Nat)}(hd:X.env.scope=dsc)(hc:X.env.cells=cellsFrom L dsc.names [])(hdk:dsc.kind=.function)(hk:scope.kind=.function)(h:zby X.N dsc.names scope.names N caps=true):
  CompOk X scope (zkw X.env scope.names []) N caps:=by
 subst hd;simp only [zby,Bool.and_eq_true,all_eq_true,beq_iff_eq] at h;obtain⟨⟨hl,hs⟩,hz⟩:=h;have hfree:∀ y∈scope.names,y.2=.free->X.env.scope.names.lookup y.1=some .cell:=fun y hy e=>by
  have q:=(hs y hy).1.2;rw [e] at q;simpa using q
 have hcell:∀ y∈scope.names,y.2≠.cell:=fun y hy e=>by
  have q:=(hs y hy).1.1;rw [e] at q;simp at q
 have hsome:∀ x,X.env.scope.names.lookup x=some .cell->(X.env.cells.lookup x).isSome=true:=fun x e=>by
  rw [hc];exact W.cellsFrom_some _ _ _ (.inl e)
 have sub:∀ x c,(zkw X.env scope.names []).lookup x=some c->X.env.cells.lookup x=some c:=fun x c e=>by
  rcases ziB (PySem.mem_of_lookup e) with q | ⟨q,ec⟩
  ·cases q
  ·obtain⟨c',hc'⟩:=isSome_iff_exists.mp (hsome x (hfree _ q rfl));rw [ec,hc'];rfl
 refine⟨zgp fun y hy e=>hsome y.1 (hfree y hy e),sub,hk,hcell,fun y hy e=>?_,fun x hx=>?_,fun j i x h1 h2=>?_,hl⟩
 ·have q:=(hs y hy).2;rw [e] at q;simpa using q
 ·have fin:(x,NameKind.free)∈scope.names->∃ c,(zkw X.env scope.names []).lookup x=some c:=fun m=>by
   obtain⟨c,hm⟩:=zgr (env:=X.env) (acc:=[]) m;exact zcw hm
  rcases hx with hx | hx
  ·obtain⟨k',q,z⟩:=zcS (dsc:=[]) hx;rcases z with rfl | ⟨rfl,_⟩
   ·exact absurd rfl (hcell _ (PySem.mem_of_lookup q))
   ·exact fin (PySem.mem_of_lookup q)
  ·obtain⟨k',q,z⟩:=zcS (dsc:=[]) hx;rcases z with rfl | ⟨_,z⟩
   ·exact fin (PySem.mem_of_lookup q)
   ·cases z
 ·have hm:(some i,x)∈caps.zip N:=by
   have:(caps.zip N)[j]? = some (some i,x):=by rw [List.getElem?_zip_eq_some]; exact⟨h1,h2⟩
   exact mem_of_getElem? this
  have q:=hz _ hm;simp only [Bool.and_eq_true,beq_iff_eq] at q;obtain⟨⟨q1,q2⟩,q3⟩:=q;obtain⟨c,hmc⟩:=zgr (env:=X.env) (acc:=[]) (PySem.mem_of_lookup q3);obtain⟨c',hc'⟩:=zcw hmc;refine⟨q1,.inr (.inl q2),fun z=>?_,c',hc',.inl (zf6 hdk q2 q3)⟩;have z':X.env.scope.names.lookup x=some .local:=z;rw [q2] at z';cases z'
end
section
section
variable {X:Cx}
def zpQ:R2:=fun x y H Q=>∃ z n,x=.str z/\y=.int n/\z.length<=1000/\n<=1000/\-1000<=n/\Q (.str (PySem.Txt.mul z n)) H
theorem zqi{z:Str}{n:Int}(h1:z.length<=1000)(h2:n<=1000)(h3:-1000<=n):PySem.MulOk z n:=by
 refine⟨by simp; omega,fun a _ b=>?_,fun a _=>?_⟩
 ·have e:(1000:Int)<=(2 ^ 63 - 1) / n:=by
   rw [Int.le_ediv_iff_mul_le (by omega)];have:=Int.mul_le_mul_of_nonneg_left h2 (show (0:Int)<=1000 by decide);omega
  omega
 ·have e:z.length*n.toNat<=1000*1000:=Nat.mul_le_mul h1 (by omega);unfold Builtin.Str.tooLong;simp only [decide_eq_false_iff_not,Nat.not_lt];exact le_trans e dz
theorem zoy:OpR X (binaryOp .Mult) zpQ:=by
 intro zh s σ H x y v u Q I rx ry h;obtain⟨z,n,rfl,rfl,h1,h2,h3,q⟩:=h;obtain⟨t,rfl⟩:=rx;obtain⟨t',rfl⟩:=ry;exact PySem.SB.mul (zqi h1 h2 h3) fun _ k=>⟨.str _,H,I.tok _,⟨_,rfl⟩,q⟩
def zr3:V->Option Int->Option Int->Hp->VK->Prop:=fun x lo hi H Q=>∃ z,x=.str z/\z.length<=sizeLine/\Q (.str (PySem.Txt.slice z lo hi)) H
theorem zpt:SlR X zr3:=by
 intro zh s σ H x v vl vu lo hi sl Q I rx hs pl pu h;obtain⟨z,rfl,hz,q⟩:=h;obtain⟨t,rfl⟩:=rx;refine⟨"str",_,F.slot_str_getitem.lookup,typeIs_str _ _ _,?_⟩;have fin:∀ (a b:Option (Int×Tok)),a.map (·.1)=lo->b.map (·.1)=hi->s.heap.IsSlice sl a b none->wpAny (model X.prog X.w) X.A (getItem (.str z t) (.ref sl)) (EP X zh σ Q) X.xe s:=fun a b e1 e2 hsl=>by
  subst e1 e2;exact wpAny_getItem_str_slice (l:=a) (u:=b) (st:=none) hsl rfl (post_val_or_str ⟨le_trans (PySem.Txt.slice_le z _ _) hz,fun _ k=>⟨.str _,H,I.tok _,⟨_,rfl⟩,q⟩⟩)
 cases pl with
 | none =>
  cases pu with
  | none=>exact fin none none rfl rfl hs
  | int j tj=>exact fin none (some (j,tj)) rfl rfl hs
 | int i ti =>
  cases pu with
  | none=>exact fin (some (i,ti)) none rfl rfl hs
  | int j tj=>exact fin (some (i,ti)) (some (j,tj)) rfl rfl hs
theorem zfX:∀ {zs:List Str} {us:List Value},Vals (zs.map V.str) us->StrsAre us zs
 | [],_,.nil=>.nil
 | z :: zs,_,.cons r t=>by
  obtain⟨tk,rfl⟩:=r;exact .cons z tk (zfX t)
def zpa(K:W.Frag):V->List V->Hp->VK->Prop:=fun x vs H Q=>∃ z a zs,x=.str z/\vs=[.ref a]/\SqL K H a (zs.map V.str)/\z.length<=16/\zs.length<=1000/\(∀ y∈zs,y.length<=1000)/\Q (.str (PySem.Txt.join z zs)) H
theorem zhc{zs:List Str}(h:∀ y∈zs,y.length<=1000):(zs.map (·.length)).sum<=zs.length*1000:=by
 induction zs with
 | nil=>simp
 | cons z zs ih =>
  have h1:=h z mem_cons_self;have h2:=ih fun y hy=>h y (mem_cons_of_mem _ hy);simp only [map_cons,List.sum_cons,length_cons,Nat.add_mul,Nat.one_mul];omega
theorem zfb:MtR X "str.join" (zpa X.K):=by
 intro zh s σ H x vs v us Q I rx rv h;obtain⟨z,a,zs,rfl,rfl,hq,hz,hn,hl,q⟩:=h;obtain⟨t,rfl⟩:=rx;obtain⟨u,rfl,r1⟩:=rv.one;cases r1;obtain⟨its,r,pl,hsz⟩:=I.list hq;have hs:=zhc hl;refine join_listW pl.isList (by simpa using zfX r) hz (by omega) fun _ k=>⟨.str _,H,I.tok _,⟨_,rfl⟩,q⟩
end
section
variable {K:W.Frag} {o:List Addr} {σ:St} {H0:Hp} {t:TE} {ta:TA} {ds:List PyData}
def zib(lo:Int)(n:Nat):List PyData:=(List.range n).map fun k:Nat=>.int (lo+k)
theorem za1{lo:Int}{n:Nat}:(zib lo n).length=n:=by simp [zib]
theorem zdO{lo:Int}{n i:Nat}{d:PyData}(h:(zib lo n)[i]? = some d):i<n/\d=.int (lo+i):=by
 have hi:i<n:=by
  have:=List.getElem?_eq_some_iff.mp h;obtain⟨hl,_⟩:=this
  rwa [za1] at hl
 refine⟨hi,?_⟩;simp only [zib,getElem?_map,List.getElem?_range hi,map_some,Option.some.injEq] at h;exact h.symm
end
theorem ziD{y:Str}{zs:List Str}(hy:y.length<=16)(hz:∀ z∈zs,z.length<=1000):(PySem.Txt.join y zs).length<=zs.length*1016:=by
 show (Builtin.Str.glued y zs).length<=_;rw [StrLaws.glued_eq_join];cases zs with
 | nil=>exact zero_le _
 | cons a r =>
  rw [len_join_cons];have h1:=zhc hz;have h2:r.length*y.length<=r.length*16:=Nat.mul_le_mul_left _ hy;simp only [length_cons] at h1 ⊢;omega
def zha{α:Type}(xs:List α)(lo hi:Option Int):List α:=(xs.drop (HT.sIx xs.length 0 lo)).take (HT.sIx xs.length xs.length hi - HT.sIx xs.length 0 lo)
theorem HasL.drop{H:Hp}:∀ {ds:List PyData} {vs:List V} (n:Nat),HasL H ds vs->HasL H (ds.drop n) (vs.drop n)
 | ds,vs,0,h=>h
 | [],vs,n+1,h=>by rw [zw.mp h]; exact zw.mpr rfl
 | d :: ds,vs,n+1,h=>by
  obtain⟨v,r,rfl,_,l⟩:=zu.mp h;exact HasL.drop n l
theorem HasL.take{H:Hp}:∀ {ds:List PyData} {vs:List V} (n:Nat),HasL H ds vs->HasL H (ds.take n) (vs.take n)
 | ds,vs,0,h=>zw.mpr rfl
 | [],vs,n+1,h=>by rw [zw.mp h]; exact zw.mpr rfl
 | d :: ds,vs,n+1,h=>by
  obtain⟨v,r,rfl,q,l⟩:=zu.mp h;exact zu.mpr ⟨v,_,rfl,q,HasL.take n l⟩
theorem HasL.cut{H:Hp}{ds:List PyData}{vs:List V}(lo hi:Option Int)(h:HasL H ds vs):HasL H (zha ds lo hi) (zjz vs lo hi):=by
 unfold zha zjz;rw [h.length];exact(h.drop _).take _
theorem HasL.rev{H:Hp}:∀ {ds:List PyData} {vs:List V},HasL H ds vs->HasL H ds.reverse vs.reverse
 | [],vs,h=>by rw [zw.mp h]; exact zw.mpr rfl
 | d :: ds,vs,h=>by
  obtain⟨v,r,rfl,q,l⟩:=zu.mp h;rw [reverse_cons,reverse_cons];exact(HasL.rev l).append (zu.mpr ⟨v,[],rfl,q,zw.mpr rfl⟩)
end
section
theorem zm1:∀ {l:List Addr} {H:Hp} {b:Addr} {u:HO},vw l H b=some u↔b∉l/\H b=some u
 | [],H,b,u=>by simp [vw]
 | a :: r,H,b,u=>by
  show hid a (vw r H) b=some u↔_;by_cases h:b=a
  ·subst h; simp [zl2]
  ·rw [zqz h,zm1]; simp [h]
def vx(h o:List Addr)(H:Hp):Hp:=vw (h++o) H
theorem zY{h o:List Addr}{H:Hp}{b:Addr}{u:HO}:vx h o H b=some u↔b∉h/\b∉o/\H b=some u:=by
 unfold vx;rw [zm1];simp [and_assoc]
theorem zah{h o:List Addr}{H:Hp}:Same (vx h o H) H:=fun b u e=>(zY.mp e).2.2
theorem zc6{h o:List Addr}{H H':Hp}(s:Same H H'):Same (vx h o H) (vx h o H'):=fun b u e=>by
 obtain⟨h1,h2,h3⟩:=zY.mp e;exact zY.mpr ⟨h1,h2,s b u h3⟩
structure Ex(o:List Addr)(H:Hp)(o':List Addr)(H':Hp):Prop where
 pre:∃ r,o'=o++r
 kp:∀ b u,b∉o->H b=some u->b∉o'/\H' b=some u
section
variable {h o o' o'':List Addr} {H H' H'':Hp} {S:List (List PyData)} {p a:Addr}
theorem Ex.refl:Ex o H o H:=⟨⟨[],by simp⟩,fun _ _ a b=>⟨a,b⟩⟩
theorem Ex.trans(a:Ex o H o' H')(b:Ex o' H' o'' H''):Ex o H o'' H'':=by
 obtain⟨⟨r,e⟩,ka⟩:=a;obtain⟨⟨t,e'⟩,kb⟩:=b;refine⟨⟨r++t,by rw [e',e,append_assoc]⟩,fun b u h1 h2=>?_⟩;obtain⟨h3,h4⟩:=ka b u h1 h2;exact kb b u h3 h4
theorem Ex.vx(e:Ex o H o' H'):Same (L2.vx h o H) (L2.vx h o' H'):=fun b u q=>by
 obtain⟨h1,h2,h3⟩:=zY.mp q;obtain⟨h4,h5⟩:=e.kp b u h2 h3;exact zY.mpr ⟨h1,h4,h5⟩
structure ExH(h o:List Addr)(H:Hp)(o':List Addr)(H':Hp):Prop where
 pre:∃ r,o'=o++r
 kp:∀ b u,b∉h->b∉o->H b=some u->b∉o'/\H' b=some u
theorem Ex.hid(e:Ex o H o' H'):ExH h o H o' H':=⟨e.pre,fun b u _=>e.kp b u⟩
theorem ExH.refl:ExH h o H o H:=Ex.refl.hid
theorem ExH.trans(a:ExH h o H o' H')(b:ExH h o' H' o'' H''):ExH h o H o'' H'':=by
 obtain⟨⟨r,e⟩,ka⟩:=a;obtain⟨⟨t,e'⟩,kb⟩:=b;refine⟨⟨r++t,by rw [e',e,append_assoc]⟩,fun b u h0 h1 h2=>?_⟩;obtain⟨h3,h4⟩:=ka b u h0 h1 h2;exact kb b u h0 h3 h4
theorem ExH.vx(e:ExH h o H o' H'):Same (L2.vx h o H) (L2.vx h o' H'):=fun b u q=>by
 obtain⟨h1,h2,h3⟩:=zY.mp q;obtain⟨h4,h5⟩:=e.kp b u h1 h2 h3;exact zY.mpr ⟨h1,h4,h5⟩
theorem Ex.of_same(s:Same H H'):Ex o H o H':=⟨⟨[],by simp⟩,fun b u h e=>⟨h,s b u e⟩⟩
theorem zdw{α:Type}{l t:List α}{k:Nat}{a:α}(q:l[k]? = some a):(l++t)[k]? = some a:=by
 obtain⟨hk,_⟩:=List.getElem?_eq_some_iff.mp q;rw [getElem?_append_left hk];exact q
def exO(a C:Addr)(d:Option Addr):HO:=.ext fun h=>∃ o,h.get? a=some o/\o.cls=.ref C/\o.dict=d/\∃ vs,o.data=.fields vs
def xw(dx:Addr)(fs:List (Str×V)):HO:=.ext fun h=>∃ mA,h.Ns1 dx mA/\(∀ f,RelO (fs.lookup f) (mA f))/\PySem.Within mA (fs.map (·.1))
def HasE(H:Hp)(C:Addr)(fs:List (Str×PyData))(v:V):Prop:=∃ a d,v=.ref a/\H a=some (exO a C d)/\∀ f dt,fs.lookup f=some dt->∃ dx vs u,d=some dx/\H dx=some (xw dx vs)/\vs.lookup f=some u/\Has H dt u
theorem HasE.mono{H H':Hp}{C:Addr}{fs:List (Str×PyData)}{v:V}(s:Same H H')(q:HasE H C fs v):HasE H' C fs v:=by
 obtain⟨a,d,e,ha,hf⟩:=q;refine⟨a,d,e,s _ _ ha,fun f dt l=>?_⟩;obtain⟨dx,vs,u,e1,e2,e3,e4⟩:=hf f dt l;exact⟨dx,vs,u,e1,s _ _ e2,e3,Has.mono s _ _ e4⟩
inductive XV where
 | d (d:PyData)
 | l (k:Nat)
 | o (v:V)
 | x (C:Addr) (fs:List (Str×PyData))
def HasX(h o:List Addr)(H:Hp):XV->V->Prop
 | .d d,v=>Has (vx h o H) d v
 | .l k,v=>∃ a,o[k]? = some a/\v=.ref a
 | .o w,v=>v=w
 | .x C fs,v=>HasE (vx h o H) C fs v
theorem HasX.mono(e:Ex o H o' H'):∀ {x:XV} {v:V},HasX h o H x v->HasX h o' H' x v
 | .d d,v,q=>Has.mono e.vx d v q
 | .l k,v,⟨a,q,r⟩=>by
  obtain⟨t,rfl⟩:=e.pre;exact⟨a,zdw q,r⟩
 | .o w,v,q=>q
 | .x C fs,v,q=>HasE.mono e.vx q
def HasXs(h o:List Addr)(H:Hp):List XV->List V->Prop
 | [],vs=>vs=[]
 | x :: xs,vs=>∃ v r,vs=v :: r/\HasX h o H x v/\HasXs h o H xs r
abbrev Sto:=List (List PyData)
inductive MO where
 | l (vs:List V)
 | k (m:List (Key×V))
 | t (m:List (List Key×V))
def MO.ho:MO->HO
 | .l vs=>.lst vs
 | .k m=>.dK m
 | .t m=>.dT m
structure RepS(h o:List Addr)(H:Hp)(S:Sto):Prop where
 len:S.length=o.length
 nd:o.Nodup
 dis:∀ a∈o,a∉h
 hal:∀ b∈h,∃ u:MO,H b=some u.ho
 cont:∀ (k:Nat) (a:Addr) (ds:List PyData),o[k]? = some a->S[k]? = some ds->∃ vs,H a=some (.lst vs)/\HasL (vx h o H) ds vs
theorem zmw{α β:Type}{l:List α}{t:List β}{k:Nat}{a:α}(hl:t.length=l.length)(q:l[k]? = some a):∃ b,t[k]? = some b:=by
 obtain⟨hk,_⟩:=List.getElem?_eq_some_iff.mp q;exact⟨t[k]'(by omega),getElem?_eq_getElem _⟩
theorem RepS.oal(r:RepS h o H S):∀ a∈o,∃ u,H a=some (.lst u):=fun a ha=>by
 obtain⟨k,hk⟩:=mem_iff_getElem?.mp ha;obtain⟨ds,e⟩:=zmw r.len hk;obtain⟨vs,e',_⟩:=r.cont k a ds hk e;exact⟨_,e'⟩
theorem RepS.oam(r:RepS h o H S):∀ a∈o,∃ u:MO,H a=some u.ho:=fun a ha=>let ⟨u,e⟩:=r.oal a ha; ⟨.l u,e⟩
theorem RepS.fresh(r:RepS h o H S)(hp:H p=none):p∉h/\p∉o:=by
 constructor
 ·intro m;obtain⟨u,e⟩:=r.hal p m;rw [hp] at e;cases e
 ·intro m;obtain⟨u,e⟩:=r.oal p m;rw [hp] at e;cases e
theorem RepS.same(r:RepS h o H S)(s:Same H H'):RepS h o H' S where
 len:=r.len
 nd:=r.nd
 dis:=r.dis
 hal:=fun b m=>by obtain⟨u,e⟩:=r.hal b m; exact⟨u,s b _ e⟩
 cont:=fun k a ds e1 e2=>by
  obtain⟨vs,e3,l⟩:=r.cont k a ds e1 e2;exact⟨vs,s _ _ e3,HasL.mono (zc6 s) _ _ l⟩
theorem RepS.laid{u:HO}(r:RepS h o H S)(hp:H p=none):vx h o (upd H p u) p=some u:=by
 obtain⟨h1,h2⟩:=r.fresh hp;exact zY.mpr ⟨h1,h2,zaq⟩
theorem Ex.new{u:HO}(r:RepS h o H S)(hp:H p=none):Ex o H (o++[p]) (upd H p u):=by
 refine⟨⟨[p],rfl⟩,fun b w hb e=>?_⟩;have ne:b≠p:=zQ e hp;exact⟨by simp [hb,ne],by rw [zF ne]; exact e⟩
theorem zbF{α:Type}{l:List α}{a:α}(h:l.Nodup)(n:a∉l):(l++[a]).Nodup:=by
 rw [nodup_append];refine⟨h,by simp,fun x hx y hy e=>?_⟩;rw [mem_singleton] at hy;subst hy;subst e;exact n hx
theorem RepS.new{ds:List PyData}{vs:List V}(r:RepS h o H S)(hp:H p=none)(l:HasL (vx h o H) ds vs):RepS h (o++[p]) (upd H p (.lst vs)) (S++[ds]):=by
 obtain⟨h1,h2⟩:=r.fresh hp;have ex:Ex o H (o++[p]) (upd H p (.lst vs)):=Ex.new r hp;refine⟨by simp [r.len],zbF r.nd h2,fun a ha=>?_,fun b hb=>?_,fun k a es e1 e2=>?_⟩
 ·rcases mem_append.mp ha with ha | ha
  ·exact r.dis a ha
  ·rw [mem_singleton.mp ha]; exact h1
 ·obtain⟨u,e⟩:=r.hal b hb;exact⟨u,by rw [zF (zQ e hp)]; exact e⟩
 ·by_cases hk:k<o.length
  ·rw [getElem?_append_left hk] at e1;rw [getElem?_append_left (by rw [r.len]; exact hk)] at e2;obtain⟨ws,e3,l3⟩:=r.cont k a es e1 e2;refine⟨ws,?_,l3.mono ex.vx⟩;rw [zF (zQ e3 hp)];exact e3
  ·have hk':k=o.length:=by
    obtain⟨q,_⟩:=List.getElem?_eq_some_iff.mp e1;rw [length_append,length_singleton] at q;omega
   subst hk';rw [getElem?_concat_length] at e1;rw [<- r.len,getElem?_concat_length] at e2;cases e1;cases e2;exact⟨vs,zaq,l.mono ex.vx⟩
theorem Ex.upd{k:Nat}{u:HO}(e:o[k]? = some a):Ex o H o (L2.upd H a u) :=
 ⟨⟨[],by simp⟩,fun b w hb eb=>⟨hb,by rw [zF (fun z=>hb (by rw [z]; exact mem_of_getElem? e))]; exact eb⟩⟩
theorem zd2{l:List Addr}(h:l.Nodup){i j:Nat}{a:Addr}(e1:l[i]? = some a)(e2:l[j]? = some a):i=j:=by
 obtain⟨hi,e1⟩:=List.getElem?_eq_some_iff.mp e1;obtain⟨hj,e2⟩:=List.getElem?_eq_some_iff.mp e2;exact(List.getElem_inj h).mp (e1.trans e2.symm)
theorem RepS.upd{k:Nat}{ds:List PyData}{vs:List V}(r:RepS h o H S)(e:o[k]? = some a)(l:HasL (vx h o H) ds vs):RepS h o (L2.upd H a (.lst vs)) (S.set k ds):=by
 have ex:Ex o H o (L2.upd H a (.lst vs)):=Ex.upd e;refine⟨by simp [r.len],r.nd,r.dis,fun b hb=>?_,fun j b es e1 e2=>?_⟩
 ·obtain⟨u,eb⟩:=r.hal b hb;have ne:b≠a:=fun z=>r.dis a (mem_of_getElem? e) (z▸hb);exact⟨u,by rw [zF ne]; exact eb⟩
 ·by_cases hj:j=k
  ·subst hj;rw [e1] at e;cases e;obtain⟨hk,_⟩:=List.getElem?_eq_some_iff.mp e1;rw [getElem?_set_self (by rw [r.len]; exact hk)] at e2;cases e2;exact⟨vs,zaq,l.mono ex.vx⟩
  ·rw [getElem?_set_ne (Ne.symm hj)] at e2;obtain⟨ws,e3,l3⟩:=r.cont j b es e1 e2;have ne:b≠a:=fun z=>hj (zd2 r.nd e1 (z▸e));exact⟨ws,by rw [zF ne]; exact e3,l3.mono ex.vx⟩
abbrev XE:=List (Option XV)
structure RepE(h o:List Addr)(H:Hp)(δ:XE)(σ:St):Prop where
 len:δ.length=σ.length
 get:∀ (i:Nat) x,δ[i]? = some (some x)->∃ v,σ[i]? = some (some v)/\HasX h o H x v
variable {δ:XE} {σ:St}
theorem RepE.mono(r:RepE h o H δ σ)(e:Ex o H o' H'):RepE h o' H' δ σ:=⟨r.len,fun i x q=>by
 obtain⟨v,e1,e2⟩:=r.get i x q;exact⟨v,e1,e2.mono e⟩⟩
theorem RepE.set{i:Nat}{x:XV}{v:V}(r:RepE h o H δ σ)(q:HasX h o H x v):RepE h o H (δ.set i (some x)) (σ.set i (some v)):=by
 refine⟨by simp [r.len],fun j y e=>?_⟩;rw [List.getElem?_set] at e ⊢;by_cases hij:i=j
 ·rw [if_pos hij] at e ⊢;by_cases hl:i<δ.length
  ·rw [if_pos hl] at e;rw [if_pos (by rw [<- r.len]; exact hl)];cases e;exact⟨v,rfl,q⟩
  ·rw [if_neg hl] at e;cases e
 ·rw [if_neg hij] at e ⊢;exact r.get j y e
def znC(caps:List (Option Nat))(δ:XE):XE:=caps.map fun o=>o.bind fun i=>(δ[i]?).join
theorem RepE.tau{caps:List (Option Nat)}(r:RepE h o H δ σ):RepE h o H (znC caps δ) (L2.tau caps σ):=by
 refine⟨by simp [znC,L2.tau],fun i x e=>?_⟩;unfold znC at e;unfold L2.tau;rw [getElem?_map] at e ⊢;cases hc:caps[i]? with
 | none=>rw [hc] at e; cases e
 | some c =>
  rw [hc] at e;cases c with
  | none=>cases e
  | some j =>
   have e':(δ[j]?).join=some x:=by simpa using e
   have e2:δ[j]? = some (some x):=by
    cases hd:δ[j]? with
    | none=>rw [hd] at e'; cases e'
    | some y=>rw [hd] at e'; exact congrArg some (by simpa using e')
   obtain⟨v,e3,e4⟩:=r.get j x e2;exact⟨v,by simp [e3],e4⟩
end
abbrev RX:=XV->Sto->Prop
abbrev DE:=XE->Sto->RX->Prop
abbrev DT:=XE->Sto->(Bool->Sto->Prop)->Prop
abbrev DA:=XE->Sto->(List XV->Sto->Prop)->Prop
abbrev D2:=XV->XV->Sto->RX->Prop
def Cn(h o:List Addr)(H:Hp)(R:RX)(Q:VK):Prop:=∀ o' H' S' x v,Ex o H o' H'->RepS h o' H' S'->HasX h o' H' x v->R x S'->Q v H'
theorem Cn.pre{h o o':List Addr}{H H':Hp}{R:RX}{Q:VK}(c:Cn h o H R Q)(e:Ex o H o' H'):Cn h o' H' R Q:=fun o2 H2 S2 x v e2=>c o2 H2 S2 x v (e.trans e2)
def RE(t:TE)(dt:DE):Prop:=∀ (h o:List Addr) (H:Hp) (δ:XE) (σ:St) (S:Sto) (R:RX) (Q:VK),RepE h o H δ σ->RepS h o H S->dt δ S R->Cn h o H R Q->t σ H Q
def RT(t:TT)(dt:DT):Prop:=∀ (h o:List Addr) (H:Hp) (δ:XE) (σ:St) (S:Sto) (R:Bool->Sto->Prop) (Q:Bool->Hp->Prop),RepE h o H δ σ->RepS h o H S->dt δ S R ->
 (∀ o' H' S' b,Ex o H o' H'->RepS h o' H' S'->R b S'->Q b H')->t σ H Q
def RA(t:TA)(dt:DA):Prop:=∀ (h o:List Addr) (H:Hp) (δ:XE) (σ:St) (S:Sto) (R:List XV->Sto->Prop) (Q:List V->Hp->Prop),RepE h o H δ σ->RepS h o H S->dt δ S R ->
 (∀ o' H' S' xs vs,Ex o H o' H'->RepS h o' H' S'->HasXs h o' H' xs vs->R xs S'->Q vs H')->t σ H Q
def RO(r:R2)(rd:D2):Prop:=∀ (h o:List Addr) (H:Hp) (S:Sto) (x y:XV) (v u:V) (R:RX) (Q:VK),RepS h o H S->HasX h o H x v->HasX h o H y u->rd x y S R->Cn h o H R Q->r v u H Q
def RU(r:V->Hp->VK->Prop)(rd:XV->Sto->RX->Prop):Prop:=∀ (h o:List Addr) (H:Hp) (S:Sto) (x:XV) (v:V) (R:RX) (Q:VK),RepS h o H S->HasX h o H x v->rd x S R->Cn h o H R Q->r v H Q
def RC(r:List V->Hp->VK->Prop)(rd:List XV->Sto->RX->Prop):Prop:=∀ (h o:List Addr) (H:Hp) (S:Sto) (xs:List XV) (vs:List V) (R:RX) (Q:VK),RepS h o H S->HasXs h o H xs vs->rd xs S R->Cn h o H R Q->r vs H Q
def asI:XV->(Int->Prop)->Prop
 | .d (.int i),k=>k i
 | _,_=>False
def asB:XV->(Bool->Prop)->Prop
 | .d (.bool i),k=>k i
 | _,_=>False
def asS:XV->(Str->Prop)->Prop
 | .d (.str i),k=>k i
 | _,_=>False
def asT:XV->(List PyData->Prop)->Prop
 | .d (.tuple i),k=>k i
 | _,_=>False
def zjC(S:Sto):XV->Option (List PyData)
 | .d (.list ds)=>some ds
 | .l k=>S[k]?
 | _=>none
def asL(S:Sto)(x:XV)(k:List PyData->Prop):Prop:=∃ ds,zjC S x=some ds/\k ds
def zcJ(S:Sto):XV->Option PyData
 | .d d=>some d
 | .l k=>(S[k]?).map .list
 | .o _=>none
 | .x _ _=>none
def asD(x:XV)(k:PyData->Prop):Prop:=match x with
 | .d d=>k d
 | _=>False
theorem zaR{x:XV}{k:Int->Prop}(h:asI x k):∃ i,x=.d (.int i)/\k i:=by
 unfold asI at h;split at h
 ·exact⟨_,rfl,h⟩
 ·exact h.elim
theorem zgP{x:XV}{k:Bool->Prop}(h:asB x k):∃ i,x=.d (.bool i)/\k i:=by
 unfold asB at h;split at h
 ·exact⟨_,rfl,h⟩
 ·exact h.elim
theorem zb4{x:XV}{k:Str->Prop}(h:asS x k):∃ i,x=.d (.str i)/\k i:=by
 unfold asS at h;split at h
 ·exact⟨_,rfl,h⟩
 ·exact h.elim
theorem zgT{x:XV}{k:List PyData->Prop}(h:asT x k):∃ i,x=.d (.tuple i)/\k i:=by
 unfold asT at h;split at h
 ·exact⟨_,rfl,h⟩
 ·exact h.elim
theorem zgf{x:XV}{k:PyData->Prop}(h:asD x k):∃ i,x=.d i/\k i:=by
 unfold asD at h;split at h
 ·exact⟨_,rfl,h⟩
 ·exact h.elim
section
variable {h o:List Addr} {H:Hp} {S:Sto} {x:XV} {v:V} {i:Int} {b:Bool} {z:Str} {ds:List PyData} {d:PyData}
theorem zaB(q:HasX h o H (.d (.int i)) v):v=.int i:=(zbV (H:=vx h o H)).mp q
theorem zdz(q:HasX h o H (.d (.bool b)) v):v=.bl b:=(zcM (H:=vx h o H)).mp q
theorem zaQ(q:HasX h o H (.d (.str z)) v):v=.str z:=(zbP (H:=vx h o H)).mp q
theorem zdS(q:HasX h o H (.d (.tuple ds)) v):∃ a vs,v=.ref a/\H a=some (.tup vs)/\HasL (vx h o H) ds vs:=by
 obtain⟨a,vs,e,q,l⟩:=zai.mp (show Has _ _ _ from q);exact⟨a,vs,e,zah _ _ q,l⟩
theorem zba(r:RepS h o H S)(e:zjC S x=some ds)(q:HasX h o H x v):∃ a vs,v=.ref a/\H a=some (.lst vs)/\HasL (vx h o H) ds vs:=by
 unfold zjC at e;split at e
 ·cases e;obtain⟨a,vs,e,q,l⟩:=zaN.mp (show Has _ _ _ from q);exact⟨a,vs,e,zah _ _ q,l⟩
 ·obtain⟨a,e1,rfl⟩:=q;obtain⟨vs,e2,l⟩:=r.cont _ a ds e1 e;exact⟨a,vs,rfl,e2,l⟩
 ·cases e
theorem zbx(r:RepS h o H S)(e:zcJ S x=some d)(q:HasX h o H x v):Has H d v:=by
 unfold zcJ at e;split at e
 ·cases e;exact Has.mono zah _ _ q
 ·rename_i k;obtain⟨a,e1,rfl⟩:=q;cases hs:S[k]? with
  | none=>rw [hs] at e; cases e
  | some es =>
   rw [hs] at e;cases e;obtain⟨vs,e2,l⟩:=r.cont k a es e1 hs;exact zaN.mpr ⟨a,vs,rfl,e2,HasL.mono zah _ _ l⟩
 ·cases e
 ·cases e
theorem xI(i:Int):HasX h o H (.d (.int i)) (.int i):=(zbV (H:=vx h o H)).mpr rfl
theorem xB(i:Bool):HasX h o H (.d (.bool i)) (.bl i):=(zcM (H:=vx h o H)).mpr rfl
theorem xS(i:Str):HasX h o H (.d (.str i)) (.str i):=(zbP (H:=vx h o H)).mpr rfl
theorem xN:HasX h o H (.d .none) .non:=(zdf (H:=vx h o H)).mpr rfl
theorem zmK{vs:List V}{R:RX}{Q:VK}(r:RepS h o H S)(l:HasL (vx h o H) ds vs)(c:Cn h o H R Q)(q:R (.d (.tuple ds)) S):∀ p,H p=none->Q (.ref p) (upd H p (.tup vs)):=fun p hp =>
 c o _ S (.d (.tuple ds)) _ (Ex.of_same (Same.laid hp)) (r.same (Same.laid hp)) (zai.mpr ⟨p,vs,rfl,r.laid hp,l.mono (zc6 (Same.laid hp))⟩) q
theorem zh6{vs:List V}{R:RX}{Q:VK}(r:RepS h o H S)(l:HasL (vx h o H) ds vs)(c:Cn h o H R Q)(q:R (.d (.list ds)) S):∀ p,H p=none->Q (.ref p) (upd H p (.lst vs)):=fun p hp =>
 c o _ S (.d (.list ds)) _ (Ex.of_same (Same.laid hp)) (r.same (Same.laid hp)) (zaN.mpr ⟨p,vs,rfl,r.laid hp,l.mono (zc6 (Same.laid hp))⟩) q
theorem zqw{vs:List V}{R:RX}{Q:VK}(r:RepS h o H S)(l:HasL (vx h o H) ds vs)(c:Cn h o H R Q)(q:R (.l S.length) (S++[ds])):∀ p,H p=none->Q (.ref p) (upd H p (.lst vs)):=fun p hp =>
 c (o++[p]) _ (S++[ds]) (.l S.length) _ (Ex.new r hp) (r.new hp l) ⟨p,by rw [r.len,getElem?_concat_length],rfl⟩ q
theorem zeT:∀ {xs:List XV} {vs:List V} {ds:List PyData},HasXs h o H xs vs->xs=ds.map XV.d->HasL (vx h o H) ds vs
 | [],vs,[],q,_=>zw.mpr q
 | x :: xs,vs,d :: ds,⟨v,r,e,q,l⟩,e2=>by
  rw [map_cons] at e2;cases e2;exact zu.mpr ⟨v,r,e,q,zeT l rfl⟩
 | x :: xs,vs,[],_,e2=>by cases e2
 | [],vs,d :: ds,_,e2=>by cases e2
end
def datas:List XV->Option (List PyData)
 | []=>some []
 | .d d :: r=>(datas r).map (d :: ·)
 | _ :: _=>none
theorem zcH:∀ {xs:List XV} {ds:List PyData},datas xs=some ds->xs=ds.map XV.d
 | [],ds,e=>by cases e; rfl
 | .d d :: r,ds,e=>by
  unfold datas at e;cases hr:datas r with
  | none=>rw [hr] at e; cases e
  | some es =>
   rw [hr] at e;cases e;rw [zcH hr];rfl
 | .l _ :: _,_,e=>by cases e
 | .o _ :: _,_,e=>by cases e
 | .x _ _ :: _,_,e=>by cases e
def zr(i:Nat):DE:=fun δ S R=>∃ x,δ[i]? = some (some x)/\R x S
def dC(d:PyData):DE:=fun _ S R=>R (.d d) S
def dO(v:V):DE:=fun _ S R=>R (.o v) S
def dOp(rd:D2)(a b:DE):DE:=fun δ S R=>a δ S fun x S1=>b δ S1 fun y S2=>rd x y S2 R
def dUn(rd:XV->Sto->RX->Prop)(a:DE):DE:=fun δ S R=>a δ S fun x S1=>rd x S1 R
def zz:DA:=fun _ S R=>R [] S
def ze(a:DE)(b:DA):DA:=fun δ S R=>a δ S fun x S1=>b δ S1 fun xs S2=>R (x :: xs) S2
def dCB(rd:List XV->Sto->RX->Prop)(a:DA):DE:=fun δ S R=>a δ S fun xs S1=>rd xs S1 R
def zfN(a:DA):DE:=fun δ S R=>a δ S fun xs S1=>∃ ds,datas xs=some ds/\ds.length<=1000/\R (.d (.tuple ds)) S1
def zjS(a:DA):DE:=fun δ S R=>a δ S fun xs S1=>∃ ds,datas xs=some ds/\ds.length<=1000/\R (.d (.list ds)) S1
def zeI(a:DA):DE:=fun δ S R=>a δ S fun xs S1=>∃ ds,datas xs=some ds/\ds.length<=1000/\R (.l S1.length) (S1++[ds])
section
variable {t ta tb tc:TE} {da db dc:DE} {tl:TA} {dl:DA} {tt tu:TT} {dt du:DT}
theorem zd{i:Nat}:RE (zlR i) (zr i):=fun h o H δ σ S R Q he hs ⟨x,e,q⟩ c=>by
 obtain⟨v,e1,e2⟩:=he.get i x e;exact⟨v,e1,c o H S x v Ex.refl hs e2 q⟩
theorem zi{i:Int}:RE (tC (.int i)) (dC (.int i)):=fun h o H δ σ S R Q he hs q c=>c o H S _ _ Ex.refl hs (xI i) q
theorem ze9{i:Bool}:RE (tC (.bl i)) (dC (.bool i)):=fun h o H δ σ S R Q he hs q c=>c o H S _ _ Ex.refl hs (xB i) q
theorem zaj{i:Str}:RE (tC (.str i)) (dC (.str i)):=fun h o H δ σ S R Q he hs q c=>c o H S _ _ Ex.refl hs (xS i) q
theorem ziQ{v:V}:RE (tC v) (dO v):=fun h o H δ σ S R Q he hs q c=>c o H S (.o v) v Ex.refl hs rfl q
theorem zo{r:R2}{rd:D2}(hr:RO r rd)(ha:RE ta da)(hb:RE tb db):RE (tOp r ta tb) (dOp rd da db):=fun h o H δ σ S R Q he hs q c =>
 ha h o H δ σ S _ _ he hs q fun o1 H1 S1 x v e1 s1 x1 d1=>hb h o1 H1 δ σ S1 _ _ (he.mono e1) s1 d1 fun o2 H2 S2 y u e2 s2 y2 d2 =>
  hr h o2 H2 S2 x y v u R Q s2 (x1.mono e2) y2 d2 (c.pre (e1.trans e2))
theorem zjd{r:V->Hp->VK->Prop}{rd:XV->Sto->RX->Prop}(hr:RU r rd)(ha:RE ta da):RE (tUn r ta) (dUn rd da):=fun h o H δ σ S R Q he hs q c =>
 ha h o H δ σ S _ _ he hs q fun o1 H1 S1 x v e1 s1 x1 d1=>hr h o1 H1 S1 x v R Q s1 x1 d1 (c.pre e1)
theorem zg:RA zo3 zz:=fun h o H δ σ S R Q he hs q c=>c o H S [] [] Ex.refl hs rfl q
theorem za(ha:RE ta da)(hb:RA tl dl):RA (zjh ta tl) (ze da dl):=fun h o H δ σ S R Q he hs q c =>
 ha h o H δ σ S _ _ he hs q fun o1 H1 S1 x v e1 s1 x1 d1=>hb h o1 H1 δ σ S1 _ _ (he.mono e1) s1 d1 fun o2 H2 S2 xs vs e2 s2 x2 d2 =>
  c o2 H2 S2 (x :: xs) (v :: vs) (e1.trans e2) s2 ⟨v,vs,rfl,x1.mono e2,x2⟩ d2
theorem zaa{r:List V->Hp->VK->Prop}{rd:List XV->Sto->RX->Prop}(hr:RC r rd)(ha:RA tl dl):RE (tCB r tl) (dCB rd dl):=fun h o H δ σ S R Q he hs q c =>
 ha h o H δ σ S _ _ he hs q fun o1 H1 S1 xs vs e1 s1 x1 d1=>hr h o1 H1 S1 xs vs R Q s1 x1 d1 (c.pre e1)
theorem zbs(ha:RA tl dl):RE (zr6 tl) (zfN dl):=fun h o H δ σ S R Q he hs q c =>
 ha h o H δ σ S _ _ he hs q fun o1 H1 S1 xs vs e1 s1 x1 ⟨ds,e,hl,d1⟩=>by
  have l:=zeT x1 (zcH e);exact⟨by rw [l.length]; exact le_of_lt (small1000 hl),zmK s1 l (c.pre e1) d1⟩
theorem zeD(ha:RA tl dl):RE (zo7 tl) (zjS dl):=fun h o H δ σ S R Q he hs q c =>
 ha h o H δ σ S _ _ he hs q fun o1 H1 S1 xs vs e1 s1 x1 ⟨ds,e,hl,d1⟩=>by
  have l:=zeT x1 (zcH e);exact⟨by rw [l.length]; exact le_of_lt (small1000 hl),zh6 s1 l (c.pre e1) d1⟩
theorem zdI(ha:RA tl dl):RE (zo7 tl) (zeI dl):=fun h o H δ σ S R Q he hs q c =>
 ha h o H δ σ S _ _ he hs q fun o1 H1 S1 xs vs e1 s1 x1 ⟨ds,e,hl,d1⟩=>by
  have l:=zeT x1 (zcH e);exact⟨by rw [l.length]; exact le_of_lt (small1000 hl),zqw s1 l (c.pre e1) d1⟩
def dB(a:DE):DT:=fun δ S R=>a δ S fun x S1=>asB x fun b=>R b S1
def zeP(a:DT):DT:=fun δ S R=>a δ S fun b S1=>R (!b) S1
def zo0(a b:DT):DT:=fun δ S R=>a δ S fun x S1=>if x=true then b δ S1 R else R false S1
def dOr(a b:DT):DT:=fun δ S R=>a δ S fun x S1=>if x=true then R true S1 else b δ S1 R
def zem(a b:DE):DE:=fun δ S R=>a δ S fun x S1=>asB x fun c=>if c=true then b δ S1 R else R (.d (.bool false)) S1
def zrS(a b:DE):DE:=fun δ S R=>a δ S fun x S1=>asB x fun c=>if c=true then R (.d (.bool true)) S1 else b δ S1 R
def zkP(a:DE):DE:=fun δ S R=>a δ S fun x S1=>asB x fun c=>R (.d (.bool (!c))) S1
def dIf(c:DT)(a b:DE):DE:=fun δ S R=>c δ S fun x S1=>if x=true then a δ S1 R else b δ S1 R
theorem zdo(ha:RE ta da):RT (zln ta) (dB da):=fun h o H δ σ S R Q he hs q c =>
 ha h o H δ σ S _ _ he hs q fun o1 H1 S1 x v e1 s1 x1 d1=>by
  replace d1:=zgP d1;obtain⟨b,rfl,d1⟩:=d1;exact⟨b,zdz x1,c o1 H1 S1 b e1 s1 d1⟩
theorem zaW(ha:RT tt dt):RT (zrT tt) (zeP dt):=fun h o H δ σ S R Q he hs q c =>
 ha h o H δ σ S _ _ he hs q fun o1 H1 S1 b e1 s1 d1=>c o1 H1 S1 _ e1 s1 d1
theorem zkd(ha:RT tt dt)(hb:RT tu du):RT (zr0 tt tu) (zo0 dt du):=fun h o H δ σ S R Q he hs q c =>
 ha h o H δ σ S _ _ he hs q fun o1 H1 S1 b e1 s1 d1=>by
  cases b with
  | true=>exact zmF (hb h o1 H1 δ σ S1 R Q (he.mono e1) s1 (by simpa using d1) fun o2 H2 S2 b e2=>c o2 H2 S2 b (e1.trans e2))
  | false=>exact zmE (c o1 H1 S1 false e1 s1 (by simpa using d1))
theorem zel(ha:RT tt dt)(hb:RT tu du):RT (tOr tt tu) (dOr dt du):=fun h o H δ σ S R Q he hs q c =>
 ha h o H δ σ S _ _ he hs q fun o1 H1 S1 b e1 s1 d1=>by
  cases b with
  | false=>exact zmE (hb h o1 H1 δ σ S1 R Q (he.mono e1) s1 (by simpa using d1) fun o2 H2 S2 b e2=>c o2 H2 S2 b (e1.trans e2))
  | true=>exact zmF (c o1 H1 S1 true e1 s1 (by simpa using d1))
theorem zdu(ha:RE ta da)(hb:RE tb db):RE (zpW ta tb) (zem da db):=fun h o H δ σ S R Q he hs q c =>
 ha h o H δ σ S _ _ he hs q fun o1 H1 S1 x v e1 s1 x1 d1=>by
  replace d1:=zgP d1;obtain⟨b,rfl,d1⟩:=d1;refine⟨b,zdz x1,?_⟩;cases b with
  | true=>exact zmF (hb h o1 H1 δ σ S1 R Q (he.mono e1) s1 (by simpa using d1) (c.pre e1))
  | false=>exact zmE (c o1 H1 S1 _ _ e1 s1 (xB false) (by simpa using d1))
theorem znP(ha:RE ta da):RE (zqP ta) (zkP da):=fun h o H δ σ S R Q he hs q c =>
 ha h o H δ σ S _ _ he hs q fun o1 H1 S1 x v e1 s1 x1 d1=>by
  replace d1:=zgP d1;obtain⟨b,rfl,d1⟩:=d1;exact⟨b,zdz x1,c o1 H1 S1 _ _ e1 s1 (xB _) d1⟩
theorem zrp(hc:RT tt dt)(ha:RE ta da)(hb:RE tb db):RE (tIf tt ta tb) (dIf dt da db):=fun h o H δ σ S R Q he hs q c =>
 hc h o H δ σ S _ _ he hs q fun o1 H1 S1 b e1 s1 d1=>by
  cases b with
  | true=>exact zmF (ha h o1 H1 δ σ S1 R Q (he.mono e1) s1 (by simpa using d1) (c.pre e1))
  | false=>exact zmE (hb h o1 H1 δ σ S1 R Q (he.mono e1) s1 (by simpa using d1) (c.pre e1))
def zdY(rd rd':D2)(a b e:DE):DE:=fun δ S R=>a δ S fun x S1=>b δ S1 fun y S2=>rd x y S2 fun z S3=>asB z fun k=>if k=true then e δ S3 fun u S4=>rd' y u S4 R else R (.d (.bool false)) S3
theorem zc9{r r':R2}{rd rd':D2}(hr:RO r rd)(hr':RO r' rd')(ha:RE ta da)(hb:RE tb db)(hc:RE tc dc):RE (zko r r' ta tb tc) (zdY rd rd' da db dc):=fun h o H δ σ S R Q he hs q c =>
 ha h o H δ σ S _ _ he hs q fun o1 H1 S1 x v e1 s1 x1 d1=>hb h o1 H1 δ σ S1 _ _ (he.mono e1) s1 d1 fun o2 H2 S2 y u e2 s2 y2 d2 =>
  hr h o2 H2 S2 x y v u _ _ s2 (x1.mono e2) y2 d2 fun o3 H3 S3 z w e3 s3 z3 d3=>by
   replace d3:=zgP d3;obtain⟨b,rfl,d3⟩:=d3;refine⟨b,zdz z3,?_⟩;cases b with
   | false=>exact zmE (c o3 H3 S3 _ _ ((e1.trans e2).trans e3) s3 (xB false) (by simpa using d3))
   | true=>exact zmF (hc h o3 H3 δ σ S3 _ _ (((he.mono e1).mono e2).mono e3) s3 (by simpa using d3) fun o4 H4 S4 k w' e4 s4 k4 d4=>hr' h o4 H4 S4 y k u w' R Q s4 ((y2.mono e3).mono e4) k4 d4 (c.pre (((e1.trans e2).trans e3).trans e4)))
end
def dI(C:Int->Int->Prop)(g:Int->Int->Int):D2:=fun x y S R=>asI x fun i=>asI y fun j=>C i j/\R (.d (.int (g i j))) S
def dI0(g:Int->Int->Int):D2:=fun x y S R=>asI x fun i=>asI y fun j=>R (.d (.int (g i j))) S
def dIb(g:Int->Int->Bool):D2:=fun x y S R=>asI x fun i=>asI y fun j=>R (.d (.bool (g i j))) S
def dUI(g:Int->Int):XV->Sto->RX->Prop:=fun x S R=>asI x fun i=>R (.d (.int (g i))) S
def zgM:D2:=fun x y S R=>∃ d,zcJ S x=some d/\∃ e,zcJ S y=some e/\SeqAt.shaped d=true/\SeqAt.shaped e=true/\R (.d (.bool (PyData.eqv d e))) S
def zlP:D2:=fun x y S R=>∃ d,zcJ S x=some d/\∃ e,zcJ S y=some e/\SeqAt.shaped d=true/\SeqAt.shaped e=true/\R (.d (.bool (!PyData.eqv d e))) S
def zrR:D2:=fun x _ S R=>asD x fun d=>R (.d (.bool (zon d))) S
def zsn:D2:=fun x y S R=>asT x fun ds=>asI y fun i=>∃ d,atI ds i=some d/\R (.d d) S
def zsp:D2:=fun x y S R=>asL S x fun ds=>asI y fun i=>∃ d,atI ds i=some d/\R (.d d) S
def zsB:D2:=fun x y S R=>asL S x fun ds=>asL S y fun es=>ds.length+es.length<=1000/\R (.d (.list (ds++es))) S
def zrj:D2:=fun x y S R=>asT x fun ds=>asT y fun es=>ds≠[]/\ds.length+es.length<=1000/\R (.d (.tuple (ds++es))) S
section
theorem zgK{C:Int->Int->Prop}{g:Int->Int->Int}:RO (rI C fun i j=>.int (g i j)) (dI C g):=fun h o H S x y v u R Q hs hx hy q c=>by
 replace q:=zaR q;obtain⟨i,rfl,q⟩:=q;replace q:=zaR q;obtain⟨j,rfl,hc,q⟩:=q;exact⟨i,j,zaB hx,zaB hy,hc,c o H S _ _ Ex.refl hs (xI _) q⟩
theorem zhR{g:Int->Int->Int}:RO (rI0 fun i j=>.int (g i j)) (dI0 g):=fun h o H S x y v u R Q hs hx hy q c=>by
 replace q:=zaR q;obtain⟨i,rfl,q⟩:=q;replace q:=zaR q;obtain⟨j,rfl,q⟩:=q;exact⟨i,j,zaB hx,zaB hy,c o H S _ _ Ex.refl hs (xI _) q⟩
theorem zcn{g:Int->Int->Bool}:RO (rI0 fun i j=>.bl (g i j)) (dIb g):=fun h o H S x y v u R Q hs hx hy q c=>by
 replace q:=zaR q;obtain⟨i,rfl,q⟩:=q;replace q:=zaR q;obtain⟨j,rfl,q⟩:=q;exact⟨i,j,zaB hx,zaB hy,c o H S _ _ Ex.refl hs (xB _) q⟩
theorem zo4{g:Int->Int}:RU (rU fun i=>.int (g i)) (dUI g):=fun h o H S x v R Q hs hx q c=>by
 replace q:=zaR q;obtain⟨i,rfl,q⟩:=q;exact⟨i,zaB hx,c o H S _ _ Ex.refl hs (xI _) q⟩
theorem zbT:RO zr7 zgM:=fun h o H S x y v u R Q hs hx hy q c=>by
 obtain⟨d,q1,e,q2,q3,q4,q⟩:=q;exact⟨d,e,zbx hs q1 hx,zbx hs q2 hy,q3,q4,c o H S _ _ Ex.refl hs (xB _) q⟩
theorem zfq:RO zsg zlP:=fun h o H S x y v u R Q hs hx hy q c=>by
 obtain⟨d,q1,e,q2,q3,q4,q⟩:=q;exact⟨d,e,zbx hs q1 hx,zbx hs q2 hy,q3,q4,c o H S _ _ Ex.refl hs (xB _) q⟩
theorem HasL.atI{H:Hp}{ds:List PyData}{vs:List V}{i:Int}{d:PyData}(l:HasL H ds vs)(e:L2.atI ds i=some d):∃ v,L2.atI vs i=some v/\Has H d v:=by
 unfold L2.atI at e ⊢;rw [l.length];cases hn:ixN ds.length i with
 | none=>rw [hn] at e; cases e
 | some j =>
  rw [hn] at e;exact l.get (show ds[j]? = some d from e)
theorem zpx{K:W.Frag}:RO (zrt K) zsn:=fun h o H S x y v u R Q hs hx hy q c=>by
 replace q:=zgT q;obtain⟨ds,rfl,q⟩:=q;replace q:=zaR q;obtain⟨i,rfl,d,e,q⟩:=q;obtain⟨a,vs,rfl,ea,l⟩:=zdS hx;obtain⟨w,ew,hw⟩:=l.atI e;exact⟨a,vs,i,w,rfl,zaB hy,.of ea,ew,c o H S (.d d) w Ex.refl hs hw q⟩
theorem zmZ{K:W.Frag}:RO (zrC K) zsp:=fun h o H S x y v u R Q hs hx hy q c=>by
 obtain⟨ds,e0,q⟩:=q;replace q:=zaR q;obtain⟨i,rfl,d,e,q⟩:=q;obtain⟨a,vs,rfl,ea,l⟩:=zba hs e0 hx;obtain⟨w,ew,hw⟩:=l.atI e;exact⟨a,vs,i,w,rfl,zaB hy,.of ea,ew,c o H S (.d d) w Ex.refl hs hw q⟩
theorem zpI:RO zo5 zsB:=fun h o H S x y v u R Q hs hx hy q c=>by
 obtain⟨ds,e0,es,e1,hl,q⟩:=q;obtain⟨a,vs,rfl,ea,la⟩:=zba hs e0 hx;obtain⟨b,us,rfl,eb,lb⟩:=zba hs e1 hy;exact⟨a,b,vs,us,rfl,rfl,ea,eb,by rw [la.length,lb.length]; exact le_of_lt (small1000 hl),zh6 hs (la.append lb) c q⟩
theorem zoC{K:W.Frag}:RO (zn7 K) zrj:=fun h o H S x y v u R Q hs hx hy q c=>by
 replace q:=zgT q;obtain⟨ds,rfl,q⟩:=q;replace q:=zgT q;obtain⟨es,rfl,hn,hl,q⟩:=q;obtain⟨a,vs,rfl,ea,la⟩:=zdS hx;obtain⟨b,us,rfl,eb,lb⟩:=zdS hy;refine⟨a,b,vs,us,rfl,rfl,.of ea,.of eb,fun z=>?_,by rw [la.length,lb.length]; exact le_of_lt (small1000 hl),fun z=>?_,fun _=>zmK hs (la.append lb) c q⟩
 ·subst z;have:=la.length;exact hn (eq_nil_of_length_eq_zero this.symm)
 ·subst z;have e:es=[]:=eq_nil_of_length_eq_zero lb.length.symm;subst e;rw [append_nil] at q;exact c o H S (.d (.tuple ds)) _ Ex.refl hs hx q
end
abbrev DO:=XE->Sto->(Option Int->Sto->Prop)->Prop
def RP(t:TO)(dt:DO):Prop:=∀ (h o:List Addr) (H:Hp) (δ:XE) (σ:St) (S:Sto) (R:Option Int->Sto->Prop) (Q:Option Int->Hp->Prop),RepE h o H δ σ->RepS h o H S->dt δ S R ->
 (∀ o' H' S' b,Ex o H o' H'->RepS h o' H' S'->R b S'->Q b H')->t σ H Q
def zdD:DO:=fun _ S R=>R none S
def zgG(a:DE):DO:=fun δ S R=>a δ S fun x S1=>asI x fun i=>R (some i) S1
theorem zgs:RP zkK zdD:=fun h o H δ σ S R Q he hs q c=>c o H S none Ex.refl hs q
theorem zet{t:TE}{da:DE}(ha:RE t da):RP (zjA t) (zgG da):=fun h o H δ σ S R Q he hs q c =>
 ha h o H δ σ S _ _ he hs q fun o1 H1 S1 x v e1 s1 x1 d1=>by
  replace d1:=zaR d1;obtain⟨i,rfl,d1⟩:=d1;exact⟨i,zaB x1,c o1 H1 S1 _ e1 s1 d1⟩
abbrev D3:=XV->Option Int->Option Int->Sto->RX->Prop
def RL(r:V->Option Int->Option Int->Hp->VK->Prop)(rd:D3):Prop:=∀ (h o:List Addr) (H:Hp) (S:Sto) (x:XV) (v:V) (a b:Option Int) (R:RX) (Q:VK),RepS h o H S->HasX h o H x v->rd x a b S R->Cn h o H R Q->r v a b H Q
def dSl(rd:D3)(e:DE)(a b:DO):DE:=fun δ S R=>e δ S fun x S1=>a δ S1 fun i S2=>b δ S2 fun j S3=>rd x i j S3 R
theorem zkz{r:V->Option Int->Option Int->Hp->VK->Prop}{rd:D3}{te:TE}{de:DE}{ta tb:TO}{da db:DO}(hr:RL r rd)(he':RE te de)(ha:RP ta da)(hb:RP tb db):RE (tSl r te ta tb) (dSl rd de da db):=fun h o H δ σ S R Q he hs q c =>
 he' h o H δ σ S _ _ he hs q fun o1 H1 S1 x v e1 s1 x1 d1=>ha h o1 H1 δ σ S1 _ _ (he.mono e1) s1 d1 fun o2 H2 S2 i e2 s2 d2=>hb h o2 H2 δ σ S2 _ _ ((he.mono e1).mono e2) s2 d2 fun o3 H3 S3 j e3 s3 d3 =>
  hr h o3 H3 S3 x v i j R Q s3 ((x1.mono e2).mono e3) d3 (c.pre ((e1.trans e2).trans e3))
def zsw:D3:=fun x i j S R=>asL S x fun ds=>R (.d (.list (zha ds i j))) S
def zsy:D3:=fun x i j S R=>asT x fun ds=>¬ (HT.sIx ds.length 0 i=0/\HT.sIx ds.length ds.length j=ds.length)/\R (.d (.tuple (zha ds i j))) S
theorem zk6{K:W.Frag}:RL (zqk K) zsw:=fun h o H S x v a b R Q hs hx q c=>by
 obtain⟨ds,e0,q⟩:=q;obtain⟨p,vs,rfl,ea,l⟩:=zba hs e0 hx;exact⟨p,vs,rfl,.of ea,zh6 hs (l.cut a b) c q⟩
theorem zqW{K:W.Frag}:RL (zrK K) zsy:=fun h o H S x v a b R Q hs hx q c=>by
 replace q:=zgT q;obtain⟨ds,rfl,hn,q⟩:=q;obtain⟨p,vs,rfl,ea,l⟩:=zdS hx;exact⟨p,vs,rfl,.of ea,by rw [l.length]; exact hn,zmK hs (l.cut a b) c q⟩
def asQ(S:Sto):XV->Option (List PyData)
 | .d (.tuple ds)=>some ds
 | .d (.list ds)=>some ds
 | .l k=>S[k]?
 | _=>none
theorem zgY{h o:List Addr}{H:Hp}{S:Sto}{x:XV}{v:V}{ds:List PyData}(r:RepS h o H S)(e:asQ S x=some ds)(q:HasX h o H x v):∃ a vs,v=.ref a/\(H a=some (.tup vs)\/H a=some (.lst vs))/\HasL (vx h o H) ds vs:=by
 unfold asQ at e;split at e
 ·cases e;obtain⟨a,vs,e,q,l⟩:=zdS q;exact⟨a,vs,e,.inl q,l⟩
 ·cases e;obtain⟨a,vs,e,q,l⟩:=zba (x:=.d (.list ds)) (ds:=ds) r rfl q;exact⟨a,vs,e,.inr q,l⟩
 ·rename_i k;obtain⟨a,vs,e,q,l⟩:=zba (x:=.l k) r e q;exact⟨a,vs,e,.inr q,l⟩
 ·cases e
def arg1:List XV->(XV->Prop)->Prop
 | [x],k=>k x
 | _,_=>False
def arg2:List XV->(XV->XV->Prop)->Prop
 | [x,y],k=>k x y
 | _,_=>False
theorem zas{xs:List XV}{k:XV->Prop}(h:arg1 xs k):∃ x,xs=[x]/\k x:=by
 unfold arg1 at h;split at h
 ·exact⟨_,rfl,h⟩
 ·exact h.elim
theorem zgo{xs:List XV}{k:XV->XV->Prop}(h:arg2 xs k):∃ x y,xs=[x,y]/\k x y:=by
 unfold arg2 at h;split at h
 ·exact⟨_,_,rfl,h⟩
 ·exact h.elim
theorem hxs1{h o:List Addr}{H:Hp}{x:XV}{vs:List V}(q:HasXs h o H [x] vs):∃ v,vs=[v]/\HasX h o H x v:=by
 obtain⟨v,r,e,hx,hr⟩:=q;cases hr;exact⟨v,e,hx⟩
theorem hxs2{h o:List Addr}{H:Hp}{x y:XV}{vs:List V}(q:HasXs h o H [x,y] vs):∃ v u,vs=[v,u]/\HasX h o H x v/\HasX h o H y u:=by
 obtain⟨v,r,e,hx,q⟩:=q;obtain⟨u,e',hy⟩:=hxs1 q;subst e';exact⟨v,u,e,hx,hy⟩
def zrx:XV->(String->Prop)->Prop
 | .o v,k=>∃ c,v=.ty c/\k c
 | _,_=>False
def zru:XV->(Int->Prop)->Prop
 | .d d,k=>match d with
  | .int i=>k i
  | .bool b=>k (if b then 1 else 0)
  | _=>False
 | _,_=>False
theorem zox{x:XV}{k:String->Prop}(h:zrx x k):∃ c,x=.o (.ty c)/\k c:=by
 cases x with
 | o v =>
  obtain⟨c,rfl,h⟩:=h;exact⟨c,rfl,h⟩
 | d d=>exact h.elim
 | l j=>exact h.elim
 | x _ _=>exact h.elim
theorem zoF{x:XV}{k:Int->Prop}(h:zru x k):(∃ i,x=.d (.int i)/\k i)\/∃ b,x=.d (.bool b)/\k (if b then 1 else 0):=by
 cases x with
 | d d =>
  cases d with
  | int i=>exact .inl ⟨i,rfl,h⟩
  | bool b=>exact .inr ⟨b,rfl,h⟩
  | _=>exact h.elim
 | _=>exact h.elim
def zsr:List XV->Sto->RX->Prop:=fun xs S R=>arg1 xs fun x=>∃ ds,asQ S x=some ds/\R (.d (.int ds.length)) S
theorem zkN{K:W.Frag}:RC (zrg K) zsr:=fun h o H S xs vs R Q hs hx q c=>by
 obtain⟨x,rfl,ds,hd,q1⟩:=zas q;obtain⟨v,rfl,hx1⟩:=hxs1 hx;obtain⟨a,ws,rfl,ea,l⟩:=zgY hs hd hx1;refine⟨a,ws,rfl,ea.elim (fun z=>.inr (.of z)) (fun z=>.inl (.of z)),?_⟩;rw [l.length];exact c o H S _ _ Ex.refl hs (xI _) q1
def zhp:List XV->Sto->RX->Prop:=fun xs S R=>arg2 xs fun x y=>zrx y fun cl=>∃ d,zcJ S x=some d/\cl∈zl0/\R (.d (.bool (zoe d cl))) S
theorem zb0:RC zro zhp:=fun h o H S xs vs R Q hs hx q c=>by
 obtain⟨x,y,rfl,q1⟩:=zgo q;obtain⟨cl,rfl,d,hd,hc,q2⟩:=zox q1;obtain⟨v,u,rfl,hx1,hu⟩:=hxs2 hx;cases hu;exact znS (zbx hs hd hx1) hc (c o H S _ _ Ex.refl hs (xB _) q2)
def zqg:List XV->Sto->RX->Prop:=fun xs S R=>arg1 xs fun x=>asI x fun i=>R (.d (.int (if i<0 then -i else i))) S
theorem znJ:RC (fun xs H Q=>∃ i,xs=[.int i]/\Q (.int (if i<0 then -i else i)) H) zqg:=fun h o H S xs vs R Q hs hx q c=>by
 obtain⟨x,rfl,q1⟩:=zas q;obtain⟨v,rfl,hx1⟩:=hxs1 hx;obtain⟨i,rfl,q2⟩:=zaR q1;exact⟨i,by rw [zaB hx1],c o H S _ _ Ex.refl hs (xI _) q2⟩
def zmi:List XV->Sto->RX->Prop:=fun xs S R=>arg1 xs fun x=>zru x fun i=>R (.d (.int i)) S
theorem zoT:RC (fun xs H Q=>(∃ i,xs=[.int i]/\Q (.int i) H)\/∃ k,xs=[.bl k]/\Q (.int (if k then 1 else 0)) H) zmi:=fun h o H S xs vs R Q hs hx q c=>by
 obtain⟨x,rfl,q1⟩:=zas q;obtain⟨v,rfl,hx1⟩:=hxs1 hx;rcases zoF q1 with ⟨i,rfl,q2⟩ | ⟨b,rfl,q2⟩
 ·exact .inl ⟨_,by rw [zaB hx1],c o H S _ _ Ex.refl hs (xI _) q2⟩
 ·exact .inr ⟨_,by rw [zdz hx1],c o H S _ _ Ex.refl hs (xI _) q2⟩
def dI2(g:Int->Int->Int):List XV->Sto->RX->Prop:=fun xs S R=>arg2 xs fun x y=>asI x fun i=>asI y fun j=>R (.d (.int (g i j))) S
theorem zrJ{g:Int->Int->Int}:RC (fun xs H Q=>∃ i j,xs=[.int i,.int j]/\Q (.int (g i j)) H) (dI2 g):=fun h o H S xs vs R Q hs hx q c=>by
 obtain⟨x,y,rfl,q1⟩:=zgo q;obtain⟨v,u,rfl,hx1,hu⟩:=hxs2 hx;obtain⟨i,rfl,q2⟩:=zaR q1;obtain⟨j,rfl,q3⟩:=zaR q2;exact⟨i,j,by rw [zaB hx1,zaB hu],c o H S _ _ Ex.refl hs (xI _) q3⟩
def zey:List XV->Sto->RX->Prop:=fun xs S R=>arg1 xs fun x=>∃ ds,asQ S x=some ds/\R (.d (.tuple ds)) S
theorem zeX{K:W.Frag}:RC (fun xs H Q=>∃ p ys,xs=[.ref p]/\((SqL K H p ys/\∀ l,H l=none->Q (.ref l) (upd H l (.tup ys)))\/(SqT K H p ys/\Q (.ref p) H))) zey:=fun h o H S xs vs R Q hs hx q c=>by
 obtain⟨x,rfl,ds,hd,q1⟩:=zas q;obtain⟨v,rfl,hx1⟩:=hxs1 hx;obtain⟨a,ws,rfl,ea,l⟩:=zgY hs hd hx1;refine⟨a,ws,rfl,ea.elim (fun z=>.inr ⟨.of z,?_⟩) (fun z=>.inl ⟨.of z,zmK hs l c q1⟩)⟩;have hh:HasX h o H (.d (.tuple ds)) (.ref a):=by
  unfold asQ at hd;split at hd
  ·cases hd;exact hx1
  ·obtain⟨a',us,e1,e2,_⟩:=zba (x:=.d (.list _)) hs rfl hx1;cases e1;rw [z] at e2;cases e2
  ·rename_i k;obtain⟨a',us,e1,e2,_⟩:=zba (x:=.l k) hs hd hx1;cases e1;rw [z] at e2;cases e2
  ·cases hd
 exact c o H S _ _ Ex.refl hs hh q1
def ziZ:List XV->Sto->RX->Prop:=fun xs S R=>arg1 xs fun x=>∃ ds,asQ S x=some ds/\R (.d (.list ds)) S
theorem zmC{K:W.Frag}:RC (fun xs H Q=>∃ p ys,xs=[.ref p]/\(SqL K H p ys\/SqT K H p ys)/\∀ l,H l=none->Q (.ref l) (upd H l (.lst ys))) ziZ:=fun h o H S xs vs R Q hs hx q c=>by
 obtain⟨x,rfl,ds,hd,q1⟩:=zas q;obtain⟨v,rfl,hx1⟩:=hxs1 hx;obtain⟨a,ws,rfl,ea,l⟩:=zgY hs hd hx1;exact⟨a,ws,rfl,ea.elim (fun z=>.inr (.of z)) (fun z=>.inl (.of z)),zh6 hs l c q1⟩
theorem zdc{H:Hp}:∀ {ns:List Int} {vs:List V},HasL H (ns.map PyData.int) vs->vs=ns.map V.int
 | [],vs,h=>zw.mp h
 | n :: ns,vs,h=>by
  obtain⟨v,r,rfl,h1,h2⟩:=zu.mp h;rw [zbV.mp h1,zdc h2];rfl
def zsh:List XV->Sto->RX->Prop:=fun xs S R=>arg1 xs fun x=>∃ ds,asQ S x=some ds/\∃ ns,ds=ns.map PyData.int/\ns≠[]/\∀ m,m∈ns->(∀ a,a∈ns->m<=a)->R (.d (.int m)) S
def zrn:List XV->Sto->RX->Prop:=fun xs S R=>arg1 xs fun x=>∃ ds,asQ S x=some ds/\∃ ns,ds=ns.map PyData.int/\ns≠[]/\∀ m,m∈ns->(∀ a,a∈ns->a<=m)->R (.d (.int m)) S
theorem zqY{K:W.Frag}:RC (zrr K) zsh:=fun h o H S xs vs R Q hs hx q c=>by
 obtain⟨x,rfl,ds,hd,ns,rfl,hn,q1⟩:=zas q;obtain⟨v,rfl,hx1⟩:=hxs1 hx;obtain⟨a,ws,rfl,ea,l⟩:=zgY hs hd hx1;rw [zdc l] at ea;exact⟨a,ns,rfl,ea.elim (fun z=>.inr (.of z)) (fun z=>.inl (.of z)),hn,fun m m1 m2=>c o H S _ _ Ex.refl hs (xI _) (q1 m m1 m2)⟩
theorem zqJ{K:W.Frag}:RC (zsj K) zrn:=fun h o H S xs vs R Q hs hx q c=>by
 obtain⟨x,rfl,ds,hd,ns,rfl,hn,q1⟩:=zas q;obtain⟨v,rfl,hx1⟩:=hxs1 hx;obtain⟨a,ws,rfl,ea,l⟩:=zgY hs hd hx1;rw [zdc l] at ea;exact⟨a,ns,rfl,ea.elim (fun z=>.inr (.of z)) (fun z=>.inl (.of z)),hn,fun m m1 m2=>c o H S _ _ Ex.refl hs (xI _) (q1 m m1 m2)⟩
def dBM(rd:XV->List XV->Sto->RX->Prop)(e:DE)(a:DA):DE:=fun δ S R=>e δ S fun x S1=>∃ k,x=.l k/\k<S1.length/\a δ S1 fun xs S2=>rd x xs S2 R
def zq8(rd:XV->List XV->Sto->RX->Prop)(e:DE):DE:=fun δ S R=>e δ S fun x S1=>∃ k,x=.l k/\k<S1.length/\rd x [] S1 R
def RM(r:V->List V->Hp->VK->Prop)(rd:XV->List XV->Sto->RX->Prop):Prop:=∀ (h o:List Addr) (H:Hp) (S:Sto) (x:XV) (v:V) (xs:List XV) (vs:List V) (R:RX) (Q:VK),RepS h o H S->HasX h o H x v->HasXs h o H xs vs->rd x xs S R->Cn h o H R Q->r v vs H Q
theorem zgu{K:W.Frag}{H:Hp}{a:Addr}{vs:List V}(e:H a=some (.lst vs)):tyV K "list" (.ref a) H:=.inl ⟨rfl,vs,.of e⟩
theorem znn{h o:List Addr}{H:Hp}{S:Sto}{k:Nat}{v:V}(hs:RepS h o H S)(hk:k<S.length)(hx:HasX h o H (.l k) v):∃ a vs,v=.ref a/\H a=some (.lst vs):=by
 obtain⟨a,e,rfl⟩:=hx;obtain⟨vs,e2,_⟩:=hs.cont k a _ e (getElem?_eq_getElem hk);exact⟨a,vs,rfl,e2⟩
theorem zjc{K:W.Frag}{r:V->List V->Hp->VK->Prop}{rd:XV->List XV->Sto->RX->Prop}{te:TE}{de:DE}{tl:TA}{dl:DA}(hr:RM r rd)(he':RE te de)(ha:RA tl dl):RE (tBM K "list" r te tl) (dBM rd de dl):=fun h o H δ σ S R Q he hs q c =>
 he' h o H δ σ S _ _ he hs q fun o1 H1 S1 x v e1 s1 x1 ⟨k,ek,hk,d1⟩=>by
  subst ek;obtain⟨a,ws,rfl,ea⟩:=znn s1 hk x1;exact⟨zgu ea,ha h o1 H1 δ σ S1 _ _ (he.mono e1) s1 d1 fun o2 H2 S2 xs vs e2 s2 x2 d2=>hr h o2 H2 S2 (.l k) _ xs vs R Q s2 (x1.mono e2) x2 d2 (c.pre (e1.trans e2))⟩
theorem zp6{K:W.Frag}{r:V->List V->Hp->VK->Prop}{rd:XV->List XV->Sto->RX->Prop}{te:TE}{de:DE}(hr:RM r rd)(he':RE te de):RE (zr9 K "list" r te) (zq8 rd de):=fun h o H δ σ S R Q he hs q c =>
 he' h o H δ σ S _ _ he hs q fun o1 H1 S1 x v e1 s1 x1 ⟨k,ek,hk,d1⟩=>by
  subst ek;obtain⟨a,ws,rfl,ea⟩:=znn s1 hk x1;exact⟨zgu ea,hr h o1 H1 S1 (.l k) _ [] [] R Q s1 x1 rfl d1 (c.pre e1)⟩
def zcb:XV->List XV->Sto->RX->Prop:=fun x xs S R=>∃ k,x=.l k/\∃ ds,S[k]? = some ds/\arg1 xs fun y=>asD y fun d=>ds.length<1000/\R (.d .none) (S.set k (ds++[d]))
theorem zd3:RM zkL zcb:=fun h o H S x v xs vs R Q hs hx hxs q c=>by
 obtain⟨k,rfl,ds,e,q1⟩:=q;obtain⟨y,rfl,q2⟩:=zas q1;obtain⟨d,rfl,hl,q3⟩:=zgf q2;obtain⟨a,ea,rfl⟩:=hx;obtain⟨u,rfl,hu⟩:=hxs1 hxs;obtain⟨ws,ew,l⟩:=hs.cont k a ds ea e;exact⟨a,ws,u,rfl,rfl,ew,by rw [l.length]; exact small1000 (le_of_lt hl),c o _ _ (.d .none) _ (Ex.upd ea) (hs.upd ea (l.append (zu.mpr ⟨u,[],rfl,hu,zw.mpr rfl⟩))) xN q3⟩
def zeU:XV->List XV->Sto->RX->Prop:=fun x xs S R=>∃ k,x=.l k/\∃ ds,S[k]? = some ds/\xs=[]/\R (.d .none) (S.set k ds.reverse)
theorem zja:RM ziJ zeU:=fun h o H S x v xs vs R Q hs hx hxs q c=>by
 obtain⟨k,rfl,ds,e,rfl,q1⟩:=q;obtain⟨a,ea,rfl⟩:=hx;obtain⟨ws,ew,l⟩:=hs.cont k a ds ea e;cases hxs;exact⟨a,ws,rfl,rfl,ew,c o _ _ (.d .none) _ (Ex.upd ea) (hs.upd ea l.rev) xN q1⟩
def zft:XV->List XV->Sto->RX->Prop:=fun x xs S R=>∃ k,x=.l k/\∃ ds,S[k]? = some ds/\arg1 xs fun y=>∃ es,zjC S y=some es/\ds.length+es.length<=1000/\R (.d .none) (S.set k (ds++es))
theorem zg5:RM zkY zft:=fun h o H S x v xs vs R Q hs hx hxs q c=>by
 obtain⟨k,rfl,ds,e,q1⟩:=q;obtain⟨y,rfl,es,ey,hl,q3⟩:=zas q1;obtain⟨a,ea,rfl⟩:=hx;obtain⟨u,rfl,hu⟩:=hxs1 hxs;obtain⟨ws,ew,l⟩:=hs.cont k a ds ea e;obtain⟨b,zs,rfl,eb,lb⟩:=zba hs ey hu;exact⟨a,b,ws,zs,rfl,rfl,ew,eb,by rw [l.length,lb.length]; exact le_of_lt (small1000 hl),c o _ _ (.d .none) _ (Ex.upd ea) (hs.upd ea (l.append lb)) xN q3⟩
def ret0(S:Sto)(R:RX):RX:=fun y S'=>match y,S' with
 | .d d,[]=>R (.d d) S
 | .l 0,[ds]=>R (.l S.length) (S++[ds])
 | _,_=>False
def zq9(k:Nat)(S:Sto)(R:RX):RX:=fun y S'=>match y,S' with
 | .d d,[p]=>R (.d d) (S.set k p)
 | .l 1,[p,ds]=>R (.l S.length) (S.set k p++[ds])
 | _,_=>False
section
variable {h o:List Addr} {H:Hp} {S:Sto} {R:RX} {Q:VK}
theorem zh1{h o h' o':List Addr}{H:Hp}(e:∀ b,(b∈h'\/b∈o')↔(b∈h\/b∈o)):vx h' o' H=vx h o H:=by
 funext b;have iff:∀ u,vx h' o' H b=some u↔vx h o H b=some u:=fun u=>by
  rw [zY,zY];have:=e b;constructor
  ·rintro⟨a1,a2,a3⟩;exact⟨fun m=>(this.mpr (.inl m)).elim a1 a2,fun m=>(this.mpr (.inr m)).elim a1 a2,a3⟩
  ·rintro⟨a1,a2,a3⟩;exact⟨fun m=>(this.mp (.inl m)).elim a1 a2,fun m=>(this.mp (.inr m)).elim a1 a2,a3⟩
 cases e1:vx h' o' H b with
 | some u=>exact((iff u).mp e1).symm
 | none =>
  cases e2:vx h o H b with
  | none=>rfl
  | some u=>rw [(iff u).mpr e2] at e1; cases e1
theorem rep0(hs:RepS h o H S):RepS (h++o) [] H [] where
 len:=rfl
 nd:=nodup_nil
 dis:=fun a ha=>by cases ha
 hal:=fun b hb=>(mem_append.mp hb).elim (hs.hal b) (hs.oam b)
 cont:=fun k a ds e=>by simp at e
theorem hx0{d:PyData}{v:V}(hx:HasX h o H (.d d) v):HasX (h++o) [] H (.d d) v:=by
 show Has (vx (h++o) [] H) d v;rw [zh1 (h:=h) (o:=o) fun b=>by simp];exact hx
theorem hx0'{d:PyData}{v:V}(hx:HasX (h++o) [] H (.d d) v):HasX h o H (.d d) v:=by
 show Has (vx h o H) d v;rw [<- zh1 (h':=h++o) (o':=[]) (h:=h) (o:=o) fun b=>by simp];exact hx
theorem cn0(hs:RepS h o H S)(c:Cn h o H R Q):Cn (h++o) [] H (ret0 S R) Q:=fun o' H' S' y v e s' hy q=>by
 have sm:Same H (vx [] o' H'):=fun b u eb=>by
  obtain⟨a1,a2⟩:=e.kp b u (by simp) eb;exact zY.mpr ⟨by simp,a1,a2⟩
 have sH:Same H H':=fun b u eb=>(zY.mp (sm b u eb)).2.2;unfold ret0 at q;split at q
 ·have e0:o'=[]:=eq_nil_of_length_eq_zero s'.len.symm;subst e0;exact c o H' S _ v (Ex.of_same sH) (hs.same sH) (hx0' hy) q
 ·rename_i ds;obtain⟨a,rfl⟩:∃ a,o'=[a]:=List.length_eq_one_iff.mp s'.len.symm;obtain⟨a',ea,rfl⟩:=hy;cases ea;obtain⟨vs,ev,l⟩:=s'.cont 0 a ds rfl rfl;have na:a∉h++o:=s'.dis a (by simp);have hn:H a=none:=by
   cases eh:H a with
   | none=>rfl
   | some u=>exact absurd (e.kp a u (by simp) eh).1 (by simp)
  have e2:Ex o H (o++[a]) H':=⟨⟨[a],rfl⟩,fun b u hb eb=>by
   obtain⟨a1,a2⟩:=e.kp b u (by simp) eb;exact⟨by simp only [mem_append,not_or]; exact⟨hb,a1⟩,a2⟩⟩
  have ev':vx (h++o) [a] H'=vx h (o++[a]) H':=zh1 fun b=>by simp [or_assoc]
  rw [ev'] at l;refine c (o++[a]) H' (S++[ds]) (.l S.length) _ e2 ⟨by simp [hs.len],zbF hs.nd fun m=>na (mem_append_right _ m),fun b hb=>?_,fun b hb=>?_,fun k b es q1 q2=>?_⟩ ⟨a,by rw [hs.len,getElem?_concat_length],rfl⟩ q
  ·rcases mem_append.mp hb with hb | hb
   ·exact hs.dis b hb
   ·rw [mem_singleton.mp hb]; exact fun m=>na (mem_append_left _ m)
  ·obtain⟨u,eb⟩:=hs.hal b hb;exact⟨u,sH b _ eb⟩
  ·by_cases hk:k<o.length
   ·rw [getElem?_append_left hk] at q1;rw [getElem?_append_left (by rw [hs.len]; exact hk)] at q2;obtain⟨ws,e3,l3⟩:=hs.cont k b es q1 q2;exact⟨ws,sH _ _ e3,l3.mono e2.vx⟩
   ·have hk':k=o.length:=by
     obtain⟨q,_⟩:=List.getElem?_eq_some_iff.mp q1;rw [length_append,length_singleton] at q;omega
    subst hk';rw [getElem?_concat_length] at q1;rw [<- hs.len,getElem?_concat_length] at q2;cases q1;cases q2;exact⟨vs,ev,l⟩
 ·exact q.elim
theorem zq3{k:Nat}{a:Addr}{p:List PyData}(hs:RepS h o H S)(ea:o[k]? = some a)(ep:S[k]? = some p):RepS (h++o.filter (fun b=>b≠a)) [a] H [p] where
 len:=rfl
 nd:=by simp
 dis:=fun b hb=>by
  rw [mem_singleton.mp hb];intro m;rcases mem_append.mp m with m | m
  ·exact hs.dis a (mem_of_getElem? ea) m
  ·have:=(mem_filter.mp m).2;simp at this
 hal:=fun b hb=>(mem_append.mp hb).elim (hs.hal b) fun m=>hs.oam b (mem_filter.mp m).1
 cont:=fun j b ds e1 e2=>by
  cases j with
  | succ j=>simp at e1
  | zero =>
   cases e1;cases e2;obtain⟨vs,e3,l⟩:=hs.cont k a p ea ep;refine⟨vs,e3,?_⟩;rw [zh1 (h:=h) (o:=o) (mem_pen ea)];exact l
where
 mem_pen {h o:List Addr} {k:Nat} {a:Addr} (ea:o[k]? = some a) (b:Addr):(b∈h++o.filter (fun b=>b≠a)\/b∈[a])↔(b∈h\/b∈o):=by
  have ma:=mem_of_getElem? ea;by_cases e:b=a
  ·subst e;simp [ma]
  ·simp [e]
theorem hxP{k:Nat}{a:Addr}{d:PyData}{v:V}(ea:o[k]? = some a)(hx:HasX h o H (.d d) v):HasX (h++o.filter (fun b=>b≠a)) [a] H (.d d) v:=by
 show Has (vx _ _ H) d v;rw [zh1 (h:=h) (o:=o) (zq3.mem_pen ea)];exact hx
theorem cnP{k:Nat}{a:Addr}{p:List PyData}(hs:RepS h o H S)(ea:o[k]? = some a)(ep:S[k]? = some p)(c:Cn h o H R Q):Cn (h++o.filter (fun b=>b≠a)) [a] H (zq9 k S R) Q:=fun o' H' S' y v e s' hy q=>by
 have ma:=mem_of_getElem? ea;have hk:k<o.length:=(List.getElem?_eq_some_iff.mp ea).1;unfold zq9 at q;split at q
 ·rename_i d p';obtain⟨r,rfl⟩:=e.pre;have er:r=[]:=by
   have:=s'.len;simp at this;exact this
  subst er;have ex:Ex o H o H':=⟨⟨[],by simp⟩,fun b u hb eb=>⟨hb,(e.kp b u (fun m=>hb (by rw [mem_singleton.mp m]; exact ma)) eb).2⟩⟩;obtain⟨vs,ev,l⟩:=s'.cont 0 a p' rfl rfl;have ev':vx (h++o.filter (fun b=>b≠a)) ([a]++[]) H'=vx h o H':=zh1 (zq3.mem_pen ea);rw [ev'] at l;refine c o H' (S.set k p') (.d d) v ex ⟨by simp [hs.len],hs.nd,hs.dis,fun b hb=>?_,fun j b es q1 q2=>?_⟩ (by
   have hy':Has (vx (h++o.filter (fun b=>b≠a)) ([a]++[]) H') d v:=hy;rw [ev'] at hy';exact hy') q
  ·obtain⟨u,eb⟩:=hs.hal b hb;exact⟨u,(e.kp b _ (fun m=>hs.dis a ma (by rw [<- mem_singleton.mp m]; exact hb)) eb).2⟩
  ·by_cases hj:j=k
   ·subst hj;rw [q1] at ea;cases ea;rw [getElem?_set_self (by rw [hs.len]; exact hk)] at q2;cases q2;exact⟨vs,ev,l⟩
   ·rw [getElem?_set_ne (Ne.symm hj)] at q2;obtain⟨ws,e3,l3⟩:=hs.cont j b es q1 q2;have ne:b≠a:=fun z=>hj (zd2 hs.nd q1 (z▸ea));exact⟨ws,(e.kp b _ (by simp [ne]) e3).2,l3.mono ex.vx⟩
 ·rename_i p' ds;obtain⟨r,rfl⟩:=e.pre;obtain⟨a2,rfl⟩:∃ a2,r=[a2]:=by
   have:=s'.len;simp at this;exact List.length_eq_one_iff.mp this
  obtain⟨b2,eb2,rfl⟩:=hy;cases eb2;obtain⟨vs,ev,l⟩:=s'.cont 0 a p' rfl rfl;obtain⟨vs2,ev2,l2⟩:=s'.cont 1 a2 ds rfl rfl;have n2:a2∉h++o.filter (fun b=>b≠a):=s'.dis a2 (by simp);have n3:a≠a2:=by
   have:=s'.nd;simp at this;exact this
  have n4:a2∉o:=fun m=>n2 (mem_append_right _ (mem_filter.mpr ⟨m,by simp [Ne.symm n3]⟩));have ex:Ex o H (o++[a2]) H':=⟨⟨[a2],rfl⟩,fun b u hb eb=>by
   obtain⟨z1,z2⟩:=e.kp b u (fun m=>hb (by rw [mem_singleton.mp m]; exact ma)) eb;refine⟨?_,z2⟩;simp only [mem_append,not_or];exact⟨hb,fun m=>z1 (by simp at m ⊢; exact .inr m)⟩⟩
  have ev':vx (h++o.filter (fun b=>b≠a)) ([a]++[a2]) H'=vx h (o++[a2]) H':=zh1 fun b=>by
   have:=zq3.mem_pen (h:=h) ea b;simp only [mem_append] at this ⊢;rw [<- or_assoc,this,or_assoc]
  rw [ev'] at l l2;refine c (o++[a2]) H' (S.set k p'++[ds]) (.l S.length) _ ex ⟨by simp [hs.len],zbF hs.nd n4,fun b hb=>?_,fun b hb=>?_,fun j b es q1 q2=>?_⟩ ⟨a2,by rw [hs.len,getElem?_concat_length],rfl⟩ q
  ·rcases mem_append.mp hb with hb | hb
   ·exact hs.dis b hb
   ·rw [mem_singleton.mp hb]; exact fun m=>n2 (mem_append_left _ m)
  ·obtain⟨u,eb⟩:=hs.hal b hb;exact⟨u,(e.kp b _ (fun m=>hs.dis a ma (by rw [<- mem_singleton.mp m]; exact hb)) eb).2⟩
  ·by_cases hjo:j<o.length
   ·rw [getElem?_append_left hjo] at q1;rw [getElem?_append_left (by rw [length_set,hs.len]; exact hjo)] at q2;by_cases hj:j=k
    ·subst hj;rw [q1] at ea;cases ea;rw [getElem?_set_self (by rw [hs.len]; exact hk)] at q2;cases q2;exact⟨vs,ev,l⟩
    ·rw [getElem?_set_ne (Ne.symm hj)] at q2;obtain⟨ws,e3,l3⟩:=hs.cont j b es q1 q2;have ne:b≠a:=fun z=>hj (zd2 hs.nd q1 (z▸ea));exact⟨ws,(e.kp b _ (by simp [ne]) e3).2,l3.mono ex.vx⟩
   ·have hk':j=o.length:=by
     obtain⟨q,_⟩:=List.getElem?_eq_some_iff.mp q1;rw [length_append,length_singleton] at q;omega
    subst hk';rw [getElem?_concat_length] at q1;rw [<- hs.len,<- length_set (i:=k) (a:=p'),getElem?_concat_length] at q2;cases q1;cases q2;exact⟨vs2,ev2,l2⟩
 ·exact q.elim
end
structure DEnds where
 nx:XE->Sto->Prop
 rt:RX
 bk:XE->Sto->Prop:=fun _ _=>False
 ct:XE->Sto->Prop:=fun _ _=>False
abbrev DS:=DEnds->XE->Sto->Prop
abbrev DG:=XV->XE->Sto->(XE->Sto->Prop)->Prop
abbrev DGs:=List PyData->XE->Sto->(XE->Sto->Prop)->Prop
def Nx(h o:List Addr)(H:Hp)(N:XE->Sto->Prop)(M:St->Hp->Prop):Prop:=∀ o' H' δ' S' σ',Ex o H o' H'->RepE h o' H' δ' σ'->RepS h o' H' S'->N δ' S'->M σ' H'
theorem Nx.pre{h o o':List Addr}{H H':Hp}{N:XE->Sto->Prop}{M:St->Hp->Prop}(c:Nx h o H N M)(e:Ex o H o' H'):Nx h o' H' N M:=fun o2 H2 δ2 S2 σ2 e2=>c o2 H2 δ2 S2 σ2 (e.trans e2)
structure EOk(h o:List Addr)(H:Hp)(E:DEnds)(D:Ends):Prop where
 nx:Nx h o H E.nx D.nx
 rt:Cn h o H E.rt D.rt
 bk:Nx h o H E.bk D.bk
 ct:Nx h o H E.ct D.ct
theorem EOk.pre{h o o':List Addr}{H H':Hp}{E:DEnds}{D:Ends}(c:EOk h o H E D)(e:Ex o H o' H'):EOk h o' H' E D:=⟨c.nx.pre e,c.rt.pre e,c.bk.pre e,c.ct.pre e⟩
def RS(t:TS)(dt:DS):Prop:=∀ (h o:List Addr) (H:Hp) (δ:XE) (σ:St) (S:Sto) (E:DEnds) (D:Ends),RepE h o H δ σ->RepS h o H S->dt E δ S->EOk h o H E D->t D σ H
def RG(t:TG)(dt:DG):Prop:=∀ (h o:List Addr) (H:Hp) (δ:XE) (σ:St) (S:Sto) (x:XV) (v:V) (N:XE->Sto->Prop) (M:St->Hp->Prop),RepE h o H δ σ->RepS h o H S->HasX h o H x v->dt x δ S N->Nx h o H N M->t v σ H M
def RGs(t:TGs)(dt:DGs):Prop:=∀ (h o:List Addr) (H:Hp) (δ:XE) (σ:St) (S:Sto) (ds:List PyData) (vs:List V) (N:XE->Sto->Prop) (M:St->Hp->Prop),RepE h o H δ σ->RepS h o H S->HasL (vx h o H) ds vs->dt ds δ S N->Nx h o H N M->t vs σ H M
def zp(i:Nat):DG:=fun x δ S N=>N (δ.set i (some x)) S
def zdh:DGs:=fun ds δ S N=>ds=[]/\N δ S
def hdD:List PyData->(PyData->List PyData->Prop)->Prop
 | d :: es,k=>k d es
 | [],_=>False
theorem zp5{ds:List PyData}{k:PyData->List PyData->Prop}(h:hdD ds k):∃ d es,ds=d :: es/\k d es:=by
 cases ds with
 | nil=>exact h.elim
 | cons d es=>exact⟨d,es,rfl,h⟩
theorem zqF{d:PyData}{es:List PyData}{k:PyData->List PyData->Prop}:hdD (d :: es) k=k d es:=rfl
def zaf(g:DG)(r:DGs):DGs:=fun ds δ S N=>hdD ds fun d es=>g (.d d) δ S fun δ' S'=>r es δ' S' N
def zdi(n:Nat)(r:DGs):DG:=fun x δ S N=>asT x fun ds=>ds.length=n/\r ds δ S N
def zjx(a b:DE):DG:=fun x δ S N=>a δ S fun y S1=>b δ S1 fun z S2=>asD x fun d=>∃ k,y=.l k/\∃ ds,S2[k]? = some ds/\asI z fun i=>∃ j,ixN ds.length i=some j/\N δ (S2.set k (ds.set j d))
theorem zm{i:Nat}:RG (zic i) (zp i):=fun h o H δ σ S x v N M he hs hx q c=>c o H _ S _ Ex.refl (he.set hx) hs q
theorem zca:RGs zr8 zdh:=fun h o H δ σ S ds vs N M he hs l ⟨e,q⟩ c=>by
 subst e;exact⟨zw.mp l,c o H δ S σ Ex.refl he hs q⟩
theorem zX{t:TG}{u:TGs}{g:DG}{r:DGs}(h1:RG t g)(h2:RGs u r):RGs (zpO t u) (zaf g r):=fun h o H δ σ S ds vs N M he hs l q0 c=>by
 obtain⟨d,es,rfl,q⟩:=zp5 q0;obtain⟨v,ws,rfl,hv,l⟩:=zu.mp l;exact⟨v,ws,rfl,h1 h o H δ σ S (.d d) v _ _ he hs hv q fun o1 H1 δ1 S1 σ1 e1 he1 hs1 q1=>h2 h o1 H1 δ1 σ1 S1 es ws N M he1 hs1 (l.mono e1.vx) q1 (c.pre e1)⟩
theorem zdv{K:W.Frag}{n:Nat}{t:TGs}{r:DGs}(h1:RGs t r):RG (zrY K n t) (zdi n r):=fun h o H δ σ S x v N M he hs hx q c=>by
 replace q:=zgT q;obtain⟨ds,rfl,hn,q⟩:=q;obtain⟨a,vs,rfl,ea,l⟩:=zdS hx;exact⟨a,vs,rfl,.of ea,by rw [l.length]; exact hn,h1 h o H δ σ S ds vs N M he hs l q c⟩
theorem HasL.setAt{H:Hp}:∀ {ds:List PyData} {vs:List V} {j:Nat} {d:PyData} {v:V},HasL H ds vs->Has H d v->HasL H (ds.set j d) (vs.set j v)
 | [],vs,j,d,v,l,_=>by rw [zw.mp l]; exact zw.mpr rfl
 | c :: ds,vs,0,d,v,l,q=>by
  obtain⟨u,r,rfl,_,l⟩:=zu.mp l;exact zu.mpr ⟨v,r,rfl,q,l⟩
 | c :: ds,vs,j+1,d,v,l,q=>by
  obtain⟨u,r,rfl,hu,l⟩:=zu.mp l;exact zu.mpr ⟨u,r.set j v,rfl,hu,HasL.setAt l q⟩
theorem zkm{ta tb:TE}{da db:DE}(ha:RE ta da)(hb:RE tb db):RG (zsk ta tb zql) (zjx da db):=fun h o H δ σ S x v N M he hs hx q c =>
 ha h o H δ σ S _ _ he hs q fun o1 H1 S1 y u e1 s1 y1 d1=>hb h o1 H1 δ σ S1 _ _ (he.mono e1) s1 d1 fun o2 H2 S2 z w e2 s2 z2 d0=>by
  obtain⟨d,rfl,k,rfl,ds,es,d2⟩:=zgf d0;replace d2:=zaR d2;obtain⟨i,rfl,j,ej,d2⟩:=d2;obtain⟨a,ea,rfl⟩:=y1.mono e2;obtain⟨ws,ew,l⟩:=s2.cont k a ds ea es;refine⟨a,ws,i,j,rfl,zaB z2,ew,by rw [l.length]; exact ej,?_⟩;exact c o2 _ δ _ σ ((e1.trans e2).trans (Ex.upd ea)) (((he.mono e1).mono e2).mono (Ex.upd ea)) (s2.upd ea (l.setAt (hx.mono (e1.trans e2)))) d2
def zau:DS:=fun E δ S=>E.nx δ S
def zae(t u:DS):DS:=fun E δ S=>t { E with nx:=u E } δ S
def zaT(e:DE)(g:DG):DS:=fun E δ S=>e δ S fun x S1=>g x δ S1 E.nx
def zeo(e:DE):DS:=fun E δ S=>e δ S fun _ S1=>E.nx δ S1
def zbf(e:DE):DS:=fun E δ S=>e δ S E.rt
def zcG(c:DT)(t u:DS):DS:=fun E δ S=>c δ S fun b S1=>if b=true then t E δ S1 else u E δ S1
section
variable {t u:TS} {dt du:DS} {te:TE} {de:DE}
theorem zK:RS znT zau:=fun h o H δ σ S E D he hs q c=>c.nx o H δ S σ Ex.refl he hs q
theorem zt(ht:RS t dt)(hu:RS u du):RS (zgI t u) (zae dt du):=fun h o H δ σ S E D he hs q c =>
 ht h o H δ σ S _ _ he hs q ⟨fun o1 H1 δ1 S1 σ1 e1 he1 hs1 q1=>hu h o1 H1 δ1 σ1 S1 E D he1 hs1 q1 (c.pre e1),c.rt,c.bk,c.ct⟩
theorem zC{g:TG}{dg:DG}(he':RE te de)(hg:RG g dg):RS (zqC te g) (zaT de dg):=fun h o H δ σ S E D he hs q c =>
 he' h o H δ σ S _ _ he hs q fun o1 H1 S1 x v e1 s1 x1 d1=>hg h o1 H1 δ σ S1 x v _ _ (he.mono e1) s1 x1 d1 (c.nx.pre e1)
theorem zdG(he':RE te de):RS (zpc te) (zeo de):=fun h o H δ σ S E D he hs q c =>
 he' h o H δ σ S _ _ he hs q fun o1 H1 S1 x v e1 s1 x1 d1=>c.nx o1 H1 δ S1 σ e1 (he.mono e1) s1 d1
theorem zM(he':RE te de):RS (zrG te) (zbf de):=fun h o H δ σ S E D he hs q c=>he' h o H δ σ S _ _ he hs q c.rt
theorem zaP{tc:TT}{dc:DT}(hc:RT tc dc)(ht:RS t dt)(hu:RS u du):RS (zrb tc t u) (zcG dc dt du):=fun h o H δ σ S E D he hs q c =>
 hc h o H δ σ S _ _ he hs q fun o1 H1 S1 b e1 s1 d1=>by
  cases b with
  | true=>exact zmF (ht h o1 H1 δ σ S1 E D (he.mono e1) s1 (by simpa using d1) (c.pre e1))
  | false=>exact zmE (hu h o1 H1 δ σ S1 E D (he.mono e1) s1 (by simpa using d1) (c.pre e1))
def frz(n:Nat)(ds:List PyData):Option XV->Option XV
 | some (.l k)=>if k=n then some (.d (.list ds)) else some (.l k)
 | y=>y
end
abbrev DI:=XE->Sto->(List PyData->Sto->Prop)->Prop
structure WalkX(h o:List Addr)(H:Hp)(J:It)(ds:List PyData):Prop where
 stop:∀ (i:Nat) o2 H2,ExH h o H o2 H2->ds.length<=i->J.stop i H2
 go:∀ (i:Nat) d o2 H2,ExH h o H o2 H2->ds[i]? = some d->J.go i H2
 yld:∀ (i:Nat) d o2 H2 x H3 S2,ExH h o H o2 H2->RepS h o2 H2 S2->ds[i]? = some d->J.yld i H2 x H3->Same H2 H3/\Has (vx h o2 H3) d x
def RI(w:TI)(di:DI):Prop:=∀ (h o:List Addr) (H:Hp) (δ:XE) (σ:St) (S:Sto) (R:List PyData->Sto->Prop) (Q:It->Hp->Prop),RepE h o H δ σ->RepS h o H S->di δ S R ->
 (∀ o' H' S' ds J,Ex o H o' H'->RepS h o' H' S'->WalkX h o' H' J ds->R ds S'->Q J H')->w σ H Q
theorem zle{h o:List Addr}{H:Hp}{lo:Int}{n:Nat}:WalkX h o H (Itr lo n) (zib lo n) where
 stop:=fun i _ _ _ hi=>by rw [za1] at hi; exact hi
 go:=fun i d _ _ _ hi=>(zdO hi).1
 yld:=fun i d o2 H2 x H3 S2 _ _ hi y=>by
  obtain⟨e,ex⟩:=y;subst e ex;rw [(zdO hi).2];exact⟨Same.refl _,zbV.mpr rfl⟩
def zje(g:DG)(b:DS):List PyData->DS
 | [],E,δ,S=>E.nx δ S
 | d :: ds,E,δ,S=>g (.d d) δ S fun δ1 S1=>b { nx:=fun δ2 S2=>zje g b ds E δ2 S2,ct:=fun δ2 S2=>zje g b ds E δ2 S2,bk:=E.nx,rt:=E.rt } δ1 S1
def zhO(i:DI)(g:DG)(b:DS):DS:=fun E δ S=>i δ S fun ds S1=>zje g b ds E δ S1
theorem zdQ{wi:TI}{g:TG}{tb:TS}{di:DI}{dg:DG}{db:DS}(hi:RI wi di)(hg:RG g dg)(hb:RS tb db):RS (zqX wi g tb) (zhO di dg db):=fun h o H δ σ S E D he hs q c =>
 hi h o H δ σ S _ _ he hs q fun o1 H1 S1 ds J e1 s1 wk d1=>by
  refine⟨fun i m σ2 H2=>m=ds.length - i/\i<=ds.length/\∃ o2 δ2 S2,Ex o1 H1 o2 H2/\RepE h o2 H2 δ2 σ2/\RepS h o2 H2 S2/\zje dg db (ds.drop i) E δ2 S2,⟨ds.length,by simp,zero_le _,o1,δ,S1,Ex.refl,he.mono e1,s1,d1⟩,?_⟩;rintro i m σ2 H2 ⟨rfl,hi,o2,δ2,S2,e2,he2,hs2,d2⟩;by_cases hlt:i<ds.length
  ·have ed:ds[i]? = some ds[i]:=getElem?_eq_getElem hlt;rw [List.drop_eq_getElem_cons hlt] at d2;refine .inr ⟨wk.go i _ o2 H2 e2.hid ed,fun σ3 H3=>∃ o3 δ3 S3,Ex o1 H1 o3 H3/\RepE h o3 H3 δ3 σ3/\RepS h o3 H3 S3/\zje dg db (ds.drop (i+1)) E δ3 S3,fun σ3 H3 n=>⟨ds.length - (i+1),by omega,rfl,hlt,n⟩,fun x H3 y=>?_⟩;obtain⟨s3,hx⟩:=wk.yld i _ o2 H2 x H3 S2 e2.hid hs2 ed y;have e23:Ex o2 H2 o2 H3:=Ex.of_same s3;refine hg h o2 H3 δ2 σ2 S2 (.d ds[i]) x _ _ (he2.mono e23) (hs2.same s3) hx d2 fun o4 H4 δ4 S4 σ4 e4 he4 hs4 d4=>?_;have e14:Ex o1 H1 o4 H4:=(e2.trans e23).trans e4;have ce:=(c.pre e1).pre e14;exact hb h o4 H4 δ4 σ4 S4 _ _ he4 hs4 d4 ⟨fun o5 H5 δ5 S5 σ5 e5 he5 hs5 d5=>⟨o5,δ5,S5,e14.trans e5,he5,hs5,d5⟩,ce.rt,ce.nx,fun o5 H5 δ5 S5 σ5 e5 he5 hs5 d5=>⟨o5,δ5,S5,e14.trans e5,he5,hs5,d5⟩⟩
  ·have ei:i=ds.length:=by omega
   subst ei;rw [drop_length] at d2;exact .inl ⟨wk.stop _ o2 H2 e2.hid (le_refl _),c.nx o2 H2 δ2 S2 σ2 (e1.trans e2) he2 hs2 d2⟩
def zaS:DT:=fun _ S R=>R true S
theorem za9:RT zqm zaS:=fun h o H δ σ S R Q he hs q c=>c o H S true Ex.refl hs q
def zgL(n:Nat)(g:DG)(tt:DT)(te:DE)(fin:Sto->Prop):List PyData->XE->Sto->Prop
 | [],_,S=>fin S
 | d :: ds,τ,S=>g (.d d) τ S fun τ1 S1=>tt τ1 S1 fun b S2=>if b=true then te τ1 S2 fun x S3=>asD x fun e=>∃ acc,S3[n]? = some acc/\acc.length<1000/\zgL n g tt te fin ds τ1 (S3.set n (acc++[e])) else zgL n g tt te fin ds τ1 S2
def zfH(caps:List (Option Nat))(i:DI)(g:DG)(tt:DT)(te:DE):DE:=fun δ S R=>i δ S fun ds S1=>zgL S1.length g tt te (fun S2=>R (.l S1.length) S2) ds (znC caps δ) (S1++[[]])
def zev(caps:List (Option Nat))(i:DI)(g:DG)(tt:DT)(te:DE):DE:=fun δ S R=>i δ S fun ds S1=>zgL S1.length g tt te (fun S2=>∃ S0 acc,S2=S0++[acc]/\S0.length=S1.length/\R (.d (.list acc)) S0) ds (znC caps δ) (S1++[[]])
theorem RepS.pop{h o r:List Addr}{H:Hp}{S0 T:Sto}(hs:RepS h (o++r) H (S0++T))(hl:S0.length=o.length):RepS h o H S0 where
 len:=hl
 nd:=(nodup_append.mp hs.nd).1
 dis:=fun a ha=>hs.dis a (mem_append_left _ ha)
 hal:=hs.hal
 cont:=fun k a ds e1 e2=>by
  obtain⟨vs,e3,l⟩:=hs.cont k a ds (zdw e1) (zdw e2);exact⟨vs,e3,l.mono fun b u e=>by
   obtain⟨z1,z2,z3⟩:=zY.mp e;exact zY.mpr ⟨z1,fun m=>z2 (mem_append_left _ m),z3⟩⟩
theorem zfs{h o r:List Addr}{H:Hp}:Same (vx h (o++r) H) (vx h o H):=fun b u e=>by
 obtain⟨z1,z2,z3⟩:=zY.mp e;exact zY.mpr ⟨z1,fun m=>z2 (mem_append_left _ m),z3⟩
theorem Ex.pop{o o' r:List Addr}{H H':Hp}(e:Ex o H (o++r) H'):Ex o H o H':=⟨⟨[],by simp⟩,fun b u hb eb=>⟨hb,(e.kp b u hb eb).2⟩⟩
theorem zhE{caps:List (Option Nat)}{wi:TI}{g:TG}{tt:TT}{te:TE}{di:DI}{dg:DG}{dtt:DT}{dte:DE}(hi:RI wi di)(hg:RG g dg)(ht:RT tt dtt)(he':RE te dte)
  {h o:List Addr} {H:Hp} {δ:XE} {σ:St} {S:Sto} {Q:VK} {fin:Nat->Sto->Prop} (he:RepE h o H δ σ) (hs:RepS h o H S) (q:di δ S fun ds S1=>zgL S1.length dg dtt dte (fin S1.length) ds (znC caps δ) (S1++[[]]))
  (c:∀ o1 H1 D o2 H2 S2,Ex o H o1 H1->H1 D=none->Ex (o1++[D]) (upd H1 D (.lst [])) o2 H2->RepS h o2 H2 S2->fin o1.length S2->Q (.ref D) H2):zkx caps wi g tt te σ H Q:=by
 refine hi h o H δ σ S _ _ he hs q fun o1 H1 S1 ds J e1 s1 wk d1 D hD=>?_;have eN:Ex o1 H1 (o1++[D]) (upd H1 D (.lst [])):=Ex.new s1 hD;have sN:RepS h (o1++[D]) (upd H1 D (.lst [])) (S1++[[]]):=s1.new hD (zw.mpr rfl);have hn:S1.length=o1.length:=s1.len;refine⟨fun i m τ H2=>m=ds.length - i/\i<=ds.length/\∃ o2 δ2 S2,Ex (o1++[D]) (upd H1 D (.lst [])) o2 H2/\RepE h o2 H2 δ2 τ/\RepS h o2 H2 S2/\zgL S1.length dg dtt dte (fin S1.length) (ds.drop i) δ2 S2,⟨ds.length,by simp,zero_le _,_,_,_,Ex.refl,((he.mono e1).mono eN).tau,sN,d1⟩,?_⟩;rintro i m τ H2 ⟨rfl,hi,o2,δ2,S2,e2,he2,hs2,d2⟩;by_cases hlt:i<ds.length
 ·have ed:ds[i]? = some ds[i]:=getElem?_eq_getElem hlt;rw [List.drop_eq_getElem_cons hlt] at d2;refine .inr ⟨wk.go i _ o2 H2 (eN.trans e2).hid ed,fun x H3 y=>?_⟩;obtain⟨s3,hx⟩:=wk.yld i _ o2 H2 x H3 S2 (eN.trans e2).hid hs2 ed y;have e23:Ex o2 H2 o2 H3:=Ex.of_same s3;refine hg h o2 H3 δ2 τ S2 (.d ds[i]) x _ _ (he2.mono e23) (hs2.same s3) hx d2 fun o4 H4 δ4 S4 τ4 e4 he4 hs4 d4=>?_;refine ht h o4 H4 δ4 τ4 S4 _ _ he4 hs4 d4 fun o5 H5 S5 b e5 s5 d5=>?_;have e15:=((e2.trans e23).trans e4).trans e5;cases b with
  | false=>exact zmE ⟨ds.length - (i+1),by omega,rfl,hlt,o5,δ4,S5,e15,he4.mono e5,s5,by simpa using d5⟩
  | true =>
   refine zmF (he' h o5 H5 δ4 τ4 S5 _ _ (he4.mono e5) s5 (by simpa using d5) fun o6 H6 S6 z v e6 s6 z6 d6=>?_);replace d6:=zgf d6;obtain⟨e,rfl,acc,ea,hl,d6⟩:=d6;have e16:=e15.trans e6;have eD:o6[S1.length]? = some D:=by
    obtain⟨r,rfl⟩:=e16.pre;rw [hn];exact zdw (by rw [getElem?_concat_length])
   obtain⟨vs,ev,l⟩:=s6.cont _ D acc eD ea;refine⟨vs,ev,by rw [l.length]; exact small1000 (le_of_lt hl),ds.length - (i+1),by omega,rfl,hlt,o6,δ4,_,e16.trans (Ex.upd eD),((he4.mono e5).mono e6).mono (Ex.upd eD),s6.upd eD (l.append (zu.mpr ⟨v,[],rfl,z6,zw.mpr rfl⟩)),d6⟩
 ·have ei:i=ds.length:=by omega
  subst ei;rw [drop_length] at d2;exact .inl ⟨wk.stop _ o2 H2 (eN.trans e2).hid (le_refl _),c o1 H1 D o2 H2 S2 e1 hD e2 hs2 (hn▸d2)⟩
theorem zeW{caps:List (Option Nat)}{wi:TI}{g:TG}{tt:TT}{te:TE}{di:DI}{dg:DG}{dtt:DT}{dte:DE}(hi:RI wi di)(hg:RG g dg)(ht:RT tt dtt)(he':RE te dte):RE (zkx caps wi g tt te) (zfH caps di dg dtt dte):=fun h o H δ σ S R Q he hs q c=>by
 refine zhE (fin:=fun n S2=>R (.l n) S2) hi hg ht he' he hs q fun o1 H1 D o2 H2 S2 e1 hD e2 s2 f=>?_;have eN:Ex o1 H1 (o1++[D]) (upd H1 D (.lst [])):=⟨⟨[D],rfl⟩,fun b w hb e=>by
  have ne:b≠D:=zQ e hD;exact⟨by simp [hb,ne],by rw [zF ne]; exact e⟩⟩
 refine c o2 H2 S2 (.l o1.length) _ ((e1.trans eN).trans e2) s2 ⟨D,?_,rfl⟩ f;obtain⟨r,rfl⟩:=e2.pre;exact zdw (by rw [getElem?_concat_length])
theorem zb8{caps:List (Option Nat)}{wi:TI}{g:TG}{tt:TT}{te:TE}{di:DI}{dg:DG}{dtt:DT}{dte:DE}(hi:RI wi di)(hg:RG g dg)(ht:RT tt dtt)(he':RE te dte):RE (zkx caps wi g tt te) (zev caps di dg dtt dte):=fun h o H δ σ S R Q he hs q c=>by
 refine zhE (fin:=fun n S2=>∃ (S0:Sto) (acc:List PyData),S2=S0++[acc]/\S0.length=n/\R (.d (.list acc)) S0) hi hg ht he' he hs q fun o1 H1 D o2 H2 S2 e1 hD e2 s2 ⟨S0,acc,eS,hl,f⟩=>?_;subst eS;have eN:Ex o1 H1 (o1++[D]) (upd H1 D (.lst [])):=⟨⟨[D],rfl⟩,fun b w hb e=>by
  have ne:b≠D:=zQ e hD;exact⟨by simp [hb,ne],by rw [zF ne]; exact e⟩⟩
 have e12:=eN.trans e2;obtain⟨r,rfl⟩:=e2.pre;have er:r=[]:=by
  have:=s2.len;simp only [length_append,length_singleton,hl] at this;exact eq_nil_of_length_eq_zero (by omega)
 subst er;rw [append_nil] at s2 e12;have s0:RepS h o1 H2 S0:=s2.pop hl;refine c o1 H2 S0 (.d (.list acc)) _ (e1.trans (Ex.pop (o':=o1) e12)) s0 ?_ f;obtain⟨vs,ev,l⟩:=s2.cont o1.length D acc (by rw [getElem?_concat_length]) (by rw [<- hl,getElem?_concat_length]);have nD:D∉o1:=by
  have:=(nodup_append.mp s2.nd).2.2;intro m;exact this D m D (by simp) rfl
 exact zaN.mpr ⟨D,vs,rfl,zY.mpr ⟨s2.dis D (by simp),nD,ev⟩,l.mono zfs⟩
def fin(n:Nat)(R:RX):RX:=fun y S'=>match y with
 | .l k=>if k<n then R (.l k) (S'.take n) else ∃ ds,S'[k]? = some ds/\(R (.d (.list ds)) (S'.take n)\/R (.l n) (S'.take n++[ds]))
 | y=>R y (S'.take n)
theorem zmW{h o:List Addr}{H:Hp}{S:Sto}{R:RX}{Q:VK}(hs:RepS h o H S)(c:Cn h o H R Q):Cn h o H (fin S.length R) Q:=fun o' H' S' y v e s' hy q=>by
 obtain⟨r,rfl⟩:=e.pre;have eS:S'=S'.take S.length++S'.drop S.length:=(List.take_append_drop _ _).symm;have hl:(S'.take S.length).length=o.length:=by
  have:=s'.len;rw [length_append] at this;rw [length_take,this,hs.len];omega
 have s0:RepS h o H' (S'.take S.length):=by
  rw [eS] at s';exact s'.pop hl
 have e0:Ex o H o H':=Ex.pop (o':=o) e;cases y with
 | d d=>exact c o H' _ (.d d) v e0 s0 (Has.mono zfs d v hy) q
 | o w=>exact c o H' _ (.o w) v e0 s0 hy q
 | x C fs=>exact c o H' _ (.x C fs) v e0 s0 (HasE.mono zfs hy) q
 | l k =>
  unfold fin at q;by_cases hk:k<S.length
  ·simp only [hk,↓reduceIte] at q;obtain⟨a,ea,rfl⟩:=hy;exact c o H' _ (.l k) _ e0 s0 ⟨a,by rw [getElem?_append_left (by rw [<- hs.len]; exact hk)] at ea; exact ea,rfl⟩ q
  ·simp only [hk,↓reduceIte] at q;obtain⟨ds,eds,q⟩:=q;obtain⟨a,ea,rfl⟩:=hy;obtain⟨vs,ev,l⟩:=s'.cont k a ds ea eds;have na:a∉o:=fun m=>by
    obtain⟨j,ej⟩:=mem_iff_getElem?.mp m;have hj:j<o.length:=(List.getElem?_eq_some_iff.mp ej).1;have:=zd2 s'.nd (zdw (t:=r) ej) ea;rw [hs.len] at hk;omega
   have nh:a∉h:=s'.dis a (mem_of_getElem? ea);rcases q with q | q
   ·exact c o H' _ (.d (.list ds)) _ e0 s0 (zaN.mpr ⟨a,vs,rfl,zY.mpr ⟨nh,na,ev⟩,l.mono zfs⟩) q
   ·have hn:H a=none:=by
     cases eh:H a with
     | none=>rfl
     | some u=>exact absurd (mem_of_getElem? ea) (e.kp a u na eh).1
    have e1:Ex o H (o++[a]) H':=⟨⟨[a],rfl⟩,fun b u hb eb=>⟨by simp only [mem_append,mem_singleton,not_or]; exact⟨hb,zQ eb hn⟩,(e0.kp b u hb eb).2⟩⟩;have sub:Same (vx h (o++r) H') (vx h (o++[a]) H'):=fun b u eb=>by
     obtain⟨z1,z2,z3⟩:=zY.mp eb;refine zY.mpr ⟨z1,?_,z3⟩;simp only [mem_append,mem_singleton,not_or];exact⟨fun m=>z2 (mem_append_left _ m),fun z=>z2 (by rw [z]; exact mem_of_getElem? ea)⟩
    refine c (o++[a]) H' _ (.l S.length) _ e1 ⟨by rw [length_append,length_append,hl]; rfl,zbF hs.nd na,fun b hb=>?_,s0.hal,fun j b es q1 q2=>?_⟩ ⟨a,by rw [hs.len,getElem?_concat_length],rfl⟩ q
    ·rcases mem_append.mp hb with hb | hb
     ·exact hs.dis b hb
     ·rw [mem_singleton.mp hb]; exact nh
    ·by_cases hj:j<o.length
     ·rw [getElem?_append_left hj] at q1;rw [getElem?_append_left (by rw [hl]; exact hj),List.getElem?_take_of_lt (by rw [hs.len]; exact hj)] at q2;obtain⟨ws,e3,l3⟩:=s'.cont j b es (zdw q1) q2;exact⟨ws,e3,l3.mono sub⟩
     ·have hj':j=o.length:=by
       obtain⟨q,_⟩:=List.getElem?_eq_some_iff.mp q1;rw [length_append,length_singleton] at q;omega
      subst hj';rw [getElem?_concat_length] at q1;rw [<- hl,getElem?_concat_length] at q2;cases q1;cases q2;exact⟨vs,ev,l.mono sub⟩
def zcR(n:Nat)(R:RX):DEnds:={ nx:=fun _ S'=>fin n R (.d .none) S',rt:=fin n R }
theorem eok{h o:List Addr}{H:Hp}{S:Sto}{R:RX}{Q:VK}(hs:RepS h o H S)(c:Cn h o H R Q):EOk h o H (zcR S.length R) { nx:=fun _ H'=>Q .non H',rt:=Q } :=
 ⟨fun o' H' δ' S' σ' e he hs' q=>zmW hs c o' H' S' _ _ e hs' xN q,zmW hs c,fun _ _ _ _ _ _ _ _ q=>q.elim,fun _ _ _ _ _ _ _ _ q=>q.elim⟩
def zaE(p:List PyData):Prop:=∃ l g s:Int,p=[.int l,.int g,.int s]/\0<=l
end
section
def zr4(K:W.Frag):List V->Hp->VK->Prop:=fun xs H Q=>∃ (p:Addr) (bs:List Bool),xs=[.ref p]/\SqL K H p (bs.map V.bl)/\Q (.bl (bs.all id)) H
theorem zjX:bootBuiltins "all" = some (.builtin "all"):=by decide +kernel
section
variable {X:Cx}
theorem ziq:∀ {bs:List Bool} {us:List Value} {i:Nat} {v:Value},Vals (bs.map V.bl) us->us[i]? = some v->∃ b,bs[i]? = some b/\v=.bool b
 | [],_,i,v,.nil,e=>by simp at e
 | b :: bs,_,0,v,.cons r _,e=>by
  rw [getElem?_cons_zero] at e;cases e;exact⟨b,rfl,r⟩
 | b :: bs,_,i+1,v,.cons _ t,e=>by
  obtain⟨c,e1,e2⟩:=ziq (i:=i) (v:=v) t (by simpa using e);exact⟨c,by simpa using e1,e2⟩
theorem zoc(bs:List Bool):((List.range bs.length).all fun i=>(bs[i]?).getD true)=bs.all id:=by
 rw [Bool.eq_iff_iff,all_eq_true,all_eq_true];constructor
 ·intro h b hb;obtain⟨i,hi⟩:=mem_iff_getElem?.mp hb;have hl:=(List.getElem?_eq_some_iff.mp hi).1;have:=h i (mem_range.mpr hl);rw [hi] at this;exact this
 ·intro h i hi;have hl:=mem_range.mp hi;rw [getElem?_eq_getElem hl];exact h _ (List.getElem_mem hl)
theorem zfG(hc:X.calm=true):CallR X (.builtin "all") (zr4 X.K):=by
 intro zh s σ H xs us Q I r h;obtain⟨p,bs,rfl,hq,q⟩:=h;obtain⟨u,rfl,rx⟩:=vals1 r;cases (show u=Value.ref p from rx);obtain⟨its,rv,pl,_⟩:=I.list hq;have hl:=pl.isList;have hlt:p<s.heap.objs.size:=by
  obtain⟨_,e,_⟩:=hl;exact lt_size e
 refine call_all_walk (x:=Value.ref p) (wpAny_pyIter_list hl ?_);refine⟨s.heap.objs.size,[s.heap.objs.size,p],[s.heap.objs.size],its.toArray.size,_,_,fun i=>(bs[i]?).getD true,rfl,
  Walks.list (A:=X.A.in1) (I.ok.hd hc) _ p (ne_of_lt hlt) its.toArray,⟨⟨_,get?_push_size _ rfl,rfl,rfl⟩,hl.push _⟩,fun i v s' Q' E' hP hQ=>?_,fun h' tk hk=>?_⟩
 ·obtain⟨b,e,rfl⟩:=ziq (i:=i) (v:=v) rv (by simpa using hP);have hQ':Q' b s':=by simpa [e] using hQ
  exact wpAny_truthy_bool hQ'
 ·have hz:its.toArray.size=bs.length:=by
   have:=rv.length;rw [length_map] at this;simp [this]
  rw [hz,zoc];refine⟨.bl _,H,I.kept (t':=tk) fun b o e=>hk b o (fun hm=>?_) (get?_push_of_some _ e),rfl,q⟩;rw [mem_singleton.mp hm] at e;exact lt_irrefl _ (lt_size e)
end
def zsb:List XV->Sto->RX->Prop:=fun xs S R=>arg1 xs fun x=>∃ ds,zjC S x=some ds/\∃ ns:List Int,ds=ns.map PyData.int/\R (.d (.int ns.sum)) S
theorem zgO{H:Hp}:∀ {ns:List Bool} {vs:List V},HasL H (ns.map PyData.bool) vs->vs=ns.map V.bl
 | [],vs,h=>zw.mp h
 | n :: ns,vs,h=>by
  obtain⟨v,r,rfl,h1,h2⟩:=zu.mp h;rw [zcM.mp h1,zgO h2];rfl
def zo2:List XV->Sto->RX->Prop:=fun xs S R=>arg1 xs fun x=>∃ ds,zjC S x=some ds/\∃ ns:List Bool,ds=ns.map PyData.bool/\R (.d (.bool (ns.all id))) S
theorem zkV{K:W.Frag}:RC (zr4 K) zo2:=fun h o H S xs vs R Q hs hx q c=>by
 obtain⟨x,rfl,ds,hd,ns,rfl,q1⟩:=zas q;obtain⟨v,rfl,hx1⟩:=hxs1 hx;obtain⟨a,ws,rfl,ea,l⟩:=zba hs hd hx1;rw [zgO l] at ea;exact⟨a,ns,rfl,.of ea,c o H S _ _ Ex.refl hs (xB _) q1⟩
section
variable {S:Sto} {i:Int} {b:Bool} {z:Str} {ds:List PyData} {d:PyData} {k:Nat} {x y:XV} {R:RX} {c:String} {p:List PyData} {n:Nat} {v:V}
theorem zpu{K:Int->Prop}:asI (.d (.int i)) K=K i:=rfl
theorem zqD{K:Bool->Prop}:asB (.d (.bool b)) K=K b:=rfl
theorem zqx{K:Str->Prop}:asS (.d (.str z)) K=K z:=rfl
theorem zp7{K:List PyData->Prop}:asT (.d (.tuple ds)) K=K ds:=rfl
theorem zpw{K:PyData->Prop}:asD (.d d) K=K d:=rfl
theorem znx:zjC S (.d (.list ds))=some ds:=rfl
theorem zqr:asQ S (.d (.list ds))=some ds:=rfl
theorem zpZ:asQ S (.d (.tuple ds))=some ds:=rfl
theorem zpg:asQ S (.l k)=S[k]?:=rfl
theorem zlH:zcJ S (.d d)=some d:=rfl
theorem zk9:zcJ S (.l k)=(S[k]?).map .list:=rfl
theorem znG:ret0 S R (.d d) []=R (.d d) S:=rfl
theorem znp:ret0 S R (.l 0) [ds]=R (.l S.length) (S++[ds]):=rfl
theorem znk:zq9 k S R (.d d) [p]=R (.d d) (S.set k p):=rfl
theorem zqO:fin n R (.d d) S=R (.d d) (S.take n):=rfl
theorem zo8:fin n R (.l k) S=if k<n then R (.l k) (S.take n) else ∃ ds,S[k]? = some ds/\(R (.d (.list ds)) (S.take n)\/R (.l n) (S.take n++[ds])):=rfl
theorem znu{K:XV->Prop}:arg1 [x] K=K x:=rfl
theorem znh{K:XV->XV->Prop}:arg2 [x,y] K=K x y:=rfl
theorem znf{K:String->Prop}:zrx (.o (.ty c)) K↔K c:=⟨fun⟨_,e,q⟩=>by cases e; exact q,fun q=>⟨c,rfl,q⟩⟩
theorem zno{K:Int->Prop}:zru (.d (.bool b)) K=K (if b then 1 else 0):=rfl
theorem zlw:(zcR n R).rt x S=fin n R x S:=rfl
theorem zhs:datas []=some []:=rfl
theorem zf8{r:List XV}:datas (.d d :: r)=(datas r).map (d :: ·):=rfl
end
theorem zpj{α:Type}{a:α}{l:List α}:atI (a :: l) 0=some a:=zcB (j:=0) rfl
theorem zq1{α:Type}{a b:α}{l:List α}:atI (a :: b :: l) 1=some b:=zcB (j:=1) rfl
theorem zqy{α:Type}{a b c:α}{l:List α}:atI (a :: b :: c :: l) 2=some c:=zcB (j:=2) rfl
theorem zpY{α:Type}{a b c d:α}{l:List α}:atI (a :: b :: c :: d :: l) 3=some d:=zcB (j:=3) rfl
def Shp(n:Nat)(d:PyData):Prop:=d.canLay0=true/\d.depth<=n
theorem zes{n:Nat}{i:Int}:Shp n (.int i):=⟨rfl,zero_le _⟩
theorem zh8{n:Nat}:∀ {ds:List PyData},(∀ d∈ds,Shp n d)->PyData.canLayAll0 ds=true/\PyData.depthAll ds<=n
 | [],_=>⟨by simp only [PyData.canLayAll0],by simp only [PyData.depthAll]; exact zero_le _⟩
 | d :: ds,h=>by
  obtain⟨h1,h2⟩:=h d mem_cons_self;obtain⟨h3,h4⟩:=zh8 (ds:=ds) fun e m=>h e (mem_cons_of_mem _ m);simp only [PyData.canLayAll0,PyData.depthAll,h1,h3,Bool.and_true,true_and];omega
theorem ziK{n:Nat}{ds:List PyData}(h:∀ d∈ds,Shp n d):Shp (n+1) (.list ds):=by
 obtain⟨h1,h2⟩:=zh8 h;exact⟨by simp only [PyData.canLay0]; exact h1,by simp only [PyData.depth]; omega⟩
theorem zdB{n:Nat}{ds:List PyData}(h:∀ d∈ds,Shp n d):Shp (n+1) (.tuple ds):=by
 obtain⟨h1,h2⟩:=zh8 h;exact⟨by simp only [PyData.canLay0]; exact h1,by simp only [PyData.depth]; omega⟩
theorem zfx{α:Type}{n:Nat}{f:α->PyData}{l:List α}(h:∀ x∈l,Shp n (f x)):∀ d∈l.map f,Shp n d:=fun d m=>by
 obtain⟨x,hx,rfl⟩:=mem_map.mp m;exact h x hx
theorem zri{n:Nat}{a b:PyData}(h1:Shp n a)(h2:Shp n b):∀ d∈[a,b],Shp n d:=by
 intro d m;simp only [mem_cons,not_mem_nil,or_false] at m;rcases m with rfl | rfl
 ·exact h1
 ·exact h2
theorem Shp.ok{n:Nat}{d:PyData}(h:Shp n d)(hn:n<=64:=by decide):SeqAt.shaped d=true:=by
 unfold SeqAt.shaped;rw [h.1,decide_eq_true (le_trans h.2 hn)];rfl
theorem zbi{g:DG}{b:DS}{E:DEnds}:∀ {ds:List PyData} {δ:XE} {S:Sto} (I:Nat->XE->Sto->Prop),I 0 δ S ->
  (∀ i d δ S (N:XE->Sto->Prop),ds[i]? = some d->I i δ S->(∀ δ' S',I (i+1) δ' S'->N δ' S')->g (.d d) δ S fun δ1 S1=>b { nx:=N,ct:=N,bk:=E.nx,rt:=E.rt } δ1 S1) ->
  (∀ δ S,I ds.length δ S->E.nx δ S)->zje g b ds E δ S
 | [],δ,S,I,h0,_,fin=>fin δ S h0
 | d :: ds,δ,S,I,h0,step,fin=>by
  show g (.d d) δ S fun δ1 S1=>b _ δ1 S1;refine step 0 d δ S _ rfl h0 fun δ' S' h1=>?_;exact zbi (ds:=ds) (fun i=>I (i+1)) h1 (fun i e δ S N hi=>step (i+1) e δ S N (by simpa using hi)) fin
theorem ziW{α:Type}{l:List α}{a b:α}{n:Nat}(h:l.length=n):(l++[a]).set n b=l++[b]:=by
 subst h;rw [List.set_append_right _ _ (le_refl _),Nat.sub_self];rfl
theorem zoo{H:Hp}:RepS [] [] H []:=⟨rfl,nodup_nil,fun _ h=>(nomatch h),fun _ h=>(nomatch h),fun _ _ _ e=>(by simp at e)⟩
theorem Ex.same_nil{o':List Addr}{H H':Hp}(e:Ex [] H o' H'):Same H H':=fun b u q=>(e.kp b u (by simp) q).2
theorem zoi{K:W.Frag}{a:Addr}{ns:List Int}{N:Int}{j m:Nat}{tb:TS}{db:DS}{D:Ends}{σ:St}{H:Hp}(hb:RS tb db)(h0:σ[0]? = some (some (.ref a)))(hl:σ.length=m+1)(hS:SqL K H a (ns.map V.int))(hlen:ns.length<=63)
  (turn:∀ n:Int,db { nx:=fun δ _=>δ[0]? = some (some (.o (.ref a)))/\δ.length=m+1,ct:=fun δ _=>δ[0]? = some (some (.o (.ref a)))/\δ.length=m+1,rt:=fun _ _=>False } ((some (.o (.ref a)) :: List.replicate m none).set j (some (.d (.int n)))) [])
  (hj:j≠0) (done:∀ (σ:St) (H1:Hp),Same H H1->D.nx σ H1) :
  zqX (zoh K (tOp zo5 (zo7 (zjh (tC2 (zoD K) (zlR 0) (tC (.int 0))) zo3)) (tSl (zqk K) (zlR 0) (zjA (tC (.int 1))) (zjA (tC (.int N)))))) (zic j) tb D σ H:=by
 refine zks (a:=a) (ns:=ns) (fun σ=>σ[0]? = some (some (.ref a))/\σ.length=m+1) h0 hS hlen ⟨h0,hl⟩ ?_ fun σ H1 _ s=>done σ H1 s;rintro n σ1 H1 H2 ⟨z0,z1⟩ s1 s2;refine hb [] [] H2 _ _ [] _ _ ⟨by simp [z1],fun i x e=>?_⟩ zoo (turn n) ⟨?_,fun _ _ _ _ _ _ _ _ q=>q.elim,fun _ _ _ _ _ _ _ _ q=>q.elim,?_⟩
 ·rw [List.getElem?_set] at e ⊢;by_cases hij:j=i
  ·rw [if_pos hij] at e ⊢;by_cases hjl:j<m+1
   ·rw [if_pos (by simpa using hjl)] at e;rw [if_pos (by rw [z1]; exact hjl)];cases e;exact⟨.int n,rfl,xI n⟩
   ·rw [if_neg (by simpa using hjl)] at e;cases e
  ·rw [if_neg hij] at e ⊢;cases i with
   | zero =>
    cases e;exact⟨.ref a,z0,rfl⟩
   | succ i =>
    rw [getElem?_cons_succ,List.getElem?_replicate] at e;split at e <;> cases e
 ·rintro o' H' δ' S' σ' e he hs ⟨q1,q2⟩;obtain⟨v,ev,hv⟩:=he.get 0 _ q1;cases hv;exact⟨s2.trans e.same_nil,ev,by rw [<- he.len]; exact q2⟩
 ·rintro o' H' δ' S' σ' e he hs ⟨q1,q2⟩;obtain⟨v,ev,hv⟩:=he.get 0 _ q1;cases hv;exact⟨s2.trans e.same_nil,ev,by rw [<- he.len]; exact q2⟩
end
section
theorem zj7{P:Program}{w:World}{K:W.Frag}{tg:Expr}(it:Addr)(lo:Int)(n:Nat):Turn P w K tg (Itr lo n) [it] it (fun i h=>IsLongIter h it (lo+(i:Nat)*1) ((n:Int) - (i:Nat)) 1) where
 mem:=by simp
 obj:=fun i h st b hb=>by
  have e:b=it:=by simpa using hb
  subst e;exact⟨_,st,fun v z=>by
   have z':Data.fields _=Data.cell v:=z;cases z'⟩
 keep:=fun i h h' st k=>k it (by simp) _ st
 item:=by
  intro X hP hw hK hc i zh s σ H E I hf st hg;subst hP hw hK;obtain⟨f0,f1,f2,f3,f4,f5⟩:=hf it (by simp);have W:=Walks.longrange (prog:=X.prog) (w:=X.w) (I.ok.hd hc) it lo 1 n;refine W.item i s _ _ hg st fun v h' tk hv st' kk=>?_;obtain⟨t,rfl⟩:=hv;have I1:Inv X zh σ H { s with heap:=h',toks:=tk }:=I.turned (fun b o hb e=>kk b o (by simpa using hb) e) f0 f1 f3 f4 f5;refine⟨_,rfl,zjt (s:={ s with heap:=h',toks:=tk }) (n:="longrange_iterator") st' rfl rfl dz ⟨.int (lo+i),H,I1,⟨t,?_⟩,⟨rfl,rfl⟩,st',fun b hb=>(hf b hb).1⟩⟩;rw [Int.mul_one]
 done:=by
  intro X hP hw hK hc i zh s σ H E I hf st hg;subst hP hw hK;obtain⟨f0,f1,f2,f3,f4,f5⟩:=hf it (by simp);exact wpAny_pyNext_long_end (I.ok.hd hc) st (by have:n<=i:=hg; omega) fun h' eb=>⟨rfl,I.turned (t':=s.toks) (fun b o hb e=>eb b o hb e) f0 f1 f3 f4 f5⟩
 self:=fun _ _ _ _ _ st h=>wpAny_pyIter_longiter st h
section
variable {X:Cx} {tg:Expr}
theorem zjV{zh:List (Addr×Obj)}{σ:St}{H:Hp}{s:Shared}{R:It->Hp->Prop}{E:Value->Shared->Prop}{lo hi:Int}{t u v:Tok}{tk:Nat}(I:Inv X zh σ H s)
  (q:R (Itr lo (hi - lo).toNat) H):wpAny (model X.prog X.w) X.A (pyIter (.ref s.heap.objs.size)) (PIE X zh σ tg R) E { s with heap:=s.heap.push { cls:=.type "range",data:=.fields #[.int lo t,.int hi u,.int 1 v] },toks:=tk }:=by
 have I1:Inv X zh σ H { s with heap:=s.heap.push { cls:=.type "range",data:=.fields #[.int lo t,.int hi u,.int 1 v] },toks:=tk }:=I.kept fun b o e=>get?_push_of_some _ e;have e1:lo+((0:Nat):Int)*1=lo:=by simp
 have e2:(((hi - lo).toNat:Nat):Int) - ((0:Nat):Int)=Builtin.Range.rangeSize lo hi 1:=by rw [rangeSize_one]; split <;> omega
 cases hsm:Builtin.Range.small lo hi 1 with
 | true =>
  refine wpAny_pyIter_range (IsRange.new ..) hsm ?_;refine⟨(s.heap.push { cls:=.type "range",data:=.fields #[.int lo t,.int hi u,.int 1 v] }).objs.size,[(s.heap.push { cls:=.type "range",data:=.fields #[.int lo t,.int hi u,.int 1 v] }).objs.size],_,_,H,rfl,
   I1.kept (t':=tk) fun b o e=>get?_push_of_some _ e,zjs _ lo (hi - lo).toNat,?_,fun b hb=>?_,q⟩
  ·show IsRangeIter _ _ (lo+((0:Nat):Int)*1) ((((hi - lo).toNat:Nat):Int) - ((0:Nat):Int)) 1;rw [e1,e2];exact get?_push_size _ rfl
  ·have e:b=(s.heap.push { cls:=.type "range",data:=.fields #[.int lo t,.int hi u,.int 1 v] }).objs.size:=by simpa using hb
   subst e;exact I1.fpOk (le_refl _) (I1.hok.fresh (le_refl _))
 | false =>
  refine wpAny_pyIter_longrange (IsRange.new ..) hsm ?_;refine⟨(s.heap.push { cls:=.type "range",data:=.fields #[.int lo t,.int hi u,.int 1 v] }).objs.size,[(s.heap.push { cls:=.type "range",data:=.fields #[.int lo t,.int hi u,.int 1 v] }).objs.size],_,_,H,rfl,
   I1.kept (t':=tk) fun b o e=>get?_push_of_some _ e,zj7 _ lo (hi - lo).toNat,?_,fun b hb=>?_,q⟩
  ·show IsLongIter _ _ (lo+((0:Nat):Int)*1) ((((hi - lo).toNat:Nat):Int) - ((0:Nat):Int)) 1;rw [e1,e2];exact get?_push_size _ rfl
  ·have e:b=(s.heap.push { cls:=.type "range",data:=.fields #[.int lo t,.int hi u,.int 1 v] }).objs.size:=by simpa using hb
   subst e;exact I1.fpOk (le_refl _) (I1.hok.fresh (le_refl _))
def zm2(ta:TA):TI:=fun σ H R=>ta σ H fun vs H1=>∃ j:Int,vs=[.int j]/\R (Itr 0 j.toNat) H1
theorem zbG{a:Expr}{ta:TA}{p pos:Pos}(hg:Gl X "range")(hm:X.mg "range" = none)(ha:PA X [a] ta)(hs:starEach [a] X.env=[(false,eval a X.env)]:=by rfl):PI X tg (.Call (.Name "range" p) [a] [] pos) (zm2 ta):=by
 intro zh s σ H R I h;refine Call_ (zdP I hg hm boot_range (PyProof.Rows.callWith_type1 (thn (ha pos zh s σ H _ I h) fun us s1 ⟨vs,H1,I1,r1,q1⟩=>?_) hs rfl));obtain⟨j,e,q⟩:=q1;subst e;cases r1 with
 | cons r rr =>
  cases rr;obtain⟨t,rfl⟩:=r;exact call_range_1 (zjV I1 (by simpa using q))
end
def zcc(a:DA):DI:=fun δ S R=>a δ S fun xs S1=>arg1 xs fun x=>asI x fun j=>R (zib 0 j.toNat) S1
def zkT(a:DA):DI:=fun δ S R=>a δ S fun xs S1=>arg2 xs fun x y=>asI x fun i=>asI y fun j=>R (zib i (j - i).toNat) S1
theorem zdb{ta:TA}{da:DA}(ha:RA ta da):RI (zm2 ta) (zcc da):=fun h o H δ σ S R Q he hs q c =>
 ha h o H δ σ S _ _ he hs q fun o1 H1 S1 xs vs e1 s1 x1 d0=>by
  obtain⟨x,rfl,d2⟩:=zas d0;obtain⟨j,rfl,d1⟩:=zaR d2;obtain⟨v,rfl,hv⟩:=hxs1 x1;rw [zaB hv];exact⟨j,rfl,c o1 H1 S1 _ _ e1 s1 zle d1⟩
end
section
open Sem (wp)
open AutoSeq1 (wpAny_loadPart')
section
variable {X:Cx} {zh:List (Addr×Obj)} {σ:St} {H:Hp} {s:Shared} {h':Heap}
theorem Inv.turnLaid{t':Nat}{ch:List Addr}{T:Addr}{o:HO}(I:Inv X zh σ H s)(k:∀ b u,b∉ch->s.heap.get? b=some u->h'.get? b=some u)(hf:∀ b∈ch,FpOk X zh H b)(hT:s.heap.objs.size<=T)
  (new:ObjOk X.prog X.w (upd H T o) h' T o):Inv X zh σ (upd H T o) { s with heap:=h',toks:=t' }:=by
 have hn:H T=none:=I.hok.fresh hT;have nch:∀ b u,H b=some u->b∉ch:=fun b u e m=>by rw [(hf b m).1] at e; cases e
 have neT:∀ b u,s.heap.get? b=some u->b≠T:=fun b u e z=>absurd (lt_of_lt_of_le (lt_size e) hT) (by rw [z]; exact lt_irrefl _);have up:∀ b u,H b=some u->upd H T o b=some u:=fun b u e=>(zF (zQ e hn)).trans e;refine I.step (g':=s.gens) (d':=s.drawn) (ch:=ch) (fun b hb=>?_) (fun b u _ _ hc e _=>k b u hc e) (fun b u _ _ hc e _=>⟨u.slots,k b u hc e⟩) (fun b u _ e n=>(zF (neT b u e)).trans n)
  (fun b u hc e=>⟨u,k b u hc e⟩) (fun b xs e=>up b _ e) (fun b u v e=>up b _ e) (fun b ps e=>up b _ e) (fun m hm=>?_) (fun b u e=>?_) I.bare
 ·obtain⟨_,f1,_,f3,f4,f5⟩:=hf b hb;exact⟨f3,f1,f4,f5⟩
 ·obtain⟨ob,es,ep,ho,r⟩:=hm;exact⟨ob,es,ep,k _ ob (fun z=>(hf _ z).2.1 rfl) ho,r⟩
 ·by_cases hb:b=T
  ·subst hb;rw [zaq] at e;cases e;exact new
  ·rw [zF hb] at e;refine(I.hok b u e).stay (fun c v hc q=>k c v ?_ q) (fun c q=>up c _ q) (fun c xs q=>up c _ q) fun c o u q=>up c _ q;rcases hc with z | z
   ·rw [z]; exact nch b u e
   ·exact nch c _ z
theorem Inv.turnedN{t':Nat}{ch:List Addr}(I:Inv X zh σ H s)(k:∀ b u,b∉ch->s.heap.get? b=some u->h'.get? b=some u)(hf:∀ b∈ch,FpOk X zh H b):Inv X zh σ H { s with heap:=h',toks:=t' }:=by
 have nch:∀ b u,H b=some u->b∉ch:=fun b u e m=>by rw [(hf b m).1] at e; cases e
 refine I.step (g':=s.gens) (d':=s.drawn) (ch:=ch) (fun b hb=>?_) (fun b u _ _ hc e _=>k b u hc e) (fun b u _ _ hc e _=>⟨u.slots,k b u hc e⟩) (fun b u _ e n=>n)
  (fun b u hc e=>⟨u,k b u hc e⟩) (fun b xs e=>e) (fun b u v e=>e) (fun b ps e=>e) (fun m hm=>?_) (fun b u e=>?_) I.bare
 ·obtain⟨_,f1,_,f3,f4,f5⟩:=hf b hb;exact⟨f3,f1,f4,f5⟩
 ·obtain⟨ob,es,ep,ho,r⟩:=hm;exact⟨ob,es,ep,k _ ob (fun z=>(hf _ z).2.1 rfl) ho,r⟩
 ·refine(I.hok b u e).stay (fun c v hc q=>k c v ?_ q) (fun _ q=>q) fun _ _ q=>q;rcases hc with z | z
  ·rw [z]; exact nch b u e
  ·exact nch c _ z
end
section
variable {prog:Program} {w:World} {A:Around} {E:Value->Shared->Prop} {s:Shared}
theorem zf1{j t:Addr}{i:Nat}{vs:Array Value}{x:Value}{Q:Value->Shared->Prop}(hj:s.heap.IsTupleIter j t i)(ht:s.heap.IsTuple t vs)(hx:vs[i]? = some x)
  (hQ:∀ g,g.IsTupleIter j t (i+1)->Heap.SameBut j s.heap g->Q x { s with heap:=g }):wpAny (model prog w) A (Builtin.SmallTypes.nextOf (.ref j)) Q E s:=by
 obtain⟨oj,ej,cj,dj⟩:=id hj;obtain⟨ot,et,_,nt,dt⟩:=ht;unfold Builtin.SmallTypes.nextOf;refine wpAny_bind (wpAny_callSpecial?_slot (name:=Str.ofString "__next__") hj.typeIs F.slot_tuple_iterator_next (wpAny_call_entry F.slot_tuple_iterator_next hj.typeIs F.entry_tuple_iterator_next ?_ (F.args_tuple_iterator_next_1 _)));show wpAny _ _ (field (.ref j) 0 >>= _) _ _ s;refine wpAny_bind (wpAny_field ej dj (x:=.ref t) rfl ?_);show wpAny _ _ (ite ((Value.ref t == Value.none)=true) _ _) _ _ s;refine(if_neg (show ¬ ((Value.ref t == Value.none)=true) from Bool.false_ne_true))▸?_;show wpAny _ _ (field (.ref j) 1 >>= _) _ _ s;refine wpAny_bind (wpAny_field ej dj (x:=.int i 0) rfl ?_);refine wpAny_bind (m:=seqItems? (.ref t)) (wpAny_seqItems et dt ?_);simp only [hx,Int.toNat_natCast];refine wpAny_bind (wpAny_setField ej dj (by simp) (wpAny_pure ⟨x,rfl,wpAny_pure (hQ _ ⟨_,get?_update_self _ ej (Obj.isFreed_of_fields (Obj.data_mapFields dj _)),(Obj.cls_mapFields ..).trans cj,?_⟩ (Heap.SameBut.update ..))⟩));rw [Obj.data_mapFields dj];simp [rawInt]
theorem zdl{j t:Addr}{i:Nat}{vs:Array Value}{Q:Value->Shared->Prop}(hh:A.handled=none)(hj:s.heap.IsTupleIter j t i)(ht:s.heap.IsTuple t vs)(hx:vs[i]? = none)
  (hE:∀ g e,Heap.ExtBut j s.heap g->(∃ o,g.get? e=some o/\o.cls=.type "StopIteration")->E (.ref e) { s with heap:=g }):wpAny (model prog w) A (Builtin.SmallTypes.nextOf (.ref j)) Q E s:=by
 obtain⟨oj,ej,cj,dj⟩:=id hj;obtain⟨ot,et,_,nt,dt⟩:=ht;unfold Builtin.SmallTypes.nextOf;refine wpAny_bind (wpAny_callSpecial?_slot (name:=Str.ofString "__next__") hj.typeIs F.slot_tuple_iterator_next (wpAny_call_entry F.slot_tuple_iterator_next hj.typeIs F.entry_tuple_iterator_next ?_ (F.args_tuple_iterator_next_1 _)));show wpAny _ _ (field (.ref j) 0 >>= _) _ _ s;refine wpAny_bind (wpAny_field ej dj (x:=.ref t) rfl ?_);show wpAny _ _ (ite ((Value.ref t == Value.none)=true) _ _) _ _ s;refine(if_neg (show ¬ ((Value.ref t == Value.none)=true) from Bool.false_ne_true))▸?_;show wpAny _ _ (field (.ref j) 1 >>= _) _ _ s;refine wpAny_bind (wpAny_field ej dj (x:=.int i 0) rfl ?_);refine wpAny_bind (m:=seqItems? (.ref t)) (wpAny_seqItems et dt ?_);simp only [hx,Int.toNat_natCast];refine wpAny_bind (wpAny_rule (wpAny_bind (wpAny_setField ej dj (by simp) ?_)));show wpAny _ _ (newExc (.type "StopIteration") [] >>= _) _ _ _;refine wpAny_bind ?_;simp only [newExc,newTuple];refine wpAny_bind (wpAny_newObj_type ?_ (by size_fits)); refine wpAny_bind (m:=firstArgMember _ _) (wpAny_of_eq (a:=Value.none) (by first | rfl | (simp only [firstArgMember]; rfl)) ?_);refine wpAny_newObj_type ?_ (by size_fits); simp only [raiseNew];refine wpAny_bind (wpAny_handled ?_)
 first | rw [show A.in1.handled=none from hh] | rw [hh]
 exact wpAny_bind (wpAny_pure (wpAny_throw (hE _ _ (((Heap.SameBut.update ..).extBut.push _).push _) ⟨_,get?_push_size _ rfl,rfl⟩)))
theorem zlI{e j:Addr}{i:Nat}{x old:Value}{J:Heap->Prop}{Q:Value->Shared->Prop}(he:IsEnum s.heap e j i old)(hne:e≠j)
  (hn:∀ (Q':Value->Shared->Prop) (E':Value->Shared->Prop),(∀ g,J g->Heap.SameBut j s.heap g->Q' x { s with heap:=g })->wpAny (model prog w) A (Builtin.SmallTypes.nextOf (.ref j)) Q' E' s)
  (hJ:∀ g g',J g->(∀ o,g.get? j=some o->g'.get? j=some o)->J g')
  (hQ:∀ g,IsEnumOut g e j ((i:Int)+1) x s.heap.objs.size->J g->g.get? s.heap.objs.size=some { cls:=.type "tuple",data:=.seq #[.int i s.toks,x] } ->
   (∀ b o,b≠e->b≠j->s.heap.get? b=some o->g.get? b=some o)->Q (.ref s.heap.objs.size) { s with heap:=g,toks:=s.toks+1 }) :
  wpAny (model prog w) A (Builtin.«enumerate.__next__» ⟨[.ref e],[]⟩) (fun fin s'=>∃ v,fin=.done (.ret v)/\Q v s') E s:=by
 obtain⟨h0,gs,dr,tk,os⟩:=s;show wpAny _ _ (field (.ref e) 2 >>= _) _ _ _;refine wpAny_bind (wpAny_field he rfl (x:=.ref j) rfl (wpAny_bind (hn _ _ fun g1 J1 b1=>?_)));replace b1:Heap.SameBut j h0 g1:=b1;have e1:IsEnum g1 e j i old:=(b1.2 e hne).trans he;show wpAny _ _ (field (.ref e) 3 >>= _) _ _ ⟨g1,gs,dr,tk,os⟩;refine wpAny_bind (wpAny_field e1 rfl (x:=rawInt i) rfl ?_);show wpAny _ _ (field (.ref e) 4 >>= _) _ _ ⟨g1,gs,dr,tk,os⟩;refine wpAny_bind (wpAny_field e1 rfl (x:=.none) rfl ?_);show wpAny _ _ (mkInt i >>= _) _ _ ⟨g1,gs,dr,tk,os⟩;refine wpAny_bind (wpAny_mkInt ?_);show wpAny _ _ (setField (.ref e) 3 (rawInt ((i:Int)+1)) >>= _) _ _ ⟨g1,gs,dr,tk+1,os⟩;refine wpAny_bind (wpAny_setField_rec e1 (by simp) fun g2 e2 b2=>?_);replace b2:Heap.SameBut e g1 g2:=b2;replace e2:IsEnum g2 e j ((i:Int)+1) old:=e2;show wpAny _ _ (setField (.ref e) 4 .none >>= _) _ _ ⟨g2,gs,dr,tk+1,os⟩;refine wpAny_bind (wpAny_setField_rec e2 (by simp) fun g3 e3 b3=>?_);replace b3:Heap.SameBut e g2 g3:=b3;replace e3:IsEnum g3 e j ((i:Int)+1) old:=e3;show wpAny _ _ (newTuple [.int i tk,x] >>= _) _ _ ⟨g3,gs,dr,tk+1,os⟩;refine wpAny_bind (wpAny_newTuple ?_);have sz:g3.objs.size=h0.objs.size:=by rw [b3.1,b2.1,b1.1]
 have lt:e<h0.objs.size:=lt_size he;have e4:IsEnum (g3.push { cls:=.type "tuple",data:=.seq #[.int i tk,x] }) e j ((i:Int)+1) old:=get?_push_of_some _ e3;have J3:J g3:=hJ _ _ (hJ _ _ J1 fun o q=>b2.extBut j o (Ne.symm hne) q) fun o q=>b3.extBut j o (Ne.symm hne) q;have J4:J (g3.push { cls:=.type "tuple",data:=.seq #[.int i tk,x] }):=hJ _ _ J3 fun o q=>get?_push_of_some _ q;have t4:(g3.push { cls:=.type "tuple",data:=.seq #[.int i tk,x] }).get? h0.objs.size=some { cls:=.type "tuple",data:=.seq #[.int i tk,x] }:=by rw [<- sz]; exact get?_push_size _ rfl
 have k4:∀ b o,b≠e->b≠j->h0.get? b=some o->(g3.push { cls:=.type "tuple",data:=.seq #[.int i tk,x] }).get? b=some o:=fun b o n1 n2 q=>get?_push_of_some _ (b3.extBut b o n1 (b2.extBut b o n1 (b1.extBut b o n2 q)));generalize g3.push { cls:=.type "tuple",data:=.seq #[.int i tk,x] } = g4 at e4 J4 t4 k4 ⊢;show wpAny _ _ (Builtin.SmallTypes.ownedTupleIsFree (.ref e) >>= _) _ _ ⟨g4,gs,dr,tk+1,os⟩;rw [sz];refine wpAny_bind ?_;unfold Builtin.SmallTypes.ownedTupleIsFree;refine wpAny_bind (wpAny_field e4 rfl (x:=.none) rfl (wpAny_pure ?_));simp only [if_true];refine wpAny_bind (wpAny_rule (wpAny_bind (wpAny_field e4 rfl (x:=old) rfl (wpAny_bind (wpAny_setField_rec e4 (by simp) fun g5 e5 b5=>?_)))));replace b5:Heap.SameBut e g4 g5:=b5;replace e5:IsEnum g5 e j ((i:Int)+1) x:=e5;show wpAny _ _ (Builtin.SmallTypes.ownedTupleHandOut (.ref e) (.ref h0.objs.size) >>= _) _ _ ⟨g5,gs,dr,tk+1,os⟩;refine wpAny_bind ?_;unfold Builtin.SmallTypes.ownedTupleHandOut;refine wpAny_bind (wpAny_setField_rec e5 (by simp) fun g6 e6 b6=>?_);replace b6:Heap.SameBut e g5 g6:=b6;replace e6:IsEnumOut g6 e j ((i:Int)+1) x h0.objs.size:=e6;refine wpAny_setField_rec e6 (by simp) fun g7 e7 b7=>?_;replace b7:Heap.SameBut e g6 g7:=b7;replace e7:IsEnumOut g7 e j ((i:Int)+1) x h0.objs.size:=e7;have k7:∀ b o,b≠e->g4.get? b=some o->g7.get? b=some o:=fun b o n q=>b7.extBut b o n (b6.extBut b o n (b5.extBut b o n q));exact wpAny_bind (wpAny_letGo (wpAny_pure ⟨_,rfl,hQ g7 e7 (hJ _ _ J4 fun o q=>k7 j o (Ne.symm hne) q) (k7 _ _ (ne_of_gt lt) t4) fun b o n1 n2 q=>k7 b o n1 (k4 b o n1 n2 q)⟩))
theorem zfw{e j:Addr}{i:Nat}{x old:Value}{J:Heap->Prop}{Q:Option Value->Shared->Prop}(he:IsEnum s.heap e j i old)(hne:e≠j)
  (hn:∀ (A:Around) (Q':Value->Shared->Prop) (E':Value->Shared->Prop),(∀ g,J g->Heap.SameBut j s.heap g->Q' x { s with heap:=g })->wpAny (model prog w) A (Builtin.SmallTypes.nextOf (.ref j)) Q' E' s)
  (hJ:∀ g g',J g->(∀ o,g.get? j=some o->g'.get? j=some o)->J g')
  (hQ:∀ g,IsEnumOut g e j ((i:Int)+1) x s.heap.objs.size->J g->g.get? s.heap.objs.size=some { cls:=.type "tuple",data:=.seq #[.int i s.toks,x] } ->
   (∀ b o,b≠e->b≠j->s.heap.get? b=some o->g.get? b=some o)->Q (some (.ref s.heap.objs.size)) { s with heap:=g,toks:=s.toks+1 }):wpAny (model prog w) A (pyNext (.ref e)) Q E s:=by
 have ty:s.TypeIs (.ref e) "enumerate":=⟨_,he,rfl⟩;unfold pyNext;exact wpAny_bind (wpAny_attempt (wpAny_callSpecial?_slot (name:=Str.ofString "__next__") ty F.slot_enumerate_next (wpAny_call_entry F.slot_enumerate_next ty F.entry_enumerate_next (zlI he hne (hn _) hJ fun g a b c k=>wpAny_pure (hQ g a b c k)) (F.args_enumerate_next_1 _))))
theorem ze7{e j:Addr}{i:Nat}{old:Value}{Q:Option Value->Shared->Prop}(hh:A.handled=none)(he:IsEnum s.heap e j i old)
  (hn:∀ (A:Around) (Q':Value->Shared->Prop) (E':Value->Shared->Prop),A.handled=none->(∀ g x,Heap.ExtBut j s.heap g->(∃ o,g.get? x=some o/\o.cls=.type "StopIteration")->E' (.ref x) { s with heap:=g })->wpAny (model prog w) A (Builtin.SmallTypes.nextOf (.ref j)) Q' E' s)
  (hQ:∀ g,Heap.ExtBut j s.heap g->Q none { s with heap:=g }):wpAny (model prog w) A (pyNext (.ref e)) Q E s:=by
 have ty:s.TypeIs (.ref e) "enumerate":=⟨_,he,rfl⟩;unfold pyNext;refine wpAny_bind (wpAny_attempt (wpAny_callSpecial?_slot (name:=Str.ofString "__next__") ty F.slot_enumerate_next (wpAny_call_entry F.slot_enumerate_next ty F.entry_enumerate_next ?_ (F.args_enumerate_next_1 _))));show wpAny _ _ (field (.ref e) 2 >>= _) _ _ _;refine wpAny_bind (wpAny_field he rfl (x:=.ref j) rfl (wpAny_bind (hn _ _ _ hh fun g x b hx=>?_)));obtain⟨o,ho,hc⟩:=hx;exact wpAny_bind (wpAny_isInstance (T:="StopIteration") (b:=true) ⟨o,ho,hc⟩ isSubtype_stop (wpAny_pure (hQ _ b)))
theorem zn3(t:Addr)(vs:Array Value)(n:Nat)(dct:Option Addr)(sl:Array (Option Value)):Meets (Builtin.«enumerate.__new__» ⟨[.type "enumerate",.ref t],[]⟩) (fun _ R s=>s.heap.get? t=some { cls:=.type "tuple",dict:=dct,data:=.seq vs n,slots:=sl } /\
   R (.ok (.ret (.ref (s.heap.push { cls:=.type "tuple_iterator",data:=.fields #[.ref t,.int 0 0] }).objs.size)))
    { s with heap:=(s.heap.push { cls:=.type "tuple_iterator",data:=.fields #[.ref t,.int 0 0] }).push { cls:=.type "enumerate",data:=.fields #[.none,.bool false,.ref s.heap.objs.size,rawInt 0,.none,.none] } }) :=
 .of_wp fun prog w A R s hyp=>by
  obtain⟨g0,gs,dr,tk,os⟩:=s;obtain⟨ht,hyp⟩:=hyp;have sub:=sub_enumerate;have hT:Heap.IsTuple (Shared.heap ⟨g0,gs,dr,tk,os⟩) t vs:=⟨_,ht,rfl,n,rfl⟩
  wp_walk using wpAny_loadPart' ht
  refine wpAny_stack_any fun _=>wpAny_pure ?_;split
  ·rename_i c _ _ _ _ _;cases (c == Value.type "enumerate") <;> (wp_walk using wpAny_loadPart' ht,wpAny_pyIter_tuple hT; exact⟨_,rfl,hyp⟩)
  ·wp_walk using wpAny_loadPart' ht,wpAny_pyIter_tuple hT
   exact⟨_,rfl,hyp⟩
theorem zgk{t:Addr}{vs:Array Value}{Q:Value->Shared->Prop}(hT:s.heap.IsTuple t vs)
  (hyp:∀ g,IsEnum g (s.heap.objs.size+1) s.heap.objs.size 0 .none->g.IsTupleIter s.heap.objs.size t 0->(∀ b o,s.heap.get? b=some o->g.get? b=some o)->Q (.ref (s.heap.objs.size+1)) { s with heap:=g }):wpAny (model prog w) A (call (.type "enumerate") [.ref t]) Q E s:=by
 obtain⟨⟨c,dct,dt,sl⟩,ht,hc,n,hd⟩:=hT;replace hc:c=.type "tuple":=hc;replace hd:dt=.seq vs n:=hd;subst hc hd;refine callType_new F.called_enumerate dz (F.typeCall_enumerate_1 _) (F.newCall_enumerate_1 _) (fun ob=>F.args_object_init_2 ob _) F.entry_enumerate_new (zn3 t vs n dct sl) ⟨ht,?_⟩;have sz:(s.heap.push { cls:=.type "tuple_iterator",data:=.fields #[.ref t,.int 0 0] }).objs.size=s.heap.objs.size+1:=size_push ..;show _/\_;rw [sz];have he:=get?_push_size (s.heap.push { cls:=.type "tuple_iterator",data:=.fields #[.ref t,.int 0 0] }) (o:={ cls:=.type "enumerate",data:=.fields #[.none,.bool false,.ref s.heap.objs.size,rawInt 0,.none,.none] }) rfl;rw [sz] at he;exact⟨⟨_,he,rfl⟩,hyp _ he ⟨_,get?_push_of_some _ (get?_push_size _ rfl),rfl,rfl⟩ fun b o q=>get?_push_of_some _ (get?_push_of_some _ q)⟩
end
def Ite(Sq:Hp->Addr->List V->Prop)(a:Addr):It :=
 ⟨fun i H=>∃ xs x,Sq H a xs/\xs[i]? = some x,fun i H x H'=>∃ p v,H p=none/\x=.ref p/\H'=upd H p (.tup [.int i,v])/\∀ xs,Sq H a xs->xs[i]? = some v,fun i H=>∃ xs,Sq H a xs/\xs.length<=i⟩
theorem zjr{P:Program}{w:World}{K:W.Frag}{elts:List Expr}{n:Nat}{pos:Pos}(a e j:Addr)(hej:e≠j):Turn P w K (.Tuple elts n pos) (Ite (SqT K) a) [e,j] e (fun i h=>(∃ old,IsEnum h e j i old)/\h.IsTupleIter j a i) where
 mem:=by simp
 obj:=fun i h ⟨⟨old,he⟩,hj⟩ b hb=>by
  rcases mem_cons.mp hb with rfl | hb
  ·exact⟨_,he,fun v z=>by
    have z':Data.fields _=Data.cell v:=z;cases z'⟩
  ·rw [mem_singleton.mp hb];obtain⟨o,q,c,d⟩:=hj;exact⟨o,q,fun v z=>by rw [d] at z; cases z⟩
 keep:=fun i h h' ⟨⟨old,he⟩,hj⟩ k=>⟨⟨old,k e (by simp) _ he⟩,hj.at fun o q=>k j (by simp) o q⟩
 item:=by
  intro X hP hw hK hc i zh s σ H E I hf ⟨⟨old,he⟩,hj⟩ hg;subst hP hw hK;obtain⟨xs,x,hq,hx⟩:=hg;obtain⟨its,rv,p,hz⟩:=I.tuple hq;obtain⟨u,hu,ru⟩:=rv.get hx;have hT:s.heap.IsTuple a its.toArray:=p;refine zfw (J:=fun g=>g.IsTupleIter j a (i+1)) he hej (fun A' Q' E' k=>zf1 hj hT (x:=u) (by simpa using hu) k) (fun g g' z k=>z.at k) fun g e1 j1 t1 k1=>?_;refine⟨_,rfl,wpAny_letOwnedTupleGo_enum (s:={ s with heap:=g,toks:=s.toks+1 }) e1 fun g' e2 b2=>?_⟩;have lt:e<s.heap.objs.size:=lt_size he;have ltj:j<s.heap.objs.size:=by
   obtain⟨_,q,_⟩:=hj;exact lt_size q
  have t2:g'.get? s.heap.objs.size=some { cls:=.type "tuple",data:=.seq #[.int i s.toks,u] }:=(b2.2 _ (ne_of_gt lt)).trans t1;have neT:H s.heap.objs.size=none:=I.hok.fresh (le_refl _);refine⟨.ref s.heap.objs.size,upd H s.heap.objs.size (.tup [.int i,x]),I.turnLaid (ch:=[e,j]) (t':=s.toks+1) (fun b o nb q=>(b2.2 b fun z=>nb (by simp [z])).trans (k1 b o (fun z=>nb (by simp [z])) (fun z=>nb (by simp [z])) q)) hf (le_refl _) ?_,rfl,
   ⟨_,x,neT,rfl,rfl,fun ys hy=>by rw [I.tuple_inj hy hq]; exact hx⟩,⟨⟨u,by simpa using e2⟩,j1.at fun o q=>(b2.2 j (Ne.symm hej)).trans q⟩,fun b hb=>?_⟩
  ·refine⟨⟨by show 2<=sizeLine; decide,_,t2,rfl⟩,[.int i s.toks,u],.cons ⟨s.toks,rfl⟩ (.cons ru .nil),⟨_,t2,rfl,_,rfl⟩⟩
  ·rcases mem_cons.mp hb with rfl | hb
   ·rw [zF (ne_of_lt lt)];exact(hf _ (by simp)).1
   ·rw [mem_singleton.mp hb,zF (ne_of_lt ltj)];exact(hf _ (by simp)).1
 done:=by
  intro X hP hw hK hc i zh s σ H E I hf ⟨⟨old,he⟩,hj⟩ hg;subst hP hw hK;obtain⟨xs,hq,hx⟩:=hg;obtain⟨its,rv,p,hz⟩:=I.tuple hq;have hT:s.heap.IsTuple a its.toArray:=p;have hl:=rv.length;exact ze7 (I.ok.hd hc) he (fun A' Q' E' h0 k=>zdl h0 hj hT (by simp; omega) k) fun g b=>⟨rfl,I.turnedN (ch:=[e,j]) (t':=s.toks) (fun b' o nb q=>b b' o (fun z=>nb (by simp [z])) q) hf⟩
 self:=fun _ _ _ _ _ st h=>by
  obtain⟨⟨old,he⟩,_⟩:=st;exact wpAny_pyIter_enum he h
theorem zjK{P:Program}{w:World}{K:W.Frag}{elts:List Expr}{n:Nat}{pos:Pos}(a e j:Addr)(hej:e≠j):Turn P w K (.Tuple elts n pos) (Ite (SqL K) a) [e,j] e (fun i h=>(∃ old,IsEnum h e j i old)/\h.IsListIter j a i) where
 mem:=by simp
 obj:=fun i h ⟨⟨old,he⟩,hj⟩ b hb=>by
  rcases mem_cons.mp hb with rfl | hb
  ·exact⟨_,he,fun v z=>by
    have z':Data.fields _=Data.cell v:=z;cases z'⟩
  ·rw [mem_singleton.mp hb];obtain⟨o,q,c,d⟩:=hj;exact⟨o,q,fun v z=>by rw [d] at z; cases z⟩
 keep:=fun i h h' ⟨⟨old,he⟩,hj⟩ k=>⟨⟨old,k e (by simp) _ he⟩,hj.at fun o q=>k j (by simp) o q⟩
 item:=by
  intro X hP hw hK hc i zh s σ H E I hf ⟨⟨old,he⟩,hj⟩ hg;subst hP hw hK;obtain⟨xs,x,hq,hx⟩:=hg;obtain⟨its,rv,p,hz⟩:=I.list hq;obtain⟨u,hu,ru⟩:=rv.get hx;have hT:s.heap.IsList a its.toArray:=p.isList;refine zfw (J:=fun g=>g.IsListIter j a (i+1)) he hej (fun A' Q' E' k=>wpAny_nextOf_list_item hj hT (x:=u) (by simpa using hu) k) (fun g g' z k=>z.at k) fun g e1 j1 t1 k1=>?_;refine⟨_,rfl,wpAny_letOwnedTupleGo_enum (s:={ s with heap:=g,toks:=s.toks+1 }) e1 fun g' e2 b2=>?_⟩;have lt:e<s.heap.objs.size:=lt_size he;have ltj:j<s.heap.objs.size:=by
   obtain⟨_,q,_⟩:=hj;exact lt_size q
  have t2:g'.get? s.heap.objs.size=some { cls:=.type "tuple",data:=.seq #[.int i s.toks,u] }:=(b2.2 _ (ne_of_gt lt)).trans t1;have neT:H s.heap.objs.size=none:=I.hok.fresh (le_refl _);refine⟨.ref s.heap.objs.size,upd H s.heap.objs.size (.tup [.int i,x]),I.turnLaid (ch:=[e,j]) (t':=s.toks+1) (fun b o nb q=>(b2.2 b fun z=>nb (by simp [z])).trans (k1 b o (fun z=>nb (by simp [z])) (fun z=>nb (by simp [z])) q)) hf (le_refl _) ?_,rfl,
   ⟨_,x,neT,rfl,rfl,fun ys hy=>by rw [I.list_inj hy hq]; exact hx⟩,⟨⟨u,by simpa using e2⟩,j1.at fun o q=>(b2.2 j (Ne.symm hej)).trans q⟩,fun b hb=>?_⟩
  ·refine⟨⟨by show 2<=sizeLine; decide,_,t2,rfl⟩,[.int i s.toks,u],.cons ⟨s.toks,rfl⟩ (.cons ru .nil),⟨_,t2,rfl,_,rfl⟩⟩
  ·rcases mem_cons.mp hb with rfl | hb
   ·rw [zF (ne_of_lt lt)];exact(hf _ (by simp)).1
   ·rw [mem_singleton.mp hb,zF (ne_of_lt ltj)];exact(hf _ (by simp)).1
 done:=by
  intro X hP hw hK hc i zh s σ H E I hf ⟨⟨old,he⟩,hj⟩ hg;subst hP hw hK;obtain⟨xs,hq,hx⟩:=hg;obtain⟨its,rv,p,hz⟩:=I.list hq;have hT:s.heap.IsList a its.toArray:=p.isList;have hl:=rv.length;exact ze7 (I.ok.hd hc) he (fun A' Q' E' h0 k=>wpAny_nextOf_list_end h0 hj hT (by simp; omega) k) fun g b=>⟨rfl,I.turnedN (ch:=[e,j]) (t':=s.toks) (fun b' o nb q=>b b' o (fun z=>nb (by simp [z])) q) hf⟩
 self:=fun _ _ _ _ _ st h=>by
  obtain⟨⟨old,he⟩,_⟩:=st;exact wpAny_pyIter_enum he h
section
variable {X:Cx} {elts:List Expr} {n:Nat} {tpos:Pos}
theorem zdq:bootBuiltins "enumerate" = some (.type "enumerate"):=by decide +kernel
end
def zfP(i:Nat):List PyData->List PyData
 | []=>[]
 | d :: ds=>.tuple [.int i,d] :: zfP (i+1) ds
theorem zb2:∀ (ds:List PyData) (i:Nat),(zfP i ds).length=ds.length
 | [],_=>rfl
 | d :: ds,i=>by simp [zfP,zb2 ds (i+1)]
theorem zbR:∀ (ds:List PyData) (i k:Nat) (d:PyData),(zfP i ds)[k]? = some d->∃ e,ds[k]? = some e/\d=.tuple [.int ((i+k:Nat):Int),e]
 | [],_,_,_,h=>by simp [zfP] at h
 | c :: ds,i,0,d,h=>by
  have e:PyData.tuple [.int i,c]=d:=by simpa [zfP] using h
  exact⟨c,rfl,by rw [<- e]; rfl⟩
 | c :: ds,i,k+1,d,h=>by
  obtain⟨e,h1,h2⟩:=zbR ds (i+1) k d (by simpa [zfP] using h);exact⟨e,by simpa using h1,by rw [h2]; congr 3; omega⟩
theorem zcE{X:Cx}{x:Str}{i:Int}{pos:Pos}(hg:Gl X x)(hm:∃ t,X.mg x=some (.int i t))(hd:(x == ("__debug__":Str))=false:=by decide):PE X (.Name x pos) (tC (.int i)):=by
 obtain⟨t,e⟩:=hm;exact zku hg e ⟨t,rfl⟩ hd
end
section
def dIx:D2:=fun x y S R=>asI y fun i=>match x with
 | .d (.tuple ds)=>∃ d,atI ds i=some d/\R (.d d) S
 | .d (.list ds)=>∃ d,atI ds i=some d/\R (.d d) S
 | .l k=>∃ ds,S[k]? = some ds/\∃ d,atI ds i=some d/\R (.d d) S
 | .d (.str z)=>z.length<=sizeLine/\∃ c,atI z.cps.toList i=some c/\R (.d (.str ⟨#[c]⟩)) S
 | _=>False
theorem zpr:RO zrq (fun x y S R=>asS x fun z=>asI y fun i=>z.length<=sizeLine/\∃ c,atI z.cps.toList i=some c/\R (.d (.str ⟨#[c]⟩)) S):=fun h o H S x y v u R Q hs hx hy q c=>by
 replace q:=zb4 q;obtain⟨z,rfl,q⟩:=q;replace q:=zaR q;obtain⟨i,rfl,hz,k,ek,q⟩:=q;exact⟨z,i,k,zaQ hx,zaB hy,hz,ek,c o H S _ _ Ex.refl hs (xS _) q⟩
theorem zU{K:W.Frag}:RO (rIx K) dIx:=fun h o H S x y v u R Q hs hx hy q c=>by
 replace q:=zaR q;obtain⟨i,rfl,q⟩:=q;split at q
 ·exact .inr (.inl (zpx h o H S _ _ v u R Q hs hx hy q c))
 ·exact .inl (zmZ h o H S _ _ v u R Q hs hx hy ⟨_,rfl,q⟩ c)
 ·exact .inl (zmZ h o H S _ _ v u R Q hs hx hy q c)
 ·exact .inr (.inr (zpr h o H S _ _ v u R Q hs hx hy q c))
 ·exact q.elim
section
variable {S:Sto} {R:RX} {ds:List PyData} {i:Int} {k:Nat} {z:Str}
theorem zp3:dIx (.d (.tuple ds)) (.d (.int i)) S R=∃ d,atI ds i=some d/\R (.d d) S:=rfl
theorem zpV:dIx (.d (.list ds)) (.d (.int i)) S R=∃ d,atI ds i=some d/\R (.d d) S:=rfl
theorem zqn:dIx (.l k) (.d (.int i)) S R=∃ ds,S[k]? = some ds/\∃ d,atI ds i=some d/\R (.d d) S:=rfl
theorem zqu:dIx (.d (.str z)) (.d (.int i)) S R=(z.length<=sizeLine/\∃ c,atI z.cps.toList i=some c/\R (.d (.str ⟨#[c]⟩)) S):=rfl
end
def zrU(K:W.Frag):V->Option Int->Option Int->Hp->VK->Prop:=fun x a b H Q=>zqk K x a b H Q\/(zrK K x a b H Q\/zr3 x a b H Q)
theorem zgV{X:Cx}:SlR X (zrU X.K):=zlz.or (zpM.or zpt)
def zlQ:D3:=fun x i j S R=>match x with
 | .d (.tuple ds)=>¬ (HT.sIx ds.length 0 i=0/\HT.sIx ds.length ds.length j=ds.length)/\R (.d (.tuple (zha ds i j))) S
 | .d (.list ds)=>R (.d (.list (zha ds i j))) S
 | .l k=>∃ ds,S[k]? = some ds/\R (.d (.list (zha ds i j))) S
 | .d (.str z)=>z.length<=sizeLine/\R (.d (.str (PySem.Txt.slice z i j))) S
 | _=>False
theorem zhF{K:W.Frag}:RL (zrU K) zlQ:=fun h o H S x v a b R Q hs hx q c=>by
 unfold zlQ at q;split at q
 ·exact .inr (.inl (zqW h o H S _ v a b R Q hs hx q c))
 ·exact .inl (zk6 h o H S _ v a b R Q hs hx ⟨_,rfl,q⟩ c)
 ·exact .inl (zk6 h o H S _ v a b R Q hs hx q c)
 ·exact .inr (.inr ⟨_,zaQ hx,q.1,c o H S _ _ Ex.refl hs (xS _) q.2⟩)
 ·exact q.elim
section
variable {S:Sto} {R:RX} {ds:List PyData} {i j:Option Int} {k:Nat} {z:Str}
theorem zm7:zlQ (.d (.list ds)) i j S R=R (.d (.list (zha ds i j))) S:=rfl
theorem zmT:zlQ (.l k) i j S R=∃ ds,S[k]? = some ds/\R (.d (.list (zha ds i j))) S:=rfl
theorem znK:zlQ (.d (.str z)) i j S R=(z.length<=sizeLine/\R (.d (.str (PySem.Txt.slice z i j))) S):=rfl
end
def znO(K:W.Frag):R2:=fun x y H Q=>∃ a b ys,x=.ref a/\y=.ref b/\SqT K H a []/\SqT K H b ys/\Q (.ref b) H
theorem zlZ{X:Cx}:OpR X (binaryOp .Add) (znO X.K):=by
 intro zh s σ H x y v u Q I rx ry h;obtain⟨a,b,ys,rfl,rfl,ha,hb,q⟩:=h;cases rx;cases ry;obtain⟨its,r1,p1,_⟩:=I.tuple ha;obtain⟨its2,r2,p2,_⟩:=I.tuple hb;cases r1;obtain⟨⟨c1,d1,e1,l1⟩,o1,w1,n1,k1⟩:=id p1;obtain⟨⟨c2,d2,e2,l2⟩,o2,w2,n2,k2⟩:=id p2;simp only at w1 k1 w2 k2;subst w1 k1 w2 k2;exact concat_meets ⟨_,o1,rfl⟩ ⟨_,o2,rfl⟩ noFill_tuple_add seq_tuple_add PySem.F.slot_tuple_add PySem.F.entry_tuple_add (PySem.F.args_tuple_add_2 _ _) (tuple_addW0 a b _ _ n1 n2 d1 d2 l1 l2 (by simp)) ⟨o1,o2,⟨.ref b,H,I,rfl,q⟩⟩
def zqA(K:W.Frag):R2:=fun x y H Q=>rI0 (fun i j=>.int (i+j)) x y H Q\/(zo5 x y H Q\/(zn7 K x y H Q\/(znO K x y H Q\/∃ i j,x=.str i/\y=.str j/\i.length+j.length<=sizeLine/\Q (.str (i++j)) H)))
theorem zS{X:Cx}:OpR X (binaryOp .Add) (zqA X.K):=zpo.or (zlm.or (zoO.or (zlZ.or zjN)))
def zbY:D2:=fun x y S R=>match x,y with
 | .d (.int i),.d (.int j)=>R (.d (.int (i+j))) S
 | .d (.tuple ds),.d (.tuple es)=>ds.length+es.length<=1000/\R (.d (.tuple (ds++es))) S
 | .d (.str a),.d (.str b)=>a.length+b.length<=sizeLine/\R (.d (.str (a++b))) S
 | x,y=>asL S x fun ds=>asL S y fun es=>ds.length+es.length<=1000/\R (.d (.list (ds++es))) S
theorem zal{K:W.Frag}:RO (zqA K) zbY:=fun h o H S x y v u R Q hs hx hy q c=>by
 unfold zbY at q;split at q
 ·exact .inl (zhR h o H S _ _ v u R Q hs hx hy q c)
 ·rename_i ds es;cases ds with
  | cons d ds=>exact .inr (.inr (.inl (zoC h o H S _ _ v u R Q hs hx hy ⟨by simp,q⟩ c)))
  | nil =>
   obtain⟨a,vs,rfl,ea,l⟩:=zdS hx;obtain⟨b,us,rfl,eb,l'⟩:=zdS hy;rw [zw.mp l] at ea;exact .inr (.inr (.inr (.inl ⟨a,b,us,rfl,rfl,.of ea,.of eb,c o H S (.d (.tuple es)) _ Ex.refl hs hy q.2⟩)))
 ·exact .inr (.inr (.inr (.inr ⟨_,_,zaQ hx,zaQ hy,q.1,c o H S _ _ Ex.refl hs (xS _) q.2⟩)))
 ·exact .inr (.inl (zpI h o H S _ _ v u R Q hs hx hy q c))
section
variable {S:Sto} {R:RX} {ds es:List PyData} {i j:Int} {k l:Nat} {a b:Str}
theorem znl:zbY (.d (.int i)) (.d (.int j)) S R=R (.d (.int (i+j))) S:=rfl
theorem zm3:zbY (.d (.tuple ds)) (.d (.tuple es)) S R=(ds.length+es.length<=1000/\R (.d (.tuple (ds++es))) S):=rfl
theorem zmM:zbY (.d (.str a)) (.d (.str b)) S R=(a.length+b.length<=sizeLine/\R (.d (.str (a++b))) S):=rfl
theorem zld:zbY (.d (.list ds)) (.d (.list es)) S R↔(ds.length+es.length<=1000/\R (.d (.list (ds++es))) S):=⟨fun⟨_,e,_,e',q⟩=>by cases e; cases e'; exact q,fun q=>⟨_,rfl,_,rfl,q⟩⟩
end
def zpy:R2:=fun x y H Q=>rI IntMulOk (fun i j=>.int (i*j)) x y H Q\/(zpQ x y H Q\/zsl x y H Q)
theorem zcd{X:Cx}:OpR X (binaryOp .Mult) zpy:=zn0.or (zoy.or zqo)
def zia:D2:=fun x y S R=>asI y fun j=>match x with
 | .d (.int i)=>IntMulOk i j/\R (.d (.int (i*j))) S
 | .d (.str z)=>z.length<=1000/\j<=1000/\-1000<=j/\R (.d (.str (PySem.Txt.mul z j))) S
 | .d (.list ds)=>j<=1000/\-1000<=j/\ds.length*j.toNat<=1000/\R (.d (.list (List.replicate j.toNat ds).flatten)) S
 | _=>False
theorem HasL.rep{H:Hp}{ds:List PyData}{vs:List V}(l:HasL H ds vs):∀ n:Nat,HasL H (List.replicate n ds).flatten (List.replicate n vs).flatten
 | 0=>zw.mpr rfl
 | n+1=>by
  rw [replicate_succ,replicate_succ,flatten_cons,flatten_cons];exact l.append (HasL.rep l n)
theorem zdj:RO zpy zia:=fun h o H S x y v u R Q hs hx hy q c=>by
 replace q:=zaR q;obtain⟨j,rfl,q⟩:=q;split at q
 ·exact .inl (zgK h o H S _ _ v u R Q hs hx hy q c)
 ·exact .inr (.inl ⟨_,_,zaQ hx,zaB hy,q.1,q.2.1,q.2.2.1,c o H S _ _ Ex.refl hs (xS _) q.2.2.2⟩)
 ·obtain⟨a,vs,rfl,ea,l⟩:=zba (x:=.d (.list _)) hs rfl hx;obtain⟨h1,h2,h3,q⟩:=q;exact .inr (.inr ⟨a,j,vs,rfl,zaB hy,ea,by omega,by omega,by rw [l.length]; exact le_of_lt (small1000 h3),zh6 hs (l.rep j.toNat) c q⟩)
 ·exact q.elim
section
variable {S:Sto} {R:RX} {i j:Int} {z:Str} {ds:List PyData}
theorem znz:zia (.d (.int i)) (.d (.int j)) S R=(IntMulOk i j/\R (.d (.int (i*j))) S):=rfl
theorem zns:zia (.d (.str z)) (.d (.int j)) S R=(z.length<=1000/\j<=1000/\-1000<=j/\R (.d (.str (PySem.Txt.mul z j))) S):=rfl
end
def zrP:R2:=fun x y H Q=>rI CDivX (fun i j=>.int (i / j)) x y H Q\/rI CDivN (fun i j=>.int (i.fdiv j)) x y H Q
theorem zhy{X:Cx}:OpR X (binaryOp .FloorDiv) zrP:=zms.or zmI
def dFd:D2:=fun x y S R=>asI x fun i=>asI y fun j=>(CDivX i j/\R (.d (.int (i / j))) S)\/(CDivN i j/\R (.d (.int (i.fdiv j))) S)
theorem zkF:RO zrP dFd:=fun h o H S x y v u R Q hs hx hy q c=>by
 replace q:=zaR q;obtain⟨i,rfl,q⟩:=q;replace q:=zaR q;obtain⟨j,rfl,q⟩:=q;rcases q with q | q
 ·exact .inl (zgK (C:=CDivX) (g:=fun i j=>i / j) h o H S _ _ v u R Q hs hx hy q c)
 ·exact .inr (zgK (C:=CDivN) (g:=fun i j=>i.fdiv j) h o H S _ _ v u R Q hs hx hy q c)
def zq4(S:Sto):XV->Option Bool
 | .d .none=>some false
 | .d (.bool b)=>some b
 | .d (.int i)=>some (i != 0)
 | .d (.str z)=>if z.length<=sizeLine then some ((z.length:Int) != 0) else none
 | .d (.list ds)=>some (!ds.isEmpty)
 | .d (.tuple ds)=>some (!ds.isEmpty)
 | .l k=>(S[k]?).map fun ds=>!ds.isEmpty
 | _=>none
def ze2(a:DE):DT:=fun δ S R=>a δ S fun x S1=>∃ k,zq4 S1 x=some k/\R k S1
theorem zdE{H:Hp}{ds:List PyData}{vs:List V}(l:HasL H ds vs):(!ds.isEmpty) = !vs.isEmpty:=by
 have:=l.length;cases ds <;> cases vs <;> simp_all
theorem za2{K:W.Frag}{ta:TE}{da:DE}(ha:RE ta da):RT (fun σ H Q=>ta σ H fun x H'=>∃ k,TruV K x H' k/\Q k H') (ze2 da):=fun h o H δ σ S R Q he hs q c =>
 ha h o H δ σ S _ _ he hs q fun o1 H1 S1 x v e1 s1 x1 ⟨k,ek,d1⟩=>by
  refine⟨k,?_,c o1 H1 S1 k e1 s1 d1⟩;unfold zq4 at ek;split at ek
  ·cases ek; rw [(zdf (H:=vx h o1 H1)).mp x1]; rfl
  ·cases ek; rw [zdz x1]; rfl
  ·cases ek; rw [zaB x1]; rfl
  ·split at ek
   ·rename_i hz;cases ek; rw [zaQ x1]; exact⟨hz,rfl⟩
   ·cases ek
  ·obtain⟨a,vs,rfl,ea,l⟩:=zba (x:=.d (.list _)) s1 rfl x1;cases ek;exact .inl ⟨vs,.of ea,zdE l⟩
  ·obtain⟨a,vs,rfl,ea,l⟩:=zdS x1;cases ek;exact .inr (.inl ⟨vs,.of ea,zdE l⟩)
  ·rename_i j _;cases hj:S1[j]? with
   | none=>rw [hj] at ek; cases ek
   | some ds =>
    rw [hj] at ek;cases ek;obtain⟨a,vs,rfl,ea,l⟩:=zba (x:=.l j) s1 hj x1;exact .inl ⟨vs,.of ea,zdE l⟩
  ·cases ek
section
variable {S:Sto} {b:Bool} {i:Int} {ds:List PyData} {k:Nat}
theorem znm:zq4 S (.d (.bool b))=some b:=rfl
theorem znM:zq4 S (.d (.tuple ds))=some (!ds.isEmpty):=rfl
end
def zbz:DS:=fun _ _ _=>False
theorem zaL:RS znq zbz:=fun h o H δ σ S E D he hs q c=>q.elim
def zrQ(K:W.Frag)(tl:TE):TI:=fun σ H R=>tl σ H fun x H1=>∃ a,x=.ref a/\(((∃ xs,SqL K H1 a xs)/\R (Itl K a) H1)\/((∃ xs,SqT K H1 a xs)/\R (Itt K a) H1))
theorem zci{X:Cx}{tg:Expr}{l:Expr}{tl:TE}(hl:PE X l tl):PI X tg l (zrQ X.K tl):=by
 intro zh s σ H R I h;refine thn (hl zh s σ H _ I h) fun v s1 ⟨x,H1,I1,r1,q1⟩=>?_;obtain⟨a,e,⟨⟨xs,hq⟩,q⟩ | ⟨⟨xs,hq⟩,q⟩⟩:=q1
 ·subst e;cases r1;obtain⟨its,rv,p,hz⟩:=I1.list hq;refine wpAny_pyIter_list p.isList ?_;refine⟨s1.heap.objs.size,[s1.heap.objs.size],_,_,H1,rfl,I1.kept (t':=s1.toks) fun b o e=>get?_push_of_some _ e,zhg a _,⟨_,get?_push_size _ rfl,rfl,rfl⟩,fun b hb=>?_,q⟩;have e:b=s1.heap.objs.size:=by simpa using hb
  subst e;exact I1.fpOk (le_refl _) (I1.hok.fresh (le_refl _))
 ·subst e;cases r1;obtain⟨its,rv,p,hz⟩:=I1.tuple hq;refine wpAny_pyIter_tuple (show s1.heap.IsTuple a its.toArray from p) ?_;refine⟨s1.heap.objs.size,[s1.heap.objs.size],_,_,H1,rfl,I1.kept (t':=s1.toks) fun b o e=>get?_push_of_some _ e,zji a _,⟨_,get?_push_size _ rfl,rfl,rfl⟩,fun b hb=>?_,q⟩;have e:b=s1.heap.objs.size:=by simpa using hb
  subst e;exact I1.fpOk (le_refl _) (I1.hok.fresh (le_refl _))
def zh9:XV->Option (List PyData)
 | .d (.list ds)=>some ds
 | .d (.tuple ds)=>some ds
 | _=>none
theorem zmR{ds:List PyData}:zh9 (.d (.list ds))=some ds:=rfl
theorem zmN{ds:List PyData}:zh9 (.d (.tuple ds))=some ds:=rfl
def zcv(e:DE):DI:=fun δ S R=>e δ S fun x S1=>∃ ds,zh9 x=some ds/\R ds S1
theorem zcm{K:W.Frag}{te:TE}{de:DE}(he':RE te de):RI (zrQ K te) (zcv de):=fun h o H δ σ S R Q he hs q c =>
 he' h o H δ σ S _ _ he hs q fun o1 H1 S1 x v e1 s1 x1 ⟨ds,ex,d1⟩=>by
  unfold zh9 at ex;split at ex
  ·cases ex;obtain⟨a,vs,rfl,ea,l⟩:=zaN.mp (show Has _ _ _ from x1);have hl:=l.length;refine⟨a,rfl,.inl ⟨⟨vs,.of (zah _ _ ea)⟩,c o1 H1 S1 ds _ e1 s1 ⟨fun i o2 H2 e2 hi=>⟨vs,.of (zah _ _ (e2.vx _ _ ea)),by omega⟩,fun i d o2 H2 e2 hi=>?_,fun i d o2 H2 x H3 S2 e2 s2 hi y=>?_⟩ d1⟩⟩
   ·obtain⟨v,ev,_⟩:=l.get hi;exact⟨vs,v,.of (zah _ _ (e2.vx _ _ ea)),ev⟩
   ·obtain⟨v,ev,hv⟩:=l.get hi;have e3:H3=H2:=y.1;subst e3;have ex:=y.2 vs (.of (zah _ _ (e2.vx _ _ ea)));rw [ev] at ex;cases ex;exact⟨Same.refl _,hv.mono e2.vx⟩
  ·cases ex;obtain⟨a,vs,rfl,ea,l⟩:=zai.mp (show Has _ _ _ from x1);have hl:=l.length;refine⟨a,rfl,.inr ⟨⟨vs,.of (zah _ _ ea)⟩,c o1 H1 S1 ds _ e1 s1 ⟨fun i o2 H2 e2 hi=>⟨vs,.of (zah _ _ (e2.vx _ _ ea)),by omega⟩,fun i d o2 H2 e2 hi=>?_,fun i d o2 H2 x H3 S2 e2 s2 hi y=>?_⟩ d1⟩⟩
   ·obtain⟨v,ev,_⟩:=l.get hi;exact⟨vs,v,.of (zah _ _ (e2.vx _ _ ea)),ev⟩
   ·obtain⟨v,ev,hv⟩:=l.get hi;have e3:H3=H2:=y.1;subst e3;have ex:=y.2 vs (.of (zah _ _ (e2.vx _ _ ea)));rw [ev] at ex;cases ex;exact⟨Same.refl _,hv.mono e2.vx⟩
  ·cases ex
def zom(dt:DS):DS:=fun E δ S=>dt { E with nx:=fun δ' S'=>∃ S0 ds,S'=S0++[ds]/\S.length<=S0.length/\E.nx (δ'.map (frz S0.length ds)) S0 } δ S
theorem zk1{t:TS}{dt:DS}(ht:RS t dt):RS t (zom dt):=fun h o H δ σ S E D he hs q c=>by
 refine ht h o H δ σ S _ D he hs q ⟨fun o' H' δ' S' σ' e he' hs' ⟨S0,ds,eS,hl,n⟩=>?_,c.rt,c.bk,c.ct⟩;subst eS;obtain⟨r,rfl⟩:=e.pre;have hL:=hs'.len;simp only [length_append,length_singleton] at hL;have hS:=hs.len;have rne:r≠[]:=fun z=>by subst z; simp at hL; omega
 obtain⟨r0,a,rfl⟩:∃ r0 a,r=r0++[a]:=⟨r.dropLast,r.getLast rne,(List.dropLast_concat_getLast rne).symm⟩;have hS0:S0.length=(o++r0).length:=by simp at hL ⊢; omega
 rw [<- append_assoc] at hs' he' e;have nd:=nodup_append.mp hs'.nd;have na:a∉o++r0:=fun m=>nd.2.2 a m a (by simp) rfl;have nh:a∉h:=hs'.dis a (by simp);refine c.nx (o++r0) H' _ S0 σ' ⟨⟨r0,rfl⟩,fun b u hb eb=>?_⟩ ⟨by rw [length_map]; exact he'.len,fun i x ex=>?_⟩ (hs'.pop hS0) n
 ·obtain⟨z1,z2⟩:=e.kp b u hb eb;exact⟨fun m=>z1 (mem_append_left _ m),z2⟩
 ·rw [getElem?_map] at ex;obtain⟨y,ey,ex⟩:=map_eq_some_iff.mp ex
  match y,ey,ex with
  | none,ey,ex=>cases ex
  | some (.d d),ey,ex =>
   cases ex;obtain⟨v,e1,e2⟩:=he'.get i _ ey;exact⟨v,e1,Has.mono zfs d v e2⟩
  | some (.o w),ey,ex =>
   cases ex;exact he'.get i _ ey
  | some (.x C fs),ey,ex =>
   cases ex;obtain⟨v,e1,e2⟩:=he'.get i _ ey;exact⟨v,e1,HasE.mono zfs e2⟩
  | some (.l k),ey,ex =>
   obtain⟨v,e1,b,eb,rfl⟩:=he'.get i _ ey;unfold frz at ex;by_cases hk:k=S0.length
   ·simp only [hk,↓reduceIte] at ex;cases ex;rw [hk,hS0,getElem?_concat_length] at eb;cases eb;obtain⟨vs,ev,l⟩:=hs'.cont k a ds (by rw [hk,hS0,getElem?_concat_length]) (by rw [hk,getElem?_concat_length]);exact⟨_,e1,zaN.mpr ⟨a,vs,rfl,zY.mpr ⟨nh,na,ev⟩,l.mono zfs⟩⟩
   ·simp only [hk,↓reduceIte] at ex;cases ex;have hlt:=(List.getElem?_eq_some_iff.mp eb).1;simp only [length_append,length_singleton] at hlt;simp only [length_append] at hS0;rw [getElem?_append_left (by simp only [length_append]; omega)] at eb;exact⟨_,e1,b,eb,rfl⟩
section
variable {t1 t2 t3 t4 t5 t6 t7 t8:TS} {d:DS}
theorem znN(h:RS (zgI (zgI t1 t2) t3) d):RS (zgI t1 (zgI t2 t3)) d:=h
theorem zp4(h:RS (zgI (zgI t1 (zgI t2 t3)) t4) d):RS (zgI t1 (zgI t2 (zgI t3 t4))) d:=h
end
end
section
abbrev PN:=List XV->Sto->RX->Prop
def lfN(q:PN):List V->Hp->VK->Prop:=fun vs H Q=>∃ h o S xs R,RepS h o H S/\HasXs h o H xs vs/\q xs S R/\Cn h o H R Q
def spN(ps:List Str)(q:PN):Sp:=fun vs H Q _=>vs.length=ps.length/\lfN q vs H Q
theorem HasXs.len{h o:List Addr}{H:Hp}:∀ {xs:List XV} {vs:List V},HasXs h o H xs vs->vs.length=xs.length
 | [],vs,q=>by rw [show vs=[] from q]; rfl
 | x :: xs,vs,⟨v,r,e,_,l⟩=>by rw [e,length_cons,length_cons,HasXs.len l]
theorem HasXs.get{h o:List Addr}{H:Hp}:∀ {xs:List XV} {vs:List V} {i:Nat} {x:XV},HasXs h o H xs vs->xs[i]? = some x->∃ v,vs[i]? = some v/\HasX h o H x v
 | [],_,i,_,_,e=>by simp at e
 | y :: xs,vs,0,x,⟨v,r,e1,q,l⟩,e=>by
  rw [getElem?_cons_zero] at e;cases e;subst e1;exact⟨v,rfl,q⟩
 | y :: xs,vs,i+1,x,⟨v,r,e1,q,l⟩,e=>by
  subst e1;rw [getElem?_cons_succ] at e ⊢;exact HasXs.get l e
theorem zjj{h o:List Addr}{H:Hp}{xs:List XV}{vs:List V}{n:Nat}(q:HasXs h o H xs vs):RepE h o H (xs.map some++List.replicate n none) (vs.map some++List.replicate n none):=by
 have hl:=q.len;refine⟨by simp [hl],fun i x e=>?_⟩;by_cases hi:i<xs.length
 ·rw [getElem?_append_left (by rw [length_map]; exact hi),getElem?_map] at e;obtain⟨y,ey,e⟩:=map_eq_some_iff.mp e;cases e;obtain⟨v,ev,hv⟩:=q.get ey;exact⟨v,by rw [getElem?_append_left (by rw [length_map,hl]; exact hi),getElem?_map,ev]; rfl,hv⟩
 ·rw [getElem?_append_right (by rw [length_map]; omega),List.getElem?_replicate] at e;split at e <;> cases e
section
variable {P:Program} {w:World} {K:W.Frag} {mg:Str->Option Value} {base:Heap} {x:Str} {st:Stmt} {N ps:List Str} {k:Nat}
theorem Df.dN{q:PN}(D:Dd K mg x st ps)(S:FnScope N ps (zn st))(n:Nat)(hn:N.length=ps.length+n)
  (hbody:∀ (f:Addr) (cdv:Value) (A:Around) (outer:List Env) (s:Shared) (H:Hp) (E:XK),Room k (A.deeper (envOfC x (zn st) s.heap.objs.size f cdv)) ->
   ∃ t dt,PSs (zlO CX0 P w K mg base N x (zn st) f cdv A outer s H E).nox (zbw st) t/\RS t dt/\∀ xs S R,q xs S R->dt (zcR S.length R) (xs.map some++List.replicate n none) S):Df P w K mg base x ps (k+1) (spN ps q):=by
 refine Df.of D S (fun vs H Q E h=>h.1) fun f cdv A outer s H vs Q E hr ⟨hl,h,o,S',xs,R,hs',hx,hq,c⟩=>?_;obtain⟨t,dt,h1,h2,h3⟩:=hbody f cdv A outer s H E hr;refine⟨t,h1,h2 h o H _ _ S' _ _ ?_ hs' (h3 xs S' R hq) (eok hs' c)⟩;have e:N.length - vs.length=n:=by omega
 unfold start;rw [e];exact zjj hx
end
section
variable {X:Cx} {x:Str} {ps:List Str} {k j:Nat} {pos pos':Pos} {e:Expr} {es:List Expr} {t:TA}
theorem zA{q:PN}(D:Df X.prog X.w X.K X.mg X.base x ps k (spN ps q))(hr:Room j X.A)(hk:k<=j)(ha:PA X (e :: es) t)(hg:Gl X x:=by rfl)(hdb:(x == ("__debug__":Str))=false:=by decide)
  (q1:starEach (e :: es) X.env=(false,eval e X.env) :: starEach es X.env:=by rfl) (q2:((backTo pos (starEach es X.env)).any fun x=>x.fst)=false:=by rfl):PE X (.Call (.Name x pos') (e :: es) [] pos) (zkS (spN ps q) [] E0 t):=by
 obtain⟨f,fd,F,hm,kp,hb⟩:=D.ex;exact zkD (dvs:=[]) (ds:=[]) (E:=E0) F (hr.mono hk) hg hm kp hb .nil pass0 ha hdb q1 q2
end
def zaz(m:Nat)(q:PN)(da:DA):DE:=fun δ S R=>da δ S fun xs S1=>∃ ds,datas xs=some ds/\ds.length=m/\q (ds.map XV.d) [] (ret0 S1 R)
theorem hxs0{h o:List Addr}{H:Hp}:∀ {ds:List PyData} {vs:List V},HasXs h o H (ds.map XV.d) vs->HasXs (h++o) [] H (ds.map XV.d) vs
 | [],_,q=>q
 | d :: ds,vs,⟨v,r,e,q,l⟩=>⟨v,r,e,hx0 q,hxs0 l⟩
theorem zJ{ps:List Str}{q:PN}{m:Nat}{t:TA}{da:DA}(ha:RA t da)(hm:ps.length=m:=by rfl):RE (zkS (spN ps q) [] E0 t) (zaz m q da):=fun h o H δ σ S R Q he hs w c =>
 ha h o H δ σ S _ _ he hs w fun o1 H1 S1 xs vs e1 s1 x1 ⟨ds,e,hl,d1⟩=>by
  have ex:=zcH e;subst ex;have hv:=x1.len;rw [append_nil];exact⟨by rw [hv,length_map,hl,hm],h++o1,[],[],_,_,rep0 s1,hxs0 x1,d1,cn0 s1 (c.pre e1)⟩
def zab(i m:Nat)(q:PN)(da:DA):DE:=fun δ S R=>da δ S fun xs S1=>∃ k,xs[i]? = some (.l k)/\∃ p,S1[k]? = some p/\∃ ds,datas (xs.set i (.d .none))=some ds/\ds.length=m/\q ((ds.map XV.d).set i (.l 0)) [p] (zq9 k S1 R)
theorem zrX{h o:List Addr}{H:Hp}{k:Nat}{a:Addr}(ea:o[k]? = some a):∀ {xs:List XV} {vs:List V} {ds:List PyData} {i:Nat},HasXs h o H xs vs->xs[i]? = some (.l k)->datas (xs.set i (.d .none))=some ds->HasXs (h++o.filter (fun b=>b≠a)) [a] H ((ds.map XV.d).set i (.l 0)) vs
 | [],_,_,i,_,e,_=>by simp at e
 | x :: xs,vs,ds,0,⟨v,r,e1,q,l⟩,e,ed=>by
  rw [getElem?_cons_zero] at e;cases e;rw [set_cons_zero] at ed;obtain⟨ds',rfl⟩:∃ ds',ds=.none :: ds':=by
   unfold datas at ed;cases hd:datas xs with
   | none=>rw [hd] at ed; cases ed
   | some y=>rw [hd] at ed; cases ed; exact⟨y,rfl⟩
  have ed':datas xs=some ds':=by
   unfold datas at ed;cases hd:datas xs with
   | none=>rw [hd] at ed; cases ed
   | some y=>rw [hd] at ed; cases ed; rfl
  have ex:=zcH ed';subst ex;obtain⟨b,eb,rfl⟩:=q;rw [ea] at eb;cases eb;exact⟨_,r,e1,⟨a,rfl,rfl⟩,go (ea:=ea) l⟩
 | x :: xs,vs,ds,i+1,⟨v,r,e1,q,l⟩,e,ed=>by
  rw [getElem?_cons_succ] at e;rw [set_cons_succ] at ed
  match x,q,ed with
  | .d d,q,ed =>
   unfold datas at ed;cases hd:datas (xs.set i (.d .none)) with
   | none=>rw [hd] at ed; cases ed
   | some ds' =>
    rw [hd] at ed;cases ed;exact⟨v,r,e1,hxP ea q,zrX ea l e hd⟩
  | .l j,q,ed=>cases ed
  | .o w,q,ed=>cases ed
  | .x _ _,q,ed=>cases ed
where
 go {h o:List Addr} {H:Hp} {k:Nat} {a:Addr} {ea:o[k]? = some a}:∀ {ds:List PyData} {vs:List V},HasXs h o H (ds.map XV.d) vs->HasXs (h++o.filter (fun b=>b≠a)) [a] H (ds.map XV.d) vs
 | [],_,q=>q
 | d :: ds,vs,⟨v,r,e,q,l⟩=>⟨v,r,e,hxP ea q,go (ea:=ea) l⟩
theorem zlt:∀ {xs:List XV} {ds:List PyData},datas xs=some ds->xs.length=ds.length:=fun e=>by
 rw [zcH e,length_map]
theorem zP{ps:List Str}{q:PN}{i m:Nat}{t:TA}{da:DA}(ha:RA t da)(hm:ps.length=m:=by rfl):RE (zkS (spN ps q) [] E0 t) (zab i m q da):=fun h o H δ σ S R Q he hs w c =>
 ha h o H δ σ S _ _ he hs w fun o1 H1 S1 xs vs e1 s1 x1 ⟨k,ek,p,ep,ds,e,hl,d1⟩=>by
  have hv:=x1.len;have hd:=zlt e;rw [length_set] at hd;obtain⟨v,_,a,ea,_⟩:=x1.get ek;rw [append_nil];exact⟨by rw [hv,hd,hl,hm],_,[a],[p],_,_,zq3 s1 ea ep,zrX ea x1 ek e,d1,cnP s1 ea ep (c.pre e1)⟩
mutual
def zhY:PyData->Bool
 | .list _=>false
 | .dict _=>false
 | .tuple ds=>zhm ds
 | _=>true
def zhm:List PyData->Bool
 | []=>true
 | d :: ds=>zhY d && zhm ds
end
mutual
theorem zhl{h o:List Addr}{H G:Hp}(sm:Same G H)(hh:∀ b,b∈h\/b∈o->∃ u:MO,H b=some u.ho):∀ (d:PyData) (v:V),zhY d=true->Has G d v->Has (vx h o H) d v
 | .none,v,_,q=>zdf.mpr (zdf.mp q)
 | .bool b,v,_,q=>zcM.mpr (zcM.mp q)
 | .int i,v,_,q=>zbV.mpr (zbV.mp q)
 | .str z,v,_,q=>zbP.mpr (zbP.mp q)
 | .list ds,v,n,_=>by simp [zhY] at n
 | .dict ds,v,n,_=>by simp [zhY] at n
 | .tuple ds,v,n,q=>by
  obtain⟨a,vs,e,ea,l⟩:=zai.mp q;have n':zhm ds=true:=by simpa [zhY] using n
  have ea':=sm _ _ ea;refine zai.mpr ⟨a,vs,e,zY.mpr ⟨fun m=>?_,fun m=>?_,ea'⟩,zgc sm hh ds vs n' l⟩
  ·obtain⟨u,eu⟩:=hh a (.inl m);rw [ea'] at eu;cases u <;> cases eu
  ·obtain⟨u,eu⟩:=hh a (.inr m);rw [ea'] at eu;cases u <;> cases eu
theorem zgc{h o:List Addr}{H G:Hp}(sm:Same G H)(hh:∀ b,b∈h\/b∈o->∃ u:MO,H b=some u.ho):∀ (ds:List PyData) (vs:List V),zhm ds=true->HasL G ds vs->HasL (vx h o H) ds vs
 | [],vs,_,q=>zw.mpr (zw.mp q)
 | d :: ds,vs,n,q=>by
  obtain⟨v,r,e,hv,l⟩:=zu.mp q;simp only [zhm,Bool.and_eq_true] at n;exact zu.mpr ⟨v,r,e,zhl sm hh d v n.1 hv,zgc sm hh ds r n.2 l⟩
end
def zq7(S:Sto)(R:RX):RX:=fun y S'=>match y,S' with
 | .d d,[]=>zhY d=true/\R (.d d) S
 | _,_=>False
theorem zng{S:Sto}{R:RX}{d:PyData}:zq7 S R (.d d) []=(zhY d=true/\R (.d d) S):=rfl
def views(S:Sto):List XV->Option (List PyData)
 | []=>some []
 | x :: r=>(zcJ S x).bind fun d=>(views S r).map (d :: ·)
theorem zhu{S:Sto}:views S []=some []:=rfl
theorem zek{S:Sto}{x:XV}{r:List XV}:views S (x :: r)=(zcJ S x).bind fun d=>(views S r).map (d :: ·):=rfl
def zid(m:Nat)(q:PN)(da:DA):DE:=fun δ S R=>da δ S fun xs S1=>∃ ds,views S1 xs=some ds/\ds.length=m/\q (ds.map XV.d) [] (zq7 S1 R)
theorem zsu{h o:List Addr}{H:Hp}{S:Sto}(hs:RepS h o H S):RepS h [] H []:=⟨rfl,nodup_nil,(fun _ h=>(nomatch h)),hs.hal,(fun _ _ _ e=>(by simp at e))⟩
theorem hxV{h o:List Addr}{H:Hp}{S:Sto}{x:XV}{v:V}{d:PyData}(hs:RepS h o H S)(e:zcJ S x=some d)(q:HasX h o H x v):HasX h [] H (.d d) v:=by
 have sub:Same (vx h o H) (vx h [] H):=fun b u eb=>by
  obtain⟨z1,z2,z3⟩:=zY.mp eb;exact zY.mpr ⟨z1,by simp,z3⟩
 unfold zcJ at e;split at e
 ·cases e;exact Has.mono sub _ _ q
 ·rename_i k;obtain⟨a,ea,rfl⟩:=q;cases hk:S[k]? with
  | none=>rw [hk] at e; cases e
  | some ds =>
   rw [hk] at e;cases e;obtain⟨vs,ev,l⟩:=hs.cont k a ds ea hk;exact zaN.mpr ⟨a,vs,rfl,zY.mpr ⟨hs.dis a (mem_of_getElem? ea),by simp,ev⟩,l.mono sub⟩
 ·cases e
 ·cases e
theorem zrW{h o:List Addr}{H:Hp}{S:Sto}(hs:RepS h o H S):∀ {xs:List XV} {vs:List V} {ds:List PyData},views S xs=some ds->HasXs h o H xs vs->HasXs h [] H (ds.map XV.d) vs/\vs.length=ds.length
 | [],vs,ds,e,q=>by cases e; exact⟨q,by rw [show vs=[] from q]; rfl⟩
 | x :: xs,vs,ds,e,⟨v,r,e1,q,l⟩=>by
  rw [zek] at e;cases hd:zcJ S x with
  | none=>rw [hd] at e; cases e
  | some d =>
   rw [hd,Option.bind_some] at e;cases hr:views S xs with
   | none=>rw [hr] at e; cases e
   | some es =>
    rw [hr] at e;cases e;obtain⟨z1,z2⟩:=zrW hs hr l;exact⟨⟨v,r,e1,hxV hs hd q,z1⟩,by rw [e1,length_cons,length_cons,z2]⟩
theorem cnV{h o:List Addr}{H:Hp}{S:Sto}{R:RX}{Q:VK}(hs:RepS h o H S)(c:Cn h o H R Q):Cn h [] H (zq7 S R) Q:=fun o' H' S' y v e s' hy q=>by
 unfold zq7 at q;split at q
 ·rename_i d;have sH:Same H H':=fun b u eb=>(e.kp b u (by simp) eb).2;have e0:o'=[]:=eq_nil_of_length_eq_zero s'.len.symm;subst e0;have hs2:=hs.same sH;refine c o H' S (.d d) v (Ex.of_same sH) hs2 (zhl (zah (h:=h) (o:=[])) (fun b m=>?_) d v q.1 hy) q.2;exact m.elim (hs2.hal b) (hs2.oam b)
 ·exact q.elim
theorem zmA{ps:List Str}{q:PN}{m:Nat}{t:TA}{da:DA}(ha:RA t da)(hm:ps.length=m:=by rfl):RE (zkS (spN ps q) [] E0 t) (zid m q da):=fun h o H δ σ S R Q he hs w c =>
 ha h o H δ σ S _ _ he hs w fun o1 H1 S1 xs vs e1 s1 x1 ⟨ds,e,hl,d1⟩=>by
  obtain⟨z1,z2⟩:=zrW s1 e x1;rw [append_nil];exact⟨by rw [z2,hl,hm],h,[],[],_,_,zsu s1,z1,d1,cnV s1 (c.pre e1)⟩
end
section
theorem zie{X:Cx}{x:Str}{i:Str}{pos:Pos}(hg:Gl X x)(hm:∃ t,X.mg x=some (.str i t))(hd:(x == ("__debug__":Str))=false:=by decide):PE X (.Name x pos) (tC (.str i)):=by
 obtain⟨t,e⟩:=hm;exact zku hg e ⟨t,rfl⟩ hd
def zp8(K:W.Frag):List V->Hp->VK->Prop:=fun xs H Q=>zrg K xs H Q\/∃ z,xs=[.str z]/\z.length<=sizeLine/\Q (.int z.length) H
theorem zZ{X:Cx}:CallR X (.builtin "len") (zp8 X.K):=zez.or zg0
def znQ(S:Sto):XV->Option Nat
 | .d (.tuple ds)=>some ds.length
 | .d (.list ds)=>some ds.length
 | .l k=>(S[k]?).map List.length
 | .d (.str z)=>if z.length<=sizeLine then some z.length else none
 | _=>none
def zce:List XV->Sto->RX->Prop:=fun xs S R=>arg1 xs fun x=>∃ n,znQ S x=some n/\R (.d (.int n)) S
theorem zaA{K:W.Frag}:RC (zp8 K) zce:=fun h o H S xs vs R Q hs hx q c=>by
 obtain⟨x,rfl,n,hd,q1⟩:=zas q;unfold znQ at hd;split at hd
 ·cases hd;exact .inl (zkN h o H S _ vs R Q hs hx ⟨_,rfl,q1⟩ c)
 ·cases hd;exact .inl (zkN h o H S _ vs R Q hs hx ⟨_,rfl,q1⟩ c)
 ·rename_i k;cases hk:S[k]? with
  | none=>rw [hk] at hd; cases hd
  | some ds =>
   rw [hk] at hd;cases hd;exact .inl (zkN h o H S _ vs R Q hs hx ⟨ds,hk,q1⟩ c)
 ·split at hd
  ·rename_i hz;cases hd;obtain⟨v,rfl,hx1⟩:=hxs1 hx;exact .inr ⟨_,by rw [zaQ hx1],hz,c o H S _ _ Ex.refl hs (xI _) q1⟩
  ·cases hd
 ·cases hd
section
variable {S:Sto} {ds:List PyData} {k:Nat} {z:Str}
theorem zna:znQ S (.d (.tuple ds))=some ds.length:=rfl
theorem zm6:znQ S (.d (.list ds))=some ds.length:=rfl
theorem zmP:znQ S (.l k)=(S[k]?).map List.length:=rfl
end
def zre(neg:Bool):R2:=fun x y H Q=>∃ d e ds,Has H d x/\Has H e y/\SeqAt.shaped d=true/\SeqAt.shaped (.list ds)=true/\(e=.list ds\/e=.tuple ds)/\Q (.bl (if neg then !ds.any (fun y=>PyData.eqv y d) else ds.any (fun y=>PyData.eqv y d))) H
theorem zen{ds:List PyData}(h:SeqAt.shaped (.list ds)=true):PyData.canLayAll0 ds=true/\PyData.depthAll ds<=63:=by
 have h1:=SeqAt.canLay_of_shaped h;have h2:=SeqAt.depth_of_shaped h;simp only [PyData.canLay0,PyData.depth] at h1 h2;exact⟨h1,by omega⟩
theorem zqG{X:Cx}(hu:X.A.units+64<cLine):OpR X (compareOp .In) (zre false):=by
 intro zh s σ H x y v u Q I rx ry h;obtain⟨d,e,ds,hd,he,sd,se,ee,q⟩:=h;obtain⟨s1,s2⟩:=zen se;obtain⟨as,q1⟩:=Has.reads I d x v hd (SeqAt.canLay_of_shaped sd) rx;have hm:X.A.units+1+min (PyData.depthAll ds) d.depth<cLine:=by
  have:=Nat.min_le_left (PyData.depthAll ds) d.depth;omega
 rcases ee with rfl | rfl
 ·obtain⟨bs,q2⟩:=Has.reads I (.list ds) y u he (by simpa only [PyData.canLay0] using s1) ry;exact SeqAt.in_list_reads q2 q1 s1 (SeqAt.canLay_of_shaped sd) hm ⟨.bl _,H,I,rfl,q⟩
 ·obtain⟨bs,q2⟩:=Has.reads I (.tuple ds) y u he (by simpa only [PyData.canLay0] using s1) ry;exact SeqAt.in_tuple_reads q2 q1 s1 (SeqAt.canLay_of_shaped sd) hm ⟨.bl _,H,I,rfl,q⟩
theorem zkG{X:Cx}(hu:X.A.units+64<cLine):OpR X (compareOp .NotIn) (zre true):=by
 intro zh s σ H x y v u Q I rx ry h;obtain⟨d,e,ds,hd,he,sd,se,ee,q⟩:=h;obtain⟨s1,s2⟩:=zen se;obtain⟨as,q1⟩:=Has.reads I d x v hd (SeqAt.canLay_of_shaped sd) rx;have hm:X.A.units+1+min (PyData.depthAll ds) d.depth<cLine:=by
  have:=Nat.min_le_left (PyData.depthAll ds) d.depth;omega
 rcases ee with rfl | rfl
 ·obtain⟨bs,q2⟩:=Has.reads I (.list ds) y u he (by simpa only [PyData.canLay0] using s1) ry;exact SeqAt.notIn_list_reads q2 q1 s1 (SeqAt.canLay_of_shaped sd) hm ⟨.bl _,H,I,rfl,q⟩
 ·obtain⟨bs,q2⟩:=Has.reads I (.tuple ds) y u he (by simpa only [PyData.canLay0] using s1) ry;exact SeqAt.notIn_tuple_reads q2 q1 s1 (SeqAt.canLay_of_shaped sd) hm ⟨.bl _,H,I,rfl,q⟩
def zr5:R2:=fun x y H Q=>zre false x y H Q\/∃ i j,x=.str i/\y=.str j/\Q (.bl (!(Builtin.Str.occurrences j i 0 j.length 1).isEmpty)) H
theorem zmO{X:Cx}(hu:X.A.units+64<cLine):OpR X (compareOp .In) zr5:=(zqG hu).or zlL
def zkk:R2:=fun x y H Q=>zre true x y H Q\/∃ i j,x=.str i/\y=.str j/\Q (.bl (!(!(Builtin.Str.occurrences j i 0 j.length 1).isEmpty))) H
theorem zgS{X:Cx}(hu:X.A.units+64<cLine):OpR X (compareOp .NotIn) zkk:=(zkG hu).or zg3
def dIn:D2:=fun x y S R=>match y with
 | .d (.str b)=>asS x fun a=>R (.d (.bool (!(Builtin.Str.occurrences b a 0 b.length 1).isEmpty))) S
 | y=>∃ d,zcJ S x=some d/\∃ ds,asQ S y=some ds/\SeqAt.shaped d=true/\SeqAt.shaped (.list ds)=true/\R (.d (.bool (ds.any fun y=>PyData.eqv y d))) S
def zf3:D2:=fun x y S R=>match y with
 | .d (.str b)=>asS x fun a=>R (.d (.bool (!(!(Builtin.Str.occurrences b a 0 b.length 1).isEmpty)))) S
 | y=>∃ d,zcJ S x=some d/\∃ ds,asQ S y=some ds/\SeqAt.shaped d=true/\SeqAt.shaped (.list ds)=true/\R (.d (.bool (!ds.any fun y=>PyData.eqv y d))) S
theorem zkn{h o:List Addr}{H:Hp}{S:Sto}{x:XV}{v:V}{ds:List PyData}(hs:RepS h o H S)(e:asQ S x=some ds)(q:HasX h o H x v):∃ e,Has H e v/\(e=.list ds\/e=.tuple ds):=by
 unfold asQ at e;split at e
 ·cases e; exact⟨_,zbx (x:=.d _) hs rfl q,.inr rfl⟩
 ·cases e; exact⟨_,zbx (x:=.d _) hs rfl q,.inl rfl⟩
 ·rename_i k;exact⟨.list ds,zbx (x:=.l k) hs (by show (S[k]?).map PyData.list=_; rw [e]; rfl) q,.inl rfl⟩
 ·cases e
theorem zqQ:RO zr5 dIn:=fun h o H S x y v u R Q hs hx hy q c=>by
 unfold dIn at q;split at q
 ·replace q:=zb4 q;obtain⟨a,rfl,q⟩:=q;exact .inr ⟨_,_,zaQ hx,zaQ hy,c o H S _ _ Ex.refl hs (xB _) q⟩
 ·obtain⟨d,e1,ds,e2,s1,s2,q⟩:=q;obtain⟨e,he,ee⟩:=zkn hs e2 hy;exact .inl ⟨d,e,ds,zbx hs e1 hx,he,s1,s2,ee,c o H S _ _ Ex.refl hs (xB _) q⟩
theorem ziP:RO zkk zf3:=fun h o H S x y v u R Q hs hx hy q c=>by
 unfold zf3 at q;split at q
 ·replace q:=zb4 q;obtain⟨a,rfl,q⟩:=q;exact .inr ⟨_,_,zaQ hx,zaQ hy,c o H S _ _ Ex.refl hs (xB _) q⟩
 ·obtain⟨d,e1,ds,e2,s1,s2,q⟩:=q;obtain⟨e,he,ee⟩:=zkn hs e2 hy;exact .inl ⟨d,e,ds,zbx hs e1 hx,he,s1,s2,ee,c o H S _ _ Ex.refl hs (xB _) q⟩
section
variable {S:Sto} {ds:List PyData} {k:Nat} {a b:Str} {x:XV} {R:RX}
theorem zqt:dIn (.d (.str a)) (.d (.str b)) S R=R (.d (.bool (!(Builtin.Str.occurrences b a 0 b.length 1).isEmpty))) S:=rfl
theorem ziR:zf3 x (.d (.tuple ds)) S R↔∃ d,zcJ S x=some d/\SeqAt.shaped d=true/\SeqAt.shaped (.list ds)=true/\R (.d (.bool (!ds.any fun y=>PyData.eqv y d))) S:=⟨fun⟨d,e,_,e',q⟩=>by cases e'; exact⟨d,e,q⟩,fun⟨d,e,q⟩=>⟨d,e,_,rfl,q⟩⟩
theorem zil:zf3 x (.d (.list ds)) S R↔∃ d,zcJ S x=some d/\SeqAt.shaped d=true/\SeqAt.shaped (.list ds)=true/\R (.d (.bool (!ds.any fun y=>PyData.eqv y d))) S:=⟨fun⟨d,e,_,e',q⟩=>by cases e'; exact⟨d,e,q⟩,fun⟨d,e,q⟩=>⟨d,e,_,rfl,q⟩⟩
end
section
variable {X:Cx} {elts:List Expr} {n:Nat} {tpos:Pos}
def znv(K:W.Frag)(ta:TA):TI:=fun σ H R=>ta σ H fun vs H1=>∃ a,vs=[.ref a]/\(((∃ xs,SqT K H1 a xs)/\R (Ite (SqT K) a) H1)\/((∃ xs,SqL K H1 a xs)/\R (Ite (SqL K) a) H1))
theorem zml{a:Expr}{ta:TA}{p pos:Pos}(hg:Gl X "enumerate")(hm:X.mg "enumerate" = none)(ha:PA X [a] ta)(hs:starEach [a] X.env=[(false,eval a X.env)]:=by rfl):PI X (.Tuple elts n tpos) (.Call (.Name "enumerate" p) [a] [] pos) (znv X.K ta):=by
 intro zh s σ H R I h;refine Call_ (zdP I hg hm zdq (PyProof.Rows.callWith_type1 (thn (ha pos zh s σ H _ I h) fun us s1 ⟨vs,H1,I1,r1,q1⟩=>?_) hs rfl));obtain⟨b,e,⟨⟨xs,hq⟩,q⟩ | ⟨⟨xs,hq⟩,q⟩⟩:=q1
 ·subst e;cases r1 with
  | cons r rr =>
   cases rr;cases r;obtain⟨its,rv,pl,hz⟩:=I1.tuple hq;refine zgk (show s1.heap.IsTuple b its.toArray from pl) fun g he hj k=>?_;refine wpAny_pyIter_enum (s:={ s1 with heap:=g }) he ?_
   have I2:Inv X zh σ H1 { s1 with heap:=g }:=I1.kept (t':=s1.toks) k;refine⟨s1.heap.objs.size+1,[s1.heap.objs.size+1,s1.heap.objs.size],_,_,H1,rfl,I2,zjr b _ _ (succ_ne_self _),⟨⟨_,he⟩,hj⟩,fun c hc=>?_,q⟩;rcases mem_cons.mp hc with rfl | hc
   ·exact I1.fpOk (le_succ _) (I1.hok.fresh (le_succ _))
   ·rw [mem_singleton.mp hc];exact I1.fpOk (le_refl _) (I1.hok.fresh (le_refl _))
 ·subst e;cases r1 with
  | cons r rr =>
   cases rr;cases r;obtain⟨its,rv,pl,hz⟩:=I1.list hq;refine call_enumerate_list pl.isList fun g he hj _ k=>?_;refine wpAny_pyIter_enum (s:={ s1 with heap:=g }) he ?_
   have I2:Inv X zh σ H1 { s1 with heap:=g }:=I1.kept (t':=s1.toks) k;refine⟨s1.heap.objs.size+1,[s1.heap.objs.size+1,s1.heap.objs.size],_,_,H1,rfl,I2,zjK b _ _ (succ_ne_self _),⟨⟨_,he⟩,hj⟩,fun c hc=>?_,q⟩;rcases mem_cons.mp hc with rfl | hc
   ·exact I1.fpOk (le_succ _) (I1.hok.fresh (le_succ _))
   ·rw [mem_singleton.mp hc];exact I1.fpOk (le_refl _) (I1.hok.fresh (le_refl _))
end
def zgx(a:DA):DI:=fun δ S R=>a δ S fun xs S1=>arg1 xs fun x=>∃ ds,zh9 x=some ds/\R (zfP 0 ds) S1
theorem zmg{K:W.Frag}{ta:TA}{da:DA}(ha:RA ta da):RI (znv K ta) (zgx da):=fun h o H δ σ S R Q he hs q c =>
 ha h o H δ σ S _ _ he hs q fun o1 H1 S1 xs vs e1 s1 x1 d0=>by
  obtain⟨x,rfl,ds,hd,d1⟩:=zas d0;obtain⟨v,rfl,hv⟩:=hxs1 x1;have core:∀ {Sq:Hp->Addr->List V->Prop} {a:Addr} {ws:List V},(∀ {o2 H2},ExH h o1 H1 o2 H2->Sq H2 a ws)->HasL (vx h o1 H1) ds ws->WalkX h o1 H1 (Ite Sq a) (zfP 0 ds):=by
   intro Sq a ws ea' l;have hl:=l.length;refine⟨fun i o2 H2 e2 hi=>⟨ws,ea' e2,by rw [zb2] at hi; omega⟩,fun i d o2 H2 e2 hi=>?_,fun i d o2 H2 x H3 S2 e2 s2 hi y=>?_⟩
   ·obtain⟨e,h1,rfl⟩:=zbR ds 0 i d hi;obtain⟨u,eu,_⟩:=l.get h1;exact⟨ws,u,ea' e2,eu⟩
   ·obtain⟨e,h1,rfl⟩:=zbR ds 0 i d hi;obtain⟨u,eu,hu⟩:=l.get h1;obtain⟨p,v,hp,rfl,rfl,hy⟩:=y;have ev:=hy ws (ea' e2);rw [eu] at ev;cases ev;refine⟨Same.laid hp,zai.mpr ⟨p,_,rfl,s2.laid hp,zu.mpr ⟨_,_,rfl,?_,zu.mpr ⟨_,_,rfl,(hu.mono e2.vx).mono (zc6 (Same.laid hp)),zw.mpr rfl⟩⟩⟩⟩;rw [zero_add];exact zbV.mpr rfl
  unfold zh9 at hd;split at hd
  ·cases hd;obtain⟨a,ws,rfl,ea,l⟩:=zaN.mp (show Has (vx h o1 H1) (.list ds) v from hv);exact⟨a,rfl,.inr ⟨⟨ws,.of (zah _ _ ea)⟩,c o1 H1 S1 _ _ e1 s1 (core (fun e2=>.of (zah _ _ (e2.vx _ _ ea))) l) d1⟩⟩
  ·cases hd;obtain⟨a,ws,rfl,ea,l⟩:=zai.mp (show Has (vx h o1 H1) (.tuple ds) v from hv);exact⟨a,rfl,.inl ⟨⟨ws,.of (zah _ _ ea)⟩,c o1 H1 S1 _ _ e1 s1 (core (fun e2=>.of (zah _ _ (e2.vx _ _ ea))) l) d1⟩⟩
  ·cases hd
def zsf:XV->List XV->Sto->RX->Prop:=fun x xs S R=>∃ k,x=.l k/\∃ ds,S[k]? = some ds/\xs=[]/\∃ d,ds[ds.length - 1]? = some d/\R (.d d) (S.set k ds.dropLast)
def zjB(rd:XV->List XV->Sto->RX->Prop)(e:DE)(a:DA):DE:=fun δ S R=>e δ S fun x S1=>∃ z,x=.d (.str z)/\a δ S1 fun xs S2=>rd x xs S2 R
theorem zex{K:W.Frag}{r:V->List V->Hp->VK->Prop}{rd:XV->List XV->Sto->RX->Prop}{te:TE}{de:DE}{tl:TA}{dl:DA}(hr:RM r rd)(he':RE te de)(ha:RA tl dl):RE (tBM K "str" r te tl) (zjB rd de dl):=fun h o H δ σ S R Q he hs q c =>
 he' h o H δ σ S _ _ he hs q fun o1 H1 S1 x v e1 s1 x1 ⟨z,ez,d1⟩=>by
  subst ez;cases zaQ x1;exact⟨rfl,ha h o1 H1 δ σ S1 _ _ (he.mono e1) s1 d1 fun o2 H2 S2 xs vs e2 s2 x2 d2=>hr h o2 H2 S2 (.d (.str z)) _ xs vs R Q s2 (HasX.mono (x:=.d (.str z)) e2 x1) x2 d2 (c.pre (e1.trans e2))⟩
theorem zfZ{H:Hp}:∀ {ns:List Str} {vs:List V},HasL H (ns.map PyData.str) vs->vs=ns.map V.str
 | [],vs,h=>zw.mp h
 | n :: ns,vs,h=>by
  obtain⟨v,r,rfl,h1,h2⟩:=zu.mp h;rw [zbP.mp h1,zfZ h2];rfl
def zfU:XV->List XV->Sto->RX->Prop:=fun x xs S R=>asS x fun z=>arg1 xs fun y=>∃ ds,zjC S y=some ds/\∃ zs:List Str,ds=zs.map PyData.str/\z.length<=16/\zs.length<=1000/\(∀ y∈zs,y.length<=1000)/\R (.d (.str (PySem.Txt.join z zs))) S
theorem zd8{K:W.Frag}:RM (zpa K) zfU:=fun h o H S x v xs vs R Q hs hx hxs q c=>by
 replace q:=zb4 q;obtain⟨z,rfl,q⟩:=q;obtain⟨y,rfl,ds,e,zs,rfl,h1,h2,h3,q1⟩:=zas q;obtain⟨u,rfl,hu⟩:=hxs1 hxs;obtain⟨a,ws,rfl,ea,l⟩:=zba hs e hu;rw [zfZ l] at ea;exact⟨z,a,zs,zaQ hx,rfl,.of ea,h1,h2,h3,c o H S _ _ Ex.refl hs (xS _) q1⟩
def zmr:D2:=fun x y S R=>asL S x fun ds=>asL S y fun es=>ds.length+es.length<=1000/\R (.l S.length) (S++[ds++es])
theorem znZ:RO zo5 zmr:=fun h o H S x y v u R Q hs hx hy q c=>by
 obtain⟨ds,e0,es,e1,hl,q⟩:=q;obtain⟨a,vs,rfl,ea,la⟩:=zba hs e0 hx;obtain⟨b,us,rfl,eb,lb⟩:=zba hs e1 hy;exact⟨a,b,vs,us,rfl,rfl,ea,eb,by rw [la.length,lb.length]; exact le_of_lt (small1000 hl),zqw hs (la.append lb) c q⟩
def zj9:V->List V->Hp->VK->Prop:=fun x vs H Q=>∃ (d:PyData) (ds:List PyData) (j:Nat),Has H (.list ds) x/\(∃ v,vs=[v]/\Has H d v)/\SeqAt.shaped d=true/\SeqAt.shaped (.list ds)=true/\ds.length<=1000/\(∃ e,ds[j]? = some e/\PyData.eqv e d=true)/\(∀ m e,m<j->ds[m]? = some e->PyData.eqv e d=false)/\Q (.int j) H
theorem zkt{X:Cx}(hu:X.A.units+64<cLine):MtR X "list.index" zj9:=by
 intro zh s σ H x vs v us Q I rx rv h;obtain⟨d,ds,j,hl,⟨y,rfl,hy⟩,sd,se,h1000,⟨e,ej,he⟩,hno,q⟩:=h;obtain⟨s1,s2⟩:=zen se;obtain⟨u,rfl,r1⟩:=rv.one;obtain⟨as,q1⟩:=Has.reads I d y u hy (SeqAt.canLay_of_shaped sd) r1;obtain⟨bs,q2⟩:=Has.reads I (.list ds) x v hl (by simpa only [PyData.canLay0] using s1) rx;have hm:X.A.units+1+min (PyData.depthAll ds) d.depth<cLine:=by
  have:=Nat.min_le_left (PyData.depthAll ds) d.depth;omega
 cases q2 with
 | @list l o vs n xs as₁ h1 h2 h3 h4 =>
  have hn:vs.size=ds.length:=by simpa using SeqAt.ReadsAll.length _ _ _ h4
  have hmap:=SeqAt.readsAll_map _ _ _ s1 h4;have hget:∀ (m:Nat) (hm:m<vs.size) e,ds[m]? = some e->SeqAt.readOf s.heap vs[m]=e:=fun m hm e h=>by
   rw [<- hmap,getElem?_map] at h;have:vs.toList[m]? = some vs[m]:=by simp [hm]
   rw [this] at h;exact Option.some.inj h
  have hj:j<vs.size:=by rw [hn]; exact(List.getElem?_eq_some_iff.mp ej).1
  obtain⟨cls,dd,data,sl⟩:=o;simp only at h2 h3;subst h2 h3;refine call_meets PySem.F.slot_list_index ⟨_,h1,rfl⟩ PySem.F.entry_list_index (PySem.F.args_list_index_2 _ _)
   (SeqAt.list_indexAt l vs n dd sl u (fun y=>PyData.eqv (SeqAt.readOf s.heap y) d) j hj (by omega) ?_ ?_) ⟨h1,SeqAt.items_eqAt h4 q1 s1 (SeqAt.canLay_of_shaped sd) hm,⟨.int j,H,I.tok _,⟨_,rfl⟩,q⟩⟩
  ·show PyData.eqv (SeqAt.readOf s.heap vs[j]) d=true;rw [hget j hj e ej]; exact he
  ·intro m hm hlt;show PyData.eqv (SeqAt.readOf s.heap vs[m]) d=false;have em:ds[m]? = some ds[m]:=getElem?_eq_getElem (by omega);rw [hget m hm _ em]; exact hno m _ hlt em
def ziC:XV->List XV->Sto->RX->Prop:=fun x xs S R=>arg1 xs fun y=>∃ d,zcJ S y=some d/\∃ ds,zjC S x=some ds/\SeqAt.shaped d=true/\SeqAt.shaped (.list ds)=true/\ds.length<=1000/\∃ j,(∃ e,ds[j]? = some e/\PyData.eqv e d=true)/\(∀ m e,m<j->ds[m]? = some e->PyData.eqv e d=false)/\R (.d (.int (j:Nat))) S
theorem zlr:RM zj9 ziC:=fun h o H S x v xs vs R Q hs hx hxs q c=>by
 obtain⟨y,rfl,d,e1,ds,e2,s1,s2,h1,j,h2,h3,q1⟩:=zas q;obtain⟨u,rfl,hu⟩:=hxs1 hxs;have hl:Has H (.list ds) v:=zbx (x:=x) hs (by
  unfold zjC at e2;split at e2
  ·cases e2; rfl
  ·rename_i k; show (S[k]?).map PyData.list=_; rw [e2]; rfl
  ·cases e2) hx
 exact⟨d,ds,j,hl,⟨u,rfl,zbx hs e1 hu⟩,s1,s2,h1,h2,h3,c o H S _ _ Ex.refl hs (xI _) q1⟩
def zq5(rd:XV->List XV->Sto->RX->Prop)(e:DE)(a:DA):DE:=fun δ S R=>e δ S fun x S1=>∃ ds,zjC S1 x=some ds/\a δ S1 fun xs S2=>rd x xs S2 R
theorem zpS{K:W.Frag}{r:V->List V->Hp->VK->Prop}{rd:XV->List XV->Sto->RX->Prop}{te:TE}{de:DE}{tl:TA}{dl:DA}(hr:RM r rd)(he':RE te de)(ha:RA tl dl):RE (tBM K "list" r te tl) (zq5 rd de dl):=fun h o H δ σ S R Q he hs q c =>
 he' h o H δ σ S _ _ he hs q fun o1 H1 S1 x v e1 s1 x1 ⟨ds,ez,d1⟩=>by
  obtain⟨a,ws,rfl,ea,_⟩:=zba s1 ez x1;exact⟨zgu ea,ha h o1 H1 δ σ S1 _ _ (he.mono e1) s1 d1 fun o2 H2 S2 xs vs e2 s2 x2 d2=>hr h o2 H2 S2 x _ xs vs R Q s2 (x1.mono e2) x2 d2 (c.pre (e1.trans e2))⟩
abbrev zsq (a:Addr) (m:Nat):DEnds:={ nx:=fun δ _=>δ[0]? = some (some (.o (.ref a)))/\δ.length=m+1,ct:=fun δ _=>δ[0]? = some (some (.o (.ref a)))/\δ.length=m+1,rt:=fun _ _=>False }
end
section
open Sem (wp)
def ItK(t:Bool)(h:Heap)(j a:Addr)(k:Nat):Prop:=match t with
 | true=>h.IsTupleIter j a k
 | false=>h.IsListIter j a k
def SqK(t:Bool)(h:Heap)(a:Addr)(xs:Array Value):Prop:=match t with
 | true=>h.IsTuple a xs
 | false=>h.IsList a xs
theorem ItK.at{t:Bool}{h g:Heap}{j a:Addr}{k:Nat}(q:ItK t h j a k)(f:∀ o,h.get? j=some o->g.get? j=some o):ItK t g j a k:=by
 cases t
 ·exact Heap.IsListIter.at (show h.IsListIter j a k from q) f
 ·exact Heap.IsTupleIter.at (show h.IsTupleIter j a k from q) f
theorem ItK.here{t:Bool}{h:Heap}{j a:Addr}{k:Nat}(q:ItK t h j a k):∃ o,h.get? j=some o/\∀ v,o.data≠.cell v:=by
 cases t <;> (obtain⟨o,e,c,d⟩:=q; exact⟨o,e,fun v z=>by rw [d] at z; cases z⟩)
theorem SqK.at{t:Bool}{h g:Heap}{a:Addr}{xs:Array Value}(q:SqK t h a xs)(f:∀ o,h.get? a=some o->g.get? a=some o):SqK t g a xs:=by
 cases t <;> (obtain⟨o,e,r⟩:=q; exact⟨o,f o e,r⟩)
theorem SqK.here{t:Bool}{h:Heap}{a:Addr}{xs:Array Value}(q:SqK t h a xs):∃ o,h.get? a=some o:=by
 cases t <;> (obtain⟨o,e,r⟩:=q; exact⟨o,e⟩)
section
variable {prog:Program} {w:World} {A:Around} {E:Value->Shared->Prop} {s:Shared}
theorem zjI{t:Bool}{j a:Addr}{k:Nat}{xs:Array Value}{x:Value}{Q:Value->Shared->Prop}(hj:ItK t s.heap j a k)(ha:SqK t s.heap a xs)(hx:xs[k]? = some x)
  (hQ:∀ g,ItK t g j a (k+1)->Heap.SameBut j s.heap g->Q x { s with heap:=g }):wpAny (model prog w) A (Builtin.SmallTypes.nextOf (.ref j)) Q E s:=by
 cases t
 ·exact wpAny_nextOf_list_item hj ha hx hQ
 ·exact zf1 hj ha hx hQ
theorem zdW{t:Bool}{j a:Addr}{k:Nat}{xs:Array Value}{Q:Value->Shared->Prop}(hh:A.handled=none)(hj:ItK t s.heap j a k)(ha:SqK t s.heap a xs)(hx:xs[k]? = none)
  (hE:∀ g e,Heap.ExtBut j s.heap g->(∃ o,g.get? e=some o/\o.cls=.type "StopIteration")->E (.ref e) { s with heap:=g }):wpAny (model prog w) A (Builtin.SmallTypes.nextOf (.ref j)) Q E s:=by
 cases t
 ·exact wpAny_nextOf_list_end hh hj ha hx hE
 ·exact zdl hh hj ha hx hE
theorem zq0{t:Bool}{a:Addr}{xs:Array Value}{Q:Value->Shared->Prop}(ha:SqK t s.heap a xs)(hQ:Q (.ref s.heap.objs.size) { s with heap:=s.heap.push { cls:=.type (if t then "tuple_iterator" else "list_iterator"),data:=.fields #[.ref a,.int 0 0] } }):wpAny (model prog w) A (pyIter (.ref a)) Q E s:=by
 cases t
 ·exact wpAny_pyIter_list ha hQ
 ·exact wpAny_pyIter_tuple ha hQ
theorem zky{T:Addr}{c d x:Value}{k:Nat}{Q:Unit->Shared->Prop}(hT:IsPair s.heap T c d)(hQ:∀ g,g.get? T=some { cls:=.type "tuple",data:=.seq ((#[c,d]:Array Value).setIfInBounds k x) }->Heap.SameBut T s.heap g->Q () { s with heap:=g }):
  wpAny (model prog w) A (updateSeq T (·.setIfInBounds k x)) Q E s:=wpAny_updateSeq_pair hT hQ
structure ZAp(z p r i j a b:Addr):Prop where
 pz:p≠z
 rz:r≠z
 iz:i≠z
 jz:j≠z
 pr:p≠r
 pi:p≠i
 pj:p≠j
 ri:r≠i
 rj:r≠j
 ij:i≠j
 az:a≠z
 ar:a≠r
 ai:a≠i
 aj:a≠j
 bz:b≠z
 br:b≠r
 bi:b≠i
 bj:b≠j
theorem zhe{t u:Bool}{z p r i j a b:Addr}{k m:Nat}{xs ys:Array Value}{x y c d:Value}{Q:Value->Shared->Prop}(D:ZAp z p r i j a b)(hz:IsZip s.heap z p r .none)(hp:IsPair s.heap p (.ref i) (.ref j))(hr:IsPair s.heap r c d)
  (hi:ItK t s.heap i a k) (hj:ItK u s.heap j b m) (ha:SqK t s.heap a xs) (hb:SqK u s.heap b ys) (hx:xs[k]? = some x) (hy:ys[m]? = some y)
  (hQ:∀ g,IsZip g z p r (rawInt s.heap.objs.size)->IsPair g r x y->ItK t g i a (k+1)->ItK u g j b (m+1)->IsPair g s.heap.objs.size x y ->
   (∀ q o,q≠z->q≠r->q≠i->q≠j->s.heap.get? q=some o->g.get? q=some o)->Q (.ref s.heap.objs.size) { s with heap:=g }) :
  wpAny (model prog w) A (Builtin.«zip.__next__» ⟨[.ref z],[]⟩) (fun fn s'=>∃ v,fn=.done (.ret v)/\Q v s') E s:=by
 obtain⟨h0,gs,dr,tk,os⟩:=s;show wpAny _ _ (field (.ref z) 2 >>= _) _ _ ⟨h0,gs,dr,tk,os⟩;refine wpAny_bind (wpAny_field hz rfl (x:=.bool false) rfl ?_);show wpAny _ _ (field (.ref z) 3 >>= _) _ _ ⟨h0,gs,dr,tk,os⟩;refine wpAny_bind (wpAny_field hz rfl (x:=.ref p) rfl (wpAny_bind (wpAny_seqItems hp rfl ?_)));show wpAny _ _ (Builtin.SmallTypes.ownedTupleIsFree (.ref z) >>= _) _ _ ⟨h0,gs,dr,tk,os⟩;refine wpAny_bind ?_;unfold Builtin.SmallTypes.ownedTupleIsFree;refine wpAny_bind (wpAny_field hz rfl (x:=.none) rfl (wpAny_pure ?_));simp only [if_true];refine wpAny_bind (wpAny_rule (wpAny_bind (wpAny_field hz rfl (x:=.ref r) rfl (wpAny_bind (wpAny_setField_rec hz (by simp) fun g1 z1 b1=>?_)))));replace z1:IsZip g1 z p r .ellipsis:=z1;replace b1:Heap.SameBut z h0 g1:=b1;refine wpAny_bind ?_;simp only [List.zipIdx_cons,List.zipIdx_nil,forIn_cons,forIn_nil];refine wpAny_bind (wpAny_bind (wpAny_onRaise ?_));show wpAny _ _ (Builtin.SmallTypes.nextOf (.ref i) >>= _) _ _ ⟨g1,gs,dr,tk,os⟩;refine wpAny_bind (zjI (s:=⟨g1,gs,dr,tk,os⟩) (hi.at fun o e=>b1.extBut i o D.iz e) (ha.at fun o e=>b1.extBut a o D.az e) hx fun g2 i2 b2=>wpAny_pure ?_);replace b2:Heap.SameBut i g1 g2:=b2;have r2:IsPair g2 r c d:=b2.extBut r _ D.ri (b1.extBut r _ D.rz hr);refine wpAny_bind (wpAny_seqItems (s:=⟨g2,gs,dr,tk,os⟩) r2 rfl (wpAny_bind (zky (s:=⟨g2,gs,dr,tk,os⟩) r2 fun g3 r3 b3=>?_)));replace r3:IsPair g3 r x d:=r3;replace b3:Heap.SameBut r g2 g3:=b3;refine wpAny_bind (wpAny_letGo (wpAny_pure (wpAny_bind (wpAny_bind (wpAny_onRaise ?_)))));show wpAny _ _ (Builtin.SmallTypes.nextOf (.ref j) >>= _) _ _ ⟨g3,gs,dr,tk,os⟩;have k13:∀ q o,q≠z->q≠r->q≠i->h0.get? q=some o->g3.get? q=some o:=fun q o n1 n2 n3 e=>b3.extBut q o n2 (b2.extBut q o n3 (b1.extBut q o n1 e));refine wpAny_bind (zjI (s:=⟨g3,gs,dr,tk,os⟩) (hj.at fun o e=>k13 j o D.jz (Ne.symm D.rj) (Ne.symm D.ij) e) (hb.at fun o e=>k13 b o D.bz D.br D.bi e) hy fun g4 j4 b4=>wpAny_pure ?_);replace b4:Heap.SameBut j g3 g4:=b4;have r4:IsPair g4 r x d:=b4.extBut r _ D.rj r3;refine wpAny_bind (wpAny_seqItems (s:=⟨g4,gs,dr,tk,os⟩) r4 rfl (wpAny_bind (zky (s:=⟨g4,gs,dr,tk,os⟩) r4 fun g5 r5 b5=>?_)));replace r5:IsPair g5 r x y:=r5;replace b5:Heap.SameBut r g4 g5:=b5;refine wpAny_bind (wpAny_letGo (wpAny_pure (wpAny_pure (wpAny_bind (wpAny_seqItems (s:=⟨g5,gs,dr,tk,os⟩) r5 rfl (wpAny_bind (wpAny_newTuple ?_)))))));have sz:g5.objs.size=h0.objs.size:=by rw [b5.1,b4.1,b3.1,b2.1,b1.1]
 have z5:IsZip g5 z p r .ellipsis:=b5.extBut z _ (Ne.symm D.rz) (b4.extBut z _ (Ne.symm D.jz) (b3.extBut z _ (Ne.symm D.rz) (b2.extBut z _ (Ne.symm D.iz) z1)));have k5:∀ q o,q≠z->q≠r->q≠i->q≠j->h0.get? q=some o->g5.get? q=some o:=fun q o n1 n2 n3 n4 e=>b5.extBut q o n2 (b4.extBut q o n4 (k13 q o n1 n2 n3 e));have i5:ItK t g5 i a (k+1):=ItK.at i2 fun o e=>b5.extBut i o (Ne.symm D.ri) (b4.extBut i o D.ij (b3.extBut i o (Ne.symm D.ri) e));have j5:ItK u g5 j b (m+1):=ItK.at j4 fun o e=>b5.extBut j o (Ne.symm D.rj) e;have zl:z<g5.objs.size:=lt_size z5;show wpAny _ _ (Builtin.SmallTypes.ownedTupleHandOut (.ref z) (.ref g5.objs.size) >>= _) _ _ _;refine wpAny_bind ?_;unfold Builtin.SmallTypes.ownedTupleHandOut;have z6:IsZip (g5.push { cls:=.type "tuple",data:=.seq #[x,y] }) z p r .ellipsis:=get?_push_of_some _ z5;refine wpAny_bind (wpAny_setField_rec z6 (by simp) fun g7 z7 b7=>?_);replace z7:IsZip g7 z p r (rawInt g5.objs.size):=z7;replace b7:Heap.SameBut z (g5.push { cls:=.type "tuple",data:=.seq #[x,y] }) g7:=b7;refine wpAny_setField_rec z7 (by simp) fun g8 z8 b8=>?_;replace z8:IsZip g8 z p r (rawInt g5.objs.size):=z8;replace b8:Heap.SameBut z g7 g8:=b8;have up:∀ q o,q≠z->g5.get? q=some o->g8.get? q=some o:=fun q o n e=>b8.extBut q o n (b7.extBut q o n (get?_push_of_some _ e));have t8:IsPair g8 g5.objs.size x y:=b8.extBut _ _ (ne_of_gt zl) (b7.extBut _ _ (ne_of_gt zl) (get?_push_size _ rfl));rw [sz] at z8 t8;refine wpAny_pure ⟨_,rfl,?_⟩;show Q (.ref g5.objs.size) _;rw [sz];exact hQ g8 z8 (up r _ D.rz r5) (i5.at fun o e=>up i o D.iz e) (j5.at fun o e=>up j o D.jz e) t8 fun q o n1 n2 n3 n4 e=>up q o n1 (k5 q o n1 n2 n3 n4 e)
theorem zho{t u:Bool}{z p r i j a b:Addr}{k m:Nat}{xs ys:Array Value}{c d:Value}{Q:Fin->Shared->Prop}(hh:A.handled=none)(D:ZAp z p r i j a b)(hz:IsZip s.heap z p r .none)(hp:IsPair s.heap p (.ref i) (.ref j))(hr:IsPair s.heap r c d)
  (hi:ItK t s.heap i a k) (hj:ItK u s.heap j b m) (ha:SqK t s.heap a xs) (hb:SqK u s.heap b ys) (hend:xs[k]? = none\/ys[m]? = none)
  (hE:∀ g e,(∀ q o,q≠z->q≠r->q≠i->q≠j->s.heap.get? q=some o->g.get? q=some o)->(∃ o,g.get? e=some o/\o.cls=.type "StopIteration")->E (.ref e) { s with heap:=g }) :
  wpAny (model prog w) A (Builtin.«zip.__next__» ⟨[.ref z],[]⟩) Q E s:=by
 obtain⟨h0,gs,dr,tk,os⟩:=s;show wpAny _ _ (field (.ref z) 2 >>= _) _ _ ⟨h0,gs,dr,tk,os⟩;refine wpAny_bind (wpAny_field hz rfl (x:=.bool false) rfl ?_);show wpAny _ _ (field (.ref z) 3 >>= _) _ _ ⟨h0,gs,dr,tk,os⟩;refine wpAny_bind (wpAny_field hz rfl (x:=.ref p) rfl (wpAny_bind (wpAny_seqItems hp rfl ?_)));show wpAny _ _ (Builtin.SmallTypes.ownedTupleIsFree (.ref z) >>= _) _ _ ⟨h0,gs,dr,tk,os⟩;refine wpAny_bind ?_;unfold Builtin.SmallTypes.ownedTupleIsFree;refine wpAny_bind (wpAny_field hz rfl (x:=.none) rfl (wpAny_pure ?_));simp only [if_true];refine wpAny_bind (wpAny_rule (wpAny_bind (wpAny_field hz rfl (x:=.ref r) rfl (wpAny_bind (wpAny_setField_rec hz (by simp) fun g1 z1 b1=>?_)))));replace z1:IsZip g1 z p r .ellipsis:=z1;replace b1:Heap.SameBut z h0 g1:=b1;refine wpAny_bind ?_;simp only [List.zipIdx_cons,List.zipIdx_nil,forIn_cons,forIn_nil];refine wpAny_bind (wpAny_bind (wpAny_onRaise ?_));show wpAny _ _ (Builtin.SmallTypes.nextOf (.ref i) >>= _) _ _ ⟨g1,gs,dr,tk,os⟩;have notz:∀ {g:Heap} {e:Addr} {o:Obj},IsZip g z p r .ellipsis->g.get? e=some o->o.cls=.type "StopIteration"->e≠z:=fun h1 h2 h3 w=>by
  subst w;rw [h1] at h2;cases h2;simp at h3
 cases hx:xs[k]? with
 | none =>
  refine wpAny_bind (zdW (s:=⟨g1,gs,dr,tk,os⟩) hh (hi.at fun o e=>b1.extBut i o D.iz e) (ha.at fun o e=>b1.extBut a o D.az e) hx fun g2 e b2 he=>?_);obtain⟨oe,e1,e2⟩:=he;have z2:IsZip g2 z p r .ellipsis:=b2 z _ (Ne.symm D.iz) z1;exact wpAny_setField_rec z2 (by simp) fun g3 _ b3=>hE g3 e (fun q o n1 _ n3 _ w=>b3.extBut q o n1 (b2 q o n3 (b1.extBut q o n1 w))) ⟨oe,b3.extBut e oe (notz z2 e1 e2) e1,e2⟩
 | some x =>
  have hy:ys[m]? = none:=hend.elim (fun w=>by rw [hx] at w; cases w) id;refine wpAny_bind (zjI (s:=⟨g1,gs,dr,tk,os⟩) (hi.at fun o e=>b1.extBut i o D.iz e) (ha.at fun o e=>b1.extBut a o D.az e) hx fun g2 i2 b2=>wpAny_pure ?_);replace b2:Heap.SameBut i g1 g2:=b2;have r2:IsPair g2 r c d:=b2.extBut r _ D.ri (b1.extBut r _ D.rz hr);refine wpAny_bind (wpAny_seqItems (s:=⟨g2,gs,dr,tk,os⟩) r2 rfl (wpAny_bind (zky (s:=⟨g2,gs,dr,tk,os⟩) r2 fun g3 r3 b3=>?_)));replace b3:Heap.SameBut r g2 g3:=b3;refine wpAny_bind (wpAny_letGo (wpAny_pure (wpAny_bind (wpAny_bind (wpAny_onRaise ?_)))));show wpAny _ _ (Builtin.SmallTypes.nextOf (.ref j) >>= _) _ _ ⟨g3,gs,dr,tk,os⟩;have k13:∀ q o,q≠z->q≠r->q≠i->h0.get? q=some o->g3.get? q=some o:=fun q o n1 n2 n3 e=>b3.extBut q o n2 (b2.extBut q o n3 (b1.extBut q o n1 e));refine wpAny_bind (zdW (s:=⟨g3,gs,dr,tk,os⟩) hh (hj.at fun o e=>k13 j o D.jz (Ne.symm D.rj) (Ne.symm D.ij) e) (hb.at fun o e=>k13 b o D.bz D.br D.bi e) hy fun g4 e b4 he=>?_);obtain⟨oe,e1,e2⟩:=he;have z4:IsZip g4 z p r .ellipsis:=b4 z _ (Ne.symm D.jz) (b3.extBut z _ (Ne.symm D.rz) (b2.extBut z _ (Ne.symm D.iz) z1));exact wpAny_setField_rec z4 (by simp) fun g5 _ b5=>hE g5 e (fun q o n1 n2 n3 n4 w=>b5.extBut q o n1 (b4 q o n4 (k13 q o n1 n2 n3 w))) ⟨oe,b5.extBut e oe (notz z4 e1 e2) e1,e2⟩
abbrev zpA (t:Bool) (h:Heap) (a:Addr):Heap:=h.push { cls:=.type (if t then "tuple_iterator" else "list_iterator"),data:=.fields #[.ref a,.int 0 0] }
abbrev zpB (t u:Bool) (h:Heap) (a b:Addr):Heap:=(zpA t h a).push { cls:=.type (if u then "tuple_iterator" else "list_iterator"),data:=.fields #[.ref b,.int 0 0] }
abbrev zpC (t u:Bool) (h:Heap) (a b:Addr):Heap:=(zpB t u h a b).push { cls:=.type "tuple",data:=.seq #[.ref h.objs.size,.ref (zpA t h a).objs.size] }
abbrev zpD (t u:Bool) (h:Heap) (a b:Addr):Heap:=(zpC t u h a b).push { cls:=.type "tuple",data:=.seq #[.none,.none] }
abbrev zpE (t u:Bool) (h:Heap) (a b:Addr):Heap:=(zpD t u h a b).push { cls:=.type "zip",data:=.fields #[.none,.bool false,.bool false,.ref (zpB t u h a b).objs.size,.ref (zpC t u h a b).objs.size] }
theorem zoL(t u:Bool)(a b:Addr)(xs ys:Array Value):Meets (Builtin.«zip.__new__» ⟨[.type "zip",.ref a,.ref b],[]⟩) (fun _ R s=>SqK t s.heap a xs/\SqK u s.heap b ys /\
   ∀ g,IsZip g (s.heap.objs.size+4) (s.heap.objs.size+2) (s.heap.objs.size+3) .none->IsPair g (s.heap.objs.size+2) (.ref s.heap.objs.size) (.ref (s.heap.objs.size+1))->IsPair g (s.heap.objs.size+3) .none .none ->
    ItK t g s.heap.objs.size a 0->ItK u g (s.heap.objs.size+1) b 0->(∀ q o,s.heap.get? q=some o->g.get? q=some o)->R (.ok (.ret (.ref (s.heap.objs.size+4)))) { s with heap:=g }) :=
 .of_wp fun prog w A R s hyp=>by
  obtain⟨g0,gs,dr,tk,os⟩:=s;obtain⟨ha,hb,hyp⟩:=hyp;have sub:=sub_zip;have hA:SqK t (Shared.heap ⟨g0,gs,dr,tk,os⟩) a xs:=ha;have hB:SqK u (Shared.heap ⟨g0.push { cls:=.type (if t then "tuple_iterator" else "list_iterator"),data:=.fields #[.ref a,.int 0 0] },gs,dr,tk,os⟩) b ys:=SqK.at hb fun o e=>get?_push_of_some _ e
  wp_walk using zq0 hA,zq0 hB
  refine⟨_,rfl,?_⟩;have z1:(zpA t g0 a).objs.size=g0.objs.size+1:=size_push ..;have z2:(zpB t u g0 a b).objs.size=g0.objs.size+2:=by rw [size_push,z1]
  have z3:(zpC t u g0 a b).objs.size=g0.objs.size+3:=by rw [size_push,z2]
  have z4:(zpD t u g0 a b).objs.size=g0.objs.size+4:=by rw [size_push,z3]
  have f1:=get?_push_size g0 (o:={ cls:=.type (if t then "tuple_iterator" else "list_iterator"),data:=.fields #[.ref a,.int 0 0] }) (by cases t <;> rfl);have f2:=get?_push_size (zpA t g0 a) (o:={ cls:=.type (if u then "tuple_iterator" else "list_iterator"),data:=.fields #[.ref b,.int 0 0] }) (by cases u <;> rfl);have f3:=get?_push_size (zpB t u g0 a b) (o:={ cls:=.type "tuple",data:=.seq #[.ref g0.objs.size,.ref (zpA t g0 a).objs.size] }) rfl;have f4:=get?_push_size (zpC t u g0 a b) (o:={ cls:=.type "tuple",data:=.seq #[.none,.none] }) rfl;have f5:=get?_push_size (zpD t u g0 a b) (o:={ cls:=.type "zip",data:=.fields #[.none,.bool false,.bool false,.ref (zpB t u g0 a b).objs.size,.ref (zpC t u g0 a b).objs.size] }) rfl;have c1:∀ q o,g0.get? q=some o->(zpA t g0 a).get? q=some o:=fun q o e=>get?_push_of_some _ e;have c2:∀ q o,(zpA t g0 a).get? q=some o->(zpB t u g0 a b).get? q=some o:=fun q o e=>get?_push_of_some _ e;have c3:∀ q o,(zpB t u g0 a b).get? q=some o->(zpC t u g0 a b).get? q=some o:=fun q o e=>get?_push_of_some _ e;have c4:∀ q o,(zpC t u g0 a b).get? q=some o->(zpD t u g0 a b).get? q=some o:=fun q o e=>get?_push_of_some _ e;have c5:∀ q o,(zpD t u g0 a b).get? q=some o->(zpE t u g0 a b).get? q=some o:=fun q o e=>get?_push_of_some _ e;have y1:=c5 _ _ (c4 _ _ (c3 _ _ (c2 _ _ f1)));have y2:=c5 _ _ (c4 _ _ (c3 _ _ f2));have y3:=c5 _ _ (c4 _ _ f3);have y4:=c5 _ _ f4;have y5:(zpE t u g0 a b).get? (zpD t u g0 a b).objs.size=some { cls:=.type "zip",data:=.fields #[.none,.bool false,.bool false,.ref (zpB t u g0 a b).objs.size,.ref (zpC t u g0 a b).objs.size] }:=f5;have fin:R (.ok (.ret (.ref (zpD t u g0 a b).objs.size))) ⟨zpE t u g0 a b,gs,dr,tk,os⟩:=by
   rw [z4,z2,z3] at y5;rw [z2,z1] at y3;rw [z3] at y4;rw [z1] at y2;rw [z4];refine hyp _ y5 y3 y4 ?_ ?_ fun q o e=>c5 q o (c4 q o (c3 q o (c2 q o (c1 q o e))))
   ·cases t <;> exact⟨_,y1,rfl,rfl⟩
   ·cases u <;> exact⟨_,y2,rfl,rfl⟩
  exact fin
theorem zgZ{t u:Bool}{a b:Addr}{xs ys:Array Value}{Q:Value->Shared->Prop}(ha:SqK t s.heap a xs)(hb:SqK u s.heap b ys)
  (hyp:∀ g,IsZip g (s.heap.objs.size+4) (s.heap.objs.size+2) (s.heap.objs.size+3) .none->IsPair g (s.heap.objs.size+2) (.ref s.heap.objs.size) (.ref (s.heap.objs.size+1))->IsPair g (s.heap.objs.size+3) .none .none ->
    ItK t g s.heap.objs.size a 0->ItK u g (s.heap.objs.size+1) b 0->(∀ q o,s.heap.get? q=some o->g.get? q=some o)->Q (.ref (s.heap.objs.size+4)) { s with heap:=g }):wpAny (model prog w) A (call (.type "zip") [.ref a,.ref b]) Q E s:=by
 refine callType_new F.called_zip dz (F.typeCall_zip_2 _ _) (F.newCall_zip_2 _ _) (fun ob=>F.args_object_init_3 ob _ _) F.entry_zip_new (zoL t u a b xs ys) ⟨ha,hb,fun g h1 h2 h3 h4 h5 h6=>?_⟩;exact⟨⟨_,h1,rfl⟩,hyp g h1 h2 h3 h4 h5 h6⟩
end
def Itz(S1 S2:Hp->Addr->List V->Prop)(a b:Addr):It :=
 ⟨fun i H=>∃ xs ys x y,S1 H a xs/\S2 H b ys/\xs[i]? = some x/\ys[i]? = some y,fun i H x H'=>∃ p v u,H p=none/\x=.ref p/\H'=upd H p (.tup [v,u])/\(∀ xs,S1 H a xs->xs[i]? = some v)/\(∀ ys,S2 H b ys->ys[i]? = some u),fun i H=>∃ xs ys,S1 H a xs/\S2 H b ys/\(xs.length<=i\/ys.length<=i)⟩
def SqV(K:W.Frag)(t:Bool)(H:Hp)(a:Addr)(xs:List V):Prop:=match t with
 | true=>SqT K H a xs
 | false=>SqL K H a xs
theorem Inv.seqK{X:Cx}{zh:List (Addr×Obj)}{σ:St}{H:Hp}{s:Shared}{t:Bool}{a:Addr}{xs:List V}(I:Inv X zh σ H s)(h:SqV X.K t H a xs):∃ its:List Value,Vals xs its/\SqK t s.heap a its.toArray/\∀ ys,SqV X.K t H a ys->ys=xs:=by
 cases t
 ·obtain⟨its,rv,p,_⟩:=I.list h;exact⟨its,rv,p.isList,fun ys hy=>I.list_inj hy h⟩
 ·obtain⟨its,rv,p,_⟩:=I.tuple h;exact⟨its,rv,p,fun ys hy=>I.tuple_inj hy h⟩
theorem zmp{P:Program}{w:World}{K:W.Frag}{elts:List Expr}{n:Nat}{pos:Pos}(t u:Bool)(z p r i j a b:Addr)(D:ZAp z p r i j a b):Turn P w K (.Tuple elts n pos) (Itz (SqV K t) (SqV K u) a b) [z,p,r,i,j] z
  (fun k h=>IsZip h z p r .none/\IsPair h p (.ref i) (.ref j)/\(∃ c d,IsPair h r c d)/\ItK t h i a k/\ItK u h j b k) where
 mem:=by simp
 obj:=fun k h ⟨h1,h2,⟨c,d,h3⟩,h4,h5⟩ q hq=>by
  simp only [mem_cons,not_mem_nil,or_false] at hq;rcases hq with rfl | rfl | rfl | rfl | rfl
  ·exact⟨_,h1,fun v e=>by cases (show Data.fields _=Data.cell v from e)⟩
  ·exact⟨_,h2,fun v e=>by cases (show Data.seq _ _=Data.cell v from e)⟩
  ·exact⟨_,h3,fun v e=>by cases (show Data.seq _ _=Data.cell v from e)⟩
  ·exact h4.here
  ·exact h5.here
 keep:=fun k h h' ⟨h1,h2,⟨c,d,h3⟩,h4,h5⟩ f=>⟨f z (by simp) _ h1,f p (by simp) _ h2,⟨c,d,f r (by simp) _ h3⟩,h4.at fun o e=>f i (by simp) o e,h5.at fun o e=>f j (by simp) o e⟩
 item:=by
  intro X hP hw hK hc k zh s σ H E I hf st hg;subst hP hw hK;obtain⟨xs,ys,x,y,q1,q2,ex,ey⟩:=hg;obtain⟨its,rv,sq,inj⟩:=I.seqK q1;obtain⟨its2,rv2,sq2,inj2⟩:=I.seqK q2;obtain⟨v1,e1,r1⟩:=rv.get ex;obtain⟨v2,e2,r2⟩:=rv2.get ey;obtain⟨h1,h2,⟨c,d,h3⟩,h4,h5⟩:=st;have ty:s.TypeIs (.ref z) "zip":=⟨_,h1,rfl⟩;unfold pyNext;refine wpAny_bind (wpAny_attempt (wpAny_callSpecial?_slot (name:=Str.ofString "__next__") ty F.slot_zip_next (wpAny_call_entry F.slot_zip_next ty F.entry_zip_next
   (zhe D h1 h2 h3 h4 h5 sq sq2 (by simpa using e1) (by simpa using e2) fun g a1 a2 a3 a4 a5 kk=>wpAny_pure ⟨_,rfl,?_⟩) (F.args_zip_next_1 _))))
  refine wpAny_letOwnedTupleGo_zip (s:={ s with heap:=g }) a1 fun g' z' b'=>?_;have lt:∀ {q o},s.heap.get? q=some o->s.heap.objs.size≠q:=fun e=>ne_of_gt (lt_size e);have b'':Heap.SameBut z g g':=b';have pT:IsPair g' s.heap.objs.size v1 v2:=b''.extBut _ _ (lt h1) a5;have hn:=I.hok.fresh (le_refl s.heap.objs.size);have kk':∀ q o,q∉[z,r,i,j]->s.heap.get? q=some o->g'.get? q=some o:=fun q o hq e=>by
   simp only [mem_cons,not_mem_nil,or_false,not_or] at hq;exact b''.extBut q o hq.1 (kk q o hq.1 hq.2.1 hq.2.2.1 hq.2.2.2 e)
  have I1:Inv X zh σ (upd H s.heap.objs.size (.tup [x,y])) { s with heap:=g' }:=I.turnLaid (t':=s.toks) (ch:=[z,r,i,j]) kk' (fun q hq=>hf q (by
   simp only [mem_cons,not_mem_nil,or_false] at hq ⊢;rcases hq with h | h | h | h
   ·exact .inl h
   ·exact .inr (.inr (.inl h))
   ·exact .inr (.inr (.inr (.inl h)))
   ·exact .inr (.inr (.inr (.inr h))))) (le_refl _) ⟨⟨by show 2<=sizeLine; decide,_,pT,rfl⟩,[v1,v2],.cons r1 (.cons r2 .nil),⟨_,pT,rfl,_,rfl⟩⟩
  have fresh:∀ q,q∈[z,p,r,i,j]->q≠s.heap.objs.size:=fun q hq w=>by
   simp only [mem_cons,not_mem_nil,or_false] at hq;obtain⟨o1,w1,_⟩:=h4.here;obtain⟨o2,w2,_⟩:=h5.here;rcases hq with h | h | h | h | h
   ·exact lt h1 (w.symm.trans h)
   ·exact lt h2 (w.symm.trans h)
   ·exact lt h3 (w.symm.trans h)
   ·exact lt w1 (w.symm.trans h)
   ·exact lt w2 (w.symm.trans h)
  refine⟨.ref s.heap.objs.size,_,I1,rfl,⟨_,x,y,hn,rfl,rfl,fun zs hz=>by rw [inj zs hz]; exact ex,fun zs hz=>by rw [inj2 zs hz]; exact ey⟩,⟨z',kk' p _ (by simp [D.pz,D.pr,D.pi,D.pj]) h2,⟨_,_,b''.extBut r _ D.rz a2⟩,a3.at fun o e=>b''.extBut i o D.iz e,a4.at fun o e=>b''.extBut j o D.jz e⟩,fun q hq=>?_⟩;rw [zF (fresh q hq)];exact(hf q hq).1
 done:=by
  intro X hP hw hK hc k zh s σ H E I hf st hg;subst hP hw hK;obtain⟨xs,ys,q1,q2,hl⟩:=hg;obtain⟨its,rv,sq,inj⟩:=I.seqK q1;obtain⟨its2,rv2,sq2,inj2⟩:=I.seqK q2;obtain⟨h1,h2,⟨c,d,h3⟩,h4,h5⟩:=st;have l1:=rv.length;have l2:=rv2.length;have ty:s.TypeIs (.ref z) "zip":=⟨_,h1,rfl⟩;unfold pyNext;refine wpAny_bind (wpAny_attempt (wpAny_callSpecial?_slot (name:=Str.ofString "__next__") ty F.slot_zip_next (wpAny_call_entry F.slot_zip_next ty F.entry_zip_next
   (zho (I.ok.hd hc) D h1 h2 h3 h4 h5 sq sq2 (hl.elim (fun h=>.inl (by simp; omega)) fun h=>.inr (by simp; omega)) fun g e kk he=>?_) (F.args_zip_next_1 _))))
  obtain⟨o,ho,hc'⟩:=he;refine wpAny_bind (wpAny_isInstance (T:="StopIteration") (b:=true) ⟨o,ho,hc'⟩ isSubtype_stop (wpAny_pure ⟨rfl,?_⟩));refine I.turnedN (t':=s.toks) (ch:=[z,r,i,j]) (fun q o hq e=>?_) fun q hq=>hf q (by
   simp only [mem_cons,not_mem_nil,or_false] at hq ⊢;rcases hq with h | h | h | h
   ·exact .inl h
   ·exact .inr (.inr (.inl h))
   ·exact .inr (.inr (.inr (.inl h)))
   ·exact .inr (.inr (.inr (.inr h))))
  simp only [mem_cons,not_mem_nil,or_false,not_or] at hq;exact kk q o hq.1 hq.2.1 hq.2.2.1 hq.2.2.2 e
 self:=fun _ _ _ _ _ st h=>wpAny_pyIter_zip st.1 h
theorem nne{a b:Nat}(h:a<b\/b<a):(show Addr from a)≠(show Addr from b):=fun e=>by
 have e':a=b:=e;omega
theorem znH(N a b:Nat)(ha:a<N)(hb:b<N):ZAp (N+4) (N+2) (N+3) N (N+1) a b:=by
 constructor <;> exact nne (by omega)
theorem znR(N q:Nat)(hq:q=N+4\/q=N+2\/q=N+3\/q=N\/q=N+1):N<=q:=by omega
section
variable {X:Cx} {elts:List Expr} {n:Nat} {tpos:Pos}
theorem zih:bootBuiltins "zip" = some (.type "zip"):=by decide +kernel
def zpR(K:W.Frag)(ta:TA):TI:=fun σ H R=>ta σ H fun vs H1=>∃ a b t u,vs=[.ref a,.ref b]/\(∃ xs,SqV K t H1 a xs)/\(∃ ys,SqV K u H1 b ys)/\R (Itz (SqV K t) (SqV K u) a b) H1
theorem zoW{e1 e2:Expr}{ta:TA}{p pos:Pos}(hg:Gl X "zip")(hm:X.mg "zip" = none)(ha:PA X [e1,e2] ta)(hs:starEach [e1,e2] X.env=[(false,eval e1 X.env),(false,eval e2 X.env)]:=by rfl)(hs2:starEach [e2] X.env=[(false,eval e2 X.env)]:=by rfl):
  PI X (.Tuple elts n tpos) (.Call (.Name "zip" p) [e1,e2] [] pos) (zpR X.K ta):=by
 intro zh s σ H R I h;refine Call_ (zdP I hg hm zih (PyProof.Rows.callWith_type1 (thn (ha pos zh s σ H _ I h) fun us s1 ⟨vs,H1,I1,r1,q1⟩=>?_) (by rw [hs,hs2]) (by rw [hs2]; rfl)));obtain⟨a,b,t,u,e,⟨xs,q1⟩,⟨ys,q2⟩,q⟩:=q1;subst e;cases r1 with
 | cons r rr =>
  cases rr with
  | cons r' rr =>
   cases rr;cases r;cases r';obtain⟨its,rv,sq,_⟩:=I1.seqK q1;obtain⟨its2,rv2,sq2,_⟩:=I1.seqK q2;refine zgZ sq sq2 fun g h1 h2 h3 h4 h5 k=>?_;refine wpAny_pyIter_zip (s:={ s1 with heap:=g }) h1 ?_
   have I2:Inv X zh σ H1 { s1 with heap:=g }:=I1.kept (t':=s1.toks) k;obtain⟨oa,fa⟩:=sq.here;obtain⟨ob,fb⟩:=sq2.here;have la:=lt_size fa;have lb:=lt_size fb;have D:ZAp (s1.heap.objs.size+4) (s1.heap.objs.size+2) (s1.heap.objs.size+3) s1.heap.objs.size (s1.heap.objs.size+1) a b:=znH _ _ _ la lb;refine⟨_,[s1.heap.objs.size+4,s1.heap.objs.size+2,s1.heap.objs.size+3,s1.heap.objs.size,s1.heap.objs.size+1],_,_,H1,rfl,I2,zmp t u _ _ _ _ _ a b D,⟨h1,h2,⟨_,_,h3⟩,h4,h5⟩,fun q hq=>?_,q⟩;have hl:s1.heap.objs.size<=q:=by
    simp only [mem_cons,not_mem_nil,or_false] at hq;exact znR _ _ hq
   exact I1.fpOk hl (I1.hok.fresh hl)
end
def zgF:List PyData->List PyData->List PyData
 | d :: ds,e :: es=>.tuple [d,e] :: zgF ds es
 | _,_=>[]
theorem zgq:∀ (ds es:List PyData) (k:Nat) (x:PyData),(zgF ds es)[k]? = some x->∃ d e,ds[k]? = some d/\es[k]? = some e/\x=.tuple [d,e]
 | [],_,_,_,h=>by simp [zgF] at h
 | _ :: _,[],_,_,h=>by simp [zgF] at h
 | d :: ds,e :: es,0,x,h=>by
  have e':PyData.tuple [d,e]=x:=by simpa [zgF] using h
  exact⟨d,e,rfl,rfl,e'.symm⟩
 | d :: ds,e :: es,k+1,x,h=>by
  obtain⟨d',e',h1,h2,h3⟩:=zgq ds es k x (by simpa [zgF] using h);exact⟨d',e',by simpa using h1,by simpa using h2,h3⟩
theorem zi2:∀ (ds es:List PyData),(zgF ds es).length=min ds.length es.length
 | [],_=>by simp [zgF]
 | _ :: _,[]=>by simp [zgF]
 | d :: ds,e :: es=>by simp [zgF,zi2 ds es]; try omega
def ziw(a:DA):DI:=fun δ S R=>a δ S fun xs S1=>arg2 xs fun x y=>∃ ds,zh9 x=some ds/\∃ es,zh9 y=some es/\R (zgF ds es) S1
theorem zeV{K:W.Frag}{h o:List Addr}{H:Hp}{x:XV}{v:V}{ds:List PyData}(e:zh9 x=some ds)(q:HasX h o H x v):∃ t a ws,v=.ref a/\HasL (vx h o H) ds ws/\∀ {o2 H2},ExH h o H o2 H2->SqV K t H2 a ws:=by
 unfold zh9 at e;split at e
 ·cases e;obtain⟨a,ws,rfl,ea,l⟩:=zaN.mp (show Has (vx h o H) (.list ds) v from q);exact⟨false,a,ws,rfl,l,fun e2=>(SqL.of (zah _ _ (e2.vx _ _ ea)):SqL K _ a ws)⟩
 ·cases e;obtain⟨a,ws,rfl,ea,l⟩:=zai.mp (show Has (vx h o H) (.tuple ds) v from q);exact⟨true,a,ws,rfl,l,fun e2=>(SqT.of (zah _ _ (e2.vx _ _ ea)):SqT K _ a ws)⟩
 ·cases e
theorem zob{K:W.Frag}{ta:TA}{da:DA}(ha:RA ta da):RI (zpR K ta) (ziw da):=fun h o H δ σ S R Q he hs q c =>
 ha h o H δ σ S _ _ he hs q fun o1 H1 S1 xs vs e1 s1 x1 d0=>by
  obtain⟨x,y,rfl,ds,hd,es,hes,d1⟩:=zgo d0;obtain⟨v,u,rfl,hv,hu⟩:=hxs2 x1;obtain⟨t,a,ws,rfl,l,k1⟩:=zeV (K:=K) hd hv;obtain⟨t',b,zs,rfl,l',k2⟩:=zeV (K:=K) hes hu;have hl:=l.length;have hl':=l'.length;refine⟨a,b,t,t',rfl,⟨ws,k1 ExH.refl⟩,⟨zs,k2 ExH.refl⟩,c o1 H1 S1 _ _ e1 s1 ⟨fun i o2 H2 e2 hi=>⟨ws,zs,k1 e2,k2 e2,by rw [zi2] at hi; omega⟩,fun i d o2 H2 e2 hi=>?_,fun i d o2 H2 x H3 S2 e2 s2 hi y=>?_⟩ d1⟩
  ·obtain⟨d',e',h1,h2,rfl⟩:=zgq ds es i d hi;obtain⟨u1,eu1,_⟩:=l.get h1;obtain⟨u2,eu2,_⟩:=l'.get h2;exact⟨ws,zs,u1,u2,k1 e2,k2 e2,eu1,eu2⟩
  ·obtain⟨d',e',h1,h2,rfl⟩:=zgq ds es i d hi;obtain⟨u1,eu1,hu1⟩:=l.get h1;obtain⟨u2,eu2,hu2⟩:=l'.get h2;obtain⟨p,v,u,hp,rfl,rfl,y1,y2⟩:=y;have f1:=y1 ws (k1 e2);have f2:=y2 zs (k2 e2);rw [eu1] at f1;rw [eu2] at f2;cases f1;cases f2;exact⟨Same.laid hp,zai.mpr ⟨p,_,rfl,s2.laid hp,zu.mpr ⟨_,_,rfl,(hu1.mono e2.vx).mono (zc6 (Same.laid hp)),zu.mpr ⟨_,_,rfl,(hu2.mono e2.vx).mono (zc6 (Same.laid hp)),zw.mpr rfl⟩⟩⟩⟩
end
section
open Sem (wp)
section
variable {prog:Program} {w:World} {A:Around} {R:Result->Shared->Prop} {I:Addr} {fp wr:List Addr} {n:Nat} {P:Nat->Value->Prop} {St:Nat->Heap->Prop}
def CmpH(prog:Program)(w:World)(A:Around)(g:Heap)(own:List Addr)(P:Nat->Value->Prop)(bt:Nat->Nat->Bool):Prop :=
 ∀ i j x y (s:Shared) (Q:Value->Shared->Prop) (E:Value->Shared->Prop),(∀ b o,b∉own->g.get? b=some o->s.heap.get? b=some o)->P i x->P j y->Q (.bool (bt i j)) s->wpAny (model prog w) A (richCompare .Lt x y) Q E s
theorem zkR(W:Walks prog w A.in1 I fp wr n P St)(bt:Nat->Nat->Bool){g:Heap}(S:Addr)(cm:CmpH prog w A.in1 g (S :: wr) P bt)(nS:S∉fp):∀ (d j:Nat) (s:Shared) (best:Value) (c:Nat),n=j+1+d->(∀ b o,b∉S :: wr->g.get? b=some o->s.heap.get? b=some o)->St (j+1) s.heap->P (argBest bt j) best ->
   s.heap.get? S=some { cls:=.type "list",dict:=none,data:=.seq #[best,best] c,slots:=#[] } ->
   (∀ v h' tk,P (argBest bt (n - 1)) v->(∀ b o,b∉S :: wr->s.heap.get? b=some o->h'.get? b=some o)->R (.ok (.ret v)) { s with heap:=h',toks:=tk })->codeAny (model prog w) A (.builtin "min.loop" ⟨[.ref I,.none,.ref S],[]⟩) R s:=by
 have nw:S∉wr:=fun m=>nS (W.sub _ m);have nm:(toString "min" ++ toString ".loop":String) = "min.loop":=by decide
 intro d;induction d with
 | zero =>
  intro j s best c hd kg st hb hS fin;have hj:j+1=n:=by omega
  refine codeAny_builtin F.entry_min_loop ?_;rw [Around.under_plainId F.plain_min_loop _];show wpAny _ A.in1 (seqItems? (.ref S) >>= _) _ _ s;refine wpAny_bind (wpAny_seqItems hS rfl ?_);show wpAny _ A.in1 (tryCatch (pyNext (.ref I)) _ >>= _) _ _ s;refine wpAny_bind (wpAny_tryCatch (W.done s _ _ (by rw [<- hj]; exact st) fun h1 t1 k1=>?_));have hS1:=k1 S _ nw hS;show wpAny _ A.in1 (updateSeq S (fun _=>#[]) >>= _) _ _ _;refine wpAny_bind (wpAny_updateSeq hS1 rfl (wpAny_bind (wpAny_letGo (wpAny_pure (fin best _ t1 (by rw [<- hj]; exact hb) fun b o hn e=>?_)))));rw [mem_cons,not_or] at hn;exact(get?_update_other _ _ (Ne.symm hn.1)).trans (k1 b o hn.2 e)
 | succ d ih =>
  intro j s best c hd kg st hb hS fin;refine codeAny_builtin F.entry_min_loop ?_;rw [Around.under_plainId F.plain_min_loop _];show wpAny _ A.in1 (seqItems? (.ref S) >>= _) _ _ s;refine wpAny_bind (wpAny_seqItems hS rfl ?_);show wpAny _ A.in1 (tryCatch (pyNext (.ref I)) _ >>= _) _ _ s;refine wpAny_bind (wpAny_tryCatch (W.item (j+1) s _ _ (by omega) st fun x h1 t1 hx st1 k1=>?_));have hS1:=k1 S _ nw hS;have kg1:∀ b o,b∉S :: wr->g.get? b=some o->h1.get? b=some o:=fun b o hn e=>k1 b o (fun m=>hn (mem_cons_of_mem _ m)) (kg b o hn e);show wpAny _ A.in1 (tryCatch (holding [x,x] (richCompare .Lt x best >>= _)) _ >>= _) _ _ _;refine wpAny_bind (wpAny_tryCatch (wpAny_holding (wpAny_bind (cm (j+1) (argBest bt j) x best _ _ _ kg1 hx hb (wpAny_bind (wpAny_holding (wpAny_truthy_bool (wpAny_bind (wpAny_letGo (wpAny_pure ?_)))))))))) ;cases ht:bt (j+1) (argBest bt j) with
  | true =>
   simp only [if_true];refine wpAny_bind (wpAny_updateSeq hS1 rfl (wpAny_bind (wpAny_letGo ?_)));rw [nm];have keep:∀ b o,b∉S :: wr->s.heap.get? b=some o->(h1.update S (Obj.mapSeq fun _=>#[x,x])).get? b=some o:=fun b o hn e=>by
    rw [mem_cons,not_or] at hn;exact(get?_update_other _ _ (Ne.symm hn.1)).trans (k1 b o hn.2 e)
   refine wpAny_pure ⟨plainId_quiet F.plain_min_loop _,ih (j+1) _ x _ (by omega) (fun b o hn e=>keep b o hn (kg b o hn e)) (W.frame _ _ _ st1 fun b m o e=>?_) (by simp only [argBest,ht,if_true]; exact hx) (get?_update_self _ hS1 rfl) fun v h2 t2 hv k2=>fin v h2 t2 hv fun b o hn e=>k2 b o hn (keep b o hn e)⟩;exact(get?_update_other _ _ (fun z:S=b=>nS (by rw [z]; exact m))).trans e
  | false =>
   simp only [Bool.false_eq_true,if_false];refine wpAny_bind (wpAny_letGo ?_);rw [nm];exact wpAny_pure ⟨plainId_quiet F.plain_min_loop _,ih (j+1) _ best c (by omega) kg1 st1 (by simp only [argBest,ht,Bool.false_eq_true,if_false]; exact hb) hS1 fun v h2 t2 hv k2=>fin v h2 t2 hv fun b o hn e=>k2 b o hn (k1 b o (fun m=>hn (mem_cons_of_mem _ m)) e)⟩
theorem zjP(W:Walks prog w A.in1 I fp wr n P St)(bt:Nat->Nat->Bool)(S:Addr)(nS:S∉fp)(hn:0<n){s:Shared}{c:Nat}(cm:CmpH prog w A.in1 s.heap (S :: wr) P bt)(st:St 0 s.heap)(hS:s.heap.get? S=some { cls:=.type "list",dict:=none,data:=.seq #[] c,slots:=#[] })
  (fin:∀ v h' tk,P (argBest bt (n - 1)) v->(∀ b o,b∉S :: wr->s.heap.get? b=some o->h'.get? b=some o)->R (.ok (.ret v)) { s with heap:=h',toks:=tk }):codeAny (model prog w) A (.builtin "min.loop" ⟨[.ref I,.none,.ref S],[]⟩) R s:=by
 have nw:S∉wr:=fun m=>nS (W.sub _ m);have nm:(toString "min" ++ toString ".loop":String) = "min.loop":=by decide
 refine codeAny_builtin F.entry_min_loop ?_;rw [Around.under_plainId F.plain_min_loop _];show wpAny _ A.in1 (seqItems? (.ref S) >>= _) _ _ s;refine wpAny_bind (wpAny_seqItems hS rfl ?_);show wpAny _ A.in1 (tryCatch (pyNext (.ref I)) _ >>= _) _ _ s;refine wpAny_bind (wpAny_tryCatch (W.item 0 s _ _ hn st fun x h1 t1 hx st1 k1=>?_));have hS1:=k1 S _ nw hS;show wpAny _ A.in1 (updateSeq S (fun _=>#[x,x]) >>= _) _ _ _;refine wpAny_bind (wpAny_updateSeq hS1 rfl ?_);rw [nm];have keep:∀ b o,b∉S :: wr->s.heap.get? b=some o->(h1.update S (Obj.mapSeq fun _=>#[x,x])).get? b=some o:=fun b o hn e=>by
  rw [mem_cons,not_or] at hn;exact(get?_update_other _ _ (Ne.symm hn.1)).trans (k1 b o hn.2 e)
 refine wpAny_pure ⟨plainId_quiet F.plain_min_loop _,zkR W bt S cm nS (n - 1) 0 _ x _ (by omega) keep (W.frame _ _ _ st1 fun b m o e=>?_) hx (get?_update_self _ hS1 rfl) fun v h2 t2 hv k2=>fin v h2 t2 hv fun b o hn e=>k2 b o hn (keep b o hn e)⟩;exact(get?_update_other _ _ (fun z:S=b=>nS (by rw [z]; exact m))).trans e
end
section
variable {prog:Program} {w:World} {A:Around} {E:Value->Shared->Prop} {s:Shared}
theorem zlB{l:Addr}{its:Array Value}{Q:Value->Shared->Prop}(hh:A.handled=none)(hl:s.heap.IsList l its)(hne:0<its.size)(bt:Nat->Nat->Bool)
  (cm:∀ i j x y (s':Shared) (Q:Value->Shared->Prop) (E:Value->Shared->Prop),(∀ b o,s.heap.get? b=some o->s'.heap.get? b=some o)->its[i]? = some x->its[j]? = some y->Q (.bool (bt i j)) s'->wpAny (model prog w) A.in1 (richCompare .Lt x y) Q E s')
  (fin:∀ v h' tk,its[argBest bt (its.size - 1)]? = some v->(∀ b o,s.heap.get? b=some o->h'.get? b=some o)->Q v { s with heap:=h',toks:=tk }):wpAny (model prog w) A (call (.builtin "min") [.ref l]) Q E s:=by
 have nm:(toString "min" ++ toString ".loop":String) = "min.loop":=by decide
 have lt:l<s.heap.objs.size:=by obtain⟨o,e,_⟩:=hl; exact lt_size e
 refine call_function_tree F.kind_min F.plain_min F.entry_min (F.args_min1 _) ?_;show wpAny _ A.in1 (Builtin.Builtins.bindParams "min" ["key","default"] 0 ⟨[],[]⟩ >>= _) _ _ s;refine wpAny_bind (wpAny_of_eq (show Builtin.Builtins.bindParams "min" ["key","default"] 0 ⟨[],[]⟩=pure [none,none] from rfl) (wpAny_bind (wpAny_pure (wpAny_bind (wpAny_pyIter_list hl ?_)))));refine wpAny_bind (wpAny_newObj_type ?_);rw [nm];have z1:(s.heap.push { cls:=.type "list_iterator",data:=.fields #[.ref l,.int 0 0] }).objs.size=s.heap.objs.size+1:=size_push ..;have nS:(s.heap.push { cls:=.type "list_iterator",data:=.fields #[.ref l,.int 0 0] }).objs.size∉[s.heap.objs.size,l]:=by
  rw [z1];simp only [mem_cons,not_mem_nil,or_false,not_or];exact⟨succ_ne_self _,ne_of_gt (lt_succ_of_lt lt)⟩
 have up:∀ b o,s.heap.get? b=some o->((s.heap.push { cls:=.type "list_iterator",data:=.fields #[.ref l,.int 0 0] }).push { cls:=.type "list",data:=.seq #[] }).get? b=some o:=fun b o e=>get?_push_of_some _ (get?_push_of_some _ e);have old:∀ b o,s.heap.get? b=some o->b∉(s.heap.push { cls:=.type "list_iterator",data:=.fields #[.ref l,.int 0 0] }).objs.size :: [s.heap.objs.size]:=fun b o e=>by
  rw [z1];simp only [mem_cons,not_mem_nil,or_false,not_or];have:=lt_size e;exact⟨ne_of_lt (lt_succ_of_lt this),ne_of_lt this⟩
 refine wpAny_pure ⟨plainId_quiet F.plain_min_loop _,zjP (Walks.list (A:=A.in1) hh _ l (ne_of_lt lt) its) bt _ nS hne (fun i j x y s' Q' E' k hi hj q=>cm i j x y s' Q' E' (fun b o e=>k b o (old b o e) (up b o e)) hi hj q) ?_ (get?_push_size _ rfl) fun v h' tk hv k=>fin v h' tk hv fun b o e=>k b o (old b o e) (up b o e)⟩;exact⟨⟨_,get?_push_of_some _ (get?_push_size _ rfl),rfl,rfl⟩,(hl.push _).push _⟩
end
def zqd(K:W.Frag):List V->Hp->VK->Prop:=fun xs H Q=>∃ (p:Addr) (vs:List V) (nss:List (List Int)),xs=[.ref p]/\SqL K H p vs/\vs≠[]/\Paired (fun(v:V) (ns:List Int)=>∃ a,v=.ref a/\H a=some (.tup (ns.map V.int))) vs nss /\
 ∀ (i:Nat) v ns,vs[i]? = some v->nss[i]? = some ns->(∀ ms∈nss,HT.lexLt ms ns=false)->Q v H
theorem zfo{ns:Nat->List Int}(tr:∀ a b c:List Int,HT.lexLt a b=false->HT.lexLt b c=false->HT.lexLt a c=false)(as:∀ a b:List Int,HT.lexLt a b=true->HT.lexLt b a=false):∀ k,argBest (fun i j=>HT.lexLt (ns i) (ns j)) k<=k/\∀ j,j<=k->HT.lexLt (ns j) (ns (argBest (fun i j=>HT.lexLt (ns i) (ns j)) k))=false
 | 0=>⟨le_refl _,fun j hj=>by
   have:j=0:=by omega
   subst this;show HT.lexLt (ns 0) (ns 0)=false;cases h:HT.lexLt (ns 0) (ns 0) with
   | false=>rfl
   | true=>have:=as _ _ h; rw [h] at this; cases this⟩
 | k+1=>by
  obtain⟨h1,h2⟩:=zfo tr as (ns:=ns) k;simp only [argBest];by_cases hb:HT.lexLt (ns (k+1)) (ns (argBest (fun i j=>HT.lexLt (ns i) (ns j)) k))=true
  ·rw [if_pos hb];refine⟨le_refl _,fun j hj=>?_⟩;by_cases e:j=k+1
   ·subst e;cases h:HT.lexLt (ns (k+1)) (ns (k+1)) with
    | false=>rfl
    | true=>have:=as _ _ h; rw [h] at this; cases this
   ·exact tr _ _ _ (h2 j (by omega)) (as _ _ hb)
  ·rw [if_neg hb];refine⟨by omega,fun j hj=>?_⟩;by_cases e:j=k+1
   ·subst e; exact Bool.eq_false_iff.mpr hb
   ·exact h2 j (by omega)
theorem ziG:∀ a b:List Int,HT.lexLt a b=true->HT.lexLt b a=false
 | [],[],h=>by cases h
 | [],y :: ys,_=>rfl
 | x :: xs,[],h=>by cases h
 | x :: xs,y :: ys,h=>by
  rw [HT.lexLt_cons] at h ⊢;by_cases e:x=y
  ·subst e;rw [if_pos rfl] at h ⊢;exact ziG xs ys h
  ·rw [if_neg e] at h;rw [if_neg (Ne.symm e)];simp only [decide_eq_true_eq] at h;simp only [decide_eq_false_iff_not];omega
theorem zgi:∀ a b c:List Int,HT.lexLt a b=false->HT.lexLt b c=false->HT.lexLt a c=false
 | _,_,[],_,_=>by rename_i a b _ _; cases a <;> rfl
 | [],[],z :: zs,_,h=>by cases h
 | [],y :: ys,z :: zs,h,_=>by cases h
 | x :: xs,[],z :: zs,_,h=>by cases h
 | x :: xs,y :: ys,z :: zs,h,k=>by
  rw [HT.lexLt_cons] at h k ⊢;by_cases e:x=y
  ·subst e;rw [if_pos rfl] at h;by_cases e2:x=z
   ·subst e2;rw [if_pos rfl] at k ⊢;exact zgi xs ys zs h k
   ·rw [if_neg e2] at k ⊢;exact k
  ·rw [if_neg e] at h;by_cases e2:y=z
   ·subst e2;rw [if_neg e];exact h
   ·rw [if_neg e2] at k;simp only [decide_eq_false_iff_not] at h k;rw [if_neg (by omega)];simp only [decide_eq_false_iff_not];omega
theorem zkv{X:Cx}(hc:X.calm=true)(hu:X.A.units+64<cLine):CallR X (.builtin "min") (zqd X.K):=by
 intro zh s σ H xs us Q I r h;obtain⟨p,vs,nss,rfl,hq,hne,pr,q⟩:=h;obtain⟨u,rfl,rx⟩:=vals1 r;cases (show u=Value.ref p from rx);obtain⟨its,rv,pl,_⟩:=I.list hq;have hl:=rv.length;have hl2:=Paired.length pr;have hsz:0<its.toArray.size:=by
  rw [size_toArray,<- hl];exact List.length_pos_iff.mpr hne
 have at_:∀ (i:Nat) x,its.toArray[i]? = some x->∃ (v:V) (ns:List Int),vs[i]? = some v/\nss[i]? = some ns/\RelV v x/\∃ a,v=.ref a/\H a=some (.tup (ns.map V.int)):=fun i x hx=>by
  have hi:i<its.length:=by
   have:=(Array.getElem?_eq_some_iff.mp hx).1;simpa using this
  have e1:vs[i]? = some vs[i]:=getElem?_eq_getElem (by omega);have e2:nss[i]? = some nss[i]:=getElem?_eq_getElem (by omega);obtain⟨x',hx',rr⟩:=rv.get e1;have:x=x':=by
   have h2:its[i]? = some x:=by simpa using hx
   rw [hx'] at h2;exact(Option.some.inj h2).symm
  subst this;have pg:∀ {a:List V} {b:List (List Int)} {i:Nat} {v:V} {ns:List Int},Paired (fun(v:V) (ns:List Int)=>∃ a,v=.ref a/\H a=some (.tup (ns.map V.int))) a b->a[i]? = some v->b[i]? = some ns->∃ a,v=.ref a/\H a=some (.tup (ns.map V.int)):=by
   intro a b i v ns pq;induction pq generalizing i with
   | nil=>intro h; simp at h
   | cons r0 _ ih =>
    cases i with
    | zero =>
     intro h1 h2;rw [getElem?_cons_zero] at h1 h2;cases h1;cases h2;exact r0
    | succ i =>
     intro h1 h2;rw [getElem?_cons_succ] at h1 h2;exact ih h1 h2
  exact⟨_,_,e1,e2,rr,pg pr e1 e2⟩
 refine zlB (I.ok.hd hc) pl.isList hsz (fun i j=>HT.lexLt (nss.getD i []) (nss.getD j [])) (fun i j x y s' Q' E' k hx hy q'=>?_) fun v h' tk hv k=>?_
 ·obtain⟨v1,n1,_,f1,r1,a1,rfl,e1⟩:=at_ i x hx;obtain⟨v2,n2,_,f2,r2,a2,rfl,e2⟩:=at_ j y hy;cases r1;cases r2;obtain⟨_,is1,w1,t1⟩:=(show ObjOk X.prog X.w H s.heap a1 (.tup (n1.map V.int)) from I.hok a1 _ e1);obtain⟨_,is2,w2,t2⟩:=(show ObjOk X.prog X.w H s.heap a2 (.tup (n2.map V.int)) from I.hok a2 _ e2);have g1:nss.getD i []=n1:=by rw [getD_eq_getElem?_getD,f1]; rfl
  have g2:nss.getD j []=n2:=by rw [getD_eq_getElem?_getD,f2]; rfl
  rw [g1,g2] at q';obtain⟨o1,b1,c1⟩:=t1;obtain⟨o2,b2,c2⟩:=t2;exact HT.lt_tupInts ⟨o1,k _ _ b1,c1⟩ ⟨o2,k _ _ b2,c2⟩ (zbK w1) (zbK w2) (by show X.A.units+1<cLine; omega) q'
 ·obtain⟨v1,n1,e1,f1,r1,_⟩:=at_ _ v hv;obtain⟨_,h2⟩:=zfo (ns:=fun i=>nss.getD i []) zgi ziG (its.toArray.size - 1);refine⟨v1,H,I.kept (t':=tk) k,r1,q _ v1 n1 e1 f1 fun ms hm=>?_⟩;obtain⟨j,hj⟩:=mem_iff_getElem?.mp hm;have hjl:=(List.getElem?_eq_some_iff.mp hj).1;have:=h2 j (by rw [size_toArray]; omega);rw [show nss.getD j []=ms by rw [getD_eq_getElem?_getD,hj]; rfl] at this;rw [show nss.getD (argBest (fun i j=>HT.lexLt (nss.getD i []) (nss.getD j [])) (its.toArray.size - 1)) []=n1 by rw [getD_eq_getElem?_getD,f1]; rfl] at this;exact this
def zqb(K:W.Frag):List V->Hp->VK->Prop:=fun xs H Q=>zrr K xs H Q\/zqd K xs H Q
theorem zlC{X:Cx}(hc:X.calm=true)(hu:X.A.units+64<cLine):CallR X (.builtin "min") (zqb X.K):=(zlq hc).or (zkv hc hu)
def zo6(ns:List Int):PyData:=.tuple (ns.map PyData.int)
def znX:List XV->Sto->RX->Prop:=fun xs S R=>zsh xs S R\/arg1 xs fun x=>∃ ds,zjC S x=some ds/\∃ nss:List (List Int),ds=nss.map zo6/\nss≠[]/\∀ m,m∈nss->(∀ a,a∈nss->HT.lexLt a m=false)->R (.d (zo6 m)) S
theorem zoJ{K:W.Frag}:RC (zqb K) znX:=fun h o H S xs vs R Q hs hx q c=>by
 rcases q with q | q
 ·exact .inl (zqY h o H S xs vs R Q hs hx q c)
 ·obtain⟨x,rfl,ds,hd,nss,rfl,hn,q1⟩:=zas q;obtain⟨v,rfl,hx1⟩:=hxs1 hx;obtain⟨a,ws,rfl,ea,l⟩:=zba hs hd hx1;have hl:=l.length;refine .inr ⟨a,ws,nss,rfl,.of ea,fun z=>hn ?_,?_,fun i v ns e1 e2 hm=>?_⟩
  ·subst z;rw [length_map] at hl;exact eq_nil_of_length_eq_zero hl.symm
  ·have go:∀ {nss:List (List Int)} {ws:List V},HasL (vx h o H) (nss.map zo6) ws->Paired (fun(v:V) (ns:List Int)=>∃ a,v=.ref a/\H a=some (.tup (ns.map V.int))) ws nss:=by
    intro nss;induction nss with
    | nil=>intro ws l; rw [zw.mp l]; exact .nil
    | cons n nss ih =>
     intro ws l;obtain⟨v,r,rfl,h1,l2⟩:=zu.mp l;obtain⟨b,us,rfl,eb,lb⟩:=zai.mp h1;rw [zdc lb] at eb;exact .cons ⟨b,rfl,zah _ _ eb⟩ (ih l2)
   exact go l
  ·obtain⟨v',ev,hv⟩:=l.get (show (nss.map zo6)[i]? = some (zo6 ns) by rw [getElem?_map,e2]; rfl);rw [e1] at ev;cases ev;exact c o H S (.d (zo6 ns)) v Ex.refl hs hv (q1 ns (mem_of_getElem? e2) hm)
def zhN:List XV->Sto->RX->Prop:=fun xs S R=>arg1 xs fun x=>asI x fun i=>i.natAbs.log2<1920/\R (.d (.str (toString i))) S
theorem zeC:RC (fun xs H Q=>∃ i:Int,xs=[.int i]/\i.natAbs.log2<1920/\Q (.str (toString i)) H) zhN:=fun h o H S xs vs R Q hs hx q c=>by
 obtain⟨x,rfl,q1⟩:=zas q;obtain⟨v,rfl,hx1⟩:=hxs1 hx;obtain⟨i,rfl,hl,q2⟩:=zaR q1;exact⟨i,by rw [zaB hx1],hl,c o H S _ _ Ex.refl hs (xS _) q2⟩
section
variable {S:Sto} {P:Sto->List PyData->Prop} {a b c d:List PyData} {x:List PyData}
theorem zfn{S0:Sto}:(∃ T ds,S0++[x]=T++[ds]/\P T ds)↔P S0 x:=by
 constructor
 ·rintro⟨T,ds,e,q⟩;obtain⟨rfl,e2⟩:=List.append_inj' e rfl;cases e2;exact q
 ·exact fun q=>⟨S0,x,rfl,q⟩
theorem zis:(∃ T ds,[a]=T++[ds]/\P T ds)↔P [] a:=zfn (S0:=[])
theorem ziL:(∃ T ds,[a,b]=T++[ds]/\P T ds)↔P [a] b:=zfn (S0:=[a])
theorem zir:(∃ T ds,[a,b,c]=T++[ds]/\P T ds)↔P [a,b] c:=zfn (S0:=[a,b])
end
section
variable {n k:Nat} {ds:List PyData} {d:PyData} {v:V}
theorem zpH:frz n ds (some (.d d))=some (.d d):=rfl
theorem zp9:frz n ds (some (.l k))=if k=n then some (.d (.list ds)) else some (.l k):=rfl
end
section
variable {α:Type} {n:Nat} {g:DG} {tt:DT} {te:DE} {fin:Sto->Prop} {S0:Sto} {caps:XE}
theorem zlj{h:α->PyData}{f:α->PyData}(P:XE->Prop)(hn:S0.length=n)(l:List α)(τ:XE)(hP:P τ)(hl:l.length<=1000)
  (el:∀ x∈l,∀ τ acc (R:XE->RX),P τ->(∀ τ',P τ'->R τ' (.d (f x)) (S0++[acc]))->g (.d (h x)) τ (S0++[acc]) fun τ1 S1=>te τ1 S1 (R τ1)) (hf:fin (S0++[l.map f])):zgL n g zaS te fin (l.map h) τ (S0++[[]]):=by
 have go:∀ (l:List α) (acc:List PyData) (τ:XE),P τ->acc.length+l.length<=1000->(∀ x∈l,∀ τ acc (R:XE->RX),P τ->(∀ τ',P τ'->R τ' (.d (f x)) (S0++[acc]))->g (.d (h x)) τ (S0++[acc]) fun τ1 S1=>te τ1 S1 (R τ1)) ->
   fin (S0++[acc++l.map f])->zgL n g zaS te fin (l.map h) τ (S0++[acc]):=by
  intro l;induction l with
  | nil=>intro acc τ _ _ _ h; rw [map_nil,append_nil] at h; exact h
  | cons x l ih =>
   intro acc τ hP hl el hh;show g (.d (h x)) τ (S0++[acc]) fun τ1 S1=>zaS τ1 S1 fun b S2=>if b=true then te τ1 S2 fun x S3=>asD x fun e=>∃ acc,S3[n]? = some acc/\acc.length<1000/\zgL n g zaS te fin (l.map h) τ1 (S3.set n (acc++[e])) else zgL n g zaS te fin (l.map h) τ1 S2
   simp only [zaS,↓reduceIte];rw [length_cons] at hl;refine el x mem_cons_self τ acc (fun τ1 x S3=>asD x fun e=>∃ acc,S3[n]? = some acc/\acc.length<1000/\zgL n g zaS te fin (l.map h) τ1 (S3.set n (acc++[e]))) hP fun τ' hP'=>?_;refine⟨acc,by rw [<- hn,getElem?_concat_length],by omega,?_⟩;rw [ziW hn];refine ih (acc++[f x]) τ' hP' (by rw [length_append,length_singleton]; omega) (fun e m=>el e (mem_cons_of_mem _ m)) ?_;rw [append_assoc];exact hh
 exact go l [] τ hP (by simpa using hl) el (by simpa using hf)
theorem cmp1{h:α->PyData}(f:α->PyData)(hn:S0.length=n)(l:List α){u:Option XV}(hl:l.length<=1000)
  (el:∀ x∈l,∀ (u:Option XV) acc (R:XE->RX),(∀ u',R (u' :: caps) (.d (f x)) (S0++[acc]))->g (.d (h x)) (u :: caps) (S0++[acc]) fun τ1 S1=>te τ1 S1 (R τ1)) (hf:fin (S0++[l.map f])):zgL n g zaS te fin (l.map h) (u :: caps) (S0++[[]]) :=
 zlj (fun τ=>∃ u,τ=u :: caps) hn l _ ⟨u,rfl⟩ hl (fun x m τ acc R ⟨u,e⟩ k=>by subst e; exact el x m u acc R fun u'=>k _ ⟨u',rfl⟩) hf
theorem cmp2{h:α->PyData}(f:α->PyData)(hn:S0.length=n)(l:List α){u v:Option XV}(hl:l.length<=1000)
  (el:∀ x∈l,∀ (u v:Option XV) acc (R:XE->RX),(∀ u' v',R (u' :: v' :: caps) (.d (f x)) (S0++[acc]))->g (.d (h x)) (u :: v :: caps) (S0++[acc]) fun τ1 S1=>te τ1 S1 (R τ1)) (hf:fin (S0++[l.map f])):zgL n g zaS te fin (l.map h) (u :: v :: caps) (S0++[[]]) :=
 zlj (fun τ=>∃ u v,τ=u :: v :: caps) hn l _ ⟨u,v,rfl⟩ hl (fun x m τ acc R ⟨u,v,e⟩ k=>by subst e; exact el x m u v acc R fun u' v'=>k _ ⟨u',v',rfl⟩) hf
theorem cmp3{h:α->PyData}(f:α->PyData)(hn:S0.length=n)(l:List α){u v w:Option XV}(hl:l.length<=1000)
  (el:∀ x∈l,∀ (u v w:Option XV) acc (R:XE->RX),(∀ u' v' w',R (u' :: v' :: w' :: caps) (.d (f x)) (S0++[acc]))->g (.d (h x)) (u :: v :: w :: caps) (S0++[acc]) fun τ1 S1=>te τ1 S1 (R τ1)) (hf:fin (S0++[l.map f])):zgL n g zaS te fin (l.map h) (u :: v :: w :: caps) (S0++[[]]) :=
 zlj (fun τ=>∃ u v w,τ=u :: v :: w :: caps) hn l _ ⟨u,v,w,rfl⟩ hl (fun x m τ acc R ⟨u,v,w,e⟩ k=>by subst e; exact el x m u v w acc R fun u' v' w'=>k _ ⟨u',v',w',rfl⟩) hf
end
end
section
@[irreducible] def QSs (X:Cx) (st:List Stmt) (t:TS):Prop:=PSs X st t
theorem QSs.out{X:Cx}{st:List Stmt}{t:TS}(h:QSs X st t):PSs X st t:=by unfold QSs at h; exact h
@[irreducible] def QA (X:Cx) (es:List Expr) (t:TA):Prop:=PA X es t
theorem QA.out{X:Cx}{es:List Expr}{t:TA}(h:QA X es t):PA X es t:=by unfold QA at h; exact h
theorem QA.mk{X:Cx}{es:List Expr}{t:TA}(h:PA X es t):QA X es t:=by unfold QA; exact h
theorem zmV{X:Cx}:QA X [] zo3:=QA.mk zf
theorem zbu{X:Cx}{e:Expr}{es:List Expr}{te:TE}{t:TA}(ha:PE X e te)(hr:QA X es t)(hs:starEach (e :: es) X.env=(false,eval e X.env) :: starEach es X.env:=by rfl):QA X (e :: es) (zjh te t):=QA.mk (zc ha hr.out hs)
theorem zkW{X:Cx}{es:List Expr}{t:TA}{pos:Pos}(h:QA X es t):PE X (.List es pos) (zo7 t):=zbS h.out
@[irreducible] def QS (X:Cx) (st:Stmt) (t:TS):Prop:=PS X st t
theorem QS.out{X:Cx}{st:Stmt}{t:TS}(h:QS X st t):PS X st t:=by unfold QS at h; exact h
end
section
def PJ(X:Cx)(vs:List Expr)(t:Str->TE):Prop :=
 ∀ (out:Str) (zh:List (Addr×Obj)) (s:Shared) (σ:St) (H:Hp) (Q:VK),Inv X zh σ H s->t out σ H Q->wpAny (model X.prog X.w) X.A (joinParts out (evalEach vs X.env)) (EP X zh σ Q) X.xe s
def zrM:Str->TE:=fun out _ H Q=>out.length<=sizeLine/\Q (.str out) H
def zpn(te:TE)(t:Str->TE):Str->TE:=fun out σ H Q=>te σ H fun v H1=>∃ y:Str,v=.str y/\(out++y).length<=sizeLine/\t (out++y) σ H1 Q
def zrl(te:TE):TE:=fun σ H Q=>te σ H fun v H1=>(∃ x:Str,v=.str x/\x.length<=sizeLine/\Q (.str x) H1)\/(∃ i:Int,v=.int i/\i.natAbs.log2<1920/\Q (.str (toString i)) H1)
section
variable {X:Cx}
theorem zqU:PJ X [] zrM:=by
 intro out zh s σ H Q I h;exact joinParts_nil ⟨.str out,H,I.kept (fun b o e=>e),⟨_,rfl⟩,h.2⟩ h.1
theorem zei{v:Expr}{vs:List Expr}{te:TE}{t:Str->TE}(hv:PE X v te)(hr:PJ X vs t):PJ X (v :: vs) (zpn te t):=by
 intro out zh s σ H Q I h;show wpAny _ _ (joinParts out (eval v X.env :: evalEach vs X.env)) _ _ s;refine joinParts_cons (thn (hv zh s σ H _ I h) fun u s1 ⟨z,H1,I1,r,y,e,hz,q⟩=>?_);subst e;obtain⟨tk,rfl⟩:=r;exact⟨hz,hr _ zh s1 σ H1 Q I1 q⟩
theorem znV{v1 v2:Expr}{rest:List Expr}{pos:Pos}{t:Str->TE}(h:PJ X (v1 :: v2 :: rest) t):PE X (.JoinedStr (v1 :: v2 :: rest) pos) (t Str.empty):=by
 intro zh s σ H Q I hq;exact JoinedStr_many (h Str.empty zh s σ H Q I hq)
theorem zkB{v:Expr}{pos:Pos}{te:TE}(hv:PE X v te):PE X (.FormattedValue v (-1) none pos) (zrl te):=by
 intro zh s σ H Q I h;refine FormattedValue_plain (thn (hv zh s σ H _ I h) fun u s1 ⟨z,H1,I1,r,q⟩=>?_);rcases q with ⟨x,rfl,hz,q⟩ | ⟨i,rfl,hi,q⟩
 ·obtain⟨tk,rfl⟩:=r;exact formatField_str (fun t' tk'=>⟨.str x,H1,I1.kept (fun b o e=>e),⟨_,rfl⟩,q⟩) hz
 ·obtain⟨tk,rfl⟩:=r;exact formatField_int_small hi ⟨.str (toString i),H1,I1.kept (fun b o e=>e),⟨_,rfl⟩,q⟩
end
def zlU:Str->DE:=fun out _ S R=>out.length<=sizeLine/\R (.d (.str out)) S
def zdX(d:DE)(t:Str->DE):Str->DE:=fun out δ S R=>d δ S fun x S1=>asS x fun y=>(out++y).length<=sizeLine/\t (out++y) δ S1 R
def zmf(t:Str->DE):DE:=t Str.empty
def zmu(d:DE):DE:=fun δ S R=>d δ S fun x S1=>asS x fun z=>z.length<=sizeLine/\R (.d (.str z)) S1
def zlo(d:DE):DE:=fun δ S R=>d δ S fun x S1=>asI x fun i=>i.natAbs.log2<1920/\R (.d (.str (toString i))) S1
def RJ(t:Str->TE)(d:Str->DE):Prop:=∀ out,RE (t out) (d out)
theorem zpT:RJ zrM zlU:=fun out h o H δ σ S R Q he hs q c=>⟨q.1,c o H S _ _ Ex.refl hs (xS _) q.2⟩
theorem zeu{ta:TE}{da:DE}{t:Str->TE}{d:Str->DE}(ha:RE ta da)(hb:RJ t d):RJ (zpn ta t) (zdX da d):=fun out h o H δ σ S R Q he hs q c =>
 ha h o H δ σ S _ _ he hs q fun o1 H1 S1 x v e1 s1 x1 d1=>by
  obtain⟨y,rfl,hz,d2⟩:=zb4 d1;exact⟨y,zaQ x1,hz,hb _ h o1 H1 δ σ S1 R Q (he.mono e1) s1 d2 (c.pre e1)⟩
theorem zok{t:Str->TE}{d:Str->DE}(h:RJ t d):RE (t Str.empty) (zmf d):=h Str.empty
theorem znU{ta:TE}{da:DE}(ha:RE ta da):RE (zrl ta) (zmu da):=fun h o H δ σ S R Q he hs q c =>
 ha h o H δ σ S _ _ he hs q fun o1 H1 S1 x v e1 s1 x1 d1=>by
  obtain⟨y,rfl,hz,d2⟩:=zb4 d1;exact .inl ⟨y,zaQ x1,hz,c.pre e1 o1 H1 S1 _ _ Ex.refl s1 (xS _) d2⟩
theorem zj0{ta:TE}{da:DE}(ha:RE ta da):RE (zrl ta) (zlo da):=fun h o H δ σ S R Q he hs q c =>
 ha h o H δ σ S _ _ he hs q fun o1 H1 S1 x v e1 s1 x1 d1=>by
  obtain⟨i,rfl,hz,d2⟩:=zaR d1;exact .inr ⟨i,zaB x1,hz,c.pre e1 o1 H1 S1 _ _ Ex.refl s1 (xS _) d2⟩
def zr2:R2:=fun x y H Q=>∃ i j:Str,x=.str i/\y=.str j/\Q (.bl (!decide (i=j))) H
theorem zpp{X:Cx}:OpR X (compareOp .NotEq) zr2:=by
 intro zh s σ H x y v u Q I rx ry h;obtain⟨i,j,rfl,rfl,q⟩:=h;obtain⟨t,rfl⟩:=rx;obtain⟨t',rfl⟩:=ry;refine ne_str ⟨.bl _,H,I,rfl,?_⟩;have e:(i != j) = !decide (i=j):=by
  by_cases z:i=j
  ·subst z; simp
  ·simp [z]
 rw [e];exact q
def zq6:D2:=fun x y S R=>asS x fun i=>asS y fun j=>R (.d (.bool (!decide (i=j)))) S
theorem zpz:RO zr2 zq6:=fun h o H S x y v u R Q hs hx hy q c=>by
 obtain⟨i,rfl,q1⟩:=zb4 q;obtain⟨j,rfl,q2⟩:=zb4 q1;exact⟨i,j,zaQ hx,zaQ hy,c o H S _ _ Ex.refl hs (xB _) q2⟩
end
end L2
namespace HT
open PySem PyProof.Rows
end HT
namespace L2
open PySem PySem.Spec PyProof.Rows
section
def zrV:D3:=fun x i j S R=>asT x fun ds=>R (.d (.tuple (zha ds i j))) S
end
section
theorem Df.none{P:Program}{w:World}{K:W.Frag}{mg:Str->Option Value}{base:Heap}{x:Str}{st:Stmt}{ps:List Str}{k:Nat}(D:Dd K mg x st ps):Df P w K mg base x ps k (spN ps fun _ _ _=>False):=by
 obtain⟨f,fd,F,hm,hb⟩:=D.ex;have no:∀ {vs H Q E},spN ps (fun _ _ _=>False) vs H Q E->False:=fun {vs H Q E} h=>by
  obtain⟨_,h,o,S,xs,R,_,_,q,_⟩:=h;exact q
 exact⟨f,fd,⟨fun _ _ _ _ h=>(no h).elim,fun _ _ _ _ _ _ _ _ _ _ _ _ _ h=>(no h).elim⟩,hm,F.kp,hb⟩
end
section
@[irreducible] def QE (X:Cx) (e:Expr) (t:TE):Prop:=PE X e t
theorem QE.out{X:Cx}{e:Expr}{t:TE}(h:QE X e t):PE X e t:=by unfold QE at h; exact h
end
end L2
namespace L2
open PySem PySem.Spec PySem.Calls PyProof.Rows PySem.W
end L2
namespace L2
open PySem PySem.Spec PyProof.Rows
section
theorem zj6:bootBuiltins "tuple" = some (.type "tuple"):=by decide +kernel
def zse:D2:=fun x y S R=>asT x fun ds=>asT y fun es=>∃ ns,ds=ns.map PyData.int/\∃ ms,es=ms.map PyData.int/\R (.d (.bool (HT.lexLt ns ms))) S
end
section
open Sem (wp)
abbrev IsT (h:Heap) (T:Addr) (xs:Array Value):Prop:=h.get? T=some { cls:=.type "tuple",data:=.seq xs }
section
variable {prog:Program} {w:World} {A:Around} {E:Value->Shared->Prop} {s:Shared}
structure Z4(h:Heap)(N a b c d:Addr)(k:Nat)(f:Value)(own:Array Value):Prop where
 hz:IsZip h (N+6) (N+4) (N+5) f
 hp:IsT h (N+4) #[.ref N,.ref (N+1),.ref (N+2),.ref (N+3)]
 hr:IsT h (N+5) own
 ho:own.size=4
 i1:ItK true h N a k
 i2:ItK true h (N+1) b k
 i3:ItK true h (N+2) c k
 i4:ItK true h (N+3) d k
end
end
section
open Sem (wp)
namespace F4
end F4
end
section
namespace F4
end F4
end
section
namespace F4
end F4
end
section
namespace F4
end F4
end
end L2
namespace L2
open PySem PySem.Spec PySem.Calls PyProof.Rows PySem.W PySem.Builtin PySem.Builtin.ObjectAttr PySem.Builtin.Getset_descriptor
end L2
namespace L2
open PySem PySem.Spec PySem.Calls PyProof.Rows
end L2
namespace L2
open PySem PySem.Spec PyProof.Rows
section
abbrev EXD:=Addr->List (Str×PyData)->Prop
abbrev PX:=List XV->Sto->RX->EXD->Prop
def CnX(h o:List Addr)(H:Hp)(EX:EXD)(E:XK):Prop:=∀ o' H' S' C a fs,Ex o H o' H'->RepS h o' H' S'->HasE (vx h o' H') C fs (.ref a)->EX C fs->E (.ref C) (some a) H'
theorem CnX.pre{h o o':List Addr}{H H':Hp}{EX:EXD}{E:XK}(c:CnX h o H EX E)(e:Ex o H o' H'):CnX h o' H' EX E:=fun o2 H2 S2 C a fs e2=>c o2 H2 S2 C a fs (e.trans e2)
def RSx(E:XK)(EX:EXD)(t:TS)(dt:DS):Prop:=∀ (h o:List Addr) (H:Hp) (δ:XE) (σ:St) (S:Sto) (En:DEnds) (D:Ends),RepE h o H δ σ->RepS h o H S->dt En δ S->EOk h o H En D->CnX h o H EX E->t D σ H
section
variable {E:XK} {EX:EXD} {t u:TS} {dt du:DS}
theorem zoN(ht:RS t dt):RSx E EX t dt:=fun h o H δ σ S En D he hs q c _=>ht h o H δ σ S En D he hs q c
end
end
end L2
namespace L2
open PySem PySem.Spec PySem.Calls PyProof.Rows PySem.W PySem.Builtin PySem.Builtin.ObjectAttr
end L2
namespace L2
open PySem PySem.Spec PySem.Calls PyProof.Rows PySem.W
end L2
namespace L2
open PySem PySem.Spec PySem.Calls PyProof.Rows
end L2
namespace L2
open PySem PySem.Spec PySem.Calls PyProof.Rows
end L2
namespace L2
open PySem PySem.Spec PyProof.Rows
section
def zkJ(EX:EXD)(C:Addr)(ns:List Str)(da:DA):DS:=fun _ δ S=>da δ S fun xs _=>∃ ds,datas xs=some ds/\ds.length=ns.length/\EX C (ns.zip ds)
end
end L2
namespace L2
open PySem PySem.Spec PySem.Calls PyProof.Rows
end L2
namespace L2
open PySem PySem.Spec PyProof.Rows
section
abbrev Phi:=List Addr->List Addr->Hp->Prop
class Stb (Φ:Phi):Prop where
 st:∀ {h o o':List Addr} {H H':Hp},Φ h o H->Ex o H o' H'->Φ h o' H'
def REp(Φ:Phi)(t:TE)(dt:DE):Prop:=∀ (h o:List Addr) (H:Hp) (δ:XE) (σ:St) (S:Sto) (R:RX) (Q:VK),RepE h o H δ σ->RepS h o H S->dt δ S R->Cn h o H R Q->Φ h o H->t σ H Q
def RTp(Φ:Phi)(t:TT)(dt:DT):Prop:=∀ (h o:List Addr) (H:Hp) (δ:XE) (σ:St) (S:Sto) (R:Bool->Sto->Prop) (Q:Bool->Hp->Prop),RepE h o H δ σ->RepS h o H S->dt δ S R ->
 (∀ o' H' S' b,Ex o H o' H'->RepS h o' H' S'->R b S'->Q b H')->Φ h o H->t σ H Q
def RIp(Φ:Phi)(w:TI)(di:DI):Prop:=∀ (h o:List Addr) (H:Hp) (δ:XE) (σ:St) (S:Sto) (R:List PyData->Sto->Prop) (Q:It->Hp->Prop),RepE h o H δ σ->RepS h o H S->di δ S R ->
 (∀ o' H' S' ds J,Ex o H o' H'->RepS h o' H' S'->WalkX h o' H' J ds->R ds S'->Q J H')->Φ h o H->w σ H Q
section
variable {Φ:Phi} [Stb Φ] {ta tb te:TE} {da db de:DE} {tl:TA} {dl:DA} {tt tu:TT} {dt du:DT}
theorem zgj(a:RE te de):REp Φ te de:=fun h o H δ σ S R Q he hs q c _=>a h o H δ σ S R Q he hs q c
theorem zoV(a:RT tt dt):RTp Φ tt dt:=fun h o H δ σ S R Q he hs q c _=>a h o H δ σ S R Q he hs q c
theorem zoM{w:TI}{di:DI}(a:RI w di):RIp Φ w di:=fun h o H δ σ S R Q he hs q c _=>a h o H δ σ S R Q he hs q c
theorem zss(ha:REp Φ ta da):RTp Φ (zln ta) (dB da):=fun h o H δ σ S R Q he hs q c w =>
 ha h o H δ σ S _ _ he hs q (fun o1 H1 S1 x v e1 s1 x1 d1=>by
  replace d1:=zgP d1;obtain⟨b,rfl,d1⟩:=d1;exact⟨b,zdz x1,c o1 H1 S1 b e1 s1 d1⟩) w
end
section
variable {E:XK} {EX:EXD} {ta tb te:TE} {da db de:DE} {tl:TA} {dl:DA} {tt tu:TT} {dt du:DT}
def zny(EX:EXD)(m:Nat)(q:PX)(da:DA):DE:=fun δ S R=>da δ S fun xs S1=>∃ ds,datas xs=some ds/\ds.length=m/\q (ds.map XV.d) [] (ret0 S1 R) EX
end
def zrN(N P:List Str)(sc:Scope):Bool:=decide (sc.kind=.function) && !sc.isCoroutine && !sc.isGenerator && decide N.Nodup && decide (N.take P.length=P) && P.all (fun x=>decide (sc.names.lookup x=some .local) || decide (sc.names.lookup x=some .cell)) && sc.names.all fun y=>decide (y.2≠.free)
theorem fsc{N P:List Str}{sc:Scope}(h:zrN N P sc=true):FnScope N P sc:=by
 simp only [zrN,Bool.and_eq_true,decide_eq_true_eq,Bool.not_eq_true',all_eq_true,Bool.or_eq_true] at h;obtain⟨⟨⟨⟨⟨⟨h1,h2⟩,h3⟩,h4⟩,h5⟩,h6⟩,h7⟩:=h;exact⟨h1,h2,h3,h4,h5,h6,h7⟩
end
section
section
variable {κ α:Type} [DecidableEq κ]
def lkA(m:List (κ×α))(k:κ):Option α:=(m.find? fun p=>decide (p.1=k)).map (·.2)
def ptA(m:List (κ×α))(k:κ)(v:α):List (κ×α):=if (m.any fun p=>decide (p.1=k))=true then m.map (fun p=>if p.1=k then (p.1,v) else p) else m++[(k,v)]
def HasM(H:Hp):List (κ×PyData)->List (κ×V)->Prop
 | [],m=>m=[]
 | p :: r,m=>∃ v m',m=(p.1,v) :: m'/\Has H p.2 v/\HasM H r m'
theorem HasM.mono{H H':Hp}(s:Same H H'):∀ {m:List (κ×PyData)} {m':List (κ×V)},HasM H m m'->HasM H' m m'
 | [],_,q=>q
 | p :: r,_,⟨v,t,e,q,l⟩=>⟨v,t,e,Has.mono s _ _ q,HasM.mono s l⟩
theorem HasM.length{H:Hp}:∀ {m:List (κ×PyData)} {m':List (κ×V)},HasM H m m'->m'.length=m.length
 | [],_,q=>by rw [show _=[] from q]; rfl
 | p :: r,_,⟨v,t,e,q,l⟩=>by rw [e,length_cons,length_cons,HasM.length l]
theorem HasM.val{H:Hp}(k:κ):∀ {m:List (κ×PyData)} {m':List (κ×V)},HasM H m m'->(lkA m k=none/\zjR m' k=none)\/∃ d v,lkA m k=some d/\zjR m' k=some v/\Has H d v
 | [],m',q=>by rw [show m'=[] from q]; exact .inl ⟨rfl,rfl⟩
 | p :: r,m',⟨v,t,e,q,l⟩=>by
  subst e;by_cases hk:p.1=k
  ·exact .inr ⟨p.2,v,by simp [lkA,hk],zeO hk,q⟩
  ·have e1:lkA (p :: r) k=lkA r k:=by simp [lkA,hk]
   rw [e1,zeZ hk];exact HasM.val k l
theorem HasM.any{H:Hp}(k:κ):∀ {m:List (κ×PyData)} {m':List (κ×V)},HasM H m m'->(m'.any fun p=>decide (p.1=k))=m.any fun p=>decide (p.1=k)
 | [],m',q=>by rw [show m'=[] from q]; rfl
 | p :: r,m',⟨v,t,e,q,l⟩=>by
  subst e;rw [any_cons,any_cons,HasM.any k l]
theorem HasM.sets{H:Hp}{k:κ}{d:PyData}{v:V}(hv:Has H d v):∀ {m:List (κ×PyData)} {m':List (κ×V)},HasM H m m'->HasM H (m.map fun p=>if p.1=k then (p.1,d) else p) (m'.map fun p=>if p.1=k then (p.1,v) else p)
 | [],m',q=>by rw [show m'=[] from q]; rfl
 | p :: r,m',⟨u,t,e,q,l⟩=>by
  subst e;rw [map_cons,map_cons];by_cases hk:p.1=k
  ·exact⟨v,_,by simp [hk],by simpa [hk] using hv,HasM.sets hv l⟩
  ·exact⟨u,_,by simp [hk],by simpa [hk] using q,HasM.sets hv l⟩
theorem HasM.snoc{H:Hp}{k:κ}{d:PyData}{v:V}(hv:Has H d v):∀ {m:List (κ×PyData)} {m':List (κ×V)},HasM H m m'->HasM H (m++[(k,d)]) (m'++[(k,v)])
 | [],m',q=>by rw [show m'=[] from q]; exact⟨v,[],rfl,hv,rfl⟩
 | p :: r,m',⟨u,t,e,q,l⟩=>by subst e; exact⟨u,_,rfl,q,HasM.snoc hv l⟩
theorem HasM.put{H:Hp}{k:κ}{d:PyData}{v:V}{m:List (κ×PyData)}{m':List (κ×V)}(l:HasM H m m')(hv:Has H d v):HasM H (ptA m k d) (zhM m' k v):=by
 unfold ptA zhM;rw [l.any k];split
 ·exact l.sets hv
 ·exact l.snoc hv
end
inductive DD where
 | k (m:List (Key×PyData))
 | t (m:List (List Key×PyData))
def DD.pairs:DD->List (PyData×PyData)
 | .k m=>m.map fun p=>(kD p.1,p.2)
 | .t m=>m.map fun p=>(.tuple (p.1.map kD),p.2)
def DD.len:DD->Nat
 | .k m=>m.length
 | .t m=>m.length
def zlS:PyData->Option Key
 | .int i=>some (.inl i)
 | .str x=>some (.inr x)
 | _=>none
def zjb:List PyData->Option (List Key)
 | []=>some []
 | d :: ds=>(zlS d).bind fun k=>(zjb ds).map (k :: ·)
def zog:PyData->Option (List Key)
 | .tuple ds=>zjb ds
 | _=>none
def DD.get:DD->PyData->Option (Option PyData)
 | .k m,y=>(zlS y).map (lkA m)
 | .t m,y=>(zog y).map (lkA m)
def DD.put:DD->PyData->PyData->Option DD
 | .k m,y,d=>(zlS y).map fun k=>.k (ptA m k d)
 | .t m,y,d=>(zog y).map fun k=>.t (ptA m k d)
def RAt(G H:Hp)(a:Addr):DD->Prop
 | .k m=>∃ m',Rd H a (.dK m')/\HasM G m m'
 | .t m=>∃ m',Rd H a (.dT m')/\HasM G m m'
def DAt(G H:Hp)(a:Addr):DD->Prop
 | .k m=>∃ m',H a=some (.dK m')/\HasM G m m'
 | .t m=>∃ m',H a=some (.dT m')/\HasM G m m'
theorem zgn{H:Hp}{y:PyData}{v:V}{k:Key}(e:zlS y=some k)(q:Has H y v):v=kV k:=by
 cases y with
 | int i=>cases e; exact zbV.mp q
 | str x=>cases e; exact zbP.mp q
 | _=>cases e
theorem zg2{H:Hp}:∀ {ds:List PyData} {vs:List V} {ks:List Key},zjb ds=some ks->HasL H ds vs->vs=ks.map kV
 | [],vs,ks,e,l=>by cases e; exact zw.mp l
 | d :: ds,vs,ks,e,l=>by
  obtain⟨v,r,rfl,q,l⟩:=zu.mp l;unfold zjb at e;cases hk:zlS d with
  | none=>rw [hk] at e; cases e
  | some k =>
   rw [hk,Option.bind_some] at e;cases hs:zjb ds with
   | none=>rw [hs] at e; cases e
   | some ks' =>
    rw [hs] at e;cases e;rw [zgn hk q,zg2 hs l];rfl
theorem zix{H:Hp}{y:PyData}{v:V}{ks:List Key}(e:zog y=some ks)(q:Has H y v):∃ b,v=.ref b/\H b=some (.tup (ks.map kV)):=by
 cases y with
 | tuple ds =>
  obtain⟨b,vs,rfl,eb,l⟩:=zai.mp q;exact⟨b,rfl,by rw [<- zg2 (show zjb ds=some ks from e) l]; exact eb⟩
 | _=>cases e
theorem DAt.mono{G G' H H':Hp}{a:Addr}{D:DD}(s:Same G G')(e:∀ u,H a=some u->H' a=some u)(q:DAt G H a D):DAt G' H' a D:=by
 cases D with
 | k m=>obtain⟨m',e1,l⟩:=q; exact⟨m',e _ e1,l.mono s⟩
 | t m=>obtain⟨m',e1,l⟩:=q; exact⟨m',e _ e1,l.mono s⟩
theorem DAt.rd{G H:Hp}{a:Addr}{D:DD}(q:DAt G H a D):RAt G H a D:=by
 cases D with
 | k m=>obtain⟨m',e1,l⟩:=q; exact⟨m',.inl e1,l⟩
 | t m=>obtain⟨m',e1,l⟩:=q; exact⟨m',.inl e1,l⟩
theorem DAt.mo{G H:Hp}{a:Addr}{D:DD}(q:DAt G H a D):∃ u:MO,H a=some u.ho:=by
 cases D with
 | k m=>obtain⟨m',e1,l⟩:=q; exact⟨.k m',e1⟩
 | t m=>obtain⟨m',e1,l⟩:=q; exact⟨.t m',e1⟩
def RelD(G:Hp):Option PyData->Option V->Prop
 | none,r=>r=none
 | some d,r=>∃ u,r=some u/\Has G d u
theorem RAt.get{G H:Hp}{a:Addr}{D:DD}{y:PyData}{v:V}{o:Option PyData}(sv:Same G H)(q:RAt G H a D)(hy:Has G y v)(e:D.get y=some o):∃ r,DGet H a v r/\RelD G o r:=by
 cases D with
 | k m =>
  obtain⟨m',e1,l⟩:=q;replace e:(zlS y).map (lkA m)=some o:=e;cases hk:zlS y with
  | none=>rw [hk] at e; cases e
  | some k =>
   rw [hk] at e;cases e;rw [zgn hk hy];refine⟨_,.inl ⟨m',k,e1,rfl,rfl⟩,?_⟩;rcases l.val k with ⟨z1,z2⟩ | ⟨d,u,z1,z2,z3⟩
   ·rw [z1]; exact z2
   ·rw [z1]; exact⟨u,z2,z3⟩
 | t m =>
  obtain⟨m',e1,l⟩:=q;replace e:(zog y).map (lkA m)=some o:=e;cases hk:zog y with
  | none=>rw [hk] at e; cases e
  | some k =>
   rw [hk] at e;cases e;obtain⟨b,rfl,eb⟩:=zix hk hy;refine⟨_,.inr ⟨m',k,b,e1,rfl,sv _ _ eb,rfl⟩,?_⟩;rcases l.val k with ⟨z1,z2⟩ | ⟨d,u,z1,z2,z3⟩
   ·rw [z1]; exact z2
   ·rw [z1]; exact⟨u,z2,z3⟩
theorem DAt.put{G H:Hp}{a:Addr}{D D':DD}{y d:PyData}{v u:V}(sv:Same G H)(q:DAt G H a D)(hy:Has G y v)(hd:Has G d u)(e:D.put y d=some D')(hl:D.len<1000):
  ∃ x:MO,DPut H a v u (upd H a x.ho)/\∀ H',H' a=some x.ho->DAt G H' a D':=by
 cases D with
 | k m =>
  obtain⟨m',e1,l⟩:=q;replace e:((zlS y).map fun k=>DD.k (ptA m k d))=some D':=e;cases hk:zlS y with
  | none=>rw [hk] at e; cases e
  | some k =>
   rw [hk] at e;cases e;rw [zgn hk hy];exact⟨.k (zhM m' k u),DPut.k e1 (by rw [l.length]; exact small1000 (le_of_lt hl)),fun H' z=>⟨_,z,l.put hd⟩⟩
 | t m =>
  obtain⟨m',e1,l⟩:=q;replace e:((zog y).map fun k=>DD.t (ptA m k d))=some D':=e;cases hk:zog y with
  | none=>rw [hk] at e; cases e
  | some k =>
   rw [hk] at e;cases e;obtain⟨b,rfl,eb⟩:=zix hk hy;exact⟨.t (zhM m' k u),DPut.t e1 (sv _ _ eb) (by rw [l.length]; exact small1000 (le_of_lt hl)),fun H' z=>⟨_,z,l.put hd⟩⟩
theorem zpb{a b:Key}(e:kD a=kD b):a=b:=by
 cases a <;> cases b <;> cases e <;> rfl
theorem zkI{H:Hp}:∀ {m:List (Key×PyData)} {m':List (Key×V)},HasM H m m'->HasV H (m.map fun p=>(kD p.1,p.2)) (m'.map (·.2))/\m'.map (fun p=>kD p.1)=m.map fun p=>kD p.1
 | [],m',q=>by rw [show m'=[] from q]; exact⟨zmh.mpr rfl,rfl⟩
 | p :: r,m',⟨v,t,e,q,l⟩=>by
  subst e;obtain⟨z1,z2⟩:=zkI l;exact⟨zhn.mpr ⟨v,_,rfl,q,z1⟩,by rw [map_cons,map_cons,z2]⟩
theorem zj3{H:Hp}:∀ {m:List (Key×PyData)} {m':List (Key×V)},HasV H (m.map fun p=>(kD p.1,p.2)) (m'.map (·.2))->m.map (fun p=>kD p.1)=m'.map (fun p=>kD p.1)->HasM H m m'
 | [],[],_,_=>rfl
 | [],_ :: _,_,e=>by simp at e
 | _ :: _,[],_,e=>by simp at e
 | p :: r,q :: t,h,e=>by
  rw [map_cons,map_cons] at h;obtain⟨v,s,e1,e2,e3⟩:=zhn.mp h;rw [List.cons.injEq] at e1;rw [map_cons,map_cons,List.cons.injEq] at e;have z:=zpb e.1;obtain⟨q1,q2⟩:=q;refine⟨q2,t,by rw [z],?_,zj3 (by rw [e1.2]; exact e3) e.2⟩;have z1:q2=v:=e1.1;rw [z1];exact e2
theorem znb{H:Hp}{m:List (Key×PyData)}{v:V}:Has H (.dict (DD.pairs (.k m))) v↔∃ a ob m',v=.ref a/\H a=some (.frz ob (.dK m'))/\HasM H m m':=by
 rw [ziu];constructor
 ·rintro⟨a,vs,rfl,⟨ob,m',e,e1,e2⟩ | ⟨ob,p,m',e,e1,e2⟩,l⟩
  rotate_left
  ·cases m with
   | nil=>cases e1
   | cons q r =>
    have z:=congrArg List.head? e1;simp only [DD.pairs,map_cons,List.head?_cons,Option.some.injEq] at z;cases h:q.1 <;> rw [h] at z <;> cases z
  subst e2;refine⟨a,ob,m',rfl,e,zj3 l ?_⟩;rw [<- e1];simp [DD.pairs]
 ·rintro⟨a,ob,m',rfl,e,l⟩;obtain⟨z1,z2⟩:=zkI l;exact⟨a,_,rfl,.inl ⟨ob,m',e,by rw [z2]; simp [DD.pairs],rfl⟩,z1⟩
abbrev DM:=List (Addr×DD)
def ad(M:DM):List Addr:=M.map (·.1)
structure RepM(h o:List Addr)(H:Hp)(M:DM):Prop where
 nd:(ad M).Nodup
 nh:∀ a∈ad M,a∉h/\a∉o
 ct:∀ a D,(a,D)∈M->DAt (vx (h++ad M) o H) H a D
section
variable {h o o':List Addr} {H H':Hp} {M:DM} {S:Sto}
theorem RepM.at(r:RepM h o H M){a:Addr}(m:a∈ad M):∃ D,(a,D)∈M/\DAt (vx (h++ad M) o H) H a D:=by
 obtain⟨p,mp,e⟩:=mem_map.mp m;obtain⟨b,D⟩:=p;cases e;exact⟨D,mp,r.ct _ D mp⟩
theorem RepM.mono(r:RepM h o H M)(e:Ex o H o' H'):RepM h o' H' M:=by
 have k1:∀ a∈ad M,∀ u,H a=some u->a∉o'/\H' a=some u:=fun a m u z=>e.kp a u (r.nh a m).2 z;refine⟨r.nd,fun a m=>⟨(r.nh a m).1,?_⟩,fun a D m=>?_⟩
 ·obtain⟨D,_,q⟩:=r.at m;obtain⟨u,z⟩:=q.mo;exact(k1 a m _ z).1
 ·exact(r.ct a D m).mono e.vx fun u z=>(k1 a (mem_map.mpr ⟨_,m,rfl⟩) u z).2
theorem RepM.nil:RepM h o H []:=⟨nodup_nil,fun a m=>(by cases m),fun a D m=>(by cases m)⟩
def zoX(M:DM)(a:Addr)(D:DD):DM:=M.map fun p=>if p.1=a then (a,D) else p
theorem ze0{a:Addr}{D:DD}:∀ {M:DM},ad (zoX M a D)=ad M
 | []=>rfl
 | p :: r=>by
  have z:=ze0 (a:=a) (D:=D) (M:=r);unfold ad zoX at z ⊢;rw [map_cons,map_cons,map_cons,z];by_cases e:p.1=a <;> simp [e]
theorem zfg{a:Addr}{u:HO}(m:a∈h):Same (vx h o H) (vx h o (upd H a u)):=fun b w e=>by
 obtain⟨z1,z2,z3⟩:=zY.mp e;exact zY.mpr ⟨z1,z2,by rw [zF (fun z=>z1 (by rw [z]; exact m))]; exact z3⟩
theorem HasX.view(s:Same (vx h o H) (vx h o H')):∀ {x:XV} {v:V},HasX h o H x v->HasX h o H' x v
 | .d d,v,q=>Has.mono s d v q
 | .l k,v,q=>q
 | .o w,v,q=>q
 | .x C fs,v,q=>HasE.mono s q
theorem RepE.view{δ:XE}{σ:St}(s:Same (vx h o H) (vx h o H'))(r:RepE h o H δ σ):RepE h o H' δ σ:=⟨r.len,fun i x e=>let ⟨v,e1,e2⟩:=r.get i x e; ⟨v,e1,e2.view s⟩⟩
theorem RepS.hidden{a:Addr}{u:MO}(r:RepS h o H S)(m:a∈h):RepS h o (L2.upd H a u.ho) S where
 len:=r.len
 nd:=r.nd
 dis:=r.dis
 hal:=fun b mb=>by
  by_cases e:b=a
  ·subst e; exact⟨u,zaq⟩
  ·obtain⟨w,z⟩:=r.hal b mb;exact⟨w,by rw [zF e]; exact z⟩
 cont:=fun k b ds e1 e2=>by
  obtain⟨vs,e3,l⟩:=r.cont k b ds e1 e2;have ne:b≠a:=fun z=>r.dis b (mem_of_getElem? e1) (z▸m);exact⟨vs,by rw [zF ne]; exact e3,HasL.mono (zfg m) _ _ l⟩
theorem RepM.put{a:Addr}{D D':DD}{u:MO}(r:RepM h o H M)(m:(a,D)∈M)(q:∀ H',H' a=some u.ho->DAt (vx (h++ad M) o H) H' a D'):RepM h o (L2.upd H a u.ho) (zoX M a D'):=by
 have ma:a∈ad M:=mem_map.mpr ⟨_,m,rfl⟩;refine⟨by rw [ze0]; exact r.nd,by rw [ze0]; exact r.nh,fun b D2 mb=>?_⟩;rw [ze0];have sv:Same (vx (h++ad M) o H) (vx (h++ad M) o (L2.upd H a u.ho)):=zfg (mem_append_right _ ma);obtain⟨p,mp,ep⟩:=mem_map.mp mb;by_cases e:p.1=a
 ·rw [if_pos e] at ep;cases ep;exact(q _ zaq).mono sv fun _ z=>z
 ·rw [if_neg e] at ep;subst ep;exact(r.ct _ _ mp).mono sv fun w z=>by rw [zF e]; exact z
theorem RepS.less{l:List Addr}(r:RepS (h++l) o H S):RepS h o H S where
 len:=r.len
 nd:=r.nd
 dis:=fun a ma z=>r.dis a ma (mem_append_left _ z)
 hal:=fun b mb=>r.hal b (mem_append_left _ mb)
 cont:=fun k b ds e1 e2=>by
  obtain⟨vs,e3,q⟩:=r.cont k b ds e1 e2;exact⟨vs,e3,HasL.mono (fun c u z=>let ⟨z1,z2,z3⟩:=zY.mp z; zY.mpr ⟨fun mm=>z1 (mem_append_left _ mm),z2,z3⟩) _ _ q⟩
theorem zfE{l:List Addr}:Same (vx (h++l) o H) (vx h o H):=fun c u z=>let ⟨z1,z2,z3⟩:=zY.mp z; zY.mpr ⟨fun mm=>z1 (mem_append_left _ mm),z2,z3⟩
theorem HasX.less{l:List Addr}:∀ {x:XV} {v:V},HasX (h++l) o H x v->HasX h o H x v
 | .d d,v,q=>Has.mono zfE d v q
 | .l k,v,q=>q
 | .o w,v,q=>q
 | .x C fs,v,q=>HasE.mono zfE q
end
end
section
structure DEndsM where
 nx:XE->Sto->DM->Prop
 rt:XV->Sto->DM->Prop
 bk:XE->Sto->DM->Prop:=fun _ _ _=>False
 ct:XE->Sto->DM->Prop:=fun _ _ _=>False
abbrev DSm:=DEndsM->XE->Sto->DM->Prop
def Fr(H:Hp)(M:DM):Prop:=∀ a∈ad M,H a=none
def NxM(h o:List Addr)(H:Hp)(A:List Addr)(N:XE->Sto->DM->Prop)(Y:St->Hp->Prop):Prop:=∀ o' H' δ' S' M' σ',Ex o H o' H'->ad M'=A->RepE (h++ad M') o' H' δ' σ'->RepS (h++ad M') o' H' S'->RepM h o' H' M'->N δ' S' M'->Y σ' H'
structure EOkM(h o:List Addr)(H:Hp)(A:List Addr)(E:DEndsM)(D:Ends):Prop where
 nx:NxM h o H A E.nx D.nx
 rt:∀ o' H' S' M' x v,Ex o H o' H'->ad M'=A->RepS (h++ad M') o' H' S'->RepM h o' H' M'->HasX (h++ad M') o' H' x v->E.rt x S' M'->D.rt v H'
 bk:NxM h o H A E.bk D.bk
 ct:NxM h o H A E.ct D.ct
def RSm(E:XK)(EX:EXD)(t:TS)(dt:DSm):Prop:=∀ (h o0:List Addr) (H0:Hp) (o:List Addr) (H:Hp) (δ:XE) (σ:St) (S:Sto) (M:DM) (En:DEndsM) (D:Ends),Ex o0 H0 o H->Fr H0 M->RepE (h++ad M) o H δ σ->RepS (h++ad M) o H S->RepM h o H M->dt En δ S M ->
 EOkM h o0 H0 (ad M) En D->CnX h o0 H0 EX E->t D σ H
theorem CnX.inn{E:XK}{EX:EXD}{h o0 o l:List Addr}{H0 H:Hp}(x:CnX h o0 H0 EX E)(e0:Ex o0 H0 o H):CnX (h++l) o H EX E:=fun o' H' S' C a fs e s' hE q=>x o' H' S' C a fs (e0.trans e) s'.less (HasE.mono zfE hE) q
def zfY(dt:DS):DSm:=fun En δ S M=>dt { nx:=fun δ' S'=>En.nx δ' S' M,rt:=fun x S'=>En.rt x S' M,bk:=fun δ' S'=>En.bk δ' S' M,ct:=fun δ' S'=>En.ct δ' S' M } δ S
def zmc(t u:DSm):DSm:=fun En δ S M=>t { En with nx:=u En } δ S M
def zq2(c:DM->DT)(t u:DSm):DSm:=fun En δ S M=>c M δ S fun b S1=>if b=true then t En δ S1 M else u En δ S1 M
def zeB(g:DG)(b:DSm):List PyData->DSm
 | [],E,δ,S,M=>E.nx δ S M
 | d :: ds,E,δ,S,M=>g (.d d) δ S fun δ1 S1=>b { nx:=fun δ2 S2 M2=>zeB g b ds E δ2 S2 M2,ct:=fun δ2 S2 M2=>zeB g b ds E δ2 S2 M2,bk:=E.nx,rt:=E.rt } δ1 S1 M
def zmd(i:DM->DI)(g:DG)(b:DSm):DSm:=fun En δ S M=>i M δ S fun ds S1=>zeB g b ds En δ S1 M
def PhM(M:DM):Phi:=fun h' o H=>∃ h,h'=h++ad M/\RepM h o H M
instance {M:DM}:Stb (PhM M):=⟨fun⟨h,e,r⟩ x=>⟨h,e,r.mono x⟩⟩
section
variable {E:XK} {EX:EXD} {t u:TS} {dt du:DSm}
theorem zmJ{ds:DS}(ht:RSx E EX t ds):RSm E EX t (zfY ds):=fun h o0 H0 o H δ σ S M En D e0 fr he hs rm q c x =>
 ht (h++ad M) o H δ σ S _ D he hs q ⟨fun o' H' δ' S' σ' e he' hs' n=>c.nx o' H' δ' S' M σ' (e0.trans e) rfl he' hs' (rm.mono e) n,fun o' H' S' y v e hs' hy n=>c.rt o' H' S' M y v (e0.trans e) rfl hs' (rm.mono e) hy n,
  fun o' H' δ' S' σ' e he' hs' n=>c.bk o' H' δ' S' M σ' (e0.trans e) rfl he' hs' (rm.mono e) n,fun o' H' δ' S' σ' e he' hs' n=>c.ct o' H' δ' S' M σ' (e0.trans e) rfl he' hs' (rm.mono e) n⟩ (x.inn e0)
theorem zkA{ds:DS}(ht:RS t ds):RSm E EX t (zfY ds):=zmJ (zoN ht)
theorem zpU(ht:RSm E EX t dt)(hu:RSm E EX u du):RSm E EX (zgI t u) (zmc dt du):=fun h o0 H0 o H δ σ S M En D e0 fr he hs rm q c x =>
 ht h o0 H0 o H δ σ S M _ _ e0 fr he hs rm q ⟨fun o1 H1 δ1 S1 M1 σ1 e1 ea he1 hs1 rm1 q1=>hu h o0 H0 o1 H1 δ1 σ1 S1 M1 En D e1 (by unfold Fr; rw [ea]; exact fr) he1 hs1 rm1 q1 (by rw [ea]; exact c) x,c.rt,c.bk,c.ct⟩ x
theorem zrD{tc:TT}{dc:DM->DT}(hc:∀ M,RTp (PhM M) tc (dc M))(ht:RSm E EX t dt)(hu:RSm E EX u du):RSm E EX (zrb tc t u) (zq2 dc dt du):=fun h o0 H0 o H δ σ S M En D e0 fr he hs rm q c x =>
 hc M (h++ad M) o H δ σ S _ _ he hs q (fun o1 H1 S1 b e1 s1 d1=>by
  cases b with
  | true=>exact zmF (ht h o0 H0 o1 H1 δ σ S1 M En D (e0.trans e1) fr (he.mono e1) s1 (rm.mono e1) (by simpa using d1) c x)
  | false=>exact zmE (hu h o0 H0 o1 H1 δ σ S1 M En D (e0.trans e1) fr (he.mono e1) s1 (rm.mono e1) (by simpa using d1) c x)) ⟨h,rfl,rm⟩
theorem zqN{wi:TI}{g:TG}{tb:TS}{di:DM->DI}{dg:DG}{db:DSm}(hi:∀ M,RIp (PhM M) wi (di M))(hg:RG g dg)(hb:RSm E EX tb db):RSm E EX (zqX wi g tb) (zmd di dg db):=fun h o0 H0 o H δ σ S M En D e0 fr he hs rm q c x =>
 hi M (h++ad M) o H δ σ S _ _ he hs q (fun o1 H1 S1 ds J e1 s1 wk d1=>by
  refine⟨fun i m σ2 H2=>m=ds.length - i/\i<=ds.length/\∃ o2 δ2 S2 M2,Ex o0 H0 o2 H2/\ExH (h++ad M) o1 H1 o2 H2/\ad M2=ad M/\RepE (h++ad M) o2 H2 δ2 σ2/\RepS (h++ad M) o2 H2 S2/\RepM h o2 H2 M2/\zeB dg db (ds.drop i) En δ2 S2 M2,
   ⟨ds.length,by simp,zero_le _,o1,δ,S1,M,e0.trans e1,ExH.refl,rfl,he.mono e1,s1,rm.mono e1,d1⟩,?_⟩
  rintro i m σ2 H2 ⟨rfl,hi,o2,δ2,S2,M2,e2,x2,ea,he2,hs2,rm2,d2⟩;by_cases hlt:i<ds.length
  ·have ed:ds[i]? = some ds[i]:=getElem?_eq_getElem hlt;rw [List.drop_eq_getElem_cons hlt] at d2;refine .inr ⟨wk.go i _ o2 H2 x2 ed,fun σ3 H3=>∃ o3 δ3 S3 M3,Ex o0 H0 o3 H3/\ExH (h++ad M) o1 H1 o3 H3/\ad M3=ad M/\RepE (h++ad M) o3 H3 δ3 σ3/\RepS (h++ad M) o3 H3 S3/\RepM h o3 H3 M3/\zeB dg db (ds.drop (i+1)) En δ3 S3 M3,fun σ3 H3 n=>⟨ds.length - (i+1),by omega,rfl,hlt,n⟩,fun y H3 yy=>?_⟩;obtain⟨s3,hx⟩:=wk.yld i _ o2 H2 y H3 S2 x2 hs2 ed yy;have e23:Ex o2 H2 o2 H3:=Ex.of_same s3;refine hg (h++ad M) o2 H3 δ2 σ2 S2 (.d ds[i]) y _ _ (he2.mono e23) (hs2.same s3) hx d2 fun o4 H4 δ4 S4 σ4 e4 he4 hs4 d4=>?_;have e24:Ex o2 H2 o4 H4:=e23.trans e4;have nM:∀ b u,H0 b=some u->b∉ad M:=fun b u z mb=>by
    rw [fr b mb] at z;cases z
   have e04:Ex o0 H0 o4 (fun b=>if b∈ad M then none else H4 b):=⟨(e2.trans e24).pre,fun b u nb z=>by
    obtain⟨z1,z2⟩:=(e2.trans e24).kp b u nb z;exact⟨z1,by show (if b∈ad M then none else H4 b)=some u; rw [if_neg (nM b u z)]; exact z2⟩⟩
   have exh:∀ {o5 H5},Ex o4 (fun b=>if b∈ad M then none else H4 b) o5 H5->ExH (h++ad M) o4 H4 o5 H5:=fun e5=>⟨e5.pre,fun b u n1 n2 z=>e5.kp b u n2 (by show (if b∈ad M then none else H4 b)=some u; rw [if_neg (fun mb=>n1 (mem_append_right _ mb))]; exact z)⟩;have again:∀ o5 H5 δ5 S5 M5 σ5,Ex o4 (fun b=>if b∈ad M then none else H4 b) o5 H5->ad M5=ad M2->RepE (h++ad M5) o5 H5 δ5 σ5->RepS (h++ad M5) o5 H5 S5->RepM h o5 H5 M5->zeB dg db (ds.drop (i+1)) En δ5 S5 M5 ->
     ∃ o3 δ3 S3 M3,Ex o0 H0 o3 H5/\ExH (h++ad M) o1 H1 o3 H5/\ad M3=ad M/\RepE (h++ad M) o3 H5 δ3 σ5/\RepS (h++ad M) o3 H5 S3/\RepM h o3 H5 M3/\zeB dg db (ds.drop (i+1)) En δ3 S3 M3:=fun o5 H5 δ5 S5 M5 σ5 e5 a5 he5 hs5 rm5 d5 =>
    ⟨o5,δ5,S5,M5,e04.trans e5,(x2.trans e24.hid).trans (exh e5),a5.trans ea,by rw [<- ea,<- a5]; exact he5,by rw [<- ea,<- a5]; exact hs5,rm5,d5⟩
   refine hb h o4 (fun b=>if b∈ad M then none else H4 b) o4 H4 δ4 σ4 S4 M2 _ _ ⟨⟨[],by simp⟩,fun b u nb eb=>?_⟩ (fun a ma=>by show (if a∈ad M then none else H4 a)=none; rw [if_pos (by rw [<- ea]; exact ma)]) (by rw [ea]; exact he4) (by rw [ea]; exact hs4) (rm2.mono e24) d4
    ⟨again,fun o5 H5 S5 M5 y5 v5 e5 a5 hs5 rm5 hx5 q5=>c.rt o5 H5 S5 M5 y5 v5 (e04.trans e5) (a5.trans ea) hs5 rm5 hx5 q5,fun o5 H5 δ5 S5 M5 σ5 e5 a5 he5 hs5 rm5 q5=>c.nx o5 H5 δ5 S5 M5 σ5 (e04.trans e5) (a5.trans ea) he5 hs5 rm5 q5,again⟩ (x.pre e04)
   refine⟨nb,?_⟩;by_cases mb:b∈ad M
   ·simp [mb] at eb
   ·simpa [mb] using eb
  ·have ei:i=ds.length:=by omega
   subst ei;rw [drop_length] at d2;exact .inl ⟨wk.stop _ o2 H2 x2 (le_refl _),c.nx o2 H2 δ2 S2 M2 σ2 e2 ea (by rw [ea]; exact he2) (by rw [ea]; exact hs2) rm2 d2⟩) ⟨h,rfl,rm⟩
end
end
section
section
variable {h h' o:List Addr} {H H':Hp}
theorem HasX.to(s:Same (vx h o H) (vx h' o H')):∀ {x:XV} {v:V},HasX h o H x v->HasX h' o H' x v
 | .d d,v,q=>Has.mono s d v q
 | .l k,v,q=>q
 | .o w,v,q=>q
 | .x C fs,v,q=>HasE.mono s q
theorem RepE.to{δ:XE}{σ:St}(s:Same (vx h o H) (vx h' o H'))(r:RepE h o H δ σ):RepE h' o H' δ σ:=⟨r.len,fun i x e=>let ⟨v,e1,e2⟩:=r.get i x e; ⟨v,e1,e2.to s⟩⟩
end
def zpJ(a:Addr)(m:List (Key×PyData)):XV->XV
 | .o (.ref b)=>if b=a then .d (.dict (DD.pairs (.k m))) else .o (.ref b)
 | x=>x
theorem zqE{h h' o:List Addr}{H H':Hp}{a:Addr}{m:List (Key×PyData)}{m':List (Key×V)}{ob:Obj}(s:Same (vx h o H) (vx h' o H'))(e:vx h' o H' a=some (.frz ob (.dK m')))(l:HasM (vx h o H) m m'):∀ {x:XV} {v:V},HasX h o H x v->HasX h' o H' (zpJ a m x) v
 | .d d,v,z=>Has.mono s d v z
 | .l k,v,z=>z
 | .x C fs,v,z=>HasE.mono s z
 | .o w,v,z=>by
  cases w with
  | ref b =>
   unfold zpJ;dsimp only;split
   ·rename_i eb;subst eb;rw [show v=.ref b from z];exact znb.mpr ⟨b,ob,m',rfl,e,l.mono s⟩
   ·exact z
  | _=>exact z
theorem zmb{h h' o:List Addr}{H H':Hp}{a:Addr}{m:List (Key×PyData)}{m':List (Key×V)}{ob:Obj}{δ:XE}{σ:St}(s:Same (vx h o H) (vx h' o H'))(e:vx h' o H' a=some (.frz ob (.dK m')))(l:HasM (vx h o H) m m')(r:RepE h o H δ σ):RepE h' o H' (δ.map (Option.map (zpJ a m))) σ:=by
 refine⟨by rw [length_map]; exact r.len,fun i x ex=>?_⟩;rw [getElem?_map] at ex;cases hd:δ[i]? with
 | none=>rw [hd] at ex; cases ex
 | some y =>
  rw [hd] at ex;cases y with
  | none=>cases ex
  | some y =>
   cases ex;obtain⟨v,e1,e2⟩:=r.get i y hd;exact⟨v,e1,zqE s e l e2⟩
theorem zao{M:DM}{a:Addr}{D:DD}:ad (M++[(a,D)])=ad M++[a]:=by simp [ad]
theorem RepM.init{h o:List Addr}{H:Hp}{M:DM}{a:Addr}{D:DD}(r:RepM h o H (M++[(a,D)])):RepM h o H M:=by
 have nd:=r.nd;rw [zao] at nd;refine⟨(nodup_append.mp nd).1,fun b m=>r.nh b (by rw [zao]; exact mem_append_left _ m),fun b D2 m=>?_⟩;have z:=r.ct b D2 (mem_append_left _ m);rw [zao,<- append_assoc] at z;exact z.mono zfE fun _ z=>z
def zjZ(f:Bool)(i:Nat)(D0:DD)(b:DSm):DSm:=fun En δ S M=>∀ a,a∉ad M->b { nx:=(fun δ' S' M'=>if f=true then (∃ M1 m,M'=M1++[(a,.k m)]/\δ'[i]? = some (some (.o (.ref a)))/\En.nx (δ'.map (Option.map (zpJ a m))) S' M1) else (∃ M1 D,M'=M1++[(a,D)]/\En.nx δ' S' M1)),rt:=(fun x S' M'=>∃ M1 D,M'=M1++[(a,D)]/\En.rt x S' M1),bk:=(fun δ' S' M'=>∃ M1 D,M'=M1++[(a,D)]/\En.bk δ' S' M1),ct:=(fun δ' S' M'=>∃ M1 D,M'=M1++[(a,D)]/\En.ct δ' S' M1) } (δ.set i (some (.o (.ref a)))) S (M++[(a,D0)])
section
variable {E:XK} {EX:EXD} {tb:TS} {db:DSm} {i:Nat}
theorem zme{f:Bool}{u:MO}{D0:DD}(hD:∀ (G H:Hp) a,H a=some u.ho->DAt G H a D0)(hb:RSm E EX tb db){h o0:List Addr}{H0:Hp}{o:List Addr}{H:Hp}{δ:XE}{σ:St}{S:Sto}{M:DM}{En:DEndsM}{D:Ends}(e0:Ex o0 H0 o H)(fr:Fr H0 M)(he:RepE (h++ad M) o H δ σ)(hs:RepS (h++ad M) o H S)(rm:RepM h o H M)
  (q:zjZ f i D0 db En δ S M) (c:EOkM h o0 H0 (ad M) En D) (x:CnX h o0 H0 EX E) (p:Addr) (hp:H p=none):(if f=true then zsx i tb else tb) D (σ.set i (some (.ref p))) (upd H p u.ho):=by
 have nM:p∉ad M:=fun m=>by
  obtain⟨D2,_,z⟩:=rm.at m;obtain⟨w,ew⟩:=z.mo;rw [hp] at ew;cases ew
 have f1:=hs.fresh hp;have nh:p∉h:=fun m=>f1.1 (mem_append_left _ m);have sH:Same H (upd H p u.ho):=Same.laid hp;have e1:Ex o0 H0 o (upd H p u.ho):=e0.trans (Ex.of_same sH);have H0p:H0 p=none:=by
  cases z:H0 p with
  | none=>rfl
  | some w =>
   by_cases m:p∈o0
   ·obtain⟨r,er⟩:=e0.pre;exact absurd (show p∈o by rw [er]; exact mem_append_left _ m) f1.2
   ·have:=(e0.kp p w m z).2;rw [hp] at this;cases this
 have sv:Same (vx (h++ad M) o H) (vx (h++(ad M++[p])) o (upd H p u.ho)):=fun b w z=>by
  obtain⟨z1,z2,z3⟩:=zY.mp z;have ne:b≠p:=zQ z3 hp;refine zY.mpr ⟨fun m=>?_,z2,by rw [zF ne]; exact z3⟩;rw [<- append_assoc] at m;rcases mem_append.mp m with m | m
  ·exact z1 m
  ·exact ne (mem_singleton.mp m)
 have sM:RepS (h++ad (M++[(p,D0)])) o (upd H p u.ho) S:=by
  rw [zao];refine⟨hs.len,hs.nd,fun a ma z=>?_,fun b mb=>?_,fun k b ds e1 e2=>?_⟩
  ·rw [<- append_assoc] at z;rcases mem_append.mp z with z | z
   ·exact hs.dis a ma z
   ·rw [mem_singleton.mp z] at ma;exact f1.2 ma
  ·rw [<- append_assoc] at mb;rcases mem_append.mp mb with m | m
   ·obtain⟨w,ew⟩:=hs.hal b m;exact⟨w,sH _ _ ew⟩
   ·rw [mem_singleton.mp m];exact⟨u,zaq⟩
  ·obtain⟨vs,e3,l⟩:=hs.cont k b ds e1 e2;exact⟨vs,sH _ _ e3,HasL.mono sv _ _ l⟩
 have mM:RepM h o (upd H p u.ho) (M++[(p,D0)]):=by
  refine⟨by rw [zao]; exact zbF rm.nd nM,fun a ma=>?_,fun a D2 m=>?_⟩
  ·rw [zao] at ma;rcases mem_append.mp ma with m | m
   ·exact rm.nh a m
   ·rw [mem_singleton.mp m];exact⟨nh,f1.2⟩
  ·rw [zao];rcases mem_append.mp m with m | m
   ·exact(rm.ct a D2 m).mono sv fun w z=>sH _ _ z
   ·have:=mem_singleton.mp m;cases this;exact hD _ _ _ zaq
 have hE:RepE (h++ad (M++[(p,D0)])) o (upd H p u.ho) (δ.set i (some (.o (.ref p)))) (σ.set i (some (.ref p))):=by
  rw [zao];exact(he.to sv).set (show HasX _ _ _ (.o (.ref p)) (.ref p) from rfl)
 have fr1:Fr H0 (M++[(p,D0)]):=fun a ma=>by
  rw [zao] at ma;rcases mem_append.mp ma with m | m
  ·exact fr a m
  ·rw [mem_singleton.mp m]; exact H0p
 have back:∀ {N:XE->Sto->DM->Prop} {Y:St->Hp->Prop},NxM h o0 H0 (ad M) N Y->NxM h o0 H0 (ad (M++[(p,D0)])) (fun δ' S' M'=>∃ M1 D,M'=M1++[(p,D)]/\N δ' S' M1) Y:=fun {N Y} nx o' H' δ' S' M' σ' ex ea hE' hS' hM' ⟨M1,D2,eM,n⟩=>by
  subst eM;rw [zao,zao] at ea;rw [zao,<- append_assoc] at hE' hS';exact nx o' H' _ S' M1 σ' ex (List.append_inj_left' ea rfl) (hE'.to zfE) hS'.less hM'.init n
 have ret:∀ o' H' S' M' y v,Ex o0 H0 o' H'->ad M'=ad (M++[(p,D0)])->RepS (h++ad M') o' H' S'->RepM h o' H' M'->HasX (h++ad M') o' H' y v->(∃ M1 D,M'=M1++[(p,D)]/\En.rt y S' M1)->D.rt v H':=by
  rintro o' H' S' M' y v ex ea hS' hM' hx' ⟨M1,D2,eM,n⟩;subst eM;rw [zao,zao] at ea;rw [zao,<- append_assoc] at hx' hS';exact c.rt o' H' S' M1 _ v ex (List.append_inj_left' ea rfl) hS'.less hM'.init hx'.less n
 have qq:=q p nM;cases f with
 | false =>
  refine hb h o0 H0 o _ _ _ S (M++[(p,D0)]) _ D e1 fr1 hE sM mM qq ⟨?_,ret,back c.bk,back c.ct⟩ x;exact fun o' H' δ' S' M' σ' ex ea hE' hS' hM' n=>back c.nx o' H' δ' S' M' σ' ex ea hE' hS' hM' (by simpa using n)
 | true =>
  refine hb h o0 H0 o _ _ _ S (M++[(p,D0)]) _ { D with nx:=fun σ' H'=>∃ a m,σ'[i]? = some (some (.ref a))/\H' a=some (.dK m)/\∀ ob,D.nx σ' (upd H' a (.frz ob (.dK m))) } e1 fr1 hE sM mM qq ⟨?_,ret,back c.bk,back c.ct⟩ x;intro o' H' δ' S' M' σ' ex ea hE' hS' hM' n;obtain⟨M1,m,eM,ei,n2⟩:∃ M1 m,M'=M1++[(p,DD.k m)]/\δ'[i]? = some (some (.o (.ref p)))/\En.nx (δ'.map (Option.map (zpJ p m))) S' M1:=by simpa using n
  subst eM;obtain⟨v,ev,hv⟩:=hE'.get i _ ei;have evp:v=.ref p:=hv;subst evp;have nn:=hM'.nh p (by rw [zao]; simp);have nd:=hM'.nd;rw [zao,zao] at ea;rw [zao] at nd;have pn:p∉ad M1:=fun m=>(nodup_append.mp nd).2.2 p m p (by simp) rfl;obtain⟨m',em,l⟩:=hM'.ct p (.k m) (by simp);refine⟨p,m',ev,em,fun ob=>?_⟩;have np:p∉h++ad M1:=fun z=>(mem_append.mp z).elim nn.1 pn;have s2:Same (vx (h++ad (M1++[(p,DD.k m)])) o' H') (vx (h++ad M1) o' (upd H' p (.frz ob (.dK m')))):=fun b w z=>by
   obtain⟨z1,z2,z3⟩:=zY.mp z;rw [zao,<- append_assoc] at z1;have ne:b≠p:=fun z=>z1 (by rw [z]; simp);exact zY.mpr ⟨fun mm=>z1 (mem_append_left _ mm),z2,by rw [zF ne]; exact z3⟩
  refine c.nx o' _ _ S' M1 σ' ⟨ex.pre,fun b w nb zb=>?_⟩ (List.append_inj_left' ea rfl) (zmb s2 (zY.mpr ⟨np,nn.2,zaq⟩) l hE') ?_ ?_ n2
  ·obtain⟨z1,z3⟩:=ex.kp b w nb zb;exact⟨z1,by rw [zF (fun z=>by rw [z,H0p] at zb; cases zb)]; exact z3⟩
  ·refine⟨hS'.len,hS'.nd,fun a ma z=>hS'.dis a ma (by rw [zao,<- append_assoc]; exact mem_append_left _ z),fun b mb=>?_,fun k b ds q1 q2=>?_⟩
   ·obtain⟨w,ew⟩:=hS'.hal b (by rw [zao,<- append_assoc]; exact mem_append_left _ mb);exact⟨w,by rw [zF (fun z=>np (by rw [<- z]; exact mb))]; exact ew⟩
   ·obtain⟨vs,q3,l3⟩:=hS'.cont k b ds q1 q2;exact⟨vs,by rw [zF (fun z=>nn.2 (by rw [<- z]; exact mem_of_getElem? q1))]; exact q3,HasL.mono s2 _ _ l3⟩
  ·have r1:=hM'.init;refine⟨r1.nd,r1.nh,fun b D3 mb=>?_⟩;have nb:b≠p:=fun z=>pn (by rw [<- z]; exact mem_map.mpr ⟨_,mb,rfl⟩);exact(hM'.ct b D3 (mem_append_left _ mb)).mono s2 fun w z=>by rw [zF nb]; exact z
theorem zor(hb:RSm E EX tb db):RSm E EX (zgI (zqC znF (zic i)) tb) (zjZ false i (.k []) db):=fun h o0 H0 o H δ σ S M En D e0 fr he hs rm q c x p hp =>
 zme (f:=false) (D0:=.k []) (u:=.k []) (fun G H a z=>⟨[],z,rfl⟩) hb e0 fr he hs rm q c x p hp
def zpG(dt:DSm):DS:=fun En δ S=>dt { nx:=fun δ' S' _=>En.nx δ' S',rt:=fun x S' _=>En.rt x S',bk:=fun δ' S' _=>En.bk δ' S',ct:=fun δ' S' _=>En.ct δ' S' } δ S []
theorem zn8{t:TS}{dt:DSm}(ht:RSm E EX t dt):RSx E EX t (zpG dt):=fun h o H δ σ S En D he hs q c x=>by
 have z:h++ad []=h:=append_nil _;have nx:∀ {N:XE->Sto->Prop} {Y:St->Hp->Prop},Nx h o H N Y->NxM h o H (ad []) (fun δ' S' _=>N δ' S') Y:=fun {N Y} n o' H' δ' S' M' σ' ex ea he' hs' _ q'=>by
  rw [ea,z] at he' hs';exact n o' H' δ' S' σ' ex he' hs' q'
 refine ht h o H o H δ σ S [] _ D Ex.refl (fun a m=>by cases m) (by rw [z]; exact he) (by rw [z]; exact hs) RepM.nil q ⟨nx c.nx,?_,nx c.bk,nx c.ct⟩ x;rintro o' H' S' M' y v ex ea hs' _ hx' q';rw [ea,z] at hs' hx';exact c.rt o' H' S' y v ex hs' hx' q'
theorem zoE{t:TS}{dt:DSm}(ht:RSm E0 (fun _ _=>False) t dt):RS t (zpG dt):=fun h o H δ σ S En D he hs q c=>zn8 ht h o H δ σ S En D he hs q c fun _ _ _ _ _ _ _ _ _ z=>z.elim
end
end
section
def ROp(Φ:Phi)(r:R2)(rd:D2):Prop:=∀ (h o:List Addr) (H:Hp) (S:Sto) (x y:XV) (v u:V) (R:RX) (Q:VK),Φ h o H->RepS h o H S->HasX h o H x v->HasX h o H y u->rd x y S R->Cn h o H R Q->r v u H Q
section
variable {Φ:Phi} [Stb Φ] {ta tb:TE} {da db:DE}
theorem zqv{r:R2}{rd:D2}(hr:ROp Φ r rd)(ha:REp Φ ta da)(hb:REp Φ tb db):REp Φ (tOp r ta tb) (dOp rd da db):=fun h o H δ σ S R Q he hs q c w =>
 ha h o H δ σ S _ _ he hs q (fun o1 H1 S1 x v e1 s1 x1 d1=>hb h o1 H1 δ σ S1 _ _ (he.mono e1) s1 d1 (fun o2 H2 S2 y u e2 s2 y2 d2 =>
  hr h o2 H2 S2 x y v u R Q (Stb.st w (e1.trans e2)) s2 (x1.mono e2) y2 d2 (c.pre (e1.trans e2))) (Stb.st w e1)) w
theorem zrh{tt tu:TT}{dt du:DT}(ha:RTp Φ tt dt)(hb:RTp Φ tu du):RTp Φ (tOr tt tu) (dOr dt du):=fun h o H δ σ S R Q he hs q c w =>
 ha h o H δ σ S _ _ he hs q (fun o1 H1 S1 b e1 s1 d1=>by
  cases b with
  | true=>exact zmF (c o1 H1 S1 _ e1 s1 (by simpa using d1))
  | false=>exact zmE (hb h o1 H1 δ σ S1 _ _ (he.mono e1) s1 (by simpa using d1) (fun o2 H2 S2 b e2=>c o2 H2 S2 b (e1.trans e2)) (Stb.st w e1))) w
end
def IsDD(M:DM)(x:XV)(D:DD):Prop:=(∃ a,x=.o (.ref a)/\(a,D)∈M)\/∃ m,D=.k m/\x=.d (.dict (DD.pairs (.k m)))
theorem zou{M:DM}{h o:List Addr}{H:Hp}{x:XV}{D:DD}{v:V}(φ:PhM M h o H)(q:IsDD M x D)(hx:HasX h o H x v):∃ a,v=.ref a/\RAt (vx h o H) H a D:=by
 rcases q with ⟨a,rfl,m⟩ | ⟨m,rfl,rfl⟩
 ·obtain⟨h0,rfl,rm⟩:=φ;exact⟨a,hx,(rm.ct a D m).rd⟩
 ·obtain⟨a,ob,m',rfl,e,l⟩:=znb.mp (show Has _ _ v from hx);exact⟨a,rfl,m',.inr ⟨ob,zah _ _ e⟩,l⟩
def zsd(n:Bool):R2:=fun y x H Q=>∃ a o,x=.ref a/\DGet H a y o/\Q (.bl (if n=true then !o.isSome else o.isSome)) H
theorem zpi{X:Cx}(hu:X.A.units+64<cLine):OpR X (compareOp .In) (zsd false):=fun zh s σ H y x v u Q I ry rx ⟨a,o,e,g,q⟩=>by
 subst e;obtain rfl:u=Value.ref a:=rx;exact zsv (by omega) I g ry fun s3 I3=>⟨.bl o.isSome,H,I3,rfl,q⟩
def zrd(M:DM)(n:Bool):D2:=fun y x S R=>asD y fun k=>∃ D o,IsDD M x D/\D.get k=some o/\R (.d (.bool (if n=true then !o.isSome else o.isSome))) S
theorem znY{G:Hp}{o:Option PyData}{r:Option V}(q:RelD G o r):r.isSome=o.isSome:=by
 cases o with
 | none=>rw [show r=none from q]; rfl
 | some d=>obtain⟨u,rfl,_⟩:=q; rfl
theorem zqp{M:DM}{n:Bool}:ROp (PhM M) (zsd n) (zrd M n):=fun h o H S y x v u R Q φ hs hy hx q c=>by
 obtain⟨k,rfl,D,r,hD,e,q⟩:=zgf q;obtain⟨a,rfl,da⟩:=zou φ hD hx;obtain⟨r',g,rr⟩:=da.get zah hy e;refine⟨a,r',rfl,g,?_⟩;rw [znY rr];exact c o H S _ _ Ex.refl hs (xB _) q
def zl6(j:Nat)(dk dv:DM->DE):DSm:=fun En δ S M=>dv M δ S fun x S1=>asD x fun d=>zr j δ S1 fun y S2=>∃ a,y=.o (.ref a)/\dk M δ S2 fun z S3=>asD z fun k=>∃ D D',(a,D)∈M/\D.put k d=some D'/\D.len<1000/\En.nx δ S3 (zoX M a D')
theorem zqh{E:XK}{EX:EXD}{j:Nat}{ty tv:TE}{dk dv:DM->DE}(hk:∀ M,REp (PhM M) ty (dk M))(hv:∀ M,REp (PhM M) tv (dv M)):RSm E EX (zqM (zlR j) ty tv) (zl6 j dk dv):=fun h o0 H0 o H δ σ S M En D e0 fr he hs rm q c x =>
 hv M (h++ad M) o H δ σ S _ _ he hs q (fun o1 H1 S1 y v e1 s1 x1 d1=>by
  obtain⟨d,rfl,y1,ey,a,rfl,d2⟩:=zgf d1;have he1:=he.mono e1;obtain⟨v1,ev,hv1⟩:=he1.get j _ ey;have ev1:v1=.ref a:=hv1;subst ev1;refine⟨_,ev,hk M (h++ad M) o1 H1 δ σ S1 _ _ he1 s1 d2 (fun o2 H2 S2 z u e2 s2 z2 d3=>?_) ⟨h,rfl,rm.mono e1⟩⟩;obtain⟨k,rfl,D1,D2,mD,eD,hl,n⟩:=zgf d3;have e12:=e1.trans e2;have rm2:=rm.mono e12;have ma:a∈ad M:=mem_map.mpr ⟨_,mD,rfl⟩;obtain⟨w,pt,fin⟩:=(rm2.ct a D1 mD).put zah z2 (x1.mono e2) eD hl;have mh:a∈h++ad M:=mem_append_right _ ma;refine⟨a,_,rfl,pt,c.nx o2 _ δ S2 (zoX M a D2) σ ⟨(e0.trans e12).pre,fun b w' nb zb=>?_⟩ ze0 ?_ ?_ (rm2.put mD fin) n⟩
  ·obtain⟨z1,z3⟩:=(e0.trans e12).kp b w' nb zb;exact⟨z1,by rw [zF (fun z=>by rw [z,fr a ma] at zb; cases zb)]; exact z3⟩
  ·rw [ze0];exact(he1.mono e2).view (zfg mh)
  ·rw [ze0];exact s2.hidden mh) ⟨h,rfl,rm⟩
theorem zoQ{t t':TS}{d:DS}(h:RS t d)(e:t'=t:=by rfl):RS t' d:=e▸h
end
end L2
namespace L2
open PySem PySem.Spec PySem.Calls PyProof.Rows
def DD.itemsD(m:List (Key×PyData)):List PyData:=m.map fun p=>.tuple [kD p.1,p.2]
def zlM(e:DE):DI:=fun δ S R=>e δ S fun x S1=>∃ m,x=.d (.dict (DD.pairs (.k m)))/\R (DD.itemsD m) S1
end L2
namespace L2
open PySem PySem.Spec PyProof.Rows
section
def Its(x:Str):It:=⟨fun i _=>i<x.cps.size,fun i H v H'=>H'=H/\∃ c,x.cps[i]? = some c/\v=.str ⟨#[c]⟩,fun i _=>x.cps.size<=i⟩
theorem zkp{P:Program}{w:World}{K:W.Frag}{tg:Expr}(it:Addr)(x:Str)(t:Tok):Turn P w K tg (Its x) [it] it (fun i h=>h.IsStrIter it "str_ascii_iterator" x t i) where
 mem:=by simp
 obj:=fun i h st b hb=>by
  have e:b=it:=by simpa using hb
  subst e;obtain⟨o,e,c,d⟩:=st;exact⟨o,e,fun v z=>by rw [d] at z; cases z⟩
 keep:=fun i h h' st k=>let ⟨o,e,r⟩:=st; ⟨o,k it (by simp) o e,r⟩
 item:=by
  intro X hP hw hK hc i zh s σ H E I hf st hg;subst hP hw hK;have hg':i<x.cps.size:=hg;obtain⟨f0,f1,f2,f3,f4,f5⟩:=hf it (by simp);refine wpAny_pyNext_ascii_item st (c:=x.cps[i]) (by simp [hg']) fun h' st' sb=>?_;have I1:Inv X zh σ H { s with heap:=h',toks:=s.toks+1 }:=I.turned (fun b o hb e=>(sb.2 b hb).trans e) f0 f1 f3 f4 f5;obtain⟨o,e,c,d⟩:=id st';exact⟨_,rfl,zjt (s:={ s with heap:=h',toks:=s.toks+1 }) e c d dz ⟨.str ⟨#[x.cps[i]]⟩,H,I1,⟨_,rfl⟩,⟨rfl,x.cps[i],by simp [hg'],rfl⟩,st',fun b hb=>(hf b hb).1⟩⟩
 done:=by
  intro X hP hw hK hc i zh s σ H E I hf st hg;subst hP hw hK;have hg':x.cps.size<=i:=hg;obtain⟨f0,f1,f2,f3,f4,f5⟩:=hf it (by simp);exact wpAny_pyNext_ascii_end (I.ok.hd hc) st (by simp [hg']) fun h' eb=>⟨rfl,I.turned (t':=s.toks) (fun b o hb e=>eb b o hb e) f0 f1 f3 f4 f5⟩
 self:=fun _ _ _ _ _ st h=>wpAny_pyIter_striter_ascii st h
theorem zlf{P:Program}{w:World}{K:W.Frag}{tg:Expr}(it:Addr)(x:Str)(t:Tok):Turn P w K tg (Its x) [it] it (fun i h=>h.IsStrIter it "str_iterator" x t i) where
 mem:=by simp
 obj:=fun i h st b hb=>by
  have e:b=it:=by simpa using hb
  subst e;obtain⟨o,e,c,d⟩:=st;exact⟨o,e,fun v z=>by rw [d] at z; cases z⟩
 keep:=fun i h h' st k=>let ⟨o,e,r⟩:=st; ⟨o,k it (by simp) o e,r⟩
 item:=by
  intro X hP hw hK hc i zh s σ H E I hf st hg;subst hP hw hK;have hg':i<x.cps.size:=hg;obtain⟨f0,f1,f2,f3,f4,f5⟩:=hf it (by simp);refine wpAny_pyNext_wide_item st (c:=x.cps[i]) (by simp [hg']) fun h' st' sb=>?_;have I1:Inv X zh σ H { s with heap:=h',toks:=s.toks+1 }:=I.turned (fun b o hb e=>(sb.2 b hb).trans e) f0 f1 f3 f4 f5;obtain⟨o,e,c,d⟩:=id st';exact⟨_,rfl,zjt (s:={ s with heap:=h',toks:=s.toks+1 }) e c d dz ⟨.str ⟨#[x.cps[i]]⟩,H,I1,⟨_,rfl⟩,⟨rfl,x.cps[i],by simp [hg'],rfl⟩,st',fun b hb=>(hf b hb).1⟩⟩
 done:=by
  intro X hP hw hK hc i zh s σ H E I hf st hg;subst hP hw hK;have hg':x.cps.size<=i:=hg;obtain⟨f0,f1,f2,f3,f4,f5⟩:=hf it (by simp);exact wpAny_pyNext_wide_end (I.ok.hd hc) st (by simp [hg']) fun h' eb=>⟨rfl,I.turned (t':=s.toks) (fun b o hb e=>eb b o hb e) f0 f1 f3 f4 f5⟩
 self:=fun _ _ _ _ _ st h=>wpAny_pyIter_striter_wide st h
def zrO(te:TE):TI:=fun σ H R=>te σ H fun v H1=>∃ x,v=.str x/\R (Its x) H1
theorem zmQ{X:Cx}{tg l:Expr}{te:TE}(hl:PE X l te):PI X tg l (zrO te):=by
 intro zh s σ H R I h;refine thn (hl zh s σ H _ I h) fun v s1 ⟨x,H1,I1,r1,y,ex,q⟩=>?_;subst ex;obtain⟨t,rfl⟩:=(show ∃ t,v=Value.str y t from r1);have fp:∀ b∈[s1.heap.objs.size],FpOk X zh H1 b:=fun b hb=>by
  rw [mem_singleton.mp hb];exact I1.fpOk (le_refl _) (I1.hok.fresh (le_refl _))
 cases ha:y.cps.all (· < 128)
 ·exact wpAny_pyIter_wide ha ⟨s1.heap.objs.size,[s1.heap.objs.size],_,_,H1,rfl,I1.kept (t':=s1.toks) fun b o e=>get?_push_of_some _ e,zlf _ y t,⟨_,get?_push_size _ rfl,rfl,rfl⟩,fp,q⟩
 ·exact wpAny_pyIter_ascii ha ⟨s1.heap.objs.size,[s1.heap.objs.size],_,_,H1,rfl,I1.kept (t':=s1.toks) fun b o e=>get?_push_of_some _ e,zkp _ y t,⟨_,get?_push_size _ rfl,rfl,rfl⟩,fp,q⟩
def zoZ(x:Str):List PyData:=x.cps.toList.map fun c=>.str ⟨#[c]⟩
def zki(e:DE):DI:=fun δ S R=>e δ S fun y S1=>asS y fun x=>R (zoZ x) S1
theorem zmU{te:TE}{de:DE}(he':RE te de):RI (zrO te) (zki de):=fun h o H δ σ S R Q he hs q c =>
 he' h o H δ σ S _ _ he hs q fun o1 H1 S1 y v e1 s1 x1 d1=>by
  replace d1:=zb4 d1;obtain⟨x,rfl,d1⟩:=d1;have ev:v=.str x:=(zbP (H:=vx h o1 H1)).mp x1;have sz:(zoZ x).length=x.cps.size:=by simp [zoZ]
  refine⟨x,ev,c o1 H1 S1 _ _ e1 s1 ⟨fun i o2 H2 e2 hi=>by show x.cps.size<=i; omega,fun i d o2 H2 e2 hi=>?_,fun i d o2 H2 z H3 S2 e2 s2 hi yy=>?_⟩ d1⟩
  ·have:=(List.getElem?_eq_some_iff.mp hi).1;show i<x.cps.size;omega
  ·obtain⟨e3,cc,ec,ez⟩:=yy;subst e3 ez;unfold zoZ at hi;rw [getElem?_map,Array.getElem?_toList,ec] at hi;cases hi;exact⟨Same.refl _,zbP.mpr rfl⟩
end
section
section
variable {E:XK} {EX:EXD} {a b c d e f u:TS} {dt du:DS} {i:Nat}
theorem zoA(h:RS (zgI a b) dt)(hu:RS u du):RS (zgI a (zgI b u)) (zae dt du):=zoQ (zt h hu)
end
end
end L2
namespace HT
open PySem PyProof.Rows
end HT
namespace L2
open PySem PySem.Spec PyProof.Rows
end L2
namespace L2
open PySem PySem.Spec PySem.Calls PyProof.Rows
end L2
namespace HT
open PySem PyProof.Rows
end HT
namespace L2
open PySem PySem.Spec PySem.Calls PyProof.Rows
end L2
namespace HT
open PySem PyProof.Rows
end HT
namespace L2
open PySem PySem.Spec PySem.Calls PyProof.Rows
end L2
namespace L2
open PySem PySem.Spec PyProof.Rows
end L2
namespace L2
open PySem PyProof.Rows
section
variable {prog:Program} {w:World} {A:Around} {E:Value->Shared->Prop} {s:Shared} {kd:SortKind} {D:Keyed->Prop} {lt:Keyed->Keyed->Bool}
def flt(lt:Keyed->Keyed->Bool):Keyed->Keyed->Bool:=fun x y=>lt y x
def G(xs:Array Keyed)(i:Nat):Keyed:=(xs[i]?).getD (.none,.none)
structure Ts(kd:SortKind)(D:Keyed->Prop)(a₀:Array Keyed)(st:SortSt):Prop where
 kd:kindOf st=kd
 fl:failedOf st=none
 pm:(arrOf st).Perm a₀
 d:∀ x∈a₀.toList,D x
end
end L2
namespace L2
open PySem PySem.Spec PySem.Calls PyProof.Rows PySem.W
section
variable {X:Cx} {zh:List (Addr×Obj)} {σ:St} {H H':Hp} {s:Shared} {h':Heap}
theorem Inv.laidAll{t':Nat}(I:Inv X zh σ H s)(k:∀ b u,s.heap.get? b=some u->h'.get? b=some u)(gr:Same H H')(new:∀ b u,H' b=some u->H b=some u\/(s.heap.objs.size<=b/\ObjOk X.prog X.w H' h' b u)):Inv X zh σ H' { s with heap:=h',toks:=t' }:=by
 refine I.un ⟨fun b u q _ _ _=>k b u q,fun b u q _ _ _=>⟨u.slots,k b u q⟩,fun b u q n _=>?_,fun b u q _=>⟨u,k b u q⟩,fun b xs q=>gr b _ q,fun b u xs q=>gr b _ q,fun b ps q=>gr b _ q⟩ fun b u e=>?_
 ·cases e:H' b with
  | none=>rfl
  | some v =>
   rcases new b v e with z | ⟨z,_⟩
   ·rw [n] at z; cases z
   ·exact absurd (lt_of_lt_of_le (lt_size q) z) (lt_irrefl _)
 ·rcases new b u e with z | ⟨_,z⟩
  ·exact(I.hok b u z).stay (fun c v _ q=>k c v q) (fun c q=>gr c _ q) (fun c xs q=>gr c _ q) fun c o u q=>gr c _ q
  ·exact z
end
def znt:List XV->Sto->RX->Prop:=fun xs S R=>arg1 xs fun x=>∃ m:List (Key×PyData),x=.d (.dict (DD.pairs (.k m)))/\∃ ns:List Int,m.map (·.1)=ns.map Sum.inl/\ns.length<=10000000/\∀ ms:List Int,ms.Perm ns->ms.Pairwise (· <= ·)->R (.d (.list (ms.map PyData.int))) S
end L2
namespace L2
open PySem PySem.Spec PyProof.Rows
end L2
namespace L2
open PySem PySem.Spec PySem.Calls PyProof.Rows
end L2
namespace L2
open PySem PySem.Spec PySem.Calls PyProof.Rows
def zqH(j:Nat)(dk dv:DM->DE):DSm:=fun En δ S M=>zr j δ S fun y S1=>∃ a m,y=.o (.ref a)/\(a,DD.k m)∈M/\dk M δ S1 fun z S2=>dv M δ S2 fun x S3=>asD z fun k=>asD x fun d=>∃ kk,zlS k=some kk/\m.length<1000/\if (lkA m kk).isSome=true then En.nx δ S3 M else En.nx δ S3 (zoX M a (.k (ptA m kk d)))
def znj(k:Int)(e:DE):DE:=fun δ S R=>e δ S fun x S1=>asD x fun d=>R (.d (.dict [(.int k,d)])) S1
end L2
namespace L2
open PySem PySem.Spec PySem.Calls PyProof.Rows
end L2
namespace L2
open PySem PySem.Spec PyProof.Rows
end L2
namespace L2
theorem len0{α:Type}{l:List α}(h:l.length=0):l=[]:=eq_nil_of_length_eq_zero h
theorem len1{α:Type}{l:List α}(h:l.length=1):∃ a0,l=[a0]:=by
 cases l with
 | nil=>cases h
 | cons x r =>
  obtain rfl:=len0 (Nat.succ.inj h);exact⟨x,rfl⟩
theorem len2{α:Type}{l:List α}(h:l.length=2):∃ a0 a1,l=[a0,a1]:=by
 cases l with
 | nil=>cases h
 | cons x r =>
  obtain⟨a1,rfl⟩:=len1 (Nat.succ.inj h);exact⟨x,a1,rfl⟩
theorem len3{α:Type}{l:List α}(h:l.length=3):∃ a0 a1 a2,l=[a0,a1,a2]:=by
 cases l with
 | nil=>cases h
 | cons x r =>
  obtain⟨a1,a2,rfl⟩:=len2 (Nat.succ.inj h);exact⟨x,a1,a2,rfl⟩
end L2
namespace L2
open PySem PySem.Spec PyProof.Rows
end L2
namespace L2
open PySem PySem.Spec PySem.Calls PyProof.Rows
open Sem (wp)
abbrev IsZipO (h:Heap) (z p r a:Addr) (f:Bool):Prop :=
 h.get? z=some { cls:=.type "zip",dict:=none,data:=.fields #[rawInt a,.bool f,.bool false,.ref p,.ref r],slots:=#[] }
section
variable {prog:Program} {w:World} {A:Around} {E:Value->Shared->Prop} {s:Shared}
theorem zkX{t u:Bool}{z p r i j a b a0:Addr}{f:Bool}{oa:Obj}{k m:Nat}{xs ys:Array Value}{x y:Value}{Q:Value->Shared->Prop}(D:ZAp z p r i j a b)(hz:IsZipO s.heap z p r a0 f)(h0:s.heap.get? a0=some oa)(n0:a0≠z)(hp:IsPair s.heap p (.ref i) (.ref j))
  (hi:ItK t s.heap i a k) (hj:ItK u s.heap j b m) (ha:SqK t s.heap a xs) (hb:SqK u s.heap b ys) (hx:xs[k]? = some x) (hy:ys[m]? = some y)
  (hQ:∀ g,IsZipO g z p r a0 true->ItK t g i a (k+1)->ItK u g j b (m+1)->IsPair g s.heap.objs.size x y ->
   (∀ q o,q≠z->q≠i->q≠j->s.heap.get? q=some o->g.get? q=some o)->Q (.ref s.heap.objs.size) { s with heap:=g }) :
  wpAny (model prog w) A (Builtin.«zip.__next__» ⟨[.ref z],[]⟩) (fun fn s'=>∃ v,fn=.done (.ret v)/\Q v s') E s:=by
 obtain⟨h0',gs,dr,tk,os⟩:=s;show wpAny _ _ (field (.ref z) 2 >>= _) _ _ ⟨h0',gs,dr,tk,os⟩;refine wpAny_bind (wpAny_field hz rfl (x:=.bool false) rfl ?_);show wpAny _ _ (field (.ref z) 3 >>= _) _ _ ⟨h0',gs,dr,tk,os⟩;refine wpAny_bind (wpAny_field hz rfl (x:=.ref p) rfl (wpAny_bind (wpAny_seqItems hp rfl ?_)));show wpAny _ _ (Builtin.SmallTypes.ownedTupleIsFree (.ref z) >>= _) _ _ ⟨h0',gs,dr,tk,os⟩;refine wpAny_bind ?_;unfold Builtin.SmallTypes.ownedTupleIsFree;refine wpAny_bind (wpAny_field hz rfl (x:=rawInt a0) rfl ?_);show wpAny _ _ (loadIfAlive ((a0:Int).toNat) >>= _) _ _ _;rw [Int.toNat_natCast];refine wpAny_bind (W.kdx_alive h0 ?_);simp only [Option.isNone_some,Bool.false_eq_true,if_false];refine wpAny_bind (wpAny_field hz rfl (x:=.bool f) rfl ?_);have fin:∀ g1:Heap,IsZipO g1 z p r a0 true->Heap.SameBut z h0' g1->∀ {F:Value->Option PySem.Fin×Array Value->Sem (ForInStep (Option PySem.Fin×Array Value))} {G:Option PySem.Fin×Array Value->Sem PySem.Fin},
   (∀ (it:Value) (acc:Array Value) (R:ForInStep (Option PySem.Fin×Array Value)->Shared->Prop) (s1:Shared),wpAny (model prog w) A (Builtin.SmallTypes.nextOf it) (fun v s2=>R (.yield (none,acc.push v)) s2) E s1->wpAny (model prog w) A (F it (none,acc)) R E s1) ->
   (∀ acc,G (none,acc)=(newTuple acc.toList >>= fun v=>ret v)) ->
   wpAny (model prog w) A (forIn (#[.ref i,.ref j]:Array Value) (none,#[]) F >>= G) (fun fn s'=>∃ v,fn=.done (.ret v)/\Q v s') E ⟨g1,gs,dr,tk,os⟩:=fun g1 z1 b1 F G hF hG=>by
  refine wpAny_bind ?_;rw [show (#[.ref i,.ref j]:Array Value)=[.ref i,.ref j].toArray from rfl,List.forIn_toArray];simp only [forIn_cons,forIn_nil];refine wpAny_bind (hF _ _ _ _ ?_);refine zjI (s:=⟨g1,gs,dr,tk,os⟩) (hi.at fun o e=>b1.extBut i o D.iz e) (ha.at fun o e=>b1.extBut a o D.az e) hx fun g2 i2 b2=>?_;replace b2:Heap.SameBut i g1 g2:=b2;refine wpAny_bind (hF _ _ _ _ ?_);have k2:∀ q o,q≠z->q≠i->h0'.get? q=some o->g2.get? q=some o:=fun q o n1 n2 e=>b2.extBut q o n2 (b1.extBut q o n1 e);refine zjI (s:=⟨g2,gs,dr,tk,os⟩) (hj.at fun o e=>k2 j o D.jz (Ne.symm D.ij) e) (hb.at fun o e=>k2 b o D.bz D.bi e) hy fun g3 j3 b3=>?_;replace b3:Heap.SameBut j g2 g3:=b3;refine wpAny_pure ?_;rw [hG];refine wpAny_bind (wpAny_newTuple (wpAny_pure ⟨_,rfl,?_⟩) (by show 2<=sizeLine; decide));have sz:g3.objs.size=h0'.objs.size:=by rw [b3.1,b2.1,b1.1]
  have k3:∀ q o,q≠z->q≠i->q≠j->h0'.get? q=some o->g3.get? q=some o:=fun q o n1 n2 n3 e=>b3.extBut q o n3 (k2 q o n1 n2 e);have z3:IsZipO g3 z p r a0 true:=b3.extBut z _ (Ne.symm D.jz) (b2.extBut z _ (Ne.symm D.iz) z1);have i3:ItK t g3 i a (k+1):=ItK.at i2 fun o e=>b3.extBut i o D.ij e;show Q (.ref g3.objs.size) _;have nw:=get?_push_size g3 (o:={ cls:=.type "tuple",data:=.seq #[x,y] }) rfl;rw [sz] at nw ⊢;exact hQ (g3.push { cls:=.type "tuple",data:=.seq #[x,y] }) (get?_push_of_some _ z3) (i3.at fun o e=>get?_push_of_some _ e) (ItK.at j3 fun o e=>get?_push_of_some _ e) nw fun q o n1 n2 n3 e=>get?_push_of_some _ (k3 q o n1 n2 n3 e)
 have tail:∀ g1:Heap,IsZipO g1 z p r a0 true->Heap.SameBut z h0' g1->∀ {M:Sem PySem.Fin},(∃ F G,M=(forIn (#[.ref i,.ref j]:Array Value) (none,#[]) F >>= G) /\
   (∀ (it:Value) (acc:Array Value) (R:ForInStep (Option PySem.Fin×Array Value)->Shared->Prop) (s1:Shared),wpAny (model prog w) A (Builtin.SmallTypes.nextOf it) (fun v s2=>R (.yield (none,acc.push v)) s2) E s1->wpAny (model prog w) A (F it (none,acc)) R E s1) /\
   (∀ acc,G (none,acc)=(newTuple acc.toList >>= fun v=>ret v)))->wpAny (model prog w) A M (fun fn s'=>∃ v,fn=.done (.ret v)/\Q v s') E ⟨g1,gs,dr,tk,os⟩:=fun g1 z1 b1 M ⟨F,G,e,hF,hG⟩=>by
  rw [e]; exact fin g1 z1 b1 hF hG
 cases f with
 | true =>
  rw [if_neg (show ¬ ((Value.bool true != Value.bool true)=true) from Bool.false_ne_true)];refine wpAny_pure ?_;simp only [Bool.false_eq_true,if_false];refine tail h0' hz (Heap.SameBut.refl _ _) ⟨_,_,rfl,fun it acc R s1 h=>?_,fun acc=>rfl⟩;refine wpAny_bind (wpAny_holding ?_);show wpAny _ _ (Builtin.SmallTypes.nextOf it >>= _) _ _ _;exact wpAny_bind (wpAny_mono h (fun v s2 q=>wpAny_pure (wpAny_pure q)) fun _ _ z=>z)
 | false =>
  rw [if_pos (show (Value.bool false != Value.bool true)=true from rfl)];refine wpAny_bind (wpAny_setField_rec hz (by simp) fun g1 z1 b1=>?_);refine wpAny_pure ?_;simp only [Bool.false_eq_true,if_false];refine tail g1 z1 b1 ⟨_,_,rfl,fun it acc R s1 h=>?_,fun acc=>rfl⟩;refine wpAny_bind (wpAny_holding ?_);show wpAny _ _ (Builtin.SmallTypes.nextOf it >>= _) _ _ _;exact wpAny_bind (wpAny_mono h (fun v s2 q=>wpAny_pure (wpAny_pure q)) fun _ _ z=>z)
theorem zk4{t u:Bool}{z p r i j a b a0:Addr}{f:Bool}{oa:Obj}{k m:Nat}{xs ys:Array Value}{Q:PySem.Fin->Shared->Prop}(hh:A.handled=none)(D:ZAp z p r i j a b)(hz:IsZipO s.heap z p r a0 f)(h0:s.heap.get? a0=some oa)(hp:IsPair s.heap p (.ref i) (.ref j))
  (hi:ItK t s.heap i a k) (hj:ItK u s.heap j b m) (ha:SqK t s.heap a xs) (hb:SqK u s.heap b ys) (hend:xs[k]? = none\/ys[m]? = none)
  (hE:∀ g e,(∀ q o,q≠z->q≠i->q≠j->s.heap.get? q=some o->g.get? q=some o)->(∃ o,g.get? e=some o/\o.cls=.type "StopIteration")->E (.ref e) { s with heap:=g }) :
  wpAny (model prog w) A (Builtin.«zip.__next__» ⟨[.ref z],[]⟩) Q E s:=by
 obtain⟨h0',gs,dr,tk,os⟩:=s;show wpAny _ _ (field (.ref z) 2 >>= _) _ _ ⟨h0',gs,dr,tk,os⟩;refine wpAny_bind (wpAny_field hz rfl (x:=.bool false) rfl ?_);show wpAny _ _ (field (.ref z) 3 >>= _) _ _ ⟨h0',gs,dr,tk,os⟩;refine wpAny_bind (wpAny_field hz rfl (x:=.ref p) rfl (wpAny_bind (wpAny_seqItems hp rfl ?_)));show wpAny _ _ (Builtin.SmallTypes.ownedTupleIsFree (.ref z) >>= _) _ _ ⟨h0',gs,dr,tk,os⟩;refine wpAny_bind ?_;unfold Builtin.SmallTypes.ownedTupleIsFree;refine wpAny_bind (wpAny_field hz rfl (x:=rawInt a0) rfl ?_);show wpAny _ _ (loadIfAlive ((a0:Int).toNat) >>= _) _ _ _;rw [Int.toNat_natCast];refine wpAny_bind (W.kdx_alive h0 ?_);simp only [Option.isNone_some,Bool.false_eq_true,if_false];refine wpAny_bind (wpAny_field hz rfl (x:=.bool f) rfl ?_);have tail:∀ g1:Heap,IsZipO g1 z p r a0 true->Heap.SameBut z h0' g1->∀ {M:Sem PySem.Fin},(∃ (F:Value->Option PySem.Fin×Array Value->Sem (ForInStep (Option PySem.Fin×Array Value))) (G:Option PySem.Fin×Array Value->Sem PySem.Fin),M=(forIn (#[.ref i,.ref j]:Array Value) (none,#[]) F >>= G) /\
   (∀ (it:Value) (acc:Array Value) (R:ForInStep (Option PySem.Fin×Array Value)->Shared->Prop) (s1:Shared),wpAny (model prog w) A (Builtin.SmallTypes.nextOf it) (fun v s2=>R (.yield (none,acc.push v)) s2) E s1->wpAny (model prog w) A (F it (none,acc)) R E s1))->wpAny (model prog w) A M Q E ⟨g1,gs,dr,tk,os⟩:=fun g1 z1 b1 M ⟨F,G,e,hF⟩=>by
  rw [e];refine wpAny_bind ?_;rw [show (#[.ref i,.ref j]:Array Value)=[.ref i,.ref j].toArray from rfl,List.forIn_toArray];simp only [forIn_cons,forIn_nil];refine wpAny_bind (hF _ _ _ _ ?_);cases hx:xs[k]? with
  | none =>
   refine zdW (s:=⟨g1,gs,dr,tk,os⟩) hh (hi.at fun o e=>b1.extBut i o D.iz e) (ha.at fun o e=>b1.extBut a o D.az e) hx fun g2 e b2 he=>?_;exact hE g2 e (fun q o n1 n2 _ e=>b2 q o n2 (b1.extBut q o n1 e)) he
  | some x =>
   have hy:ys[m]? = none:=hend.elim (fun w=>by rw [hx] at w; cases w) id;refine zjI (s:=⟨g1,gs,dr,tk,os⟩) (hi.at fun o e=>b1.extBut i o D.iz e) (ha.at fun o e=>b1.extBut a o D.az e) hx fun g2 i2 b2=>?_;replace b2:Heap.SameBut i g1 g2:=b2;refine wpAny_bind (hF _ _ _ _ ?_);have k2:∀ q o,q≠z->q≠i->h0'.get? q=some o->g2.get? q=some o:=fun q o n1 n2 e=>b2.extBut q o n2 (b1.extBut q o n1 e);refine zdW (s:=⟨g2,gs,dr,tk,os⟩) hh (hj.at fun o e=>k2 j o D.jz (Ne.symm D.ij) e) (hb.at fun o e=>k2 b o D.bz D.bi e) hy fun g3 e b3 he=>?_;exact hE g3 e (fun q o n1 n2 n3 e=>b3 q o n3 (k2 q o n1 n2 e)) he
 cases f with
 | true =>
  rw [if_neg (show ¬ ((Value.bool true != Value.bool true)=true) from Bool.false_ne_true)];refine wpAny_pure ?_;simp only [Bool.false_eq_true,if_false];refine tail h0' hz (Heap.SameBut.refl _ _) ⟨_,_,rfl,fun it acc R s1 h=>?_⟩;refine wpAny_bind (wpAny_holding ?_);show wpAny _ _ (Builtin.SmallTypes.nextOf it >>= _) _ _ _;exact wpAny_bind (wpAny_mono h (fun v s2 q=>wpAny_pure (wpAny_pure q)) fun _ _ z=>z)
 | false =>
  rw [if_pos (show (Value.bool false != Value.bool true)=true from rfl)];refine wpAny_bind (wpAny_setField_rec hz (by simp) fun g1 z1 b1=>?_);refine wpAny_pure ?_;simp only [Bool.false_eq_true,if_false];refine tail g1 z1 b1 ⟨_,_,rfl,fun it acc R s1 h=>?_⟩;refine wpAny_bind (wpAny_holding ?_);show wpAny _ _ (Builtin.SmallTypes.nextOf it >>= _) _ _ _;exact wpAny_bind (wpAny_mono h (fun v s2 q=>wpAny_pure (wpAny_pure q)) fun _ _ z=>z)
structure ZS(h:Heap)(t u:Bool)(z p r i j a b:Addr)(xs ys:Array Value)(k:Nat):Prop where
 z:IsZip h z p r .none\/∃ a0 f oa,IsZipO h z p r a0 f/\h.get? a0=some oa/\a0≠z/\a0≠r/\a0≠i/\a0≠j
 p:IsPair h p (.ref i) (.ref j)
 r:∃ c d,IsPair h r c d
 i:ItK t h i a k
 j:ItK u h j b k
 a:SqK t h a xs
 b:SqK u h b ys
theorem ZS.ty{t u:Bool}{z p r i j a b:Addr}{xs ys:Array Value}{k:Nat}(Z:ZS s.heap t u z p r i j a b xs ys k):s.TypeIs (.ref z) "zip":=by
 rcases Z.z with q | ⟨_,_,_,q,_⟩
 ·exact⟨_,q,rfl⟩
 ·exact⟨_,q,rfl⟩
theorem ZS.keep{h h':Heap}{t u:Bool}{z p r i j a b:Addr}{xs ys:Array Value}{k:Nat}(Z:ZS h t u z p r i j a b xs ys k)(S:Addr)(hS:S≠z/\S≠p/\S≠r/\S≠i/\S≠j/\S≠a/\S≠b)(f:∀ q o,q≠S->h.get? q=some o->h'.get? q=some o)(f0:∀ o,h.get? S=some o->∃ o',h'.get? S=some o'):ZS h' t u z p r i j a b xs ys k:=by
 obtain⟨s1,s2,s3,s4,s5,s6,s7⟩:=hS;refine⟨?_,f _ _ s2.symm Z.p,let ⟨c,d,q⟩:=Z.r; ⟨c,d,f _ _ s3.symm q⟩,Z.i.at fun o e=>f _ _ s4.symm e,Z.j.at fun o e=>f _ _ s5.symm e,Z.a.at fun o e=>f _ _ s6.symm e,Z.b.at fun o e=>f _ _ s7.symm e⟩;rcases Z.z with q | ⟨a0,g,oa,q,e,n⟩
 ·exact .inl (f _ _ s1.symm q)
 ·by_cases w:a0=S
  ·obtain⟨o',e'⟩:=f0 oa (by rw [<- w]; exact e);exact .inr ⟨a0,g,o',f _ _ s1.symm q,by rw [w]; exact e',n⟩
  ·exact .inr ⟨a0,g,oa,f _ _ s1.symm q,f _ _ w e,n⟩
theorem zow{t u:Bool}{z p r i j a b:Addr}{k:Nat}{xs ys:Array Value}{x y:Value}{Q:Option Value->Shared->Prop}(D:ZAp z p r i j a b)(Z:ZS s.heap t u z p r i j a b xs ys k)(hx:xs[k]? = some x)(hy:ys[k]? = some y)
  (hQ:∀ g,ZS g t u z p r i j a b xs ys (k+1)->IsPair g s.heap.objs.size x y->(∀ q o,q≠z->q≠r->q≠i->q≠j->s.heap.get? q=some o->g.get? q=some o)->Q (some (.ref s.heap.objs.size)) { s with heap:=g }) :
  wpAny (model prog w) A (pyNext (.ref z)) Q E s:=by
 obtain⟨c,d,hr⟩:=Z.r;obtain⟨oi,ei,_⟩:=Z.i.here;obtain⟨oj,ej,_⟩:=Z.j.here;obtain⟨oz,ez,_⟩:=Z.ty;have lt:∀ {q o},s.heap.get? q=some o->s.heap.objs.size≠q:=fun e=>ne_of_gt (lt_size e);have go:∀ g,(∃ a0 f oa,IsZipO g z p r a0 f/\g.get? a0=some oa/\a0≠z/\a0≠r/\a0≠i/\a0≠j)->(∃ c d,IsPair g r c d)->ItK t g i a (k+1)->ItK u g j b (k+1)->IsPair g s.heap.objs.size x y->(∀ q o,q≠z->q≠r->q≠i->q≠j->s.heap.get? q=some o->g.get? q=some o)->Q (some (.ref s.heap.objs.size)) { s with heap:=g }:=fun g q1 q2 q3 q4 q5 kk =>
  hQ g ⟨.inr q1,kk p _ D.pz D.pr D.pi D.pj Z.p,q2,q3,q4,Z.a.at fun o e=>kk a o D.az D.ar D.ai D.aj e,Z.b.at fun o e=>kk b o D.bz D.br D.bi D.bj e⟩ q5 kk
 unfold pyNext;refine wpAny_bind (wpAny_attempt (wpAny_callSpecial?_slot (name:=Str.ofString "__next__") Z.ty F.slot_zip_next (wpAny_call_entry F.slot_zip_next Z.ty F.entry_zip_next ?_ (F.args_zip_next_1 _))));rcases Z.z with q | ⟨a0,f,oa,q,e,n1,n2,n3,n4⟩
 ·refine zhe D q Z.p hr Z.i Z.j Z.a Z.b hx hy fun g a1 a2 a3 a4 a5 kk=>wpAny_pure ?_;exact go g ⟨_,false,_,a1,a5,lt q,lt hr,lt ei,lt ej⟩ ⟨_,_,a2⟩ a3 a4 a5 kk
 ·refine zkX D q e n1 Z.p Z.i Z.j Z.a Z.b hx hy fun g a1 a3 a4 a5 kk=>wpAny_pure ?_;exact go g ⟨a0,true,oa,a1,kk a0 oa n1 n3 n4 e,n1,n2,n3,n4⟩ ⟨c,d,kk r _ D.rz D.ri D.rj hr⟩ a3 a4 a5 fun q o w1 _ w3 w4 e=>kk q o w1 w3 w4 e
theorem zoY{t u:Bool}{z p r i j a b:Addr}{k:Nat}{xs ys:Array Value}{Q:Option Value->Shared->Prop}(hh:A.handled=none)(D:ZAp z p r i j a b)(Z:ZS s.heap t u z p r i j a b xs ys k)(hend:xs[k]? = none\/ys[k]? = none)
  (hQ:∀ g,(∀ q o,q≠z->q≠r->q≠i->q≠j->s.heap.get? q=some o->g.get? q=some o)->Q none { s with heap:=g }) :
  wpAny (model prog w) A (pyNext (.ref z)) Q E s:=by
 obtain⟨c,d,hr⟩:=Z.r;unfold pyNext;refine wpAny_bind (wpAny_attempt (wpAny_callSpecial?_slot (name:=Str.ofString "__next__") Z.ty F.slot_zip_next (wpAny_call_entry F.slot_zip_next Z.ty F.entry_zip_next ?_ (F.args_zip_next_1 _))));rcases Z.z with q | ⟨a0,f,oa,q,e,n1,n2,n3,n4⟩
 ·refine zho hh D q Z.p hr Z.i Z.j Z.a Z.b hend fun g e kk he=>?_;obtain⟨o,ho,hc'⟩:=he;exact wpAny_bind (wpAny_isInstance (T:="StopIteration") (b:=true) ⟨o,ho,hc'⟩ isSubtype_stop (wpAny_pure (hQ g kk)))
 ·refine zk4 hh D q e Z.p Z.i Z.j Z.a Z.b hend fun g e kk he=>?_;obtain⟨o,ho,hc'⟩:=he;exact wpAny_bind (wpAny_isInstance (T:="StopIteration") (b:=true) ⟨o,ho,hc'⟩ isSubtype_stop (wpAny_pure (hQ g fun q o w1 _ w3 w4 e=>kk q o w1 w3 w4 e)))
def ZPs(h:Heap)(xs ys:Array Value)(Ts:List Addr)(N0:Nat):Prop:=∀ (l:Nat) (T:Addr),Ts[l]? = some T->N0<=T/\∃ x y,xs[l]? = some x/\ys[l]? = some y/\IsPair h T x y
theorem zoH{R:Result->Shared->Prop}{t u:Bool}{z p r i j a b S:Addr}{xs ys:Array Value}{N0 n:Nat}(hh:A.handled=none)(D:ZAp z p r i j a b)(hS:S≠z/\S≠p/\S≠r/\S≠i/\S≠j/\S≠a/\S≠b)(hn:n=min xs.size ys.size)(hz:n<=sizeLine)
  (l1:z<N0) (l2:r<N0) (l3:i<N0) (l4:j<N0) (l5:S<N0) (res:Value) :
  ∀ (k m:Nat) (s:Shared) (Ts:List Addr) (c:Nat),n - m=k->m<=n->N0<=s.heap.objs.size->ZS s.heap t u z p r i j a b xs ys m->s.heap.get? S=some { cls:=.type "list",dict:=none,data:=.seq (Ts.map Value.ref).toArray c,slots:=#[] }->Ts.length=m->ZPs s.heap xs ys Ts N0->Ts.Nodup ->
  (∀ h' Ts' c',(∀ q o,q≠z->q≠r->q≠i->q≠j->q≠S->s.heap.get? q=some o->h'.get? q=some o)->h'.get? S=some { cls:=.type "list",dict:=none,data:=.seq (Ts'.map Value.ref).toArray c',slots:=#[] }->Ts'.length=n->ZPs h' xs ys Ts' N0->Ts'.Nodup->R (.ok (.ret res)) { s with heap:=h' }) ->
  codeAny (model prog w) A (.builtin "list.extend.loop" ⟨[.ref S,.ref z,res],[]⟩) R s:=by
 obtain⟨s1,s2,s3,s4,s5,s6,s7⟩:=id hS;have ap:∀ {T:Addr},N0<=T->T≠z/\T≠r/\T≠i/\T≠j/\T≠S:=fun {T} h=>⟨ne_of_gt (lt_of_lt_of_le l1 h),ne_of_gt (lt_of_lt_of_le l2 h),ne_of_gt (lt_of_lt_of_le l3 h),ne_of_gt (lt_of_lt_of_le l4 h),ne_of_gt (lt_of_lt_of_le l5 h)⟩;have zps:∀ {h h':Heap} {Ts:List Addr},ZPs h xs ys Ts N0->(∀ q o,q≠z->q≠r->q≠i->q≠j->q≠S->h.get? q=some o->h'.get? q=some o)->ZPs h' xs ys Ts N0:=fun {h h' Ts} Z f l T e=>by
  obtain⟨g,x,y,e1,e2,e3⟩:=Z l T e;obtain⟨w1,w2,w3,w4,w5⟩:=ap g;exact⟨g,x,y,e1,e2,f _ _ w1 w2 w3 w4 w5 e3⟩
 intro k;induction k with
 | zero =>
  intro m s Ts c hk hm hN Z hL hl hP hD hR;have e:m=n:=by omega
  refine codeAny_builtin F.entry_extend_loop ?_;rw [Around.under_plainId F.plain_extend_loop _];show wpAny _ A.in1 (pyNext (.ref z) >>= _) _ _ s;refine wpAny_bind (zoY (A:=A.in1) hh D Z ?_ fun g kk=>?_)
  ·rcases Nat.le_total xs.size ys.size with w | w
   ·exact .inl (by simp; omega)
   ·exact .inr (by simp; omega)
  ·exact wpAny_pure (hR g Ts c (fun q o w1 w2 w3 w4 _ e=>kk q o w1 w2 w3 w4 e) (kk S _ s1 s3 s4 s5 hL) (by omega) (zps hP fun q o w1 w2 w3 w4 _ e=>kk q o w1 w2 w3 w4 e) hD)
 | succ k ih =>
  intro m s Ts c hk hm hN Z hL hl hP hD hR;have hx:xs[m]? = some xs[m]:=Array.getElem?_eq_getElem (by omega);have hy:ys[m]? = some ys[m]:=Array.getElem?_eq_getElem (by omega);refine codeAny_builtin F.entry_extend_loop ?_;rw [Around.under_plainId F.plain_extend_loop _];show wpAny _ A.in1 (pyNext (.ref z) >>= _) _ _ s;refine wpAny_bind (zow (A:=A.in1) D Z hx hy fun g Z' pT kk=>?_);have hL':=kk S _ s1 s3 s4 s5 hL;show wpAny _ A.in1 (updateSeq S (·.push (.ref s.heap.objs.size)) >>= _) _ _ _;refine wpAny_bind ?_;have oth:∀ q o,q≠S->g.get? q=some o->(g.update S (Obj.mapSeq (·.push (.ref s.heap.objs.size)))).get? q=some o:=fun q o w e=>(get?_update_other _ _ (Ne.symm w)).trans e;have up:=get?_update_self (Obj.mapSeq (·.push (Value.ref s.heap.objs.size))) hL' rfl;have ea:(Ts.map Value.ref).toArray.push (Value.ref s.heap.objs.size)=((Ts++[s.heap.objs.size]).map Value.ref).toArray:=by simp
  obtain⟨c2,hL2⟩:∃ c2,(g.update S (Obj.mapSeq (·.push (.ref s.heap.objs.size)))).get? S=some { cls:=.type "list",dict:=none,data:=.seq ((Ts++[s.heap.objs.size]).map Value.ref).toArray c2,slots:=#[] }:=by
   rw [<- ea];exact⟨_,up⟩
  have gsz:s.heap.objs.size<=g.objs.size:=le_of_lt (lt_size pT);refine wpAny_updateSeq hL' rfl (wpAny_pure ⟨plainId_quiet F.plain_extend_loop _,ih (m+1) { s with heap:=g.update S (Obj.mapSeq (·.push (.ref s.heap.objs.size))) } (Ts++[s.heap.objs.size]) c2 (by omega) (by omega) ?_ (Z'.keep S hS (fun q o w e=>oth q o w e) fun o e=>⟨_,up⟩) hL2 (by simp [hl]) (fun l T e=>?_) (zbF hD fun hm=>?_) fun h' Ts' c' f1 f2 f3 f4 f5=>?_⟩)
   (by simp [hl]; omega) (by simp [hl]; omega)
  ·show N0<=(g.update S _).objs.size;rw [size_update];omega
  ·rcases lt_or_ge l Ts.length with w | w
   ·rw [getElem?_append_left w] at e;obtain⟨g1,x,y,e1,e2,e3⟩:=hP l T e;obtain⟨w1,w2,w3,w4,w5⟩:=ap g1;exact⟨g1,x,y,e1,e2,oth _ _ w5 (kk _ _ w1 w2 w3 w4 e3)⟩
   ·rw [getElem?_append_right w] at e;have w2:l - Ts.length=0:=by
     rcases Nat.eq_zero_or_pos (l - Ts.length) with w | w
     ·exact w
     ·rw [List.getElem?_eq_none (by simp; omega)] at e; cases e
    have el:l=m:=by omega
    rw [w2] at e;have eT:s.heap.objs.size=T:=by simpa using e
    subst eT;subst el;exact⟨hN,_,_,hx,hy,oth _ _ (ap hN).2.2.2.2 pT⟩
  ·obtain⟨l,e⟩:=List.getElem?_of_mem hm;obtain⟨_,_,_,_,_,e3⟩:=hP l _ e;exact absurd (lt_size e3) (lt_irrefl _)
  ·exact hR h' Ts' c' (fun q o w1 w2 w3 w4 w5 e=>f1 q o w1 w2 w3 w4 w5 (oth q o w5 (kk q o w1 w2 w3 w4 e))) f2 f3 f4 f5
theorem zlT{z:Addr}{Q:Bool->Shared->Prop}(hT:s.TypeIs (.ref z) "zip")(h:Q true s):wpAny (model prog w) A (Builtin.List.listLengthHint (.ref z)) Q E s:=by
 unfold Builtin.List.listLengthHint;refine wpAny_bind (wpAny_specialOf hT (r:=none) (by rw [typeLookup_type,builtinLookup_eq_fast]; kernel_rfl) ?_);refine wpAny_ite_split (fun hab=>absurd hab dz) (fun _=>?_);refine wpAny_ite_split (fun hab=>absurd hab dz) (fun _=>?_);refine wpAny_bind (wpAny_specialOf hT (r:=none) (by rw [typeLookup_type,builtinLookup_eq_fast]; kernel_rfl) ?_);exact wpAny_pure h
end
theorem zge:∀ (Ts:List Addr),Vals (Ts.map V.ref) (Ts.map Value.ref)
 | []=>.nil
 | T :: r=>.cons rfl (zge r)
theorem znA{α:Type}:∀ {zs:List (Addr×α)} {b:Addr} {w:α},zs.lookup b=some w->(b,w)∈zs
 | [],_,_,e=>by cases e
 | (c,v) :: r,b,w,e=>by
  rw [lookup_cons] at e;by_cases hb:b=c
  ·subst hb;simp at e;subst e;exact mem_cons_self
  ·rw [show (b == c)=false from by simpa using hb] at e;exact mem_cons_of_mem _ (znA e)
theorem zph{α:Type}:∀ {Ts:List Addr} {ws:List α} {m:Nat} {T:Addr} {w:α},Ts.Nodup->Ts[m]? = some T->ws[m]? = some w->(Ts.zip ws).lookup T=some w
 | [],_,_,_,_,_,e,_=>by simp at e
 | _ :: _,[],_,_,_,_,_,e=>by simp at e
 | T0 :: Ts,w0 :: ws,0,T,w,_,e1,e2=>by
  simp at e1 e2;subst e1 e2;simp [lookup_cons]
 | T0 :: Ts,w0 :: ws,m+1,T,w,nd,e1,e2=>by
  rw [nodup_cons] at nd;have e1':Ts[m]? = some T:=by simpa using e1
  have ne:T≠T0:=fun z=>nd.1 (by rw [<- z]; exact mem_of_getElem? e1');rw [List.zip_cons_cons,lookup_cons,show (T == T0)=false from by simpa using ne];exact zph nd.2 e1' (by simpa using e2)
def zqa(a:DA):DE:=fun δ S R=>a δ S fun xs S1=>arg2 xs fun x y=>∃ ds,zh9 x=some ds/\∃ es,zh9 y=some es/\min ds.length es.length<=1000/\R (.d (.list (zgF ds es))) S1
theorem ziS{H H':Hp}(gr:Same H H'):∀ {ds es:List PyData} {xs ys:List V} {Ts:List Addr},HasL H ds xs->HasL H es ys->Ts.length=min xs.length ys.length->(∀ (m:Nat) (T:Addr),Ts[m]? = some T->∃ x y,xs[m]? = some x/\ys[m]? = some y/\H' T=some (.tup [x,y]))->HasL H' (zgF ds es) (Ts.map V.ref)
 | [],es,xs,ys,Ts,h1,h2,hl,_=>by
  have e:=zw.mp h1;subst e;have:Ts=[]:=eq_nil_of_length_eq_zero (by simpa using hl);subst this;exact zw.mpr rfl
 | d :: ds,[],xs,ys,Ts,h1,h2,hl,_=>by
  have e:=zw.mp h2;subst e;have:Ts=[]:=eq_nil_of_length_eq_zero (by simpa using hl);subst this;exact zw.mpr rfl
 | d :: ds,e :: es,xs,ys,Ts,h1,h2,hl,hT=>by
  obtain⟨v,r,rfl,q1,l1⟩:=zu.mp h1;obtain⟨u,r2,rfl,q2,l2⟩:=zu.mp h2;cases Ts with
  | nil=>simp at hl
  | cons T Ts =>
   obtain⟨x,y,e1,e2,e3⟩:=hT 0 T rfl;cases e1;cases e2;refine zu.mpr ⟨_,_,rfl,zai.mpr ⟨T,_,rfl,e3,zu.mpr ⟨_,_,rfl,Has.mono gr _ _ q1,zu.mpr ⟨_,_,rfl,Has.mono gr _ _ q2,zw.mpr rfl⟩⟩⟩,?_⟩;exact ziS gr l1 l2 (by simp only [length_cons] at hl; omega) fun m T' eT=>by
    obtain⟨x,y,e1,e2,e3⟩:=hT (m+1) T' (by simpa using eT);exact⟨x,y,by simpa using e1,by simpa using e2,e3⟩
end L2
namespace L2
open PySem PySem.Spec PyProof.Rows
end L2
namespace L2
open PySem PySem.Spec PySem.Calls PyProof.Rows
open Sem (wp)
end L2
namespace L2
open PySem PySem.Spec PySem.Calls PyProof.Rows
open Sem (wp)
end L2
namespace L2
open PySem PySem.Spec PySem.Calls PyProof.Rows
open Sem (wp)
end L2
namespace L2
open PySem PySem.Spec PySem.Calls PyProof.Rows
open Sem (wp)
end L2
namespace L2
open PySem PySem.Spec PySem.Calls PyProof.Rows
end L2
namespace L2
open PySem PySem.Spec PySem.Calls PyProof.Rows
end L2
namespace L2
open PySem PySem.Spec PySem.Calls PyProof.Rows
open Sem (wp)
end L2
namespace L2
open PySem PySem.Spec PySem.Calls PyProof.Rows
end L2
namespace HT
open PySem PyProof.Rows
end HT
namespace L2
open PySem PySem.Spec PyProof.Rows
section
theorem lo{sc:Scope}{x:Str}(h:sc.names.lookup x=some .local:=by rfl):Loc sc x:=Or.inl h
end
end L2
namespace L2
open PySem PySem.Spec PySem.Calls PyProof.Rows
end L2
namespace L2
open PySem PySem.Spec PyProof.Rows
section
section
variable {prog:Program} {w:World} {A:Around} {E:Value->Shared->Prop} {s:Shared}
open PySem.W PySem.Builtin PySem.Builtin.Str
theorem zmn{x y:Str}{t u:Tok}{Q:Value->Shared->Prop}(hy:(y.length == 0)=false)
  (h:∀ l k,l.map (·.1)=Txt.split x y->Q (.ref s.heap.objs.size) { s with heap:=s.heap.push { cls:=.type "list",data:=.seq (strValues l).toArray },toks:=k })
  (hsz:x.length+2<=sizeLine):wpAny (model prog w) A (call (.builtin "str.split") [.str x t,.str y u]) Q E s:=by
 have hn:(partsBetween x (occurrences x y 0 x.length (x.length+1)) y.length).length<=sizeLine:=by
  have e1:=StrLaws.occ_length_le x y 0 x.length (x.length+1);rw [length_partsBetween]; omega
 cases h1:(decide (x.length<y.length) || decide (strKind x<strKind y))
 ·cases hf:(occurrences x y 0 x.length (x.length+1)).isEmpty
  ·refine call_meets F.slot_str_split (typeIs_str _ _ _) F.entry_str_split (F.args_str_split_2 _ _) (meets_str_split_sep x y t u h1 hy hf (by omega) hn) ?_;show wants Q E _ { s with toks:=_,heap:=s.heap.push { cls:=.type "list",data:=.seq (strsFrom s.toks (partsBetween x (occurrences x y 0 x.length (x.length+1)) y.length)).toArray } };rw [strsFrom_eq];exact h (numbered s.toks _) _ ((numbered_texts _ _).trans ((if_neg (ne_true_of_eq_false h1)).trans (if_neg (ne_true_of_eq_false hf))).symm)
  ·exact call_meets F.slot_str_split (typeIs_str _ _ _) F.entry_str_split (F.args_str_split_2 _ _) (meets_str_split_not_found x y t u h1 hy hf)
    (h [(x,t)] s.toks ((if_neg (ne_true_of_eq_false h1)).trans (if_pos hf)).symm)
 ·exact call_meets F.slot_str_split (typeIs_str _ _ _) F.entry_str_split (F.args_str_split_2 _ _) (meets_str_split_cannot_occur x y t u h1)
   (h [(x,t)] s.toks (if_pos h1).symm)
end
section
variable {X:Cx}
theorem zg6:∀ l:List (Str×Tok),Vals ((l.map (·.1)).map V.str) (strValues l)
 | []=>.nil
 | p :: l=>.cons ⟨p.2,rfl⟩ (zg6 l)
def zlA:V->List V->Hp->VK->Prop:=fun x vs H Q=>∃ z y,x=.str z/\vs=[.str y]/\Q (.bl (PySem.Txt.startswith z y)) H
theorem zjW:MtR X "str.startswith" zlA:=by
 intro zh s σ H x vs v us Q I rx rv h;obtain⟨z,y,rfl,rfl,q⟩:=h;obtain⟨t,rfl⟩:=rx;obtain⟨u,rfl,r1⟩:=rv.one;obtain⟨t',rfl⟩:=r1;exact SC.startswith ⟨.bl _,H,I,rfl,q⟩
def zmY:V->List V->Hp->VK->Prop:=fun x vs H Q=>∃ z y,x=.str z/\vs=[.str y]/\(y.length == 0)=false/\z.length+2<=sizeLine/\∀ l,H l=none->Q (.ref l) (upd H l (.lst ((PySem.Txt.split z y).map V.str)))
theorem zi1:MtR X "str.split" zmY:=by
 intro zh s σ H x vs v us Q I rx rv h;obtain⟨z,y,rfl,rfl,hy,hz,q⟩:=h;obtain⟨t,rfl⟩:=rx;obtain⟨u,rfl,r1⟩:=rv.one;obtain⟨t',rfl⟩:=r1;refine zmn hy (fun l k e=>?_) hz;have hs:=I.hok.fresh (le_refl s.heap.objs.size);refine⟨.ref s.heap.objs.size,_,I.laid (t':=k) (fun _ _ q=>get?_push_of_some _ q) (le_refl _) (show ObjOk X.prog X.w _ _ s.heap.objs.size (.lst ((PySem.Txt.split z y).map V.str)) from⟨?_,strValues l,0,?_,get?_push_size _ rfl⟩),rfl,q _ hs⟩
 ·rw [length_map];unfold PySem.Txt.split;split
  ·show 1<=_; rw [sizeLine_eq]; omega
  ·split
   ·show 1<=_; rw [sizeLine_eq]; omega
   ·have e1:=StrLaws.occ_length_le z y 0 z.length (z.length+1);rw [length_partsBetween];omega
 ·rw [<- e];exact zg6 l
def zqf:List V->Hp->VK->Prop:=fun xs H Q=>∃ z n,xs=[.str z]/\z.length<=640/\PySem.intText? z=some n/\Q (.int n) H
end
def zgm:XV->List XV->Sto->RX->Prop:=fun x xs S R=>asS x fun z=>arg1 xs fun y=>asS y fun y=>R (.d (.bool (PySem.Txt.startswith z y))) S
theorem zi4:RM zlA zgm:=fun h o H S x v xs vs R Q hs hx hxs q c=>by
 replace q:=zb4 q;obtain⟨z,rfl,q⟩:=q;obtain⟨y,rfl,q⟩:=zas q;replace q:=zb4 q;obtain⟨y,rfl,q⟩:=q;obtain⟨u,rfl,hu⟩:=hxs1 hxs;cases zaQ hu;exact⟨z,y,zaQ hx,rfl,c o H S _ _ Ex.refl hs (xB _) q⟩
def zhx:XV->List XV->Sto->RX->Prop:=fun x xs S R=>asS x fun z=>arg1 xs fun y=>asS y fun y=>(y.length == 0)=false/\z.length<=100000/\R (.d (.list ((PySem.Txt.split z y).map PyData.str))) S
theorem zgd{H:Hp}:∀ ns:List Str,HasL H (ns.map PyData.str) (ns.map V.str)
 | []=>zw.mpr rfl
 | n :: ns=>zu.mpr ⟨_,_,rfl,zbP.mpr rfl,zgd ns⟩
theorem zhC:RM zmY zhx:=fun h o H S x v xs vs R Q hs hx hxs q c=>by
 replace q:=zb4 q;obtain⟨z,rfl,q⟩:=q;obtain⟨y,rfl,q⟩:=zas q;replace q:=zb4 q;obtain⟨y,rfl,hy,hz,q⟩:=q;obtain⟨u,rfl,hu⟩:=hxs1 hxs;cases zaQ hu;refine⟨z,y,zaQ hx,rfl,hy,by rw [sizeLine_eq]; omega,fun l hl=>?_⟩;exact zh6 hs (zgd _) c q l hl
section
variable {X:Cx}
theorem zlu:CallR X (.type "int") zqf:=by
 intro zh s σ H xs us Q I r h;obtain⟨z,n,rfl,hz,hn,q⟩:=h;obtain⟨u,rfl,r1⟩:=vals1 r;obtain⟨t,rfl⟩:=r1;exact W.KIN.call_text hn hz ⟨.int n,H,I.tok _,⟨_,rfl⟩,q⟩
end
def zmq:List XV->Sto->RX->Prop:=fun xs S R=>arg1 xs fun x=>asS x fun z=>∃ n,z.length<=640/\PySem.intText? z=some n/\R (.d (.int n)) S
theorem zoU:RC zqf zmq:=fun h o H S xs vs R Q hs hx q c=>by
 obtain⟨x,rfl,q⟩:=zas q;replace q:=zb4 q;obtain⟨z,rfl,n,hz,hn,q⟩:=q;obtain⟨v,rfl,hx1⟩:=hxs1 hx;cases zaQ hx1;exact⟨z,n,rfl,hz,hn,c o H S _ _ Ex.refl hs (xI _) q⟩
end
section
section
variable {prog:Program} {w:World} {A:Around} {E:Value->Shared->Prop} {s:Shared}
theorem zfv{T newId initId:String}{Bn Bi:Builtin}{args:List Value}{kw:List (Str×Value)}{S:PySem.Spec}{Q Q₁:Value->Shared->Prop}(ft:TypeCalled T newId initId)
  (hct:checkTypeCall T ⟨args,kw⟩=pure ()) (hcn:checkBuiltinCall newId ⟨.type T :: args,kw⟩=pure ())
  (entryN:entryFor table newId=some Bn) (entryI:entryFor table initId=some Bi) (g:Meets (Bn ⟨.type T :: args,kw⟩) S)
  (h:S A.in1 (wants Q₁ E) s)
  (hnext:∀ obj s₁,Q₁ obj s₁->s₁.TypeIs obj T/\argsOk initId ⟨obj :: args,kw⟩/\∃ Si,Meets (Bi ⟨obj :: args,kw⟩) Si/\Si A.in1 (wants (fun r s₂=>r=.none/\Q obj s₂) E) s₁) :
  wpAny (model prog w) A (call (.type T) args kw) Q E s:=by
 obtain⟨c,tl,hmro⟩:=ft.mro;have hmade:=ft.made;have hsub:=ft.sub;refine wpAny_call (codeAny_of_tree ?_);show wpAny _ _ (callAny (.type T) _) _ _ _;refine wpAny_pure ⟨Code.quiet_builtin _ (by decide +kernel),codeAny_builtin F.entry_type_call ?_⟩;rw [Around.under_plain (weight_type_call_type T args kw) (units_type_call_type T args kw)];have h1:=ft.notType;have h2:=ft.canCreate
 repeat (any_goals (first | assumption | wp_step))
 refine codeAny_mono (codeAny_call_builtin ft.plain entryN (wpAny_of_eq hcn (g prog w A.in1 _ s h))) fun r s₁ hr=>?_;cases r with
 | error e=>exact hr
 | ok fl =>
  cases fl with
  | ret obj =>
   obtain⟨hT,hok,Si,gi,hsi⟩:=hnext _ _ hr;have hli:=ft.init.lookup;have hbi:=ft.init.bind obj
   repeat (any_goals (first | assumption | wp_step))
   refine codeAny_mono (codeAny_call_builtin ft.init.plain entryI (ft.init.check _ _ _ _ _ _ _ _ hT hok (gi prog w A.in1 _ s₁ hsi))) fun r₂ s₂ hr₂=>?_;cases r₂ with
   | error e=>exact hr₂
   | ok fl₂ =>
    cases fl₂ with
    | ret r =>
     obtain⟨rfl,hq⟩:=hr₂
     repeat (any_goals (first | assumption | wp_step))
    | _=>exact hr₂.elim
  | _=>exact hr.elim
theorem zdZ{T newId:String}{self:Value}{rest:List Value}{k:Str}{v:Value}(hl:typeLookup (.type T) "__init__" = pure (some (.builtin "object.__init__")))
  (hm:Bind.madeBy (.type T)=pure (some newId)) (hne:(some newId != some "object.__new__")=true) :
  Meets (Builtin.«object.__init__» ⟨self :: rest,[(k,v)]⟩) (fun _ R s=>s.TypeIs self T/\R (.ok (.ret .none)) s):=by
 refine Meets.of_wp fun prog w A R s hs=>?_;obtain⟨hT,hq⟩:=hs;cases rest with
 | nil =>
  repeat (any_goals (first | assumption | wp_step))
  exact⟨_,rfl,hq⟩
 | cons a rest =>
  repeat (any_goals (first | assumption | wp_step))
  exact⟨_,rfl,hq⟩
theorem zfW(a:Value)(v:Value):checkTypeCall "enumerate" ⟨[a],[("start",v)]⟩=pure ():=by kernel_rfl
theorem zgC(a:Value)(v:Value):checkBuiltinCall "enumerate.__new__" ⟨[.type "enumerate",a],[("start",v)]⟩=pure ():=by kernel_rfl
theorem zfV(ob a v:Value):argsOk "object.__init__" ⟨[ob,a],[("start",v)]⟩:=by kernel_rfl
theorem zl4(l:Addr)(items:Array Value)(n:Nat)(dct:Option Addr)(sl:Array (Option Value))(tk0:Tok):
  Meets (Builtin.«enumerate.__new__» ⟨[.type "enumerate",.ref l],[("start",.int 1 tk0)]⟩) (fun _ R s=>s.heap.get? l=some { cls:=.type "list",dict:=dct,data:=.seq items n,slots:=sl } /\
   R (.ok (.ret (.ref (s.heap.push { cls:=.type "list_iterator",data:=.fields #[.ref l,.int 0 0] }).objs.size)))
    { s with heap:=(s.heap.push { cls:=.type "list_iterator",data:=.fields #[.ref l,.int 0 0] }).push { cls:=.type "enumerate",data:=.fields #[.none,.bool false,.ref s.heap.objs.size,rawInt 1,.none,.none] } }) :=
 .of_wp fun prog w A R s h=>by
  obtain⟨hp,g,d,tk,os⟩:=s; obtain⟨hl,h⟩:=h;have hsub:=sub_enumerate;have hL:Heap.IsList (Shared.heap ⟨hp,g,d,tk,os⟩) l items:=⟨_,hl,rfl,n,rfl⟩
  wp_walk using wpAny_loadPart' hl
  refine wpAny_stack_any fun st=>wpAny_pure ?_;split
  ·rename_i c _ _ _ _ _;cases (c == Value.type "enumerate")
   ·wp_walk using wpAny_loadPart' hl,wpAny_pyIter_list hL
    all_goals exact⟨_,rfl,h⟩
   ·wp_walk using wpAny_loadPart' hl,wpAny_pyIter_list hL
    all_goals exact⟨_,rfl,h⟩
  ·wp_walk using wpAny_loadPart' hl,wpAny_pyIter_list hL
   all_goals exact⟨_,rfl,h⟩
theorem zjm{l:Addr}{items:Array Value}{tk0:Tok}{Q:Value->Shared->Prop}(hL:s.heap.IsList l items)
  (hyp:∀ g,IsEnum g (s.heap.objs.size+1) s.heap.objs.size 1 .none->g.IsListIter s.heap.objs.size l 0->(∀ b o,s.heap.get? b=some o->g.get? b=some o)->Q (.ref (s.heap.objs.size+1)) { s with heap:=g }):wpAny (model prog w) A (call (.type "enumerate") [.ref l] [("start",.int 1 tk0)]) Q E s:=by
 obtain⟨⟨c,dct,dt,sl⟩,ht,hc,n,hd⟩:=hL;replace hc:c=.type "list":=hc;replace hd:dt=.seq items n:=hd;subst hc hd;have sz:(s.heap.push { cls:=.type "list_iterator",data:=.fields #[.ref l,.int 0 0] }).objs.size=s.heap.objs.size+1:=size_push ..;have he:=get?_push_size (s.heap.push { cls:=.type "list_iterator",data:=.fields #[.ref l,.int 0 0] }) (o:={ cls:=.type "enumerate",data:=.fields #[.none,.bool false,.ref s.heap.objs.size,rawInt 1,.none,.none] }) rfl;refine zfv (Q₁:=fun ob s₁=>s₁.TypeIs ob "enumerate"/\Q ob s₁) F.called_enumerate (zfW _ _) (zgC _ _) F.entry_enumerate_new F.entry_object_init (zl4 l items n dct sl tk0) ⟨ht,?_⟩ fun ob s₁ q=>⟨q.1,zfV _ _ _,_,zdZ F.called_enumerate.init.lookup F.called_enumerate.made dz,q.1,rfl,q.2⟩;show _/\_;rw [sz] at he ⊢;exact⟨⟨_,he,rfl⟩,hyp _ he ⟨_,get?_push_of_some _ (get?_push_size _ rfl),rfl,rfl⟩ fun b o q=>get?_push_of_some _ (get?_push_of_some _ q)⟩
end
section
variable {M:Model} {A:Around} {E:Value->Shared->Prop} {s:Shared} {env:Env}
theorem zfu{pos:Pos}{T:String}{first:List Value}{args:List (Bool×Sem Value)}{keywords:List (Option Str×Sem Value)}{Q:Value->Shared->Prop}
  (hplain:args.any (·.1)=false) (hkw:keywords.any (·.1.isNone)=false)
  (h:wpAny M A (evalArgs (.type T) true args keywords) (fun a s₁=>wpAny M A (call (.type T) (first++a.pos) a.kw) Q E s₁) E s) :
  wpAny M A (callWith pos (.type T) first args keywords) Q E s:=by
 unfold callWith;refine wpAny_bind (wpAny_holding (thn h fun a s₁ h₁=>wpAny_bind (wpAny_standAt ?_)));simp only [hplain,hkw,Bool.or_false];refine wpAny_bind (wpAny_pure ?_);exact wpAny_bind (thn h₁ fun r s₂ hr=>wpAny_bind (wpAny_holding (wpAny_point (wpAny_pure hr))))
theorem zfS{pos:Pos}{T:String}{e:Expr}{rest:List Expr}{kws:List Keyword}{Q:Value->Shared->Prop}
  (h:wpAny M A (spliced (backTo pos (starEach (e :: rest) env))) (fun vs s₁=>wpAny M A (evalAll ((backToKw pos (keywordEach kws env)).map (·.2)))
   (fun kvs s₂=>wpAny M A (call (.type T) vs (((backToKw pos (keywordEach kws env)).filterMap (·.1)).zip kvs)) Q E s₂) E s₁) E s)
  (he:backTo pos (starEach (e :: rest) env)=(false,eval e env) :: backTo pos (starEach rest env))
  (hplain:(backTo pos (starEach (e :: rest) env)).any (·.1)=false)
  (hall:(backToKw pos (keywordEach kws env)).all (·.1.isSome)=true)
  (hkw:(backToKw pos (keywordEach kws env)).any (·.1.isNone)=false) :
  wpAny M A (callWith pos (.type T) [] (backTo pos (starEach (e :: rest) env)) (backToKw pos (keywordEach kws env))) Q E s:=by
 refine zfu hplain hkw ?_;rw [he] at h ⊢;exact PyProof.Rows.evalArgs_kwB hall h
end
def Ite1(K:W.Frag)(a:Addr):It :=
 ⟨fun i H=>∃ xs x,SqL K H a xs/\xs[i]? = some x,fun i H x H'=>∃ p v,H p=none/\x=.ref p/\H'=upd H p (.tup [.int ((i+1:Nat):Int),v])/\∀ xs,SqL K H a xs->xs[i]? = some v,fun i H=>∃ xs,SqL K H a xs/\xs.length<=i⟩
theorem zi9{P:Program}{w:World}{K:W.Frag}{elts:List Expr}{n:Nat}{pos:Pos}(a e j:Addr)(hej:e≠j):Turn P w K (.Tuple elts n pos) (Ite1 K a) [e,j] e (fun i h=>(∃ old,IsEnum h e j ((i+1:Nat):Int) old)/\h.IsListIter j a i) where
 mem:=by simp
 obj:=fun i h ⟨⟨old,he⟩,hj⟩ b hb=>by
  rcases mem_cons.mp hb with rfl | hb
  ·exact⟨_,he,fun v z=>by
    have z':Data.fields _=Data.cell v:=z;cases z'⟩
  ·rw [mem_singleton.mp hb];obtain⟨o,q,c,d⟩:=hj;exact⟨o,q,fun v z=>by rw [d] at z; cases z⟩
 keep:=fun i h h' ⟨⟨old,he⟩,hj⟩ k=>⟨⟨old,k e (by simp) _ he⟩,hj.at fun o q=>k j (by simp) o q⟩
 item:=by
  intro X hP hw hK hc i zh s σ H E I hf ⟨⟨old,he⟩,hj⟩ hg;subst hP hw hK;obtain⟨xs,x,hq,hx⟩:=hg;obtain⟨its,rv,p,hz⟩:=I.list hq;obtain⟨u,hu,ru⟩:=rv.get hx;have hT:s.heap.IsList a its.toArray:=p.isList;refine zfw (J:=fun g=>g.IsListIter j a (i+1)) he hej (fun A' Q' E' k=>wpAny_nextOf_list_item hj hT (x:=u) (by simpa using hu) k) (fun g g' z k=>z.at k) fun g e1 j1 t1 k1=>?_;refine⟨_,rfl,wpAny_letOwnedTupleGo_enum (s:={ s with heap:=g,toks:=s.toks+1 }) e1 fun g' e2 b2=>?_⟩;have lt:e<s.heap.objs.size:=lt_size he;have ltj:j<s.heap.objs.size:=by
   obtain⟨_,q,_⟩:=hj;exact lt_size q
  have t2:g'.get? s.heap.objs.size=some { cls:=.type "tuple",data:=.seq #[.int ((i+1:Nat):Int) s.toks,u] }:=(b2.2 _ (ne_of_gt lt)).trans t1;have neT:H s.heap.objs.size=none:=I.hok.fresh (le_refl _);refine⟨.ref s.heap.objs.size,upd H s.heap.objs.size (.tup [.int ((i+1:Nat):Int),x]),I.turnLaid (ch:=[e,j]) (t':=s.toks+1) (fun b o nb q=>(b2.2 b fun z=>nb (by simp [z])).trans (k1 b o (fun z=>nb (by simp [z])) (fun z=>nb (by simp [z])) q)) hf (le_refl _) ?_,rfl,
   ⟨_,x,neT,rfl,rfl,fun ys hy=>by rw [I.list_inj hy hq]; exact hx⟩,⟨⟨u,by simpa using e2⟩,j1.at fun o q=>(b2.2 j (Ne.symm hej)).trans q⟩,fun b hb=>?_⟩
  ·refine⟨⟨by show 2<=sizeLine; decide,_,t2,rfl⟩,[.int ((i+1:Nat):Int) s.toks,u],.cons ⟨s.toks,rfl⟩ (.cons ru .nil),⟨_,t2,rfl,_,rfl⟩⟩
  ·rcases mem_cons.mp hb with rfl | hb
   ·rw [zF (ne_of_lt lt)];exact(hf _ (by simp)).1
   ·rw [mem_singleton.mp hb,zF (ne_of_lt ltj)];exact(hf _ (by simp)).1
 done:=by
  intro X hP hw hK hc i zh s σ H E I hf ⟨⟨old,he⟩,hj⟩ hg;subst hP hw hK;obtain⟨xs,hq,hx⟩:=hg;obtain⟨its,rv,p,hz⟩:=I.list hq;have hT:s.heap.IsList a its.toArray:=p.isList;have hl:=rv.length;exact ze7 (I.ok.hd hc) he (fun A' Q' E' h0 k=>wpAny_nextOf_list_end h0 hj hT (by simp; omega) k) fun g b=>⟨rfl,I.turnedN (ch:=[e,j]) (t':=s.toks) (fun b' o nb q=>b b' o (fun z=>nb (by simp [z])) q) hf⟩
 self:=fun _ _ _ _ _ st h=>by
  obtain⟨⟨old,he⟩,_⟩:=st;exact wpAny_pyIter_enum he h
section
variable {X:Cx} {elts:List Expr} {n:Nat} {tpos:Pos}
def zm0(K:W.Frag)(ta:TA):TI:=fun σ H R=>ta σ H fun vs H1=>∃ a,vs=[.ref a]/\(∃ xs,SqL K H1 a xs)/\R (Ite1 K a) H1
theorem zl1{a:Expr}{ta:TA}{p pos kp cp:Pos}{cj:Nat}(hg:Gl X "enumerate")(hm:X.mg "enumerate" = none)(ha:PA X [a] ta)
  (he:backTo pos (starEach [a] X.env)=(false,eval a X.env) :: backTo pos (starEach [] X.env):=by rfl) (hpl:(backTo pos (starEach [a] X.env)).any (·.1)=false:=by rfl):PI X (.Tuple elts n tpos) (.Call (.Name "enumerate" p) [a] [⟨some "start",.Constant (.int 1) cj cp,kp⟩] pos) (zm0 X.K ta):=by
 intro zh s σ H R I h;refine wpAny_Call_Name_kw (zdP I hg hm zdq ?_);refine zfS (thn (ha pos zh s σ H _ I h) fun us s1 ⟨vs,H1,I1,r1,q1⟩=>?_) he hpl rfl rfl;refine PyProof.Rows.kws_cons (wpAny_Constant_int (PyProof.Rows.kws_nil ?_));obtain⟨b,e,⟨xs,hq⟩,q⟩:=q1;subst e;cases r1 with
 | cons r rr =>
  cases rr;cases r;have I1':=I1.tok (s1.toks+1);obtain⟨its,rv,pl,hz⟩:=I1'.list hq;refine zjm pl.isList fun g he hj k=>?_;refine wpAny_pyIter_enum (s:={ s1 with heap:=g,toks:=s1.toks+1 }) he ?_
  have I2:Inv X zh σ H1 { s1 with heap:=g,toks:=s1.toks+1 }:=I1'.kept (t':=s1.toks+1) k;refine⟨s1.heap.objs.size+1,[s1.heap.objs.size+1,s1.heap.objs.size],_,_,H1,rfl,I2,zi9 b _ _ (succ_ne_self _),⟨⟨_,he⟩,hj⟩,fun c hc=>?_,q⟩;rcases mem_cons.mp hc with rfl | hc
  ·exact I1'.fpOk (le_succ _) (I1'.hok.fresh (le_succ _))
  ·rw [mem_singleton.mp hc];exact I1'.fpOk (le_refl _) (I1'.hok.fresh (le_refl _))
def zgH(a:DA):DI:=fun δ S R=>a δ S fun xs S1=>arg1 xs fun x=>∃ ds,x=.d (.list ds)/\R (zfP 1 ds) S1
theorem zl8{K:W.Frag}{ta:TA}{da:DA}(ha:RA ta da):RI (zm0 K ta) (zgH da):=fun h o H δ σ S R Q he hs q c =>
 ha h o H δ σ S _ _ he hs q fun o1 H1 S1 xs vs e1 s1 x1 d0=>by
  obtain⟨x,rfl,d2⟩:=zas d0;obtain⟨ds,rfl,d1⟩:=d2;obtain⟨v,rfl,hv⟩:=hxs1 x1;obtain⟨a,ws,rfl,ea,l⟩:=zaN.mp (show Has (vx h o1 H1) (.list ds) v from hv);have hl:=l.length;have ea':∀ {o2 H2},ExH h o1 H1 o2 H2->H2 a=some (.lst ws):=fun e2=>zah _ _ (e2.vx _ _ ea);refine⟨a,rfl,⟨ws,.of (zah _ _ ea)⟩,c o1 H1 S1 _ _ e1 s1 ⟨fun i o2 H2 e2 hi=>⟨ws,.of (ea' e2),by rw [zb2] at hi; omega⟩,fun i d o2 H2 e2 hi=>?_,fun i d o2 H2 x H3 S2 e2 s2 hi y=>?_⟩ d1⟩
  ·obtain⟨e,h1,rfl⟩:=zbR ds 1 i d hi;obtain⟨u,eu,_⟩:=l.get h1;exact⟨ws,u,.of (ea' e2),eu⟩
  ·obtain⟨e,h1,rfl⟩:=zbR ds 1 i d hi;obtain⟨u,eu,hu⟩:=l.get h1;obtain⟨p,v,hp,rfl,rfl,hy⟩:=y;have ev:=hy ws (.of (ea' e2));rw [eu] at ev;cases ev;refine⟨Same.laid hp,zai.mpr ⟨p,_,rfl,s2.laid hp,zu.mpr ⟨_,_,rfl,?_,zu.mpr ⟨_,_,rfl,(hu.mono e2.vx).mono (zc6 (Same.laid hp)),zw.mpr rfl⟩⟩⟩⟩;rw [Nat.add_comm];exact zbV.mpr rfl
end
end
section
theorem zoS{X:Cx}{body:List Stmt}{h₀:ExceptHandler}{hs:List ExceptHandler}{pos:Pos}{t:TS}(hx:∀ e s,X.xe e s->False)(hb:PSs X body t):PS X (.Try body (h₀ :: hs) [] [] pos) t:=by
 intro zh s σ H D I h;refine wpAny_Try_except (wpAny_mono (hb zh s σ H D I h) (fun fl s1 q=>?_) fun e s1 z=>(hx e s1 z).elim);cases fl with
 | next=>exact wpAny_execs_nil q
 | ret v=>exact q
 | brk=>exact q
 | cont=>exact q
def evens{α:Type}:List α->List α
 | []=>[]
 | [a]=>[a]
 | a :: _ :: r=>a :: evens r
theorem zhD{α:Type}:∀ (l:List α) (k:Nat),(evens l)[k]? = l[2*k]?
 | [],k=>by simp [evens]
 | [a],0=>rfl
 | [a],k+1=>by simp [evens]
 | a :: b :: r,0=>rfl
 | a :: b :: r,k+1=>by
  show (a :: evens r)[k+1]? = _;rw [show 2*(k+1)=2*k+1+1 from by omega,getElem?_cons_succ,getElem?_cons_succ,getElem?_cons_succ];exact zhD r k
theorem znE{α:Type}(h:Nat->Option α):∀ (c:Nat),(∀ j,j<c->∃ v,h j=some v)->∀ j,((List.range c).filterMap h)[j]? = if j<c then h j else none
 | 0,_,j=>by simp
 | c+1,hs,j=>by
  obtain⟨v,e⟩:=hs c (lt_succ_self _);have ih:=znE h c (fun j q=>hs j (lt_succ_of_lt q));have hl:((List.range c).filterMap h).length=c:=by
   have e0:=ih c;rw [if_neg (lt_irrefl _)] at e0;have l1:=List.getElem?_eq_none_iff.mp e0;cases c with
   | zero=>simp
   | succ c =>
    have e1:=ih c;obtain⟨v',e'⟩:=hs c (by omega);rw [if_pos (lt_succ_self _),e'] at e1;have l2:=(List.getElem?_eq_some_iff.mp e1).1;omega
  rw [List.range_succ,List.filterMap_append];simp only [filterMap_cons,List.filterMap_nil,e];rcases Nat.lt_trichotomy j c with q | q | q
  ·rw [getElem?_append_left (by omega),ih j,if_pos q,if_pos (by omega)]
  ·subst q;rw [getElem?_append_right (by omega),hl,Nat.sub_self,if_pos (lt_succ_self _),e];rfl
  ·rw [getElem?_append_right (by omega),if_neg (by omega)];exact List.getElem?_eq_none (by simp; omega)
theorem pick2(items:Array Value)(k:Nat):slicePick items (some (k:Int)) none (some 2)=(evens (items.toList.drop k)).toArray:=by
 unfold slicePick;have e1:sliceBounds (some (k:Int)) none (some 2) items.size=(((min k items.size:Nat):Int),(items.size:Int),2):=by
  unfold sliceBounds;have hk:¬ ((k:Int)<0):=by omega
  simp only [Option.getD_some,hk,if_false,show ((2:Int)>0) from by decide,if_true];congr 1;omega
 rw [e1];congr 1;have e2:sliceRange ((min k items.size:Nat):Int) (items.size:Int) 2=(List.range ((items.size - k+1) / 2)).map fun j:Nat=>min k items.size+2*j:=by
  unfold sliceRange;simp only [show ((2:Int)>0) from by decide,if_true];have e3:(if ((min k items.size:Nat):Int)<(items.size:Int) then ((items.size:Int) - ((min k items.size:Nat):Int)+2 - 1) / 2 else 0).toNat=(items.size - k+1) / 2:=by
   split <;> omega
  rw [e3];refine List.map_congr_left fun j _=>?_;omega
 rw [e2,List.filterMap_map];refine List.ext_getElem? fun j=>?_;rw [znE _ _ fun j q=>?_,zhD,List.getElem?_drop]
 ·split
  ·show items[min k items.size+2*j]? = _;rw [show min k items.size=k from by omega];simp
  ·rw [List.getElem?_eq_none (by simp; omega)]
 ·exact⟨_,Array.getElem?_eq_getElem (show min k items.size+2*j<items.size by omega)⟩
theorem zhH{α:Type}:∀ (l:List α),(evens l).length<=l.length
 | []=>le_refl _
 | [_]=>le_refl _
 | a :: b :: r=>by
  have:=zhH r;show (evens r).length+1<=r.length+2;omega
theorem Vals.evens{xs:List V}{us:List Value}:Vals xs us->Vals (evens xs) (evens us):=by
 have go:∀ (n:Nat) {xs:List V} {us:List Value},xs.length<=n->Vals xs us->Vals (L2.evens xs) (L2.evens us):=by
  intro n;induction n with
  | zero =>
   intro xs us h r;cases r with
   | nil=>exact .nil
   | cons _ _=>simp at h
  | succ n ih =>
   intro xs us h r;cases r with
   | nil=>exact .nil
   | cons a r =>
    cases r with
    | nil=>exact .cons a .nil
    | cons b r=>exact .cons a (ih (by simp at h; omega) r)
 exact go _ (le_refl _)
section
variable {X:Cx} {e el ek:Expr} {te tl tk:TE} {pos p2:Pos}
def zsc(K:W.Frag)(te tl tk:TE):TE:=fun σ H Q=>te σ H fun x H1=>tl σ H1 fun z H2=>tk σ H2 fun y H3=>y=.int 2/\∃ (k:Nat) (a:Addr) (xs:List V),z=.int k/\x=.ref a/\SqL K H3 a xs/\∀ p,H3 p=none->Q (.ref p) (upd H3 p (.lst (evens (xs.drop k))))
theorem znD(he:PE X e te)(hl:PE X el tl)(hk:PE X ek tk):PE X (.Subscript e (.Slice (some el) none (some ek) p2) pos) (zsc X.K te tl tk):=by
 intro zh s σ H Q I h;refine Subscript_ (thn (he zh s σ H _ I h) fun v s1 ⟨x,H1,I1,r1,q1⟩=>?_);refine wpAny_Slice ?_;rw [evalPart_some];refine thn (hl zh s1 σ H1 _ I1 q1) fun vl s2 ⟨z,H2,I2,rz,q2⟩=>?_;refine wpAny_pure ?_;rw [evalPart_some];refine thn (hk zh s2 σ H2 _ I2 q2) fun vk s3 ⟨y,H3,I3,ry,q3⟩=>?_;obtain⟨rfl,k,a,xs,rfl,rfl,hx,q⟩:=q3;obtain⟨t,rfl⟩:=ry;obtain⟨t',rfl⟩:=rz;cases r1;have I4:Inv X zh σ H3 { s3 with heap:=s3.heap.push { cls:=.type "slice",data:=.fields #[.int k t',.none,.int 2 t] } }:=I3.kept (t':=s3.toks) fun b ob q=>get?_push_of_some _ q;obtain⟨its,r,ht,hz⟩:=I4.list hx;have hlen:=r.length;show wpAny (model X.prog X.w) X.A (subscriptTail e (.Slice (some el) none (some ek) p2) (.ref a) (.ref s3.heap.objs.size)) (EP X zh σ Q) X.xe { s3 with heap:=s3.heap.push { cls:=.type "slice",data:=.fields #[.int k t',.none,.int 2 t] } };refine tail_any (ops:=[.ref a,.ref s3.heap.objs.size]) ht.isList.typeIs slot_list_getitem.lookup ?_ (by with_unfolding_all rfl);refine wpAny_getItem_list_slice ht.isList (Heap.IsSliceOf.new ..) (.int k t') .none (.int 2 t) dz ?_ (by rw [size_toArray] <;> omega);rw [pick2];have hev:=zhH (xs.drop k);rw [length_drop] at hev;refine⟨.ref _,_,I4.laid (t':=s3.toks) (o:=.lst (evens (xs.drop k))) (fun b ob q=>get?_push_of_some _ q) (le_refl _) ?_,rfl,q _ (I4.hok.fresh (le_refl _))⟩;exact⟨by omega,_,0,(r.drop k).evens,get?_push_size _ rfl⟩
end
def zpN(e l k:DE):DE:=fun δ S R=>e δ S fun x S1=>l δ S1 fun z S2=>k δ S2 fun y S3=>y=.d (.int 2)/\∃ (i:Nat) (ds:List PyData),z=.d (.int i)/\zjC S3 x=some ds/\R (.d (.list (evens (ds.drop i)))) S3
theorem HasL.evens{H:Hp}{ds:List PyData}{vs:List V}:HasL H ds vs->HasL H (evens ds) (evens vs):=by
 have go:∀ (n:Nat) {ds:List PyData} {vs:List V},ds.length<=n->HasL H ds vs->HasL H (L2.evens ds) (L2.evens vs):=by
  intro n;induction n with
  | zero =>
   intro ds vs h l;have e:=eq_nil_of_length_eq_zero (Nat.le_zero.mp h);subst e;rw [zw.mp l];exact zw.mpr rfl
  | succ n ih =>
   intro ds vs h l
   match ds,h,l with
   | [],h,l=>rw [zw.mp l]; exact zw.mpr rfl
   | [d],h,l =>
    obtain⟨v,r,rfl,h1,l2⟩:=zu.mp l;rw [zw.mp l2];exact zu.mpr ⟨_,_,rfl,h1,zw.mpr rfl⟩
   | d :: d' :: ds,h,l =>
    obtain⟨v,r,rfl,h1,l2⟩:=zu.mp l;obtain⟨v',r',rfl,h2,l3⟩:=zu.mp l2;exact zu.mpr ⟨_,_,rfl,h1,ih (by simp at h; omega) l3⟩
 exact go _ (le_refl _)
theorem zni{K:W.Frag}{te tl tk:TE}{de dl dk:DE}(he':RE te de)(hl':RE tl dl)(hk':RE tk dk):RE (zsc K te tl tk) (zpN de dl dk):=fun h o H δ σ S R Q he hs q c =>
 he' h o H δ σ S _ _ he hs q fun o1 H1 S1 x v e1 s1 x1 d1=>hl' h o1 H1 δ σ S1 _ _ (he.mono e1) s1 d1 fun o2 H2 S2 z w e2 s2 z2 d2=>hk' h o2 H2 δ σ S2 _ _ (he.mono (e1.trans e2)) s2 d2 fun o3 H3 S3 y u e3 s3 y3 d3=>by
  obtain⟨rfl,i,ds,rfl,hd,d3⟩:=d3;obtain⟨p,vs,rfl,ea,l⟩:=zba s3 hd (x1.mono (e2.trans e3));exact⟨zaB y3,i,p,vs,zaB z2,rfl,.of ea,zh6 s3 (l.drop i).evens (Cn.pre c ((e1.trans e2).trans e3)) d3⟩
section
variable {prog:Program} {w:World} {A:Around} {E:Value->Shared->Prop} {s:Shared}
theorem zhT{t u:Bool}{z p r i j a b:Addr}{xs ys:Array Value}{n:Nat}{Q:List Value->Shared->Prop}(hh:A.handled=none)(D:ZAp z p r i j a b)(hn:n=min xs.size ys.size)(hz:n<=sizeLine)(Z:ZS s.heap t u z p r i j a b xs ys 0)
  (hQ:∀ h' Ts,(∀ q o,q≠z->q≠r->q≠i->q≠j->s.heap.get? q=some o->h'.get? q=some o)->Ts.length=n->ZPs h' xs ys Ts (s.heap.objs.size+1)->Ts.Nodup->Q (Ts.map Value.ref) { s with heap:=h' }) :
  wpAny (model prog w) A (collect (.ref z)) Q E s:=by
 have hS:(s.heap.push { cls:=.type "list",data:=.seq ([]:List Value).toArray }).get? s.heap.objs.size=some { cls:=.type "list",data:=.seq ([]:List Value).toArray }:=get?_push_size _ rfl;obtain⟨oi,ei,_⟩:=Z.i.here;obtain⟨oj,ej,_⟩:=Z.j.here;obtain⟨oz,ez,_⟩:=Z.ty;obtain⟨oa,ea⟩:=Z.a.here;obtain⟨ob,eb⟩:=Z.b.here;obtain⟨cr,dr,er⟩:=Z.r;have lt:∀ {q o},s.heap.get? q=some o->s.heap.objs.size≠q:=fun e=>ne_of_gt (lt_size e);have hSs:s.heap.objs.size≠z/\s.heap.objs.size≠p/\s.heap.objs.size≠r/\s.heap.objs.size≠i/\s.heap.objs.size≠j/\s.heap.objs.size≠a/\s.heap.objs.size≠b:=⟨lt ez,lt Z.p,lt er,lt ei,lt ej,lt ea,lt eb⟩;unfold collect;refine wpAny_bind (wpAny_runValue (codeAny_builtin F.entry_proto_collect ?_));rw [Around.under_plainId F.plain_proto_collect _];show wpAny _ A.in1 (newList [] >>= fun l=>again (.builtin "list.__iadd__" ⟨[l,.ref z],[]⟩)) _ _ s;refine wpAny_bind (wpAny_newObj_type ?_);refine wpAny_pure ⟨plainId_quiet F.plain_list_iadd _,codeAny_builtin F.entry_list_iadd ?_⟩;rw [Around.under_plainId F.plain_list_iadd _];have Z1:ZS (s.heap.push { cls:=.type "list",data:=.seq ([]:List Value).toArray }) t u z p r i j a b xs ys 0:=Z.keep s.heap.objs.size hSs (fun q o _ e=>get?_push_of_some _ e) fun o e=>⟨o,get?_push_of_some _ e⟩;show wpAny _ A.in1 (Builtin.List.listExtendWith (.ref s.heap.objs.size) (.ref z) (.ref s.heap.objs.size)) _ _ _;unfold Builtin.List.listExtendWith;refine wpAny_bind (wpAny_typeOf (T:="zip") Z1.ty ?_);have h1:Builtin.List.listSameRef (.ref s.heap.objs.size) (.ref z)=false:=by simp [Builtin.List.listSameRef,hSs.1]
 simp only [h1,show (Value.type "zip" == Value.type "list")=false from by decide,show (Value.type "zip" == Value.type "tuple")=false from by decide,Bool.or_false,Bool.false_eq_true,if_false];have it:∀ {Q':Value->Shared->Prop} {E':Value->Shared->Prop} {A':Around} {g:Heap},ZS g t u z p r i j a b xs ys 0->Q' (.ref z) { s with heap:=g }->wpAny (model prog w) A' (pyIter (.ref z)) Q' E' { s with heap:=g }:=fun {Q' E' A' g} Z2 h=>by
  have hT:Shared.TypeIs { s with heap:=g } (.ref z) "zip":=Z2.ty;refine wpAny_pyIter_slot hT F.slot_zip_iter (wpAny_call_entry F.slot_zip_iter hT F.entry_zip_iter ?_ (F.args_zip_iter_1 _));show wpAny _ _ (ret (.ref z)) _ _ _;exact wpAny_pure ⟨_,rfl,"zip",_,hT,F.slot_zip_next.lookup,h⟩
 refine wpAny_bind (it Z1 (wpAny_bind (wpAny_holding (zlT Z1.ty ?_))));simp only [Bool.true_or,if_true];refine wpAny_bind (wpAny_rule (wpAny_bind ?_));show wpAny _ _ (updateSeq s.heap.objs.size (·.push .none) >>= fun _=>updateSeq s.heap.objs.size (·.pop)) _ _ _;refine wpAny_bind (wpAny_updateSeq hS rfl ?_);have hS₃:=get?_update_self (Obj.mapSeq (·.push Value.none)) hS rfl;refine wpAny_updateSeq (hz:=by seq_fits) hS₃ rfl ?_;have hS₄:=get?_update_self (Obj.mapSeq (·.pop)) hS₃ rfl;have o4:∀ q o,q≠s.heap.objs.size->(s.heap.push { cls:=.type "list",data:=.seq ([]:List Value).toArray }).get? q=some o->(((s.heap.push { cls:=.type "list",data:=.seq ([]:List Value).toArray }).update s.heap.objs.size (Obj.mapSeq (·.push Value.none))).update s.heap.objs.size (Obj.mapSeq (·.pop))).get? q=some o:=fun q o w e=>(get?_update_other _ _ (Ne.symm w)).trans ((get?_update_other _ _ (Ne.symm w)).trans e);have s4:(((s.heap.push { cls:=.type "list",data:=.seq ([]:List Value).toArray }).update s.heap.objs.size (Obj.mapSeq (·.push Value.none))).update s.heap.objs.size (Obj.mapSeq (·.pop))).objs.size=s.heap.objs.size+1:=by rw [size_update,size_update,size_push]
 have Z4:=Z1.keep s.heap.objs.size hSs o4 fun o e=>⟨_,hS₄⟩;obtain⟨c4,hS5⟩:∃ c4,(((s.heap.push { cls:=.type "list",data:=.seq ([]:List Value).toArray }).update s.heap.objs.size (Obj.mapSeq (·.push Value.none))).update s.heap.objs.size (Obj.mapSeq (·.pop))).get? s.heap.objs.size=some { cls:=.type "list",dict:=none,data:=.seq #[] c4,slots:=#[] }:=⟨_,hS₄⟩
 clear hS₄
 show wpAny _ _ _ _ _ { s with heap:=((s.heap.push { cls:=.type "list",data:=.seq ([]:List Value).toArray }).update s.heap.objs.size (Obj.mapSeq (·.push Value.none))).update s.heap.objs.size (Obj.mapSeq (·.pop)) };generalize ((s.heap.push { cls:=.type "list",data:=.seq ([]:List Value).toArray }).update s.heap.objs.size (Obj.mapSeq (·.push Value.none))).update s.heap.objs.size (Obj.mapSeq (·.pop))=g4 at o4 s4 Z4 hS5 ⊢;refine wpAny_pure ⟨plainId_quiet PySem.F.plain_extend_loop _,zoH (N0:=s.heap.objs.size+1) hh D hSs hn hz (lt_succ_of_lt (lt_size ez)) (lt_succ_of_lt (lt_size er)) (lt_succ_of_lt (lt_size ei)) (lt_succ_of_lt (lt_size ej)) (lt_succ_self _) (.ref s.heap.objs.size) (n - 0) 0 { s with heap:=g4 } [] c4 rfl (zero_le _) (Nat.le_of_eq s4.symm) Z4 (by simpa using hS5) rfl (fun l T e=>by simp at e) nodup_nil fun h' Ts c' f1 f2 f3 f4 f5=>?_⟩;show wpAny _ A (load s.heap.objs.size >>= _) _ _ _;refine wpAny_bind (wpAny_load f2 ?_);refine wpAny_pure ?_;have:=hQ h' Ts (fun q o w1 w2 w3 w4 e=>?_) f3 f4 f5
 ·simpa using this
 ·have w5:q≠s.heap.objs.size:=ne_of_lt (lt_size e);exact f1 q o w1 w2 w3 w4 w5 (o4 q o w5 (get?_push_of_some _ e))
theorem zjF(t u:Bool)(z p r i j a b:Addr)(xs ys:Array Value)(n:Nat)(D:ZAp z p r i j a b)(hn:n=min xs.size ys.size)(hz:n<=sizeLine):
  Meets (Builtin.«tuple.__new__» ⟨[.type "tuple",.ref z],[]⟩)
   (fun A R s=>A.handled=none/\ZS s.heap t u z p r i j a b xs ys 0/\∀ h' Ts,(∀ q o,q≠z->q≠r->q≠i->q≠j->s.heap.get? q=some o->h'.get? q=some o)->Ts.length=n->ZPs h' xs ys Ts (s.heap.objs.size+1)->Ts.Nodup ->
    R (.ok (.ret (.ref h'.objs.size))) { s with heap:=h'.push { cls:=.type "tuple",data:=.seq (Ts.map Value.ref).toArray } }) :=
 .of_wp fun prog w A R s h=>by
  obtain⟨hp,g,d,tk,os⟩:=s;obtain⟨hh,Z,h⟩:=h;have hsub:=sub_tuple_self;have hinit:=init_tuple_lookup;have hmh:=madeHere_tuple;have hT:Shared.TypeIs ⟨hp,g,d,tk,os⟩ (.ref z) "zip":=Z.ty
  wp_walk using wpAny_typeOf hT,zhT (A:=A.in1) hh D hn hz Z
  intro h' Ts hk f3 f4 f5;show wpAny _ _ (Builtin.Tuple.tupleExact (Ts.map Value.ref).toArray >>= fun v=>ret v) _ _ _;unfold Builtin.Tuple.tupleExact;refine wpAny_bind (wpAny_newObj_type ?_ (by show (Ts.map Value.ref).toArray.size<=sizeLine; simp [f3]; exact hz));exact wpAny_pure ⟨_,rfl,h h' Ts hk f3 f4 f5⟩
theorem zgQ{t u:Bool}{z p r i j a b:Addr}{xs ys:Array Value}{n:Nat}{Q:Value->Shared->Prop}(hh:A.handled=none)(D:ZAp z p r i j a b)(hn:n=min xs.size ys.size)(hz:n<=sizeLine)(Z:ZS s.heap t u z p r i j a b xs ys 0)
  (hQ:∀ h' Ts,(∀ q o,q≠z->q≠r->q≠i->q≠j->s.heap.get? q=some o->h'.get? q=some o)->Ts.length=n->ZPs h' xs ys Ts (s.heap.objs.size+1)->Ts.Nodup->Q (.ref h'.objs.size) { s with heap:=h'.push { cls:=.type "tuple",data:=.seq (Ts.map Value.ref).toArray } }) :
  wpAny (model prog w) A (call (.type "tuple") [.ref z]) Q E s :=
 callType_new F.called_tuple dz (F.typeCall_tuple_1 _) (F.newCall_tuple_1 _) (fun obj=>F.args_object_init_2 obj _) F.entry_tuple_new
  (zjF t u z p r i j a b xs ys n D hn hz) ⟨hh,Z,fun h' Ts hk f3 f4 f5=>⟨⟨_,get?_push_size _ rfl,rfl⟩,hQ h' Ts hk f3 f4 f5⟩⟩
end
theorem Inv.zips{X:Cx}{zh:List (Addr×Obj)}{σ:St}{H1:Hp}{s1:Shared}{h':Heap}{xs ys:List V}{its its2:List Value}{Ts:List Addr}{N0:Nat}(I1:Inv X zh σ H1 s1)(k2:∀ q o,s1.heap.get? q=some o->h'.get? q=some o)(rv:Vals xs its)(rv2:Vals ys its2)(hN:s1.heap.objs.size<=N0)
  (f4:ZPs h' its.toArray its2.toArray Ts N0) (f5:Ts.Nodup):∃ H2,Same H1 H2/\Inv X zh σ H2 { s1 with heap:=h' }/\(∀ T∈Ts,H1 T=none)/\∀ (m:Nat) (T:Addr),Ts[m]? = some T->∃ x y,xs[m]? = some x/\ys[m]? = some y/\H2 T=some (.tup [x,y]):=by
 have l1:=rv.length;have l2:=rv2.length
 let zs:List (Addr×HO):=Ts.zip ((xs.zip ys).map fun q=>HO.tup [q.1,q.2])
 let H2:Hp:=fun b=>(zs.lookup b).or (H1 b)
 have fr:∀ b,s1.heap.objs.size<=b->H1 b=none:=fun b w=>I1.hok.fresh w;have lk:∀ b w,zs.lookup b=some w->∃ m,Ts[m]? = some b/\∃ x y,xs[m]? = some x/\ys[m]? = some y/\w=.tup [x,y]:=fun b w e=>by
  have mm:=znA e;obtain⟨m,em⟩:=List.getElem?_of_mem mm;rw [List.getElem?_zip_eq_some] at em;obtain⟨e1,e2⟩:=em;rw [getElem?_map] at e2;cases e3:(xs.zip ys)[m]? with
  | none=>rw [e3] at e2; cases e2
  | some pr =>
   rw [e3] at e2;obtain⟨e4,e5⟩:=List.getElem?_zip_eq_some.mp e3;exact⟨m,e1,_,_,e4,e5,(Option.some.inj e2).symm⟩
 have bN:∀ m T,Ts[m]? = some T->s1.heap.objs.size<=T:=fun m T e=>le_trans hN (f4 m T e).1;have sm:Same H1 H2:=fun b o e=>by
  have w:=I1.hok.lt e;show (zs.lookup b).or (H1 b)=_;cases z:zs.lookup b with
  | none=>exact e
  | some v =>
   obtain⟨m,em,_⟩:=lk b v z;exact absurd (lt_of_lt_of_le w (bN m b em)) (lt_irrefl _)
 refine⟨H2,sm,?_,fun T mT=>?_,fun m T e=>?_⟩
 ·refine I1.laidAll (t':=s1.toks) k2 sm fun b o e=>?_;have e':(zs.lookup b).or (H1 b)=some o:=e;cases z:zs.lookup b with
  | none=>rw [z] at e'; exact .inl e'
  | some v =>
   rw [z] at e';cases (show some v=some o from e');obtain⟨m,em,x,y,ex,ey,rfl⟩:=lk b o z;obtain⟨_,v1,v2,e1,e2,pT⟩:=f4 m b em;obtain⟨w1,e3,r1⟩:=rv.get ex;obtain⟨w2,e4,r2⟩:=rv2.get ey;have e1':its[m]? = some v1:=by simpa using e1
   have e2':its2[m]? = some v2:=by simpa using e2
   rw [e3] at e1';rw [e4] at e2';cases e1';cases e2';exact .inr ⟨bN m b em,⟨by show 2<=sizeLine; decide,_,pT,rfl⟩,[v1,v2],.cons r1 (.cons r2 .nil),⟨_,pT,rfl,_,rfl⟩⟩
 ·obtain⟨m,em⟩:=List.getElem?_of_mem mT;exact fr _ (bN m T em)
 ·obtain⟨_,v1,v2,e1,e2,_⟩:=f4 m T e;have m1:m<xs.length:=by
   have:=(Array.getElem?_eq_some_iff.mp e1).1;rw [l1]; simpa using this
  have m2:m<ys.length:=by
   have:=(Array.getElem?_eq_some_iff.mp e2).1;rw [l2]; simpa using this
  have ex:=getElem?_eq_getElem m1;have ey:=getElem?_eq_getElem m2;refine⟨_,_,ex,ey,?_⟩;show (zs.lookup T).or (H1 T)=_;rw [zph (ws:=(xs.zip ys).map fun q=>HO.tup [q.1,q.2]) (w:=HO.tup [xs[m],ys[m]]) f5 e (by rw [getElem?_map,(List.getElem?_zip_eq_some (z:=(xs[m],ys[m]))).mpr ⟨ex,ey⟩]; rfl)];rfl
def zp2(K:W.Frag)(ta:TA):TE:=fun σ H Q=>ta σ H fun vs H1=>∃ a b t u xs ys,vs=[.ref a,.ref b]/\SqV K t H1 a xs/\SqV K u H1 b ys/\min xs.length ys.length<=1000 /\
 ∀ (l:Addr) (H2:Hp) (Ts:List Addr),Same H1 H2->H1 l=none->(∀ T∈Ts,H1 T=none)->H2 l=some (.tup (Ts.map V.ref))->Ts.length=min xs.length ys.length->(∀ (m:Nat) (T:Addr),Ts[m]? = some T->∃ x y,xs[m]? = some x/\ys[m]? = some y/\H2 T=some (.tup [x,y]))->Q (.ref l) H2
theorem zod{X:Cx}{a b:Expr}{ta:TA}{p p' pos pos':Pos}(hc:X.calm=true)(hgl:Gl X "tuple")(hml:X.mg "tuple" = none)(hg:Gl X "zip")(hm:X.mg "zip" = none)(ha:PA X [a,b] ta)
  (hs:starEach [a,b] X.env=[(false,eval a X.env),(false,eval b X.env)]:=by rfl) (hs2:starEach [b] X.env=[(false,eval b X.env)]:=by rfl)
  (hs3:starEach [.Call (.Name "zip" p) [a,b] [] pos] X.env=[(false,eval (.Call (.Name "zip" p) [a,b] [] pos) X.env)]:=by rfl) :
  PE X (.Call (.Name "tuple" p') [.Call (.Name "zip" p) [a,b] [] pos] [] pos') (zp2 X.K ta):=by
 intro zh s σ H Q I h;refine wpAny_Call_Name_kw (zdP I hgl hml zj6 ?_ dz dz);refine PyProof.Rows.callWith_type1 ?_ (by rw [hs3]; rfl) rfl;rw [hs3];show wpAny _ _ (spliced ((false,eval (.Call (.Name "zip" p) [a,b] [] pos) X.env) :: [])) _ _ s;refine Calls.spliced_cons (Call_ (zdP I hg hm zih (PyProof.Rows.callWith_type1 (thn (ha pos zh s σ H _ I h) fun us s1 ⟨vs,H1,I1,r1,q1⟩=>?_) (by rw [hs,hs2]) (by rw [hs2]; rfl))));obtain⟨a1,b1,t,u,xs,ys,e,q1,q2,hl,q⟩:=q1;subst e;cases r1 with
 | cons r rr =>
  cases rr with
  | cons r' rr =>
   cases rr;cases r;cases r';obtain⟨its,rv,sq,_⟩:=I1.seqK q1;obtain⟨its2,rv2,sq2,_⟩:=I1.seqK q2;have l1:=rv.length;have l2:=rv2.length;obtain⟨oa,ea⟩:=sq.here;obtain⟨ob,eb⟩:=sq2.here;refine zgZ sq sq2 fun g z1 z2 z3 z4 z5 kk=>Calls.spliced_nil ?_;have D:=znH s1.heap.objs.size a1 b1 (lt_size ea) (lt_size eb);have I2:=I1.kept (h':=g) (t':=s1.toks) kk;have Z:ZS g t u (s1.heap.objs.size+4) (s1.heap.objs.size+2) (s1.heap.objs.size+3) s1.heap.objs.size (s1.heap.objs.size+1) a1 b1 its.toArray its2.toArray 0:=⟨.inl z1,z2,⟨_,_,z3⟩,z4,z5,sq.at fun o e=>kk _ _ e,sq2.at fun o e=>kk _ _ e⟩;have gsz:s1.heap.objs.size+4<g.objs.size:=lt_size z1;refine zgQ (s:={ s1 with heap:=g }) (n:=min its.length its2.length) (I2.ok.hd hc) D (by simp) (by rw [<- l1,<- l2,sizeLine_eq]; omega) Z fun h' Ts f1 f3 f4 f5=>?_
   have k2:∀ q o,s1.heap.get? q=some o->h'.get? q=some o:=fun q o e=>by
    have w:=lt_size e;exact f1 q o (ne_of_lt (lt_of_lt_of_le w (le_add_right _ _))) (ne_of_lt (lt_of_lt_of_le w (le_add_right _ _))) (ne_of_lt w) (ne_of_lt (lt_of_lt_of_le w (le_add_right _ _))) (kk q o e)
   obtain⟨H2,sm,I3,fT,hT⟩:=I1.zips k2 rv rv2 (le_trans (le_of_lt (lt_of_le_of_lt (le_add_right _ 4) gsz)) (le_succ _)) f4 f5;have nl:H2 h'.objs.size=none:=I3.hok.fresh (le_refl _);have I4:=I3.laid (t':=s1.toks) (h':=h'.push { cls:=.type "tuple",data:=.seq (Ts.map Value.ref).toArray }) (fun b o e=>get?_push_of_some _ e) (le_refl _) (show ObjOk X.prog X.w _ _ h'.objs.size (.tup (Ts.map V.ref)) from⟨⟨by rw [length_map,f3,<- l1,<- l2,sizeLine_eq]; omega,_,get?_push_size _ rfl,rfl⟩,Ts.map Value.ref,zge Ts,⟨_,get?_push_size _ rfl,rfl,_,rfl⟩⟩);have n1:H1 h'.objs.size=none:=by
    cases z:H1 h'.objs.size with
    | none=>rfl
    | some v=>rw [sm _ _ z] at nl; cases nl
   refine⟨.ref h'.objs.size,_,I4,rfl,q h'.objs.size _ Ts (fun b o e=>?_) n1 fT (zaq ..) (by rw [f3,<- l1,<- l2]) fun m T e=>?_⟩
   ·rw [zF (zQ (sm b o e) nl)];exact sm b o e
   ·obtain⟨x,y,e1,e2,e3⟩:=hT m T e;exact⟨x,y,e1,e2,by rw [zF (zQ e3 nl)]; exact e3⟩
def zl5(a:DA):DE:=fun δ S R=>a δ S fun xs S1=>arg2 xs fun x y=>∃ ds,zh9 x=some ds/\∃ es,zh9 y=some es/\min ds.length es.length<=1000/\R (.d (.tuple (zgF ds es))) S1
theorem zol{K:W.Frag}{ta:TA}{da:DA}(ha:RA ta da):RE (zp2 K ta) (zl5 da):=fun h o H δ σ S R Q he hs q c =>
 ha h o H δ σ S _ _ he hs q fun o1 H1 S1 xs vs e1 s1 x1 d0=>by
  obtain⟨x,y,rfl,ds,e2,es,e3,hl,d2⟩:=zgo d0;obtain⟨v,u,rfl,hv,hu⟩:=hxs2 x1;obtain⟨t,a,ws,rfl,l,k1⟩:=zeV (K:=K) e2 hv;obtain⟨t',b,zs,rfl,l',k2⟩:=zeV (K:=K) e3 hu;have g1:=l.length;have g2:=l'.length;refine⟨a,b,t,t',ws,zs,rfl,k1 ExH.refl,k2 ExH.refl,by omega,fun l0 H2 Ts gr f1 f2 f3 f4 f5=>?_⟩;have v1:∀ b u,H1 b=none->H2 b=some u->vx h o1 H2 b=some u:=fun b u n e=>by
   obtain⟨z1,z2⟩:=s1.fresh n;exact zY.mpr ⟨z1,z2,e⟩
  exact c o1 H2 S1 (.d (.tuple (zgF ds es))) _ (e1.trans (Ex.of_same gr)) (s1.same gr) (zai.mpr ⟨l0,_,rfl,v1 l0 _ f1 f3,ziS (zc6 gr) l l' f4 fun m T e=>by
   obtain⟨x,y,q1,q2,q3⟩:=f5 m T e;exact⟨x,y,q1,q2,v1 T _ (f2 T (mem_of_getElem? e)) q3⟩⟩) d2
end
end L2
namespace My
open PySem L2
def zbJ:PN:=fun xs S R=>(zbf (zem (dCB zhp (ze (zr 0) (ze (dO (.ty "int")) zz))) (zkP (dCB zhp (ze (zr 0) (ze (dO (.ty "bool")) zz)))))) (zcR S.length R) (xs.map some++List.replicate 0 none) S
def zch:PN:=fun xs S R=>(zae (zaT (dOp (dI (fun _ j=>0<j) fun i j=>i % j) (dOp zbY (zr 0) (dC (.int 7919))) (dC (.int 2147483647))) (zp 0)) (zbf (dOp (dI (fun _ j=>0<j) fun i j=>i % j) (dOp zbY (dOp zbY (dOp zia (zr 0) (zr 0)) (dOp zia (dC (.int 48271)) (zr 0))) (dC (.int 12345))) (dC (.int 2147483629))))) (zcR S.length R) (xs.map some++List.replicate 0 none) S
def zb1:PN:=fun xs S R=>(zae (zaT (dCB (dI2 fun i j=>if j>i then j else i) (ze (zr 0) (ze (dOp (dI0 fun i j=>i - j) (dC (.int 0)) (zr 0)) zz))) (zp 1)) (zbf (zeI (ze (zr 1) (ze (dCB zmi (ze (dOp (dIb fun i j=>decide (j<=i)) (zr 1) (dOp (dI CPow fun i j=>i ^ j.toNat) (dC (.int 10)) (dC (.int 18)))) zz)) (ze (dOp (dI (fun _ j=>0<j) fun i j=>i % j) (zr 1) (dC (.int 1000003))) zz)))))) (zcR S.length R) (xs.map some++List.replicate 1 none) S
def zcC:PN:=fun xs S R=>(zbf (zem (dCB zhp (ze (zr 0) (ze (dO (.ty "int")) zz))) (zkP (dCB zhp (ze (zr 0) (ze (dO (.ty "bool")) zz)))))) (zcR S.length R) (xs.map some++List.replicate 0 none) S
def zy:PN:=fun xs S R=>(zae (zcG (dB (dOp zgM (dOp dIx (zr 0) (dC (.int 1))) (dC (.int 1)))) (zae (zaT (dOp (dI (fun _ j=>0<j) fun i j=>i % j) (dOp dIx (zr 0) (dC (.int 0))) (zr 1)) (zp 2)) (zae (zaT (dOp dFd (dOp dIx (zr 0) (dC (.int 0))) (zr 1)) (zjx (zr 0) (dC (.int 0)))) (zbf (zr 2)))) zau) (zae (zaT (zaz 1 zch (ze (dOp zbY (zaz 1 zch (ze (dOp dIx (zr 0) (dC (.int 2))) zz)) (dC (.int 7))) zz)) (zjx (zr 0) (dC (.int 2)))) (zbf (dOp (dI (fun _ j=>0<j) fun i j=>i % j) (dOp dFd (dOp dIx (zr 0) (dC (.int 2))) (dC (.int 64))) (zr 1))))) (zcR S.length R) (xs.map some++List.replicate 1 none) S
def zc5:PN:=fun xs S R=>(zae (zaT (zab 0 2 zy (ze (zr 0) (ze (dC (.int 8)) zz))) (zp 1)) (zae (zcG (dB (dOp (dIb fun i j=>decide (i<j)) (zr 1) (dC (.int 5)))) (zbf (dOp (dI0 fun i j=>i - j) (zab 0 2 zy (ze (zr 0) (ze (dC (.int 13)) zz))) (dC (.int 6)))) zau) (zae (zcG (dB (dOp (dIb fun i j=>decide (i<j)) (zr 1) (dC (.int 7)))) (zbf (dOp (dI0 fun i j=>i - j) (zab 0 2 zy (ze (zr 0) (ze (dC (.int 2001)) zz))) (dC (.int 1000)))) zau) (zbf (dOp zia (dOp (dI0 fun i j=>i - j) (zab 0 2 zy (ze (zr 0) (ze (dOp zia (dC (.int 2)) (dOp (dI CPow fun i j=>i ^ j.toNat) (dC (.int 10)) (dC (.int 30)))) zz))) (dOp (dI CPow fun i j=>i ^ j.toNat) (dC (.int 10)) (dC (.int 30)))) (dOp (dI CPow fun i j=>i ^ j.toNat) (dC (.int 10)) (dC (.int 28)))))))) (zcR S.length R) (xs.map some++List.replicate 1 none) S
def zcX:PN:=fun xs S R=>(zae (zaT (zab 0 2 zy (ze (zr 0) (ze (dC (.int 8)) zz))) (zp 1)) (zae (zcG (dB (dOp (dIb fun i j=>decide (i<j)) (zr 1) (dC (.int 5)))) (zbf (dOp (dI0 fun i j=>i - j) (zab 0 2 zy (ze (zr 0) (ze (dC (.int 13)) zz))) (dC (.int 6)))) zau) (zae (zcG (dB (dOp (dIb fun i j=>decide (i<j)) (zr 1) (dC (.int 7)))) (zbf (dOp (dI0 fun i j=>i - j) (zab 0 2 zy (ze (zr 0) (ze (dC (.int 2001)) zz))) (dC (.int 1000)))) zau) (zbf (dOp zia (dOp (dI0 fun i j=>i - j) (zab 0 2 zy (ze (zr 0) (ze (dOp zia (dC (.int 2)) (dOp (dI CPow fun i j=>i ^ j.toNat) (dC (.int 10)) (dC (.int 30)))) zz))) (dOp (dI CPow fun i j=>i ^ j.toNat) (dC (.int 10)) (dC (.int 30)))) (dOp (dI CPow fun i j=>i ^ j.toNat) (dC (.int 10)) (dC (.int 28)))))))) (zcR S.length R) (xs.map some++List.replicate 1 none) S
def zco:PN:=fun xs S R=>(zae (zaT (zab 0 1 zc5 (ze (zr 0) zz)) (zp 1)) (zae (zaT (zab 0 2 zy (ze (zr 0) (ze (dC (.int 5)) zz))) (zp 2)) (zae (zcG (dB (dOp zgM (zab 0 2 zy (ze (zr 0) (ze (dC (.int 8)) zz))) (dC (.int 7)))) (zaT (zab 0 2 zy (ze (zr 0) (ze (dOp (dI CPow fun i j=>i ^ j.toNat) (dC (.int 10)) (dC (.int 40))) zz))) (zp 2)) zau) (zbf (zfN (ze (zr 1) (ze (dOp zbY (zr 1) (zr 2)) zz))))))) (zcR S.length R) (xs.map some++List.replicate 2 none) S
def zcV:PN:=fun xs S R=>(zae (zcG (dOr (zeP (ze2 (dCB zhp (ze (zr 0) (ze (dO (.ty "str")) zz))))) (zeP (dB (zdY (dIb fun i j=>decide (i<=j)) (dIb fun i j=>decide (i<=j)) (dC (.int 1)) (dCB zce (ze (zr 0) zz)) (dC (.int 8)))))) (zbf (dC (.bool false))) zau) (zbf (dCB zo2 (ze (zev [none] (zki (zr 0)) (zp 0) zaS (dOp dIn (zr 0) (dC (.str "abcdefghijklmnopqrstuvwxyz")))) zz)))) (zcR S.length R) (xs.map some++List.replicate 0 none) S
def zbM:PN:=fun xs S R=>(zbf (zem (zaz 1 zbJ (ze (zr 0) zz)) (dOp (dIb fun i j=>decide (i<j)) (dCB zqg (ze (zr 0) zz)) (dOp (dI CPow fun i j=>i ^ j.toNat) (dC (.int 10)) (dC (.int 60)))))) (zcR S.length R) (xs.map some++List.replicate 0 none) S
def zcq:PN:=fun xs S R=>(zbf (zem (zaz 1 zbM (ze (zr 0) zz)) (zem (zaz 1 zbM (ze (zr 1) zz)) (dOp (dIb fun i j=>decide (i<=j)) (zr 0) (zr 1))))) (zcR S.length R) (xs.map some++List.replicate 0 none) S
def zaZ:PN:=fun xs S R=>(zae (zaT (dC (.str "abcdefghijklmnopqrstuvwxyz")) (zp 1)) (zae (zaT (zab 0 2 zy (ze (zr 0) (ze (dC (.int 3)) zz))) (zp 2)) (zae (zaT (zab 0 2 zy (ze (zr 0) (ze (dC (.int 26)) zz))) (zp 3)) (zae (zaT (zfH [none,some 1,some 3] (zcc (ze (dC (.int 8)) zz)) (zp 0) zaS (dOp zia (dOp dIx (zr 1) (dOp (dI (fun _ j=>0<j) fun i j=>i % j) (dOp zbY (zr 2) (dOp zia (dC (.int 5)) (zr 0))) (dC (.int 26)))) (dOp zbY (dC (.int 1)) (dOp (dI (fun _ j=>0<j) fun i j=>i % j) (dOp zbY (zr 2) (dOp zia (dC (.int 3)) (zr 0))) (dC (.int 8)))))) (zp 4)) (zae (zcG (dB (dOp zgM (zr 2) (dC (.int 0)))) (zae (zaT (zjB zfU (dC (.str "")) (ze (zev [none,some 1,some 3] (zcc (ze (dC (.int 8)) zz)) (zp 0) zaS (dOp dIx (zr 1) (dOp (dI (fun _ j=>0<j) fun i j=>i % j) (dOp zbY (zr 2) (dOp zia (dC (.int 7)) (zr 0))) (dC (.int 26))))) zz)) (zp 5)) (zaT (zfH [none,some 5] (zcc (ze (dC (.int 8)) zz)) (zp 0) zaS (dSl zlQ (zr 1) zdD (zgG (dOp zbY (zr 0) (dC (.int 1)))))) (zp 4))) zau) (zae (zcG (dB (dOp zgM (zr 2) (dC (.int 1)))) (zaT (zeI (ze (dC (.str "part")) (ze (dC (.str "gap")) (ze (dC (.str "cut")) (ze (dC (.str "a")) (ze (dC (.str "aa")) (ze (dC (.str "dear")) (ze (dC (.str "b")) (ze (dC (.str "keeps")) zz))))))))) (zp 4)) zau) (zae (zaT (zab 0 2 zy (ze (zr 0) (ze (dC (.int 8)) zz))) (zp 6)) (zae (zaT (dOp zmr (dSl zlQ (zr 4) (zgG (zr 6)) zdD) (dSl zlQ (zr 4) zdD (zgG (zr 6)))) (zp 4)) (zae (zcG (dB (dOp zgM (zab 0 2 zy (ze (zr 0) (ze (dC (.int 2)) zz))) (dC (.int 1)))) (zeo (zq8 zeU (zr 4))) zau) (zbf (zr 4))))))))))) (zcR S.length R) (xs.map some++List.replicate 6 none) S
def zd0:PN:=fun xs S R=>(zae (zcG (dOr (zeP (ze2 (dCB zhp (ze (zr 0) (ze (dO (.ty "tuple")) zz))))) (dB (dOp zlP (dCB zce (ze (zr 0) zz)) (dC (.int 3))))) (zbf (dC (.bool false))) zau) (zbf (zem (zaz 1 zcV (ze (dOp dIx (zr 0) (dC (.int 0))) zz)) (zaz 2 zcq (ze (dOp dIx (zr 0) (dC (.int 1))) (ze (dOp dIx (zr 0) (dC (.int 2))) zz)))))) (zcR S.length R) (xs.map some++List.replicate 0 none) S
def zb6:PN:=fun xs S R=>(zae (zpG (zjZ false 1 (.k []) (zmd (fun M=>(zgx (ze (zr 0) zz))) (zdi 2 (zaf (zp 2) (zaf (zp 3) zdh))) (zmc (zq2 (fun M=>(dOr (zeP (ze2 (zaz 1 zd0 (ze (zr 3) zz)))) (dB (dOp (zrd M false) (dOp dIx (zr 3) (dC (.int 0))) (zr 1))))) (zfY zbz) (zfY zau)) (zl6 1 (fun M=>(dOp dIx (zr 3) (dC (.int 0)))) (fun M=>(dC (.bool true)))))))) (zae (zcG (zeP (dB (zdY (dIb fun i j=>decide (i<=j)) (dIb fun i j=>decide (i<=j)) (dC (.int 1)) (dCB zce (ze (zr 0) zz)) (dC (.int 8))))) zbz zau) (zbf (dCB zey (ze (zr 0) zz))))) (zcR S.length R) (xs.map some++List.replicate 3 none) S
def zed:PN:=fun xs S R=>(zae (zcG (dOr (zeP (ze2 (dCB zhp (ze (zr 1) (ze (dO (.ty "tuple")) zz))))) (dB (dOp zlP (dCB zce (ze (zr 1) zz)) (dC (.int 2))))) (zbf (dC (.bool false))) zau) (zae (zcG (dOr (zeP (ze2 (zaz 1 zbJ (ze (dOp dIx (zr 1) (dC (.int 0))) zz)))) (zeP (ze2 (zaz 1 zbJ (ze (dOp dIx (zr 1) (dC (.int 1))) zz))))) (zbf (dC (.bool false))) zau) (zbf (zem (zdY (dIb fun i j=>decide (i<=j)) (dIb fun i j=>decide (i<j)) (dC (.int 0)) (dOp dIx (zr 1) (dC (.int 0))) (dCB zce (ze (zr 0) zz))) (zdY (dIb fun i j=>decide (i<=j)) (dIb fun i j=>decide (i<=j)) (dC (.int 1)) (dCB zqg (ze (dOp dIx (zr 1) (dC (.int 1))) zz)) (dC (.int 3))))))) (zcR S.length R) (xs.map some++List.replicate 0 none) S
def zcu:PN:=fun xs S R=>(zae (zcG (dOr (zeP (ze2 (dCB zhp (ze (zr 1) (ze (dO (.ty "tuple")) zz))))) (zeP (dB (zdY (dIb fun i j=>decide (i<=j)) (dIb fun i j=>decide (i<=j)) (dC (.int 1)) (dCB zce (ze (zr 1) zz)) (dC (.int 8)))))) (zbf (dC (.bool false))) zau) (zae (zaT (dUn (dUI fun i=>-i) (dC (.int 1))) (zp 2)) (zae (zhO (zcv (zr 1)) (zp 3) (zae (zcG (dOr (zeP (ze2 (zaz 2 zed (ze (zr 0) (ze (zr 3) zz))))) (dB (dOp (dIb fun i j=>decide (i<=j)) (dOp dIx (zr 3) (dC (.int 0))) (zr 2)))) (zbf (dC (.bool false))) zau) (zaT (dOp dIx (zr 3) (dC (.int 0))) (zp 2)))) (zbf (dC (.bool true)))))) (zcR S.length R) (xs.map some++List.replicate 2 none) S
def zeQ:PN:=fun xs S R=>(zae (zcG (dOr (zeP (ze2 (dCB zhp (ze (zr 1) (ze (dO (.ty "tuple")) zz))))) (dB (dOp zlP (dCB zce (ze (zr 1) zz)) (dC (.int 3))))) (zbf (dC (.bool false))) zau) (zbf (zem (zaz 2 zcu (ze (zr 0) (ze (dOp dIx (zr 1) (dC (.int 0))) zz))) (zaz 2 zcq (ze (dOp dIx (zr 1) (dC (.int 1))) (ze (dOp dIx (zr 1) (dC (.int 2))) zz)))))) (zcR S.length R) (xs.map some++List.replicate 0 none) S
def zbD:PN:=fun xs S R=>(zae (zaT (dC (.int 0)) (zp 2)) (zae (zaT (dC (.int 0)) (zp 3)) (zae (zhO (zcv (zr 1)) (zdi 2 (zaf (zp 4) (zaf (zp 5) zdh))) (zae (zaT (zjS (ze (dOp zia (zr 5) (dOp dIx (dOp dIx (zr 0) (zr 4)) (dC (.int 1)))) (ze (dOp zia (zr 5) (dOp dIx (dOp dIx (zr 0) (zr 4)) (dC (.int 2)))) zz))) (zp 6)) (zae (zaT (dOp zbY (zr 2) (dCB znX (ze (zr 6) zz))) (zp 2)) (zaT (dOp zbY (zr 3) (dCB zrn (ze (zr 6) zz))) (zp 3))))) (zbf (zfN (ze (zr 2) (ze (zr 3) zz))))))) (zcR S.length R) (xs.map some++List.replicate 5 none) S
def zbq:PN:=fun xs S R=>(zae (zaT (zeI zz) (zp 2)) (zae (zhO (zcc (ze (dCB zce (ze (zr 1) zz)) zz)) (zp 3) (zae (zaT (dOp (dI0 fun i j=>i - j) (zab 0 2 zy (ze (zr 0) (ze (dC (.int 9)) zz))) (dC (.int 4))) (zp 4)) (zcG (dB (dOp zf3 (zr 4) (zfN (ze (dUn (dUI fun i=>-i) (dC (.int 4))) (ze (dC (.int 0)) (ze (dC (.int 4)) zz)))))) (zeo (dBM zcb (zr 2) (ze (zfN (ze (zr 3) (ze (zr 4) zz))) zz))) zau))) (zae (zcG (dB (dOp zgM (zr 2) (zjS zz))) (zaT (zeI (ze (zfN (ze (zab 0 2 zy (ze (zr 0) (ze (dCB zce (ze (zr 1) zz)) zz))) (ze (dOp dIx (zjS (ze (dC (.int 1)) (ze (dUn (dUI fun i=>-i) (dC (.int 1))) (ze (dC (.int 2)) (ze (dUn (dUI fun i=>-i) (dC (.int 3))) zz))))) (zab 0 2 zy (ze (zr 0) (ze (dC (.int 4)) zz)))) zz))) zz)) (zp 2)) zau) (zae (zaT (zid 2 zbD (ze (zr 1) (ze (zr 2) zz))) (zdi 2 (zaf (zp 5) (zaf (zp 6) zdh)))) (zae (zaT (dOp (dI0 fun i j=>i - j) (zr 6) (zr 5)) (zp 7)) (zae (zaT (dOp zbY (zr 5) (dOp dIx (zjS (ze (dC (.int 0)) (ze (dC (.int 1)) (ze (dUn (dUI fun i=>-i) (dC (.int 1))) (ze (dOp dFd (zr 7) (dC (.int 2))) (ze (dOp dFd (zr 7) (dC (.int 3))) (ze (dOp zbY (zr 7) (dC (.int 1))) zz))))))) (zab 0 2 zy (ze (zr 0) (ze (dC (.int 6)) zz))))) (zp 8)) (zae (zaT (dOp zbY (zr 8) (dOp dIx (zjS (ze (dC (.int 0)) (ze (dC (.int 1)) (ze (dC (.int 2)) (ze (dOp dFd (zr 7) (dC (.int 2))) (ze (zr 7) (ze (dOp zbY (zr 7) (dC (.int 2))) zz))))))) (zab 0 2 zy (ze (zr 0) (ze (dC (.int 6)) zz))))) (zp 9)) (zbf (zfN (ze (dCB zey (ze (zr 2) zz)) (ze (zr 8) (ze (zr 9) zz)))))))))))) (zcR S.length R) (xs.map some++List.replicate 8 none) S
def zbb:PN:=fun xs S R=>(zae (zaT (zfH [none,some 0,some 1] (zcc (ze (dOp zbY (dC (.int 1)) (zab 0 2 zy (ze (zr 0) (ze (zr 2) zz)))) zz)) (zp 0) zaS (zab 0 2 zbq (ze (zr 1) (ze (zr 2) zz)))) (zp 3)) (zae (zcG (zo0 (dB (dOp zgM (zab 0 2 zy (ze (zr 0) (ze (dC (.int 3)) zz))) (dC (.int 0)))) (dB (dOp (dIb fun i j=>decide (j<i)) (dCB zce (ze (zr 3) zz)) (dC (.int 1))))) (zaT (zfN (ze (dOp dIx (dOp dIx (zr 3) (dC (.int 0))) (dC (.int 0))) (ze (dOp zbY (dOp dIx (dOp dIx (zr 3) (dC (.int 0))) (dC (.int 2))) (dC (.int 1))) (ze (dOp zbY (dOp zbY (dOp dIx (dOp dIx (zr 3) (dC (.int 0))) (dC (.int 2))) (dC (.int 1))) (zab 0 2 zy (ze (zr 0) (ze (dC (.int 3)) zz)))) zz)))) (zjx (zr 3) (dUn (dUI fun i=>-i) (dC (.int 1))))) zau) (zbf (dCB zey (ze (zr 3) zz))))) (zcR S.length R) (xs.map some++List.replicate 1 none) S
def zd5:PN:=fun xs S R=>(zae (zom (zae (zaT (zeI (ze (dC (.str "gap")) (ze (dCB zhN (ze (dOp dIx (zr 1) (dC (.int 1))) zz)) (ze (dCB zhN (ze (dOp dIx (zr 1) (dC (.int 2))) zz)) zz)))) (zp 2)) (zhO (zcv (dOp dIx (zr 1) (dC (.int 0)))) (zdi 2 (zaf (zp 3) (zaf (zp 4) zdh))) (zeo (dBM zft (zr 2) (ze (zjS (ze (dCB zhN (ze (zr 4) zz)) (ze (dOp dIx (dOp dIx (zr 0) (zr 3)) (dC (.int 0))) zz))) zz)))))) (zbf (zjB zfU (dC (.str " ")) (ze (zr 2) zz)))) (zcR S.length R) (xs.map some++List.replicate 3 none) S
def zga:PN:=fun xs S R=>(zae (zom (zae (zaT (zeI zz) (zp 2)) (zae (zhO (zcv (zr 0)) (zdi 3 (zaf (zp 3) (zaf (zp 4) (zaf (zp 5) zdh)))) (zeo (dBM zcb (zr 2) (ze (zjB zfU (dC (.str " ")) (ze (zjS (ze (dC (.str "part")) (ze (zr 3) (ze (dCB zhN (ze (zr 4) zz)) (ze (dCB zhN (ze (zr 5) zz)) zz))))) zz)) zz)))) (zhO (zcv (zr 1)) (zdi 3 (zaf (zp 6) (zaf (zp 4) (zaf (zp 5) zdh)))) (zae (zaT (dOp zbY (dOp zbY (dOp zbY (dC (.str "gap ")) (dCB zhN (ze (zr 4) zz))) (dC (.str " "))) (dCB zhN (ze (zr 5) zz))) (zp 7)) (zae (zhO (zcv (zr 6)) (zdi 2 (zaf (zp 8) (zaf (zp 9) zdh))) (zaT (dOp zbY (dOp zbY (dOp zbY (dOp zbY (zr 7) (dC (.str " "))) (dCB zhN (ze (zr 9) zz))) (dC (.str " "))) (dOp dIx (dOp dIx (zr 0) (zr 8)) (dC (.int 0)))) (zp 7))) (zeo (dBM zcb (zr 2) (ze (zr 7) zz))))))))) (zbf (zjB zfU (dC (.str "\n")) (ze (zr 2) zz)))) (zcR S.length R) (xs.map some++List.replicate 8 none) S
def zfF:PN:=fun xs S R=>(zae (zom (zae (zaT (zfH [none,none,none] (zcv (dOp dIx (zr 0) (dC (.int 0)))) (zdi 3 (zaf (zp 0) (zaf (zp 1) (zaf (zp 2) zdh)))) zaS (zmf (zdX (dC (.str "part ")) (zdX (zmu (zr 0)) (zdX (dC (.str " ")) (zdX (zlo (zr 1)) (zdX (dC (.str " ")) (zdX (zlo (zr 2)) zlU)))))))) (zp 1)) (zeo (dBM zft (zr 1) (ze (zev [none,some 0] (zcv (dOp dIx (zr 0) (dC (.int 1)))) (zp 0) zaS (zaz 2 zd5 (ze (dOp dIx (zr 1) (dC (.int 0))) (ze (zr 0) zz)))) zz))))) (zbf (zjB zfU (dC (.str "\n")) (ze (zr 1) zz)))) (zcR S.length R) (xs.map some++List.replicate 1 none) S
def za0:PN:=fun xs S R=>(zae (zaT (zab 0 1 zaZ (ze (zr 0) zz)) (zp 2)) (zae (zaT (zeI zz) (zp 3)) (zae (zhO (zcc (ze (dOp zbY (dC (.int 1)) (zab 0 2 zy (ze (zr 0) (ze (zr 1) zz)))) zz)) (zp 4) (zeo (dBM zcb (zr 3) (ze (dOp zbY (zfN (ze (dOp dIx (zr 2) (zr 4)) zz)) (zab 0 1 zco (ze (zr 0) zz))) zz)))) (zbf (dCB zey (ze (zr 3) zz)))))) (zcR S.length R) (xs.map some++List.replicate 3 none) S
def zbC:PN:=fun xs S R=>(zae (zaT (zev [none] (zcv (zr 0)) (zp 0) zaS (dOp dIx (zr 0) (dC (.int 0)))) (zp 2)) (zae (zcG (dB (dOp zf3 (zr 1) (zr 2))) zbz zau) (zbf (zq5 ziC (zr 2) (ze (zr 1) zz))))) (zcR S.length R) (xs.map some++List.replicate 1 none) S
def zay:PN:=fun xs S R=>(zae (zaT (dIf (ze2 (zjB zgm (zr 0) (ze (dC (.str "-")) zz))) (dSl zlQ (zr 0) (zgG (dC (.int 1))) zdD) (zr 0)) (zp 1)) (zae (zcG (dOr (zeP (dB (zdY (dIb fun i j=>decide (i<=j)) (dIb fun i j=>decide (i<=j)) (dC (.int 1)) (dCB zce (ze (zr 1) zz)) (dC (.int 60))))) (zeP (ze2 (dCB zo2 (ze (zev [none] (zki (zr 1)) (zp 0) zaS (dOp dIn (zr 0) (dC (.str "0123456789")))) zz))))) zbz zau) (zae (zcG (zo0 (dB (dOp zgM (dOp dIx (zr 1) (dC (.int 0))) (dC (.str "0")))) (dB (dOp zlP (zr 0) (dC (.str "0"))))) zbz zau) (zbf (dCB zmq (ze (zr 0) zz)))))) (zcR S.length R) (xs.map some++List.replicate 1 none) S
def zcr:PN:=fun xs S R=>(zae (zom (zae (zaT (zeI zz) (zp 2)) (zae (zhO (zcv (zr 0)) (zdi 3 (zaf (zp 3) (zaf (zp 4) (zaf (zp 5) zdh)))) (zeo (dBM zcb (zr 2) (ze (zjB zfU (dC (.str " ")) (ze (zjS (ze (dC (.str "part")) (ze (zr 3) (ze (dCB zhN (ze (zr 4) zz)) (ze (dCB zhN (ze (zr 5) zz)) zz))))) zz)) zz)))) (zhO (zcv (zr 1)) (zdi 3 (zaf (zp 6) (zaf (zp 4) (zaf (zp 5) zdh)))) (zae (zaT (dOp zbY (dOp zbY (dOp zbY (dC (.str "gap ")) (dCB zhN (ze (zr 4) zz))) (dC (.str " "))) (dCB zhN (ze (zr 5) zz))) (zp 7)) (zae (zhO (zcv (zr 6)) (zdi 2 (zaf (zp 8) (zaf (zp 9) zdh))) (zaT (dOp zbY (dOp zbY (dOp zbY (dOp zbY (zr 7) (dC (.str " "))) (dCB zhN (ze (zr 9) zz))) (dC (.str " "))) (dOp dIx (dOp dIx (zr 0) (zr 8)) (dC (.int 0)))) (zp 7))) (zeo (dBM zcb (zr 2) (ze (zr 7) zz))))))))) (zbf (zjB zfU (dC (.str "\n")) (ze (zr 2) zz)))) (zcR S.length R) (xs.map some++List.replicate 8 none) S
def zbX:PN:=fun xs S R=>(zae (zcG (zeP (ze2 (zaz 1 zcV (ze (zr 0) zz)))) zbz zau) (zbf (zr 0))) (zcR S.length R) (xs.map some++List.replicate 0 none) S
def zbg:PN:=fun xs S R=>(zae (zcG (dOr (dB (dOp (dIb fun i j=>decide (i<j)) (dCB zce (ze (zr 2) zz)) (dC (.int 5)))) (dB (dOp zgM (dOp (dI (fun _ j=>0<j) fun i j=>i % j) (dCB zce (ze (zr 2) zz)) (dC (.int 2))) (dC (.int 0))))) zbz zau) (zae (zaT (zev [none] (zcv (dSl zlQ (zr 2) (zgG (dC (.int 1))) (zgG (dC (.int 3))))) (zp 0) zaS (zaz 1 zay (ze (zr 0) zz))) (zp 3)) (zae (zaT (zev [none] (zcv (zpN (zr 2) (dC (.int 3)) (dC (.int 2)))) (zp 0) zaS (zaz 1 zay (ze (zr 0) zz))) (zp 4)) (zae (zaT (zev [none] (zcv (zpN (zr 2) (dC (.int 4)) (dC (.int 2)))) (zp 0) zaS (zaz 1 zbX (ze (zr 0) zz))) (zp 5)) (zae (zaT (zev [none,some 0] (zcv (zr 5)) (zp 0) zaS (zaz 2 zbC (ze (zr 1) (ze (zr 0) zz)))) (zp 6)) (zae (zaT (zfN (ze (zl5 (ze (zr 6) (ze (zr 4) zz))) (ze (dOp dIx (zr 3) (dC (.int 0))) (ze (dOp dIx (zr 3) (dC (.int 1))) zz)))) (zp 7)) (zae (zcG (dOr (dB (dOp zgM (dCB zce (ze (zr 1) zz)) (dC (.int 6)))) (zeP (ze2 (zaz 2 zeQ (ze (zr 0) (ze (zr 7) zz)))))) zbz zau) (zbf (dOp zbY (zr 1) (zfN (ze (zr 7) zz))))))))))) (zcR S.length R) (xs.map some++List.replicate 5 none) S
def za6:PN:=fun xs S R=>(zae (zcG (dB (dOp zlP (dCB zce (ze (zr 1) zz)) (dC (.int 4)))) zbz zau) (zae (zaT (zfN (ze (zaz 1 zbX (ze (dOp dIx (zr 1) (dC (.int 1))) zz)) (ze (zaz 1 zay (ze (dOp dIx (zr 1) (dC (.int 2))) zz)) (ze (zaz 1 zay (ze (dOp dIx (zr 1) (dC (.int 3))) zz)) zz)))) (zp 2)) (zae (zcG (dB (dOp zgM (dCB zce (ze (zr 0) zz)) (dC (.int 8)))) zbz zau) (zbf (zaz 1 zb6 (ze (dOp zbY (dCB ziZ (ze (zr 0) zz)) (zjS (ze (zr 2) zz))) zz)))))) (zcR S.length R) (xs.map some++List.replicate 1 none) S
def zbE:PN:=fun xs S R=>(zae (zcG (zo0 (dB (dOp zgM (dOp dIx (zr 1) (dC (.int 0))) (dC (.str "part")))) (zeP (ze2 (dOp dIx (zr 0) (dC (.int 1)))))) (zbf (zfN (ze (zaz 2 za6 (ze (dOp dIx (zr 0) (dC (.int 0))) (ze (zr 1) zz))) (ze (dOp dIx (zr 0) (dC (.int 1))) zz)))) zau) (zae (zcG (dB (dOp zgM (dOp dIx (zr 1) (dC (.int 0))) (dC (.str "gap")))) (zbf (zfN (ze (dOp dIx (zr 0) (dC (.int 0))) (ze (zaz 3 zbg (ze (dOp dIx (zr 0) (dC (.int 0))) (ze (dOp dIx (zr 0) (dC (.int 1))) (ze (zr 1) zz)))) zz)))) zau) zbz)) (zcR S.length R) (xs.map some++List.replicate 0 none) S
def zhb:PN:=fun xs S R=>(zae (zcG (zeP (ze2 (dCB zhp (ze (zr 0) (ze (dO (.ty "str")) zz))))) zbz zau) (zae (zaT (zjB zhx (zr 0) (ze (dC (.str "\n")) zz)) (zp 1)) (zae (zaT (zfN (ze (zfN zz) (ze (zfN zz) zz))) (zp 2)) (zae (zhO (zgH (ze (zr 1) zz)) (zdi 2 (zaf (zp 3) (zaf (zp 4) zdh))) (zaT (zaz 2 zbE (ze (zr 2) (ze (zjB zhx (zr 4) (ze (dC (.str " ")) zz)) zz))) (zp 2))) (zae (zcG (zeP (ze2 (dOp dIx (zr 2) (dC (.int 1))))) zbz zau) (zbf (zr 2))))))) (zcR S.length R) (xs.map some++List.replicate 4 none) S
def zar:Nat->PN
 | 0=>fun _ _ _=>False
 | n+1=>fun xs S R=>(zae (zcG (ze2 (dCB zhp (ze (zr 1) (ze (dO (.ty "tuple")) zz)))) (zae (zcG (dOr (zeP (ze2 (dCB zhp (ze (zr 0) (ze (dO (.ty "tuple")) zz))))) (dB (dOp zlP (dCB zce (ze (zr 0) zz)) (dCB zce (ze (zr 1) zz))))) (zbf (dC (.bool false))) zau) (zbf (dCB zo2 (ze (zev [none,none] (ziw (ze (zr 0) (ze (zr 1) zz))) (zdi 2 (zaf (zp 0) (zaf (zp 1) zdh))) zaS (zaz 2 (zar n) (ze (zr 0) (ze (zr 1) zz)))) zz)))) zau) (zae (zcG (ze2 (dCB zhp (ze (zr 1) (ze (dO (.ty "str")) zz)))) (zbf (zem (dCB zhp (ze (zr 0) (ze (dO (.ty "str")) zz))) (dOp zgM (zr 0) (zr 1)))) zau) (zbf (zem (zaz 1 zcC (ze (zr 0) zz)) (dOp zgM (zr 0) (zr 1)))))) (zcR S.length R) (xs.map some++List.replicate 0 none) S
def zfA:PN:=zar 160
def zoR:DS:=(zae (zaT (zaz 1 zb1 (ze (zr 1) zz)) (zp 2)) (zae (zaT (zab 0 2 za0 (ze (zr 2) (ze (dC (.int 8)) zz))) (zp 3)) (zae (zaT (zab 0 3 zbb (ze (zr 2) (ze (zr 3) (ze (dC (.int 6)) zz)))) (zp 4)) (zae (zaT (zaz 2 zcr (ze (zr 3) (ze (zr 4) zz))) (zp 5)) (zae (zaT (zaz 1 zhb (ze (zr 5) zz)) (zp 6)) (zcG (dOr (zeP (ze2 (zaz 2 zfA (ze (zr 6) (ze (zfN (ze (zr 3) (ze (zr 4) zz))) zz))))) (dOr (dB (dOp zq6 (zaz 1 zfF (ze (zr 6) zz)) (zr 5))) (dB (dOp zlP (zaz 1 zhb (ze (zaz 1 zfF (ze (zr 6) zz)) zz)) (zr 6))))) (zbf (dC (.bool false))) zau))))))
end My
namespace My
open PySem L2
theorem seq1{t u:DS}{E:DEnds}{δ:XE}{S:Sto}(h:t { E with nx:=u E } δ S):zae t u E δ S:=h
theorem seqm{t u:DSm}{E:DEndsM}{δ:XE}{S:Sto}{M:DM}(h:t { E with nx:=u E } δ S M):zmc t u E δ S M:=h
theorem cut{t u:DS}{E:DEnds}{δ:XE}{S:Sto}(I:XE->Sto->Prop)(h1:∀ N:XE->Sto->Prop,(∀ δ' S',I δ' S'->N δ' S')->t { E with nx:=N } δ S)(h2:∀ δ' S',I δ' S'->u E δ' S'):zae t u E δ S:=h1 _ h2
theorem zh5(i j:Int):PyData.eqv (.int i) (.int j)=decide (i=j):=rfl
theorem zpP(i:Int):SeqAt.shaped (.int i)=true:=rfl
theorem zkq:("int" ∈ zl0)=True:=eq_true dz
theorem zio:("bool" ∈ zl0)=True:=eq_true dz
theorem zgR:("tuple" ∈ zl0)=True:=eq_true dz
theorem zjY:("str" ∈ zl0)=True:=eq_true dz
end My
namespace My
open PySem L2
local macro_rules | `(tactic| walk_at "d")=>`(tactic| (try simp only [zaT,zgm,zhx,zmq,zgH,zpN,zl5,zqa,all_cons,List.all_nil,Bool.and_self,zkJ,zny,zpG,zjZ,zfY,zq2,zmd,zl6,zrd,zlM,zki,zmf,zdX,zlU,zmu,zlo,zq6,znt,zqH,znj,zse,zrV,zp,zr,dC,dO,dOp,dUn,zz,ze,dCB,zfN,zjS,zeI,dB,zeP,zo0,dOr,zem,zrS,zkP,dIf,zdY,dI,dI0,dIb,dUI,zgM,zlP,zrR,zp3,zpV,zqn,zqu,zm7,zmT,znK,znl,zm3,zmM,zld,znz,zns,dFd,ze2,znm,znM,zdD,zgG,dSl,zce,zna,zm6,zmP,zhp,zqg,zmi,dI2,zey,ziZ,dBM,zq8,zjB,zq5,zcb,zeU,zft,zsf,zfU,ziC,zmr,zsb,zo2,zhN,zaz,zab,zid,zng,zhu,zek,zqt,ziR,zil,zpu,zqD,zp7,zqx,asL,znx,zqr,zpZ,zpg,zpw,zlH,zk9,znG,znp,znk,zqO,zo8,zlw,znu,znh,znf,zno,zbf,zcG,zeo,zau,zbz,zhO,zcv,zmR,zmN,zcc,zkT,zgx,ziw,zdi,zaf,zqF,zpj,zq1,zqy,zpY,zdh,zjx,zev,zfH,zaS,znC,zom,zpH,zp9,zfn,zis,ziL,zir,zhs,zf8,List.replicate,map_cons,map_nil,map_some,Option.bind_some,Option.bind_none,Option.join_some,getElem?_cons_zero,getElem?_cons_succ,set_cons_zero,set_cons_succ,List.take_succ_cons,take_zero,List.take_nil,length_cons,length_nil,nil_append,cons_append,Option.some.injEq,exists_eq_left',exists_eq_left,List.cons.injEq,XV.d.injEq,XV.l.injEq,XV.o.injEq,PyData.int.injEq,PyData.list.injEq,PyData.tuple.injEq,PyData.bool.injEq,PyData.str.injEq,and_true,true_and,decide_eq_true_eq,Bool.not_true,Bool.not_false,Bool.false_eq_true,Bool.true_eq_false,not_true_eq_false,not_false_eq_true,↓reduceIte,decide_true,decide_false,Bool.not_eq_true',zon,decide_eq_false_iff_not,Nat.reduceAdd,Nat.reduceMul,zero_add,Nat.reduceLT,Nat.reduceLeDiff,Nat.reduceEqDiff,Int.reduceLT,Int.reduceLE,Int.reduceNeg,Int.reducePow,Int.reduceToNat,Int.reduceEq,Int.reduceAdd,Int.reduceSub,Int.reduceMul,le_refl,zero_le,length_append,length_map,zh5,zpP,List.isEmpty_nil,List.isEmpty_cons,Int.cast_ofNat_Int,Int.natCast_zero,Int.natCast_one,zkq,zio,zgR,zjY,zlE,zi0,zhJ,zkO]))
local macro_rules | `(tactic| walk_at "n")=>`(tactic| (refine seq1 ?_; walk_at "d"))
local macro_rules | `(tactic| walk_at "dX")=>`(tactic| (try simp -implicitDefEqProofs only [zaT,zgm,zhx,zmq,zgH,zpN,zl5,zqa,all_cons,List.all_nil,Bool.and_self,zkJ,zny,zpG,zjZ,zfY,zq2,zmd,zl6,zrd,zlM,zki,zmf,zdX,zlU,zmu,zlo,zq6,znt,zqH,znj,zse,zrV,zp,zr,dC,dO,dOp,dUn,zz,ze,dCB,zfN,zjS,zeI,dB,zeP,zo0,dOr,zem,zrS,zkP,dIf,zdY,dI,dI0,dIb,dUI,zgM,zlP,zrR,zp3,zpV,zqn,zqu,zm7,zmT,znK,znl,zm3,zmM,zld,znz,zns,dFd,ze2,znm,znM,zdD,zgG,dSl,zce,zna,zm6,zmP,zhp,zqg,zmi,dI2,zey,ziZ,dBM,zq8,zjB,zq5,zcb,zeU,zft,zsf,zfU,ziC,zmr,zsb,zo2,zhN,zaz,zab,zid,zng,zhu,zek,zqt,ziR,zil,zpu,zqD,zp7,zqx,asL,znx,zqr,zpZ,zpg,zpw,zlH,zk9,znG,znp,znk,zqO,zo8,zlw,znu,znh,znf,zno,zbf,zcG,zeo,zau,zbz,zhO,zcv,zmR,zmN,zcc,zkT,zgx,ziw,zdi,zaf,zqF,zpj,zq1,zqy,zpY,zdh,zjx,zev,zfH,zaS,znC,zom,zpH,zp9,zfn,zis,ziL,zir,zhs,zf8,List.replicate,map_cons,map_nil,map_some,Option.bind_some,Option.bind_none,Option.join_some,getElem?_cons_zero,getElem?_cons_succ,set_cons_zero,set_cons_succ,List.take_succ_cons,take_zero,List.take_nil,length_cons,length_nil,nil_append,cons_append,Option.some.injEq,exists_eq_left',exists_eq_left,List.cons.injEq,XV.d.injEq,XV.l.injEq,XV.o.injEq,PyData.int.injEq,PyData.list.injEq,PyData.tuple.injEq,PyData.bool.injEq,PyData.str.injEq,and_true,true_and,decide_eq_true_eq,Bool.not_true,Bool.not_false,Bool.false_eq_true,Bool.true_eq_false,not_true_eq_false,not_false_eq_true,↓reduceIte,decide_true,decide_false,Bool.not_eq_true',zon,decide_eq_false_iff_not,Nat.reduceAdd,Nat.reduceMul,zero_add,Nat.reduceLT,Nat.reduceLeDiff,Nat.reduceEqDiff,Int.reduceLT,Int.reduceLE,Int.reduceNeg,Int.reducePow,Int.reduceToNat,Int.reduceEq,Int.reduceAdd,Int.reduceSub,Int.reduceMul,le_refl,zero_le,length_append,length_map,zh5,zpP,List.isEmpty_nil,List.isEmpty_cons,Int.cast_ofNat_Int,Int.natCast_zero,Int.natCast_one,zkq,zio,zgR,zjY,zlE,zi0,zhJ,zkO]))
local macro_rules | `(tactic| walk_at "e")=>`(tactic| (try simp only [zae,zaT,zgm,zhx,zmq,zgH,zpN,zl5,zqa,all_cons,List.all_nil,Bool.and_self,zkJ,zny,zpG,zjZ,zfY,zmc,zq2,zmd,zl6,zrd,zlM,zki,zmf,zdX,zlU,zmu,zlo,zq6,znt,zqH,znj,zse,zrV,zp,zr,dC,dO,dOp,dUn,zz,ze,dCB,zfN,zjS,zeI,dB,zeP,zo0,dOr,zem,zrS,zkP,dIf,zdY,dI,dI0,dIb,dUI,zgM,zlP,zrR,zp3,zpV,zqn,zqu,zm7,zmT,znK,znl,zm3,zmM,zld,znz,zns,dFd,ze2,znm,znM,zdD,zgG,dSl,zce,zna,zm6,zmP,zhp,zqg,zmi,dI2,zey,ziZ,dBM,zq8,zjB,zq5,zcb,zeU,zft,zsf,zfU,ziC,zmr,zsb,zo2,zhN,zaz,zab,zid,zng,zhu,zek,zqt,ziR,zil,zpu,zqD,zp7,zqx,asL,znx,zqr,zpZ,zpg,zpw,zlH,zk9,znG,znp,znk,zqO,zo8,zlw,znu,znh,znf,zno,zbf,zcG,zeo,zau,zbz,zhO,zcv,zmR,zmN,zcc,zkT,zgx,ziw,zdi,zaf,zqF,zpj,zq1,zqy,zpY,zdh,zjx,zev,zfH,zaS,znC,zom,zpH,zp9,zfn,zis,ziL,zir,zhs,zf8,List.replicate,map_cons,map_nil,map_some,Option.bind_some,Option.bind_none,Option.join_some,getElem?_cons_zero,getElem?_cons_succ,set_cons_zero,set_cons_succ,List.take_succ_cons,take_zero,List.take_nil,length_cons,length_nil,nil_append,cons_append,Option.some.injEq,exists_eq_left',exists_eq_left,List.cons.injEq,XV.d.injEq,XV.l.injEq,XV.o.injEq,PyData.int.injEq,PyData.list.injEq,PyData.tuple.injEq,PyData.bool.injEq,PyData.str.injEq,and_true,true_and,decide_eq_true_eq,Bool.not_true,Bool.not_false,Bool.false_eq_true,Bool.true_eq_false,not_true_eq_false,not_false_eq_true,↓reduceIte,decide_true,decide_false,Bool.not_eq_true',zon,decide_eq_false_iff_not,Nat.reduceAdd,Nat.reduceMul,zero_add,Nat.reduceLT,Nat.reduceLeDiff,Nat.reduceEqDiff,Int.reduceLT,Int.reduceLE,Int.reduceNeg,Int.reducePow,Int.reduceToNat,Int.reduceEq,Int.reduceAdd,Int.reduceSub,Int.reduceMul,le_refl,zero_le,length_append,length_map,zh5,zpP,List.isEmpty_nil,List.isEmpty_cons,Int.cast_ofNat_Int,Int.natCast_zero,Int.natCast_one,zkq,zio,zgR,zjY,zlE,zi0,zhJ,zkO]))
section
variable {R:RX}
theorem zff{n:Int}(q:∀ m,0<=m->R (.d (.int m)) []):zch [.d (.int n)] [] R:=by
 unfold zch;walk_at "e";have h1:=Int.emod_nonneg (n+7919) (show (2147483647:Int)≠0 by decide);have h2:=Int.emod_lt_of_pos (n+7919) (show (0:Int)<2147483647 by decide);exact⟨zeF (by omega) (by omega),zeF dz dz,q _ (Int.emod_nonneg _ dz)⟩
theorem zD{p:List PyData}{n:Int}(hp:zaE p)(hn:0<n)(hb:n.natAbs.log2<9000)(q:∀ r p',0<=r->r<n->zaE p'->R (.d (.int r)) [p']):zy [.l 0,.d (.int n)] [p] R:=by
 obtain⟨l,g,sd,rfl,hl⟩:=hp;unfold zy;walk_at "e";split
 ·refine⟨hn,.inl ⟨⟨hn,hb⟩,0,rfl,?_⟩⟩;walk_at "e";exact q _ _ (Int.emod_nonneg _ (by omega)) (Int.emod_lt_of_pos _ hn) ⟨_,_,_,rfl,Int.ediv_nonneg hl (by omega)⟩
 ·refine zff fun m _=>?_;walk_at "e";refine zff fun m' h'=>?_;walk_at "e";refine⟨2,rfl,?_⟩;walk_at "e";exact .inl ⟨⟨by decide,by decide +kernel⟩,hn,q _ _ (Int.emod_nonneg _ (by omega)) (Int.emod_lt_of_pos _ hn) ⟨_,_,_,rfl,hl⟩⟩
theorem zgw{n:Int}(q:∀ p,zaE p->R (.l 0) [p]):zb1 [.d (.int n)] [] R:=by
 unfold zb1;walk_at "e";refine⟨⟨by decide,by decide,by decide⟩,?_⟩;refine .inr (q _ ⟨_,_,_,rfl,?_⟩);split <;> omega
theorem zeJ{p:List PyData}(hp:zaE p)(q:∀ r p',-10 ^ 58<=r->r<=10 ^ 58->zaE p'->R (.d (.int r)) [p']):zcX [.l 0] [p] R:=by
 unfold zcX;walk_at "e";refine zD hp dz (by decide +kernel) fun r p1 r0 r1 hp1=>?_;walk_at "e";split
 ·refine zD hp1 dz (by decide +kernel) fun r p2 r0 r1 hp2=>?_;walk_at "e";exact q _ _ (by omega) (by omega) hp2
 ·split
  ·refine zD hp1 dz (by decide +kernel) fun r p2 r0 r1 hp2=>?_;walk_at "e";exact q _ _ (by omega) (by omega) hp2
  ·refine⟨⟨by decide,by decide,by decide⟩,zeF dz dz,?_⟩;have k1:(10:Int) ^ 30=1000000000000000000000000000000:=by decide +kernel
   have k2:(10:Int) ^ 28=10000000000000000000000000000:=by decide +kernel
   refine zD hp1 (by decide +kernel) (by decide +kernel) fun r p2 r0 r1 hp2=>?_;walk_at "e"
   try simp only [k1,k2] at r1 ⊢
   refine⟨⟨by decide,by decide,by decide⟩,⟨by decide,by decide,by decide⟩,zrw 128 128 (by omega) (by decide +kernel),q _ _ (by omega) (by omega) hp2⟩
theorem zgl{p:List PyData}(hp:zaE p)(q:∀ r p',-10 ^ 58<=r->r<=10 ^ 58->zaE p'->R (.d (.int r)) [p']):zc5 [.l 0] [p] R:=zeJ hp q
end
section
variable {R:RX}
theorem zpK{α:Type}[Inhabited α]{l:List α}{i:Int}(h0:0<=i)(h1:i<l.length)(d:α):atI l i=some (l.getD i.toNat d):=by
 obtain⟨k,rfl⟩:=Int.eq_ofNat_of_zero_le h0;have hk:k<l.length:=by omega
 rw [zcB (getElem?_eq_getElem hk)];simp [getD_eq_getElem?_getD,hk]
theorem zif:("abcdefghijklmnopqrstuvwxyz":Str).length=26:=by decide
theorem zl3:("abcdefghijklmnopqrstuvwxyz":Str).cps.toList.length=26:=by rw [<- zif]; simp [Str.length]
theorem zgN:("abcdefghijklmnopqrstuvwxyz":Str).length<=sizeLine:=le_of_lt (small1000 (by rw [zif]; decide))
theorem len1(c:Nat):(⟨#[c]⟩:Str).length=1:=rfl
abbrev lsgn (i:Int):Str:=⟨#[("abcdefghijklmnopqrstuvwxyz":Str).cps.toList.getD i.toNat 0]⟩
theorem zkZ{i:Int}(h0:0<=i)(h1:i<26):atI ("abcdefghijklmnopqrstuvwxyz":Str).cps.toList i=some (("abcdefghijklmnopqrstuvwxyz":Str).cps.toList.getD i.toNat 0):=zpK h0 (by rw [zl3]; exact h1) 0
def zd1(z:Str):Bool:=decide (z.length<=100) && PyData.strOk z && !decide (z = "zy")
theorem zjq{z:Str}(h:zd1 z=true):z.length<=100:=by
 unfold zd1 at h;rw [Bool.and_eq_true,Bool.and_eq_true] at h;exact of_decide_eq_true h.1.1
theorem zct(a b:Str):(a++b).length=a.length+b.length:=strLen_append a b
theorem zhh:∀ zs:List Str,(∀ z∈zs,z.length<=1)->(Str.join "" zs).length<=zs.length
 | [],_=>le_refl 0
 | [a],h=>h a mem_cons_self
 | a :: b :: r,h=>by
  show (a ++ "" ++ Str.join "" (b :: r)).length<=_;rw [zct,zct];have e:("":Str).length=0:=rfl;have h1:=h a mem_cons_self;have h2:=zhh (b :: r) fun z m=>h z (mem_cons_of_mem _ m);rw [e];simp only [length_cons] at h2 ⊢;omega
def zkC:List Str:=["part","gap","cut","a","aa","dear","b","keeps"]
set_option maxHeartbeats 8000000 in
abbrev Part:=Str×Int×Int
def zfK(p:Part):PyData:=.tuple [.str p.1,.int p.2.1,.int p.2.2]
def zcQ(ps:List Part):PyData:=.tuple (ps.map zfK)
structure Prt(p:Part):Prop where
 nm:zd1 p.1=true
 le:p.2.1<=p.2.2
 lo:-10 ^ 58<=p.2.1
 hi:p.2.2<=10 ^ 59
structure Drw(ps:List Part):Prop where
 l1:1<=ps.length
 l8:ps.length<=8
 all:∀ p∈ps,Prt p
theorem zg8{α:Type}{f:α->PyData}{l:List α}{k:Nat}{x:α}(e:l[k]? = some x):atI (l.map f) (k:Int)=some (f x):=zcB (by rw [getElem?_map,e]; rfl)
end
section
variable {R:RX} {S:Sto}
theorem zqR{a b m:Int}(h1:m∈[a,b])(h2:∀ x,x∈[a,b]->m<=x):m=min a b:=by
 have ha:=h2 a (by simp);have hb:=h2 b (by simp);simp only [mem_cons,not_mem_nil,or_false] at h1;omega
theorem zpl{a b m:Int}(h1:m∈[a,b])(h2:∀ x,x∈[a,b]->x<=m):m=max a b:=by
 have ha:=h2 a (by simp);have hb:=h2 b (by simp);simp only [mem_cons,not_mem_nil,or_false] at h1;omega
theorem zsA{a b:Int}(q:R (.d (.int (min a b))) S):znX [.d (.list [.int a,.int b])] S R:=.inl ⟨_,rfl,[a,b],rfl,by simp,fun m h1 h2=>by rw [zqR h1 h2]; exact q⟩
theorem zst{a b:Int}(q:R (.d (.int (max a b))) S):zrn [.d (.list [.int a,.int b])] S R:=⟨_,rfl,[a,b],rfl,by simp,fun m h1 h2=>by rw [zpl h1 h2]; exact q⟩
abbrev Term:=Nat×Int
def tmD(t:Term):PyData:=.tuple [.int t.1,.int t.2]
def zrc(ts:List Term):PyData:=.tuple (ts.map tmD)
structure Gap where
 ts:List Term
 lo:Int
 hi:Int
def zgJ(g:Gap):PyData:=.tuple [zrc g.ts,.int g.lo,.int g.hi]
theorem zfl(g:Gap):zgJ g=.tuple [zrc g.ts,.int g.lo,.int g.hi]:=rfl
theorem zmL(t:Term):tmD t=.tuple [.int t.1,.int t.2]:=rfl
theorem zdA(p:Part):zfK p=.tuple [.str p.1,.int p.2.1,.int p.2.2]:=rfl
structure Tms(n:Nat)(ts:List Term):Prop where
 ne:ts≠[]
 len:ts.length<=n
 ok:∀ t∈ts,t.1<n/\t.2≠0/\-3<=t.2/\t.2<=3
 srt:ts.Pairwise fun t u=>t.1<u.1
structure Tm3(n:Nat)(ts:List Term):Prop where
 len:ts.length<=100
 ok:∀ t∈ts,t.1<n/\-3<=t.2/\t.2<=3
theorem Tms.tm3{n:Nat}{ts:List Term}(h:Tms n ts)(hn:n<=8):Tm3 n ts:=⟨by have:=h.len; omega,fun t m=>⟨(h.ok t m).1,(h.ok t m).2.2⟩⟩
def part(ps:List Part)(k:Nat):Part:=ps.getD k ("",0,0)
theorem zfD{ps:List Part}{k:Nat}(h:k<ps.length):ps[k]? = some (part ps k):=by
 unfold part;rw [getElem?_eq_getElem h,getD_eq_getElem?_getD,getElem?_eq_getElem h];rfl
theorem zb3{ps:List Part}{k:Nat}(h:k<ps.length):part ps k∈ps:=mem_of_getElem? (zfD h)
def plo(ps:List Part)(k:Nat):Int:=(part ps k).2.1
def phi(ps:List Part)(k:Nat):Int:=(part ps k).2.2
def tLo(ps:List Part)(t:Term):Int:=min (t.2*plo ps t.1) (t.2*phi ps t.1)
def tHi(ps:List Part)(t:Term):Int:=max (t.2*plo ps t.1) (t.2*phi ps t.1)
def zaI(ps:List Part)(ts:List Term):Int:=(ts.map (tLo ps)).sum
def zbU(ps:List Part)(ts:List Term):Int:=(ts.map (tHi ps)).sum
theorem ze4{ps:List Part}{t:Term}{ts:List Term}:zaI ps (t :: ts)=tLo ps t+zaI ps ts:=by simp [zaI]
theorem zgh{ps:List Part}{t:Term}{ts:List Term}:zbU ps (t :: ts)=tHi ps t+zbU ps ts:=by simp [zbU]
theorem zhU{ps:List Part}{ts:List Term}{i:Nat}{t:Term}(h:ts[i]? = some t):zaI ps (ts.take (i+1))=zaI ps (ts.take i)+tLo ps t:=by
 unfold zaI;rw [take_add_one,h];simp
theorem zjQ{ps:List Part}{ts:List Term}{i:Nat}{t:Term}(h:ts[i]? = some t):zbU ps (ts.take (i+1))=zbU ps (ts.take i)+tHi ps t:=by
 unfold zbU;rw [take_add_one,h];simp
theorem zd6(ps:List Part):∀ ts:List Term,zaI ps ts<=zbU ps ts
 | []=>by simp [zaI,zbU]
 | t :: ts=>by
  have:=zd6 ps ts;rw [ze4,zgh];unfold tLo tHi;omega
theorem zc2{α:Type}{f:α->PyData}{l:List α}{i:Nat}{d:PyData}(h:(l.map f)[i]? = some d):∃ x,l[i]? = some x/\d=f x:=by
 rw [getElem?_map] at h;obtain⟨x,e,rfl⟩:=map_eq_some_iff.mp h;exact⟨x,e,rfl⟩
theorem zfM{ps:List Part}{ts:List Term}{t:PyData}(ht:zh9 (.d t)=some (ts.map tmD))(h3:Tm3 ps.length ts)(q:R (.d (spD (zaI ps ts) (zbU ps ts))) []):zbD [.d (zcQ ps),.d t] [] R:=by
 unfold zbD zcQ;walk_at "d"
 walk_at "n"
 walk_at "n"
 walk_at "n";refine⟨_,ht,?_⟩;refine zbi (fun i δ S=>∃ (u1 u2 u3:Option XV),S=[]/\δ=[some (.d (.tuple (ps.map zfK))),some (.d t),some (.d (.int (zaI ps (ts.take i)))),some (.d (.int (zbU ps (ts.take i)))),u1,u2,u3]) ⟨_,_,_,rfl,rfl⟩ ?_ ?_
 ·rintro i d _ _ N hi ⟨u1,u2,u3,rfl,rfl⟩ hN;obtain⟨t,ht,rfl⟩:=zc2 hi;obtain⟨t1,t2,t3⟩:=h3.ok t (mem_of_getElem? ht);have ep:=zg8 (f:=zfK) (zfD t1);unfold tmD;walk_at "d"
  walk_at "n"
  refine⟨_,ep,?_⟩;unfold zfK;walk_at "d";refine⟨zeF (by omega) (by omega),_,ep,?_⟩;unfold zfK;walk_at "d";refine⟨zeF (by omega) (by omega),?_⟩
  walk_at "n"
  refine zsA ?_;walk_at "d";refine zst ?_;walk_at "d";exact hN _ _ ⟨_,_,_,rfl,by rw [zhU ht,zjQ ht]; rfl⟩
 ·rintro _ _ ⟨u1,u2,u3,rfl,rfl⟩;rw [length_map,take_length];walk_at "d";exact q
theorem zoK{ds:List PyData}{r:Int}{P:PyData->Prop}(h0:0<=r)(h1:r<ds.length)(hP:∀ d∈ds,P d):∃ d,atI ds r=some d/\P d:=by
 obtain⟨k,rfl⟩:=Int.eq_ofNat_of_zero_le h0;have hk:k<ds.length:=by omega
 exact⟨ds[k],zcB (getElem?_eq_getElem hk),hP _ (List.getElem_mem hk)⟩
theorem zoj(ds:List PyData):PyData.eqv (.list ds) (.list [])=decide (ds=[]):=by
 cases ds with
 | nil=>rfl
 | cons d ds=>rfl
theorem znd(t:Term):Shp 1 (tmD t):=zdB (zri zes zes)
theorem zi7(ts:List Term):SeqAt.shaped (.list (ts.map tmD))=true:=(ziK (zfx fun t _=>znd t)).ok
structure GapOk(n:Nat)(g:Gap):Prop where
 ts:Tms n g.ts
 le:g.lo<=g.hi
def zdx(gs:List Gap):PyData:=.tuple (gs.map zgJ)
theorem zsi{g:DG}{te:DE}{fin:Sto->Prop}{α:Type}(F:α->Prop)(f:α->PyData)(P:XE->Prop):∀ (ds:List PyData) (acc:List α) (p:List PyData) (τ:XE),P τ->zaE p->acc.length+ds.length<=1000 ->
  (∀ d∈ds,∀ τ p acc (R:XE->RX),P τ->zaE p->(∀ τ' x p',P τ'->zaE p'->F x->R τ' (.d (f x)) [p',acc])->g (.d d) τ [p,acc] fun τ1 S1=>te τ1 S1 (R τ1)) ->
  (∀ xs p',zaE p'->(∀ x∈xs,F x)->xs.length=ds.length->fin [p',(acc++xs).map f])->zgL 1 g zaS te fin ds τ [p,acc.map f]
 | [],acc,p,τ,_,hp,_,_,h=>by
  have:=h [] p hp (by simp) rfl;rw [append_nil] at this;exact this
 | d :: ds,acc,p,τ,hP,hp,hl,el,h=>by
  show g (.d d) τ [p,acc.map f] fun τ1 S1=>zaS τ1 S1 fun b S2=>if b=true then te τ1 S2 fun x S3=>asD x fun e=>∃ acc,S3[1]? = some acc/\acc.length<1000/\zgL 1 g zaS te fin ds τ1 (S3.set 1 (acc++[e])) else zgL 1 g zaS te fin ds τ1 S2
  simp only [zaS,↓reduceIte];rw [length_cons] at hl;refine el d mem_cons_self τ p (acc.map f) (fun τ1 x S3=>asD x fun e=>∃ acc,S3[1]? = some acc/\acc.length<1000/\zgL 1 g zaS te fin ds τ1 (S3.set 1 (acc++[e]))) hP hp fun τ' x p' hP' hp' hF=>?_;refine⟨acc.map f,rfl,by rw [length_map]; omega,?_⟩;have e:([p',acc.map f]:Sto).set 1 (acc.map f++[f x])=[p',(acc++[x]).map f]:=by simp
  rw [e];refine zsi F f P ds (acc++[x]) p' τ' hP' hp' (by rw [length_append,length_singleton]; omega) (fun e m=>el e (mem_cons_of_mem _ m)) fun xs p'' hp'' fs hl=>?_;rw [append_assoc];exact h (x :: xs) p'' hp'' (fun y m=>(mem_cons.mp m).elim (fun e=>e▸hF) (fs y)) (by simp [hl])
end
section
variable {R:RX}
theorem p59:(10:Int) ^ 59=100000000000000000000000000000000000000000000000000000000000:=by decide +kernel
theorem p58:(10:Int) ^ 58=10000000000000000000000000000000000000000000000000000000000:=by decide +kernel
structure GapW(n:Nat)(g:Gap):Prop where
 ok:GapOk n g
 lo:-100000000000000000000000000000000000000000000000000000000000000<=g.lo
 hi:g.hi<=100000000000000000000000000000000000000000000000000000000000010
structure GapsB(n:Nat)(gs:List Gap):Prop where
 l1:1<=gs.length
 l6:gs.length<=6
 all:∀ g∈gs,GapW n g
structure GapX(ps:List Part)(g:Gap):Prop where
 ok:GapOk ps.length g
 lo:zaI ps g.ts - 1<=g.lo
 hi:g.hi<=zbU ps g.ts+(zbU ps g.ts - zaI ps g.ts)+3
theorem zfQ{p:List PyData}{ps:List Part}(hp:zaE p)(hd:Drw ps)(q:∀ g p',GapX ps g->zaE p'->R (.d (zgJ g)) [p']):zbq [.l 0,.d (zcQ ps)] [p] R:=by
 have h8:=hd.l8;have h1:=hd.l1;unfold zbq;walk_at "d"
 walk_at "n"
 refine cut (fun δ S=>∃ (p:List PyData) (ts:List Term) (u1 u2:Option XV),zaE p/\ts.length<=ps.length/\(∀ t∈ts,t.1<ps.length/\t.2≠0/\-3<=t.2/\t.2<=3)/\(ts.Pairwise fun t u=>t.1<u.1)/\S=[p,ts.map tmD]/\δ=[some (.l 0),some (.d (zcQ ps)),some (.l 1),u1,u2,none,none,none,none,none]) (fun N hN=>?_) ?_
 ·walk_at "d";refine⟨ps.length,by unfold zcQ; walk_at "d",?_⟩;refine zbi (fun i δ S=>∃ (p:List PyData) (ts:List Term) (u1 u2:Option XV),zaE p/\ts.length<=i/\(∀ t∈ts,t.1<i/\t.2≠0/\-3<=t.2/\t.2<=3)/\(ts.Pairwise fun t u=>t.1<u.1)/\S=[p,ts.map tmD]/\δ=[some (.l 0),some (.d (zcQ ps)),some (.l 1),u1,u2,none,none,none,none,none]) ⟨p,[],_,_,hp,le_refl _,by simp,.nil,rfl,rfl⟩ ?_ ?_
  ·rintro i d _ _ N hi ⟨p,ts,u1,u2,hp,hl,ht,hw,rfl,rfl⟩ hN;obtain⟨hi',rfl⟩:=zdO hi;have hi8:i<ps.length:=by simpa using hi'
   walk_at "d"
   walk_at "n"
   refine zD hp dz (by decide +kernel) fun r p2 r0 r1 hp2=>?_;walk_at "d";refine⟨rfl,?_⟩;simp only [any_cons,List.any_nil,Bool.or_false,zh5];have low:=hN [some (.l 0),some (.d (zcQ ps)),some (.l 1),some (.d (.int (0+(i:Int)))),some (.d (.int (r - 4))),none,none,none,none,none] [p2,ts.map tmD] ⟨p2,ts,_,_,hp2,by omega,fun t m=>⟨by have:=(ht t m).1; omega,(ht t m).2⟩,hw,rfl,rfl⟩;by_cases hz:r - 4 = -4\/r - 4=0\/r - 4=4
   ·have e:(decide ((-4:Int)=r - 4) || (decide ((0:Int)=r - 4) || decide ((4:Int)=r - 4)))=true:=by
     rcases hz with h | h | h <;> simp [h]
    rw [e];walk_at "d";exact low
   ·have e:(decide ((-4:Int)=r - 4) || (decide ((0:Int)=r - 4) || decide ((4:Int)=r - 4)))=false:=by
     simp;omega
    rw [e];walk_at "d";refine⟨by omega,hN _ _ ⟨p2,ts++[(i,r - 4)],_,_,hp2,by simp; omega,fun t m=>?_,?_,by simp [tmD],rfl⟩⟩
    ·rcases mem_append.mp m with m | m
     ·exact⟨by have:=(ht t m).1; omega,(ht t m).2⟩
     ·rw [mem_singleton.mp m];exact⟨by simp,by simp only; omega,by simp only; omega,by simp only; omega⟩
    ·rw [List.pairwise_append];exact⟨hw,by simp,fun t m u m'=>by rw [mem_singleton.mp m']; exact(ht t m).1⟩
  ·rintro _ _ ⟨p,ts,u1,u2,hp,hl,ht,hw,rfl,rfl⟩;rw [za1] at hl ht;have hz:(ps.length:Int).toNat=ps.length:=by simp
   rw [hz] at hl ht;exact hN _ _ ⟨p,ts,u1,u2,hp,hl,ht,hw,rfl,rfl⟩
 rintro _ _ ⟨p,ts,u1,u2,hp,hl,ht,hw,rfl,rfl⟩;refine cut (fun δ S=>∃ (p:List PyData) (ts:List Term) (T:Sto) (k:Nat),zaE p/\Tms ps.length ts/\T[k]? = some (ts.map tmD)/\S=p :: T/\δ=[some (.l 0),some (.d (zcQ ps)),some (.l (k+1)),u1,u2,none,none,none,none,none]) (fun N hN=>?_) ?_
 ·walk_at "d";refine⟨zi7 ts,rfl,?_⟩;rw [zoj];walk_at "d";split
  ·refine⟨ps.length,by unfold zcQ; walk_at "d",?_⟩;refine zD hp (by omega) (zep (by omega) (by omega)) fun r p2 r0 r1 hp2=>?_;walk_at "d";refine zD hp2 dz (by decide +kernel) fun r3 p3 r2 r4 hp3=>?_;obtain⟨d,ed,n,rfl,hn⟩:=zoK (ds:=[PyData.int 1,PyData.int (-1),PyData.int 2,PyData.int (-3)]) (P:=fun d=>∃ n,d=.int n/\n≠0/\-3<=n/\n<=3) r2 r4 (by
    intro d m;simp only [mem_cons,not_mem_nil,or_false] at m;rcases m with rfl | rfl | rfl | rfl <;> exact⟨_,rfl,by decide,by decide,by decide⟩)
   obtain⟨k,rfl⟩:=Int.eq_ofNat_of_zero_le r0;walk_at "d";refine⟨_,ed,?_⟩;walk_at "d";refine hN _ _ ⟨p3,[(k,n)],[ts.map tmD,[tmD (k,n)]],1,hp3,⟨by simp,by simpa using h1,fun t m=>by rw [mem_singleton.mp m]; exact⟨by simp only; omega,hn⟩,by simp⟩,rfl,rfl,rfl⟩
  ·rename_i hne;exact hN _ _ ⟨p,ts,[ts.map tmD],0,hp,⟨fun z=>hne (by rw [z]; rfl),hl,ht,hw⟩,rfl,rfl,rfl⟩
 rintro _ _ ⟨p,ts,T,k,hp,hts,hk,rfl,rfl⟩
 walk_at "n"
 rw [hk];walk_at "d";refine zfM rfl (hts.tm3 h8) ?_;have lm:=zd6 ps ts;unfold spD;walk_at "d";refine⟨rfl,?_⟩;walk_at "d"
 walk_at "n"
 walk_at "n"
 refine .inl ⟨⟨by decide,by decide +kernel⟩,.inl ⟨⟨by decide,by decide +kernel⟩,?_⟩⟩;walk_at "d";refine zD hp dz (by decide +kernel) fun r p2 r0 r1 hp2=>?_;obtain⟨d,ed,n,rfl,hn⟩:=zoK (P:=fun d=>∃ n,d=.int n/\-1<=n/\n<=zbU ps ts - zaI ps ts+1) (ds:=[PyData.int 0,PyData.int 1,PyData.int (-1),PyData.int ((zbU ps ts - zaI ps ts) / 2),PyData.int ((zbU ps ts - zaI ps ts) / 3),PyData.int (zbU ps ts - zaI ps ts+1)]) r0 r1 (by simp; omega);walk_at "d";refine⟨_,ed,?_⟩;walk_at "d"
 walk_at "n"
 refine .inl ⟨⟨by decide,by decide +kernel⟩,?_⟩;walk_at "d";refine zD hp2 dz (by decide +kernel) fun r' p3 r2 r3 hp3=>?_;obtain⟨d,ed,n',rfl,h0⟩:=zoK (P:=fun d=>∃ n,d=.int n/\0<=n/\n<=zbU ps ts - zaI ps ts+2) (ds:=[PyData.int 0,PyData.int 1,PyData.int 2,PyData.int ((zbU ps ts - zaI ps ts) / 2),PyData.int (zbU ps ts - zaI ps ts),PyData.int (zbU ps ts - zaI ps ts+2)]) r2 r3 (by simp; omega);walk_at "d";refine⟨_,ed,?_⟩;walk_at "d";refine⟨_,hk,?_⟩;walk_at "d";exact q ⟨ts,_,_⟩ p3 ⟨⟨hts,by simp only; omega⟩,by simp only; omega,by simp only; omega⟩ hp3
theorem ze6{p:List PyData}{ps:List Part}{m:Int}{P W:Gap->Prop}(hgap:∀ {p:List PyData} {R:RX},zaE p->(∀ g p',P g->zaE p'->R (.d (zgJ g)) [p'])->zbq [.l 0,.d (zcQ ps)] [p] R)(pw:∀ g,P g->W g)(pl:∀ (g:Gap) (r:Int),P g->0<=r->r<3->W ⟨g.ts,g.hi+1,g.hi+1+r⟩)
  (hp:zaE p) (m1:0<m) (m6:m<=6) (q:∀ gs p',1<=gs.length->(∀ g∈gs,W g)->(gs.length:Int)<=m->zaE p'->R (.d (zdx gs)) [p']):zbb [.l 0,.d (zcQ ps),.d (.int m)] [p] R:=by
 unfold zbb;walk_at "d"
 walk_at "n"
 refine zD hp m1 (zep m1 (by omega)) fun r p1 r0 r1 hp1=>?_;walk_at "d";refine zsi (α:=Gap) P zgJ (fun τ=>∃ u,τ=[u,some (.l 0),some (.d (zcQ ps))]) _ [] p1 _ ⟨_,rfl⟩ hp1 (by rw [za1]; simp; omega) ?_ ?_
 ·rintro d md _ p acc R' ⟨u,rfl⟩ hp hk;walk_at "d";refine hgap hp fun g p' hg hp'=>?_;walk_at "d";exact hk _ g p' ⟨_,rfl⟩ hp' hg
 ·intro gs p2 hp2 hg hl;rw [za1] at hl;rw [nil_append];have l1:1<=gs.length:=by omega
  have l6:(gs.length:Int)<=m:=by omega
  walk_at "d";refine cut (fun δ S=>∃ (p:List PyData) (gs:List Gap),zaE p/\1<=gs.length/\(∀ g∈gs,W g)/\(gs.length:Int)<=m/\S=[p,gs.map zgJ]/\δ=[some (.l 0),some (.d (zcQ ps)),some (.d (.int m)),some (.l 1)]) (fun N hN=>?_) ?_
  ·walk_at "d";refine zD hp2 dz (by decide +kernel) fun r2 p3 r3 r4 hp3=>?_;walk_at "d";have no:=hN [some (.l 0),some (.d (zcQ ps)),some (.d (.int m)),some (.l 1)] [p3,gs.map zgJ] ⟨p3,gs,hp3,l1,fun g m=>pw g (hg g m),l6,rfl,rfl⟩;split
   ·split
    ·obtain⟨g0,hg0⟩:∃ g0,gs[0]? = some g0:=⟨gs[0],getElem?_eq_getElem (by omega)⟩;have e0:=zg8 (f:=zgJ) hg0;have ok0:=hg g0 (mem_of_getElem? hg0);refine⟨_,e0,?_⟩;rw [zfl];walk_at "d";refine⟨_,e0,?_⟩;rw [zfl];walk_at "d";refine⟨_,e0,?_⟩;rw [zfl];walk_at "d";refine zD hp3 dz (by decide +kernel) fun r5 p4 r6 r7 hp4=>?_;walk_at "d";obtain⟨j,hj⟩:∃ j,ixN gs.length (-1)=some j/\j<gs.length:=⟨gs.length - 1,by unfold ixN; rw [if_neg (by omega),if_pos (by omega)]; congr 1; omega,by omega⟩;refine⟨j,hj.1,hN _ _ ⟨p4,gs.set j ⟨g0.ts,g0.hi+1,g0.hi+1+r5⟩,hp4,by simp; omega,fun g mg=>?_,by simp; omega,by simp only [List.map_set,zgJ],rfl⟩⟩;rcases List.mem_or_eq_of_mem_set mg with h | rfl
     ·exact pw g (hg g h)
     ·exact pl g0 r5 ok0 r6 r7
    ·exact no
   ·exact no
  ·rintro _ _ ⟨p,gs,hp,hgs,hw,hm,rfl,rfl⟩;walk_at "d";exact q gs p hgs hw hm hp
abbrev nS (i:Int):Str:=(toString i:String)
structure NumB(i:Int):Prop where
 lo:-1000000000000000000000000000000000000000000000000000000000000000<=i
 hi:i<=1000000000000000000000000000000000000000000000000000000000000000
theorem NumB.abs{i:Int}(h:NumB i):i.natAbs<=1000000000000000000000000000000000000000000000000000000000000000:=by
 have:=h.lo;have:=h.hi;omega
theorem NumB.log{i:Int}(h:NumB i):i.natAbs.log2<1920:=by
 have h1:=h.abs;by_cases z:i.natAbs=0
 ·rw [z];decide
 ·rw [Nat.log2_lt z];exact lt_of_le_of_lt h1 (by decide +kernel)
theorem ziV{i:Int}{k:Nat}(hk:0<k)(h:i.natAbs<10 ^ k):(nS i).length<=k+1:=by
 have:=int_text_length_le10 hk h;show (Str.ofString _).length<=_;rw [ofString_length];exact this
theorem NumB.len{i:Int}(h:NumB i):(nS i).length<=65:=ziV dz (lt_of_le_of_lt h.abs (by decide +kernel))
theorem zfa(a b c:Str):a++b++c=a++(b++c):=by
 show Str.mk _=Str.mk _;congr 1;exact Array.append_assoc
abbrev jn (sep r x:Str):Str:=r++sep++x
theorem zim(sep x:Str):∀ (l:List Str) (b:Str),x++l.foldl (jn sep) b=l.foldl (jn sep) (x++b)
 | [],_=>rfl
 | c :: r,b=>by
  rw [foldl_cons,foldl_cons,zim sep x r];congr 1;show x++(b++sep++c)=x++b++sep++c;rw [zfa,zfa,zfa]
theorem zg4(sep:Str):∀ (l:List Str) (a:Str),Str.join sep (a :: l)=l.foldl (jn sep) a
 | [],_=>rfl
 | b :: r,a=>by
  show a++sep++Str.join sep (b :: r)=_;rw [zg4 sep r b,zim,foldl_cons]
theorem zbH(sep:Str)(l:List Str)(a:Str):PySem.Txt.join sep (a :: l)=l.foldl (jn sep) a:=by
 show Builtin.Str.glued _ _=_;rw [StrLaws.glued_eq_join,zg4]
def prow(p:Part):Str:=[p.1,nS p.2.1,nS p.2.2].foldl (jn " ") "part"
def zaV(ps:List Part)(g:Gap)(ts:List Term):List Str:=nS g.lo :: nS g.hi :: ts.flatMap fun t=>[nS t.2,(part ps t.1).1]
def grow(ps:List Part)(g:Gap)(ts:List Term):Str:=(zaV ps g ts).foldl (jn " ") "gap"
def text(ps:List Part)(gs:List Gap):Str:=PySem.Txt.join "\n" (ps.map prow++gs.map fun g=>grow ps g g.ts)
structure JobB(ps:List Part)(gs:List Gap):Prop where
 l8:ps.length<=8
 parts:∀ p∈ps,p.1.length<=100/\NumB p.2.1/\NumB p.2.2
 l6:gs.length<=6
 gaps:∀ g∈gs,NumB g.lo/\NumB g.hi/\g.ts.length<=8/\∀ t∈g.ts,t.1<ps.length/\-3<=t.2/\t.2<=3
theorem zmk{p:Part}(h:p.1.length<=100/\NumB p.2.1/\NumB p.2.2):(prow p).length<=1000:=by
 unfold prow;simp only [foldl_cons,List.foldl_nil,jn,zct];have e1:("part":Str).length=4:=rfl;have e2:(" ":Str).length=1:=rfl;have:=h.2.1.len;have:=h.2.2.len;rw [e1,e2];omega
theorem zj4{t:Term}(h:-3<=t.2/\t.2<=3):(nS t.2).length<=2:=ziV (k:=1) dz (by omega)
theorem zm8{t:Term}(h:-3<=t.2/\t.2<=3):NumB t.2:=⟨by omega,by omega⟩
theorem zk3(ps:List Part)(g:Gap)(ts:List Term)(t:Term):grow ps g (ts++[t])=jn " " (jn " " (grow ps g ts) (nS t.2)) (part ps t.1).1:=by
 unfold grow zaV;simp only [List.flatMap_append,foldl_cons,List.foldl_append,flatMap_cons,List.flatMap_nil,append_nil,List.foldl_nil]
theorem ziO{ps:List Part}{g:Gap}(hp:∀ p∈ps,p.1.length<=100/\NumB p.2.1/\NumB p.2.2)(h:NumB g.lo/\NumB g.hi):∀ ts:List Term,(∀ t∈ts,t.1<ps.length/\-3<=t.2/\t.2<=3)->(grow ps g ts).length<=135+104*ts.length:=by
 intro ts;have e1:("gap":Str).length=3:=rfl;have e2:(" ":Str).length=1:=rfl;have go:∀ (ts:List Term) (a:Str),(∀ t∈ts,t.1<ps.length/\-3<=t.2/\t.2<=3)->((ts.flatMap fun t=>[nS t.2,(part ps t.1).1]).foldl (jn " ") a).length<=a.length+104*ts.length:=by
  intro ts;induction ts with
  | nil=>intro a _; simp
  | cons t ts ih =>
   intro a ht;obtain⟨h1,h2⟩:=ht t mem_cons_self;have q:=ih (jn " " (jn " " a (nS t.2)) (part ps t.1).1) fun u m=>ht u (mem_cons_of_mem _ m);have l1:=zj4 h2;have l2:=(hp _ (zb3 h1)).1;have ql:(jn " " (jn " " a (nS t.2)) (part ps t.1).1).length=a.length+1+(nS t.2).length+1+(part ps t.1).1.length:=by simp only [jn,zct,e2]
   rw [ql] at q;rw [flatMap_cons,List.foldl_append,length_cons];show (List.foldl (jn " ") (jn " " (jn " " a (nS t.2)) (part ps t.1).1) (ts.flatMap _)).length<=_;omega
 intro ht;have q:=go ts (jn " " (jn " " "gap" (nS g.lo)) (nS g.hi)) ht;have l1:=h.1.len;have l2:=h.2.len;have ql:(jn " " (jn " " "gap" (nS g.lo)) (nS g.hi)).length=3+1+(nS g.lo).length+1+(nS g.hi).length:=by simp only [jn,zct,e1,e2]
 rw [ql] at q;show ((ts.flatMap fun t=>[nS t.2,(part ps t.1).1]).foldl (jn " ") (jn " " (jn " " "gap" (nS g.lo)) (nS g.hi))).length<=_;omega
theorem zfk(ps:List Part)(g:Gap)(ts:List Term):(zaV ps g ts).length=2+2*ts.length:=by
 have:∀ ts:List Term,(ts.flatMap fun t=>[nS t.2,(part ps t.1).1]).length=2*ts.length:=by
  intro ts;induction ts with
  | nil=>rfl
  | cons t ts ih=>rw [flatMap_cons,length_append,ih,length_cons]; simp only [length_cons,length_nil]; omega
 show (_ :: _ :: _).length=_;simp only [length_cons,this];omega
theorem zjw{ps:List Part}{g:Gap}{ts:List Term}{i:Nat}{t:Term}(e:ts[i]? = some t):zaV ps g (ts.take (i+1))=zaV ps g (ts.take i)++[nS t.2,(part ps t.1).1]:=by
 unfold zaV;rw [take_add_one,e];simp only [toList_some,List.flatMap_append,flatMap_cons,List.flatMap_nil,append_nil,cons_append]
theorem zkM{ps:List Part}{g:Gap}{ts:List Term}(hp:∀ p∈ps,p.1.length<=100/\NumB p.2.1/\NumB p.2.2)(b1:NumB g.lo)(b2:NumB g.hi)(ht:∀ t∈ts,t.1<ps.length/\-3<=t.2/\t.2<=3){y:Str}(m:y∈zaV ps g ts):y.length<=1000:=by
 unfold zaV at m;rcases mem_cons.mp m with rfl | m
 ·exact le_trans b1.len dz
 rcases mem_cons.mp m with rfl | m
 ·exact le_trans b2.len dz
 obtain⟨t,mt,m⟩:=List.mem_flatMap.mp m;obtain⟨h1,h2⟩:=ht t mt;rcases mem_cons.mp m with rfl | m
 ·exact le_trans (zj4 h2) dz
 ·rw [mem_singleton.mp m];exact le_trans (hp _ (zb3 h1)).1 dz
theorem zjG{ps:List Part}{gs:List Gap}{g:Gap}(h:JobB ps gs)(mg:g∈gs)(q:R (.d (.str (grow ps g g.ts))) []):zd5 [.d (zcQ ps),.d (zgJ g)] [] R:=by
 obtain⟨b1,b2,l8,ht⟩:=h.gaps g mg;have hl8:=h.l8;unfold zd5 zcQ;rw [zfl];walk_at "d"
 walk_at "n"
 walk_at "n"
 refine⟨b1.log,b2.log,?_⟩;unfold zrc;walk_at "d";refine zbi (fun i δ S=>∃ (u1 u2:Option XV),S=[(("gap":Str) :: zaV ps g (g.ts.take i)).map PyData.str]/\δ=[some (.d (.tuple (ps.map zfK))),some (.d (.tuple [.tuple (g.ts.map tmD),.int g.lo,.int g.hi])),some (.l 0),u1,u2]) ⟨_,_,rfl,rfl⟩ ?_ ?_
 ·rintro i d _ _ N hi ⟨u1,u2,rfl,rfl⟩ hN;obtain⟨t,e,rfl⟩:=zc2 hi;obtain⟨h1,h2⟩:=ht t (mem_of_getElem? e);have ep:=zg8 (f:=zfK) (zfD h1);rw [zmL];walk_at "d";refine⟨(zm8 h2).log,_,ep,?_⟩;rw [zdA];walk_at "d";have il:(g.ts.take i).length<=8:=by rw [length_take]; omega
  refine⟨by rw [zfk]; omega,hN _ _ ⟨_,_,?_,rfl⟩⟩;rw [zjw e,map_cons,map_append];rfl
 ·rintro _ _ ⟨u1,u2,rfl,rfl⟩;rw [length_map,take_length];walk_at "d";refine⟨("gap":Str) :: zaV ps g g.ts,rfl,by decide,by rw [length_cons,zfk]; omega,fun y m=>?_,?_⟩
  ·rcases mem_cons.mp m with rfl | m
   ·decide
   ·exact zkM h.parts b1 b2 ht m
  ·rw [zbH];exact q
theorem zeS{ps:List Part}{gs:List Gap}(h:JobB ps gs)(y:Str)(m:y∈ps.map prow++gs.map fun g=>grow ps g g.ts):y.length<=1000:=by
 rcases mem_append.mp m with m | m
 ·obtain⟨p,mp,rfl⟩:=mem_map.mp m;exact zmk (h.parts p mp)
 ·obtain⟨g,mg,rfl⟩:=mem_map.mp m;obtain⟨b1,b2,l8,ht⟩:=h.gaps g mg;have:=ziO h.parts ⟨b1,b2⟩ g.ts ht;omega
theorem zii{ps:List Part}{gs:List Gap}(h:JobB ps gs)(q:R (.d (.str (text ps gs))) []):zfF [.d (.tuple [zcQ ps,zdx gs])] [] R:=by
 have hl8:=h.l8;have hl6:=h.l6;unfold zfF zcQ zdx;walk_at "d"
 walk_at "n"
 walk_at "n"
 refine cmp3 (S0:=[]) (fun p:Part=>.str (prow p)) rfl ps (by omega) ?_ ?_
 ·intro p mp u v w acc R' hk;obtain⟨h1,h2,h3⟩:=h.parts p mp;rw [zdA];walk_at "d";have e0:Str.empty++("part ":Str)=("part":Str)++(" ":Str):=by decide +kernel
  rw [e0];have e1:("part":Str).length=4:=rfl;have e2:(" ":Str).length=1:=rfl;have l2:(Str.ofString (toString p.2.1)).length<=65:=h2.len;have l3:(Str.ofString (toString p.2.2)).length<=65:=h3.len;simp only [zct,e1,e2,sizeLine_eq];exact⟨by omega,by omega,by omega,by omega,h2.log,by omega,by omega,h3.log,by omega,by omega,hk _ _ _⟩
 ·walk_at "d";refine cmp1 (S0:=[_]) (fun g:Gap=>.str (grow ps g g.ts)) rfl gs (by omega) ?_ ?_
  ·intro g mg u acc R' hk;walk_at "d";refine zjG h mg ?_;walk_at "d";exact hk _
  ·walk_at "d";refine⟨by omega,ps.map prow++gs.map fun g=>grow ps g g.ts,by simp [Function.comp_def],by decide,by simp; omega,zeS h,q⟩
theorem zhW{ps:List Part}{gs:List Gap}(h:JobB ps gs)(q:R (.d (.str (text ps gs))) []):zga [.d (zcQ ps),.d (zdx gs)] [] R:=by
 have hl8:=h.l8;have hl6:=h.l6;unfold zga zcQ zdx;walk_at "d"
 walk_at "n"
 walk_at "n"
 walk_at "n"
 refine zbi (fun i δ S=>∃ (u1 u2 u3:Option XV),S=[((ps.take i).map prow).map PyData.str]/\δ=[some (.d (.tuple (ps.map zfK))),some (.d (.tuple (gs.map zgJ))),some (.l 0),u1,u2,u3,none,none,none,none]) ⟨_,_,_,rfl,rfl⟩ ?_ ?_
 ·rintro i d _ _ N hi ⟨u1,u2,u3,rfl,rfl⟩ hN;obtain⟨p,e,rfl⟩:=zc2 hi;obtain⟨h1,h2,h3⟩:=h.parts p (mem_of_getElem? e);rw [zdA];walk_at "d";refine⟨h2.log,h3.log,[("part":Str),p.1,nS p.2.1,nS p.2.2],rfl,by decide,(by show 4<=1000; decide),fun y m=>?_,by rw [length_take]; omega,hN _ _ ⟨_,_,_,?_,rfl⟩⟩
  ·have e1:("part":Str).length=4:=rfl;have:=h2.len;have:=h3.len;simp only [mem_cons,not_mem_nil,or_false] at m;rcases m with rfl | rfl | rfl | rfl <;> omega
  ·rw [zbH,take_add_one,e,toList_some,map_append,map_append];rfl
 ·rintro _ _ ⟨u1,u2,u3,rfl,rfl⟩;rw [length_map,take_length];walk_at "d";have e1:("gap":Str).length=3:=rfl;have e2:(" ":Str).length=1:=rfl;have e0:("gap ":Str)=("gap":Str)++(" ":Str):=by decide +kernel
  refine zbi (fun i δ S=>∃ (u1 u2 u3 u4 u5 u6 u7:Option XV),S=[(ps.map prow++(gs.take i).map fun g=>grow ps g g.ts).map PyData.str]/\δ=[some (.d (.tuple (ps.map zfK))),some (.d (.tuple (gs.map zgJ))),some (.l 0),u1,u2,u3,u4,u5,u6,u7]) ⟨_,_,_,_,_,_,_,by simp,rfl⟩ ?_ ?_
  ·rintro i d _ _ N hi ⟨u1,u2,u3,u4,u5,u6,u7,rfl,rfl⟩ hN;obtain⟨g,e,rfl⟩:=zc2 hi;have mg:=mem_of_getElem? e;obtain⟨b1,b2,l8,ht⟩:=h.gaps g mg;have l1:(Str.ofString (toString g.lo)).length<=65:=b1.len;have l2:(Str.ofString (toString g.hi)).length<=65:=b2.len;rw [zfl];walk_at "d"
   walk_at "n"
   rw [e0];simp only [zct,e1,e2,sizeLine_eq];refine⟨b1.log,by omega,by omega,b2.log,by omega,?_⟩;unfold zrc
   walk_at "n"
   refine zbi (fun j δ S=>∃ (u6 u7:Option XV),S=[(ps.map prow++(gs.take i).map fun g=>grow ps g g.ts).map PyData.str]/\δ=[some (.d (.tuple (ps.map zfK))),some (.d (.tuple (gs.map zgJ))),some (.l 0),u1,some (.d (.int g.lo)),some (.d (.int g.hi)),some (.d (.tuple (g.ts.map tmD))),some (.d (.str (grow ps g (g.ts.take j)))),u6,u7]) ⟨_,_,rfl,rfl⟩ ?_ ?_
   ·rintro j d _ _ N' hj ⟨u6,u7,rfl,rfl⟩ hN';obtain⟨t,et,rfl⟩:=zc2 hj;obtain⟨h1,h2⟩:=ht t (mem_of_getElem? et);have ep:=zg8 (f:=zfK) (zfD h1);have gl:=ziO (g:=g) h.parts ⟨b1,b2⟩ (g.ts.take j) fun t m=>ht t (mem_of_mem_take m);have tl:(g.ts.take j).length<=8:=by rw [length_take]; omega
    have n1:=(h.parts _ (zb3 h1)).1;have n2:(Str.ofString (toString t.2)).length<=2:=zj4 h2;rw [zmL];walk_at "d";simp only [zct,e1,e2,sizeLine_eq];refine⟨by omega,(zm8 h2).log,by omega,by omega,_,ep,?_⟩;rw [zdA];walk_at "d";simp only [zct,e1,e2,sizeLine_eq];refine⟨by omega,hN' _ _ ⟨some (.d (.int (t.1:Int))),some (.d (.int t.2)),rfl,?_⟩⟩;rw [take_add_one,et,toList_some,zk3]
   ·rintro _ _ ⟨u6,u7,rfl,rfl⟩;rw [length_map,take_length];walk_at "d";refine⟨by rw [length_take]; omega,hN _ _ ⟨_,_,_,_,_,_,_,?_,rfl⟩⟩;rw [take_add_one,e,toList_some];simp only [map_append,map_cons,map_nil,append_assoc]
  ·rintro _ _ ⟨u1,u2,u3,u4,u5,u6,u7,rfl,rfl⟩;rw [length_map,take_length];walk_at "d";exact⟨ps.map prow++gs.map fun g=>grow ps g g.ts,by simp [Function.comp_def],by decide,by simp; omega,zeS h,q⟩
theorem zoI{ps:List Part}{gs:List Gap}(hd:Drw ps)(hg:GapsB ps.length gs):JobB ps gs:=by
 refine⟨hd.l8,fun p m=>?_,hg.l6,fun g m=>?_⟩
 ·have h:=hd.all p m;have a:=h.lo;have b:=h.hi;have c:=h.le;rw [p58] at a;rw [p59] at b;exact⟨zjq h.nm,⟨by omega,by omega⟩,⟨by omega,by omega⟩⟩
 ·have h:=hg.all g m;have a:=h.lo;have b:=h.hi;have c:=h.ok.le;have l:=h.ok.ts.len;have l8:=hd.l8;exact⟨⟨by omega,by omega⟩,⟨by omega,by omega⟩,by omega,fun t m=>⟨(h.ok.ts.ok t m).1,(h.ok.ts.ok t m).2.2⟩⟩
end
section
theorem zm9{c:Nat}:∀ {A B X Y:List Nat},c∉A->c∉B->A++c :: X=B++c :: Y->A=B/\X=Y
 | [],[],X,Y,_,_,e=>⟨rfl,by simpa using e⟩
 | [],b :: B,X,Y,_,hb,e=>by
  simp only [nil_append,cons_append,List.cons.injEq] at e;exact absurd (by rw [e.1]; exact mem_cons_self) hb
 | a :: A,[],X,Y,ha,_,e=>by
  simp only [nil_append,cons_append,List.cons.injEq] at e;exact absurd (by rw [<- e.1]; exact mem_cons_self) ha
 | a :: A,b :: B,X,Y,ha,hb,e=>by
  simp only [cons_append,List.cons.injEq] at e;obtain⟨e1,e2⟩:=zm9 (fun m=>ha (mem_cons_of_mem _ m)) (fun m=>hb (mem_cons_of_mem _ m)) e.2;exact⟨by rw [e.1,e1],e2⟩
theorem zlk{a b:Str}(h:a.cps.toList=b.cps.toList):a=b:=Str.ext' (Array.toList_inj.mp h)
theorem zeR(c:Nat)(a b:Str)(r:List Str):(Str.join ⟨#[c]⟩ (a :: b :: r)).cps.toList=a.cps.toList++c :: (Str.join ⟨#[c]⟩ (b :: r)).cps.toList:=by
 show (a++⟨#[c]⟩++Str.join ⟨#[c]⟩ (b :: r)).cps.toList=_;simp only [Str.cps_append,Array.toList_append,append_assoc];rfl
theorem zig(c:Nat):∀ {l l':List Str},l≠[]->l'≠[]->(∀ p∈l,c∉p.cps.toList)->(∀ p∈l',c∉p.cps.toList)->Str.join ⟨#[c]⟩ l=Str.join ⟨#[c]⟩ l'->l=l'
 | [],_,h,_,_,_,_=>absurd rfl h
 | _ :: _,[],_,h,_,_,_=>absurd rfl h
 | [a],[b],_,_,_,_,e=>by rw [show a=b from e]
 | [a],b :: b' :: r,_,_,ha,_,e=>by
  have e':a.cps.toList=_:=(congrArg (fun z:Str=>z.cps.toList) (show a=Str.join ⟨#[c]⟩ (b :: b' :: r) from e)).trans (zeR c b b' r);exact absurd (by rw [e']; simp) (ha a mem_cons_self)
 | a :: a' :: r,[b],_,_,_,hb,e=>by
  have e':b.cps.toList=_:=(congrArg (fun z:Str=>z.cps.toList) (show b=Str.join ⟨#[c]⟩ (a :: a' :: r) from e.symm)).trans (zeR c a a' r);exact absurd (by rw [e']; simp) (hb b mem_cons_self)
 | a :: a' :: r,b :: b' :: r',_,_,ha,hb,e=>by
  have e':=congrArg (fun z:Str=>z.cps.toList) e;simp only [zeR] at e';obtain⟨e1,e2⟩:=zm9 (ha a mem_cons_self) (hb b mem_cons_self) e';rw [zlk e1,zig c (l:=a' :: r) (l':=b' :: r') (by simp) (by simp) (fun p m=>ha p (mem_cons_of_mem _ m)) (fun p m=>hb p (mem_cons_of_mem _ m)) (zlk e2)]
theorem zew(c:Nat){l:List Str}(h:l≠[])(hf:∀ p∈l,c∉p.cps.toList):PySem.Txt.split (PySem.Txt.join ⟨#[c]⟩ l) ⟨#[c]⟩=l:=by
 have e:PySem.Txt.join ⟨#[c]⟩ l=Str.join ⟨#[c]⟩ l:=StrLaws.glued_eq_join ..;refine zig c (fun z=>?_) h (StrLaws.split_free _ c) hf ((StrLaws.join_split _ _).trans e);have:=PyProof.Rows.split_pos (PySem.Txt.join ⟨#[c]⟩ l) ⟨#[c]⟩;rw [z] at this;simp at this
def digs(m:Nat):List Nat:=(Nat.toDigits 10 m).map Char.toNat
theorem zhj(m:Nat):(nS (m:Int)).cps.toList=digs m:=W.KIN.signs_num m
theorem zkQ(m:Nat):(nS (-((m+1:Nat):Int))).cps.toList=45 :: digs (m+1):=by
 show (Str.ofString (toString (Int.negSucc m))).cps.toList=_;rw [PyProof.Rows.signs_ofString];show ("-" ++ Nat.repr (m+1)).toList.map Char.toNat=_;rw [String.toList_append,map_append,Nat.toList_repr];rfl
theorem zcN(m:Nat):PySem.NumText.AllDigits (digs m):=fun c hc=>by
 obtain⟨ch,hch,e⟩:=mem_map.mp hc;rw [<- e];exact PyProof.Rows.digit_range (Nat.isDigit_of_mem_toDigits dz dz hch)
theorem zkU(m:Nat):digs m≠[]:=fun e=>by
 have h:=toDigits_len_ge 10 m;rw [List.map_eq_nil_iff.mp e] at h;exact absurd h dz
theorem ziU{m k:Nat}(hk:0<k)(h:m<10 ^ k):(digs m).length<=k:=by
 unfold digs;rw [length_map];exact(Nat.length_toDigits_le_iff dz hk).mpr h
theorem zfc:∀ (m:Nat),0<m->∃ c r,digs m=c :: r/\c≠48
 | m,h=>by
  by_cases hm:m<10
  ·refine⟨(Nat.digitChar m).toNat,[],by unfold digs; rw [Nat.toDigits_of_lt_base hm]; rfl,?_⟩;have:∀ m<10,0<m->(Nat.digitChar m).toNat≠48:=by decide
   exact this m hm h
  ·have hr:m % 10<10:=Nat.mod_lt m dz;have t:Nat.toDigits 10 (m / 10)++Nat.toDigits 10 (m % 10)=Nat.toDigits 10 (10*(m / 10)+m % 10):=Nat.toDigits_append_toDigits dz (by omega) hr;rw [Nat.div_add_mod] at t;obtain⟨c,r,e,hc⟩:=zfc (m / 10) (by omega);refine⟨c,r++digs (m % 10),?_,hc⟩;unfold digs at e ⊢;rw [<- t,map_append,e];rfl
termination_by m=>m
theorem zkf:digs 0=[48]:=rfl
theorem ze3(z:Str):z.cps.toList.length=z.length:=length_toList
theorem zlX{i:Int}(h:i.natAbs<10 ^ 60):PySem.intText? (nS i)=some i:=by
 have hl:(nS i).length<=4300:=le_trans (ziV (k:=60) dz h) dz;rcases Int.lt_or_le i 0 with hi | hi
 ·obtain⟨m,rfl⟩:∃ m:Nat,i = -((m+1:Nat):Int):=⟨i.natAbs - 1,by omega⟩;have e:=PySem.intText_neg (zkQ m) (zcN _) (zkU _) hl;unfold digs at e;rw [W.KIN.val_back] at e;exact e
 ·obtain⟨m,rfl⟩:=Int.eq_ofNat_of_zero_le hi;have e:=PySem.intText_digits (x:=nS (m:Int)) (by rw [zhj]; exact zcN _) (by rw [zhj]; exact zkU _) hl;rw [zhj] at e;unfold digs at e;rw [W.KIN.val_back] at e;exact e
theorem zfz{x:Str}{c d:Nat}{r:List Nat}(e:x.cps.toList=c :: r):PySem.Txt.startswith x ⟨#[d]⟩=decide (c=d):=by
 have l:=ze3 x;rw [e] at l;unfold PySem.Txt.startswith;rw [StrLaws.subAt_eq,e];have e1:(⟨#[d]⟩:Str).length=1:=rfl;rw [e1,<- l];show (decide (0+1<=(c :: r).length) && ([c] == [d]))=_;by_cases z:c=d <;> simp [z]
theorem zlg{x:Str}{c:Nat}{r:List Nat}(e:x.cps.toList=c :: r):PySem.Txt.slice x (some 1) none=⟨r.toArray⟩:=by
 have l:=ze3 x;rw [e] at l;simp only [length_cons] at l;rw [PyProof.Rows.slice_from_eq dz (by omega) rfl,e];congr 2;show (List.drop 1 (c :: r)).take _=r;exact take_of_length_le (by simp; omega)
theorem zne{z:Str}(h:∀ c∈z.cps.toList,c<1114112):PyData.strOk z=true:=by
 unfold PyData.strOk;rw [Array.all_eq_true'];exact fun c m=>decide_eq_true (h c (Array.mem_toList_iff.mpr m))
theorem zkh(i:Int):∀ c∈(nS i).cps.toList,45<=c/\c<=57:=fun c m=>by
 rcases Int.lt_or_le i 0 with hi | hi
 ·obtain⟨k,rfl⟩:∃ m:Nat,i = -((m+1:Nat):Int):=⟨i.natAbs - 1,by omega⟩;rw [zkQ] at m;rcases mem_cons.mp m with rfl | m
  ·decide
  ·have:=zcN _ c m;omega
 ·obtain⟨k,rfl⟩:=Int.eq_ofNat_of_zero_le hi;rw [zhj] at m;have:=zcN _ c m;omega
theorem zrz(i:Int):PyData.strOk (nS i)=true:=zne fun c m=>by have:=zkh i c m; omega
theorem zg9{n:Nat}{z:Str}(h:PyData.strOk z=true):Shp n (.str z):=⟨h,zero_le _⟩
theorem zdU(a b:Str):PyData.eqv (.str a) (.str b)=decide (a=b):=rfl
abbrev FIG:Str:="0123456789"
def inF(c:Nat):Bool:=!(Builtin.Str.occurrences FIG ⟨#[c]⟩ 0 (FIG).length 1).isEmpty
theorem zov{c:Nat}(h:48<=c/\c<=57):inF c=true:=by
 have:∀ c<58,48<=c->inF c=true:=by decide +kernel
 exact this c (by omega) h.1
variable {R:RX}
theorem zbk{i:Int}(h:i.natAbs<10 ^ 60)(q:R (.d (.int i)) []):zay [.d (.str (nS i))] [] R:=by
 unfold zay;walk_at "d";have hl:(nS i).length<=61:=ziV (k:=60) dz h;have rd:=zlX h;refine cut (fun δ S=>∃ (z:Str) (c:Nat) (r:List Nat),z.cps.toList=c :: r/\z.length<=60/\PySem.NumText.AllDigits (c :: r)/\(c=48->nS i=("0":Str))/\S=[]/\δ=[some (.d (.str (nS i))),some (.d (.str z))]) (fun N hN=>?_) ?_
 ·walk_at "d";rcases Int.lt_or_le i 0 with hi | hi
  ·obtain⟨m,rfl⟩:∃ m:Nat,i = -((m+1:Nat):Int):=⟨i.natAbs - 1,by omega⟩;obtain⟨c,r,e,hc⟩:=zfc (m+1) (Nat.succ_pos _);have e1:=zkQ m;have e2:PySem.Txt.startswith (nS (-((m+1:Nat):Int))) ("-":Str)=true:=(zfz (d:=45) e1).trans dz;rw [e2];walk_at "d";refine⟨le_trans hl (by rw [sizeLine_eq]; decide),?_⟩;rw [zlg e1,e];refine hN _ _ ⟨_,c,r,rfl,?_,e▸zcN _,fun z=>absurd z hc,rfl,rfl⟩;show (c :: r).toArray.size<=60;rw [size_toArray,<- e];exact ziU dz (by omega)
  ·obtain⟨m,rfl⟩:=Int.eq_ofNat_of_zero_le hi;have e1:=zhj m;obtain⟨c,r,e,hc⟩:∃ c r,digs m=c :: r/\(c=48->m=0):=by
    rcases Nat.eq_zero_or_pos m with rfl | hm
    ·exact⟨48,[],zkf,fun _=>rfl⟩
    ·obtain⟨c,r,e,hc⟩:=zfc m hm;exact⟨c,r,e,fun z=>absurd z hc⟩
   have hd:48<=c:=(zcN m c (by rw [e]; exact mem_cons_self)).1;have e2:PySem.Txt.startswith (nS (m:Int)) ("-":Str)=false:=(zfz (d:=45) (e1.trans e)).trans (by simp; omega);rw [e2];walk_at "d";refine hN _ _ ⟨_,c,r,e1.trans e,?_,e▸zcN _,fun z=>by rw [hc z]; rfl,rfl,rfl⟩;rw [<- ze3,e1];exact ziU dz (by omega)
 ·rintro _ _ ⟨z,c,r,e,zl,ha,h0,rfl,rfl⟩;have ez:z.cps.toList.length=z.length:=ze3 z;have z1:1<=z.length:=by rw [<- ez,e]; simp
  have zs:z.length<=sizeLine:=le_trans zl (by rw [sizeLine_eq]; decide);walk_at "n";refine⟨z.length,by simp [znQ,zs],?_⟩;rw [if_pos (by omega),if_neg (by omega)];unfold zoZ;refine cmp1 (S0:=[]) (h:=fun c:Nat=>PyData.str ⟨#[c]⟩) (fun c:Nat=>.bool (inF c)) rfl z.cps.toList (by omega) ?_ ?_
  ·intro c mc u acc R' hk;walk_at "d";exact hk _
  ·walk_at "d";refine⟨z.cps.toList.map inF,by rw [map_map]; rfl,?_⟩;rw [all_map,show z.cps.toList.all (id∘inF)=true from ?_]
   ·walk_at "d";walk_at "n";refine⟨zs,c,by rw [e]; exact zcB (j:=0) rfl,?_⟩;walk_at "d";have hc:=ha c mem_cons_self;have ll:(nS i).length<=640:=le_trans hl dz;refine⟨(zg9 (n:=0) (zne fun d m=>by have:d=c:=(by simpa using m); omega)).ok,by decide +kernel,?_⟩;rw [zdU];split
    ·rename_i hz;have e48:c=48:=by
      have:=congrArg (fun y:Str=>y.cps.toList) (of_decide_eq_true hz);exact(List.cons.inj this).1
     refine⟨(zg9 (n:=0) (zrz i)).ok,by decide +kernel,?_⟩;rw [zdU,decide_eq_true (h0 e48)];walk_at "d";exact⟨i,ll,rd,q⟩
    ·exact⟨i,ll,rd,q⟩
   ·rw [e,all_eq_true];exact fun c m=>zov (ha c m)
end
section
variable {R:RX}
def inL(c:Nat):Bool:=!(Builtin.Str.occurrences ("abcdefghijklmnopqrstuvwxyz":Str) ⟨#[c]⟩ 0 (("abcdefghijklmnopqrstuvwxyz":Str)).length 1).isEmpty
def ziH(z:Str):Bool:=decide (1<=z.length/\z.length<=8) && z.cps.toList.all inL
def GoodN(zs:List Str):Prop:=zs.length=8/\zs.Nodup/\∀ z∈zs,zd1 z=true/\ziH z=true
theorem zhP{zs:List Str}(h:(decide (zs.length=8) && decide zs.Nodup && zs.all fun z=>zd1 z && ziH z)=true):GoodN zs:=by
 rw [Bool.and_eq_true,Bool.and_eq_true] at h;refine⟨of_decide_eq_true h.1.1,of_decide_eq_true h.1.2,fun z m=>?_⟩;have:=all_eq_true.mp h.2 z m
 rwa [Bool.and_eq_true] at this
theorem zp1(f:Nat)(h:f<26):GoodN ((List.range 8).map fun k:Nat=>PySem.Txt.mul (lsgn (((f:Nat)+5*(0+(k:Int))) % 26)) (1+((f:Nat)+3*(0+(k:Int))) % 8)):=by
 have:∀ f<26,(fun zs:List Str=>decide (zs.length=8) && decide zs.Nodup && zs.all fun z=>zd1 z && ziH z) ((List.range 8).map fun k:Nat=>PySem.Txt.mul (lsgn (((f:Nat)+5*(0+(k:Int))) % 26)) (1+((f:Nat)+3*(0+(k:Int))) % 8))=true:=by decide +kernel
 exact zhP (this f h)
theorem zpq(f:Nat)(h:f<26):GoodN ((List.range 8).map fun k:Nat=>PySem.Txt.slice (PySem.Txt.join "" ((List.range 8).map fun k:Nat=>lsgn (((f:Nat)+7*(0+(k:Int))) % 26))) none (some (0+(k:Int)+1))):=by
 have:∀ f<26,(fun zs:List Str=>decide (zs.length=8) && decide zs.Nodup && zs.all fun z=>zd1 z && ziH z) ((List.range 8).map fun k:Nat=>PySem.Txt.slice (PySem.Txt.join "" ((List.range 8).map fun k:Nat=>lsgn (((f:Nat)+7*(0+(k:Int))) % 26))) none (some (0+(k:Int)+1)))=true:=by decide +kernel
 exact zhP (this f h)
theorem zqI:GoodN zkC:=zhP (by decide +kernel)
theorem GoodN.perm{zs ys:List Str}(h:GoodN zs)(p:ys.Perm zs):GoodN ys:=⟨p.length_eq.trans h.1,p.nodup_iff.mpr h.2.1,fun z m=>h.2.2 z (p.mem_iff.mp m)⟩
theorem GoodN.rev{zs:List Str}(h:GoodN zs):GoodN zs.reverse:=h.perm (List.reverse_perm _)
theorem GoodN.rot{zs:List Str}{a:Nat}(h:GoodN zs)(_:a<=8):GoodN (zs.drop a++zs.take a):=h.perm (List.perm_append_comm.trans (by rw [List.take_append_drop]))
theorem zpv{zs:List Str}{k:Nat}(h:k<=zs.length):zha (zs.map PyData.str) (some (k:Int)) none++zha (zs.map PyData.str) none (some (k:Int))=(zs.drop k++zs.take k).map PyData.str:=by
 have e1:HT.sIx (zs.map PyData.str).length 0 (some (k:Int))=k:=by rw [HT.sIx_nat,length_map]; omega
 have e2:HT.sIx (zs.map PyData.str).length (zs.map PyData.str).length (some (k:Int))=k:=by rw [HT.sIx_nat,length_map]; omega
 have e3:HT.sIx (zs.map PyData.str).length (zs.map PyData.str).length none=(zs.map PyData.str).length:=rfl;have e4:HT.sIx (zs.map PyData.str).length 0 none=0:=rfl;unfold zha;rw [e1,e2,e3,e4,map_append,List.map_drop,map_take,List.drop_zero,Nat.sub_zero];congr 1;exact take_of_length_le (by simp)
set_option maxHeartbeats 8000000 in
theorem zeN{p:List PyData}(hp:zaE p)(q:∀ (ns:List Str) p',GoodN ns->zaE p'->R (.d (.list (ns.map PyData.str))) [p']):zaZ [.l 0] [p] R:=by
 unfold zaZ;walk_at "dX"
 (refine seq1 ?_; walk_at "dX")
 (refine seq1 ?_; walk_at "dX")
 refine zD hp dz (by decide +kernel) fun way p1 w0 w1 hp1=>?_;walk_at "dX"
 (refine seq1 ?_; walk_at "dX")
 refine zD hp1 dz (by decide +kernel) fun fst p2 f0 f1 hp2=>?_;walk_at "dX";refine cut (fun δ' S'=>∃ (zs:List Str),GoodN zs/\S'=[p2,zs.map PyData.str]/\δ'=[some (.l 0),some (.d (.str ("abcdefghijklmnopqrstuvwxyz":Str))),some (.d (.int way)),some (.d (.int fst)),some (.l 1),none,none]) (fun N hN=>?_) ?_
 ·walk_at "dX";refine cmp1 (S0:=[p2]) (fun k:Nat=>.str (PySem.Txt.mul (lsgn ((fst+5*(0+k)) % 26)) (1+(fst+3*(0+k)) % 8))) rfl (List.range 8) (by simp) ?_ ?_
  ·intro k mk u acc R' hk;have b1:=Int.emod_nonneg (fst+5*(0+(k:Int))) (show (26:Int)≠0 by decide);have b2:=Int.emod_lt_of_pos (fst+5*(0+(k:Int))) (show (0:Int)<26 by decide);have b3:=Int.emod_nonneg (fst+3*(0+(k:Int))) (show (8:Int)≠0 by decide);have b4:=Int.emod_lt_of_pos (fst+3*(0+(k:Int))) (show (0:Int)<8 by decide);walk_at "dX";refine⟨zeF dz dz,zgN,_,zkZ b1 b2,?_⟩;walk_at "dX";refine⟨zeF dz dz,?_⟩;walk_at "dX";exact⟨by rw [len1]; decide,by omega,by omega,hk _⟩
  ·obtain⟨f,rfl⟩:=Int.eq_ofNat_of_zero_le f0;refine hN _ _ ⟨_,zp1 f (by omega),?_,rfl⟩;rw [map_map];rfl
 rintro _ _ ⟨zs,hzs,rfl,rfl⟩;refine cut (fun δ' S'=>∃ (zs:List Str) (T:Sto) (k:Nat) (u:Option XV),GoodN zs/\T[k]? = some (zs.map PyData.str)/\S'=p2 :: T/\δ'=[some (.l 0),some (.d (.str ("abcdefghijklmnopqrstuvwxyz":Str))),some (.d (.int way)),some (.d (.int fst)),some (.l (k+1)),u,none]) (fun N hN=>?_) ?_
 ·walk_at "dX";split
  ·refine seq1 ?_;walk_at "dX";refine cmp1 (S0:=[p2,zs.map PyData.str]) (fun k:Nat=>.str (lsgn ((fst+7*(0+k)) % 26))) rfl (List.range 8) (by simp) ?_ ?_
   ·intro k mk u acc R' hk;have b1:=Int.emod_nonneg (fst+7*(0+(k:Int))) (show (26:Int)≠0 by decide);have b2:=Int.emod_lt_of_pos (fst+7*(0+(k:Int))) (show (0:Int)<26 by decide);walk_at "dX";refine⟨zeF dz dz,zgN,_,zkZ b1 b2,?_⟩;exact hk _
   ·walk_at "dX";refine⟨(List.range 8).map fun k:Nat=>lsgn ((fst+7*(0+k)) % 26),by rw [map_map]; rfl,by decide,by simp,fun y m=>?_,?_⟩
    ·obtain⟨k,_,rfl⟩:=mem_map.mp m;show 1<=1000;decide
    ·have wl:(PySem.Txt.join "" ((List.range 8).map fun k:Nat=>lsgn ((fst+7*(0+k)) % 26))).length<=8*1016:=by
      have:=ziD (y:=("":Str)) (zs:=(List.range 8).map fun k:Nat=>lsgn ((fst+7*(0+k)) % 26)) dz (fun y m=>by
       obtain⟨k,_,rfl⟩:=mem_map.mp m;show 1<=1000;decide)
      simpa using this
     have wl':(PySem.Txt.join "" ((List.range 8).map fun k:Nat=>lsgn ((fst+7*(0+k)) % 26))).length<=8:=by
      show (Builtin.Str.glued _ _).length<=_;rw [StrLaws.glued_eq_join];have:=zhh ((List.range 8).map fun k:Nat=>lsgn ((fst+7*(0+k)) % 26)) (fun y m=>by
       obtain⟨k,_,rfl⟩:=mem_map.mp m;exact le_refl 1)
      simpa using this
     walk_at "dX";refine cmp1 (S0:=[p2,zs.map PyData.str]) (fun k:Nat=>.str (PySem.Txt.slice (PySem.Txt.join "" ((List.range 8).map fun k:Nat=>lsgn ((fst+7*(0+k)) % 26))) none (some (0+k+1)))) rfl (List.range 8) (by simp) ?_ ?_
     ·intro k mk u acc R' hk;walk_at "dX";exact⟨le_trans wl (by rw [sizeLine_eq]; decide),hk _⟩
     ·obtain⟨f,rfl⟩:=Int.eq_ofNat_of_zero_le f0;refine hN _ _ ⟨_,[zs.map PyData.str,_],1,_,zpq f (by omega),rfl,?_,rfl⟩;rw [map_map];rfl
  ·exact hN _ _ ⟨zs,[zs.map PyData.str],0,none,hzs,rfl,rfl,rfl⟩
 rintro _ _ ⟨zs,T,k,u,hzs,hk,rfl,rfl⟩;refine cut (fun δ' S'=>∃ (zs:List Str) (T:Sto) (k:Nat),GoodN zs/\T[k]? = some (zs.map PyData.str)/\S'=p2 :: T/\δ'=[some (.l 0),some (.d (.str ("abcdefghijklmnopqrstuvwxyz":Str))),some (.d (.int way)),some (.d (.int fst)),some (.l (k+1)),u,none]) (fun N hN=>?_) ?_
 ·walk_at "dX";split
  ·exact hN _ _ ⟨zkC,T++[zkC.map PyData.str],T.length,zqI,by rw [getElem?_concat_length],rfl,rfl⟩
  ·exact hN _ _ ⟨zs,T,k,hzs,hk,rfl,rfl⟩
 rintro _ _ ⟨zs,T,k,hzs,hk,rfl,rfl⟩
 (refine seq1 ?_; walk_at "dX")
 refine zD hp2 dz (by decide +kernel) fun at' p3 a0 a1 hp3=>?_;walk_at "dX"
 (refine seq1 ?_; walk_at "dX")
 refine⟨_,hk,_,hk,?_⟩;obtain⟨a',rfl⟩:=Int.eq_ofNat_of_zero_le a0;have hr:=hzs.rot (a:=a') (by omega);have er:zha (zs.map PyData.str) (some (a':Int)) none++zha (zs.map PyData.str) none (some (a':Int))=(zs.drop a'++zs.take a').map PyData.str:=zpv (by rw [hzs.1]; omega);have hc:=congrArg List.length er;rw [length_append,length_map,hr.1] at hc;refine⟨by omega,?_⟩;rw [er];have hk2:(T++[(zs.drop a'++zs.take a').map PyData.str])[T.length]? = some ((zs.drop a'++zs.take a').map PyData.str):=by rw [getElem?_concat_length]
 generalize zs.drop a'++zs.take a'=es at hk2 hr ⊢;have hl2:(es.map PyData.str).length=8:=by rw [length_map]; exact hr.1
 refine seq1 ?_;walk_at "dX";refine zD hp3 dz (by decide +kernel) fun r p4 r0 r1 hp4=>?_;walk_at "dX";split
 ·refine⟨by simp,_,hk2,?_⟩;walk_at "dX";rw [if_neg (by omega)];exact⟨(es.map PyData.str).reverse,by simp [ziW],.inl (by rw [<- List.map_reverse]; exact q _ p4 hr.rev hp4)⟩
 ·rw [if_neg (by omega)];exact⟨_,hk2,.inl (q _ p4 hr hp4)⟩
structure TightS(a b:Int):Prop where
 le:a<=b
 lo:-10000000000000000000000000000000000000000000000000000000000<=a
 hi:a<=10000000000000000000000000000000000000000000000000000000000
 wd:b<=a+10000000000000000000000000000000000000000
theorem zhr{p:List PyData}(hp:zaE p)(q:∀ lo hi p',TightS lo hi->zaE p'->R (.d (spD lo hi)) [p']):zco [.l 0] [p] R:=by
 unfold zco;walk_at "e";refine zgl hp fun lo p1 l0 l1 hp1=>?_;rw [p58] at l0 l1;walk_at "e";refine zD hp1 dz (by decide +kernel) fun wd p2 w0 w1 hp2=>?_;walk_at "e";refine zD hp2 dz (by decide +kernel) fun t p3 t0 t1 hp3=>?_;walk_at "e";split
 ·refine⟨⟨by decide,by decide,by decide⟩,?_⟩;refine zD hp3 (by decide +kernel) (by decide +kernel) fun wd p4 w0 w1 hp4=>?_;walk_at "e";have k1:(10:Int) ^ 40=10000000000000000000000000000000000000000:=by decide +kernel
  try rw [k1] at w1
  exact q lo (lo+wd) _ ⟨by omega,l0,l1,by omega⟩ hp4
 ·exact q lo (lo+wd) _ ⟨by omega,l0,l1,by omega⟩ hp3
structure DrwT(ps:List Part):Prop where
 drw:Drw ps
 nd:(ps.map (·.1)).Nodup
 nm:∀ p∈ps,ziH p.1=true
 sp:∀ p∈ps,TightS p.2.1 p.2.2
theorem DrwT.of{ps:List Part}{ns:List Str}{k:Nat}(l1:1<=ps.length)(l8:ps.length<=8)(hn:GoodN ns)(e:ps.map (·.1)=ns.take k)(hs:∀ p∈ps,TightS p.2.1 p.2.2):DrwT ps:=by
 have hm:∀ p∈ps,zd1 p.1=true/\ziH p.1=true:=fun p m=>hn.2.2 _ (mem_of_mem_take (by rw [<- e]; exact List.mem_map_of_mem m));refine⟨⟨l1,l8,fun p m=>?_⟩,by rw [e]; exact hn.2.1.sublist (List.take_sublist _ _),fun p m=>(hm p m).2,hs⟩;have h:=hs p m;have a:=h.lo;have b:=h.hi;have c:=h.wd;exact⟨(hm p m).1,h.le,by rw [p58]; omega,by rw [p59]; omega⟩
theorem zeL{Q:PN}{p:List PyData}{m:Int}{span:PN}{names:PN}(hQ:Q=fun xs S R=>(zae (zaT (zab 0 1 names (ze (zr 0) zz)) (zp 2)) (zae (zaT (zeI zz) (zp 3)) (zae (zhO (zcc (ze (dOp zbY (dC (.int 1)) (zab 0 2 zy (ze (zr 0) (ze (zr 1) zz)))) zz)) (zp 4) (zeo (dBM zcb (zr 3) (ze (dOp zbY (zfN (ze (dOp dIx (zr 2) (zr 4)) zz)) (zab 0 1 span (ze (zr 0) zz))) zz)))) (zbf (dCB zey (ze (zr 3) zz)))))) (zcR S.length R) (xs.map some++List.replicate 3 none) S)
  (hnames:∀ {p:List PyData} {R:RX},zaE p->(∀ (ns:List Str) p',GoodN ns->zaE p'->R (.d (.list (ns.map PyData.str))) [p'])->names [.l 0] [p] R)
  (hspan:∀ {p:List PyData} {R:RX},zaE p->(∀ lo hi p',TightS lo hi->zaE p'->R (.d (spD lo hi)) [p'])->span [.l 0] [p] R)
  (hp:zaE p) (m1:0<m) (m8:m<=8) (q:∀ (ps:List Part) p',DrwT ps->zaE p'->R (.d (zcQ ps)) [p']):Q [.l 0,.d (.int m)] [p] R:=by
 subst hQ;walk_at "d"
 walk_at "n"
 refine hnames hp fun ns p1 hns hp1=>?_;have hn:=hns.1;walk_at "d"
 walk_at "n"
 walk_at "n";refine zD hp1 m1 (zep m1 (by omega)) fun r p2 r0 r1 hp2=>?_;walk_at "d";refine zbi (fun i δ S=>∃ (p:List PyData) (ps:List Part) (u:Option XV),zaE p/\ps.length=i/\ps.map (·.1)=ns.take i/\(∀ p∈ps,TightS p.2.1 p.2.2)/\S=[p,ps.map zfK]/\δ=[some (.l 0),some (.d (.int m)),some (.d (.list (ns.map PyData.str))),some (.l 1),u]) ⟨p2,[],_,hp2,rfl,by simp,by simp,rfl,rfl⟩ ?_ ?_
 ·rintro i d _ _ N hi ⟨p,ps,u,hp,hl,hm,ha,rfl,rfl⟩ hN;obtain⟨hi',rfl⟩:=zdO hi;have i8:i<ns.length:=by omega
  have e:=zg8 (f:=PyData.str) (getElem?_eq_getElem i8);walk_at "d";simp only [Int.zero_add];refine⟨_,e,?_⟩;walk_at "d";refine hspan hp fun lo hi p3 h1 hp3=>?_;simp only [spD];walk_at "d";refine⟨by omega,hN _ _ ⟨p3,ps++[(ns[i],lo,hi)],_,hp3,by simp [hl],by rw [map_append,hm,take_add_one,getElem?_eq_getElem i8]; rfl,fun x hx=>?_,by simp [zfK],rfl⟩⟩;rcases mem_append.mp hx with hx | hx
  ·exact ha x hx
  ·rw [mem_singleton.mp hx];exact h1
 ·rintro _ _ ⟨p,ps,u,hp,hl,hm,ha,rfl,rfl⟩;rw [za1] at hl;walk_at "d";exact q ps p (DrwT.of (by omega) (by omega) hns hm ha) hp
theorem zc3{p:List PyData}{m:Int}(hp:zaE p)(m1:0<m)(m8:m<=8)(q:∀ (ps:List Part) p',DrwT ps->zaE p'->R (.d (zcQ ps)) [p']):za0 [.l 0,.d (.int m)] [p] R :=
 zeL (span:=zco) (names:=zaZ) rfl zeN zhr hp m1 m8 q
theorem tw_bd{ps:List Part}{t:Term}(hd:DrwT ps)(h:t.1<ps.length/\-3<=t.2/\t.2<=3):-30000000000000000000000000000000000000000000000000000000000 - 30000000000000000000000000000000000000000<=tLo ps t/\tHi ps t<=30000000000000000000000000000000000000000000000000000000000+30000000000000000000000000000000000000000/\tHi ps t - tLo ps t<=30000000000000000000000000000000000000000:=by
 obtain⟨h1,h2,h3⟩:=h;have hp:=hd.sp _ (zb3 h1);have a:=hp.lo;have b:=hp.hi;have c:=hp.le;have d:=hp.wd;unfold tLo tHi plo phi;have:t.2 = -3\/t.2 = -2\/t.2 = -1\/t.2=0\/t.2=1\/t.2=2\/t.2=3:=by omega
 rcases this with e | e | e | e | e | e | e <;> rw [e] <;> refine⟨?_,?_,?_⟩ <;> omega
theorem tws_bd{ps:List Part}(hd:DrwT ps):∀ ts:List Term,(∀ t∈ts,t.1<ps.length/\-3<=t.2/\t.2<=3)->-(30000000000000000000000000000000000000000000000000000000000+30000000000000000000000000000000000000000)*(ts.length:Int)<=zaI ps ts/\zbU ps ts<=(30000000000000000000000000000000000000000000000000000000000+30000000000000000000000000000000000000000)*(ts.length:Int)/\zbU ps ts - zaI ps ts<=30000000000000000000000000000000000000000*(ts.length:Int)
 | [],_=>by simp [zaI,zbU]
 | t :: ts,h=>by
  have h1:=tw_bd hd (h t mem_cons_self);have h2:=tws_bd hd ts fun u m=>h u (mem_cons_of_mem _ m);rw [ze4,zgh,length_cons];omega
structure GapT(n:Nat)(g:Gap):Prop where
 ok:GapOk n g
 lo:-250000000000000000000000000000000000000000000000000000000000<=g.lo
 hi:g.hi<=250000000000000000000000000000000000000000000000000000000000
structure GapU(n:Nat)(g:Gap):Prop where
 ok:GapOk n g
 lo:-300000000000000000000000000000000000000000000000000000000000<=g.lo
 hi:g.hi<=300000000000000000000000000000000000000000000000000000000000
theorem ze8{p:List PyData}{ps:List Part}{m:Int}(hp:zaE p)(hd:DrwT ps)(m1:0<m)(m6:m<=6)(q:∀ gs p',1<=gs.length->(gs.length:Int)<=m->(∀ g∈gs,GapU ps.length g)->zaE p'->R (.d (zdx gs)) [p']):zbb [.l 0,.d (zcQ ps),.d (.int m)] [p] R:=by
 have h8:=hd.drw.l8;refine ze6 (P:=GapT ps.length) (W:=GapU ps.length) (fun hp q=>zfQ hp hd.drw fun g p' h hp'=>q g p' ?_ hp') (fun g h=>⟨h.ok,by have:=h.lo; omega,by have:=h.hi; omega⟩) (fun g r h r0 r1=>⟨⟨h.ok.ts,by simp only; omega⟩,by have:=h.lo; have:=h.ok.le; simp only; omega,by have:=h.hi; simp only; omega⟩) hp m1 m6 fun gs p' h1 hw hm hp'=>q gs p' h1 hm hw hp';have b:=tws_bd hd g.ts (h.ok.ts.tm3 h8).ok;have l:=h.ok.ts.len;have x:=h.lo;have y:=h.hi;exact⟨h.ok,by omega,by omega⟩
end
section
variable {R:RX} {S:Sto}
def zd4:PyData->Bool
 | .int _=>true
 | _=>false
theorem zgU{d:PyData}(q:R (.d (.bool (zd4 d))) []):zcC [.d d] [] R:=by
 unfold zcC;cases d <;> (walk_at "e"; exact q)
end
section
variable {R:RX} {S:Sto}
def rng(lo:Int)(n:Nat):List Int:=(List.range n).map fun k:Nat=>lo+k
def zsz(p:Part):List Int:=rng p.2.1 (p.2.2 - p.2.1+1).toNat
def ext(found:List (List Int))(p:Part):List (List Int):=found.flatMap fun a=>(zsz p).map fun x=>a++[x]
end
section
variable {R:RX} {S:Sto}
def few0(s1 s2 r:Int):Int:=if (r - (s1+2*s2)+2) / 3>0 then (r - (s1+2*s2)+2) / 3 else 0
def few(s1 s2 r:Int):Int:=if s1=0/\(r - few0 s1 s2 r) % 2=1 then few0 s1 s2 r+1 else few0 s1 s2 r
end
section
variable {R:RX}
theorem zaw{d:PyData}(q:R (.d (.bool (zd4 d))) []):zbJ [.d d] [] R:=by
 unfold zbJ;cases d <;> (walk_at "e"; exact q)
def zd9(n:Nat):PyData->Bool
 | .tuple [.int a,.int b]=>decide (0<=a/\a<n) && decide (b = -3\/b = -2\/b = -1\/b=1\/b=2\/b=3)
 | _=>false
def zo1:PyData->Int
 | .tuple (.int a :: _)=>a
 | _=>0
theorem zjO{n:Nat}{d:PyData}(h:zd9 n d=true):∃ a b:Int,d=.tuple [.int a,.int b]/\0<=a/\a<n:=by
 unfold zd9 at h;split at h
 ·rename_i a b;rw [Bool.and_eq_true] at h;have:=of_decide_eq_true h.1;exact⟨a,b,rfl,this.1,this.2⟩
 ·cases h
theorem zf5{d:PyData}:zd4 d=true↔∃ a:Int,d=.int a:=by
 cases d <;> simp [zd4]
theorem zkH{n:Nat}{ds:List PyData}(h:ds.length≠2):zd9 n (.tuple ds)=false:=by
 unfold zd9;split
 ·rename_i e;cases e;simp at h
 ·rfl
theorem zmj{n:Nat}{x y:PyData}(h:zd4 x=false):zd9 n (.tuple [x,y])=false:=by
 unfold zd9;split
 ·rename_i e;cases e;cases h
 ·rfl
theorem zmD{n:Nat}{x y:PyData}(h:zd4 y=false):zd9 n (.tuple [x,y])=false:=by
 unfold zd9;split
 ·rename_i e;cases e;cases h
 ·rfl
theorem len2{ds:List PyData}(h:ds.length=2):∃ x y,ds=[x,y]:=by
 match ds,h with
 | [x,y],_=>exact⟨x,y,rfl⟩
theorem len3{ds:List PyData}(h:ds.length=3):∃ x y z,ds=[x,y,z]:=by
 match ds,h with
 | [x,y,z],_=>exact⟨x,y,z,rfl⟩
theorem zn5(ps:List Part):znQ ([]:Sto) (.d (zcQ ps))=some ps.length:=by unfold zcQ; walk_at "d"
theorem Rb{x y:Bool}{S:Sto}(q:R (.d (.bool y)) S)(e:x=y):R (.d (.bool x)) S:=by rw [e]; exact q
theorem zju{ps:List Part}{d:PyData}(q:R (.d (.bool (zd9 ps.length d))) []):zed [.d (zcQ ps),.d d] [] R:=by
 unfold zed;cases d with
 | tuple ds =>
  walk_at "d"
  walk_at "n"
  by_cases h:ds.length=2
  ·rw [if_neg (by omega)];obtain⟨x,y,rfl⟩:=len2 h
   walk_at "n"
   refine zaw ?_;cases wx:zd4 x with
   | false =>
    walk_at "d";rw [zmj wx] at q;exact q
   | true =>
    walk_at "d";refine zaw ?_;cases wy:zd4 y with
    | false =>
     walk_at "d";rw [zmD wy] at q;exact q
    | true =>
     obtain⟨a,rfl⟩:=zf5.mp wx;obtain⟨b,rfl⟩:=zf5.mp wy;walk_at "d";have e0:zd9 ps.length (.tuple [.int a,.int b])=(decide (0<=a/\a<ps.length) && decide (b = -3\/b = -2\/b = -1\/b=1\/b=2\/b=3)):=rfl;rw [e0] at q;split
     ·refine⟨_,zn5 ps,?_⟩;split
      ·by_cases h3:1<=if b<0 then -b else b
       ·rw [if_pos h3];refine Rb q ?_;rw [Bool.eq_iff_iff];simp only [Bool.and_eq_true,decide_eq_true_eq];split at h3 <;> rename_i h4 <;> simp only [h4,if_true,if_false] <;> omega
       ·rw [if_neg h3];refine Rb q ?_;rw [Bool.eq_iff_iff];simp only [Bool.and_eq_true,decide_eq_true_eq,Bool.false_eq_true,false_iff];split at h3 <;> omega
      ·refine Rb q ?_;rw [Bool.eq_iff_iff];simp only [Bool.and_eq_true,decide_eq_true_eq,Bool.false_eq_true,false_iff];omega
     ·refine Rb q ?_;rw [Bool.eq_iff_iff];simp only [Bool.and_eq_true,decide_eq_true_eq,Bool.false_eq_true,false_iff];omega
  ·rw [if_pos (by omega)];rw [zkH h] at q;exact q
 | none=>(walk_at "d"; walk_at "n"; exact q)
 | bool b=>(walk_at "d"; walk_at "n"; exact q)
 | int b=>(walk_at "d"; walk_at "n"; exact q)
 | str b=>(walk_at "d"; walk_at "n"; exact q)
 | list b=>(walk_at "d"; walk_at "n"; exact q)
 | dict b=>(walk_at "d"; walk_at "n"; exact q)
def upB(n:Nat):Int->List PyData->Bool
 | _,[]=>true
 | a,d :: r=>zd9 n d && decide (a<zo1 d) && upB n (zo1 d) r
def zgg(n:Nat):PyData->Bool
 | .tuple ds=>decide (1<=ds.length/\ds.length<=8) && upB n (-1) ds
 | _=>false
theorem zhk{ps:List Part}{d:PyData}(q:R (.d (.bool (zgg ps.length d))) []):zcu [.d (zcQ ps),.d d] [] R:=by
 unfold zcu;cases d with
 | tuple ds =>
  have e0:zgg ps.length (.tuple ds)=(decide (1<=ds.length/\ds.length<=8) && upB ps.length (-1) ds):=rfl;rw [e0] at q;walk_at "d"
  walk_at "n"
  by_cases h1:1<=ds.length/\ds.length<=8
  ·rw [if_pos (by omega),if_neg (by omega)];rw [decide_eq_true h1,Bool.true_and] at q
   walk_at "n"
   walk_at "n";refine zbi (fun i δ S=>∃ (ahead:Int) (u:Option XV),S=[]/\upB ps.length (-1) ds=upB ps.length ahead (ds.drop i)/\δ=[some (.d (zcQ ps)),some (.d (.tuple ds)),some (.d (.int ahead)),u]) ⟨_,_,rfl,rfl,rfl⟩ ?_ ?_
   ·rintro i d _ _ N hi ⟨ahead,u,rfl,eu,rfl⟩ hN;have ed:ds.drop i=d :: ds.drop (i+1):=by
     obtain⟨hl,rfl⟩:=List.getElem?_eq_some_iff.mp hi;exact List.drop_eq_getElem_cons hl
    rw [ed] at eu;have ue:upB ps.length ahead (d :: ds.drop (i+1))=(zd9 ps.length d && decide (ahead<zo1 d) && upB ps.length (zo1 d) (ds.drop (i+1))):=rfl;rw [ue] at eu;walk_at "d"
    walk_at "n"
    refine zju ?_;cases ht:zd9 ps.length d with
    | false =>
     walk_at "d";rw [eu,ht] at q;exact q
    | true =>
     obtain⟨a,b,rfl,a0,a1⟩:=zjO ht;rw [ht,Bool.true_and] at eu;have ef:zo1 (.tuple [.int a,.int b])=a:=rfl;rw [ef] at eu;walk_at "d";by_cases h2:a<=ahead
     ·rw [if_pos h2];rw [eu,decide_eq_false (by omega)] at q;exact q
     ·rw [if_neg h2];walk_at "d";rw [decide_eq_true (by omega),Bool.true_and] at eu;exact hN _ _ ⟨a,_,rfl,eu,rfl⟩
   ·rintro _ _ ⟨ahead,u,rfl,eu,rfl⟩;rw [drop_length] at eu;rw [eu] at q;walk_at "d";exact q
  ·have ef:(decide (1<=ds.length/\ds.length<=8) && upB ps.length (-1) ds)=false:=by rw [decide_eq_false h1]; rfl
   rw [ef] at q;by_cases h2:1<=(ds.length:Int)
   ·rw [if_pos h2,if_pos (by omega)];exact q
   ·rw [if_neg h2];exact q
 | none=>(walk_at "d"; walk_at "n"; exact q)
 | bool b=>(walk_at "d"; walk_at "n"; exact q)
 | int b=>(walk_at "d"; walk_at "n"; exact q)
 | str b=>(walk_at "d"; walk_at "n"; exact q)
 | list b=>(walk_at "d"; walk_at "n"; exact q)
 | dict b=>(walk_at "d"; walk_at "n"; exact q)
def zlG:PyData->Bool
 | .int a=>decide (-10 ^ 60<a/\a<10 ^ 60)
 | _=>false
def zfh(lo hi:PyData):Bool:=zlG lo && zlG hi && match lo,hi with | .int a,.int b=>decide (a<=b) | _,_=>false
theorem zeE{d:PyData}(q:R (.d (.bool (zlG d))) []):zbM [.d d] [] R:=by
 unfold zbM;cases d with
 | int a =>
  walk_at "e";refine zaw ?_;walk_at "e";have k:(10:Int) ^ 60=1000000000000000000000000000000000000000000000000000000000000:=by decide +kernel
  have e0:zlG (.int a)=decide (-10 ^ 60<a/\a<10 ^ 60):=rfl;rw [e0,k] at q;rw [if_pos (show zd4 (.int a)=true from rfl)];refine⟨⟨by decide,by decide,by decide⟩,Rb q ?_⟩;rw [Bool.eq_iff_iff];simp only [decide_eq_true_eq];by_cases h:a<0
  ·rw [if_pos h];omega
  ·rw [if_neg h];omega
 | none=>(walk_at "e"; refine zaw ?_; walk_at "e"; exact q)
 | bool b=>(walk_at "e"; refine zaw ?_; walk_at "e"; exact q)
 | tuple b=>(walk_at "e"; refine zaw ?_; walk_at "e"; exact q)
 | str b=>(walk_at "e"; refine zaw ?_; walk_at "e"; exact q)
 | list b=>(walk_at "e"; refine zaw ?_; walk_at "e"; exact q)
 | dict b=>(walk_at "e"; refine zaw ?_; walk_at "e"; exact q)
theorem zlD(a b:Int):zfh (.int a) (.int b)=(zlG (.int a) && zlG (.int b) && decide (a<=b)):=rfl
theorem ziY{d:PyData}(h:zlG d=true):∃ a,d=.int a:=by
 cases d <;> simp [zlG] at h ⊢
theorem zfi{x y:PyData}(q:R (.d (.bool (zfh x y))) []):zcq [.d x,.d y] [] R:=by
 unfold zcq;walk_at "e";refine zeE ?_;cases hx:zlG x with
 | false =>
  walk_at "e";have:zfh x y=false:=by unfold zfh; rw [hx]; rfl
  rw [this] at q;exact q
 | true =>
  walk_at "e";refine zeE ?_;cases hy:zlG y with
  | false =>
   walk_at "e";have:zfh x y=false:=by unfold zfh; rw [hx,hy]; rfl
   rw [this] at q;exact q
  | true =>
   obtain⟨a,rfl⟩:=ziY hx;obtain⟨b,rfl⟩:=ziY hy;walk_at "e";rw [zlD,hx,hy] at q;exact q
def zqV(n:Nat):PyData->Bool
 | .tuple [t,lo,hi]=>zgg n t && zfh lo hi
 | _=>false
theorem zlY{n:Nat}{ds:List PyData}(h:ds.length≠3):zqV n (.tuple ds)=false:=by
 unfold zqV;split
 ·rename_i e;cases e;simp at h
 ·rfl
theorem zlc{ps:List Part}{d:PyData}(q:R (.d (.bool (zqV ps.length d))) []):zeQ [.d (zcQ ps),.d d] [] R:=by
 unfold zeQ;cases d with
 | tuple ds =>
  walk_at "d"
  walk_at "n"
  by_cases h:ds.length=3
  ·rw [if_neg (by omega)];obtain⟨t,lo,hi,rfl⟩:=len3 h;have e0:zqV ps.length (.tuple [t,lo,hi])=(zgg ps.length t && zfh lo hi):=rfl;rw [e0] at q;walk_at "d";refine zhk ?_;cases h1:zgg ps.length t with
   | false =>
    walk_at "d";rw [h1] at q;exact q
   | true =>
    walk_at "d";rw [h1,Bool.true_and] at q;refine zfi ?_;walk_at "d";exact q
  ·rw [if_pos (by omega)];rw [zlY h] at q;exact q
 | none=>(walk_at "d"; walk_at "n"; exact q)
 | bool b=>(walk_at "d"; walk_at "n"; exact q)
 | int b=>(walk_at "d"; walk_at "n"; exact q)
 | str b=>(walk_at "d"; walk_at "n"; exact q)
 | list b=>(walk_at "d"; walk_at "n"; exact q)
 | dict b=>(walk_at "d"; walk_at "n"; exact q)
theorem zoq{n:Nat}{z:Str}(h:PyData.strOk z=true):Shp n (.str z):=⟨h,zero_le _⟩
theorem zmm{ps:List Part}(h:∀ p∈ps,PyData.strOk p.1=true):SeqAt.shaped (.list (ps.map fun p:Part=>PyData.str p.1))=true:=(ziK (n:=0) (zfx fun p m=>zoq (h p m))).ok
end
section
variable {R:RX}
theorem zhi{g:DG}{b:DSm}{E:DEndsM}:∀ {ds:List PyData} {δ:XE} {S:Sto} {M:DM} (I:Nat->XE->Sto->DM->Prop),I 0 δ S M ->
  (∀ i d δ S M (N:XE->Sto->DM->Prop),ds[i]? = some d->I i δ S M->(∀ δ' S' M',I (i+1) δ' S' M'->N δ' S' M')->g (.d d) δ S fun δ1 S1=>b { nx:=N,ct:=N,bk:=E.nx,rt:=E.rt } δ1 S1 M) ->
  (∀ δ S M,I ds.length δ S M->E.nx δ S M)->zeB g b ds E δ S M
 | [],δ,S,M,I,h0,_,fin=>fin δ S M h0
 | d :: ds,δ,S,M,I,h0,step,fin=>by
  show g (.d d) δ S fun δ1 S1=>b _ δ1 S1 M;refine step 0 d δ S M _ rfl h0 fun δ' S' M' h1=>?_;exact zhi (ds:=ds) (fun i=>I (i+1)) h1 (fun i e δ S M N hi=>step (i+1) e δ S M N (by simpa using hi)) fin
theorem zmx{z:Str}(h:ziH z=true):1<=z.length/\z.length<=8:=by
 unfold ziH at h;rw [Bool.and_eq_true] at h;exact of_decide_eq_true h.1
theorem zfm{z:Str}(h:ziH z=true)(q:R (.d (.bool true)) []):zcV [.d (.str z)] [] R:=by
 have h1:=zmx h;have hz:z.length<=sizeLine:=le_trans h1.2 (by rw [sizeLine_eq]; decide);have h2:z.cps.toList.all inL=true:=by
  unfold ziH at h;rw [Bool.and_eq_true] at h;exact h.2
 unfold zcV;walk_at "d";walk_at "n";refine⟨z.length,by simp [znQ,hz],?_⟩;rw [if_pos (by omega),if_neg (by omega)];unfold zoZ;refine cmp1 (S0:=[]) (h:=fun c:Nat=>PyData.str ⟨#[c]⟩) (fun c:Nat=>.bool (inL c)) rfl z.cps.toList (by rw [ze3]; omega) ?_ ?_
 ·intro c mc u acc R' hk;walk_at "d";exact hk _
 ·walk_at "d";exact⟨z.cps.toList.map inL,by rw [map_map]; rfl,by rw [all_map]; show R (.d (.bool (z.cps.toList.all inL))) []; rw [h2]; exact q⟩
theorem zeG{z:Str}(h:ziH z=true)(q:R (.d (.str z)) []):zbX [.d (.str z)] [] R:=by
 unfold zbX;walk_at "d";walk_at "n";refine zfm h ?_;walk_at "d";exact q
def N60(i:Int):Prop:=i.natAbs<10 ^ 60
theorem ziN{a b:Int}(h1:N60 a)(h2:N60 b)(h:a<=b):zfh (.int a) (.int b)=true:=by
 unfold N60 at h1 h2;unfold zfh zlG;have p60:(10:Int) ^ 60=((10 ^ 60:Nat):Int):=by decide +kernel
 simp only [Bool.and_eq_true,decide_eq_true_eq];rw [p60];omega
structure PrtT(p:Part):Prop where
 nm:ziH p.1=true
 ok:PyData.strOk p.1=true
 lo:N60 p.2.1
 hi:N60 p.2.2
 le:p.2.1<=p.2.2
theorem zh3{p:Part}(h:PrtT p)(q:R (.d (.bool true)) []):zd0 [.d (zfK p)] [] R:=by
 unfold zd0;rw [zdA];walk_at "d";walk_at "n";refine zfm h.nm ?_;walk_at "d";refine zfi ?_;rw [ziN h.lo h.hi h.le];walk_at "d";exact q
def nmM(ns:List Str):List (Key×PyData):=ns.map fun z=>(Sum.inr z,.bool true)
theorem zrH{ns:List Str}{z:Str}:(lkA (nmM ns) (Sum.inr z)).isSome=decide (z∈ns):=by
 unfold lkA nmM;induction ns with
 | nil=>rfl
 | cons y r ih =>
  rw [map_cons,find?_cons];by_cases e:y=z
  ·subst e; simp
  ·have:(decide ((Sum.inr y:Key)=Sum.inr z))=false:=by simp [e]
   simp only [this];rw [ih];simp [Ne.symm e]
theorem zry{ns:List Str}{z:Str}(h:z∉ns):ptA (nmM ns) (Sum.inr z) (.bool true)=nmM (ns++[z]):=by
 unfold ptA nmM;rw [if_neg ?_]
 ·simp
 ·simp only [List.any_map,List.any_eq_true,Function.comp,decide_eq_true_eq];rintro⟨y,m,e⟩;cases e;exact h m
theorem zka{l:List Str}{i:Nat}{x:Str}(nd:l.Nodup)(e:l[i]? = some x):x∉l.take i:=fun m=>by
 have h:l.take (i+1)=l.take i++[x]:=by rw [take_add_one,e]; rfl
 have n2:(l.take (i+1)).Nodup:=nd.sublist (List.take_sublist _ _);rw [h,nodup_append] at n2;exact n2.2.2 x m x (by simp) rfl
theorem zfR{ps:List Part}(l1:1<=ps.length)(l8:ps.length<=8)(hp:∀ p∈ps,PrtT p)(nd:(ps.map (·.1)).Nodup)(q:R (.d (zcQ ps)) []):zb6 [.d (.list (ps.map zfK))] [] R:=by
 unfold zb6;walk_at "d";walk_at "n";intro a _;walk_at "d";refine zhi (fun i δ S M=>∃ (u2 u3:Option XV),S=[]/\M=[(a,.k (nmM ((ps.take i).map (·.1))))]/\δ=[some (.d (.list (ps.map zfK))),some (.o (.ref a)),u2,u3]) ⟨_,_,rfl,rfl,rfl⟩ ?_ ?_
 ·rintro i d _ _ _ N hi ⟨u2,u3,rfl,rfl,rfl⟩ hN;obtain⟨e,he,rfl⟩:=zbR (ps.map zfK) 0 i d hi;obtain⟨p,ep,rfl⟩:=zc2 he;have hi2:i<ps.length:=(List.getElem?_eq_some_iff.mp ep).1;have nm:p.1∉(ps.take i).map (·.1):=by
   rw [map_take];exact zka nd (by rw [getElem?_map,ep]; rfl)
  rw [zero_add];walk_at "d";refine seqm ?_;walk_at "d";refine zh3 (hp p (mem_of_getElem? ep)) ?_;walk_at "d";rw [zdA];walk_at "d";refine⟨.k (nmM ((ps.take i).map (·.1))),lkA (nmM ((ps.take i).map (·.1))) (Sum.inr p.1),.inl ⟨a,rfl,by simp⟩,rfl,?_⟩;rw [zrH,if_neg (by simpa using nm)];refine⟨a,rfl,.k (nmM ((ps.take i).map (·.1))),.k (nmM ((ps.take (i+1)).map (·.1))),by simp,?_,?_,hN _ _ _ ⟨_,_,rfl,?_,rfl⟩⟩
  ·show some (DD.k (ptA (nmM ((ps.take i).map (·.1))) (Sum.inr p.1) (.bool true)))=_;rw [zry nm,take_add_one,ep];simp
  ·show (nmM ((ps.take i).map (·.1))).length<1000;unfold nmM;rw [length_map,length_map,length_take];omega
  ·simp [zoX]
 ·rintro _ _ _ ⟨u2,u3,rfl,rfl,rfl⟩;refine⟨[],_,rfl,?_⟩;walk_at "n";rw [if_pos (by omega),if_neg (by omega)];exact q
theorem zeH{ps:List Part}{p:Part}(l8:ps.length<8)(hp:∀ x∈ps++[p],PrtT x)(nd:((ps++[p]).map (·.1)).Nodup)(q:R (.d (zcQ (ps++[p]))) []):za6 [.d (zcQ ps),.d (.list ([("part":Str),p.1,nS p.2.1,nS p.2.2].map PyData.str))] [] R:=by
 have hq:=hp p (by simp);unfold za6 zcQ;walk_at "d"
 walk_at "n"
 walk_at "n"
 refine zeG hq.nm ?_;walk_at "d";refine zbk hq.lo ?_;walk_at "d";refine zbk hq.hi ?_;walk_at "d";walk_at "n";rw [if_neg (by omega)];refine⟨by omega,?_⟩;have e:ps.map zfK++[PyData.tuple [PyData.str p.1,PyData.int p.2.1,PyData.int p.2.2]]=(ps++[p]).map zfK:=by
  rw [map_append];rfl
 rw [e];refine zfR (by simp) (by simp; omega) hp nd ?_;walk_at "d";exact q
end
section
variable {R:RX}
structure PsT(ps:List Part):Prop where
 l8:ps.length<=8
 all:∀ p∈ps,PrtT p
 nd:(ps.map (·.1)).Nodup
theorem zfO{ps:List Part}{k:Nat}(h:PsT ps)(hk:k<ps.length)(q:R (.d (.int k)) []):zbC [.d (zcQ ps),.d (.str (part ps k).1)] [] R:=by
 have l8:=h.l8;have ek:=zfD hk;have s1:SeqAt.shaped (.str (part ps k).1)=true:=(zg9 (n:=0) (h.all _ (zb3 hk)).ok).ok;have s2:SeqAt.shaped (.list (ps.map fun p:Part=>PyData.str p.1))=true:=zmm fun p m=>(h.all p m).ok;unfold zbC zcQ;walk_at "d";walk_at "n";refine cmp1 (S0:=[]) (h:=zfK) (fun p:Part=>.str p.1) rfl ps (by omega) ?_ ?_
 ·intro p mp u acc R' hk;rw [zdA];walk_at "d";exact hk _
 ·walk_at "d";walk_at "n";refine⟨s1,s2,?_⟩;have ea:(ps.map fun p:Part=>PyData.str p.1).any (fun y=>PyData.eqv y (.str (part ps k).1))=true:=by
   rw [List.any_map,List.any_eq_true];exact⟨part ps k,zb3 hk,by show PyData.eqv (.str _) (.str _)=true; rw [zdU]; simp⟩
  rw [ea];walk_at "d";refine⟨s1,s2,by omega,k,⟨_,by rw [getElem?_map,ek]; rfl,by rw [zdU]; simp⟩,fun m e hm he=>?_,q⟩;obtain⟨p,ep,rfl⟩:=zc2 he;rw [zdU,decide_eq_false_iff_not];intro z;have e1:(ps.map (·.1))[k]? = some (part ps k).1:=by rw [getElem?_map,ek]; rfl
  refine zka h.nd e1 ?_;rw [<- z];exact mem_of_getElem? (i:=m) (by rw [List.getElem?_take,if_pos hm,getElem?_map,ep]; rfl)
theorem zr1{α β:Type}(f g:α->β):∀ l:List α,evens (l.flatMap fun t=>[f t,g t])=l.map f
 | []=>rfl
 | t :: l=>by
  show evens (f t :: g t :: l.flatMap fun t=>[f t,g t])=_;show f t :: evens (l.flatMap fun t=>[f t,g t])=_;rw [zr1 f g l];rfl
theorem zsa{α β:Type}(f g:α->β):∀ l:List α,evens ((l.flatMap fun t=>[f t,g t]).drop 1)=l.map g
 | []=>rfl
 | [t]=>rfl
 | t :: u :: l=>by
  have:=zsa f g (u :: l);show g t :: evens (((u :: l).flatMap fun t=>[f t,g t]).drop 1)=_;rw [this];rfl
theorem zpF{α β γ:Type}(f:α->List β)(h:β->γ)(l:List α):(l.flatMap f).map h=l.flatMap fun t=>(f t).map h:=by
 induction l with
 | nil=>rfl
 | cons t l ih=>rw [flatMap_cons,flatMap_cons,map_append,ih]
theorem znw:∀ ts:List Term,zgF (ts.map fun t=>.int (t.1:Int)) (ts.map fun t=>.int t.2)=ts.map tmD
 | []=>rfl
 | t :: ts=>by
  show PyData.tuple [.int (t.1:Int),.int t.2] :: zgF (ts.map _) (ts.map _)=_;rw [znw ts];rfl
theorem znI{n:Nat}:∀ {ts:List Term} {a:Int},(∀ t∈ts,t.1<n/\t.2≠0/\-3<=t.2/\t.2<=3)->(ts.Pairwise fun t u=>t.1<u.1)->(∀ t∈ts,a<t.1)->upB n a (ts.map tmD)=true
 | [],_,_,_,_=>rfl
 | t :: ts,a,h,w,ha=>by
  obtain⟨h1,h2,h3,h4⟩:=h t mem_cons_self;rw [List.pairwise_cons] at w;rw [map_cons,upB];have e1:zd9 n (tmD t)=true:=by
   show (decide (0<=(t.1:Int)/\(t.1:Int)<n) && decide (t.2 = -3\/t.2 = -2\/t.2 = -1\/t.2=1\/t.2=2\/t.2=3))=true;rw [Bool.and_eq_true,decide_eq_true_eq,decide_eq_true_eq];omega
  have e2:zo1 (tmD t)=t.1:=rfl;rw [e1,e2,decide_eq_true (ha t mem_cons_self),znI (fun u m=>h u (mem_cons_of_mem _ m)) w.2 fun u m=>by have:=w.1 u m; omega];rfl
structure GapR(n:Nat)(g:Gap):Prop where
 ok:GapOk n g
 lo:N60 g.lo
 hi:N60 g.hi
theorem zn1{n:Nat}{g:Gap}(h8:n<=8)(h:GapR n g):zqV n (zgJ g)=true:=by
 have l:=h.ok.ts.len;have ne:1<=g.ts.length:=by
  have:=h.ok.ts.ne;cases e:g.ts with
  | nil=>exact absurd e this
  | cons _ _=>simp
 show (zgg n (.tuple (g.ts.map tmD)) && zfh (.int g.lo) (.int g.hi))=true;rw [ziN h.lo h.hi h.ok.le,Bool.and_true];show (decide (1<=(g.ts.map tmD).length/\(g.ts.map tmD).length<=8) && upB n (-1) (g.ts.map tmD))=true;rw [znI h.ok.ts.ok h.ok.ts.srt fun t _=>by omega,Bool.and_true,decide_eq_true_eq,length_map];omega
theorem ze5{ps:List Part}{gs:List Gap}{g:Gap}(h:PsT ps)(hg:GapR ps.length g)(l6:gs.length<6)(q:R (.d (zdx (gs++[g]))) []):zbg [.d (zcQ ps),.d (zdx gs),.d (.list ((("gap":Str) :: zaV ps g g.ts).map PyData.str))] [] R:=by
 have l8:=h.l8;have l:=hg.ok.ts.len;have ne:1<=g.ts.length:=by
  have:=hg.ok.ts.ne;cases e:g.ts with
  | nil=>exact absurd e this
  | cons _ _=>simp
 have wl:=zfk ps g g.ts;unfold zbg zdx;walk_at "n";rw [wl,if_neg (by omega),if_neg (by omega)];have ew:PyData.str (Str.ofString "gap") :: (zaV ps g g.ts).map PyData.str=.str "gap" :: .str (nS g.lo) :: .str (nS g.hi) :: g.ts.flatMap fun t=>[PyData.str (nS t.2),PyData.str (part ps t.1).1]:=by
  unfold zaV;rw [map_cons,map_cons,zpF];rfl
 rw [ew];have c1:zha (PyData.str "gap" :: .str (nS g.lo) :: .str (nS g.hi) :: g.ts.flatMap fun t=>[PyData.str (nS t.2),PyData.str (part ps t.1).1]) (some 1) (some 3)=[g.lo,g.hi].map fun i=>PyData.str (nS i):=by
  unfold zha;have e1:HT.sIx (PyData.str "gap" :: .str (nS g.lo) :: .str (nS g.hi) :: g.ts.flatMap fun t=>[PyData.str (nS t.2),PyData.str (part ps t.1).1]).length 0 (some ((1:Nat):Int))=1:=by rw [HT.sIx_nat]; simp
  have e2:∀ z,HT.sIx (PyData.str "gap" :: .str (nS g.lo) :: .str (nS g.hi) :: g.ts.flatMap fun t=>[PyData.str (nS t.2),PyData.str (part ps t.1).1]).length z (some ((3:Nat):Int))=3:=by intro z; rw [HT.sIx_nat]; simp
  have e1':=e1;simp only [Int.natCast_one] at e1';rw [e1',show (some (3:Int))=some ((3:Nat):Int) from rfl,e2];rfl
 have c3:evens ((PyData.str "gap" :: .str (nS g.lo) :: .str (nS g.hi) :: g.ts.flatMap fun t=>[PyData.str (nS t.2),PyData.str (part ps t.1).1]).drop 3)=g.ts.map fun t=>PyData.str (nS t.2):=zr1 _ _ _;have c4:evens ((PyData.str "gap" :: .str (nS g.lo) :: .str (nS g.hi) :: g.ts.flatMap fun t=>[PyData.str (nS t.2),PyData.str (part ps t.1).1]).drop 4)=g.ts.map fun t=>PyData.str (part ps t.1).1:=zsa _ _ _;generalize (PyData.str "gap" :: .str (nS g.lo) :: .str (nS g.hi) :: g.ts.flatMap fun t=>[PyData.str (nS t.2),PyData.str (part ps t.1).1])=W at c1 c3 c4 ⊢;walk_at "n";rw [c1];refine cmp1 (S0:=[]) (h:=fun i:Int=>PyData.str (nS i)) (fun i:Int=>.int i) rfl [g.lo,g.hi] (by simp) ?_ ?_
 ·intro i mi u acc R' hk;walk_at "d";refine zbk (i:=i) ?_ (by walk_at "d"; exact hk _);simp only [mem_cons,not_mem_nil,or_false] at mi;rcases mi with rfl | rfl
  ·exact hg.lo
  ·exact hg.hi
 walk_at "d";walk_at "n";refine⟨3,W,rfl,rfl,?_⟩;rw [c3];refine cmp1 (S0:=[]) (h:=fun t:Term=>PyData.str (nS t.2)) (fun t:Term=>.int t.2) rfl g.ts (by omega) ?_ ?_
 ·intro t mt u acc R' hk;walk_at "d";refine zbk (i:=t.2) ?_ (by walk_at "d"; exact hk _);have:=hg.ok.ts.ok t mt;exact lt_of_le_of_lt (show t.2.natAbs<=3 by omega) dz
 walk_at "d";walk_at "n";refine⟨4,W,rfl,rfl,?_⟩;rw [c4];refine cmp1 (S0:=[]) (h:=fun t:Term=>PyData.str (part ps t.1).1) (fun t:Term=>.str (part ps t.1).1) rfl g.ts (by omega) ?_ ?_
 ·intro t mt u acc R' hk;walk_at "d";exact zeG (h.all _ (zb3 (hg.ok.ts.ok t mt).1)).nm (by walk_at "d"; exact hk _)
 walk_at "d";walk_at "n";refine cmp1 (S0:=[]) (h:=fun t:Term=>PyData.str (part ps t.1).1) (fun t:Term=>.int (t.1:Int)) rfl g.ts (by omega) ?_ ?_
 ·intro t mt u acc R' hk;walk_at "d";exact zfO h (hg.ok.ts.ok t mt).1 (by walk_at "d"; exact hk _)
 walk_at "d";walk_at "n";refine⟨by omega,?_⟩;rw [znw];have eg:PyData.tuple [.tuple (g.ts.map tmD),.int g.lo,.int g.hi]=zgJ g:=rfl;rw [eg];walk_at "n";rw [if_neg (by omega)];refine zlc ?_;rw [zn1 l8 hg];walk_at "d";have ef:PyData.tuple (gs.map zgJ++[zgJ g])=zdx (gs++[g]):=by
  unfold zdx;rw [map_append];rfl
 exact⟨by omega,by rw [ef]; exact q⟩
theorem zmX{c:Nat}{ps:List Part}{g:Gap}(hc:c<45)(hn:∀ p∈ps,c∉p.1.cps.toList)(ht:∀ t∈g.ts,t.1<ps.length):∀ w∈(("gap":Str) :: zaV ps g g.ts),c∉w.cps.toList:=by
 have hN:∀ i:Int,c∉(nS i).cps.toList:=fun i m=>by have:=zkh i c m; omega
 intro w m;rcases mem_cons.mp m with rfl | m
 ·intro m;have:∀ c∈("gap":Str).cps.toList,45<=c:=by decide +kernel
  have:=this c m;omega
 unfold zaV at m;rcases mem_cons.mp m with rfl | m
 ·exact hN _
 rcases mem_cons.mp m with rfl | m
 ·exact hN _
 obtain⟨t,mt,m⟩:=List.mem_flatMap.mp m;rcases mem_cons.mp m with rfl | m
 ·exact hN _
 ·rw [mem_singleton.mp m];exact hn _ (zb3 (ht t mt))
theorem znr{c:Nat}{p:Part}(hc:c<45)(hn:c∉p.1.cps.toList):∀ w∈[("part":Str),p.1,nS p.2.1,nS p.2.2],c∉w.cps.toList:=by
 have hN:∀ i:Int,c∉(nS i).cps.toList:=fun i m=>by have:=zkh i c m; omega
 intro w m;simp only [mem_cons,not_mem_nil,or_false] at m;rcases m with rfl | rfl | rfl | rfl
 ·intro m;have:∀ c∈("part":Str).cps.toList,45<=c:=by decide +kernel
  have:=this c m;omega
 ·exact hn
 ·exact hN _
 ·exact hN _
theorem zqe{c:Nat}(h:inL c=true):97<=c:=by
 have:∀ c<97,inL c=false:=by decide +kernel
 rcases lt_or_ge c 97 with z | z
 ·rw [this c z] at h; cases h
 ·exact z
theorem zec{c:Nat}{z:Str}(hc:c<45)(h:ziH z=true):c∉z.cps.toList:=fun m=>by
 unfold ziH at h;rw [Bool.and_eq_true] at h;have:=zqe (all_eq_true.mp h.2 c m);omega
theorem zi6{p:Part}(h:PrtT p):PySem.Txt.split (prow p) " " = [("part":Str),p.1,nS p.2.1,nS p.2.2]:=by
 have e:prow p=PySem.Txt.join ⟨#[32]⟩ [("part":Str),p.1,nS p.2.1,nS p.2.2]:=(zbH _ _ _).symm;rw [e];exact zew 32 (by simp) (znr dz (zec dz h.nm))
theorem zjk{ps:List Part}{g:Gap}(h:PsT ps)(hg:GapR ps.length g):PySem.Txt.split (grow ps g g.ts) " " = ("gap":Str) :: zaV ps g g.ts:=by
 have e:grow ps g g.ts=PySem.Txt.join ⟨#[32]⟩ (("gap":Str) :: zaV ps g g.ts):=(zbH _ _ _).symm;rw [e];exact zew 32 (by simp) (zmX dz (fun p m=>zec dz (h.all p m).nm) fun t m=>(hg.ok.ts.ok t m).1)
theorem zfC{c d:Nat}(hcd:c≠d):∀ {l:List Str},(∀ w∈l,c∉w.cps.toList)->c∉(Str.join ⟨#[d]⟩ l).cps.toList
 | [],_=>by intro m; cases m
 | [a],h=>h a mem_cons_self
 | a :: b :: r,h=>by
  rw [zeR];intro m;rcases mem_append.mp m with m | m
  ·exact h a mem_cons_self m
  rcases mem_cons.mp m with m | m
  ·exact hcd m
  ·exact zfC hcd (fun w m=>h w (mem_cons_of_mem _ m)) m
theorem zjE{ps:List Part}{gs:List Gap}(h:PsT ps)(hg:∀ g∈gs,GapR ps.length g)(l1:1<=ps.length):PySem.Txt.split (text ps gs) "\n" = ps.map prow++gs.map fun g=>grow ps g g.ts:=by
 unfold text;refine zew 10 (fun z=>?_) fun w m=>?_
 ·have:=congrArg List.length z;rw [length_append,length_map,length_nil] at this;omega
 ·rcases mem_append.mp m with m | m
  ·obtain⟨p,mp,rfl⟩:=mem_map.mp m;have e:prow p=PySem.Txt.join ⟨#[32]⟩ [("part":Str),p.1,nS p.2.1,nS p.2.2]:=(zbH _ _ _).symm;rw [e,show PySem.Txt.join ⟨#[32]⟩ [("part":Str),p.1,nS p.2.1,nS p.2.2]=Str.join ⟨#[32]⟩ [("part":Str),p.1,nS p.2.1,nS p.2.2] from StrLaws.glued_eq_join ..];exact zfC dz (znr dz (zec dz (h.all p mp).nm))
  ·obtain⟨g,mg,rfl⟩:=mem_map.mp m;have e:grow ps g g.ts=PySem.Txt.join ⟨#[32]⟩ (("gap":Str) :: zaV ps g g.ts):=(zbH _ _ _).symm;rw [e,show PySem.Txt.join ⟨#[32]⟩ (("gap":Str) :: zaV ps g g.ts)=Str.join ⟨#[32]⟩ (("gap":Str) :: zaV ps g g.ts) from StrLaws.glued_eq_join ..];exact zfC dz (zmX dz (fun p m=>zec dz (h.all p m).nm) fun t m=>((hg g mg).ok.ts.ok t m).1)
end
section
variable {R:RX}
def jbD(ps:List Part)(gs:List Gap):PyData:=.tuple [zcQ ps,zdx gs]
theorem zhZ{ps:List Part}{p:Part}(l8:ps.length<8)(h:PsT (ps++[p]))(q:R (.d (jbD (ps++[p]) [])) []):zbE [.d (jbD ps []),.d (.list ([("part":Str),p.1,nS p.2.1,nS p.2.2].map PyData.str))] [] R:=by
 unfold zbE jbD;walk_at "n";refine⟨by decide +kernel,by decide +kernel,?_⟩;rw [zdU,decide_eq_true rfl];unfold zdx;walk_at "d";refine zeH l8 h.all h.nd ?_;walk_at "d";exact q
theorem zjy{ps:List Part}{gs:List Gap}{g:Gap}(h:PsT ps)(hg:GapR ps.length g)(l6:gs.length<6)(q:R (.d (jbD ps (gs++[g]))) []):zbE [.d (jbD ps gs),.d (.list ((("gap":Str) :: zaV ps g g.ts).map PyData.str))] [] R:=by
 unfold zbE jbD;walk_at "n";refine⟨by decide +kernel,by decide +kernel,?_⟩;rw [zdU,decide_eq_false (by decide +kernel)];walk_at "d";walk_at "n";refine⟨by decide +kernel,by decide +kernel,?_⟩;rw [zdU,decide_eq_true rfl];walk_at "d";refine ze5 h hg l6 ?_;walk_at "d";exact q
theorem zj2{ps:List Part}{gs:List Gap}(hb:JobB ps gs)(h:PsT ps)(hg:∀ g∈gs,GapR ps.length g)(l1:1<=ps.length)(g1:1<=gs.length)(q:R (.d (jbD ps gs)) []):zhb [.d (.str (text ps gs))] [] R:=by
 have l8:=hb.l8;have l6:=hb.l6;have sp:=zjE h hg l1;have tl:(text ps gs).length<=100000:=by
  have:=ziD (y:=("\n":Str)) (zs:=ps.map prow++gs.map fun g=>grow ps g g.ts) dz (zeS hb);unfold text;refine le_trans this ?_;rw [length_append,length_map,length_map];omega
 unfold zhb;walk_at "n";walk_at "n";refine⟨by decide +kernel,tl,?_⟩;rw [sp];have rl:(ps.map prow++gs.map fun g=>grow ps g g.ts).length=ps.length+gs.length:=by simp
 walk_at "n";walk_at "n";refine zbi (fun i δ S=>∃ (u3 u4:Option XV),S=[]/\δ=[some (.d (.str (text ps gs))),some (.d (.list ((ps.map prow++gs.map fun g=>grow ps g g.ts).map PyData.str))),some (.d (jbD (ps.take i) (gs.take (i - ps.length)))),u3,u4]) ⟨_,_,rfl,by rw [Nat.zero_sub]; rfl⟩ ?_ ?_
 ·rintro i d _ _ N hi ⟨u3,u4,rfl,rfl⟩ hN;obtain⟨e,he,rfl⟩:=zbR _ 1 i d hi;obtain⟨z,ez,rfl⟩:=zc2 he;walk_at "d";have zl:z.length<=100000:=le_trans (zeS hb z (mem_of_getElem? ez)) dz;refine⟨by decide +kernel,zl,?_⟩;rcases lt_or_ge i ps.length with hi' | hi'
  ·rw [getElem?_append_left (by simpa using hi')] at ez;rw [getElem?_map,map_eq_some_iff] at ez;obtain⟨p,ep,rfl⟩:=ez;have et:ps.take (i+1)=ps.take i++[p]:=by rw [take_add_one,ep]; rfl
   rw [zi6 (h.all p (mem_of_getElem? ep)),show i - ps.length=0 from by omega,take_zero];refine zhZ (by rw [length_take]; omega) ⟨by rw [<- et,length_take]; omega,fun x m=>h.all x (mem_of_mem_take (by rw [et]; exact m)),by rw [<- et,map_take]; exact h.nd.sublist (List.take_sublist _ _)⟩ ?_;walk_at "d";refine hN _ _ ⟨some (.d (.int ((1+i:Nat):Int))),some (.d (.str (prow p))),rfl,?_⟩;rw [et,show i+1 - ps.length=0 from by omega,take_zero]
  ·rw [getElem?_append_right (by simpa using hi'),length_map] at ez;rw [getElem?_map,map_eq_some_iff] at ez;obtain⟨g,eg,rfl⟩:=ez;have et:gs.take (i+1 - ps.length)=gs.take (i - ps.length)++[g]:=by rw [show i+1 - ps.length=i - ps.length+1 from by omega,take_add_one,eg]; rfl
   have gl:i - ps.length<gs.length:=(List.getElem?_eq_some_iff.mp eg).1;rw [zjk h (hg g (mem_of_getElem? eg)),take_of_length_le hi'];refine zjy h (hg g (mem_of_getElem? eg)) (by rw [length_take]; omega) ?_;walk_at "d";refine hN _ _ ⟨some (.d (.int ((1+i:Nat):Int))),some (.d (.str (grow ps g g.ts))),rfl,?_⟩;rw [et,take_of_length_le (show ps.length<=i+1 by omega)]
 ·rintro _ _ ⟨u3,u4,rfl,rfl⟩;rw [zb2,length_map,rl,take_of_length_le (show ps.length<=ps.length+gs.length by omega),Nat.add_sub_cancel_left,take_length];unfold jbD zdx;walk_at "d";walk_at "n";have eg:(gs.map zgJ).isEmpty=false:=by
   cases gs with
   | nil=>simp at g1
   | cons _ _=>rfl
  rw [eg];exact q
def okA:Nat->PyData->Prop
 | 0,_=>False
 | n+1,.tuple ds=>ds.length<=1000/\∀ d∈ds,okA n d
 | _+1,.int _=>True
 | _+1,.str z=>PyData.strOk z=true
 | _+1,_=>False
theorem ziM:∀ ds:List PyData,zgF ds ds=ds.map fun d=>.tuple [d,d]
 | []=>rfl
 | d :: ds=>by
  show PyData.tuple [d,d] :: zgF ds ds=_;rw [ziM ds];rfl
theorem ziE:∀ (n:Nat) {d:PyData} {R:RX},okA n d->R (.d (.bool true)) []->zar n [.d d,.d d] [] R
 | 0,_,_,h,_=>h.elim
 | n+1,.int a,R,_,q=>by
  unfold zar;walk_at "d";walk_at "n";walk_at "n";refine zgU ?_;walk_at "d";exact q
 | n+1,.str z,R,h,q=>by
  unfold zar;walk_at "d";walk_at "n";walk_at "n";have hz:SeqAt.shaped (.str z)=true:=(zg9 (n:=0) h).ok;rw [zdU,decide_eq_true rfl];exact⟨hz,hz,q⟩
 | n+1,.tuple ds,R,h,q=>by
  unfold zar;walk_at "d";walk_at "n";walk_at "n";rw [ziM];refine cmp2 (S0:=[]) (h:=fun d:PyData=>.tuple [d,d]) (fun _:PyData=>.bool true) rfl ds h.1 ?_ ?_
  ·intro d m u v acc R' hk;walk_at "d";exact ziE n (h.2 d m) (by walk_at "d"; exact hk _ _)
  ·walk_at "d";refine⟨ds.map fun _=>true,by rw [map_map]; rfl,?_⟩;rw [all_map,show ds.all (id∘fun _=>true)=true from all_eq_true.mpr fun _ _=>rfl];exact q
 | n+1,.none,_,h,_=>h.elim
 | n+1,.bool _,_,h,_=>h.elim
 | n+1,.list _,_,h,_=>h.elim
 | n+1,.dict _,_,h,_=>h.elim
theorem zqL{ps:List Part}(h:DrwT ps):PsT ps:=by
 refine⟨h.drw.l8,fun p m=>?_,h.nd⟩;have t:=h.sp p m;have a:=t.lo;have b:=t.hi;have c:=t.wd;have d:=t.le;have n:=(h.drw.all p m).nm;unfold zd1 at n;rw [Bool.and_eq_true,Bool.and_eq_true] at n;have k:(10:Nat) ^ 60=1000000000000000000000000000000000000000000000000000000000000:=by decide +kernel
 exact⟨h.nm p m,n.1.2,by unfold N60; rw [k]; omega,by unfold N60; rw [k]; omega,d⟩
theorem znW{n:Nat}{g:Gap}(h:GapU n g):GapR n g:=by
 have a:=h.lo;have b:=h.hi;have c:=h.ok.le;have k:(10:Nat) ^ 60=1000000000000000000000000000000000000000000000000000000000000:=by decide +kernel
 exact⟨h.ok,by unfold N60; rw [k]; omega,by unfold N60; rw [k]; omega⟩
theorem zp0{ps:List Part}{gs:List Gap}(hd:DrwT ps)(l6:gs.length<=6)(g1:1<=gs.length)(hg:∀ g∈gs,GapU ps.length g):JobB ps gs:=zoI hd.drw ⟨g1,l6,fun g m=>⟨(hg g m).ok,by have:=(hg g m).lo; omega,by have:=(hg g m).hi; omega⟩⟩
theorem zot{ps:List Part}{gs:List Gap}(hb:JobB ps gs)(h:PsT ps):okA 160 (jbD ps gs):=by
 refine⟨by simp,fun d m=>?_⟩;simp only [mem_cons,not_mem_nil,or_false] at m;rcases m with rfl | rfl
 ·refine⟨by rw [length_map]; have:=h.l8; omega,fun d m=>?_⟩;obtain⟨p,mp,rfl⟩:=mem_map.mp m;refine⟨by simp,fun d m=>?_⟩;simp only [mem_cons,not_mem_nil,or_false] at m;rcases m with rfl | rfl | rfl
  ·exact(h.all p mp).ok
  ·trivial
  ·trivial
 ·refine⟨by rw [length_map]; have:=hb.l6; omega,fun d m=>?_⟩;obtain⟨g,mg,rfl⟩:=mem_map.mp m;refine⟨by simp,fun d m=>?_⟩;simp only [mem_cons,not_mem_nil,or_false] at m;rcases m with rfl | rfl | rfl
  ·refine⟨by rw [length_map]; have:=(hb.gaps g mg).2.2.1; omega,fun d m=>?_⟩;obtain⟨t,mt,rfl⟩:=mem_map.mp m;refine⟨by simp,fun d m=>?_⟩;simp only [mem_cons,not_mem_nil,or_false] at m;rcases m with rfl | rfl <;> trivial
  ·trivial
  ·trivial
theorem zoB{ps:List Part}{gs:List Gap}(h:PsT ps):SeqAt.shaped (jbD ps gs)=true:=by
 refine(zdB (n:=4) fun d m=>?_).ok;simp only [mem_cons,not_mem_nil,or_false] at m;rcases m with rfl | rfl
 ·refine zdB (n:=3) (zfx fun p mp=>zdB (n:=2) fun d m=>?_);simp only [mem_cons,not_mem_nil,or_false] at m;rcases m with rfl | rfl | rfl
  ·exact zg9 (h.all p mp).ok
  ·exact zes
  ·exact zes
 ·refine zdB (n:=3) (zfx fun g mg=>zdB (n:=2) fun d m=>?_);simp only [mem_cons,not_mem_nil,or_false] at m;rcases m with rfl | rfl | rfl
  ·exact zdB (n:=1) (zfx fun t _=>znd t)
  ·exact zes
  ·exact zes
theorem zfT{ps:List Part}{gs:List Gap}(h:JobB ps gs)(q:R (.d (.str (text ps gs))) []):zcr [.d (zcQ ps),.d (zdx gs)] [] R:=zhW h q
theorem zh7(a:Addr)(n:Int):zoR (zsq a 6) ((some (.o (.ref a)) :: List.replicate 6 none).set 1 (some (.d (.int n)))) []:=by
 unfold zoR;walk_at "d"
 walk_at "n"
 refine zgw fun p hp=>?_;walk_at "d"
 walk_at "n"
 refine zc3 hp dz dz fun ps p1 hd hp1=>?_;walk_at "d"
 walk_at "n"
 refine ze8 hp1 hd dz dz fun gs p2 g1 g6 hg hp2=>?_;have l6:gs.length<=6:=by omega
 have job:=zp0 hd l6 g1 hg;have hps:=zqL hd;have hgs:∀ g∈gs,GapR ps.length g:=fun g m=>znW (hg g m);walk_at "d"
 walk_at "n"
 refine zfT job ?_;walk_at "d"
 walk_at "n"
 refine zj2 job hps hgs hd.drw.l1 g1 ?_;walk_at "d";refine ziE 160 (zot job hps) ?_;walk_at "d";refine zii job ?_;walk_at "d";refine zii job ?_;walk_at "d";refine zj2 job hps hgs hd.drw.l1 g1 ?_;walk_at "d";have sj:=zoB (gs:=gs) hps;refine⟨sj,sj,?_⟩;rw [SeqAt.eqv_refl _ (SeqAt.canLay_of_shaped sj),if_neg dz];trivial
end
end My
namespace My
open PySem L2
def top (i : Nat) : Stmt := PySem.Challenge.pw_gaugewright_k71_jobs_read.main.body.getD i (.Pass ⟨0, 0, 0, 0⟩)
abbrev s_law_cell_at:Stmt:=top 38
theorem zfI:FnScope ["script","k"] ["script","k"] (zn s_law_cell_at):=fsc (by decide +kernel)
abbrev s_law_pen_of:Stmt:=top 40
theorem zd7:FnScope ["cell","left"] ["cell"] (zn s_law_pen_of):=fsc (by decide +kernel)
abbrev s_law_next:Stmt:=top 39
theorem ze1:FnScope ["seed"] ["seed"] (zn s_law_next):=fsc (by decide +kernel)
abbrev s_law_draw:Stmt:=top 41
theorem zfe:FnScope ["pen","many","found"] ["pen","many"] (zn s_law_draw):=fsc (by decide +kernel)
abbrev s_law_names_of:Stmt:=top 45
theorem zR:FnScope ["pen","letters","way","first","names","word","at"] ["pen"] (zn s_law_names_of):=fsc (by decide +kernel)
abbrev s_law_number:Stmt:=top 43
theorem zdN:FnScope ["pen","way"] ["pen"] (zn s_law_number):=fsc (by decide +kernel)
abbrev s_law_span:Stmt:=top 44
theorem zcA:FnScope ["pen","low","wide"] ["pen"] (zn s_law_span):=fsc (by decide +kernel)
abbrev s_law_drawing_of:Stmt:=top 46
theorem zaM:FnScope ["pen","most","names","drawing","k"] ["pen","most"] (zn s_law_drawing_of):=fsc (by decide +kernel)
abbrev s_law_ends_of:Stmt:=top 47
theorem zak:FnScope ["drawing","terms","least","most","part","times","ends"] ["drawing","terms"] (zn s_law_ends_of):=fsc (by decide +kernel)
abbrev s_law_gap_of:Stmt:=top 48
theorem zac:FnScope ["pen","drawing","terms","part","times","least","most","wide","low","high"] ["pen","drawing"] (zn s_law_gap_of):=fsc (by decide +kernel)
abbrev s_law_gaps_of:Stmt:=top 49
theorem zds:FnScope ["pen","drawing","most","gaps"] ["pen","drawing","most"] (zn s_law_gaps_of):=fsc (by decide +kernel)
abbrev s_law_text_of:Stmt:=top 50
theorem zL:FnScope ["drawing","gaps","rows","name","low","high","terms","row","part","times"] ["drawing","gaps"] (zn s_law_text_of):=fsc (by decide +kernel)
abbrev s_is_name:Stmt:=top 13
theorem zjH:FnScope ["thing"] ["thing"] (zn s_is_name):=fsc (by decide +kernel)
abbrev s_is_whole:Stmt:=top 10
theorem zh0:FnScope ["thing"] ["thing"] (zn s_is_whole):=fsc (by decide +kernel)
abbrev s_is_number:Stmt:=top 11
theorem zg7:FnScope ["thing"] ["thing"] (zn s_is_number):=fsc (by decide +kernel)
abbrev s_are_ends:Stmt:=top 12
theorem zhV:FnScope ["low","high"] ["low","high"] (zn s_are_ends):=fsc (by decide +kernel)
abbrev s_is_part:Stmt:=top 16
theorem zjv:FnScope ["thing"] ["thing"] (zn s_is_part):=fsc (by decide +kernel)
abbrev s_drawing_of:Stmt:=top 17
theorem zbB:FnScope ["things","names","number","thing"] ["things"] (zn s_drawing_of):=fsc (by decide +kernel)
abbrev s_name_told:Stmt:=top 35
theorem zhd:FnScope ["word"] ["word"] (zn s_name_told):=fsc (by decide +kernel)
abbrev s_number_told:Stmt:=top 36
theorem zdm:FnScope ["word","figures"] ["word"] (zn s_number_told):=fsc (by decide +kernel)
abbrev s_one_part_more:Stmt:=top 32
theorem zcO:FnScope ["drawing","words","part"] ["drawing","words"] (zn s_one_part_more):=fsc (by decide +kernel)
abbrev s_part_called:Stmt:=top 34
theorem zdk:FnScope ["drawing","name","names"] ["drawing","name"] (zn s_part_called):=fsc (by decide +kernel)
abbrev s_is_term:Stmt:=top 23
theorem zi8:FnScope ["drawing","thing"] ["drawing","thing"] (zn s_is_term):=fsc (by decide +kernel)
abbrev s_are_terms:Stmt:=top 22
theorem zbZ:FnScope ["drawing","thing","ahead","term"] ["drawing","thing"] (zn s_are_terms):=fsc (by decide +kernel)
abbrev s_is_gap:Stmt:=top 21
theorem zls:FnScope ["drawing","thing"] ["drawing","thing"] (zn s_is_gap):=fsc (by decide +kernel)
abbrev s_one_gap_more:Stmt:=top 33
theorem zat:FnScope ["drawing","gaps","words","ends","times","names","parts","gap"] ["drawing","gaps","words"] (zn s_one_gap_more):=fsc (by decide +kernel)
abbrev s_with_row:Stmt:=top 31
theorem zhS:FnScope ["job","words"] ["job","words"] (zn s_with_row):=fsc (by decide +kernel)
abbrev s_read:Stmt:=top 30
theorem zeq:FnScope ["text","rows","job","number","row"] ["text"] (zn s_read):=fsc (by decide +kernel)
abbrev s_law_whole:Stmt:=top 42
theorem zhA:FnScope ["found"] ["found"] (zn s_law_whole):=fsc (by decide +kernel)
abbrev s_law_alike:Stmt:=top 51
theorem zhq:FnScope ["found","due"] ["found","due"] (zn s_law_alike):=fsc (by decide +kernel)
abbrev s_gap_row:Stmt:=top 29
theorem zdg:FnScope ["drawing","gap","words","part","times"] ["drawing","gap"] (zn s_gap_row):=fsc (by decide +kernel)
abbrev s_shown:Stmt:=top 28
theorem zin:FnScope ["job","rows"] ["job"] (zn s_shown):=fsc (by decide +kernel)
abbrev s_law:Stmt:=top 52
theorem zfj:FnScope ["script","cell","pen","drawing","gaps","text","found"] ["script"] (zn s_law):=fsc (by decide +kernel)
structure Txt(mg:Str->Option Value):Prop where
 n_len:mg "len" = none
 n_max:mg "max" = none
 n_int:mg "int" = none
 n_range:mg "range" = none
 n_tuple:mg "tuple" = none
 n_min:mg "min" = none
 n_str:mg "str" = none
 n_isinstance:mg "isinstance" = none
 n_all:mg "all" = none
 n_bool:mg "bool" = none
 n_abs:mg "abs" = none
 n_enumerate:mg "enumerate" = none
 n_list:mg "list" = none
 n_zip:mg "zip" = none
 g_LONGEST_NAME:∃ t,mg "LONGEST_NAME" = some (.int 8 t)
 g_LETTERS:∃ t,mg "LETTERS" = some (.str "abcdefghijklmnopqrstuvwxyz" t)
 g_MOST_PARTS:∃ t,mg "MOST_PARTS" = some (.int 8 t)
 g_FIGURES:∃ t,mg "FIGURES" = some (.str "0123456789" t)
 g_MOST_FIGURES:∃ t,mg "MOST_FIGURES" = some (.int 60 t)
 g_MOST_TIMES:∃ t,mg "MOST_TIMES" = some (.int 3 t)
 g_MOST_TERMS:∃ t,mg "MOST_TERMS" = some (.int 8 t)
 g_MOST_GAPS:∃ t,mg "MOST_GAPS" = some (.int 6 t)
structure Dds(K:W.Frag)(mg:Str->Option Value):Prop where
 d_law_cell_at:Dd K mg "_law_cell_at" s_law_cell_at ["script","k"]
 d_law_pen_of:Dd K mg "_law_pen_of" s_law_pen_of ["cell"]
 d_law_next:Dd K mg "_law_next" s_law_next ["seed"]
 d_law_draw:Dd K mg "_law_draw" s_law_draw ["pen","many"]
 d_law_names_of:Dd K mg "_law_names_of" s_law_names_of ["pen"]
 d_law_number:Dd K mg "_law_number" s_law_number ["pen"]
 d_law_span:Dd K mg "_law_span" s_law_span ["pen"]
 d_law_drawing_of:Dd K mg "_law_drawing_of" s_law_drawing_of ["pen","most"]
 d_law_ends_of:Dd K mg "_law_ends_of" s_law_ends_of ["drawing","terms"]
 d_law_gap_of:Dd K mg "_law_gap_of" s_law_gap_of ["pen","drawing"]
 d_law_gaps_of:Dd K mg "_law_gaps_of" s_law_gaps_of ["pen","drawing","most"]
 d_law_text_of:Dd K mg "_law_text_of" s_law_text_of ["drawing","gaps"]
 d_is_name:Dd K mg "is_name" s_is_name ["thing"]
 d_is_whole:Dd K mg "is_whole" s_is_whole ["thing"]
 d_is_number:Dd K mg "is_number" s_is_number ["thing"]
 d_are_ends:Dd K mg "are_ends" s_are_ends ["low","high"]
 d_is_part:Dd K mg "is_part" s_is_part ["thing"]
 d_drawing_of:Dd K mg "drawing_of" s_drawing_of ["things"]
 d_name_told:Dd K mg "name_told" s_name_told ["word"]
 d_number_told:Dd K mg "number_told" s_number_told ["word"]
 d_one_part_more:Dd K mg "one_part_more" s_one_part_more ["drawing","words"]
 d_part_called:Dd K mg "part_called" s_part_called ["drawing","name"]
 d_is_term:Dd K mg "is_term" s_is_term ["drawing","thing"]
 d_are_terms:Dd K mg "are_terms" s_are_terms ["drawing","thing"]
 d_is_gap:Dd K mg "is_gap" s_is_gap ["drawing","thing"]
 d_one_gap_more:Dd K mg "one_gap_more" s_one_gap_more ["drawing","gaps","words"]
 d_with_row:Dd K mg "with_row" s_with_row ["job","words"]
 d_read:Dd K mg "read" s_read ["text"]
 d_law_whole:Dd K mg "_law_whole" s_law_whole ["found"]
 d_law_alike:Dd K mg "_law_alike" s_law_alike ["found","due"]
 d_gap_row:Dd K mg "gap_row" s_gap_row ["drawing","gap"]
 d_shown:Dd K mg "shown" s_shown ["job"]
section
variable {P:Program} {w:World} {K:W.Frag} {mg:Str->Option Value} {base:Heap}
abbrev zeb (P:Program) (w:World) (K:W.Frag) (mg:Str->Option Value) (base:Heap):Prop:=Df P w K mg base "_law_pen_of" ["cell"] 1 (spN ["cell"] zb1)
abbrev zdK (P:Program) (w:World) (K:W.Frag) (mg:Str->Option Value) (base:Heap):Prop:=Df P w K mg base "_law_next" ["seed"] 1 (spN ["seed"] zch)
abbrev zaF (P:Program) (w:World) (K:W.Frag) (mg:Str->Option Value) (base:Heap):Prop:=Df P w K mg base "_law_draw" ["pen","many"] 2 (spN ["pen","many"] zy)
abbrev zbQ (P:Program) (w:World) (K:W.Frag) (mg:Str->Option Value) (base:Heap):Prop:=Df P w K mg base "_law_names_of" ["pen"] 3 (spN ["pen"] zaZ)
abbrev zcK (P:Program) (w:World) (K:W.Frag) (mg:Str->Option Value) (base:Heap):Prop:=Df P w K mg base "_law_number" ["pen"] 3 (spN ["pen"] zc5)
abbrev zdM (P:Program) (w:World) (K:W.Frag) (mg:Str->Option Value) (base:Heap):Prop:=Df P w K mg base "_law_span" ["pen"] 4 (spN ["pen"] zco)
abbrev zcl (P:Program) (w:World) (K:W.Frag) (mg:Str->Option Value) (base:Heap):Prop:=Df P w K mg base "_law_drawing_of" ["pen","most"] 5 (spN ["pen","most"] za0)
abbrev zcg (P:Program) (w:World) (K:W.Frag) (mg:Str->Option Value) (base:Heap):Prop:=Df P w K mg base "_law_ends_of" ["drawing","terms"] 1 (spN ["drawing","terms"] zbD)
abbrev zcz (P:Program) (w:World) (K:W.Frag) (mg:Str->Option Value) (base:Heap):Prop:=Df P w K mg base "_law_gap_of" ["pen","drawing"] 3 (spN ["pen","drawing"] zbq)
abbrev zdt (P:Program) (w:World) (K:W.Frag) (mg:Str->Option Value) (base:Heap):Prop:=Df P w K mg base "_law_gaps_of" ["pen","drawing","most"] 4 (spN ["pen","drawing","most"] zbb)
abbrev zdp (P:Program) (w:World) (K:W.Frag) (mg:Str->Option Value) (base:Heap):Prop:=Df P w K mg base "_law_text_of" ["drawing","gaps"] 1 (spN ["drawing","gaps"] zcr)
abbrev zc8 (P:Program) (w:World) (K:W.Frag) (mg:Str->Option Value) (base:Heap):Prop:=Df P w K mg base "is_name" ["thing"] 1 (spN ["thing"] zcV)
abbrev zcs (P:Program) (w:World) (K:W.Frag) (mg:Str->Option Value) (base:Heap):Prop:=Df P w K mg base "is_whole" ["thing"] 1 (spN ["thing"] zbJ)
abbrev zcU (P:Program) (w:World) (K:W.Frag) (mg:Str->Option Value) (base:Heap):Prop:=Df P w K mg base "is_number" ["thing"] 2 (spN ["thing"] zbM)
abbrev zcI (P:Program) (w:World) (K:W.Frag) (mg:Str->Option Value) (base:Heap):Prop:=Df P w K mg base "are_ends" ["low","high"] 3 (spN ["low","high"] zcq)
abbrev zef (P:Program) (w:World) (K:W.Frag) (mg:Str->Option Value) (base:Heap):Prop:=Df P w K mg base "is_part" ["thing"] 4 (spN ["thing"] zd0)
abbrev zcy (P:Program) (w:World) (K:W.Frag) (mg:Str->Option Value) (base:Heap):Prop:=Df P w K mg base "drawing_of" ["things"] 5 (spN ["things"] zb6)
abbrev zb5 (P:Program) (w:World) (K:W.Frag) (mg:Str->Option Value) (base:Heap):Prop:=Df P w K mg base "name_told" ["word"] 2 (spN ["word"] zbX)
abbrev zbj (P:Program) (w:World) (K:W.Frag) (mg:Str->Option Value) (base:Heap):Prop:=Df P w K mg base "number_told" ["word"] 1 (spN ["word"] zay)
abbrev zbv (P:Program) (w:World) (K:W.Frag) (mg:Str->Option Value) (base:Heap):Prop:=Df P w K mg base "one_part_more" ["drawing","words"] 6 (spN ["drawing","words"] za6)
abbrev zcf (P:Program) (w:World) (K:W.Frag) (mg:Str->Option Value) (base:Heap):Prop:=Df P w K mg base "part_called" ["drawing","name"] 1 (spN ["drawing","name"] zbC)
abbrev zeg (P:Program) (w:World) (K:W.Frag) (mg:Str->Option Value) (base:Heap):Prop:=Df P w K mg base "is_term" ["drawing","thing"] 2 (spN ["drawing","thing"] zed)
abbrev zc1 (P:Program) (w:World) (K:W.Frag) (mg:Str->Option Value) (base:Heap):Prop:=Df P w K mg base "are_terms" ["drawing","thing"] 3 (spN ["drawing","thing"] zcu)
abbrev zfr (P:Program) (w:World) (K:W.Frag) (mg:Str->Option Value) (base:Heap):Prop:=Df P w K mg base "is_gap" ["drawing","thing"] 4 (spN ["drawing","thing"] zeQ)
abbrev zbL (P:Program) (w:World) (K:W.Frag) (mg:Str->Option Value) (base:Heap):Prop:=Df P w K mg base "one_gap_more" ["drawing","gaps","words"] 5 (spN ["drawing","gaps","words"] zbg)
abbrev zdy (P:Program) (w:World) (K:W.Frag) (mg:Str->Option Value) (base:Heap):Prop:=Df P w K mg base "with_row" ["job","words"] 7 (spN ["job","words"] zbE)
abbrev zj8 (P:Program) (w:World) (K:W.Frag) (mg:Str->Option Value) (base:Heap):Prop:=Df P w K mg base "read" ["text"] 8 (spN ["text"] zhb)
abbrev zb7 (P:Program) (w:World) (K:W.Frag) (mg:Str->Option Value) (base:Heap):Prop:=Df P w K mg base "_law_whole" ["found"] 1 (spN ["found"] zcC)
abbrev zeA (P:Program) (w:World) (K:W.Frag) (mg:Str->Option Value) (base:Heap):Prop:=Df P w K mg base "_law_alike" ["found","due"] 162 (spN ["found","due"] zfA)
abbrev zeh (P:Program) (w:World) (K:W.Frag) (mg:Str->Option Value) (base:Heap):Prop:=Df P w K mg base "gap_row" ["drawing","gap"] 1 (spN ["drawing","gap"] zd5)
abbrev ziv (P:Program) (w:World) (K:W.Frag) (mg:Str->Option Value) (base:Heap):Prop:=Df P w K mg base "shown" ["job"] 2 (spN ["job"] zfF)
theorem zcL(T:Txt mg)(dd:Dds K mg):Df P w K mg base "_law_cell_at" ["script","k"] 1 (sp2 (zoD K)):=by
 refine Df.of2 dd.d_law_cell_at zfI (fun v u=>[some v,some u]) (fun _ _=>rfl) fun f cdv A outer s H v u Q E hr h=>?_;obtain⟨a,ns,i,rfl,rfl,hS,h0,q⟩:=h;refine⟨_,(zk (zaD (zV zjp (pv 1) (zx zlJ (by rfl) T.n_len za5 (zc (pv 0) zf)) (nomark _)) (zq (zG (zT zli (pv 0) (pv 1) (fun _ _=>rfl)))) zI) (zq (zG zj))),?_⟩;simp only [zgI,zrb,zln,tOp,zmt,tCB,zjh,zo3,zrG,tC,znT,zjT,getElem?_cons_zero,getElem?_cons_succ];refine⟨a,_,rfl,.inl hS,?_⟩;simp only [zjT,zrB,decide_eq_true_eq];refine ite2 (fun hi=>?_) (fun _=>q 0);obtain⟨n,e⟩:=zoz h0 hi;exact⟨a,_,i,_,rfl,rfl,hS,e,q n⟩
theorem zcY(T:Txt mg)(dd:Dds K mg):zeb P w K mg base:=by
 exact Df.dN dd.d_law_pen_of zd7 1 rfl fun f cdv A outer s H E hr=>⟨_,_,(zk (zO (i:=1) zd7.nd rfl (Or.inl rfl) (zx (zlK rfl) (by rfl) T.n_max znc (zc (pv 0) (zc (zN zf0 zj (pv 0)) zf)))) (zq (zG (zbS (zc (pv 1) (zc (zam zj5 (by rfl) T.n_int ziz (zc (zdJ zrv (pv 1) (zN zf7 zj zj) (nomark _)) zf)) (zc (zN zea (pv 1) zj) zf))))))),(zt (zC (zaa zrJ (za zd (za (zo zhR zi zd) zg))) zm) (zM (zdI (za zd (za (zaa zoT (za (zo zcn zd (zo zgK zi zi)) zg)) (za (zo zgK zd zi) zg)))))),fun xs S R q=>q⟩
theorem zbI(T:Txt mg)(dd:Dds K mg):zdK P w K mg base:=by
 exact Df.dN dd.d_law_next ze1 0 rfl fun f cdv A outer s H E hr=>⟨_,_,(zk (zO (i:=0) ze1.nd rfl (Or.inl rfl) (zN zea (zN zS (pv 0) zj) zj)) (zq (zG (zN zea (zN zS (zN zS (zN zcd (pv 0) (pv 0)) (zN zcd zj (pv 0))) zj) zj)))),(zt (zC (zo zgK (zo zal zd zi) zi) zm) (zM (zo zgK (zo zal (zo zal (zo zdj zd zd) (zo zdj zi zd)) zi) zi))),fun xs S R q=>q⟩
theorem zv(T:Txt mg)(dd:Dds K mg)(zbI:zdK P w K mg base):zaF P w K mg base:=by
 exact Df.dN dd.d_law_draw zfe 1 rfl fun f cdv A outer s H E hr=>⟨_,_,(zk (zaD (zV (zbO hr.units) (zT zB (pv 0) zj (fun _ _=>rfl)) zj (nomark _)) (zk (zO (i:=2) zfe.nd rfl (Or.inl rfl) (zN zea (zT zB (pv 0) zj (fun _ _=>rfl)) (pv 1))) (zk (ziF (zN zhy (zT zB (pv 0) zj (fun _ _=>rfl)) (pv 1)) (zk2 (pv 0) zj zgy)) (zq (zG (pv 2))))) zI) (zk (ziF (zA zbI hr dz (zc (zN zS (zA zbI hr dz (zc (zT zB (pv 0) zj (fun _ _=>rfl)) zf)) zj) zf)) (zk2 (pv 0) zj zgy)) (zq (zG (zN zea (zN zhy (zT zB (pv 0) zj (fun _ _=>rfl)) zj) (pv 1)))))),(zt (zaP (zdo (zo zbT (zo zU zd zi) zi)) (zt (zC (zo zgK (zo zU zd zi) zd) zm) (zt (zC (zo zkF (zo zU zd zi) zd) (zkm zd zi)) (zM zd))) zK) (zt (zC (zJ (za (zo zal (zJ (za (zo zU zd zi) zg)) zi) zg)) (zkm zd zi)) (zM (zo zgK (zo zkF (zo zU zd zi) zi) zd)))),fun xs S R q=>q⟩
theorem zaX(T:Txt mg)(dd:Dds K mg)(zv:zaF P w K mg base):zbQ P w K mg base:=by
 exact Df.dN dd.d_law_names_of zR 6 rfl fun f cdv A outer s H E hr=>⟨_,_,(zk (zO (i:=1) zR.nd rfl (Or.inr rfl) zan) (zk (zO (i:=2) zR.nd rfl (Or.inl rfl) (zA zv hr dz (zc (pv 0) (zc zj zf)))) (zk (zO (i:=3) zR.nd rfl (Or.inr rfl) (zA zv hr dz (zc (pv 0) (zc zj zf)))) (zk (zcx (i:=4) (fun _ _ h=>h) rfl (zap rfl rfl rfl rfl (N:=["k","letters","first"]) (caps:=[none,some 1,some 3]) (by show zby ["pen","letters","way","first","names","word","at"] (zn s_law_names_of).names _ _ _=true; decide +kernel)) zR.nd rfl rfl (zbG rfl T.n_range (zc zj zf)) (fun _ _ _ _=>(zE (i:=0) (by show List.Nodup (["k","letters","first"]:List Str); decide) rfl (Or.inl rfl))) (fun _ _ _ _=>zbc) (fun _ _ _ _=>(zN zcd (zT zB (pv 1) (zN zea (zN zS (pv 2) (zN zcd zj (pv 0))) zj) (fun _ _=>rfl)) (zN zS zj (zN zea (zN zS (pv 2) (zN zcd zj (pv 0))) zj))))) (zk (zaD (zV (zbO hr.units) (pv 2) zj (nomark _)) (zk (zO (i:=5) zR.nd rfl (Or.inr rfl) (zdF PySem.F.plainAttrs_str PySem.F.slot_str_join PySem.F.type_str_join zfb zan (zc (zfB (fun _ _ h=>h) rfl (zap rfl rfl rfl rfl (N:=["k","letters","first"]) (caps:=[none,some 1,some 3]) (by show zby ["pen","letters","way","first","names","word","at"] (zn s_law_names_of).names _ _ _=true; decide +kernel)) (zbG rfl T.n_range (zc zj zf)) (fun _ _ _ _=>(zE (i:=0) (by show List.Nodup (["k","letters","first"]:List Str); decide) rfl (Or.inl rfl))) (fun _ _ _ _=>zbc) (fun _ _ _ _=>(zT zB (pv 1) (zN zea (zN zS (pv 2) (zN zcd zj (pv 0))) zj) (fun _ _=>rfl)))) zf))) (zq (zcx (i:=4) (fun _ _ h=>h) rfl (zap rfl rfl rfl rfl (N:=["k","word"]) (caps:=[none,some 5]) (by show zby ["pen","letters","way","first","names","word","at"] (zn s_law_names_of).names _ _ _=true; decide +kernel)) zR.nd rfl rfl (zbG rfl T.n_range (zc zj zf)) (fun _ _ _ _=>(zE (i:=0) (by show List.Nodup (["k","word"]:List Str); decide) rfl (Or.inl rfl))) (fun _ _ _ _=>zbc) (fun _ _ _ _=>(zde zgV (pv 1) zgz (zc4 (zN zS (pv 0) zj))))))) zI) (zk (zaD (zV (zbO hr.units) (pv 2) zj (nomark _)) (zq (zO (i:=4) zR.nd rfl (Or.inl rfl) (zbS (zc zan (zc zan (zc zan (zc zan (zc zan (zc zan (zc zan (zc zan zf))))))))))) zI) (zk (zO (i:=6) zR.nd rfl (Or.inl rfl) (zA zv hr dz (zc (pv 0) (zc zj zf)))) (zk (zO (i:=4) zR.nd rfl (Or.inl rfl) (zN zlm (zde zgV (pv 4) (zc4 (pv 6)) zgz) (zde zgV (pv 4) zgz (zc4 (pv 6))))) (zk (zaD (zV (zbO hr.units) (zA zv hr dz (zc (pv 0) (zc zj zf))) zj (nomark _)) (zq (zdL (zqZ PySem.F.plainAttrs_list PySem.F.slot_list_reverse PySem.F.type_list_reverse zi5 (pv 4)))) zI) (zq (zG (pv 4)))))))))))),(zt (zC zaj zm) (zt (zC (zP (i:=0) (za zd (za zi zg))) zm) (zt (zC (zP (i:=0) (za zd (za zi zg))) zm) (zt (zC (zeW (zdb (za zi zg)) zm za9 (zo zdj (zo zU zd (zo zgK (zo zal zd (zo zdj zi zd)) zi)) (zo zal zi (zo zgK (zo zal zd (zo zdj zi zd)) zi)))) zm) (zt (zaP (zdo (zo zbT zd zi)) (zt (zC (zex zd8 zaj (za (zb8 (zdb (za zi zg)) zm za9 (zo zU zd (zo zgK (zo zal zd (zo zdj zi zd)) zi))) zg)) zm) (zC (zeW (zdb (za zi zg)) zm za9 (zkz zhF zd zgs (zet (zo zal zd zi)))) zm)) zK) (zt (zaP (zdo (zo zbT zd zi)) (zC (zdI (za zaj (za zaj (za zaj (za zaj (za zaj (za zaj (za zaj (za zaj zg))))))))) zm) zK) (zt (zC (zP (i:=0) (za zd (za zi zg))) zm) (zt (zC (zo znZ (zkz zhF zd (zet zd) zgs) (zkz zhF zd zgs (zet zd))) zm) (zt (zaP (zdo (zo zbT (zP (i:=0) (za zd (za zi zg))) zi)) (zdG (zp6 zja zd)) zK) (zM zd)))))))))),fun xs S R q=>q⟩
theorem zbp(T:Txt mg)(dd:Dds K mg)(zv:zaF P w K mg base):zcK P w K mg base:=by
 exact Df.dN dd.d_law_number zdN 1 rfl fun f cdv A outer s H E hr=>⟨_,_,(zk (zO (i:=1) zdN.nd rfl (Or.inl rfl) (zA zv hr dz (zc (pv 0) (zc zj zf)))) (zk (zaD (zV zjp (pv 1) zj (nomark _)) (zq (zG (zN zf0 (zA zv hr dz (zc (pv 0) (zc zj zf))) zj))) zI) (zk (zaD (zV zjp (pv 1) zj (nomark _)) (zq (zG (zN zf0 (zA zv hr dz (zc (pv 0) (zc zj zf))) zj))) zI) (zq (zG (zN zcd (zN zf0 (zA zv hr dz (zc (pv 0) (zc (zN zcd zj (zN zf7 zj zj)) zf))) (zN zf7 zj zj)) (zN zf7 zj zj))))))),(zt (zC (zP (i:=0) (za zd (za zi zg))) zm) (zt (zaP (zdo (zo zcn zd zi)) (zM (zo zhR (zP (i:=0) (za zd (za zi zg))) zi)) zK) (zt (zaP (zdo (zo zcn zd zi)) (zM (zo zhR (zP (i:=0) (za zd (za zi zg))) zi)) zK) (zM (zo zdj (zo zhR (zP (i:=0) (za zd (za (zo zdj zi (zo zgK zi zi)) zg))) (zo zgK zi zi)) (zo zgK zi zi)))))),fun xs S R q=>q⟩
theorem zcp(T:Txt mg)(dd:Dds K mg)(zbp:zcK P w K mg base)(zv:zaF P w K mg base):zdM P w K mg base:=by
 exact Df.dN dd.d_law_span zcA 2 rfl fun f cdv A outer s H E hr=>⟨_,_,(zk (zO (i:=1) zcA.nd rfl (Or.inl rfl) (zA zbp hr dz (zc (pv 0) zf))) (zk (zO (i:=2) zcA.nd rfl (Or.inl rfl) (zA zv hr dz (zc (pv 0) (zc zj zf)))) (zk (zaD (zV (zbO hr.units) (zA zv hr dz (zc (pv 0) (zc zj zf))) zj (nomark _)) (zq (zO (i:=2) zcA.nd rfl (Or.inl rfl) (zA zv hr dz (zc (pv 0) (zc (zN zf7 zj zj) zf))))) zI) (zq (zG (zbm (zc (pv 1) (zc (zN zS (pv 1) (pv 2)) zf)))))))),(zt (zC (zP (i:=0) (za zd zg)) zm) (zt (zC (zP (i:=0) (za zd (za zi zg))) zm) (zt (zaP (zdo (zo zbT (zP (i:=0) (za zd (za zi zg))) zi)) (zC (zP (i:=0) (za zd (za (zo zgK zi zi) zg))) zm) zK) (zM (zbs (za zd (za (zo zal zd zd) zg))))))),fun xs S R q=>q⟩
theorem zbt(T:Txt mg)(dd:Dds K mg)(zaX:zbQ P w K mg base)(zv:zaF P w K mg base)(zcp:zdM P w K mg base):zcl P w K mg base:=by
 exact Df.dN dd.d_law_drawing_of zaM 3 rfl fun f cdv A outer s H E hr=>⟨_,_,(zk (zO (i:=2) zaM.nd rfl (Or.inl rfl) (zA zaX hr dz (zc (pv 0) zf))) (zk (zO (i:=3) zaM.nd rfl (Or.inl rfl) (zbS zf)) (zk (zc7 PassesOwn.never rfl (zbG rfl T.n_range (zc (zN zS zj (zA zv hr dz (zc (pv 0) (zc (pv 1) zf)))) zf)) (zE (i:=4) zaM.nd rfl (Or.inl rfl)) (zq (zdL (zdF PySem.F.plainAttrs_list PySem.F.slot_list_append PySem.F.type_list_append zcZ (pv 3) (zc (zN zS (zbm (zc (zT zB (pv 2) (pv 4) (fun _ _=>rfl)) zf)) (zA zcp hr dz (zc (pv 0) zf))) zf))))) (zq (zG (zam zbA (by rfl) T.n_tuple zbh (zc (pv 3) zf))))))),(zt (zC (zP (i:=0) (za zd zg)) zm) (zt (zC (zdI zg) zm) (zt (zdQ (zdb (za (zo zal zi (zP (i:=0) (za zd (za zd zg)))) zg)) zm (zdG (zjc zd3 zd (za (zo zal (zbs (za (zo zU zd zd) zg)) (zP (i:=0) (za zd zg))) zg)))) (zM (zaa zeX (za zd zg)))))),fun xs S R q=>q⟩
theorem zbd(T:Txt mg)(dd:Dds K mg):zcg P w K mg base:=by
 exact Df.dN dd.d_law_ends_of zak 5 rfl fun f cdv A outer s H E hr=>⟨_,_,(zk (zO (i:=2) zak.nd rfl (Or.inl rfl) zj) (zk (zO (i:=3) zak.nd rfl (Or.inl rfl) zj) (zk (zc7 PassesOwn.never rfl (zci (pv 1)) (zdn (n:=2) rfl (zW (zE (i:=4) zak.nd rfl (Or.inl rfl)) (zW (zE (i:=5) zak.nd rfl (Or.inl rfl)) zb9))) (zk (zO (i:=6) zak.nd rfl (Or.inl rfl) (zbS (zc (zN zcd (pv 5) (zT zB (zT zB (pv 0) (pv 4) (fun _ _=>rfl)) zj (fun _ _=>rfl))) (zc (zN zcd (pv 5) (zT zB (zT zB (pv 0) (pv 4) (fun _ _=>rfl)) zj (fun _ _=>rfl))) zf)))) (zk (zO (i:=2) zak.nd rfl (Or.inl rfl) (zN zS (pv 2) (zx (zlC rfl hr.units) (by rfl) T.n_min zpm (zc (pv 6) zf)))) (zq (zO (i:=3) zak.nd rfl (Or.inl rfl) (zN zS (pv 3) (zx (zlv rfl) (by rfl) T.n_max znc (zc (pv 6) zf)))))))) (zq (zG (zbm (zc (pv 2) (zc (pv 3) zf)))))))),(zt (zC zi zm) (zt (zC zi zm) (zt (zdQ (zcm zd) (zdv (zX zm (zX zm zca))) (zt (zC (zeD (za (zo zdj zd (zo zU (zo zU zd zd) zi)) (za (zo zdj zd (zo zU (zo zU zd zd) zi)) zg))) zm) (zt (zC (zo zal zd (zaa zoJ (za zd zg))) zm) (zC (zo zal zd (zaa zqJ (za zd zg))) zm)))) (zM (zbs (za zd (za zd zg))))))),fun xs S R q=>q⟩
theorem zbn(T:Txt mg)(dd:Dds K mg)(zv:zaF P w K mg base)(zbd:zcg P w K mg base):zcz P w K mg base:=by
 exact Df.dN dd.d_law_gap_of zac 8 rfl fun f cdv A outer s H E hr=>⟨_,_,(zk (zO (i:=2) zac.nd rfl (Or.inl rfl) (zbS zf)) (zk (zc7 PassesOwn.never rfl (zbG rfl T.n_range (zc (zx zZ (by rfl) T.n_len za5 (zc (pv 1) zf)) zf)) (zE (i:=3) zac.nd rfl (Or.inl rfl)) (zk (zO (i:=4) zac.nd rfl (Or.inl rfl) (zN zf0 (zA zv hr dz (zc (pv 0) (zc zj zf))) zj)) (zq (zaD (zV (zgS hr.units) (pv 4) (zbm (zc (zjl zf2 zj) (zc zj (zc zj zf)))) (by rfl)) (zq (zdL (zdF PySem.F.plainAttrs_list PySem.F.slot_list_append PySem.F.type_list_append zcZ (pv 2) (zc (zbm (zc (pv 3) (zc (pv 4) zf))) zf)))) zI)))) (zk (zaD (zV (zbO hr.units) (pv 2) (zbS zf) (nomark _)) (zq (zO (i:=2) zac.nd rfl (Or.inl rfl) (zbS (zc (zbm (zc (zA zv hr dz (zc (pv 0) (zc (zx zZ (by rfl) T.n_len za5 (zc (pv 1) zf)) zf))) (zc (zT zB (zbS (zc zj (zc (zjl zf2 zj) (zc zj (zc (zjl zf2 zj) zf))))) (zA zv hr dz (zc (pv 0) (zc zj zf))) (fun _ _=>rfl)) zf))) zf)))) zI) (zk (ziF (zA zbd hr dz (zc (pv 1) (zc (pv 2) zf))) (zdn (n:=2) rfl (zW (zE (i:=5) zac.nd rfl (Or.inl rfl)) (zW (zE (i:=6) zac.nd rfl (Or.inl rfl)) zb9)))) (zk (zO (i:=7) zac.nd rfl (Or.inl rfl) (zN zf0 (pv 6) (pv 5))) (zk (zO (i:=8) zac.nd rfl (Or.inl rfl) (zN zS (pv 5) (zT zB (zkW (zbu zj (zbu zj (zbu (zjl zf2 zj) (zbu (zN zhy (pv 7) zj) (zbu (zN zhy (pv 7) zj) (zbu (zN zS (pv 7) zj) zmV))))))) (zA zv hr dz (zc (pv 0) (zc zj zf))) (fun _ _=>rfl)))) (zk (zO (i:=9) zac.nd rfl (Or.inl rfl) (zN zS (pv 8) (zT zB (zkW (zbu zj (zbu zj (zbu zj (zbu (zN zhy (pv 7) zj) (zbu (pv 7) (zbu (zN zS (pv 7) zj) zmV))))))) (zA zv hr dz (zc (pv 0) (zc zj zf))) (fun _ _=>rfl)))) (zq (zG (zbm (zc (zam zbA (by rfl) T.n_tuple zbh (zc (pv 2) zf)) (zc (pv 8) (zc (pv 9) zf))))))))))))),(zt (zC (zdI zg) zm) (zt (zdQ (zdb (za (zaa zaA (za zd zg)) zg)) zm (zt (zC (zo zhR (zP (i:=0) (za zd (za zi zg))) zi) zm) (zaP (zdo (zo ziP zd (zbs (za (zjd zo4 zi) (za zi (za zi zg)))))) (zdG (zjc zd3 zd (za (zbs (za zd (za zd zg))) zg))) zK))) (zt (zaP (zdo (zo zbT zd (zeD zg))) (zC (zdI (za (zbs (za (zP (i:=0) (za zd (za (zaa zaA (za zd zg)) zg))) (za (zo zU (zeD (za zi (za (zjd zo4 zi) (za zi (za (zjd zo4 zi) zg))))) (zP (i:=0) (za zd (za zi zg)))) zg))) zg)) zm) zK) (zt (zC (zmA (za zd (za zd zg))) (zdv (zX zm (zX zm zca)))) (zt (zC (zo zhR zd zd) zm) (zt (zC (zo zal zd (zo zU (zeD (za zi (za zi (za (zjd zo4 zi) (za (zo zkF zd zi) (za (zo zkF zd zi) (za (zo zal zd zi) zg))))))) (zP (i:=0) (za zd (za zi zg))))) zm) (zt (zC (zo zal zd (zo zU (zeD (za zi (za zi (za zi (za (zo zkF zd zi) (za zd (za (zo zal zd zi) zg))))))) (zP (i:=0) (za zd (za zi zg))))) zm) (zM (zbs (za (zaa zeX (za zd zg)) (za zd (za zd zg)))))))))))),fun xs S R q=>q⟩
theorem zcD(T:Txt mg)(dd:Dds K mg)(zv:zaF P w K mg base)(zbn:zcz P w K mg base):zdt P w K mg base:=by
 exact Df.dN dd.d_law_gaps_of zds 1 rfl fun f cdv A outer s H E hr=>⟨_,_,(zk (zcx (i:=3) (fun _ _ h=>h) rfl (zap rfl rfl rfl rfl (N:=["k","pen","drawing"]) (caps:=[none,some 0,some 1]) (by show zby ["pen","drawing","most","gaps"] (zn s_law_gaps_of).names _ _ _=true; decide +kernel)) zds.nd rfl rfl (zbG rfl T.n_range (zc (zN zS zj (zA zv hr dz (zc (pv 0) (zc (pv 2) zf)))) zf)) (fun _ _ _ _=>(zE (i:=0) (by show List.Nodup (["k","pen","drawing"]:List Str); decide) rfl (Or.inl rfl))) (fun _ _ _ _=>zbc) (fun _ _ _ _=>(zA zbn hr dz (zc (pv 1) (zc (pv 2) zf))))) (zk (zaD (PW.pt (zk5 (zV (zbO hr.units) (zA zv hr dz (zc (pv 0) (zc zj zf))) zj (nomark _)) (zhX (zV zrs (zx zZ (by rfl) T.n_len za5 (zc (pv 3) zf)) zj (nomark _))))) (zq (ziF (zbm (zc (zT zB (zT zB (pv 3) zj (fun _ _=>rfl)) zj (fun _ _=>rfl)) (zc (zN zS (zT zB (zT zB (pv 3) zj (fun _ _=>rfl)) zj (fun _ _=>rfl)) zj) (zc (zN zS (zN zS (zT zB (zT zB (pv 3) zj (fun _ _=>rfl)) zj (fun _ _=>rfl)) zj) (zA zv hr dz (zc (pv 0) (zc zj zf)))) zf)))) (zk2 (pv 3) (zjl zf2 zj) zgy))) zI) (zq (zG (zam zbA (by rfl) T.n_tuple zbh (zc (pv 3) zf)))))),(zt (zC (zeW (zdb (za (zo zal zi (zP (i:=0) (za zd (za zd zg)))) zg)) zm za9 (zP (i:=0) (za zd (za zd zg)))) zm) (zt (zaP (zkd (zdo (zo zbT (zP (i:=0) (za zd (za zi zg))) zi)) (zdo (zo zcn (zaa zaA (za zd zg)) zi))) (zC (zbs (za (zo zU (zo zU zd zi) zi) (za (zo zal (zo zU (zo zU zd zi) zi) zi) (za (zo zal (zo zal (zo zU (zo zU zd zi) zi) zi) (zP (i:=0) (za zd (za zi zg)))) zg)))) (zkm zd (zjd zo4 zi))) zK) (zM (zaa zeX (za zd zg))))),fun xs S R q=>q⟩
theorem zcF(T:Txt mg)(dd:Dds K mg):zdp P w K mg base:=by
 exact Df.dN dd.d_law_text_of zL 8 rfl fun f cdv A outer s H E hr=>⟨_,_,(zk (zO (i:=2) zL.nd rfl (Or.inl rfl) (zbS zf)) (zk (zc7 PassesOwn.never rfl (zci (pv 0)) (zdn (n:=3) rfl (zW (zE (i:=3) zL.nd rfl (Or.inl rfl)) (zW (zE (i:=4) zL.nd rfl (Or.inl rfl)) (zW (zE (i:=5) zL.nd rfl (Or.inl rfl)) zb9)))) (zq (zdL (zdF PySem.F.plainAttrs_list PySem.F.slot_list_append PySem.F.type_list_append zcZ (pv 2) (zc (zdF PySem.F.plainAttrs_str PySem.F.slot_str_join PySem.F.type_str_join zfb zan (zc (zbS (zc zan (zc (pv 3) (zc (zam zav (by rfl) T.n_str zcP (zc (pv 4) zf)) (zc (zam zav (by rfl) T.n_str zcP (zc (pv 5) zf)) zf))))) zf)) zf))))) (zk (zc7 PassesOwn.never rfl (zci (pv 1)) (zdn (n:=3) rfl (zW (zE (i:=6) zL.nd rfl (Or.inl rfl)) (zW (zE (i:=4) zL.nd rfl (Or.inl rfl)) (zW (zE (i:=5) zL.nd rfl (Or.inl rfl)) zb9)))) (zk (zO (i:=7) zL.nd rfl (Or.inl rfl) (zN zS (zN zS (zN zS zan (zam zav (by rfl) T.n_str zcP (zc (pv 4) zf))) zan) (zam zav (by rfl) T.n_str zcP (zc (pv 5) zf)))) (zk (zc7 PassesOwn.never rfl (zci (pv 6)) (zdn (n:=2) rfl (zW (zE (i:=8) zL.nd rfl (Or.inl rfl)) (zW (zE (i:=9) zL.nd rfl (Or.inl rfl)) zb9))) (zq (zO (i:=7) zL.nd rfl (Or.inl rfl) (zN zS (zN zS (zN zS (zN zS (pv 7) zan) (zam zav (by rfl) T.n_str zcP (zc (pv 9) zf))) zan) (zT zB (zT zB (pv 0) (pv 8) (fun _ _=>rfl)) zj (fun _ _=>rfl)))))) (zq (zdL (zdF PySem.F.plainAttrs_list PySem.F.slot_list_append PySem.F.type_list_append zcZ (pv 2) (zc (pv 7) zf))))))) (zq (zG (zdF PySem.F.plainAttrs_str PySem.F.slot_str_join PySem.F.type_str_join zfb zan (zc (pv 2) zf))))))),(zp4 (zt (zk1 (zt (zC (zdI zg) zm) (zt (zdQ (zcm zd) (zdv (zX zm (zX zm (zX zm zca)))) (zdG (zjc zd3 zd (za (zex zd8 zaj (za (zeD (za zaj (za zd (za (zaa zeC (za zd zg)) (za (zaa zeC (za zd zg)) zg))))) zg)) zg)))) (zdQ (zcm zd) (zdv (zX zm (zX zm (zX zm zca)))) (zt (zC (zo zal (zo zal (zo zal zaj (zaa zeC (za zd zg))) zaj) (zaa zeC (za zd zg))) zm) (zt (zdQ (zcm zd) (zdv (zX zm (zX zm zca))) (zC (zo zal (zo zal (zo zal (zo zal zd zaj) (zaa zeC (za zd zg))) zaj) (zo zU (zo zU zd zd) zi)) zm)) (zdG (zjc zd3 zd (za zd zg))))))))) (zM (zex zd8 zaj (za zd zg))))),fun xs S R q=>q⟩
theorem zbr(T:Txt mg)(dd:Dds K mg):zc8 P w K mg base:=by
 exact Df.dN dd.d_is_name zjH 0 rfl fun f cdv A outer s H E hr=>⟨_,_,(zk (zaD (PW.pt (zdR (zaU (zag (zx zaC (by rfl) T.n_isinstance zH (zc (pv 0) (zc (za4 rfl T.n_str zcP (v:=.ty "str") rfl) zf))) (fun _=>rfl))) (zcj (zaU (zeY zej zej zj (zx zZ (by rfl) T.n_len za5 (zc (pv 0) zf)) (zcE rfl T.g_LONGEST_NAME)))))) (zq (zG zeM)) zI) (zq (zG (zx (zfG rfl) (by rfl) T.n_all zjX (zc (zfB (fun _ _ h=>h) rfl (zap (L:=0) rfl rfl rfl rfl (N:=["sign"]) (caps:=[none]) (by show zby ["thing"] (zn s_is_name).names _ _ _=true; decide +kernel)) (zmQ (pv 0)) (fun _ _ _ _=>(zE (i:=0) (by show List.Nodup (["sign"]:List Str); decide) rfl (Or.inl rfl))) (fun _ _ _ _=>zbc) (fun _ _ _ _=>(zdJ (zmO hr.units) (pv 0) (zie rfl T.g_LETTERS) (by rfl)))) zf))))),(zt (zaP (zel (zaW (za2 (zaa zb0 (za zd (za ziQ zg))))) (zaW (zdo (zc9 zcn zcn zi (zaa zaA (za zd zg)) zi)))) (zM ze9) zK) (zM (zaa zkV (za (zb8 (zmU zd) zm za9 (zo zqQ zd zaj)) zg)))),fun xs S R q=>q⟩
theorem zaK(T:Txt mg)(dd:Dds K mg):zcs P w K mg base:=by
 exact Df.dN dd.d_is_whole zh0 0 rfl fun f cdv A outer s H E hr=>⟨_,_,(zq (zG (zdr (zx zaC (by rfl) T.n_isinstance zH (zc (pv 0) (zc (za4 rfl T.n_int ziz (v:=.ty "int") rfl) zf))) (zee (zm5 (zx zaC (by rfl) T.n_isinstance zH (zc (pv 0) (zc (za4 rfl T.n_bool zll (v:=.ty "bool") rfl) zf)))))))),(zM (zdu (zaa zb0 (za zd (za ziQ zg))) (znP (zaa zb0 (za zd (za ziQ zg)))))),fun xs S R q=>q⟩
theorem zbe(T:Txt mg)(dd:Dds K mg)(zaK:zcs P w K mg base):zcU P w K mg base:=by
 exact Df.dN dd.d_is_number zg7 0 rfl fun f cdv A outer s H E hr=>⟨_,_,(zq (zG (zdr (zA zaK hr dz (zc (pv 0) zf)) (zee (zdJ zjp (zx zij (by rfl) T.n_abs zmS (zc (pv 0) zf)) (zN zf7 zj zj) (nomark _)))))),(zM (zdu (zJ (za zd zg)) (zo zcn (zaa znJ (za zd zg)) (zo zgK zi zi)))),fun xs S R q=>q⟩
theorem za3(T:Txt mg)(dd:Dds K mg)(zbe:zcU P w K mg base):zcI P w K mg base:=by
 exact Df.dN dd.d_are_ends zhV 0 rfl fun f cdv A outer s H E hr=>⟨_,_,(zq (zG (zdr (zA zbe hr dz (zc (pv 0) zf)) (zdr (zA zbe hr dz (zc (pv 1) zf)) (zee (zdJ zej (pv 0) (pv 1) (nomark _))))))),(zM (zdu (zJ (za zd zg)) (zdu (zJ (za zd zg)) (zo zcn zd zd)))),fun xs S R q=>q⟩
theorem zcT(T:Txt mg)(dd:Dds K mg)(za3:zcI P w K mg base)(zbr:zc8 P w K mg base):zef P w K mg base:=by
 exact Df.dN dd.d_is_part zjv 0 rfl fun f cdv A outer s H E hr=>⟨_,_,(zk (zaD (PW.pt (zdR (zaU (zag (zx zaC (by rfl) T.n_isinstance zH (zc (pv 0) (zc (za4 rfl T.n_tuple zbh (v:=.ty "tuple") rfl) zf))) (fun _=>rfl))) (zcj (zV (zfp hr.units) (zx zZ (by rfl) T.n_len za5 (zc (pv 0) zf)) zj (nomark _))))) (zq (zG zeM)) zI) (zq (zG (zdr (zA zbr hr dz (zc (zT zB (pv 0) zj (fun _ _=>rfl)) zf)) (zee (zA za3 hr dz (zc (zT zB (pv 0) zj (fun _ _=>rfl)) (zc (zT zB (pv 0) zj (fun _ _=>rfl)) zf)))))))),(zt (zaP (zel (zaW (za2 (zaa zb0 (za zd (za ziQ zg))))) (zdo (zo zfq (zaa zaA (za zd zg)) zi))) (zM ze9) zK) (zM (zdu (zJ (za (zo zU zd zi) zg)) (zJ (za (zo zU zd zi) (za (zo zU zd zi) zg)))))),fun xs S R q=>q⟩
theorem zbl(T:Txt mg)(dd:Dds K mg)(zcT:zef P w K mg base):zcy P w K mg base:=by
 exact Df.dN dd.d_drawing_of zbB 3 rfl fun f cdv A outer s H E hr=>⟨_,_,(zk (zO (i:=1) zbB.nd rfl (Or.inl rfl) zmo) (zk (zc7 PassesOwn.never rfl (zml rfl T.n_enumerate (zc (pv 0) zf)) (zdn (n:=2) rfl (zW (zE (i:=2) zbB.nd rfl (Or.inl rfl)) (zW (zE (i:=3) zbB.nd rfl (Or.inl rfl)) zb9))) (zk (zaD (PW.pt (zdR (zaU (zag (zA zcT hr dz (zc (pv 3) zf)) (fun _=>rfl))) (zcj (zV (zpi hr.units) (zT zB (pv 3) zj (fun _ _=>rfl)) (pv 1) (by rfl))))) (zq zaO) zI) (zq (zoa (zrL hr) (pv 1) (zT zB (pv 3) zj (fun _ _=>rfl)) zeM rfl)))) (zk (zaD (zaU (zeY zej zej zj (zx zZ (by rfl) T.n_len za5 (zc (pv 0) zf)) (zcE rfl T.g_MOST_PARTS))) (zq zaO) zI) (zq (zG (zam zbA (by rfl) T.n_tuple zbh (zc (pv 0) zf))))))),(zoA (zoE (zor (zqN (fun M=>zoM (zmg (za zd zg))) (zdv (zX zm (zX zm zca))) (zpU (zrD (fun M=>(zrh (zoV (zaW (za2 (zJ (za zd zg))))) (zss (zqv zqp (zgj (zo zU zd zi)) (zgj zd))))) (zkA zaL) (zkA zK)) (zqh (fun M=>(zgj (zo zU zd zi))) (fun M=>(zgj ze9))))))) (zt (zaP (zaW (zdo (zc9 zcn zcn zi (zaa zaA (za zd zg)) zi))) zaL zK) (zM (zaa zeX (za zd zg))))),fun xs S R q=>q⟩
theorem zaH(T:Txt mg)(dd:Dds K mg)(zbr:zc8 P w K mg base):zb5 P w K mg base:=by
 exact Df.dN dd.d_name_told zhd 0 rfl fun f cdv A outer s H E hr=>⟨_,_,(zk (zaD (zaU (zag (zA zbr hr dz (zc (pv 0) zf)) (fun _=>rfl))) (zq zaO) zI) (zq (zG (pv 0)))),(zt (zaP (zaW (za2 (zJ (za zd zg)))) zaL zK) (zM zd)),fun xs S R q=>q⟩
theorem zad(T:Txt mg)(dd:Dds K mg):zbj P w K mg base:=by
 exact Df.dN dd.d_number_told zdm 1 rfl fun f cdv A outer s H E hr=>⟨_,_,(zk (zO (i:=1) zdm.nd rfl (Or.inl rfl) (zma (zag (zdF PySem.F.plainAttrs_str PySem.F.slot_str_startswith PySem.F.type_str_startswith zjW (pv 0) (zc zan zf)) (fun _=>rfl)) (zde zgV (pv 0) (zc4 zj) zgz) (pv 0))) (zk (zaD (PW.pt (zdR (zaU (zeY zej zej zj (zx zZ (by rfl) T.n_len za5 (zc (pv 1) zf)) (zcE rfl T.g_MOST_FIGURES))) (zcj (zaU (zag (zx (zfG rfl) (by rfl) T.n_all zjX (zc (zfB (fun _ _ h=>h) rfl (zap (L:=0) rfl rfl rfl rfl (N:=["figure"]) (caps:=[none]) (by show zby ["word","figures"] (zn s_number_told).names _ _ _=true; decide +kernel)) (zmQ (pv 1)) (fun _ _ _ _=>(zE (i:=0) (by show List.Nodup (["figure"]:List Str); decide) rfl (Or.inl rfl))) (fun _ _ _ _=>zbc) (fun _ _ _ _=>(zdJ (zmO hr.units) (pv 0) (zie rfl T.g_FIGURES) (by rfl)))) zf)) (fun _=>rfl)))))) (zq zaO) zI) (zk (zaD (PW.pt (zk5 (zV (zbO hr.units) (zT zB (pv 1) zj (fun _ _=>rfl)) zan (nomark _)) (zhX (zV (zfp hr.units) (pv 0) zan (nomark _))))) (zq zaO) zI) (zq (zG (zam zlu (by rfl) T.n_int ziz (zc (pv 0) zf))))))),(zt (zC (zrp (za2 (zex zi4 zd (za zaj zg))) (zkz zhF zd (zet zi) zgs) zd) zm) (zt (zaP (zel (zaW (zdo (zc9 zcn zcn zi (zaa zaA (za zd zg)) zi))) (zaW (za2 (zaa zkV (za (zb8 (zmU zd) zm za9 (zo zqQ zd zaj)) zg))))) zaL zK) (zt (zaP (zkd (zdo (zo zbT (zo zU zd zi) zaj)) (zdo (zo zfq zd zaj))) zaL zK) (zM (zaa zoU (za zd zg)))))),fun xs S R q=>q⟩
theorem zaJ(T:Txt mg)(dd:Dds K mg)(zad:zbj P w K mg base)(zaH:zb5 P w K mg base)(zbl:zcy P w K mg base):zbv P w K mg base:=by
 exact Df.dN dd.d_one_part_more zcO 1 rfl fun f cdv A outer s H E hr=>⟨_,_,(zk (zaD (zV (zfp hr.units) (zx zZ (by rfl) T.n_len za5 (zc (pv 1) zf)) zj (nomark _)) (zq zaO) zI) (zk (zO (i:=2) zcO.nd rfl (Or.inl rfl) (zbm (zc (zA zaH hr dz (zc (zT zB (pv 1) zj (fun _ _=>rfl)) zf)) (zc (zA zad hr dz (zc (zT zB (pv 1) zj (fun _ _=>rfl)) zf)) (zc (zA zad hr dz (zc (zT zB (pv 1) zj (fun _ _=>rfl)) zf)) zf))))) (zk (zaD (zV (zbO hr.units) (zx zZ (by rfl) T.n_len za5 (zc (pv 0) zf)) (zcE rfl T.g_MOST_PARTS) (nomark _)) (zq zaO) zI) (zq (zG (zA zbl hr dz (zc (zN zS (zam zg1 (by rfl) T.n_list zn9 (zc (pv 0) zf)) (zbS (zc (pv 2) zf))) zf))))))),(zt (zaP (zdo (zo zfq (zaa zaA (za zd zg)) zi)) zaL zK) (zt (zC (zbs (za (zJ (za (zo zU zd zi) zg)) (za (zJ (za (zo zU zd zi) zg)) (za (zJ (za (zo zU zd zi) zg)) zg)))) zm) (zt (zaP (zdo (zo zbT (zaa zaA (za zd zg)) zi)) zaL zK) (zM (zJ (za (zo zal (zaa zmC (za zd zg)) (zeD (za zd zg))) zg)))))),fun xs S R q=>q⟩
theorem za8(T:Txt mg)(dd:Dds K mg):zcf P w K mg base:=by
 exact Df.dN dd.d_part_called zdk 1 rfl fun f cdv A outer s H E hr=>⟨_,_,(zk (zcx (i:=2) (fun _ _ h=>h) rfl (zap (L:=0) rfl rfl rfl rfl (N:=["part"]) (caps:=[none]) (by show zby ["drawing","name","names"] (zn s_part_called).names _ _ _=true; decide +kernel)) zdk.nd rfl rfl (zci (pv 0)) (fun _ _ _ _=>(zE (i:=0) (by show List.Nodup (["part"]:List Str); decide) rfl (Or.inl rfl))) (fun _ _ _ _=>zbc) (fun _ _ _ _=>(zT zB (pv 0) zj (fun _ _=>rfl)))) (zk (zaD (zV (zgS hr.units) (pv 1) (pv 2) (by rfl)) (zq zaO) zI) (zq (zG (zdF PySem.F.plainAttrs_list PySem.F.slot_list_index PySem.F.type_list_index (zkt hr.units) (pv 2) (zc (pv 1) zf)))))),(zt (zC (zb8 (zcm zd) zm za9 (zo zU zd zi)) zm) (zt (zaP (zdo (zo ziP zd zd)) zaL zK) (zM (zpS zlr zd (za zd zg))))),fun xs S R q=>q⟩
theorem zc0(T:Txt mg)(dd:Dds K mg)(zaK:zcs P w K mg base):zeg P w K mg base:=by
 exact Df.dN dd.d_is_term zi8 0 rfl fun f cdv A outer s H E hr=>⟨_,_,(zk (zaD (PW.pt (zdR (zaU (zag (zx zaC (by rfl) T.n_isinstance zH (zc (pv 1) (zc (za4 rfl T.n_tuple zbh (v:=.ty "tuple") rfl) zf))) (fun _=>rfl))) (zcj (zV (zfp hr.units) (zx zZ (by rfl) T.n_len za5 (zc (pv 1) zf)) zj (nomark _))))) (zq (zG zeM)) zI) (zk (zaD (PW.pt (zdR (zaU (zag (zA zaK hr dz (zc (zT zB (pv 1) zj (fun _ _=>rfl)) zf)) (fun _=>rfl))) (zcj (zaU (zag (zA zaK hr dz (zc (zT zB (pv 1) zj (fun _ _=>rfl)) zf)) (fun _=>rfl)))))) (zq (zG zeM)) zI) (zq (zG (zdr (ziX zej zjp zj (zT zB (pv 1) zj (fun _ _=>rfl)) (zx zZ (by rfl) T.n_len za5 (zc (pv 0) zf))) (zee (ziX zej zej zj (zx zij (by rfl) T.n_abs zmS (zc (zT zB (pv 1) zj (fun _ _=>rfl)) zf)) (zcE rfl T.g_MOST_TIMES)))))))),(zt (zaP (zel (zaW (za2 (zaa zb0 (za zd (za ziQ zg))))) (zdo (zo zfq (zaa zaA (za zd zg)) zi))) (zM ze9) zK) (zt (zaP (zel (zaW (za2 (zJ (za (zo zU zd zi) zg)))) (zaW (za2 (zJ (za (zo zU zd zi) zg))))) (zM ze9) zK) (zM (zdu (zc9 zcn zcn zi (zo zU zd zi) (zaa zaA (za zd zg))) (zc9 zcn zcn zi (zaa znJ (za (zo zU zd zi) zg)) zi))))),fun xs S R q=>q⟩
theorem zbN(T:Txt mg)(dd:Dds K mg)(zc0:zeg P w K mg base):zc1 P w K mg base:=by
 exact Df.dN dd.d_are_terms zbZ 2 rfl fun f cdv A outer s H E hr=>⟨_,_,(zk (zaD (PW.pt (zdR (zaU (zag (zx zaC (by rfl) T.n_isinstance zH (zc (pv 1) (zc (za4 rfl T.n_tuple zbh (v:=.ty "tuple") rfl) zf))) (fun _=>rfl))) (zcj (zaU (zeY zej zej zj (zx zZ (by rfl) T.n_len za5 (zc (pv 1) zf)) (zcE rfl T.g_MOST_TERMS)))))) (zq (zG zeM)) zI) (zk (zO (i:=2) zbZ.nd rfl (Or.inl rfl) (zjl zf2 zj)) (zk (zc7 PassesOwn.never rfl (zci (pv 1)) (zE (i:=3) zbZ.nd rfl (Or.inl rfl)) (zk (zaD (PW.pt (zdR (zaU (zag (zA zc0 hr dz (zc (pv 0) (zc (pv 3) zf))) (fun _=>rfl))) (zcj (zV zej (zT zB (pv 3) zj (fun _ _=>rfl)) (pv 2) (nomark _))))) (zq (zG zeM)) zI) (zq (zO (i:=2) zbZ.nd rfl (Or.inl rfl) (zT zB (pv 3) zj (fun _ _=>rfl)))))) (zq (zG zeM))))),(zt (zaP (zel (zaW (za2 (zaa zb0 (za zd (za ziQ zg))))) (zaW (zdo (zc9 zcn zcn zi (zaa zaA (za zd zg)) zi)))) (zM ze9) zK) (zt (zC (zjd zo4 zi) zm) (zt (zdQ (zcm zd) zm (zt (zaP (zel (zaW (za2 (zJ (za zd (za zd zg))))) (zdo (zo zcn (zo zU zd zi) zd))) (zM ze9) zK) (zC (zo zU zd zi) zm))) (zM ze9)))),fun xs S R q=>q⟩
theorem zdT(T:Txt mg)(dd:Dds K mg)(za3:zcI P w K mg base)(zbN:zc1 P w K mg base):zfr P w K mg base:=by
 exact Df.dN dd.d_is_gap zls 0 rfl fun f cdv A outer s H E hr=>⟨_,_,(zk (zaD (PW.pt (zdR (zaU (zag (zx zaC (by rfl) T.n_isinstance zH (zc (pv 1) (zc (za4 rfl T.n_tuple zbh (v:=.ty "tuple") rfl) zf))) (fun _=>rfl))) (zcj (zV (zfp hr.units) (zx zZ (by rfl) T.n_len za5 (zc (pv 1) zf)) zj (nomark _))))) (zq (zG zeM)) zI) (zq (zG (zdr (zA zbN hr dz (zc (pv 0) (zc (zT zB (pv 1) zj (fun _ _=>rfl)) zf))) (zee (zA za3 hr dz (zc (zT zB (pv 1) zj (fun _ _=>rfl)) (zc (zT zB (pv 1) zj (fun _ _=>rfl)) zf)))))))),(zt (zaP (zel (zaW (za2 (zaa zb0 (za zd (za ziQ zg))))) (zdo (zo zfq (zaa zaA (za zd zg)) zi))) (zM ze9) zK) (zM (zdu (zJ (za zd (za (zo zU zd zi) zg))) (zJ (za (zo zU zd zi) (za (zo zU zd zi) zg)))))),fun xs S R q=>q⟩
theorem zaY(T:Txt mg)(dd:Dds K mg)(zad:zbj P w K mg base)(zaH:zb5 P w K mg base)(za8:zcf P w K mg base)(zdT:zfr P w K mg base):zbL P w K mg base:=by
 exact Df.dN dd.d_one_gap_more zat 5 rfl fun f cdv A outer s H E hr=>⟨_,_,(zk (zaD (PW.pt (zdR (zV zjp (zx zZ (by rfl) T.n_len za5 (zc (pv 2) zf)) zj (nomark _)) (zcj (zV (zbO hr.units) (zN zea (zx zZ (by rfl) T.n_len za5 (zc (pv 2) zf)) zj) zj (nomark _))))) (zq zaO) zI) (zk (zcx (i:=3) (fun _ _ h=>h) rfl (zap rfl rfl rfl rfl (N:=["word"]) (caps:=[none]) (by show zby ["drawing","gaps","words","ends","times","names","parts","gap"] (zn s_one_gap_more).names _ _ _=true; decide +kernel)) zat.nd rfl rfl (zci (zde zgV (pv 2) (zc4 zj) (zc4 zj))) (fun _ _ _ _=>(zE (i:=0) (by show List.Nodup (["word"]:List Str); decide) rfl (Or.inl rfl))) (fun _ _ _ _=>zbc) (fun _ _ _ _=>(zA zad hr dz (zc (pv 0) zf)))) (zk (zcx (i:=4) (fun _ _ h=>h) rfl (zap rfl rfl rfl rfl (N:=["word"]) (caps:=[none]) (by show zby ["drawing","gaps","words","ends","times","names","parts","gap"] (zn s_one_gap_more).names _ _ _=true; decide +kernel)) zat.nd rfl rfl (zci (znD (pv 2) zj zj)) (fun _ _ _ _=>(zE (i:=0) (by show List.Nodup (["word"]:List Str); decide) rfl (Or.inl rfl))) (fun _ _ _ _=>zbc) (fun _ _ _ _=>(zA zad hr dz (zc (pv 0) zf)))) (zk (zcx (i:=5) (fun _ _ h=>h) rfl (zap rfl rfl rfl rfl (N:=["word"]) (caps:=[none]) (by show zby ["drawing","gaps","words","ends","times","names","parts","gap"] (zn s_one_gap_more).names _ _ _=true; decide +kernel)) zat.nd rfl rfl (zci (znD (pv 2) zj zj)) (fun _ _ _ _=>(zE (i:=0) (by show List.Nodup (["word"]:List Str); decide) rfl (Or.inl rfl))) (fun _ _ _ _=>zbc) (fun _ _ _ _=>(zA zaH hr dz (zc (pv 0) zf)))) (zk (zcx (i:=6) (fun _ _ h=>h) rfl (zap rfl rfl rfl rfl (N:=["name","drawing"]) (caps:=[none,some 0]) (by show zby ["drawing","gaps","words","ends","times","names","parts","gap"] (zn s_one_gap_more).names _ _ _=true; decide +kernel)) zat.nd rfl rfl (zci (pv 5)) (fun _ _ _ _=>(zE (i:=0) (by show List.Nodup (["name","drawing"]:List Str); decide) rfl (Or.inl rfl))) (fun _ _ _ _=>zbc) (fun _ _ _ _=>(zA za8 hr dz (zc (pv 1) (zc (pv 0) zf))))) (zk (zO (i:=7) zat.nd rfl (Or.inl rfl) (zbm (zc (zod rfl rfl T.n_tuple rfl T.n_zip (zc (pv 6) (zc (pv 4) zf))) (zc (zT zB (pv 3) zj (fun _ _=>rfl)) (zc (zT zB (pv 3) zj (fun _ _=>rfl)) zf))))) (zk (zaD (PW.pt (zdR (zV (zbO hr.units) (zx zZ (by rfl) T.n_len za5 (zc (pv 1) zf)) (zcE rfl T.g_MOST_GAPS) (nomark _)) (zcj (zaU (zag (zA zdT hr dz (zc (pv 0) (zc (pv 7) zf))) (fun _=>rfl)))))) (zq zaO) zI) (zq (zG (zN zS (pv 1) (zbm (zc (pv 7) zf)))))))))))),(zt (zaP (zel (zdo (zo zcn (zaa zaA (za zd zg)) zi)) (zdo (zo zbT (zo zgK (zaa zaA (za zd zg)) zi) zi))) zaL zK) (zt (zC (zb8 (zcm (zkz zhF zd (zet zi) (zet zi))) zm za9 (zJ (za zd zg))) zm) (zt (zC (zb8 (zcm (zni zd zi zi)) zm za9 (zJ (za zd zg))) zm) (zt (zC (zb8 (zcm (zni zd zi zi)) zm za9 (zJ (za zd zg))) zm) (zt (zC (zb8 (zcm zd) zm za9 (zJ (za zd (za zd zg)))) zm) (zt (zC (zbs (za (zol (za zd (za zd zg))) (za (zo zU zd zi) (za (zo zU zd zi) zg)))) zm) (zt (zaP (zel (zdo (zo zbT (zaa zaA (za zd zg)) zi)) (zaW (za2 (zJ (za zd (za zd zg)))))) zaL zK) (zM (zo zal zd (zbs (za zd zg))))))))))),fun xs S R q=>q⟩
theorem zck(T:Txt mg)(dd:Dds K mg)(zaJ:zbv P w K mg base)(zaY:zbL P w K mg base):zdy P w K mg base:=by
 exact Df.dN dd.d_with_row zhS 0 rfl fun f cdv A outer s H E hr=>⟨_,_,(zk (zaD (PW.pt (zk5 (zV (zbO hr.units) (zT zB (pv 1) zj (fun _ _=>rfl)) zan (nomark _)) (zhX (zaU (zag (zT zB (pv 0) zj (fun _ _=>rfl)) (fun _=>rfl)))))) (zq (zG (zbm (zc (zA zaJ hr dz (zc (zT zB (pv 0) zj (fun _ _=>rfl)) (zc (pv 1) zf))) (zc (zT zB (pv 0) zj (fun _ _=>rfl)) zf))))) zI) (zk (zaD (zV (zbO hr.units) (zT zB (pv 1) zj (fun _ _=>rfl)) zan (nomark _)) (zq (zG (zbm (zc (zT zB (pv 0) zj (fun _ _=>rfl)) (zc (zA zaY hr dz (zc (zT zB (pv 0) zj (fun _ _=>rfl)) (zc (zT zB (pv 0) zj (fun _ _=>rfl)) (zc (pv 1) zf)))) zf))))) zI) (zq zaO))),(zt (zaP (zkd (zdo (zo zbT (zo zU zd zi) zaj)) (zaW (za2 (zo zU zd zi)))) (zM (zbs (za (zJ (za (zo zU zd zi) (za zd zg))) (za (zo zU zd zi) zg)))) zK) (zt (zaP (zdo (zo zbT (zo zU zd zi) zaj)) (zM (zbs (za (zo zU zd zi) (za (zJ (za (zo zU zd zi) (za (zo zU zd zi) (za zd zg)))) zg)))) zK) zaL)),fun xs S R q=>q⟩
theorem zit(T:Txt mg)(dd:Dds K mg)(zck:zdy P w K mg base):zj8 P w K mg base:=by
 exact Df.dN dd.d_read zeq 4 rfl fun f cdv A outer s H E hr=>⟨_,_,(zk (zaD (zaU (zag (zx zaC (by rfl) T.n_isinstance zH (zc (pv 0) (zc (za4 rfl T.n_str zcP (v:=.ty "str") rfl) zf))) (fun _=>rfl))) (zq zaO) zI) (zk (zO (i:=1) zeq.nd rfl (Or.inl rfl) (zdF PySem.F.plainAttrs_str PySem.F.slot_str_split PySem.F.type_str_split zi1 (pv 0) (zc zan zf))) (zk (zO (i:=2) zeq.nd rfl (Or.inl rfl) (zbm (zc (zbm zf) (zc (zbm zf) zf)))) (zk (zc7 PassesOwn.never rfl (zl1 rfl T.n_enumerate (zc (pv 1) zf)) (zdn (n:=2) rfl (zW (zE (i:=3) zeq.nd rfl (Or.inl rfl)) (zW (zE (i:=4) zeq.nd rfl (Or.inl rfl)) zb9))) (zq (zoS (fun _ _ z=>z) (zq (zO (i:=2) zeq.nd rfl (Or.inl rfl) (zA zck hr dz (zc (pv 2) (zc (zdF PySem.F.plainAttrs_str PySem.F.slot_str_split PySem.F.type_str_split zi1 (pv 4) (zc zan zf)) zf)))))))) (zk (zaD (zaU (zag (zT zB (pv 2) zj (fun _ _=>rfl)) (fun _=>rfl))) (zq zaO) zI) (zq (zG (pv 2)))))))),(zt (zaP (zaW (za2 (zaa zb0 (za zd (za ziQ zg))))) zaL zK) (zt (zC (zex zhC zd (za zaj zg)) zm) (zt (zC (zbs (za (zbs zg) (za (zbs zg) zg))) zm) (zt (zdQ (zl8 (za zd zg)) (zdv (zX zm (zX zm zca))) (zC (zJ (za zd (za (zex zhC zd (za zaj zg)) zg))) zm)) (zt (zaP (zaW (za2 (zo zU zd zi))) zaL zK) (zM zd)))))),fun xs S R q=>q⟩
theorem zaG(T:Txt mg)(dd:Dds K mg):zb7 P w K mg base:=by
 exact Df.dN dd.d_law_whole zhA 0 rfl fun f cdv A outer s H E hr=>⟨_,_,(zq (zG (zdr (zx zaC (by rfl) T.n_isinstance zH (zc (pv 0) (zc (za4 rfl T.n_int ziz (v:=.ty "int") rfl) zf))) (zee (zm5 (zx zaC (by rfl) T.n_isinstance zH (zc (pv 0) (zc (za4 rfl T.n_bool zll (v:=.ty "bool") rfl) zf)))))))),(zM (zdu (zaa zb0 (za zd (za ziQ zg))) (znP (zaa zb0 (za zd (za ziQ zg)))))),fun xs S R q=>q⟩
theorem zdV(T:Txt mg)(dd:Dds K mg)(zaG:zb7 P w K mg base):∀ n,Df P w K mg base "_law_alike" ["found","due"] (2+n) (spN ["found","due"] (zar n))
 | 0=>Df.none dd.d_law_alike
 | n+1=>by
  have zbW:=zdV T dd zaG n;show Df P w K mg base "_law_alike" ["found","due"] (2+n+1) (spN ["found","due"] (zar (n+1)));exact Df.dN dd.d_law_alike zhq 0 rfl fun f cdv A outer s H E hr=>⟨_,_,(zk (zaD (zag (zx zaC (by rfl) T.n_isinstance zH (zc (pv 1) (zc (za4 rfl T.n_tuple zbh (v:=.ty "tuple") rfl) zf))) (fun _=>rfl)) (zk (zaD (PW.pt (zdR (zaU (zag (zx zaC (by rfl) T.n_isinstance zH (zc (pv 0) (zc (za4 rfl T.n_tuple zbh (v:=.ty "tuple") rfl) zf))) (fun _=>rfl))) (zcj (zV (zfp hr.units) (zx zZ (by rfl) T.n_len za5 (zc (pv 0) zf)) (zx zZ (by rfl) T.n_len za5 (zc (pv 1) zf)) (nomark _))))) (zq (zG zeM)) zI) (zq (zG (zx (zfG rfl) (by rfl) T.n_all zjX (zc (zfB (fun _ _ h=>h) rfl (zap (L:=0) rfl rfl rfl rfl (N:=["one","other"]) (caps:=[none,none]) (by show zby ["found","due"] (zn s_law_alike).names _ _ _=true; decide +kernel)) (zoW rfl T.n_zip (zc (pv 0) (zc (pv 1) zf))) (fun _ _ _ _=>(zdn (n:=2) rfl (zW (zE (i:=0) (by show List.Nodup (["one","other"]:List Str); decide) rfl (Or.inl rfl)) (zW (zE (i:=1) (by show List.Nodup (["one","other"]:List Str); decide) rfl (Or.inl rfl)) zb9)))) (fun _ _ _ _=>zbc) (fun _ _ _ _=>(zA zbW hr (by omega) (zc (pv 0) (zc (pv 1) zf))))) zf))))) zI) (zk (zaD (zag (zx zaC (by rfl) T.n_isinstance zH (zc (pv 1) (zc (za4 rfl T.n_str zcP (v:=.ty "str") rfl) zf))) (fun _=>rfl)) (zq (zG (zdr (zx zaC (by rfl) T.n_isinstance zH (zc (pv 0) (zc (za4 rfl T.n_str zcP (v:=.ty "str") rfl) zf))) (zee (zdJ (zbO hr.units) (pv 0) (pv 1) (nomark _)))))) zI) (zq (zG (zdr (zA zaG hr (by omega) (zc (pv 0) zf)) (zee (zdJ (zbO hr.units) (pv 0) (pv 1) (nomark _)))))))),(zt (zaP (za2 (zaa zb0 (za zd (za ziQ zg)))) (zt (zaP (zel (zaW (za2 (zaa zb0 (za zd (za ziQ zg))))) (zdo (zo zfq (zaa zaA (za zd zg)) (zaa zaA (za zd zg))))) (zM ze9) zK) (zM (zaa zkV (za (zb8 (zob (za zd (za zd zg))) (zdv (zX zm (zX zm zca))) za9 (zJ (za zd (za zd zg)))) zg)))) zK) (zt (zaP (za2 (zaa zb0 (za zd (za ziQ zg)))) (zM (zdu (zaa zb0 (za zd (za ziQ zg))) (zo zbT zd zd))) zK) (zM (zdu (zJ (za zd zg)) (zo zbT zd zd))))),fun xs S R q=>q⟩
theorem zbW(T:Txt mg)(dd:Dds K mg)(zaG:zb7 P w K mg base):zeA P w K mg base:=zdV T dd zaG 160
theorem zcW(T:Txt mg)(dd:Dds K mg):zeh P w K mg base:=by
 exact Df.dN dd.d_gap_row zdg 3 rfl fun f cdv A outer s H E hr=>⟨_,_,(zk (zO (i:=2) zdg.nd rfl (Or.inl rfl) (zbS (zc zan (zc (zam zav (by rfl) T.n_str zcP (zc (zT zB (pv 1) zj (fun _ _=>rfl)) zf)) (zc (zam zav (by rfl) T.n_str zcP (zc (zT zB (pv 1) zj (fun _ _=>rfl)) zf)) zf))))) (zk (zc7 PassesOwn.never rfl (zci (zT zB (pv 1) zj (fun _ _=>rfl))) (zdn (n:=2) rfl (zW (zE (i:=3) zdg.nd rfl (Or.inl rfl)) (zW (zE (i:=4) zdg.nd rfl (Or.inl rfl)) zb9))) (zq (zdL (zdF PySem.F.plainAttrs_list PySem.F.slot_list_extend PySem.F.type_list_extend zhv (pv 2) (zc (zbS (zc (zam zav (by rfl) T.n_str zcP (zc (pv 4) zf)) (zc (zT zB (zT zB (pv 0) (pv 3) (fun _ _=>rfl)) zj (fun _ _=>rfl)) zf))) zf))))) (zq (zG (zdF PySem.F.plainAttrs_str PySem.F.slot_str_join PySem.F.type_str_join zfb zan (zc (pv 2) zf)))))),(znN (zt (zk1 (zt (zC (zdI (za zaj (za (zaa zeC (za (zo zU zd zi) zg)) (za (zaa zeC (za (zo zU zd zi) zg)) zg)))) zm) (zdQ (zcm (zo zU zd zi)) (zdv (zX zm (zX zm zca))) (zdG (zjc zg5 zd (za (zeD (za (zaa zeC (za zd zg)) (za (zo zU (zo zU zd zd) zi) zg))) zg)))))) (zM (zex zd8 zaj (za zd zg))))),fun xs S R q=>q⟩
theorem zgA(T:Txt mg)(dd:Dds K mg)(zcW:zeh P w K mg base):ziv P w K mg base:=by
 exact Df.dN dd.d_shown zin 1 rfl fun f cdv A outer s H E hr=>⟨_,_,(zk (zcx (i:=1) (fun _ _ h=>h) rfl (zap rfl rfl rfl rfl (N:=["name","low","high"]) (caps:=[none,none,none]) (by show zby ["job","rows"] (zn s_shown).names _ _ _=true; decide +kernel)) zin.nd rfl rfl (zci (zT zB (pv 0) zj (fun _ _=>rfl))) (fun _ _ _ _=>(zdn (n:=3) rfl (zW (zE (i:=0) (by show List.Nodup (["name","low","high"]:List Str); decide) rfl (Or.inl rfl)) (zW (zE (i:=1) (by show List.Nodup (["name","low","high"]:List Str); decide) rfl (Or.inl rfl)) (zW (zE (i:=2) (by show List.Nodup (["name","low","high"]:List Str); decide) rfl (Or.inl rfl)) zb9))))) (fun _ _ _ _=>zbc) (fun _ _ _ _=>(znV (zei zan (zei (zkB (pv 0)) (zei zan (zei (zkB (pv 1)) (zei zan (zei (zkB (pv 2)) zqU))))))))) (zk (zdL (zdF PySem.F.plainAttrs_list PySem.F.slot_list_extend PySem.F.type_list_extend zhv (pv 1) (zc (zfB (fun _ _ h=>h) rfl (zap rfl rfl rfl rfl (N:=["gap","job"]) (caps:=[none,some 0]) (by show zby ["job","rows"] (zn s_shown).names _ _ _=true; decide +kernel)) (zci (zT zB (pv 0) zj (fun _ _=>rfl))) (fun _ _ _ _=>(zE (i:=0) (by show List.Nodup (["gap","job"]:List Str); decide) rfl (Or.inl rfl))) (fun _ _ _ _=>zbc) (fun _ _ _ _=>(zA zcW hr dz (zc (zT zB (pv 1) zj (fun _ _=>rfl)) (zc (pv 0) zf))))) zf))) (zq (zG (zdF PySem.F.plainAttrs_str PySem.F.slot_str_join PySem.F.type_str_join zfb zan (zc (pv 1) zf)))))),(znN (zt (zk1 (zt (zC (zeW (zcm (zo zU zd zi)) (zdv (zX zm (zX zm (zX zm zca)))) za9 (zok (zeu zaj (zeu (znU zd) (zeu zaj (zeu (zj0 zd) (zeu zaj (zeu (zj0 zd) zpT)))))))) zm) (zdG (zjc zg5 zd (za (zb8 (zcm (zo zU zd zi)) zm za9 (zJ (za (zo zU zd zi) (za zd zg)))) zg))))) (zM (zex zd8 zaj (za zd zg))))),fun xs S R q=>q⟩
theorem ok_law{f:Addr}{fd:FuncData}(F:Fun K "law" "law" s_law f fd)(T:Txt mg)(dd:Dds K mg):FnOk P w K mg base CX0 163 f fd ["script"] (sp1 (zrI K)):=by
 have zcL:=zcL (P:=P) (w:=w) (base:=base) T dd;have zcY:zeb P w K mg base:=zcY T dd ;have zbI:zdK P w K mg base:=zbI T dd ;have zv:zaF P w K mg base:=zv T dd zbI;have zaX:zbQ P w K mg base:=zaX T dd zv;have zbp:zcK P w K mg base:=zbp T dd zv;have zcp:zdM P w K mg base:=zcp T dd zbp zv;have zbt:zcl P w K mg base:=zbt T dd zaX zv zcp;have zbd:zcg P w K mg base:=zbd T dd ;have zbn:zcz P w K mg base:=zbn T dd zv zbd;have zcD:zdt P w K mg base:=zcD T dd zv zbn;have zcF:zdp P w K mg base:=zcF T dd ;have zbr:zc8 P w K mg base:=zbr T dd ;have zaK:zcs P w K mg base:=zaK T dd ;have zbe:zcU P w K mg base:=zbe T dd zaK;have za3:zcI P w K mg base:=za3 T dd zbe;have zcT:zef P w K mg base:=zcT T dd za3 zbr;have zbl:zcy P w K mg base:=zbl T dd zcT;have zaH:zb5 P w K mg base:=zaH T dd zbr;have zad:zbj P w K mg base:=zad T dd ;have zaJ:zbv P w K mg base:=zaJ T dd zad zaH zbl;have za8:zcf P w K mg base:=za8 T dd ;have zc0:zeg P w K mg base:=zc0 T dd zaK;have zbN:zc1 P w K mg base:=zbN T dd zc0;have zdT:zfr P w K mg base:=zdT T dd za3 zbN;have zaY:zbL P w K mg base:=zaY T dd zad zaH za8 zdT;have zck:zdy P w K mg base:=zck T dd zaJ zaY;have zit:zj8 P w K mg base:=zit T dd zck;have zaG:zb7 P w K mg base:=zaG T dd ;have zbW:zeA P w K mg base:=zbW T dd zaG;have zcW:zeh P w K mg base:=zcW T dd ;have zgA:ziv P w K mg base:=zgA T dd zcW;refine F.ok1 zfj (fun v=>[some v,none,none,none,none,none,none]) (fun _=>rfl) fun cdv A outer s H v Q E hr h=>?_;obtain⟨a,ns,rfl,hS,hlen,q⟩:=h;refine⟨_,(zk (zc7 PassesOwn.never rfl (zn2 (zN zlm (zbS (zc (zpf zcL hr dz (pv 0) zj) zf)) (zde zlz (pv 0) (zc4 zj) (zc4 zj)))) (zE (i:=1) zfj.nd rfl (Or.inl rfl)) (zk (zO (i:=2) zfj.nd rfl (Or.inl rfl) (zA zcY hr dz (zc (pv 1) zf))) (zk (zO (i:=3) zfj.nd rfl (Or.inl rfl) (zA zbt hr dz (zc (pv 2) (zc zj zf)))) (zk (zO (i:=4) zfj.nd rfl (Or.inl rfl) (zA zcD hr dz (zc (pv 2) (zc (pv 3) (zc zj zf))))) (zk (zO (i:=5) zfj.nd rfl (Or.inl rfl) (zA zcF hr dz (zc (pv 3) (zc (pv 4) zf)))) (zk (zO (i:=6) zfj.nd rfl (Or.inl rfl) (zA zit hr dz (zc (pv 5) zf))) (zq (zaD (PW.pt (zdR (zaU (zag (zA zbW hr dz (zc (pv 6) (zc (zbm (zc (pv 3) (zc (pv 4) zf))) zf))) (fun _=>rfl))) (zdR (zV zpp (zA zgA hr dz (zc (pv 6) zf)) (pv 5) (nomark _)) (zcj (zV (zfp hr.units) (zA zit hr dz (zc (zA zgA hr dz (zc (pv 6) zf)) zf)) (pv 6) (nomark _)))))) (zq (zG zeM)) zI)))))))) (zq (zG zeM))),?_⟩;exact zoi (m:=6) (db:=zoR) (zt (zC (zJ (za zd zg)) zm) (zt (zC (zP (i:=0) (za zd (za zi zg))) zm) (zt (zC (zP (i:=0) (za zd (za zd (za zi zg)))) zm) (zt (zC (zJ (za zd (za zd zg))) zm) (zt (zC (zJ (za zd zg)) zm) (zaP (zel (zaW (za2 (zJ (za zd (za (zbs (za zd (za zd zg))) zg))))) (zel (zdo (zo zpz (zJ (za zd zg)) zd)) (zdo (zo zfq (zJ (za (zJ (za zd zg)) zg)) zd)))) (zM ze9) zK)))))) rfl rfl hS hlen (fun n=>zh7 a n) dz fun _ H2 _=>q H2
end
end My
theorem zlW:L2.tabsG=[]:=rfl
namespace PySem.W.Fast
def tw6982698461599710533:Unit:=()
def tw16867503715049857204:Unit:=()
def tw8708235895940704688:Unit:=()
def tw17623161888916053855:Unit:=()
def tw17689524794817586169:Unit:=()
def tw6727762814563336391:Unit:=()
def tw4349284456057689536:Unit:=()
def tw1644861283679735109:Unit:=()
def tw14920986997720647128:Unit:=()
def tw9124597209278766112:Unit:=()
def tw8894789292870563944:Unit:=()
def tw6001837475752362168:Unit:=()
def tw6414577051955548820:Unit:=()
def tw17596252545065681935:Unit:=()
def tw4385885217525068845:Unit:=()
def tw6517572701033232670:Unit:=()
def tw7625756190643839481:Unit:=()
def tw16858483610178224565:Unit:=()
def tw4855022954706955008:Unit:=()
def tw1185129595411510946:Unit:=()
def tw4380094782085281207:Unit:=()
def tw9454737340055577162:Unit:=()
def tw5642340833665573325:Unit:=()
def tw4860828583593728824:Unit:=()
def tw14388291982692654927:Unit:=()
def tw1157552895578888809:Unit:=()
def tw5944477451883706410:Unit:=()
def tw970851014058560283:Unit:=()
def tw1110171520467008287:Unit:=()
def tw1326064576831923448:Unit:=()
def tw16950648498679231246:Unit:=()
def tw9385069517191102481:Unit:=()
def tw3159652148037886377:Unit:=()
def tw6549477288339202750:Unit:=()
def tw18099444657805542326:Unit:=()
def tw17230512956633277327:Unit:=()
def tw16611946005500134581:Unit:=()
def tw6558121363119631875:Unit:=()
def tw10075340694498930373:Unit:=()
def tw2575454687740309161:Unit:=()
def tw6955095578484968817:Unit:=()
def tw14654570453145042242:Unit:=()
def tw14545763955102017177:Unit:=()
def tw18080653939166751690:Unit:=()
def tw15461748717638224961:Unit:=()
def tw5099372173671374972:Unit:=()
def tw9084975219123620747:Unit:=()
def tw6644174334886892148:Unit:=()
def tw1240935888310176752:Unit:=()
def tw14574156443608163926:Unit:=()
def tw8031351777919045560:Unit:=()
def tw7022139902735778613:Unit:=()
def tw16435358492091299154:Unit:=()
def tw16316758499239842427:Unit:=()
def tw1959626957943272337:Unit:=()
def tw8351463240878488950:Unit:=()
def tw7428761349131665456:Unit:=()
def tw1141114978046084907:Unit:=()
def tw8987638517430394226:Unit:=()
def tw13415168812710330533:Unit:=()
def tw3828095309359246347:Unit:=()
def tw3357419822937676617:Unit:=()
def tw8007273205299109991:Unit:=()
def tw8132967124388408623:Unit:=()
def tw16845237368752477608:Unit:=()
def tw11657903254151083320:Unit:=()
def tw9187368502918981577:Unit:=()
def tw5598098694882016027:Unit:=()
def tw6541410018265578927:Unit:=()
def tw17751887076560946452:Unit:=()
def tw13134310452692050480:Unit:=()
def tw7880165695093812659:Unit:=()
def tw10269043212618754977:Unit:=()
def tw11029234616738030538:Unit:=()
def tw16427193285852829392:Unit:=()
def tw15595550361460581402:Unit:=()
def tw7913178210145253344:Unit:=()
def tw12690954344333490039:Unit:=()
def tw5552247734900012137:Unit:=()
def tw10721886189818158776:Unit:=()
def tw5717154027107805497:Unit:=()
def tw12836133588480560402:Unit:=()
def tw5591964149783590908:Unit:=()
def tw12358786980058878926:Unit:=()
def tw9496603932052190941:Unit:=()
def tw14540676593972203991:Unit:=()
def tw2578967917470981656:Unit:=()
def tw63107378376942815:Unit:=()
def tw3534027499858195614:Unit:=()
def tw6352571242281537195:Unit:=()
def tw15905202472953153815:Unit:=()
def tw11768600742681728503:Unit:=()
def tw13209468802079345566:Unit:=()
def tw15118147195583078256:Unit:=()
def tw5678206234238421660:Unit:=()
def tw14885938915803816005:Unit:=()
def tw4622899011856013471:Unit:=()
def tw16606482659297345796:Unit:=()
def tw17973311607389945414:Unit:=()
def tw17445489171471118897:Unit:=()
def tw15647342348127661357:Unit:=()
def tw3945089979035268073:Unit:=()
def tw13039406219265762824:Unit:=()
def tw733100323567373397:Unit:=()
def tw12327149533833006179:Unit:=()
def tw5716615375170830761:Unit:=()
def tw9032592051198455588:Unit:=()
def tw11827844655769915488:Unit:=()
def tw3200223345688374372:Unit:=()
def tw16018492398488538525:Unit:=()
def tw12131299551952591176:Unit:=()
def tw18418135964654671657:Unit:=()
def tw14732800906507282924:Unit:=()
def tw16953817320492496289:Unit:=()
def tw16266785925855316743:Unit:=()
def tw13874576810679652721:Unit:=()
def tw5287025556261865282:Unit:=()
def tw6923618649188220168:Unit:=()
def tw5846212128675277536:Unit:=()
def tw2304353714339223324:Unit:=()
def tw9001790859943781293:Unit:=()
def tw4833958340785705881:Unit:=()
def tw5766150025585597064:Unit:=()
def tw16082662335714506385:Unit:=()
def tw8081942424214794781:Unit:=()
def tw11446999573202322479:Unit:=()
def tw11224594412016487237:Unit:=()
def tw9959932138160628964:Unit:=()
def tw10674718110305262011:Unit:=()
end PySem.W.Fast
open PySem PySem.W PyProof.Rows L2
set_option maxRecDepth 100000 in
set_option maxHeartbeats 0 in
theorem PySem.Challenge.cw_gaugewright_k71_jobs_read_holds : PySem.Challenge.rw_gaugewright_k71_jobs_read.Holds := by
 w_on; o_law; k_head; (case hw=>w_witness2)
 k_fill
 refine L2.walk_law (l := PySem.Challenge.rw_gaugewright_k71_jobs_read) (k := 163) rfl rfl ⟨rfl, by decide, by decide⟩ (fun w h Y => W.kIn_of Y) (fun w h Y => L2.TabsOk.none zlW) ?F
 case F =>
  intro w mg fa h KX G hmg;have d_law_cell_at:Dd (L2.KOf KX) mg "_law_cell_at" My.s_law_cell_at ["script","k"]:=by
   dsimp only [L2.KOf];refine' Dd.mk' KX G ?a ?l ?c ?k ?b
   (case a=>k_is); (case l=>k_is); (case c=>k_is); (case k=>k_is); (case b=>intro _ _ _ _ _ _ us hl; obtain⟨_,_,rfl⟩:=L2.len2 hl; rfl)
  have d_law_pen_of:Dd (L2.KOf KX) mg "_law_pen_of" My.s_law_pen_of ["cell"]:=by
   dsimp only [L2.KOf];refine' Dd.mk' KX G ?a ?l ?c ?k ?b
   (case a=>k_is); (case l=>k_is); (case c=>k_is); (case k=>k_is); (case b=>intro _ _ _ _ _ _ us hl; obtain⟨_,rfl⟩:=L2.len1 hl; rfl)
  have d_law_next:Dd (L2.KOf KX) mg "_law_next" My.s_law_next ["seed"]:=by
   dsimp only [L2.KOf];refine' Dd.mk' KX G ?a ?l ?c ?k ?b
   (case a=>k_is); (case l=>k_is); (case c=>k_is); (case k=>k_is); (case b=>intro _ _ _ _ _ _ us hl; obtain⟨_,rfl⟩:=L2.len1 hl; rfl)
  have d_law_draw:Dd (L2.KOf KX) mg "_law_draw" My.s_law_draw ["pen","many"]:=by
   dsimp only [L2.KOf];refine' Dd.mk' KX G ?a ?l ?c ?k ?b
   (case a=>k_is); (case l=>k_is); (case c=>k_is); (case k=>k_is); (case b=>intro _ _ _ _ _ _ us hl; obtain⟨_,_,rfl⟩:=L2.len2 hl; rfl)
  have d_law_names_of:Dd (L2.KOf KX) mg "_law_names_of" My.s_law_names_of ["pen"]:=by
   dsimp only [L2.KOf];refine' Dd.mk' KX G ?a ?l ?c ?k ?b
   (case a=>k_is); (case l=>k_is); (case c=>k_is); (case k=>k_is); (case b=>intro _ _ _ _ _ _ us hl; obtain⟨_,rfl⟩:=L2.len1 hl; rfl)
  have d_law_number:Dd (L2.KOf KX) mg "_law_number" My.s_law_number ["pen"]:=by
   dsimp only [L2.KOf];refine' Dd.mk' KX G ?a ?l ?c ?k ?b
   (case a=>k_is); (case l=>k_is); (case c=>k_is); (case k=>k_is); (case b=>intro _ _ _ _ _ _ us hl; obtain⟨_,rfl⟩:=L2.len1 hl; rfl)
  have d_law_span:Dd (L2.KOf KX) mg "_law_span" My.s_law_span ["pen"]:=by
   dsimp only [L2.KOf];refine' Dd.mk' KX G ?a ?l ?c ?k ?b
   (case a=>k_is); (case l=>k_is); (case c=>k_is); (case k=>k_is); (case b=>intro _ _ _ _ _ _ us hl; obtain⟨_,rfl⟩:=L2.len1 hl; rfl)
  have d_law_drawing_of:Dd (L2.KOf KX) mg "_law_drawing_of" My.s_law_drawing_of ["pen","most"]:=by
   dsimp only [L2.KOf];refine' Dd.mk' KX G ?a ?l ?c ?k ?b
   (case a=>k_is); (case l=>k_is); (case c=>k_is); (case k=>k_is); (case b=>intro _ _ _ _ _ _ us hl; obtain⟨_,_,rfl⟩:=L2.len2 hl; rfl)
  have d_law_ends_of:Dd (L2.KOf KX) mg "_law_ends_of" My.s_law_ends_of ["drawing","terms"]:=by
   dsimp only [L2.KOf];refine' Dd.mk' KX G ?a ?l ?c ?k ?b
   (case a=>k_is); (case l=>k_is); (case c=>k_is); (case k=>k_is); (case b=>intro _ _ _ _ _ _ us hl; obtain⟨_,_,rfl⟩:=L2.len2 hl; rfl)
  have d_law_gap_of:Dd (L2.KOf KX) mg "_law_gap_of" My.s_law_gap_of ["pen","drawing"]:=by
   dsimp only [L2.KOf];refine' Dd.mk' KX G ?a ?l ?c ?k ?b
   (case a=>k_is); (case l=>k_is); (case c=>k_is); (case k=>k_is); (case b=>intro _ _ _ _ _ _ us hl; obtain⟨_,_,rfl⟩:=L2.len2 hl; rfl)
  have d_law_gaps_of:Dd (L2.KOf KX) mg "_law_gaps_of" My.s_law_gaps_of ["pen","drawing","most"]:=by
   dsimp only [L2.KOf];refine' Dd.mk' KX G ?a ?l ?c ?k ?b
   (case a=>k_is); (case l=>k_is); (case c=>k_is); (case k=>k_is); (case b=>intro _ _ _ _ _ _ us hl; obtain⟨_,_,_,rfl⟩:=L2.len3 hl; rfl)
  have d_law_text_of:Dd (L2.KOf KX) mg "_law_text_of" My.s_law_text_of ["drawing","gaps"]:=by
   dsimp only [L2.KOf];refine' Dd.mk' KX G ?a ?l ?c ?k ?b
   (case a=>k_is); (case l=>k_is); (case c=>k_is); (case k=>k_is); (case b=>intro _ _ _ _ _ _ us hl; obtain⟨_,_,rfl⟩:=L2.len2 hl; rfl)
  have d_is_name:Dd (L2.KOf KX) mg "is_name" My.s_is_name ["thing"]:=by
   dsimp only [L2.KOf];refine' Dd.mk' KX G ?a ?l ?c ?k ?b
   (case a=>k_is); (case l=>k_is); (case c=>k_is); (case k=>k_is); (case b=>intro _ _ _ _ _ _ us hl; obtain⟨_,rfl⟩:=L2.len1 hl; rfl)
  have d_is_whole:Dd (L2.KOf KX) mg "is_whole" My.s_is_whole ["thing"]:=by
   dsimp only [L2.KOf];refine' Dd.mk' KX G ?a ?l ?c ?k ?b
   (case a=>k_is); (case l=>k_is); (case c=>k_is); (case k=>k_is); (case b=>intro _ _ _ _ _ _ us hl; obtain⟨_,rfl⟩:=L2.len1 hl; rfl)
  have d_is_number:Dd (L2.KOf KX) mg "is_number" My.s_is_number ["thing"]:=by
   dsimp only [L2.KOf];refine' Dd.mk' KX G ?a ?l ?c ?k ?b
   (case a=>k_is); (case l=>k_is); (case c=>k_is); (case k=>k_is); (case b=>intro _ _ _ _ _ _ us hl; obtain⟨_,rfl⟩:=L2.len1 hl; rfl)
  have d_are_ends:Dd (L2.KOf KX) mg "are_ends" My.s_are_ends ["low","high"]:=by
   dsimp only [L2.KOf];refine' Dd.mk' KX G ?a ?l ?c ?k ?b
   (case a=>k_is); (case l=>k_is); (case c=>k_is); (case k=>k_is); (case b=>intro _ _ _ _ _ _ us hl; obtain⟨_,_,rfl⟩:=L2.len2 hl; rfl)
  have d_is_part:Dd (L2.KOf KX) mg "is_part" My.s_is_part ["thing"]:=by
   dsimp only [L2.KOf];refine' Dd.mk' KX G ?a ?l ?c ?k ?b
   (case a=>k_is); (case l=>k_is); (case c=>k_is); (case k=>k_is); (case b=>intro _ _ _ _ _ _ us hl; obtain⟨_,rfl⟩:=L2.len1 hl; rfl)
  have d_drawing_of:Dd (L2.KOf KX) mg "drawing_of" My.s_drawing_of ["things"]:=by
   dsimp only [L2.KOf];refine' Dd.mk' KX G ?a ?l ?c ?k ?b
   (case a=>k_is); (case l=>k_is); (case c=>k_is); (case k=>k_is); (case b=>intro _ _ _ _ _ _ us hl; obtain⟨_,rfl⟩:=L2.len1 hl; rfl)
  have d_name_told:Dd (L2.KOf KX) mg "name_told" My.s_name_told ["word"]:=by
   dsimp only [L2.KOf];refine' Dd.mk' KX G ?a ?l ?c ?k ?b
   (case a=>k_is); (case l=>k_is); (case c=>k_is); (case k=>k_is); (case b=>intro _ _ _ _ _ _ us hl; obtain⟨_,rfl⟩:=L2.len1 hl; rfl)
  have d_number_told:Dd (L2.KOf KX) mg "number_told" My.s_number_told ["word"]:=by
   dsimp only [L2.KOf];refine' Dd.mk' KX G ?a ?l ?c ?k ?b
   (case a=>k_is); (case l=>k_is); (case c=>k_is); (case k=>k_is); (case b=>intro _ _ _ _ _ _ us hl; obtain⟨_,rfl⟩:=L2.len1 hl; rfl)
  have d_one_part_more:Dd (L2.KOf KX) mg "one_part_more" My.s_one_part_more ["drawing","words"]:=by
   dsimp only [L2.KOf];refine' Dd.mk' KX G ?a ?l ?c ?k ?b
   (case a=>k_is); (case l=>k_is); (case c=>k_is); (case k=>k_is); (case b=>intro _ _ _ _ _ _ us hl; obtain⟨_,_,rfl⟩:=L2.len2 hl; rfl)
  have d_part_called:Dd (L2.KOf KX) mg "part_called" My.s_part_called ["drawing","name"]:=by
   dsimp only [L2.KOf];refine' Dd.mk' KX G ?a ?l ?c ?k ?b
   (case a=>k_is); (case l=>k_is); (case c=>k_is); (case k=>k_is); (case b=>intro _ _ _ _ _ _ us hl; obtain⟨_,_,rfl⟩:=L2.len2 hl; rfl)
  have d_is_term:Dd (L2.KOf KX) mg "is_term" My.s_is_term ["drawing","thing"]:=by
   dsimp only [L2.KOf];refine' Dd.mk' KX G ?a ?l ?c ?k ?b
   (case a=>k_is); (case l=>k_is); (case c=>k_is); (case k=>k_is); (case b=>intro _ _ _ _ _ _ us hl; obtain⟨_,_,rfl⟩:=L2.len2 hl; rfl)
  have d_are_terms:Dd (L2.KOf KX) mg "are_terms" My.s_are_terms ["drawing","thing"]:=by
   dsimp only [L2.KOf];refine' Dd.mk' KX G ?a ?l ?c ?k ?b
   (case a=>k_is); (case l=>k_is); (case c=>k_is); (case k=>k_is); (case b=>intro _ _ _ _ _ _ us hl; obtain⟨_,_,rfl⟩:=L2.len2 hl; rfl)
  have d_is_gap:Dd (L2.KOf KX) mg "is_gap" My.s_is_gap ["drawing","thing"]:=by
   dsimp only [L2.KOf];refine' Dd.mk' KX G ?a ?l ?c ?k ?b
   (case a=>k_is); (case l=>k_is); (case c=>k_is); (case k=>k_is); (case b=>intro _ _ _ _ _ _ us hl; obtain⟨_,_,rfl⟩:=L2.len2 hl; rfl)
  have d_one_gap_more:Dd (L2.KOf KX) mg "one_gap_more" My.s_one_gap_more ["drawing","gaps","words"]:=by
   dsimp only [L2.KOf];refine' Dd.mk' KX G ?a ?l ?c ?k ?b
   (case a=>k_is); (case l=>k_is); (case c=>k_is); (case k=>k_is); (case b=>intro _ _ _ _ _ _ us hl; obtain⟨_,_,_,rfl⟩:=L2.len3 hl; rfl)
  have d_with_row:Dd (L2.KOf KX) mg "with_row" My.s_with_row ["job","words"]:=by
   dsimp only [L2.KOf];refine' Dd.mk' KX G ?a ?l ?c ?k ?b
   (case a=>k_is); (case l=>k_is); (case c=>k_is); (case k=>k_is); (case b=>intro _ _ _ _ _ _ us hl; obtain⟨_,_,rfl⟩:=L2.len2 hl; rfl)
  have d_read:Dd (L2.KOf KX) mg "read" My.s_read ["text"]:=by
   dsimp only [L2.KOf];refine' Dd.mk' KX G ?a ?l ?c ?k ?b
   (case a=>k_is); (case l=>k_is); (case c=>k_is); (case k=>k_is); (case b=>intro _ _ _ _ _ _ us hl; obtain⟨_,rfl⟩:=L2.len1 hl; rfl)
  have d_law_whole:Dd (L2.KOf KX) mg "_law_whole" My.s_law_whole ["found"]:=by
   dsimp only [L2.KOf];refine' Dd.mk' KX G ?a ?l ?c ?k ?b
   (case a=>k_is); (case l=>k_is); (case c=>k_is); (case k=>k_is); (case b=>intro _ _ _ _ _ _ us hl; obtain⟨_,rfl⟩:=L2.len1 hl; rfl)
  have d_law_alike:Dd (L2.KOf KX) mg "_law_alike" My.s_law_alike ["found","due"]:=by
   dsimp only [L2.KOf];refine' Dd.mk' KX G ?a ?l ?c ?k ?b
   (case a=>k_is); (case l=>k_is); (case c=>k_is); (case k=>k_is); (case b=>intro _ _ _ _ _ _ us hl; obtain⟨_,_,rfl⟩:=L2.len2 hl; rfl)
  have d_gap_row:Dd (L2.KOf KX) mg "gap_row" My.s_gap_row ["drawing","gap"]:=by
   dsimp only [L2.KOf];refine' Dd.mk' KX G ?a ?l ?c ?k ?b
   (case a=>k_is); (case l=>k_is); (case c=>k_is); (case k=>k_is); (case b=>intro _ _ _ _ _ _ us hl; obtain⟨_,_,rfl⟩:=L2.len2 hl; rfl)
  have d_shown:Dd (L2.KOf KX) mg "shown" My.s_shown ["job"]:=by
   dsimp only [L2.KOf];refine' Dd.mk' KX G ?a ?l ?c ?k ?b
   (case a=>k_is); (case l=>k_is); (case c=>k_is); (case k=>k_is); (case b=>intro _ _ _ _ _ _ us hl; obtain⟨_,rfl⟩:=L2.len1 hl; rfl)
  have d_law:Dd (L2.KOf KX) mg "law" My.s_law ["script"]:=by
   dsimp only [L2.KOf];refine' Dd.mk' KX G ?a ?l ?c ?k ?b
   (case a=>k_is); (case l=>k_is); (case c=>k_is); (case k=>k_is); (case b=>intro _ _ _ _ _ _ us hl; obtain⟨_,rfl⟩:=L2.len1 hl; rfl)
  have g14:∃ t,mg "LONGEST_NAME" = some (.int 8 t):=by
   apply Exists.intro;apply W.mg_of KX G
   k_is
  have g15:∃ t,mg "LETTERS" = some (.str "abcdefghijklmnopqrstuvwxyz" t):=by
   apply Exists.intro;apply W.mg_of KX G
   k_is
  have g16:∃ t,mg "MOST_PARTS" = some (.int 8 t):=by
   apply Exists.intro;apply W.mg_of KX G
   k_is
  have g17:∃ t,mg "FIGURES" = some (.str "0123456789" t):=by
   apply Exists.intro;apply W.mg_of KX G
   k_is
  have g18:∃ t,mg "MOST_FIGURES" = some (.int 60 t):=by
   apply Exists.intro;apply W.mg_of KX G
   k_is
  have g19:∃ t,mg "MOST_TIMES" = some (.int 3 t):=by
   apply Exists.intro;apply W.mg_of KX G
   k_is
  have g20:∃ t,mg "MOST_TERMS" = some (.int 8 t):=by
   apply Exists.intro;apply W.mg_of KX G
   k_is
  have g21:∃ t,mg "MOST_GAPS" = some (.int 6 t):=by
   apply Exists.intro;apply W.mg_of KX G
   k_is
  have T:My.Txt mg:=by
   refine' ⟨W.mg_none_of KX G ?z0,W.mg_none_of KX G ?z1,W.mg_none_of KX G ?z2,W.mg_none_of KX G ?z3,W.mg_none_of KX G ?z4,W.mg_none_of KX G ?z5,W.mg_none_of KX G ?z6,W.mg_none_of KX G ?z7,W.mg_none_of KX G ?z8,W.mg_none_of KX G ?z9,W.mg_none_of KX G ?z10,W.mg_none_of KX G ?z11,W.mg_none_of KX G ?z12,W.mg_none_of KX G ?z13,g14,g15,g16,g17,g18,g19,g20,g21⟩
   (case z0=>k_is); (case z1=>k_is); (case z2=>k_is); (case z3=>k_is); (case z4=>k_is); (case z5=>k_is); (case z6=>k_is); (case z7=>k_is); (case z8=>k_is); (case z9=>k_is); (case z10=>k_is); (case z11=>k_is); (case z12=>k_is); (case z13=>k_is)
  have dd:My.Dds (L2.KOf KX) mg:=⟨d_law_cell_at,d_law_pen_of,d_law_next,d_law_draw,d_law_names_of,d_law_number,d_law_span,d_law_drawing_of,d_law_ends_of,d_law_gap_of,d_law_gaps_of,d_law_text_of,d_is_name,d_is_whole,d_is_number,d_are_ends,d_is_part,d_drawing_of,d_name_told,d_number_told,d_one_part_more,d_part_called,d_is_term,d_are_terms,d_is_gap,d_one_gap_more,d_with_row,d_read,d_law_whole,d_law_alike,d_gap_row,d_shown⟩;obtain⟨f,fd,F,hm,_⟩:=d_law.ex;have e0:=hmg.symm.trans hm;cases e0;exact⟨fd,F.bind1 fun _ _ _ _ _ _ _=>rfl,fun base _ _=>My.ok_law F T dd⟩
#print axioms PySem.Challenge.cw_gaugewright_k71_jobs_read_holds
end