import PyProof.Rows.All
import Wide.All
import OpenK.AllK
import Wide.FinOn
import Lean
import PyProof.EqAt
import PyProof.EqKinds
import PyProof.TupleCall
import KE.KTupSum
import KE.KSortTup
import PyProof.SetKind
import PyProof.SetRoads
import PyProof.SetNew
import PyProof.DictKinds
import PyProof.NsDelKeeps
import PyProof.StrWalks
import KE.KEqDict
import KE.KDictList
import PyProof.AttrMissSeq
import PyProof.WalksMore
import KE.KDictOf
import PyProof.Rows.Range3
import KE.KItemsList
import PyProof.FactsAll.dict_3
import KE.KMinKey
import PyProof.Rows.CallKwBuiltin
import PyProof.TupleOfSeq
import PySem.Challenge.RW_gaugewright_k33_whole_all_are_counted
set_option Elab.async false
set_option linter.all false
set_option maxRecDepth 100000
set_option maxHeartbeats 8000000
noncomputable section
namespace L2
open PySem PySem.Spec PyProof.Rows
section
abbrev Key:=Sum Int Str
def zky:Key->Value->Bool
 | .inl k,v=>Value.isInt k v
 | .inr x,v=>Value.isStrOf x v
def zu7(w:World):Key->Int
 | .inl k=>hashInt k
 | .inr x=>hashStr w x
theorem zaM:∀ {k:Key} {v:Value},zky k v=true->(∃ i t,k=Sum.inl i/\v=Value.int i t)\/(∃ x t,k=Sum.inr x/\v=Value.str x t)
 | .inl i,v,h=>by
  obtain⟨t,e⟩:=Value.isInt_shape (k:=i) (v:=v) h;exact .inl ⟨i,t,rfl,e⟩
 | .inr x,v,h=>by
  obtain⟨t,e⟩:=Value.isStrOf_shape (x:=x) (v:=v) h;exact .inr ⟨x,t,rfl,e⟩
theorem znQ(i:Int)(t:Tok):zky (.inl i) (.int i t)=true:=by simp [zky,Value.isInt]
theorem zmQ(x:Str)(t:Tok):zky (.inr x) (.str x t)=true:=by simp [zky,Value.isStrOf]
theorem zsT(a b:Int):decide ((Sum.inl a:Key)=Sum.inl b)=(a == b):=by
 by_cases e:a=b
 ·subst e; simp
 ·have h:¬ (Sum.inl a:Key)=Sum.inl b:=fun q=>e (Sum.inl.inj q);rw [decide_eq_false h];exact(beq_eq_false_iff_ne.mpr e).symm
theorem zsZ(a b:Str):decide ((Sum.inr a:Key)=Sum.inr b)=decide (a=b):=by
 by_cases e:a=b
 ·subst e; simp
 ·have h:¬ (Sum.inr a:Key)=Sum.inr b:=fun q=>e (Sum.inr.inj q);rw [decide_eq_false h,decide_eq_false e]
theorem ztq(a:Int)(b:Str):decide ((Sum.inl a:Key)=Sum.inr b)=false:=decide_eq_false (fun q=>nomatch q)
theorem zs6(a:Str)(b:Int):decide ((Sum.inr a:Key)=Sum.inl b)=false:=decide_eq_false (fun q=>nomatch q)
def zah(prog:Program)(w:World):PySem.KeyKind prog w Key where
 is:=zky
 hash:=zu7 w
 inj:=fun v a b ha hb=>by
  rcases zaM ha with ⟨i,t,rfl,rfl⟩ | ⟨x,t,rfl,rfl⟩
  ·rcases zaM hb with ⟨j,u,rfl,e⟩ | ⟨y,u,rfl,e⟩
   ·injection e with e1 _; rw [e1]
   ·exact nomatch e
  ·rcases zaM hb with ⟨j,u,rfl,e⟩ | ⟨y,u,rfl,e⟩
   ·exact nomatch e
   ·injection e with e1 _; rw [e1]
 byValue:=fun k v h=>by
  rcases zaM h with ⟨i,t,rfl,rfl⟩ | ⟨x,t,rfl,rfl⟩ <;> rfl
 pyHash:=fun hv h=>by
  rcases zaM hv with ⟨i,t,rfl,rfl⟩ | ⟨x,t,rfl,rfl⟩
  ·exact wpAny_pyHash_int h
  ·exact wpAny_pyHash_str h
 eqBool:=fun hu hv h=>by
  rcases zaM hu with ⟨i,t,rfl,rfl⟩ | ⟨x,t,rfl,rfl⟩
  ·rcases zaM hv with ⟨j,u,rfl,rfl⟩ | ⟨y,u,rfl,rfl⟩
   ·rw [zsT] at h; exact wpAny_eqBool_int h
   ·rw [ztq] at h; exact SeqAt.EqAt.int_str i t y u _ _ _ _ h
  ·rcases zaM hv with ⟨j,u,rfl,rfl⟩ | ⟨y,u,rfl,rfl⟩
   ·rw [zs6] at h; exact SeqAt.EqAt.str_int x t j u _ _ _ _ h
   ·rw [zsZ] at h; exact wpAny_eqBool_str h
 «strs»:=fun k x t v h=>by
  rcases zaM h with ⟨i,u,rfl,e⟩ | ⟨y,u,rfl,e⟩
  ·exact nomatch e
  ·injection e with e1 _
   subst e1;cases v <;> rfl
theorem zj3(prog:Program)(w:World)(i:Int)(t:Tok):(zah prog w).is (.inl i) (.int i t)=true:=znQ i t
theorem zkc(prog:Program)(w:World)(x:Str)(t:Tok):(zah prog w).is (.inr x) (.str x t)=true:=zmQ x t
end
section
inductive V where
 | non | bl (b:Bool) | int (i:Int) | str (x:Str) | byt (b:Array UInt8) | flt (b:UInt64) | ref (a:Addr) | ty (n:String)
 deriving DecidableEq
def RelV:V->Value->Prop
 | .non,u=>u=Value.none
 | .bl b,u=>u=Value.bool b
 | .int i,u=>∃ t,u=Value.int i t
 | .str x,u=>∃ t,u=Value.str x t
 | .byt b,u=>∃ t,u=Value.bytes b t
 | .flt b,u=>∃ t,u=Value.float b t
 | .ref a,u=>u=Value.ref a
 | .ty n,u=>u=Value.type n
abbrev Vals:List V->List Value->Prop:=Paired RelV
theorem Vals.length{xs:List V}{us:List Value}(r:Vals xs us):xs.length=us.length:=Paired.length r
theorem Vals.get:∀ {xs:List V} {us:List Value} {i:Nat} {x:V},Vals xs us->xs[i]? = some x->∃ u,us[i]? = some u/\RelV x u
 | _,_,_,_,.nil,e=>by simp at e
 | _,_,0,_,.cons r _,e=>by simp at e; subst e; exact⟨_,rfl,r⟩
 | _,_,i+1,x,.cons _ t,e=>by
  obtain⟨u,h1,h2⟩:=Vals.get (i:=i) (x:=x) t (by simpa using e);exact⟨u,by simpa using h1,h2⟩
theorem Vals.set{x:V}{u:Value}(r:RelV x u):∀ {xs:List V} {us:List Value} (i:Nat),Vals xs us->Vals (xs.set i x) (us.set i u)
 | _,_,_,.nil=>.nil
 | _,_,0,.cons _ t=>.cons r t
 | _,_,i+1,.cons q t=>.cons q (Vals.set r i t)
theorem Vals.append:∀ {xs ys:List V} {us ws:List Value},Vals xs us->Vals ys ws->Vals (xs++ys) (us++ws)
 | _,_,_,_,.nil,s=>s
 | _,_,_,_,.cons r t,s=>.cons r (Vals.append t s)
theorem Vals.take:∀ {xs:List V} {us:List Value} (n:Nat),Vals xs us->Vals (xs.take n) (us.take n)
 | _,_,0,_=>.nil
 | _,_,_+1,.nil=>.nil
 | _,_,n+1,.cons r t=>.cons r (Vals.take n t)
theorem Vals.drop:∀ {xs:List V} {us:List Value} (n:Nat),Vals xs us->Vals (xs.drop n) (us.drop n)
 | _,_,0,r=>r
 | _,_,_+1,.nil=>.nil
 | _,_,n+1,.cons _ t=>Vals.drop n t
def RelO:Option V->Option Value->Prop
 | some v,some u=>RelV v u
 | none,none=>True
 | _,_=>False
def KV{κ:Type}:List (κ×V)->List (κ×Value)->Prop:=Paired fun(p:κ×V) (q:κ×Value)=>p.1=q.1/\RelV p.2 q.2
def kV:Key->V
 | .inl i=>.int i
 | .inr x=>.str x
inductive HO where
 | lst (xs:List V)
 | tup (xs:List V)
 | dK (kvs:List (Key×V)) | dT (kvs:List (List Key×V))
 | set (S:Int->Bool) (n:Nat)
 | ins (C dx:Addr) (fs:List (Str×V))
 | own (x:Addr)
 | xd (fs:List (Str×V))
 | met (f x:Addr)
 | rng (lo hi:Int)
 | frz (o:Obj) (u:HO)
 | tbl (ps:Array Value)
 | ext (φ:Heap->Prop)
abbrev Hp:=Addr->Option HO
def upd(H:Hp)(a:Addr)(o:HO):Hp:=fun b=>if b=a then some o else H b
theorem zam{H:Hp}{a:Addr}{o:HO}:upd H a o a=some o:=by unfold upd; rw [if_pos rfl]
theorem zZ{H:Hp}{a b:Addr}{o:HO}(h:b≠a):upd H a o b=H b:=by unfold upd; rw [if_neg h]
theorem zh6{H:Hp}{a:Addr}{o u:HO}:upd (upd H a o) a u=upd H a u:=by
 funext b; unfold upd; split <;> rfl
theorem zub{H:Hp}{a b:Addr}{o u:HO}(h:H a=some o)(h':H b=some u)(d:o≠u):a≠b:=by
 intro e; subst e; rw [h] at h'; exact d (Option.some.inj h')
theorem zal{H:Hp}{a b:Addr}{o:HO}(h:H a=some o)(h':H b=none):a≠b:=by
 intro e; subst e; rw [h] at h'; cases h'
section
variable (P:Program) (w:World)
def ObjOk(H:Hp)(h:Heap)(a:Addr):HO->Prop
 | .lst xs=>xs.length<=sizeLine/\∃ (its:List Value) (n:Nat),Vals xs its/\h.get? a=some { cls:=.type "list",data:=.seq its.toArray n }
 | .tup xs=>(xs.length<=sizeLine/\∃ o:Obj,h.get? a=some o/\o.dict=none)/\∃ its:List Value,Vals xs its/\IsTup h a its.toArray
 | .dK kvs=>kvs.length<=sizeLine/\(a == sysModules)=false/\∃ vs,KV kvs vs/\h.DictOf (zah P w) a vs
 | .dT kvs=>kvs.length<=sizeLine/\(a == sysModules)=false/\∃ xs:List (List Key×Addr×Value),
   Paired (fun(p:List Key×V) (q:List Key×Addr×Value)=>p.1=q.1/\H q.2.1=some (.tup (p.1.map kV))/\RelV p.2 q.2.2) kvs xs /\
   ∃ o es ep,h.get? a=some o/\o.ExactDict/\o.data=.dict es ep/\es.toList=xs.map (entryOfKey (tupleKind (zah P w)))/\(xs.map (·.1)).Nodup
 | .set S n=>h.SetOf (intKind P w) a S n
 | .ins C dx fs=>H dx=some (.own a)/\fs.length<=1000/\dx≠a/\h.get? a=some (PySem.W.instObj C dx) /\
   ∃ mA,h.Ns1 dx mA/\(∀ f,RelO (fs.lookup f) (mA f))/\PySem.Within mA (fs.map (·.1))
 | .own _=>∃ o,h.get? a=some o
 | .xd fs=>∃ mA,h.Ns1 a mA/\∀ f,RelO (fs.lookup f) (mA f)
 | .rng lo hi=>∃ t u v,h.get? a=some { cls:=.type "range",data:=.fields #[.int lo t,.int hi u,.int 1 v] }
 | .frz o u=>h.get? a=some o/\ObjOk H h a u
 | .tbl ps=>h.get? a=some { cls:=.none,data:=.fields ps }
 | .met f x=>h.get? a=some (PySem.W.methodObj (.ref f) (.ref x))
 | .ext φ=>φ h/\(∃ o,h.get? a=some o)/\∀ h1 h2:Heap,φ h1->(∀ o,h1.get? a=some o->h2.get? a=some o)->φ h2
def HOk(H:Hp)(h:Heap):Prop:=∀ a o,H a=some o->ObjOk P w H h a o
end
section
variable {P:Program} {w:World} {H H':Hp} {h h':Heap} {a:Addr} {o:HO}
theorem ObjOk.lt(x:ObjOk P w H h a o):a<h.objs.size:=by
 cases o with
 | lst xs=>obtain⟨_,_,_,_,e⟩:=x; exact Heap.lt_size e
 | tup xs=>obtain⟨_,_,_,p⟩:=x; exact p.lt
 | dK kvs=>obtain⟨_,_,_,_,o,_,_,e,_⟩:=x; exact Heap.lt_size e
 | dT kvs=>obtain⟨_,_,_,_,o,_,_,e,_⟩:=x; exact Heap.lt_size e
 | set S n=>obtain⟨o,_,_,_,e,_⟩:=x; exact Heap.lt_size e
 | ins C dx fs=>obtain⟨_,_,_,e,_⟩:=x; exact Heap.lt_size e
 | own y=>obtain⟨_,e⟩:=x; exact Heap.lt_size e
 | xd fs=>obtain⟨_,⟨_,_,_,e,_⟩,_⟩:=x; exact Heap.lt_size e
 | rng lo hi=>obtain⟨_,_,_,e⟩:=x; exact Heap.lt_size e
 | frz ob u=>obtain⟨e,_⟩:=x; exact Heap.lt_size e
 | tbl ps=>exact Heap.lt_size (show h.get? a=some _ from x)
 | met f y=>exact Heap.lt_size (show h.get? a=some _ from x)
 | ext φ=>obtain⟨_,⟨_,e⟩,_⟩:=x; exact Heap.lt_size e
theorem Paired.mapP{α β:Type}{F G:α->β->Prop}:∀ {l₁:List α} {l₂:List β},Paired F l₁ l₂->(∀ a b,F a b->G a b)->Paired G l₁ l₂
 | _,_,.nil,_=>.nil
 | _,_,.cons r t,f=>.cons (f _ _ r) (Paired.mapP t f)
theorem ObjOk.stay(x:ObjOk P w H h a o)(k:∀ b u,(b=a\/H b=some (.own a))->h.get? b=some u->h'.get? b=some u)
  (ho:∀ b,H b=some (.own a)->H' b=some (.own a)) (ht:∀ b xs,H b=some (.tup xs)->H' b=some (.tup xs)):ObjOk P w H' h' a o:=by
 induction o with
 | lst xs=>obtain⟨z,its,n,r,e⟩:=x; exact⟨z,its,n,r,k _ _ (.inl rfl) e⟩
 | tup xs=>obtain⟨⟨z,o2,e2,d2⟩,its,r,ob,e,c⟩:=x; exact⟨⟨z,o2,k _ _ (.inl rfl) e2,d2⟩,its,r,ob,k _ _ (.inl rfl) e,c⟩
 | dK kvs=>obtain⟨z,y,vs,r,ob,es,ep,e,c⟩:=x; exact⟨z,y,vs,r,ob,es,ep,k _ _ (.inl rfl) e,c⟩
 | dT kvs =>
  obtain⟨z,y,xs,r,ob,es,ep,e,c⟩:=x;exact⟨z,y,xs,Paired.mapP r fun p q z=>⟨z.1,ht _ _ z.2.1,z.2.2⟩,ob,es,ep,k _ _ (.inl rfl) e,c⟩
 | set S n=>obtain⟨ob,es,ep,t,e,c⟩:=x; exact⟨ob,es,ep,t,k _ _ (.inl rfl) e,c⟩
 | ins C dx fs =>
  obtain⟨d,z,ne,e,mA,⟨od,es,ep,e2,c⟩,r⟩:=x;exact⟨ho _ d,z,ne,k _ _ (.inl rfl) e,mA,⟨od,es,ep,k _ _ (.inr d) e2,c⟩,r⟩
 | own y=>obtain⟨ob,e⟩:=x; exact⟨ob,k _ _ (.inl rfl) e⟩
 | xd fs=>obtain⟨mA,⟨od,es,ep,e,c⟩,r⟩:=x; exact⟨mA,⟨od,es,ep,k _ _ (.inl rfl) e,c⟩,r⟩
 | rng lo hi=>obtain⟨t,u,v,e⟩:=x; exact⟨t,u,v,k _ _ (.inl rfl) e⟩
 | frz ob u ih=>obtain⟨e,q⟩:=x; exact⟨k _ _ (.inl rfl) e,ih q⟩
 | tbl ps =>
  have e:h.get? a=some { cls:=.none,data:=.fields ps }:=x;show h'.get? a=some { cls:=.none,data:=.fields ps };exact k a _ (.inl rfl) e
 | met f y =>
  have e:h.get? a=some (PySem.W.methodObj (.ref f) (.ref y)):=x;show h'.get? a=some (PySem.W.methodObj (.ref f) (.ref y));exact k a _ (.inl rfl) e
 | ext φ=>obtain⟨p,⟨o,e⟩,st⟩:=x; exact⟨st _ _ p fun o q=>k _ _ (.inl rfl) q,⟨o,k _ _ (.inl rfl) e⟩,st⟩
theorem HOk.lt(x:HOk P w H h)(e:H a=some o):a<h.objs.size:=(x a o e).lt
theorem HOk.fresh(x:HOk P w H h)(e:h.objs.size<=a):H a=none:=by
 cases q:H a with
 | none=>rfl
 | some u=>exact absurd (Nat.lt_of_lt_of_le (x.lt q) e) (Nat.lt_irrefl _)
theorem HOk.kept(x:HOk P w H h)(k:∀ b u,h.get? b=some u->h'.get? b=some u):HOk P w H h':=fun a o e =>
 (x a o e).stay (fun b u _ q=>k b u q) (fun _ q=>q) fun _ _ q=>q
theorem HOk.laid(x:HOk P w H h)(k:∀ b u,h.get? b=some u->h'.get? b=some u)(hp:h.objs.size<=a)(new:ObjOk P w (upd H a o) h' a o):HOk P w (upd H a o) h':=fun b u e=>by
 have hn:=x.fresh hp;by_cases hb:b=a
 ·subst hb; rw [zam] at e; cases e; exact new
 ·rw [zZ hb] at e;exact(x b u e).stay (fun c v _ q=>k c v q) (fun c q=>by rw [zZ (zal q hn)]; exact q) fun c xs q=>by rw [zZ (zal q hn)]; exact q
end
def Rd(H:Hp)(a:Addr)(u:HO):Prop:=H a=some u\/∃ o,H a=some (.frz o u)
theorem Rd.ok{P:Program}{w:World}{H:Hp}{h:Heap}{a:Addr}{u:HO}(r:Rd H a u)(x:HOk P w H h):ObjOk P w H h a u:=by
 rcases r with r | ⟨o,r⟩
 ·exact x a u r
 ·obtain⟨_,q⟩:=x a _ r;exact q
def Mut:Option HO->Prop
 | some (.lst _)=>True
 | some (.dK _)=>True
 | some (.dT _)=>True
 | some (.set _ _)=>True
 | some (.ins _ _ _)=>True
 | some (.ext _)=>True
 | _=>False
section
variable {P:Program} {w:World} {H:Hp} {h h':Heap} {x e:Addr} {o':HO}
theorem HOk.write(ok:HOk P w H h)(mu:Mut (H x))(he:e=x\/H e=some (.own x))(k:∀ b u,b≠e->h.get? b=some u->h'.get? b=some u)(heo:∃ u,h'.get? e=some u)
  (new:ObjOk P w (upd H x o') h' x o'):HOk P w (upd H x o') h':=fun b u q=>by
 have nown:∀ c y,H c=some (.own y)->c≠x:=fun c y r z=>by subst z; rw [r] at mu; exact mu
 have ntup:∀ c xs,H c=some (.tup xs)->c≠x:=fun c xs r z=>by subst z; rw [r] at mu; exact mu
 by_cases hb:b=x
 ·subst hb; rw [zam] at q; cases q; exact new
 ·rw [zZ hb] at q;by_cases hbe:b=e
  ·have q':H b=some (.own x):=by
    rcases he with z | z
    ·exact absurd (hbe.trans z) hb
    ·rw [hbe]; exact z
   rw [q] at q'; cases q';obtain⟨v,hv⟩:=heo;exact⟨v,by rw [hbe]; exact hv⟩
  ·refine(ok b u q).stay (fun c v hc r=>k c v ?_ r) (fun c r=>by rw [zZ (nown c b r)]; exact r) fun c xs r=>by rw [zZ (ntup c xs r)]; exact r
   rcases hc with rfl | hc
   ·exact hbe
   ·rintro rfl;rcases he with z | z
    ·exact nown c b hc z
    ·rw [hc] at z; cases z; exact hb rfl
end
structure Un(fs ex:List Addr)(H H':Hp)(h h':Heap):Prop where
 keep:∀ b o,h.get? b=some o->H b=none->b∉fs->b∉ex->h'.get? b=some o
 slot:∀ b o,h.get? b=some o->H b=none->b∈fs->b∉ex->∃ sl,h'.get? b=some { o with slots:=sl }
 free:∀ b o,h.get? b=some o->H b=none->b∉ex->H' b=none
 there:∀ b o,h.get? b=some o->b∉ex->∃ o',h'.get? b=some o'
 tups:∀ b xs,H b=some (.tup xs)->H' b=some (.tup xs)
 frzs:∀ b o u,H b=some (.frz o u)->H' b=some (.frz o u)
 tbls:∀ b ps,H b=some (.tbl ps)->∃ more,H' b=some (.tbl (ps++more))
section
variable {fs fs' ex ex':List Addr} {H H1 H2:Hp} {h h1 h2 h':Heap} {a x e:Addr} {o:HO}
theorem Un.any(u:Un fs ex H H1 h h1){b:Addr}{ob:Obj}(q:h.get? b=some ob)(n:H b=none)(hx:b∉ex):∃ sl,h1.get? b=some { ob with slots:=sl }:=by
 by_cases hb:b∈fs
 ·exact u.slot b ob q n hb hx
 ·exact⟨ob.slots,u.keep b ob q n hb hx⟩
theorem Un.trans(a:Un fs ex H H1 h h1)(b:Un fs ex H1 H2 h1 h2):Un fs ex H H2 h h2 where
 keep:=fun c ob q n hc hx=>b.keep c ob (a.keep c ob q n hc hx) (a.free c ob q n hx) hc hx
 slot:=fun c ob q n hc hx=>by
  obtain⟨sl,e1⟩:=a.slot c ob q n hc hx;obtain⟨sl',e2⟩:=b.slot c _ e1 (a.free c ob q n hx) hc hx;exact⟨sl',e2⟩
 free:=fun c ob q n hx=>by
  obtain⟨o',e1⟩:=a.there c ob q hx;exact b.free c o' e1 (a.free c ob q n hx) hx
 there:=fun c ob q hx=>by
  obtain⟨o',e1⟩:=a.there c ob q hx;exact b.there c o' e1 hx
 tups:=fun c xs q=>b.tups c xs (a.tups c xs q)
 frzs:=fun c ob xs q=>b.frzs c ob xs (a.frzs c ob xs q)
 tbls:=fun c ps q=>by
  obtain⟨m1,e1⟩:=a.tbls c ps q;obtain⟨m2,e2⟩:=b.tbls c _ e1;exact⟨m1++m2,by rw [e2,Array.append_assoc]⟩
theorem Un.kept(k:∀ b u,h.get? b=some u->h'.get? b=some u):Un fs ex H H h h' :=
 ⟨fun b ob q _ _ _=>k b ob q,fun b ob q _ _ _=>⟨ob.slots,k b ob q⟩,fun _ _ _ n _=>n,fun b ob q _=>⟨ob,k b ob q⟩,fun _ _ q=>q,fun _ _ _ q=>q,fun _ ps q=>⟨#[],by rw [q]; simp⟩⟩
theorem Un.refl:Un fs ex H H h h:=Un.kept fun _ _ q=>q
theorem Un.laid(k:∀ b u,h.get? b=some u->h'.get? b=some u)(hp:h.objs.size<=a)(hn:H a=none):Un fs ex H (upd H a o) h h' where
 keep:=fun b u q _ _ _=>k b u q
 slot:=fun b u q _ _ _=>⟨u.slots,k b u q⟩
 free:=fun b u q n _=>by rw [zZ (Nat.ne_of_lt (Nat.lt_of_lt_of_le (Heap.lt_size q) hp))]; exact n
 there:=fun b u q _=>⟨u,k b u q⟩
 tups:=fun b xs q=>by rw [zZ (zal q hn)]; exact q
 frzs:=fun b u xs q=>by rw [zZ (zal q hn)]; exact q
 tbls:=fun b ps q=>⟨#[],by rw [zZ (zal q hn),q]; simp⟩
theorem Un.write(mu:Mut (H x))(he:e=x\/H e=some (.own x))(k:∀ b u,b≠e->h.get? b=some u->h'.get? b=some u)(heo:∃ u,h'.get? e=some u):Un fs ex H (upd H x o) h h':=by
 have hx:∀ b,H b=none->b≠x:=fun b n z=>by subst z; rw [n] at mu; exact mu
 have hb:∀ b,H b=none->b≠e:=fun b n z=>by
  subst z;rcases he with r | r
  ·exact hx b n r
  ·rw [n] at r; cases r
 have hm:∀ b u,H b=some u->¬ Mut (some u)->b≠x:=fun b u q nm z=>by subst z; rw [q] at mu; exact nm mu
 refine⟨fun b u q n _ _=>k b u (hb b n) q,fun b u q n _ _=>⟨u.slots,k b u (hb b n) q⟩,fun b u q n _=>by rw [zZ (hx b n)]; exact n,fun b u q _=>?_,
  fun b xs q=>by rw [zZ (hm b _ q fun z=>z)]; exact q,fun b u xs q=>by rw [zZ (hm b _ q fun z=>z)]; exact q,fun b ps q=>⟨#[],by rw [zZ (hm b _ q fun z=>z),q]; simp⟩⟩
 by_cases hbe:b=e
 ·subst hbe; exact heo
 ·exact⟨u,k b u hbe q⟩
theorem Un.mono(u:Un fs ex H H1 h h1)(hs:∀ b∈fs,b∈fs')(hx:∀ b∈ex,b∈ex'):Un fs' ex' H H1 h h1 :=
 ⟨fun b ob q n hb he=>u.keep b ob q n (fun z=>hb (hs b z)) fun z=>he (hx b z),fun _ _ q n _ he=>u.any q n fun z=>he (hx _ z),fun b ob q n he=>u.free b ob q n fun z=>he (hx b z),fun b ob q he=>u.there b ob q fun z=>he (hx b z),u.tups,u.frzs,u.tbls⟩
end
def trk(h:Heap)(H:Hp):List Addr:=(List.range h.objs.size).filter fun a=>(H a).isSome
def zpg(h:Heap)(H:Hp):Heap:=PySem.W.hideAll h (trk h H)
theorem zne(h:Heap)(H:Hp):(zpg h H).objs.size=h.objs.size:=PySem.W.hideAll_size _ _
theorem zoJ{h:Heap}{H:Hp}{b:Addr}{o:Obj}(e:h.get? b=some o)(n:H b=none):(zpg h H).get? b=some o :=
 PySem.W.hideAll_get _ e fun hm=>by
  have q:(H b).isSome=true:=(List.mem_filter.mp hm).2;rw [n] at q; simp at q
theorem zrO{h:Heap}{H:Hp}{b:Addr}{o:Obj}(e:(zpg h H).get? b=some o):h.get? b=some o/\H b=none:=by
 have e':h.get? b=some o:=PySem.W.of_hideAll (trk h H) e;refine⟨e',?_⟩;cases q:H b with
 | none=>rfl
 | some x =>
  have hm:b∈trk h H:=List.mem_filter.mpr ⟨List.mem_range.mpr (Heap.lt_size e'),by simp [q]⟩;have z:(zpg h H).get? b=none:=PySem.W.hideAll_none (trk h H) hm;rw [z] at e; cases e
def zry(g h:Heap)(L:Addr):List (Addr×Obj):=(List.range h.objs.size).filterMap fun a=>if a=L\/(g.get? a).isSome=true then none else (h.get? a).map fun o=>(a,o)
def rest(g h:Heap)(L d:Addr):List (Addr×Obj):=(zry g h L).filter fun p=>decide (p.1≠d)
end
section
structure Mod(K:W.Frag)(mg:Str->Option Value)(base:Heap):Prop where
 kin:K.In base
 glob:base.Ns mainGlobals mg
 blt:∃ mb,base.Ns builtinsNs mb/\∀ x:Str,x ≠ "__name__"->mb x=bootBuiltins x
 nolimit:base.NoLimit
structure Cx where
 prog:Program
 w:World
 K:W.Frag
 mg:Str->Option Value
 base:Heap
 A:Around
 N:List Str
 s₀:Shared
 H₀:Hp
 env:Env
 outer:List Env
 stack:List Env
 ex:List Addr
 fn:Str->Bool
 calm:Bool
 pn:List (Addr×Obj)
 xe:Value->Shared->Prop
def frs(l:List Env):List Addr:=l.filterMap (·.frame)
abbrev Cx.fs (X:Cx):List Addr:=frs X.outer
def Vis(sc:Scope)(x:Str):Prop:=sc.names.lookup x=some .local\/sc.names.lookup x=some .cell\/sc.names.lookup x=some .free
def Loc(sc:Scope)(x:Str):Prop:=sc.names.lookup x=some .local\/sc.names.lookup x=some .cell
def Look(env:Env)(h:Heap)(m:Str->Option Value)(x:Str)(u:Value):Prop :=
 (env.kindOf x=some .local/\m x=some u)\/((env.kindOf x=some .cell\/env.kindOf x=some .free)/\∃ c,env.cells.lookup x=some c/\h.IsCell c (some u))
structure Cx.Ok(X:Cx):Prop where
 mod:Mod X.K X.mg X.base
 kind:X.env.scope.kind=.function
 glob:X.env.globals=mainGlobals
 blt:X.env.builtins=builtinsNs
 above:X.s₀.heap.objs.size<=X.env.locals
 inj:∀ x y c,X.env.cells.lookup x=some c->X.env.cells.lookup y=some c->x=y
 has:∀ x,(X.env.kindOf x=some .cell\/X.env.kindOf x=some .free)->∃ c,X.env.cells.lookup x=some c
 cab:∀ x c,X.fn x=true->X.env.cells.lookup x=some c->X.s₀.heap.objs.size<=c
 hd:X.calm=true->X.A.handled=none
 frames:X.A.frames=some X.stack
 stk:X.stack=X.outer\/(X.stack=X.env :: X.outer/\X.env.frame=some X.env.locals)
 exf:∀ b∈X.ex,b≠X.env.locals/\∀ x c,X.env.cells.lookup x=some c->c≠b
 bs:∀ b o,X.base.get? b=some o->X.s₀.heap.get? b=some o/\X.H₀ b=none
 bsz:X.base.objs.size<=X.s₀.heap.objs.size
 noex:∀ b o,X.base.get? b=some o->b∉X.ex
 exfs:∀ b∈X.ex,b∉X.fs
 funs:X.s₀.heap.FunFrames X.base X.outer
 frf:∀ b∈X.fs,X.H₀ b=none
structure Inv(X:Cx)(zl:List (Addr×Obj))(σ:List (Option V))(H:Hp)(s:Shared):Prop where
 ok:X.Ok
 os:s.os=X.s₀.os
 bare:AllBare s.gens
 base:Un X.fs X.ex X.H₀ H X.s₀.heap s.heap
 loc:∃ m,s.heap.Ns X.env.locals m/\∀ (i:Nat) (x:Str) (v:V),X.N[i]? = some x->σ[i]? = some (some v)->Vis X.env.scope x->∃ u,RelV v u/\Look X.env s.heap m x u
 cell:∀ x c,X.env.cells.lookup x=some c->∃ v,s.heap.IsCell c v
 free:H X.env.locals=none
 freeC:∀ x c,X.env.cells.lookup x=some c->H c=none
 pin:∀ p∈X.pn++zl,s.heap.get? p.1=some p.2/\H p.1=none/\p.1≠X.env.locals/\p.1∉X.fs/\∀ v,p.2.data≠.cell v
 hok:HOk X.prog X.w H s.heap
 len:σ.length=X.N.length
section
variable {X:Cx} {zl:List (Addr×Obj)} {σ:List (Option V)} {H H':Hp} {s:Shared} {h':Heap}
theorem Cx.Ok.nofr(ok:X.Ok){b:Addr}{o:Obj}(e:X.base.get? b=some o):b∉X.fs:=fun hb=>by
 have:=(ok.funs.mem hb).1;rw [e] at this; cases this
theorem Inv.bs(I:Inv X zl σ H s):∀ b o,X.base.get? b=some o->s.heap.get? b=some o/\H b=none:=fun b o e =>
 ⟨I.base.keep b o (I.ok.bs b o e).1 (I.ok.bs b o e).2 (I.ok.nofr e) (I.ok.noex b o e),I.base.free b o (I.ok.bs b o e).1 (I.ok.bs b o e).2 (I.ok.noex b o e)⟩
theorem Inv.bk(I:Inv X zl σ H s):∀ b o,X.base.get? b=some o->s.heap.get? b=some o:=fun b o e=>(I.bs b o e).1
theorem Inv.mod(I:Inv X zl σ H s):Mod X.K X.mg X.base:=I.ok.mod
theorem Inv.kIn(I:Inv X zl σ H s):X.K.In s.heap:=I.ok.mod.kin.keeps I.bk
theorem Inv.lt(I:Inv X zl σ H s):X.env.locals<s.heap.objs.size:=let ⟨_,hn,_⟩:=I.loc; hn.lt
theorem Inv.sz(I:Inv X zl σ H s):X.s₀.heap.objs.size<=s.heap.objs.size:=Nat.le_trans I.ok.above (Nat.le_of_lt I.lt)
theorem Inv.nofs(I:Inv X zl σ H s){a:Addr}(h:s.heap.objs.size<=a):a∉X.fs:=fun hb=>by
 obtain⟨_,o,ho,_⟩:=I.ok.funs.mem hb;exact absurd (Nat.lt_of_lt_of_le (Heap.lt_size ho) (Nat.le_trans I.sz h)) (Nat.lt_irrefl _)
theorem Inv.cne(I:Inv X zl σ H s):∀ x c,X.env.cells.lookup x=some c->c≠X.env.locals:=fun x c e z=>by
 obtain⟨v,o,ho,hd⟩:=I.cell x c e;obtain⟨m,⟨o',es,ep,ho',hd',_⟩,_⟩:=I.loc;rw [z,ho'] at ho; cases ho; rw [hd'] at hd; cases hd
theorem Inv.funs(I:Inv X zl σ H s):s.heap.FunFrames X.base X.outer:=by
 have all:∀ (l:List Env),(∀ b∈frs l,b∈X.fs)->X.s₀.heap.FunFrames X.base l->s.heap.FunFrames X.base l:=by
  intro l;induction l with
  | nil=>intro _ _; trivial
  | cons env r ih =>
   intro hs hl;obtain⟨hk,⟨L,o,hf,hn,ho,hd⟩,hr⟩:=hl;have hL:L∈X.fs:=hs L (by unfold frs; rw [List.filterMap_cons,hf]; exact List.mem_cons_self);obtain⟨sl,e⟩:=I.base.slot L o ho (I.ok.frf L hL) hL fun z=>I.ok.exfs L z hL;exact⟨hk,⟨L,_,hf,hn,e,hd⟩,ih (fun b hb=>hs b (by unfold frs; rw [List.filterMap_cons,hf]; exact List.mem_cons_of_mem _ hb)) hr⟩
 exact all X.outer (fun _ hb=>hb) I.ok.funs
theorem Inv.stack(I:Inv X zl σ H s):s.heap.FunFrames X.base X.stack:=by
 rcases I.ok.stk with e | ⟨e,hf⟩
 ·rw [e]; exact I.funs
 ·rw [e];obtain⟨m,hn,_⟩:=I.loc;refine .cons (by rw [I.ok.kind]; decide) hf hn ?_ I.funs;exact Heap.get?_none_of_le (Nat.le_trans I.ok.bsz I.ok.above)
theorem Inv.stkSub(I:Inv X zl σ H s):∀ b∈frs X.stack,b∈X.env.locals :: X.fs:=fun b hb=>by
 rcases I.ok.stk with e | ⟨e,hf⟩
 ·rw [e] at hb; exact List.mem_cons_of_mem _ hb
 ·rw [e] at hb;unfold frs at hb;rw [List.filterMap_cons,hf] at hb;exact hb
theorem Inv.stkFree(I:Inv X zl σ H s):∀ b∈frs X.stack,H b=none:=fun b hb=>by
 rcases List.mem_cons.mp (I.stkSub b hb) with e | hb
 ·rw [e]; exact I.free
 ·obtain⟨_,o,ho,_⟩:=I.ok.funs.mem hb;exact I.base.free b o ho (I.ok.frf b hb) fun z=>I.ok.exfs b z hb
theorem Inv.step{g':Array GenState}{t':Nat}{d':Drawn}{ch:List Addr}(I:Inv X zl σ H s)
  (hch:∀ b∈ch,(b∈X.ex\/X.s₀.heap.objs.size<=b)/\b≠X.env.locals/\(∀ x c,X.env.cells.lookup x=some c->c≠b)/\∀ p∈X.pn++zl,p.1≠b)
  (keep:∀ b o,b≠X.env.locals->b∉X.fs->b∉ch->s.heap.get? b=some o->H b=none->h'.get? b=some o)
  (slot:∀ b o,b≠X.env.locals->b∈X.fs->b∉ch->s.heap.get? b=some o->H b=none->∃ sl,h'.get? b=some { o with slots:=sl }) (free:∀ b o,b∉ch->s.heap.get? b=some o->H b=none->H' b=none)
  (there:∀ b o,b∉ch->s.heap.get? b=some o->∃ o',h'.get? b=some o')
  (tups:∀ b xs,H b=some (.tup xs)->H' b=some (.tup xs)) (frzs:∀ b o u,H b=some (.frz o u)->H' b=some (.frz o u)) (tbls:∀ b ps,H b=some (.tbl ps)->∃ more,H' b=some (.tbl (ps++more)))
  (ns:∀ m,s.heap.Ns X.env.locals m->h'.Ns X.env.locals m) (hok:HOk X.prog X.w H' h') (hg:AllBare g') :
  Inv X zl σ H' { s with heap:=h',gens:=g',drawn:=d',toks:=t' }:=by
 have neL:∀ b o,X.s₀.heap.get? b=some o->b≠X.env.locals:=fun b o e=>Nat.ne_of_lt (Nat.lt_of_lt_of_le (Heap.lt_size e) I.ok.above);have neC:∀ b o,X.s₀.heap.get? b=some o->b∉X.ex->b∉ch:=fun b o e hx hb=>by
  rcases(hch b hb).1 with z | z
  ·exact hx z
  ·exact absurd (Nat.lt_of_lt_of_le (Heap.lt_size e) z) (Nat.lt_irrefl _)
 have cellK:∀ x c,X.env.cells.lookup x=some c->∀ v,s.heap.IsCell c v->h'.IsCell c v:=fun x c e v ⟨o,ho,hd⟩=>by
  have nch:c∉ch:=fun z=>(hch c z).2.2.1 x c e rfl;by_cases hc:c∈X.fs
  ·obtain⟨sl,q⟩:=slot c o (I.cne x c e) hc nch ho (I.freeC x c e);exact⟨_,q,hd⟩
  ·exact⟨o,keep c o (I.cne x c e) hc nch ho (I.freeC x c e),hd⟩
 refine⟨I.ok,I.os,hg,⟨fun b o e n hb hx=>?_,fun b o e n hb hx=>?_,fun b o e n hx=>?_,fun b o e hx=>?_,fun b xs e=>tups b xs (I.base.tups b xs e),fun b o xs e=>frzs b o xs (I.base.frzs b o xs e),fun b ps e=>?_⟩,?_,fun x c e=>?_,?_,fun x c e=>?_,fun p hp=>?_,hok,I.len⟩
 ·exact keep b o (neL b o e) hb (neC b o e hx) (I.base.keep b o e n hb hx) (I.base.free b o e n hx)
 ·obtain⟨sl,e1⟩:=I.base.slot b o e n hb hx;obtain⟨sl',e2⟩:=slot b _ (neL b o e) hb (neC b o e hx) e1 (I.base.free b o e n hx);exact⟨sl',e2⟩
 ·obtain⟨o',e1⟩:=I.base.there b o e hx;exact free b o' (neC b o e hx) e1 (I.base.free b o e n hx)
 ·obtain⟨o',e1⟩:=I.base.there b o e hx;exact there b o' (neC b o e hx) e1
 ·obtain⟨m1,e1⟩:=I.base.tbls b ps e;obtain⟨m2,e2⟩:=tbls b _ e1;exact⟨m1++m2,by rw [e2,Array.append_assoc]⟩
 ·obtain⟨m,hn,hl⟩:=I.loc;refine⟨m,ns m hn,fun i x v e1 e2 e3=>?_⟩;obtain⟨u,r,l⟩:=hl i x v e1 e2 e3;refine⟨u,r,?_⟩;rcases l with l | ⟨k,c,e,z⟩
  ·exact .inl l
  ·exact .inr ⟨k,c,e,cellK x c e _ z⟩
 ·obtain⟨v,z⟩:=I.cell x c e;exact⟨v,cellK x c e v z⟩
 ·obtain⟨m,⟨o,_,_,ho,_⟩,_⟩:=I.loc;exact free _ o (fun z=>(hch _ z).2.1 rfl) ho I.free
 ·obtain⟨v,o,ho,hd⟩:=I.cell x c e;exact free c o (fun z=>(hch c z).2.2.1 x c e rfl) ho (I.freeC x c e)
 ·obtain⟨e,n,ne,nf,d⟩:=I.pin p hp;have nch:p.1∉ch:=fun z=>(hch p.1 z).2.2.2 p hp rfl;exact⟨keep p.1 p.2 ne nf nch e n,free p.1 p.2 nch e n,ne,nf,d⟩
theorem Inv.un{t':Nat}(I:Inv X zl σ H s)(u:Un X.fs [] H H' s.heap h')(hok:HOk X.prog X.w H' h'):Inv X zl σ H' { s with heap:=h',toks:=t' }:=by
 obtain⟨m,⟨o,es,ep,ho,r⟩,_⟩:=id I.loc;obtain⟨sl,hL⟩:=u.any ho I.free (by simp);exact I.step (g':=s.gens) (d':=s.drawn) (ch:=[]) (fun _ z=>nomatch z) (fun b o _ hb _ e n=>u.keep b o e n hb (by simp)) (fun b o _ hb _ e n=>u.slot b o e n hb (by simp)) (fun b o _ e n=>u.free b o e n (by simp)) (fun b o _ e=>u.there b o e (by simp)) u.tups u.frzs u.tbls (fun m' hm=>by
  obtain⟨o',es',ep',ho',r'⟩:=hm;rw [ho] at ho'; cases ho';exact⟨_,es',ep',hL,r'⟩) hok I.bare
theorem Inv.call{g':Array GenState}{t':Nat}{d':Drawn}{ch:List Addr}(I:Inv X zl σ H s)(u:Un (frs X.stack) ch H H' s.heap h')(hok:HOk X.prog X.w H' h')(hg:AllBare g')
  (hch:∀ b∈ch,(b∈X.ex\/X.s₀.heap.objs.size<=b)/\b≠X.env.locals/\(∀ x c,X.env.cells.lookup x=some c->c≠b)/\∀ p∈X.pn++zl,p.1≠b) :
  Inv X zl σ H' { s with heap:=h',gens:=g',drawn:=d',toks:=t' }:=by
 obtain⟨m,⟨o,es,ep,ho,r⟩,_⟩:=id I.loc;obtain⟨sl,hL⟩:=u.any ho I.free fun z=>(hch _ z).2.1 rfl;exact I.step (ch:=ch) hch (fun b o hL hb hc e n=>u.keep b o e n (fun z=>(List.mem_cons.mp (I.stkSub b z)).elim hL hb) hc) (fun b o _ _ hc e n=>u.any e n hc) (fun b o hc e n=>u.free b o e n hc) (fun b o hc e=>u.there b o e hc) u.tups u.frzs u.tbls (fun m' hm=>by
  obtain⟨o',es',ep',ho',r'⟩:=hm;rw [ho] at ho'; cases ho';exact⟨_,es',ep',hL,r'⟩) hok hg
theorem Inv.turned{t':Nat}{it:Addr}(I:Inv X zl σ H s)(k:∀ b o,b≠it->s.heap.get? b=some o->h'.get? b=some o)(hn:H it=none)(hL:it≠X.env.locals)
  (h1:it∈X.ex\/X.s₀.heap.objs.size<=it) (h2:∀ x c,X.env.cells.lookup x=some c->c≠it) (h3:∀ p∈X.pn++zl,p.1≠it):Inv X zl σ H { s with heap:=h',toks:=t' }:=by
 have nit:∀ b u,H b=some u->b≠it:=fun b u e z=>by rw [z,hn] at e; cases e
 refine I.step (g':=s.gens) (d':=s.drawn) (ch:=[it]) (fun b hb=>?_) (fun b o _ _ hc e _=>k b o (fun z=>hc (by simp [z])) e) (fun b o _ _ hc e _=>⟨o.slots,k b o (fun z=>hc (by simp [z])) e⟩) (fun _ _ _ _ n=>n)
  (fun b o hc e=>⟨o,k b o (fun z=>hc (by simp [z])) e⟩) (fun _ _ e=>e) (fun _ _ _ e=>e) (fun b ps e=>⟨#[],by rw [e]; simp⟩) (fun m hm=>?_) (fun b u e=>?_) I.bare
 ·have e:b=it:=by simpa using hb
  subst e;exact⟨h1,hL,h2,h3⟩
 ·obtain⟨o,es,ep,ho,r⟩:=hm;exact⟨o,es,ep,k _ o (Ne.symm hL) ho,r⟩
 ·refine(I.hok b u e).stay (fun c v hc q=>k c v ?_ q) (fun _ q=>q) fun _ _ q=>q;rcases hc with z | z
  ·rw [z]; exact nit b u e
  ·exact nit c _ z
theorem Inv.tok(I:Inv X zl σ H s)(t:Nat):Inv X zl σ H { s with toks:=t }:=I.un (h':=s.heap) (t':=t) Un.refl I.hok
theorem Inv.kept{t':Nat}(I:Inv X zl σ H s)(k:∀ b u,s.heap.get? b=some u->h'.get? b=some u):Inv X zl σ H { s with heap:=h',toks:=t' }:=I.un (Un.kept k) (I.hok.kept k)
theorem Inv.laid{a:Addr}{o:HO}{t':Nat}(I:Inv X zl σ H s)(k:∀ b u,s.heap.get? b=some u->h'.get? b=some u)(hp:s.heap.objs.size<=a)(new:ObjOk X.prog X.w (upd H a o) h' a o):
  Inv X zl σ (upd H a o) { s with heap:=h',toks:=t' }:=I.un (Un.laid k hp (I.hok.fresh hp)) (I.hok.laid k hp new)
theorem Inv.write{x e:Addr}{o:HO}{t':Nat}(I:Inv X zl σ H s)(mu:Mut (H x))(he:e=x\/H e=some (.own x))(k:∀ b u,b≠e->s.heap.get? b=some u->h'.get? b=some u)(heo:∃ u,h'.get? e=some u)
  (new:ObjOk X.prog X.w (upd H x o) h' x o):Inv X zl σ (upd H x o) { s with heap:=h',toks:=t' }:=I.un (Un.write mu he k heo) (I.hok.write mu he k heo new)
theorem Inv.pins_of{pins':List (Addr×Obj)}(I:Inv X zl σ H s)(h:∀ p∈pins',s.heap.get? p.1=some p.2/\H p.1=none/\p.1≠X.env.locals/\p.1∉X.fs/\∀ v,p.2.data≠.cell v):Inv X pins' σ H s :=
 ⟨I.ok,I.os,I.bare,I.base,I.loc,I.cell,I.free,I.freeC,fun p hp=>(List.mem_append.mp hp).elim (fun z=>I.pin p (List.mem_append_left _ z)) (h p),I.hok,I.len⟩
theorem zk5{N:List Str}(hN:N.Nodup){i j:Nat}{x:Str}(a:N[i]? = some x)(b:N[j]? = some x):i=j:=by
 obtain⟨h1,e1⟩:=List.getElem?_eq_some_iff.mp a;obtain⟨h2,e2⟩:=List.getElem?_eq_some_iff.mp b;exact(List.getElem_inj hN).mp (e1.trans e2.symm)
theorem zoo{M:Model}{A:Around}{E:Value->Shared->Prop}{i:Nat}{x:Str}{v:V}{u:Value}{Q:Unit->Shared->Prop}(I:Inv X zl σ H s)(hN:X.N.Nodup)(hi:X.N[i]? = some x)(hx:Loc X.env.scope x)(r:RelV v u)
  (h:∀ s',Inv X zl (σ.set i (some v)) H s'->(∃ a,Heap.SameBut a s.heap s'.heap/\(a=X.env.locals\/X.env.cells.lookup x=some a))->Q () s') (hf:X.fn x=true\/X.env.scope.names.lookup x=some .local:=by first | exact .inl rfl | exact .inr rfl | assumption):wpAny M A (storeName X.env x u) Q E s:=by
 obtain⟨m,hn,hl⟩:=id I.loc;have hcls:(X.env.scope.kind == .class || (X.env.scope.kind == .module && X.env.locals != X.env.globals))=false:=by rw [I.ok.kind]; rfl
 have hiσ:i<σ.length:=by rw [I.len]; exact(List.getElem?_eq_some_iff.mp hi).1
 have cne:=I.cne;have tracked:∀ {a:Addr} {h':Heap},(∃ o,s.heap.get? a=some o/\H a=none)->Heap.SameBut a s.heap h'->HOk X.prog X.w H h':=fun {a h'} ha hs b ob e=>by
  obtain⟨_,_,hfree⟩:=ha;refine(I.hok b ob e).stay (fun c w' hc q=>(hs.2 c ?_).trans q) (fun _ q=>q) fun _ _ q=>q;rintro rfl;rcases hc with rfl | hc
  ·rw [hfree] at e; cases e
  ·rw [hfree] at hc; cases hc
 rcases hx with hk | hk
 ·refine wpAny_storeName_local hk hn (fun h' hn' hs=>?_) hcls;obtain⟨oL,_,_,hoL,_⟩:=id hn;refine h _ ⟨I.ok,I.os,I.bare,⟨fun b o e n hb hx=>?_,fun b o e n hb hx=>?_,I.base.free,fun b o e hx=>?_,I.base.tups,I.base.frzs,I.base.tbls⟩,⟨_,hn',fun j y v' e1 e2 e3=>?_⟩,fun y c e=>?_,I.free,I.freeC,fun p hp=>?_,tracked ⟨oL,hoL,I.free⟩ hs,by simpa using I.len⟩ ⟨_,hs,.inl rfl⟩
  ·exact(hs.2 b (Nat.ne_of_lt (Nat.lt_of_lt_of_le (Heap.lt_size e) I.ok.above))).trans (I.base.keep b o e n hb hx)
  ·obtain⟨sl,e1⟩:=I.base.slot b o e n hb hx;exact⟨sl,(hs.2 b (Nat.ne_of_lt (Nat.lt_of_lt_of_le (Heap.lt_size e) I.ok.above))).trans e1⟩
  ·obtain⟨o',e1⟩:=I.base.there b o e hx;exact⟨o',(hs.2 b (Nat.ne_of_lt (Nat.lt_of_lt_of_le (Heap.lt_size e) I.ok.above))).trans e1⟩
  ·by_cases hj:j=i
   ·subst hj;rw [hi] at e1; cases e1;rw [List.getElem?_set_self hiσ] at e2;cases e2;exact⟨u,r,.inl ⟨hk,by simp⟩⟩
   ·rw [List.getElem?_set_ne (Ne.symm hj)] at e2;obtain⟨u',r',q⟩:=hl j y v' e1 e2 e3;refine⟨u',r',?_⟩;rcases q with ⟨k,e⟩ | ⟨k,c,e,z⟩
    ·refine .inl ⟨k,?_⟩;have:y≠x:=fun e=>hj (zk5 hN e1 (e▸hi));simp [this,e]
    ·exact .inr ⟨k,c,e,z.sameBut hs (cne y c e)⟩
  ·obtain⟨w',z⟩:=I.cell y c e;exact⟨w',z.sameBut hs (cne y c e)⟩
  ·obtain⟨e,n,ne,nf,d⟩:=I.pin p hp;exact⟨(hs.2 p.1 ne).trans e,n,ne,nf,d⟩
 ·have hfn:X.fn x=true:=by
   rcases hf with z | z
   ·exact z
   ·rw [z] at hk; cases hk
  obtain⟨c,hc⟩:=I.ok.has x (.inl hk);obtain⟨w',z⟩:=I.cell x c hc;refine wpAny_storeName_cell I.ok.kind hk hc z (fun h' hc' hs=>?_);obtain⟨oc,hoc,hocd⟩:=id z;refine h { s with heap:=h' } ⟨I.ok,I.os,I.bare,⟨fun b o e n hb hx=>?_,fun b o e n hb hx=>?_,I.base.free,fun b o e hx=>?_,I.base.tups,I.base.frzs,I.base.tbls⟩,⟨m,hn.sameBut hs (Ne.symm (cne x c hc)),fun j y v' e1 e2 e3=>?_⟩,fun y c' e=>?_,I.free,I.freeC,fun p hp=>?_,tracked ⟨oc,hoc,I.freeC x c hc⟩ hs,by simpa using I.len⟩ ⟨c,hs,.inr hc⟩
  ·exact(hs.2 b (Nat.ne_of_lt (Nat.lt_of_lt_of_le (Heap.lt_size e) (I.ok.cab x c hfn hc)))).trans (I.base.keep b o e n hb hx)
  ·obtain⟨sl,e1⟩:=I.base.slot b o e n hb hx;exact⟨sl,(hs.2 b (Nat.ne_of_lt (Nat.lt_of_lt_of_le (Heap.lt_size e) (I.ok.cab x c hfn hc)))).trans e1⟩
  ·obtain⟨o',e1⟩:=I.base.there b o e hx;exact⟨o',(hs.2 b (Nat.ne_of_lt (Nat.lt_of_lt_of_le (Heap.lt_size e) (I.ok.cab x c hfn hc)))).trans e1⟩
  ·by_cases hj:j=i
   ·subst hj;rw [hi] at e1; cases e1;rw [List.getElem?_set_self hiσ] at e2;cases e2;exact⟨u,r,.inr ⟨.inl hk,c,hc,hc'⟩⟩
   ·rw [List.getElem?_set_ne (Ne.symm hj)] at e2;obtain⟨u',r',q⟩:=hl j y v' e1 e2 e3;refine⟨u',r',?_⟩;rcases q with q | ⟨k,c',e,z'⟩
    ·exact .inl q
    ·refine .inr ⟨k,c',e,z'.sameBut hs ?_⟩;rintro rfl;exact hj (zk5 hN e1 (I.ok.inj _ _ _ e hc▸hi))
  ·by_cases hcc:c'=c
   ·subst hcc; exact⟨_,hc'⟩
   ·obtain⟨w2,z2⟩:=I.cell y c' e;exact⟨w2,z2.sameBut hs hcc⟩
  ·obtain⟨e,n,ne,nf,d⟩:=I.pin p hp;refine⟨(hs.2 p.1 ?_).trans e,n,ne,nf,d⟩;intro q;rw [q,hoc] at e;have q':oc=p.2:=Option.some.inj e;exact d w' (by rw [<- q']; exact hocd)
theorem zh7{M:Model}{A:Around}{E:Value->Shared->Prop}{i:Nat}{x:Str}{v:V}{u:Value}{Q:Unit->Shared->Prop}(I:Inv X zl σ H s)(hN:X.N.Nodup)(hi:X.N[i]? = some x)(hx:Loc X.env.scope x)(r:RelV v u)
  (h:∀ s',Inv X zl (σ.set i (some v)) H s'->Q () s') (hf:X.fn x=true\/X.env.scope.names.lookup x=some .local:=by first | exact .inl rfl | exact .inr rfl | assumption):wpAny M A (storeName X.env x u) Q E s :=
 zoo I hN hi hx r (fun s' I' _=>h s' I') hf
theorem Inv.call'{s':Shared}{ch:List Addr}(I:Inv X zl σ H s)(ho:s'.os=s.os)(u:Un (frs X.stack) ch H H' s.heap s'.heap)(hok:HOk X.prog X.w H' s'.heap)(hg:AllBare s'.gens)
  (hch:∀ b∈ch,(b∈X.ex\/X.s₀.heap.objs.size<=b)/\b≠X.env.locals/\(∀ x c,X.env.cells.lookup x=some c->c≠b)/\∀ p∈X.pn++zl,p.1≠b):Inv X zl σ H' s':=by
 obtain⟨h',g',d',t',o'⟩:=s';have e:o'=s.os:=ho;subst e;exact I.call (g':=g') (t':=t') (d':=d') u hok hg hch
end
abbrev XK:=Value->Option Addr->Hp->Prop
abbrev St:=List (Option V)
abbrev VK:=V->Hp->Prop
abbrev TE:=St->Hp->VK->Prop
abbrev TT:=St->Hp->(Bool->Hp->Prop)->Prop
abbrev TA:=St->Hp->(List V->Hp->Prop)->Prop
structure Ends where
 nx:St->Hp->Prop
 rt:VK
 bk:St->Hp->Prop:=fun _ _=>False
 ct:St->Hp->Prop:=fun _ _=>False
abbrev TS:=Ends->St->Hp->Prop
def EP(X:Cx)(zl:List (Addr×Obj))(σ:St)(Q:VK)(u:Value)(s':Shared):Prop:=∃ v H',Inv X zl σ H' s'/\RelV v u/\Q v H'
def TP(X:Cx)(zl:List (Addr×Obj))(σ:St)(Q:Bool->Hp->Prop)(b:Bool)(s':Shared):Prop:=∃ H',Inv X zl σ H' s'/\Q b H'
def AP(X:Cx)(zl:List (Addr×Obj))(σ:St)(Q:List V->Hp->Prop)(us:List Value)(s':Shared):Prop:=∃ vs H',Inv X zl σ H' s'/\Vals vs us/\Q vs H'
def SP(X:Cx)(zl:List (Addr×Obj))(D:Ends)(f:Flow)(s':Shared):Prop :=
 match f with
 | .next=>∃ σ' H',Inv X zl σ' H' s'/\D.nx σ' H'
 | .brk=>∃ σ' H',Inv X zl σ' H' s'/\D.bk σ' H'
 | .cont=>∃ σ' H',Inv X zl σ' H' s'/\D.ct σ' H'
 | .ret u=>∃ v σ' H',Inv X zl σ' H' s'/\RelV v u/\D.rt v H'
def PE(X:Cx)(e:Expr)(t:TE):Prop :=
 ∀ (zl:List (Addr×Obj)) (s:Shared) (σ:St) (H:Hp) (Q:VK),Inv X zl σ H s->t σ H Q->wpAny (model X.prog X.w) X.A (eval e X.env) (EP X zl σ Q) X.xe s
def PT(X:Cx)(e:Expr)(t:TT):Prop :=
 ∀ (zl:List (Addr×Obj)) (s:Shared) (σ:St) (H:Hp) (Q:Bool->Hp->Prop),Inv X zl σ H s->t σ H Q->wpAny (model X.prog X.w) X.A (isTrue e X.env (eval e X.env)) (TP X zl σ Q) X.xe s
def PW(X:Cx)(e:Expr)(t:TT):Prop :=
 ∀ (whole:Sem Value) (zl:List (Addr×Obj)) (s:Shared) (σ:St) (H:Hp) (Q:Bool->Hp->Prop),Inv X zl σ H s->t σ H Q->wpAny (model X.prog X.w) X.A (isTrue e X.env whole) (TP X zl σ Q) X.xe s
theorem PW.pt{X:Cx}{e:Expr}{t:TT}(h:PW X e t):PT X e t:=h _
def PA(X:Cx)(es:List Expr)(t:TA):Prop :=
 ∀ (pos:Pos) (zl:List (Addr×Obj)) (s:Shared) (σ:St) (H:Hp) (Q:List V->Hp->Prop),Inv X zl σ H s->t σ H Q->wpAny (model X.prog X.w) X.A (spliced (backTo pos (starEach es X.env))) (AP X zl σ Q) X.xe s
def PS(X:Cx)(st:Stmt)(t:TS):Prop :=
 ∀ (zl:List (Addr×Obj)) (s:Shared) (σ:St) (H:Hp) (D:Ends),Inv X zl σ H s->t D σ H->wpAny (model X.prog X.w) X.A (exec st X.env) (SP X zl D) X.xe s
def PSs(X:Cx)(st:List Stmt)(t:TS):Prop :=
 ∀ (zl:List (Addr×Obj)) (s:Shared) (σ:St) (H:Hp) (D:Ends),Inv X zl σ H s->t D σ H->wpAny (model X.prog X.w) X.A (execs st X.env) (SP X zl D) X.xe s
theorem thn{α:Type}{t:Sem α}{Q Q':α->Shared->Prop}{M:Model}{A:Around}{E:Value->Shared->Prop}{s:Shared}(h:wpAny M A t Q E s)(hQ:∀ a s,Q a s->Q' a s):wpAny M A t Q' E s:=wpAny_mono h hQ fun _ _ x=>x
end
section
section
variable {X:Cx}
def zoF(i:Nat):TE:=fun σ H Q=>∃ v,σ[i]? = some (some v)/\Q v H
def tC(v:V):TE:=fun _ H Q=>Q v H
theorem zsD{i:Nat}{x:Str}{pos:Pos}(hN:X.N[i]? = some x)(hv:Vis X.env.scope x)(hd:(x == ("__debug__":Str))=false:=by decide)(hcd:(x == ("__classdict__":Str))=false:=by decide):PE X (.Name x pos) (zoF i):=by
 intro zl s σ H Q I h;obtain⟨v,e,h⟩:=h;obtain⟨m,hn,hl⟩:=I.loc;obtain⟨u,r,l⟩:=hl i x v hN e hv;have fin:EP X zl σ Q u s:=⟨v,H,I,r,h⟩;rcases l with ⟨hk,hm⟩ | ⟨hk,c,hc,hcell⟩
 ·exact wpAny_Name (wpAny_loadName_local I.ok.kind hk hn hm fin) hd
 ·rcases hk with hk | hk
  ·exact wpAny_Name (wpAny_loadName_cell I.ok.kind hk hc hcell fin) hd
  ·exact wpAny_Name (wpAny_loadName_free I.ok.kind hk hc hcell fin hcd) hd
theorem zf{i j pos}:PE X (.Constant (.int i) j pos) (tC (.int i)):=fun _ _ _ H _ I h=>wpAny_Constant_int ⟨.int i,H,I.tok _,⟨_,rfl⟩,h⟩
theorem zet{b j pos}:PE X (.Constant (.bool b) j pos) (tC (.bl b)):=fun _ _ _ H _ I h=>Constant_bool ⟨.bl b,H,I,rfl,h⟩
theorem zly{j pos}:PE X (.Constant .none j pos) (tC .non):=fun _ _ _ H _ I h=>Constant_none ⟨.non,H,I,rfl,h⟩
theorem zew{x j pos}:PE X (.Constant (.str x) j pos) (tC (.str x)):=fun _ _ _ H _ I h=>Calls.Constant_str ⟨.str x,H,I.tok _,⟨_,rfl⟩,h⟩
def Gl(X:Cx)(x:Str):Prop:=X.env.kindOf x=some .globalImplicit
theorem zm1{E:Value->Shared->Prop}{zl:List (Addr×Obj)}{s:Shared}{σ:St}{H:Hp}{x:Str}{u:Value}{pos:Pos}{Q:Value->Shared->Prop}(I:Inv X zl σ H s)(hg:Gl X x)(hm:X.mg x=some u)(h:Q u s)
  (hd:(x == ("__debug__":Str))=false:=by decide):wpAny (model X.prog X.w) X.A (eval (.Name x pos) X.env) Q E s :=
 Calls.Name_function_global I.ok.kind hg (Calls.loadGlobal_global (by rw [I.ok.glob]; exact I.mod.glob.keeps I.bk) hm h) hd
theorem zfU{E:Value->Shared->Prop}{zl:List (Addr×Obj)}{s:Shared}{σ:St}{H:Hp}{x:Str}{u:Value}{pos:Pos}{Q:Value->Shared->Prop}(I:Inv X zl σ H s)(hg:Gl X x)(hm:X.mg x=none)(hv:bootBuiltins x=some u)(h:Q u s)
  (hn:x ≠ "__name__":=by decide) (hd:(x == ("__debug__":Str))=false:=by decide):wpAny (model X.prog X.w) X.A (eval (.Name x pos) X.env) Q E s:=by
 obtain⟨mb,h1,h2⟩:=I.mod.blt;exact Calls.Name_function_global I.ok.kind hg (Calls.loadGlobal_builtin (by rw [I.ok.glob]; exact I.mod.glob.keeps I.bk) hm (by rw [I.ok.blt]; exact h1.keeps I.bk) ((h2 x hn).trans hv) h) hd
theorem zrF{x:Str}{v:V}{u:Value}{pos:Pos}(hg:Gl X x)(hm:X.mg x=some u)(r:RelV v u)(hd:(x == ("__debug__":Str))=false:=by decide):PE X (.Name x pos) (tC v) :=
 fun _ _ _ H _ I h=>zm1 I hg hm ⟨v,H,I,r,h⟩ hd
theorem zkr{x:Str}{v:V}{u:Value}{pos:Pos}(hg:Gl X x)(hm:X.mg x=none)(hv:bootBuiltins x=some u)(r:RelV v u)(hn:x ≠ "__name__":=by decide)(hd:(x == ("__debug__":Str))=false:=by decide):PE X (.Name x pos) (tC v) :=
 fun _ _ _ H _ I h=>zfU I hg hm hv ⟨v,H,I,r,h⟩ hn hd
variable {a b:Expr} {ta tb:TE} {pos:Pos}
variable {tA tB':TT} {rest:List Expr}
def zu2(t u:TT):TT:=fun σ H Q=>t σ H fun c H1=>if c=true then u σ H1 Q else Q false H1
def tOr(t u:TT):TT:=fun σ H Q=>t σ H fun c H1=>if c=true then Q true H1 else u σ H1 Q
def zuT(t:TT):TT:=fun σ H Q=>t σ H fun c H1=>Q (!c) H1
theorem zos(ha:PT X a tA):PW X (.BoolOp .And [a] pos) tA:=by
 intro wh zl s σ H Q I h;refine isTrue_and (thn (ha zl s σ H Q I h) fun c s1 e=>?_);cases c with
 | true=>exact isTrue_and_nil e
 | false=>exact e
theorem zhj(ha:PT X a tA):PW X (.BoolOp .Or [a] pos) tA:=by
 intro wh zl s σ H Q I h;refine isTrue_or (thn (ha zl s σ H Q I h) fun c s1 e=>?_);cases c with
 | false=>exact isTrue_or_nil e
 | true=>exact e
theorem zqu(ha:PT X a tA)(hb:PW X (.BoolOp .And (b :: rest) pos) tB'):PW X (.BoolOp .And (a :: b :: rest) pos) (zu2 tA tB'):=by
 intro wh zl s σ H Q I h;refine isTrue_and (thn (ha zl s σ H _ I h) fun c s1 ⟨H1,I1,q1⟩=>?_);cases c with
 | true=>exact hb wh zl s1 σ H1 Q I1 q1
 | false=>exact⟨H1,I1,q1⟩
theorem zkv(ha:PT X a tA)(hb:PW X (.BoolOp .Or (b :: rest) pos) tB'):PW X (.BoolOp .Or (a :: b :: rest) pos) (tOr tA tB'):=by
 intro wh zl s σ H Q I h;refine isTrue_or (thn (ha zl s σ H _ I h) fun c s1 ⟨H1,I1,q1⟩=>?_);cases c with
 | true=>exact⟨H1,I1,q1⟩
 | false=>exact hb wh zl s1 σ H1 Q I1 q1
theorem zgk(ha:PT X a tA):PT X (.UnaryOp .Not a pos) (zuT tA):=by
 intro zl s σ H Q I h;exact isTrue_not (ha zl s σ H (fun c H1=>Q (!c) H1) I h)
def zsW(ta tb:TE):TE:=fun σ H Q=>ta σ H fun x H1=>∃ c,x=.bl c/\if c=true then tb σ H1 Q else Q (.bl false) H1
def ztF(ta:TE):TE:=fun σ H Q=>ta σ H fun x H1=>∃ c,x=.bl c/\Q (.bl (!c)) H1
theorem znk{op}{t:TE}(h:PE X a t):PE X (.BoolOp op [a] pos) t:=fun zl s σ H Q I hw=>BoolOp_one (h zl s σ H Q I hw)
theorem zkV(ha:PE X a ta)(hb:PE X (.BoolOp .And (b :: rest) pos) tb):PE X (.BoolOp .And (a :: b :: rest) pos) (zsW ta tb):=by
 intro zl s σ H Q I h;refine BoolOp_and (thn (ha zl s σ H _ I h) fun v s1 ⟨x,H1,I1,r1,q1⟩=>?_);obtain⟨c,rfl,q1⟩:=q1;cases r1;refine wpAny_truthy_bool ?_;cases c with
 | true=>exact hb zl s1 σ H1 Q I1 q1
 | false=>exact⟨.bl false,H1,I1,rfl,q1⟩
theorem zsz(ha:PE X a ta):PE X (.UnaryOp .Not a pos) (ztF ta):=by
 intro zl s σ H Q I h;refine UnaryOp_ (thn (ha zl s σ H _ I h) fun v s1 ⟨x,H1,I1,r1,q1⟩=>?_);obtain⟨c,rfl,q1⟩:=q1;cases r1;exact not_of (wpAny_truthy_bool ⟨.bl (!c),H1,I1,rfl,q1⟩)
def tIf(t:TT)(ta tb:TE):TE:=fun σ H Q=>t σ H fun c H1=>if c=true then ta σ H1 Q else tb σ H1 Q
theorem zpn{c:Expr}(hc:PT X c tA)(ha:PE X a ta)(hb:PE X b tb):PE X (.IfExp c a b pos) (tIf tA ta tb):=by
 intro zl s σ H Q I h;refine wpAny_IfExp (thn (hc zl s σ H _ I h) fun d s1 ⟨H1,I1,q1⟩=>?_);cases d with
 | true=>exact ha zl s1 σ H1 Q I1 q1
 | false=>exact hb zl s1 σ H1 Q I1 q1
end
end
section
def SqL(K:W.Frag)(H:Hp)(a:Addr)(xs:List V):Prop :=
 Rd H a (.lst xs) \/
  ∃ (o:Obj) (its:Array Value) (n:Nat),K.lookup a=some o/\o.cls=.type "list"/\o.dict=none/\o.data=.seq its n/\its.size<=sizeLine/\Vals xs its.toList
def SqT(K:W.Frag)(H:Hp)(a:Addr)(xs:List V):Prop :=
 Rd H a (.tup xs) \/
  ∃ (o:Obj) (its:Array Value) (n:Nat),K.lookup a=some o/\o.cls=.type "tuple"/\o.data=.seq its n/\its.size<=sizeLine/\Vals xs its.toList
def zu4:Value->Option V
 | .none=>some .non
 | .bool b=>some (.bl b)
 | .int i _=>some (.int i)
 | .str x _=>some (.str x)
 | .bytes b _=>some (.byt b)
 | .float b _=>some (.flt b)
 | .ref a=>some (.ref a)
 | .type n=>some (.ty n)
 | _=>none
theorem RelV.abs{x:V}{u:Value}(r:RelV x u):zu4 u=some x:=by
 cases x with
 | non=>cases r; rfl
 | bl _=>cases r; rfl
 | int _=>obtain⟨t,rfl⟩:=r; rfl
 | str _=>obtain⟨t,rfl⟩:=r; rfl
 | byt _=>obtain⟨t,rfl⟩:=r; rfl
 | flt _=>obtain⟨t,rfl⟩:=r; rfl
 | ref _=>cases r; rfl
 | ty _=>cases r; rfl
theorem RelV.inj{x y:V}{u:Value}(r:RelV x u)(q:RelV y u):x=y:=Option.some.inj (r.abs.symm.trans q.abs)
theorem Vals.inj:∀ {xs ys:List V} {us:List Value},Vals xs us->Vals ys us->xs=ys
 | _,_,_,.nil,.nil=>rfl
 | _,_,_,.cons r t,.cons r' t'=>by rw [r.inj r',Vals.inj t t']
section
variable {X:Cx} {zl:List (Addr×Obj)} {σ:St} {H:Hp} {s:Shared} {a:Addr} {xs ys:List V}
theorem SqL.of{K:W.Frag}(h:H a=some (.lst xs)):SqL K H a xs:=.inl (.inl h)
theorem SqT.of{K:W.Frag}(h:H a=some (.tup xs)):SqT K H a xs:=.inl (.inl h)
theorem Inv.list(I:Inv X zl σ H s)(h:SqL X.K H a xs):∃ its:List Value,Vals xs its/\PlainL s.heap a its.toArray/\xs.length<=sizeLine:=by
 rcases h with h | ⟨o,its,n,hk,hc,hd,hs,hz,r⟩
 ·obtain⟨z,its,n,r,e⟩:=h.ok I.hok;exact⟨its,r,⟨_,n,e,rfl,rfl,rfl⟩,z⟩
 ·refine⟨its.toList,r,⟨o,n,I.kIn a o hk,hc,hd,by simpa using hs⟩,?_⟩;have e:=r.length;simp only [Array.length_toList] at e;omega
theorem Inv.tuple(I:Inv X zl σ H s)(h:SqT X.K H a xs):∃ its:List Value,Vals xs its/\IsTup s.heap a its.toArray/\xs.length<=sizeLine:=by
 rcases h with h | ⟨o,its,n,hk,hc,hs,hz,r⟩
 ·obtain⟨z,its,r,p⟩:=h.ok I.hok;exact⟨its,r,p,z.1⟩
 ·refine⟨its.toList,r,⟨o,I.kIn a o hk,hc,n,by simpa using hs⟩,?_⟩;have e:=r.length;simp only [Array.length_toList] at e;omega
theorem Inv.list_inj(I:Inv X zl σ H s)(h:SqL X.K H a xs)(h':SqL X.K H a ys):xs=ys:=by
 obtain⟨its,r,⟨o,n,e,_,_,d⟩,_⟩:=I.list h;obtain⟨its',r',⟨o',n',e',_,_,d'⟩,_⟩:=I.list h';rw [e] at e'; cases e';rw [d] at d';injection d' with d1 _
 have:its=its':=by simpa using congrArg Array.toList d1
 subst this;exact r.inj r'
theorem Inv.tuple_inj(I:Inv X zl σ H s)(h:SqT X.K H a xs)(h':SqT X.K H a ys):xs=ys:=by
 obtain⟨its,r,⟨o,e,_,n,d⟩,_⟩:=I.tuple h;obtain⟨its',r',⟨o',e',_,n',d'⟩,_⟩:=I.tuple h';rw [e] at e'; cases e';rw [d] at d';injection d' with d1 _
 have:its=its':=by simpa using congrArg Array.toList d1
 subst this;exact r.inj r'
end
abbrev Cx.wish (X:Cx) (E:Value->Shared->Prop):Cx:={ X with xe:=E }
abbrev Cx.nox (X:Cx):Cx:=X.wish fun _ _=>False
theorem Cx.Ok.wish{X:Cx}(ok:X.Ok)(E:Value->Shared->Prop):(X.wish E).Ok :=
 ⟨ok.mod,ok.kind,ok.glob,ok.blt,ok.above,ok.inj,ok.has,ok.cab,ok.hd,ok.frames,ok.stk,ok.exf,ok.bs,ok.bsz,ok.noex,ok.exfs,ok.funs,ok.frf⟩
theorem Cx.Ok.unwish{X:Cx}{E:Value->Shared->Prop}(ok:(X.wish E).Ok):X.Ok :=
 ⟨ok.mod,ok.kind,ok.glob,ok.blt,ok.above,ok.inj,ok.has,ok.cab,ok.hd,ok.frames,ok.stk,ok.exf,ok.bs,ok.bsz,ok.noex,ok.exfs,ok.funs,ok.frf⟩
section
variable {X:Cx} {zl:List (Addr×Obj)} {σ:St} {H:Hp} {s:Shared} {E:Value->Shared->Prop}
theorem Inv.wish(I:Inv X zl σ H s)(E:Value->Shared->Prop):Inv (X.wish E) zl σ H s:=⟨I.ok.wish E,I.os,I.bare,I.base,I.loc,I.cell,I.free,I.freeC,I.pin,I.hok,I.len⟩
theorem Inv.unwish(I:Inv (X.wish E) zl σ H s):Inv X zl σ H s:=⟨I.ok.unwish,I.os,I.bare,I.base,I.loc,I.cell,I.free,I.freeC,I.pin,I.hok,I.len⟩
theorem SP.unwish{D:Ends}{f:Flow}{s':Shared}(h:SP (X.wish E) zl D f s'):SP X zl D f s':=by
 cases f with
 | next=>obtain⟨σ',H',I,q⟩:=h; exact⟨σ',H',I.unwish,q⟩
 | brk=>obtain⟨σ',H',I,q⟩:=h; exact⟨σ',H',I.unwish,q⟩
 | cont=>obtain⟨σ',H',I,q⟩:=h; exact⟨σ',H',I.unwish,q⟩
 | ret u=>obtain⟨v,σ',H',I,r,q⟩:=h; exact⟨v,σ',H',I.unwish,r,q⟩
theorem PSs.nox{st:List Stmt}{t:TS}(h:PSs X.nox st t):PSs X st t:=fun zl s σ H D I hw =>
 wpAny_mono (h zl s σ H D (I.wish _) hw) (fun _ _ q=>q.unwish) fun _ _ z=>False.elim z
end
section
variable {X:Cx} {st:Stmt} {rest:List Stmt} {t u:TS} {e:Expr} {te:TE} {pos:Pos}
def zr3:TS:=fun D σ H=>D.nx σ H
def zoA(t u:TS):TS:=fun D σ H=>t { D with nx:=u D } σ H
theorem zac:PSs X [] zr3:=fun _ _ σ H _ I h=>wpAny_execs_nil ⟨σ,H,I,h⟩
theorem zj(h1:PS X st t)(h2:PSs X rest u):PSs X (st :: rest) (zoA t u):=by
 intro zl s σ H D I h;refine wpAny_execs_cons (thn (h1 zl s σ H { D with nx:=u D } I h) fun f s1 q=>?_);cases f with
 | next =>
  obtain⟨σ',H',I',q⟩:=q;exact h2 zl s1 σ' H' D I' q
 | ret v=>exact q
 | brk=>exact q
 | cont=>exact q
theorem zq(h1:PS X st t):PSs X [st] t:=by
 intro zl s σ H D I h;refine wpAny_execs_cons (thn (h1 zl s σ H D I h) fun f s1 q=>?_);cases f with
 | next=>exact wpAny_execs_nil q
 | ret v=>exact q
 | brk=>exact q
 | cont=>exact q
theorem Inv.quiet{zl:List (Addr×Obj)}{σ:St}{H:Hp}{s:Shared}(I:Inv X zl σ H s):interactive X.env=false:=by simp [interactive,I.ok.kind]
def ztr(te:TE):TS:=fun D σ H=>te σ H fun _ H1=>D.nx σ H1
theorem zfC(he:PE X e te)(hs:swapsWith e none pos.line X.env=pure false:=by rfl):PS X (.Expr e pos) (ztr te):=by
 intro zl s σ H D I h;exact wpAny_Expr_any (thn (he zl s σ H _ I h) fun v s1 ⟨x,H1,I1,r1,q1⟩=>⟨σ,H1,I1,q1⟩) I.quiet hs
def zt3(te:TE):TS:=fun D σ H=>te σ H D.rt
theorem zK(he:PE X e te):PS X (.Return (some e) pos) (zt3 te):=by
 intro zl s σ H D I h;exact wpAny_Return_some (thn (he zl s σ H _ I h) fun v s1 ⟨x,H1,I1,r1,q1⟩=>⟨x,σ,H1,I1,r1,q1⟩)
def ztZ(c:TT)(t u:TS):TS:=fun D σ H=>c σ H fun b H1=>if b=true then t D σ H1 else u D σ H1
theorem zbk{c:Expr}{a b:List Stmt}{tc:TT}(hc:PT X c tc)(ha:PSs X a t)(hb:PSs X b u):PS X (.If c a b pos) (ztZ tc t u):=by
 intro zl s σ H D I h;refine wpAny_If (thn (hc zl s σ H _ I h) fun d s1 ⟨H1,I1,q1⟩=>?_);cases d with
 | true=>exact ha zl s1 σ H1 D I1 q1
 | false=>exact hb zl s1 σ H1 D I1 q1
def zp8:TS:=fun _ _ _=>False
theorem ziE:PS X st zp8:=fun _ _ _ _ _ _ h=>h.elim
end
abbrev TG:=V->St->Hp->(St->Hp->Prop)->Prop
abbrev TGs:=List V->St->Hp->(St->Hp->Prop)->Prop
def PG(X:Cx)(target:Expr)(t:TG):Prop :=
 ∀ (zl:List (Addr×Obj)) (s:Shared) (σ:St) (H:Hp) (v:V) (u:Value) (Q:St->Hp->Prop),Inv X zl σ H s->RelV v u->t v σ H Q ->
  wpAny (model X.prog X.w) X.A (assign target X.env u) (fun _ s'=>∃ σ' H',Inv X zl σ' H' s'/\Q σ' H') X.xe s
def PGs(X:Cx)(ts:List Expr)(t:TGs):Prop :=
 ∀ (zl:List (Addr×Obj)) (s:Shared) (σ:St) (H:Hp) (vs:List V) (us:List Value) (Q:St->Hp->Prop),Inv X zl σ H s->Vals vs us->t vs σ H Q ->
  wpAny (model X.prog X.w) X.A (assignInOrder ((assignEach ts X.env).map (·.2)) us) (fun _ s'=>∃ σ' H',Inv X zl σ' H' s'/\Q σ' H') X.xe s
abbrev TSet:=V->V->V->Hp->(Hp->Prop)->Prop
def PSet(X:Cx)(t:TSet):Prop :=
 ∀ (zl:List (Addr×Obj)) (s:Shared) (σ:St) (H:Hp) (o i v:V) (ov iv u:Value) (Q:Hp->Prop),Inv X zl σ H s->RelV o ov->RelV i iv->RelV v u->t o i v H Q ->
  wpAny (model X.prog X.w) X.A (setItem ov iv u) (fun _ s'=>∃ H',Inv X zl σ H' s'/\Q H') X.xe s
section
variable {X:Cx} {pos:Pos}
def zjc(i:Nat):TG:=fun v σ H Q=>Q (σ.set i (some v)) H
theorem zy{i:Nat}{x:Str}(hN:X.N.Nodup)(hi:X.N[i]? = some x)(hx:Loc X.env.scope x)(hf:X.fn x=true\/X.env.scope.names.lookup x=some .local:=by first | exact .inl rfl | exact .inr rfl | assumption):PG X (.Name x pos) (zjc i):=by
 intro zl s σ H v u Q I r h;exact wpAny_assign_Name (zh7 I hN hi hx r (fun s' I'=>⟨_,H,I',h⟩) hf)
def zuR:TGs:=fun vs σ H Q=>vs=[]/\Q σ H
def ztt(t:TG)(u:TGs):TGs:=fun vs σ H Q=>∃ v r,vs=v :: r/\t v σ H fun σ' H'=>u r σ' H' Q
theorem zau:PGs X [] zuR:=by
 intro zl s σ H vs us Q I r h;obtain⟨e,h⟩:=h;subst e;cases r;exact assignInOrder_nil ⟨σ,H,I,h⟩
theorem zB{e:Expr}{es:List Expr}{t:TG}{u:TGs}(h1:PG X e t)(h2:PGs X es u)
  (hs:(assignEach (e :: es) X.env).map (·.2)=assign e X.env :: (assignEach es X.env).map (·.2):=by rfl):PGs X (e :: es) (ztt t u):=by
 intro zl s σ H vs us Q I r h;obtain⟨v,vr,e1,h⟩:=h;subst e1;cases r with
 | cons r rr =>
  rw [hs];refine assignInOrder_cons (thn (h1 zl s σ H _ _ _ I r h) fun _ s1 ⟨σ1,H1,I1,q1⟩=>?_);exact h2 zl s1 σ1 H1 _ _ Q I1 rr q1
def zut(K:W.Frag)(n:Nat)(t:TGs):TG:=fun v σ H Q=>∃ a xs,v=.ref a/\SqT K H a xs/\xs.length=n/\t xs σ H Q
theorem zbh{es:List Expr}{k:Nat}{t:TGs}{n:Nat}(hc:X.calm=true)(h:PGs X es t)
  (hn:(assignEach es X.env).length=n:=by rfl) (hst:(assignEach es X.env).findIdx? (·.1)=none:=by rfl):PG X (.Tuple es k pos) (zut X.K n t):=by
 intro zl s σ H v u Q I r hw;obtain⟨a,xs,e1,hq,hl,hw⟩:=hw;subst e1;cases r;obtain⟨its,rv,ht,hz⟩:=I.tuple hq;refine assign_Tuple_tuple (I.ok.hd hc) ht (by simp [hn,<- hl,rv.length]) hst fun h' hx=>?_;have I1:Inv X zl σ H { s with heap:=h' }:=I.kept (t':=s.toks) fun b o e=>hx b o (Nat.ne_of_lt (Heap.lt_size e)) e;exact h zl _ σ H xs _ Q I1 (by simpa using rv) hw
def zuW(to ti:TE)(t:TSet):TG:=fun v σ H Q=>to σ H fun o H1=>ti σ H1 fun i H2=>t o i v H2 fun H3=>Q σ H3
theorem zkM{o i:Expr}{to ti:TE}{t:TSet}(ho:PE X o to)(hi:PE X i ti)(hs:PSet X t)
  (ha:∀ v,assign (.Subscript o i pos) X.env v=(do
   let ov <- holding [v] (eval o X.env)
   let iv <- holding [v,ov] (eval i X.env)
   standAt pos
   holding [v,ov,iv] (setItem ov iv v)
   release [v,ov,iv] []):=by intro _; rfl):PG X (.Subscript o i pos) (zuW to ti t):=by
 intro zl s σ H v u Q I r h;rw [ha];refine wpAny_bind (wpAny_holding (thn (ho zl s σ H _ I h) fun ov s1 ⟨x,H1,I1,r1,q1⟩=>?_));refine wpAny_bind (wpAny_holding (thn (hi zl s1 σ H1 _ I1 q1) fun iv s2 ⟨y,H2,I2,r2,q2⟩=>?_));refine wpAny_bind (wpAny_standAt (wpAny_bind (wpAny_holding (thn (hs zl s2 σ H2 x y v ov iv u _ I2 r1 r2 r q2) fun _ s3 ⟨H3,I3,q3⟩=>?_))));exact wpAny_release ⟨σ,H3,I3,q3⟩
def zsb(te:TE)(g:TG):TS:=fun D σ H=>te σ H fun x H1=>g x σ H1 D.nx
theorem zey{tg e:Expr}{te:TE}{g:TG}(he:PE X e te)(hg:PG X tg g)(hs:swapsWithSole [tg] e pos.line X.env=pure false:=by rfl)(hw:swappedStores [tg] e X.env=pure none:=by rfl)
  (h1:(assignEach [tg] X.env).map (·.2)=[assign tg X.env]:=by rfl):PS X (.Assign [tg] e pos) (zsb te g):=by
 intro zl s σ H D I h;refine wpAny_Assign_stores (thn (he zl s σ H _ I h) fun v s1 ⟨x,H1,I1,r1,q1⟩=>?_) hs hw;rw [h1];exact thn (hg zl s1 σ H1 x v _ I1 r1 q1) fun _ s2 q=>q
theorem zF{i:Nat}{x:Str}{e:Expr}{te:TE}{pos':Pos}(hN:X.N.Nodup)(hi:X.N[i]? = some x)(hx:Loc X.env.scope x)(he:PE X e te)(hs:swapsWith e (some (.Name x pos')) pos.line X.env=pure false:=by rfl)(hf:X.fn x=true\/X.env.scope.names.lookup x=some .local:=by first | exact .inl rfl | exact .inr rfl | assumption):
  PS X (.Assign [.Name x pos'] e pos) (zsb te (zjc i)):=by
 intro zl s σ H D I h;refine wpAny_Assign_Name (thn (he zl s σ H _ I h) fun v s1 ⟨y,H1,I1,r1,q1⟩=>?_) hs;exact zh7 I1 hN hi hx r1 (fun s2 I2=>⟨_,H1,I2,q1⟩) hf
end
section
variable {X:Cx} {pos:Pos}
def zq4(c:TT)(tb:TS):TS:=fun D σ H=>∃ W:Nat->St->Hp->Prop,(∃ m,W m σ H)/\∀ m σ H,W m σ H ->
 c σ H fun b H1=>if b=true then ∃ N:St->Hp->Prop,(∀ σ' H',N σ' H'->∃ m',m'<m/\W m' σ' H')/\tb { D with nx:=N,ct:=N,bk:=D.nx } σ H1 else D.nx σ H1
theorem zpv{c:Expr}{body:List Stmt}{tc:TT}{tb:TS}(hp:PassesOwn (model X.prog X.w) X.A X.env X.xe)(hc:PT X c tc)(hb:PSs X body tb):PS X (.While c body [] pos) (zq4 tc tb):=by
 intro zl s σ H D I h;obtain⟨W,⟨m0,w0⟩,turn⟩:=h;refine wpAny_While (codeAny_whileLoop (fun n s'=>∃ σ' H',Inv X zl σ' H' s'/\W n σ' H') ?_ m0 ⟨σ,H,I,w0⟩);rintro n s1 ⟨σ1,H1,I1,w1⟩;refine wpAny_passesOwn hp (thn (hc zl s1 σ1 H1 _ I1 (turn n σ1 H1 w1)) fun b s2 ⟨H2,I2,q2⟩=>?_);cases b with
 | true =>
  obtain⟨N,hN,q2⟩:=q2;rw [if_pos rfl];refine wpAny_passesOwn hp (thn (hb zl s2 σ1 H2 _ I2 q2) fun f s3 q3=>?_);cases f with
  | next =>
   obtain⟨σ3,H3,I3,n3⟩:=q3;obtain⟨m',hm,w3⟩:=hN σ3 H3 n3;exact⟨m',hm,σ3,H3,I3,w3⟩
  | cont =>
   obtain⟨σ3,H3,I3,n3⟩:=q3;obtain⟨m',hm,w3⟩:=hN σ3 H3 n3;exact⟨m',hm,σ3,H3,I3,w3⟩
  | brk=>exact q3
  | ret v=>exact q3
 | false =>
  rw [if_neg Bool.false_ne_true];exact wpAny_execs_nil ⟨σ1,H2,I2,q2⟩
end
structure It where
 go:Nat->Hp->Prop
 yld:Nat->Hp->V->Hp->Prop
 stop:Nat->Hp->Prop
def FpOk(X:Cx)(zl:List (Addr×Obj))(H:Hp)(b:Addr):Prop :=
 H b=none/\b≠X.env.locals/\b∉X.fs/\(b∈X.ex\/X.s₀.heap.objs.size<=b)/\(∀ x c,X.env.cells.lookup x=some c->c≠b)/\∀ p∈X.pn++zl,p.1≠b
theorem Inv.fpOk{X:Cx}{zl:List (Addr×Obj)}{σ:St}{H H':Hp}{s:Shared}{b:Addr}(I:Inv X zl σ H s)(hb:s.heap.objs.size<=b)(hn:H' b=none):FpOk X zl H' b:=by
 refine⟨hn,Nat.ne_of_gt (Nat.lt_of_lt_of_le I.lt hb),I.nofs hb,.inr (Nat.le_trans I.sz hb),fun x c e z=>?_,fun p hp z=>?_⟩
 ·obtain⟨v,q⟩:=I.cell x c e;exact absurd (Nat.lt_of_lt_of_le q.lt (by rw [z]; exact hb)) (Nat.lt_irrefl _)
 ·exact absurd (Nat.lt_of_lt_of_le (Heap.lt_size (I.pin p hp).1) (by rw [z]; exact hb)) (Nat.lt_irrefl _)
structure Turn(P:Program)(w:World)(K:W.Frag)(tg:Expr)(J:It)(fp:List Addr)(it:Addr)(tn:Nat->Heap->Prop):Prop where
 mem:it∈fp
 obj:∀ i h,tn i h->∀ b∈fp,∃ o,h.get? b=some o/\∀ v,o.data≠.cell v
 keep:∀ i h h',tn i h->(∀ b∈fp,∀ o,h.get? b=some o->h'.get? b=some o)->tn i h'
 item:∀ (X:Cx),X.prog=P->X.w=w->X.K=K->X.calm=true->∀ (i:Nat) (zl:List (Addr×Obj)) (s:Shared) (σ:St) (H:Hp) (E:Value->Shared->Prop),Inv X zl σ H s->(∀ b∈fp,FpOk X zl H b)->tn i s.heap->J.go i H ->
  wpAny (model P w) X.A (pyNext (.ref it)) (fun r s1=>∃ u,r=some u /\
   wpAny (model P w) X.A (letOwnedTupleGo tg (.ref it) u) (fun _ s2=>∃ x H',Inv X zl σ H' s2/\RelV x u/\J.yld i H x H'/\tn (i+1) s2.heap/\∀ b∈fp,H' b=none) E s1) E s
 done:∀ (X:Cx),X.prog=P->X.w=w->X.K=K->X.calm=true->∀ (i:Nat) (zl:List (Addr×Obj)) (s:Shared) (σ:St) (H:Hp) (E:Value->Shared->Prop),Inv X zl σ H s->(∀ b∈fp,FpOk X zl H b)->tn i s.heap->J.stop i H ->
  wpAny (model P w) X.A (pyNext (.ref it)) (fun r s1=>r=none/\Inv X zl σ H s1) E s
 self:∀ (A:Around) (i:Nat) (s:Shared) (Q:Value->Shared->Prop) (E:Value->Shared->Prop),tn i s.heap->Q (.ref it) s->wpAny (model P w) A (pyIter (.ref it)) Q E s
abbrev TI:=St->Hp->(It->Hp->Prop)->Prop
def PIE(X:Cx)(zl:List (Addr×Obj))(σ:St)(tg:Expr)(R:It->Hp->Prop)(itv:Value)(s2:Shared):Prop :=
 ∃ (it:Addr) (fp:List Addr) (tn:Nat->Heap->Prop) (J:It) (H':Hp),itv=.ref it/\Inv X zl σ H' s2/\Turn X.prog X.w X.K tg J fp it tn/\tn 0 s2.heap/\(∀ b∈fp,FpOk X zl H' b)/\R J H'
def PI(X:Cx)(tg iter:Expr)(wi:TI):Prop :=
 ∀ (zl:List (Addr×Obj)) (s:Shared) (σ:St) (H:Hp) (R:It->Hp->Prop),Inv X zl σ H s->wi σ H R ->
  wpAny (model X.prog X.w) X.A (eval iter X.env) (fun v s1=>wpAny (model X.prog X.w) X.A (pyIter v) (PIE X zl σ tg R) X.xe s1) X.xe s
theorem zod{M:Model}{A:Around}{E:Value->Shared->Prop}{s:Shared}{tg:Expr}{it:Addr}{u:Value}{o:Obj}{n:String}{vs:Array Value}{Q:Unit->Shared->Prop}(ho:s.heap.get? it=some o)(hc:o.cls=.type n)(hd:o.data=.fields vs)
    (hn:["enumerate","zip","dict_itemiterator","dict_reverseitemiterator","odict_iterator","itertools.zip_longest","itertools.pairwise"].contains n=false) (hQ:Q () s):wpAny M A (letOwnedTupleGo tg (.ref it) u) Q E s:=by
  unfold letOwnedTupleGo;cases tg <;> first
    | exact wpAny_pure hQ
    | (cases u <;> first
        | exact wpAny_pure hQ
        | (refine wpAny_bind (wpAny_load ho ?_)
           rw [hc,hd];show wpAny M A (if (["enumerate","zip","dict_itemiterator","dict_reverseitemiterator","odict_iterator","itertools.zip_longest","itertools.pairwise"].contains n && vs[0]? == some (rawInt _))=true then _ else _) Q E s;rw [if_neg (by intro h; rw [hn,Bool.false_and] at h; cases h)];exact wpAny_pure hQ))
def Itl(K:W.Frag)(a:Addr):It :=
 ⟨fun i H=>∃ xs x,SqL K H a xs/\xs[i]? = some x,fun i H x H'=>H'=H/\∀ xs,SqL K H a xs->xs[i]? = some x,fun i H=>∃ xs,SqL K H a xs/\xs.length<=i⟩
def Itt(K:W.Frag)(a:Addr):It :=
 ⟨fun i H=>∃ xs x,SqT K H a xs/\xs[i]? = some x,fun i H x H'=>H'=H/\∀ xs,SqT K H a xs->xs[i]? = some x,fun i H=>∃ xs,SqT K H a xs/\xs.length<=i⟩
def Itr(lo:Int)(n:Nat):It:=⟨fun i _=>i<n,fun i H x H'=>H'=H/\x=.int (lo+i),fun i _=>n<=i⟩
theorem zjy{P:Program}{w:World}{K:W.Frag}{tg:Expr}(a it:Addr):Turn P w K tg (Itl K a) [it] it (fun i h=>h.IsListIter it a i) where
 mem:=by simp
 obj:=fun i h st b hb=>by
  have e:b=it:=by simpa using hb
  subst e;obtain⟨o,e,c,d⟩:=st;exact⟨o,e,fun v z=>by rw [d] at z; cases z⟩
 keep:=fun i h h' st k=>st.at fun o e=>k it (by simp) o e
 item:=by
  intro X hP hw hK hc i zl s σ H E I hf st hg;subst hP hw hK;obtain⟨xs,x,hq,hx⟩:=hg;obtain⟨its,rv,p,hz⟩:=I.list hq;obtain⟨u,hu,ru⟩:=rv.get hx;obtain⟨f0,f1,f2,f3,f4,f5⟩:=hf it (by simp);refine wpAny_pyNext_list_item st p.isList (x:=u) (by simpa using hu) fun h' st' sb=>?_;have I1:Inv X zl σ H { s with heap:=h' }:=I.turned (t':=s.toks) (fun b o hb e=>(sb.2 b hb).trans e) f0 f1 f3 f4 f5;obtain⟨o,e,c,d⟩:=id st';exact⟨u,rfl,zod (s:={ s with heap:=h' }) e c d (by decide) ⟨x,H,I1,ru,⟨rfl,fun ys hy=>by rw [I.list_inj hy hq]; exact hx⟩,st',fun b hb=>(hf b hb).1⟩⟩
 done:=by
  intro X hP hw hK hc i zl s σ H E I hf st hg;subst hP hw hK;obtain⟨xs,hq,hx⟩:=hg;obtain⟨its,rv,p,hz⟩:=I.list hq;obtain⟨f0,f1,f2,f3,f4,f5⟩:=hf it (by simp);have hl:=rv.length;exact wpAny_pyNext_list_end (I.ok.hd hc) st p.isList (by simp; omega) fun h' eb=>⟨rfl,I.turned (t':=s.toks) (fun b o hb e=>eb b o hb e) f0 f1 f3 f4 f5⟩
 self:=fun _ _ _ _ _ st h=>wpAny_pyIter_listiter st h
theorem zlX{P:Program}{w:World}{K:W.Frag}{tg:Expr}(a it:Addr):Turn P w K tg (Itt K a) [it] it (fun i h=>h.IsTupleIter it a i) where
 mem:=by simp
 obj:=fun i h st b hb=>by
  have e:b=it:=by simpa using hb
  subst e;obtain⟨o,e,c,d⟩:=st;exact⟨o,e,fun v z=>by rw [d] at z; cases z⟩
 keep:=fun i h h' st k=>st.at fun o e=>k it (by simp) o e
 item:=by
  intro X hP hw hK hc i zl s σ H E I hf st hg;subst hP hw hK;obtain⟨xs,x,hq,hx⟩:=hg;obtain⟨its,rv,p,hz⟩:=I.tuple hq;obtain⟨u,hu,ru⟩:=rv.get hx;obtain⟨f0,f1,f2,f3,f4,f5⟩:=hf it (by simp);refine wpAny_pyNext_tuple_item st (show s.heap.IsTuple a its.toArray from p) (x:=u) (by simpa using hu) fun h' st' sb=>?_;have I1:Inv X zl σ H { s with heap:=h' }:=I.turned (t':=s.toks) (fun b o hb e=>(sb.2 b hb).trans e) f0 f1 f3 f4 f5;obtain⟨o,e,c,d⟩:=id st';exact⟨u,rfl,zod (s:={ s with heap:=h' }) e c d (by decide) ⟨x,H,I1,ru,⟨rfl,fun ys hy=>by rw [I.tuple_inj hy hq]; exact hx⟩,st',fun b hb=>(hf b hb).1⟩⟩
 done:=by
  intro X hP hw hK hc i zl s σ H E I hf st hg;subst hP hw hK;obtain⟨xs,hq,hx⟩:=hg;obtain⟨its,rv,p,hz⟩:=I.tuple hq;obtain⟨f0,f1,f2,f3,f4,f5⟩:=hf it (by simp);have hl:=rv.length;exact wpAny_pyNext_tuple_end (I.ok.hd hc) st (show s.heap.IsTuple a its.toArray from p) (by simp; omega) fun h' eb=>⟨rfl,I.turned (t':=s.toks) (fun b o hb e=>eb b o hb e) f0 f1 f3 f4 f5⟩
 self:=fun _ _ _ _ _ st h=>wpAny_pyIter_tupleiter st h
theorem zl4{P:Program}{w:World}{K:W.Frag}{tg:Expr}(it:Addr)(lo:Int)(n:Nat):Turn P w K tg (Itr lo n) [it] it (fun i h=>IsRangeIter h it (lo+(i:Nat)*1) ((n:Int) - (i:Nat)) 1) where
 mem:=by simp
 obj:=fun i h st b hb=>by
  have e:b=it:=by simpa using hb
  subst e;exact⟨_,st,fun v z=>by
   have z':Data.fields _=Data.cell v:=z;cases z'⟩
 keep:=fun i h h' st k=>k it (by simp) _ st
 item:=by
  intro X hP hw hK hc i zl s σ H E I hf st hg;subst hP hw hK;obtain⟨f0,f1,f2,f3,f4,f5⟩:=hf it (by simp);have W:=Walks.range (prog:=X.prog) (w:=X.w) (I.ok.hd hc) it lo 1 n;refine W.item i s _ _ hg st fun v h' tk hv st' kk=>?_;obtain⟨t,rfl⟩:=hv;have I1:Inv X zl σ H { s with heap:=h',toks:=tk }:=I.turned (fun b o hb e=>kk b o (by simpa using hb) e) f0 f1 f3 f4 f5;refine⟨_,rfl,zod (s:={ s with heap:=h',toks:=tk }) (n:="range_iterator") st' rfl rfl (by decide) ⟨.int (lo+i),H,I1,⟨t,?_⟩,⟨rfl,rfl⟩,st',fun b hb=>(hf b hb).1⟩⟩;rw [Int.mul_one]
 done:=by
  intro X hP hw hK hc i zl s σ H E I hf st hg;subst hP hw hK;obtain⟨f0,f1,f2,f3,f4,f5⟩:=hf it (by simp);exact wpAny_pyNext_range_end (I.ok.hd hc) st (by have:n<=i:=hg; omega) fun h' eb=>⟨rfl,I.turned (t':=s.toks) (fun b o hb e=>eb b o hb e) f0 f1 f3 f4 f5⟩
 self:=fun _ _ _ _ _ st h=>wpAny_pyIter_rangeiter st h
end
section
section
variable {X:Cx} {tg:Expr}
def zrA(K:W.Frag)(tl:TE):TI:=fun σ H R=>tl σ H fun x H1=>∃ a,x=.ref a/\(∃ xs,SqL K H1 a xs)/\R (Itl K a) H1
theorem zrd{l:Expr}{tl:TE}(hl:PE X l tl):PI X tg l (zrA X.K tl):=by
 intro zl s σ H R I h;refine thn (hl zl s σ H _ I h) fun v s1 ⟨x,H1,I1,r1,q1⟩=>?_;obtain⟨a,e,⟨xs,hq⟩,q⟩:=q1;subst e;cases r1;obtain⟨its,rv,p,hz⟩:=I1.list hq;refine wpAny_pyIter_list p.isList ?_;refine⟨s1.heap.objs.size,[s1.heap.objs.size],_,_,H1,rfl,I1.kept (t':=s1.toks) fun b o e=>Heap.get?_push_of_some _ e,zjy a _,⟨_,Heap.get?_push_size _ rfl,rfl,rfl⟩,fun b hb=>?_,q⟩;have e:b=s1.heap.objs.size:=by simpa using hb
 subst e;exact I1.fpOk (Nat.le_refl _) (I1.hok.fresh (Nat.le_refl _))
def ztz(wi:TI)(g:TG)(tb:TS):TS:=fun D σ H=>wi σ H fun J H1=>∃ W:Nat->Nat->St->Hp->Prop,(∃ m,W 0 m σ H1)/\∀ i m σ H,W i m σ H ->
 (J.stop i H/\D.nx σ H)\/(J.go i H/\∃ N:St->Hp->Prop,(∀ σ' H',N σ' H'->∃ m',m'<m/\W (i+1) m' σ' H')/\∀ x H',J.yld i H x H'->g x σ H' fun σ2 H2=>tb { D with nx:=N,ct:=N,bk:=D.nx } σ2 H2)
def zjl(fp:List Addr)(h:Heap):List (Addr×Obj):=fp.filterMap fun b=>(h.get? b).map fun o=>(b,o)
theorem zep{fp:List Addr}{h:Heap}{b:Addr}{o:Obj}(hb:b∈fp)(e:h.get? b=some o):(b,o)∈zjl fp h:=List.mem_filterMap.mpr ⟨b,hb,by rw [e]; rfl⟩
theorem zm7{fp:List Addr}{h:Heap}{p:Addr×Obj}(hp:p∈zjl fp h):p.1∈fp/\h.get? p.1=some p.2:=by
 obtain⟨b,hb,e⟩:=List.mem_filterMap.mp hp;cases q:h.get? b with
 | none=>rw [q] at e; cases e
 | some o =>
  rw [q] at e;have e':(b,o)=p:=Option.some.inj e;subst e';exact⟨hb,q⟩
theorem Inv.pinned{zl:List (Addr×Obj)}{σ:St}{H:Hp}{s:Shared}{fp:List Addr}(I:Inv X zl σ H s)(hf:∀ b∈fp,FpOk X zl H b)(ho:∀ b∈fp,∃ o,s.heap.get? b=some o/\∀ v,o.data≠.cell v):Inv X (zl++zjl fp s.heap) σ H s :=
 I.pins_of fun p hp=>(List.mem_append.mp hp).elim (fun z=>I.pin p (List.mem_append_right _ z)) fun z=>by
  obtain⟨hb,e⟩:=zm7 z;obtain⟨f0,f1,f2,_⟩:=hf p.1 hb;obtain⟨o,e',d⟩:=ho p.1 hb;rw [e] at e'; cases e';exact⟨e,f0,f1,f2,d⟩
theorem Inv.unpinned{zl pl:List (Addr×Obj)}{σ:St}{H:Hp}{s:Shared}(I:Inv X (zl++pl) σ H s):Inv X zl σ H s:=I.pins_of fun p hp=>I.pin p (List.mem_append_right _ (List.mem_append_left _ hp))
theorem zcd{iter:Expr}{body:List Stmt}{wi:TI}{g:TG}{tb:TS}{pos:Pos}(hp:PassesOwn (model X.prog X.w) X.A X.env X.xe)(hc:X.calm=true)(hi:PI X tg iter wi)(hg:PG X tg g)(hb:PSs X body tb)
  (hs:∀ x,foldedSetIterable iter X.env x=pure x:=by intro _; rfl):PS X (.For tg iter body [] pos) (ztz wi g tb):=by
 intro zl s σ H D I h;refine wpAny_For (thn (hi zl s σ H _ I h) fun v s1 h1=>thn h1 fun itv s2 h2=>?_) hs;obtain⟨it,fp,tn,J,H2,e,I2,T,st2,f2,W,⟨m0,w0⟩,turn⟩:=h2;subst e
 -- what stays true of the iterator's objects through the loop
 have stat:∀ {H':Hp},(∀ b∈fp,H' b=none)->∀ b∈fp,FpOk X zl H' b:=fun hn b hb=>⟨hn b hb,(f2 b hb).2⟩;refine codeAny_forLoop_any (fun n s'=>∃ i σ' H',Inv X zl σ' H' s'/\tn i s'.heap/\(∀ b∈fp,H' b=none)/\W i n σ' H') ?_ m0 ⟨0,σ,H2,I2,st2,fun b hb=>(f2 b hb).1,w0⟩;rintro n s3 ⟨i,σ3,H3,I3,st3,fr3,w3⟩;rcases turn i n σ3 H3 w3 with ⟨stop,qn⟩ | ⟨go,N,hN,step⟩
 ·refine wpAny_passesOwn hp (thn (T.done X rfl rfl rfl hc i zl s3 σ3 H3 X.xe I3 (stat fr3) st3 stop) fun r s4 ⟨hr,I4⟩=>?_);subst hr;exact wpAny_execs_nil ⟨σ3,H3,I4,qn⟩
 ·refine wpAny_passesOwn hp (thn (T.item X rfl rfl rfl hc i zl s3 σ3 H3 X.xe I3 (stat fr3) st3 go) fun r s4 ⟨u,hr,h4⟩=>?_);subst hr;refine wpAny_passesOwn hp (thn h4 fun _ s5 ⟨x,H5,I5,r5,y5,st5,fr5⟩=>?_);have I5':=I5.pinned (stat fr5) (T.obj _ _ st5);refine wpAny_passesOwn hp (thn (hg _ s5 σ3 H5 x u _ I5' r5 (step x H5 y5)) fun _ s6 ⟨σ6,H6,I6,q6⟩=>?_);refine wpAny_passesOwn hp (thn (hb _ s6 σ6 H6 _ I6 q6) fun f s7 q7=>?_);have again:∀ {σ7:St} {H7:Hp},Inv X (zl++zjl fp s5.heap) σ7 H7 s7->N σ7 H7->∃ m,m<n/\∃ i σ' H',Inv X zl σ' H' s7/\tn i s7.heap/\(∀ b∈fp,H' b=none)/\W i m σ' H':=fun {σ7 H7} I7 n7=>by
   obtain⟨m',hm,w7⟩:=hN σ7 H7 n7;refine⟨m',hm,i+1,σ7,H7,I7.unpinned,T.keep _ _ _ st5 fun b hb o e=>(I7.pin (b,o) (List.mem_append_right _ (List.mem_append_right _ (zep hb e)))).1,fun b hb=>?_,w7⟩;obtain⟨o,e,d⟩:=T.obj _ _ st5 b hb;exact(I7.pin (b,o) (List.mem_append_right _ (List.mem_append_right _ (zep hb e)))).2.1
  cases f with
  | next=>obtain⟨σ7,H7,I7,n7⟩:=q7; exact again I7 n7
  | cont=>obtain⟨σ7,H7,I7,n7⟩:=q7; exact again I7 n7
  | brk=>obtain⟨σ7,H7,I7,q7⟩:=q7; exact⟨σ7,H7,I7.unpinned,q7⟩
  | ret v=>obtain⟨x7,σ7,H7,I7,r7,q7⟩:=q7; exact⟨x7,σ7,H7,I7.unpinned,r7,q7⟩
end
theorem zpi{K:W.Frag}{a:Addr}{xs:List V}{g:TG}{tb:TS}{D:Ends}{σ:St}{H:Hp}(Pv:Nat->St->Hp->Prop)(h0:Pv 0 σ H)(hl:∀ i σ H,i<=xs.length->Pv i σ H->SqL K H a xs)
  (hs:∀ i x σ H,xs[i]? = some x->Pv i σ H->g x σ H fun σ2 H2=>tb { D with nx:=Pv (i+1),ct:=Pv (i+1),bk:=D.nx } σ2 H2) (hd:∀ σ H,Pv xs.length σ H->D.nx σ H) :
  ∃ W:Nat->Nat->St->Hp->Prop,(∃ m,W 0 m σ H)/\∀ i m σ H,W i m σ H ->
   ((Itl K a).stop i H/\D.nx σ H)\/((Itl K a).go i H/\∃ N:St->Hp->Prop,(∀ σ' H',N σ' H'->∃ m',m'<m/\W (i+1) m' σ' H')/\∀ x H',(Itl K a).yld i H x H'->g x σ H' fun σ2 H2=>tb { D with nx:=N,ct:=N,bk:=D.nx } σ2 H2):=by
 refine⟨fun i m σ H=>m=xs.length - i/\i<=xs.length/\Pv i σ H,⟨xs.length,by simp,Nat.zero_le _,h0⟩,?_⟩;rintro i m σ H ⟨rfl,hi,p⟩;have q:=hl i σ H hi p;by_cases hlt:i<xs.length
 ·refine .inr ⟨⟨xs,xs[i],q,by simp [hlt]⟩,Pv (i+1),fun σ' H' p'=>⟨xs.length - (i+1),by omega,rfl,hlt,p'⟩,fun x H' y=>?_⟩;obtain⟨e,y⟩:=y;subst e;exact hs i x σ _ (y xs q) p
 ·have e:i=xs.length:=by omega
  subst e;exact .inl ⟨⟨xs,q,Nat.le_refl _⟩,hd σ H p⟩
end
section
abbrev R2:=V->V->Hp->VK->Prop
def OpR(X:Cx)(f:Value->Value->Sem Value)(r:R2):Prop :=
 ∀ (zl:List (Addr×Obj)) (s:Shared) (σ:St) (H:Hp) (x y:V) (v u:Value) (Q:VK),Inv X zl σ H s->RelV x v->RelV y u->r x y H Q ->
  wpAny (model X.prog X.w) X.A (f v u) (EP X zl σ Q) X.xe s
def UnR(X:Cx)(f:Value->Sem Value)(r:V->Hp->VK->Prop):Prop :=
 ∀ (zl:List (Addr×Obj)) (s:Shared) (σ:St) (H:Hp) (x:V) (v:Value) (Q:VK),Inv X zl σ H s->RelV x v->r x H Q ->
  wpAny (model X.prog X.w) X.A (f v) (EP X zl σ Q) X.xe s
def CallR(X:Cx)(f:Value)(r:List V->Hp->VK->Prop):Prop :=
 ∀ (zl:List (Addr×Obj)) (s:Shared) (σ:St) (H:Hp) (xs:List V) (us:List Value) (Q:VK),Inv X zl σ H s->Vals xs us->r xs H Q ->
  wpAny (model X.prog X.w) X.A (call f us) (EP X zl σ Q) X.xe s
def TruR(X:Cx)(r:V->Hp->(Bool->Hp->Prop)->Prop):Prop :=
 ∀ (zl:List (Addr×Obj)) (s:Shared) (σ:St) (H:Hp) (x:V) (v:Value) (Q:Bool->Hp->Prop),Inv X zl σ H s->RelV x v->r x H Q ->
  wpAny (model X.prog X.w) X.A (truthy v) (TP X zl σ Q) X.xe s
def tOp(r:R2)(ta tb:TE):TE:=fun σ H Q=>ta σ H fun x H1=>tb σ H1 fun y H2=>r x y H2 Q
def tUn(r:V->Hp->VK->Prop)(ta:TE):TE:=fun σ H Q=>ta σ H fun x H1=>r x H1 Q
def rI(C:Int->Int->Prop)(g:Int->Int->V):R2:=fun x y H Q=>∃ i j,x=.int i/\y=.int j/\C i j/\Q (g i j) H
def rI0(g:Int->Int->V):R2:=fun x y H Q=>∃ i j,x=.int i/\y=.int j/\Q (g i j) H
def rU(g:Int->V):V->Hp->VK->Prop:=fun x H Q=>∃ i,x=.int i/\Q (g i) H
section
variable {X:Cx} {a b c:Expr} {ta tb tc:TE} {pos:Pos}
theorem zus(ha:PE X a ta)(hb:PE X b tb){zl:List (Addr×Obj)}{s:Shared}{σ:St}{H:Hp}{R:V->V->Hp->Prop}(I:Inv X zl σ H s)
  (h:ta σ H fun x H1=>tb σ H1 fun y H2=>R x y H2) {Q:Value->Shared->Prop} {f:Value->Value->Sem Value}
  (hf:∀ v u s2 x y H2,Inv X zl σ H2 s2->RelV x v->RelV y u->R x y H2->wpAny (model X.prog X.w) X.A (f v u) Q X.xe s2) :
  wpAny (model X.prog X.w) X.A (eval a X.env) (fun v s₁=>wpAny (model X.prog X.w) X.A (eval b X.env) (fun u s₂=>wpAny (model X.prog X.w) X.A (f v u) Q X.xe s₂) X.xe s₁) X.xe s:=by
 refine thn (ha zl s σ H _ I h) fun v s1 ⟨x,H1,I1,r1,q1⟩=>?_;refine thn (hb zl s1 σ H1 _ I1 q1) fun u s2 ⟨y,H2,I2,r2,q2⟩=>?_;exact hf v u s2 x y H2 I2 r1 r2 q2
theorem zC{op:Operator}{r:R2}(ho:OpR X (binaryOp op) r)(ha:PE X a ta)(hb:PE X b tb):PE X (.BinOp a op b pos) (tOp r ta tb):=by
 intro zl s σ H Q I h;exact wpAny_BinOp (zus ha hb I h fun v u s2 x y H2 I2 rx ry q=>ho zl s2 σ H2 x y v u Q I2 rx ry q)
theorem zdH{op:UnaryOp}{r:V->Hp->VK->Prop}(ho:UnR X (unaryOp op) r)(ha:PE X a ta):PE X (.UnaryOp op a pos) (tUn r ta):=by
 intro zl s σ H Q I h;exact UnaryOp_ (thn (ha zl s σ H _ I h) fun v s1 ⟨x,H1,I1,r1,q1⟩=>ho zl s1 σ H1 x v Q I1 r1 q1)
theorem opI{f:Value->Value->Sem Value}{C:Int->Int->Prop}{g:Int->Int->Int}
  (rule:∀ (i j:Int) (t u:Tok) (s:Shared) (Q:Value->Shared->Prop) (E:Value->Shared->Prop),C i j->Q (.int (g i j) s.toks) { s with toks:=s.toks+1 }->wpAny (model X.prog X.w) X.A (f (.int i t) (.int j u)) Q E s) :
  OpR X f (rI C fun i j=>.int (g i j)):=by
 intro zl s σ H x y v u Q I rx ry h;obtain⟨i,j,rfl,rfl,hc,q⟩:=h;obtain⟨t,rfl⟩:=rx;obtain⟨t',rfl⟩:=ry;exact rule i j t t' s _ _ hc ⟨.int (g i j),H,I.tok _,⟨_,rfl⟩,q⟩
theorem zuy{f:Value->Value->Sem Value}{g:Int->Int->Int}
  (rule:∀ (i j:Int) (t u:Tok) (s:Shared) (Q:Value->Shared->Prop) (E:Value->Shared->Prop),Q (.int (g i j) s.toks) { s with toks:=s.toks+1 }->wpAny (model X.prog X.w) X.A (f (.int i t) (.int j u)) Q E s) :
  OpR X f (rI0 fun i j=>.int (g i j)):=by
 intro zl s σ H x y v u Q I rx ry h;obtain⟨i,j,rfl,rfl,q⟩:=h;obtain⟨t,rfl⟩:=rx;obtain⟨t',rfl⟩:=ry;exact rule i j t t' s _ _ ⟨.int (g i j),H,I.tok _,⟨_,rfl⟩,q⟩
theorem ztY{f:Value->Value->Sem Value}{g:Int->Int->Bool}
  (rule:∀ (i j:Int) (t u:Tok) (s:Shared) (Q:Value->Shared->Prop) (E:Value->Shared->Prop),Q (.bool (g i j)) s->wpAny (model X.prog X.w) X.A (f (.int i t) (.int j u)) Q E s) :
  OpR X f (rI0 fun i j=>.bl (g i j)):=by
 intro zl s σ H x y v u Q I rx ry h;obtain⟨i,j,rfl,rfl,q⟩:=h;obtain⟨t,rfl⟩:=rx;obtain⟨t',rfl⟩:=ry;exact rule i j t t' s _ _ ⟨.bl (g i j),H,I,rfl,q⟩
def CDivN(i j:Int):Prop:=j≠0/\j.natAbs<1073741824
def CPow(i j:Int):Prop:=0<=j/\j<=1000000/\i.natAbs<2 ^ 64
theorem ztp:OpR X (binaryOp .Add) (rI0 fun i j=>.int (i+j)):=zuy fun _ _ _ _ _ _ _ q=>add_int q
theorem zaS:OpR X (binaryOp .Sub) (rI0 fun i j=>.int (i - j)):=zuy fun _ _ _ _ _ _ _ q=>sub_int q
theorem zpt:OpR X (binaryOp .FloorDiv) (rI CDivN fun i j=>.int (i.fdiv j)):=opI fun _ _ _ _ _ _ _ hc q=>floordiv_int hc.1 q (.inl (PyProof.noPylong_small hc.2))
theorem zd4:OpR X (binaryOp .Mod) (rI (fun _ j=>0<j) fun i j=>.int (i % j)):=opI fun i j _ _ _ _ _ hc q=>by
 have h1:(0:Int)<j:=hc;exact mod_int' (by omega) (by rw [Int.fmod_eq_emod_of_nonneg i (by omega)]; exact q)
theorem zhF:OpR X (binaryOp .Pow) (rI CPow fun i j=>.int (i ^ j.toNat)):=opI fun _ _ _ _ _ _ _ hc q=>pow_int_small hc.1 hc.2.1 hc.2.2 q
theorem unI{f:Value->Sem Value}{g:Int->Int}
  (rule:∀ (i:Int) (t:Tok) (s:Shared) (Q:Value->Shared->Prop) (E:Value->Shared->Prop),Q (.int (g i) s.toks) { s with toks:=s.toks+1 }->wpAny (model X.prog X.w) X.A (f (.int i t)) Q E s) :
  UnR X f (rU fun i=>.int (g i)):=by
 intro zl s σ H x v Q I rx h;obtain⟨i,rfl,q⟩:=h;obtain⟨t,rfl⟩:=rx;exact rule i t s _ _ ⟨.int (g i),H,I.tok _,⟨_,rfl⟩,q⟩
theorem zbM:UnR X (unaryOp .USub) (rU fun i=>.int (-i)):=unI fun _ _ _ _ _ q=>neg_int q
end
section
variable {X:Cx} {a b c:Expr} {ta tb tc:TE} {pos:Pos}
theorem zqA{zl:List (Addr×Obj)}{σ:St}{H:Hp}{s:Shared}{Q:VK}{k k':Bool}(I:Inv X zl σ H s)(q:Q (.bl k) H)(e:k=k'):EP X zl σ Q (.bool k') s:=by
 subst e;exact⟨.bl k,H,I,rfl,q⟩
theorem zku:OpR X (compareOp .Lt) (rI0 fun i j=>.bl (decide (i<j))):=ztY fun _ _ _ _ _ _ _ q=>lt_int q
theorem zfA:OpR X (compareOp .LtE) (rI0 fun i j=>.bl (decide (i<=j))):=ztY fun _ _ _ _ _ _ _ q=>le_int q
theorem zrD:OpR X (compareOp .Gt) (rI0 fun i j=>.bl (decide (j<i))):=ztY fun _ _ _ _ _ _ _ q=>gt_int q
theorem zt8:OpR X (compareOp .GtE) (rI0 fun i j=>.bl (decide (j<=i))):=ztY fun _ _ _ _ _ _ _ q=>ge_int q
theorem ztM:OpR X (compareOp .Is) (fun x y H Q=>y=.non/\Q (.bl (decide (x=.non))) H):=by
 intro zl s σ H x y v u Q I rx ry h;obtain⟨rfl,q⟩:=h;cases ry;refine is_none_gen (zqA I q ?_);cases x <;> first
  | (cases rx; rfl)
  | (obtain⟨t,rfl⟩:=rx; rfl)
theorem zi9:OpR X (compareOp .NotIn) (fun x y H Q=>∃ i j,x=.str i/\y=.str j/\Q (.bl (!(!(Builtin.Str.occurrences j i 0 j.length 1).isEmpty))) H):=by
 intro zl s σ H x y v u Q I rx ry h;obtain⟨i,j,rfl,rfl,q⟩:=h;obtain⟨t,rfl⟩:=rx;obtain⟨t',rfl⟩:=ry;exact notIn_str (zqA I q rfl)
theorem OpR.or{f:Value->Value->Sem Value}{r r':R2}(h:OpR X f r)(h':OpR X f r'):OpR X f (fun x y H Q=>r x y H Q\/r' x y H Q):=by
 intro zl s σ H x y v u Q I rx ry q;rcases q with q | q
 ·exact h zl s σ H x y v u Q I rx ry q
 ·exact h' zl s σ H x y v u Q I rx ry q
theorem nomark(b:Expr){op:CmpOp}(h:op≠.In:=by decide)(h2:op≠.NotIn:=by decide):behindInMarks op b=false:=by
 have e1:(op == CmpOp.In)=false:=by cases op <;> first | rfl | exact absurd rfl h
 have e2:(op == CmpOp.NotIn)=false:=by cases op <;> first | rfl | exact absurd rfl h2
 cases b <;> simp [behindInMarks,e1,e2]
theorem zfF{op:CmpOp}{r:R2}(ho:OpR X (compareOp op) r)(ha:PE X a ta)(hb:PE X b tb)(hm:behindInMarks op b=false):PE X (.Compare a [op] [b] pos) (tOp r ta tb):=by
 intro zl s σ H Q I h;exact wpAny_Compare1 (zus ha hb I h fun v u s2 x y H2 I2 rx ry q=>ho zl s2 σ H2 x y v u Q I2 rx ry q) hm
def zpC(t:TE):TT:=fun σ H Q=>t σ H fun x H'=>∃ k,x=.bl k/\Q k H'
theorem zW{op:CmpOp}{r:R2}(ho:OpR X (compareOp op) r)(ha:PE X a ta)(hb:PE X b tb)(hm:behindInMarks op b=false):PT X (.Compare a [op] [b] pos) (zpC (tOp r ta tb)):=by
 intro zl s σ H Q I h;refine wpAny_isTrue_Compare1 (thn (ha zl s σ H _ I h) fun v s1 ⟨x,H1,I1,r1,q1⟩=>thn (hb zl s1 σ H1 _ I1 q1) fun u s2 ⟨y,H2,I2,r2,q2⟩ =>
  thn (ho zl s2 σ H2 x y v u _ I2 r1 r2 q2) fun c s3 ⟨z,H3,I3,r3,k,e,q3⟩=>?_) hm
 subst e;cases r3;exact wpAny_truthy_bool ⟨H3,I3,q3⟩
def zmO(r r':R2)(ta tb tc:TE):TE:=fun σ H Q=>ta σ H fun x H1=>tb σ H1 fun y H2=>r x y H2 fun z H3=>∃ k,z=.bl k /\
 (if k=true then tc σ H3 fun w' H4=>r' y w' H4 Q else Q (.bl false) H3)
theorem zls{op op':CmpOp}{r r':R2}(ho:OpR X (compareOp op) r)(ho':OpR X (compareOp op') r')(ha:PE X a ta)(hb:PE X b tb)(hc:PE X c tc)
  (hm:lastMarks [op,op'] [b,c]=false:=by with_unfolding_all rfl):PE X (.Compare a [op,op'] [b,c] pos) (zmO r r' ta tb tc):=by
 intro zl s σ H Q I h;refine Compare_chain (thn (ha zl s σ H _ I h) fun v s1 ⟨x,H1,I1,r1,q1⟩=>chain_link (thn (hb zl s1 σ H1 _ I1 q1) fun u s2 ⟨y,H2,I2,r2,q2⟩ =>
  thn (ho zl s2 σ H2 x y v u _ I2 r1 r2 q2) fun d s3 ⟨z,H3,I3,r3,k,e,q3⟩=>?_)) hm
 subst e;cases r3;refine wpAny_truthy_bool ?_;cases k with
 | false=>exact ite_ff ⟨.bl false,H3,I3,rfl,q3⟩
 | true=>exact ite_tt (chain_last (thn (hc zl s3 σ H3 _ I3 q3) fun w' s4 ⟨z',H4,I4,r4,q4⟩=>ho' zl s4 σ H4 y z' u w' Q I4 r2 r4 q4))
theorem ziF{op op':CmpOp}{r r':R2}(ho:OpR X (compareOp op) r)(ho':OpR X (compareOp op') r')(ha:PE X a ta)(hb:PE X b tb)(hc:PE X c tc)
  (hm:lastMarks [op,op'] [b,c]=false:=by with_unfolding_all rfl):PT X (.Compare a [op,op'] [b,c] pos) (zpC (zmO r r' ta tb tc)):=by
 intro zl s σ H Q I h;refine isTrue_chain (thn (ha zl s σ H _ I h) fun v s1 ⟨x,H1,I1,r1,q1⟩=>test_link (thn (hb zl s1 σ H1 _ I1 q1) fun u s2 ⟨y,H2,I2,r2,q2⟩ =>
  thn (ho zl s2 σ H2 x y v u _ I2 r1 r2 q2) fun d s3 ⟨z,H3,I3,r3,k,e,q3⟩=>?_)) hm
 subst e;cases r3;refine wpAny_truthy_bool ?_;cases k with
 | false =>
  obtain⟨k',e',q'⟩:=q3;cases e';exact ite_ff ⟨H3,I3,q'⟩
 | true =>
  refine ite_tt (test_last (thn (hc zl s3 σ H3 _ I3 q3) fun w' s4 ⟨z',H4,I4,r4,q4⟩=>thn (ho' zl s4 σ H4 y z' u w' _ I4 r2 r4 q4) fun d' s5 ⟨z2,H5,I5,r5,k2,e2,q5⟩=>?_));subst e2;cases r5;exact wpAny_truthy_bool ⟨H5,I5,q5⟩
def TruV(K:W.Frag)(x:V)(H:Hp)(k:Bool):Prop :=
 match x with
 | .non=>k=false
 | .bl b=>k=b
 | .int i=>k=(i != 0)
 | .str y=>y.length<=sizeLine/\k=((y.length:Int) != 0)
 | .byt y=>y.size<=sizeLine/\k=((y.size:Int) != 0)
 | .ref p=>(∃ xs,SqL K H p xs/\k = !xs.isEmpty)\/(∃ xs,SqT K H p xs/\k = !xs.isEmpty)\/∃ kvs,H p=some (.dK kvs)/\k = !kvs.isEmpty
 | _=>False
theorem zlJ{κ:Type}{kvs:List (κ×V)}{vs:List (κ×Value)}(r:KV kvs vs):(!vs.isEmpty) = !kvs.isEmpty:=by
 cases r <;> rfl
theorem zhm{xs:List V}{its:List Value}(r:Vals xs its):(!its.toArray.isEmpty) = !xs.isEmpty:=by
 cases r <;> simp
theorem line63:(sizeLine:Nat)<2 ^ 63:=by rw [sizeLine_eq]; decide
theorem zsR:TruR X (fun x H Q=>∃ k,TruV X.K x H k/\Q k H):=by
 intro zl s σ H x v Q I rx h;obtain⟨k,e,q⟩:=h;have hl:=line63;have hs:sizeLine=16777216:=sizeLine_eq;cases x with
 | non =>
  cases rx;have e':k=false:=e;subst e';exact truthy_none ⟨H,I,q⟩
 | bl b =>
  cases rx;have e':k=b:=e;subst e';exact wpAny_truthy_bool ⟨H,I,q⟩
 | int i =>
  obtain⟨t,rfl⟩:=rx;have e':k=(i != 0):=e;subst e';exact PySem.P.truthy_int ⟨H,I,q⟩
 | str y =>
  obtain⟨t,rfl⟩:=rx;obtain⟨hy,e'⟩:y.length<=sizeLine/\k=((y.length:Int) != 0):=e;subst e';exact PySem.P.truthy_str (by omega) ⟨H,I.tok _,q⟩
 | byt y =>
  obtain⟨t,rfl⟩:=rx;obtain⟨hy,e'⟩:y.size<=sizeLine/\k=((y.size:Int) != 0):=e;subst e';exact PySem.W.truthy_bytes (by omega) ⟨H,I.tok _,q⟩
 | ref p =>
  cases rx;have e':(∃ xs,SqL X.K H p xs/\k = !xs.isEmpty)\/(∃ xs,SqT X.K H p xs/\k = !xs.isEmpty)\/∃ kvs,H p=some (.dK kvs)/\k = !kvs.isEmpty:=e;rcases e' with ⟨xs,hx,e'⟩ | ⟨xs,hx,e'⟩ | ⟨kvs,hx,e'⟩
  ·subst e';obtain⟨its,r,pl,hz⟩:=I.list hx;have hlen:=r.length;exact wpAny_truthy_list pl.isList (by simp only [List.size_toArray]; omega) ⟨H,I.tok _,by rw [zhm r]; exact q⟩
  ·subst e';obtain⟨its,r,pl,hz⟩:=I.tuple hx;have hlen:=r.length;exact truthy_tuple pl (by simp only [List.size_toArray]; omega) ⟨H,I.tok _,by rw [zhm r]; exact q⟩
  ·subst e';obtain⟨hz,hS,vs,r,m⟩:kvs.length<=sizeLine/\(p == sysModules)=false/\∃ vs,KV kvs vs/\s.heap.DictOf (zah X.prog X.w) p vs:=I.hok p _ hx;have hlen:kvs.length=vs.length:=Paired.length r;exact wpAny_truthy_dict hS m (by omega) ⟨H,I.tok _,by rw [zlJ r]; exact q⟩
 | _=>exact(show False from e).elim
theorem zdl(ha:PE X a ta)(he:∀ whole,isTrue a X.env whole=(do let v <- whole; standAt a.pos; holding [v] (truthy v))):
  PT X a (fun σ H Q=>ta σ H fun x H'=>∃ k,TruV X.K x H' k/\Q k H'):=by
 intro zl s σ H Q I h;exact isTrue_plain (thn (ha zl s σ H _ I h) fun v s1 ⟨x,H1,I1,r1,q1⟩=>zsR zl s1 σ H1 x v Q I1 r1 q1) (he _)
theorem zlQ:OpR X (binaryOp .Add) (fun x y H Q=>∃ i j,x=.str i/\y=.str j/\i.length+j.length<=sizeLine/\Q (.str (i++j)) H):=by
 intro zl s σ H x y v u Q I rx ry h;obtain⟨i,j,rfl,rfl,hz,q⟩:=h;obtain⟨t,rfl⟩:=rx;obtain⟨t',rfl⟩:=ry;exact add_str (fun t' tk=>⟨.str (i++j),H,I.tok _,⟨_,rfl⟩,q⟩) hz
theorem vals1{x:V}{us:List Value}(r:Vals [x] us):∃ u,us=[u]/\RelV x u:=by
 cases r with
 | cons r1 r2=>cases r2; exact⟨_,rfl,r1⟩
theorem vals2{x y:V}{us:List Value}(r:Vals [x,y] us):∃ u w',us=[u,w']/\RelV x u/\RelV y w':=by
 cases r with
 | cons r1 r2 =>
  cases r2 with
  | cons r3 r4=>cases r4; exact⟨_,_,rfl,r1,r3⟩
theorem zk7:CallR X (.builtin "abs") (fun xs H Q=>∃ i,xs=[.int i]/\Q (.int (if i<0 then -i else i)) H):=by
 intro zl s σ H xs us Q I r h;obtain⟨i,rfl,q⟩:=h;obtain⟨u,rfl,t,rfl⟩:=vals1 r;exact call_abs_int fun u tk=>⟨.int (if i<0 then -i else i),H,I.tok _,⟨_,rfl⟩,q⟩
theorem zgK(hc:X.calm=true):CallR X (.builtin "max") (fun xs H Q=>∃ i j,xs=[.int i,.int j]/\Q (.int (if j>i then j else i)) H):=by
 intro zl s σ H xs us Q I r h;obtain⟨i,j,rfl,q⟩:=h;obtain⟨u,w',rfl,⟨t,rfl⟩,⟨t',rfl⟩⟩:=vals2 r;refine max_two_ints (I.ok.hd hc) fun h' tk k=>⟨_,H,I.kept k,?_,q⟩;by_cases hj:j>i
 ·rw [if_pos hj,if_pos hj]; exact⟨_,rfl⟩
 ·rw [if_neg hj,if_neg hj]; exact⟨_,rfl⟩
theorem zi5(hc:X.calm=true):CallR X (.builtin "min") (fun xs H Q=>∃ i j,xs=[.int i,.int j]/\Q (.int (if j<i then j else i)) H):=by
 intro zl s σ H xs us Q I r h;obtain⟨i,j,rfl,q⟩:=h;obtain⟨u,w',rfl,⟨t,rfl⟩,⟨t',rfl⟩⟩:=vals2 r;refine min_two_ints (I.ok.hd hc) fun h' tk k=>⟨_,H,I.kept k,?_,q⟩;by_cases hj:j<i
 ·rw [if_pos hj,if_pos hj]; exact⟨_,rfl⟩
 ·rw [if_neg hj,if_neg hj]; exact⟨_,rfl⟩
theorem zmM:CallR X (.type "int") (fun xs H Q=>(∃ i,xs=[.int i]/\Q (.int i) H)\/∃ k,xs=[.bl k]/\Q (.int (if k then 1 else 0)) H):=by
 intro zl s σ H xs us Q I r h;rcases h with ⟨i,rfl,q⟩ | ⟨k,rfl,q⟩
 ·obtain⟨u,rfl,t,rfl⟩:=vals1 r;exact call_int_int ⟨.int i,H,I,⟨_,rfl⟩,q⟩
 ·obtain⟨u,rfl,r1⟩:=vals1 r;cases r1;exact call_int_bool ⟨.int (if k then 1 else 0),H,I.tok _,⟨_,rfl⟩,q⟩
end
end
section
structure ObjM(h:Heap)(x dx C:Addr)(mA:Str->Option Value):Prop where
 obj:h.get? x=some (PySem.W.instObj C dx)
 ns:h.Ns1 dx mA
 ne:dx≠x
theorem znY{h:Heap}{dx:Addr}{mA:Str->Option Value}(n:h.Ns1 dx mA):∃ od,h.get? dx=some od/\∀ name,PySem.W.lookIn name od=some (mA name):=by
 obtain⟨o,es,ep,ho,hd,hk,_,hm⟩:=n;refine⟨o,ho,fun name=>?_⟩;have e:=hm name;unfold nsFind findBy at e;rw [<- Array.find?_toList] at e;unfold PySem.W.lookIn;rw [hd];dsimp only;split
 ·rename_i y q;rw [q] at e;exact congrArg some e
 ·rename_i q;rw [q] at e;have a:es.toList.any (·.refKey)=false:=by
   rw [List.any_eq_false];intro y hy;obtain⟨z,t,hkey⟩:=hk y (Array.mem_toList_iff.mp hy);simp [DictEntry.refKey,hkey]
  have a':¬ es.toList.any (·.refKey)=true:=by rw [a]; exact Bool.false_ne_true
  rw [if_neg a'];exact congrArg some e
theorem ObjM.look{h:Heap}{x dx C:Addr}{mA:Str->Option Value}(I:ObjM h x dx C mA):∃ od,PySem.W.InstAt h x (PySem.W.instObj C dx) C (some od)/\∀ name,PySem.W.lookIn name od=some (mA name) :=
 let ⟨od,ho,hl⟩:=znY I.ns
 ⟨od,⟨I.obj,rfl,rfl,ho⟩,hl⟩
section
variable {P:Program} {w:World} {H H':Hp} {h h':Heap} {a C dx:Addr} {fs fs':List (Str×V)}
theorem zrT(hok:HOk P w H h)(e:H a=some (.ins C dx fs)):∃ mA,ObjM h a dx C mA/\(∀ f,RelO (fs.lookup f) (mA f))/\PySem.Within mA (fs.map (·.1))/\fs.length<=1000/\H dx=some (.own a):=by
 obtain⟨d,z,ne,ob,mA,n,r,q⟩:=(show ObjOk P w H h a (.ins C dx fs) from hok a _ e);exact⟨mA,⟨ob,n,ne⟩,r,q,z,d⟩
end
structure Cls(K:W.Frag)(C:Addr):Prop where
 pg:PySem.W.plainGet K C Str.empty=true
 hd:PySem.W.hasDictIn K C=true
 po:PySem.W.plainOver K C=true
 sa:PySem.W.findIn K (.ref C) "__setattr__" = some (some (.builtin "object.__setattr__"))
theorem Cls.get{K:W.Frag}{C:Addr}(c:Cls K C)(f:Str):PySem.W.plainGet K C f=true:=c.pg
section
variable {X:Cx} {zl:List (Addr×Obj)} {σ:St} {H:Hp} {s:Shared} {A:Around} {E:Value->Shared->Prop} {Q:Value->Shared->Prop} {c:Value} {b:Bool}
inductive TyOf (K:W.Frag) (H:Hp):V->Value->Prop where
 | non:TyOf K H .non (.type "NoneType")
 | bl (x:Bool):TyOf K H (.bl x) (.type "bool")
 | int (i:Int):TyOf K H (.int i) (.type "int")
 | str (x:Str):TyOf K H (.str x) (.type "str")
 | flt (x:UInt64):TyOf K H (.flt x) (.type "float")
 | lst {a:Addr} {xs:List V} (e:H a=some (.lst xs)):TyOf K H (.ref a) (.type "list")
 | frz {a:Addr} {o:Obj} {xs:List V} (e:H a=some (.frz o (.lst xs))):TyOf K H (.ref a) (.type "list")
 | tup {a:Addr} {xs:List V} (e:H a=some (.tup xs)):TyOf K H (.ref a) (.type "tuple")
 | dK {a:Addr} {kvs:List (Key×V)} (e:Rd H a (.dK kvs)):TyOf K H (.ref a) (.type "dict")
 | dT {a:Addr} {kvs:List (List Key×V)} (e:H a=some (.dT kvs)):TyOf K H (.ref a) (.type "dict")
 | ins {a C dx:Addr} {fs:List (Str×V)} (e:H a=some (.ins C dx fs)) (cl:Cls K C) (ha:PySem.W.findIn K (.ref C) "__class__" = some (some (.builtin "object.__class__")))
   (hn:PySem.W.specialIn K (.builtin "object.__class__") "__get__" = some (some (.builtin "getset_descriptor.__get__"))) (htk:PySem.W.takesIn K (.builtin "object.__class__")=some true)
   (hm:PySem.W.mroIn K C (.type "object")=some true):TyOf K H (.ref a) (.ref C)
theorem zn6{x:V}{u t:Value}(I:Inv X zl σ H s)(rx:RelV x u)(ty:TyOf X.K H x t)(e:PySem.W.kitOne X.K t c=some b)(h:∀ tk,Q (.bool b) { s with toks:=tk }):
  wpAny (model X.prog X.w) A (call (.builtin "isinstance") [u,c]) Q E s:=by
 cases ty with
 | non=>cases (show u=Value.none from rx); exact PySem.W.kia_one PySem.W.kitx_none I.kIn True.intro e (fun z=>nomatch z) h
 | bl y=>cases (show u=Value.bool y from rx); exact PySem.W.kia_one PySem.W.kitx_bool I.kIn True.intro e (fun z=>nomatch z) h
 | int i=>obtain⟨t,q⟩:=(show ∃ t,u=Value.int i t from rx); cases q; exact PySem.W.kia_one PySem.W.kitx_int I.kIn True.intro e (fun z=>nomatch z) h
 | str y=>obtain⟨t,q⟩:=(show ∃ t,u=Value.str y t from rx); cases q; exact PySem.W.kia_one PySem.W.kitx_str I.kIn True.intro e (fun z=>nomatch z) h
 | flt y=>obtain⟨t,q⟩:=(show ∃ t,u=Value.float y t from rx); cases q; exact PySem.W.kia_one PySem.W.kitx_float I.kIn True.intro e (fun z=>nomatch z) h
 | @lst a xs ea =>
  cases (show u=Value.ref a from rx);obtain⟨_,_,n,_,h1⟩:=(show ObjOk X.prog X.w H s.heap a (.lst xs) from I.hok a _ ea);exact PySem.W.kia_one PySem.W.kitx_list I.kIn ⟨_,h1,rfl⟩ e (fun z=>nomatch z) h
 | @frz a ob xs ea =>
  cases (show u=Value.ref a from rx);obtain⟨_,_,_,n,_,h1⟩:=(show ObjOk X.prog X.w H s.heap a (.frz ob (.lst xs)) from I.hok a _ ea);exact PySem.W.kia_one PySem.W.kitx_list I.kIn ⟨_,h1,rfl⟩ e (fun z=>nomatch z) h
 | @tup a xs ea =>
  cases (show u=Value.ref a from rx);obtain⟨_,_,_,p⟩:=(show ObjOk X.prog X.w H s.heap a (.tup xs) from I.hok a _ ea);obtain⟨o,h1,h2,_⟩:=p;exact PySem.W.kia_one PySem.W.kitx_tuple I.kIn ⟨o,h1,h2⟩ e (fun z=>nomatch z) h
 | @dK a kvs ea =>
  cases (show u=Value.ref a from rx);obtain⟨_,_,vs,_,p⟩:=(show ObjOk X.prog X.w H s.heap a (.dK kvs) from ea.ok I.hok);obtain⟨o,es,ep,h1,h2,_⟩:=p;exact PySem.W.kia_one PySem.W.kitx_dict I.kIn ⟨o,h1,h2.1⟩ e (fun z=>nomatch z) h
 | @dT a kvs ea =>
  cases (show u=Value.ref a from rx);obtain⟨_,_,xs,_,o,es,ep,h1,h2,_⟩:=(show ObjOk X.prog X.w H s.heap a (.dT kvs) from I.hok a _ ea);exact PySem.W.kia_one PySem.W.kitx_dict I.kIn ⟨o,h1,h2.1⟩ e (fun z=>nomatch z) h
 | @ins a C dx fs ea cl ha hn htk hm =>
  cases (show u=Value.ref a from rx);obtain⟨mA,O,_⟩:=zrT I.hok ea;obtain⟨od,J,_⟩:=O.look;exact PySem.W.kia_one (PySem.W.kitx_own (cl.get _) cl.hd ha hn htk hm) I.kIn J e (fun z=>nomatch z) h
end
end
section
structure Room(k:Nat)(A:Around):Prop where
 hd:A.handled=none
 dp:A.depth+3*k+5<recursionLimit
 un:A.units+16*k+200<cLine
theorem Room.mono{j k:Nat}{A:Around}(r:Room k A)(h:j<=k):Room j A:=⟨r.hd,by have:=r.dp; omega,by have:=r.un; omega⟩
theorem Room.deeper{k:Nat}{A:Around}(r:Room (k+1) A)(env:Env):Room k (A.deeper env) :=
 ⟨r.hd,by have:=r.dp; show A.depth+1+3*k+5<_; omega,by have:=r.un; show A.units+3+16*k+200<_; omega⟩
theorem Room.depth{k:Nat}{A:Around}(r:Room k A):A.depth<recursionLimit:=by have:=r.dp; omega
theorem Room.units{k:Nat}{A:Around}(r:Room k A):A.units+64<cLine:=by have:=r.un; omega
def zsa:TA:=fun _ H Q=>Q [] H
def zlE(ta:TE)(tr:TA):TA:=fun σ H Q=>ta σ H fun x H1=>tr σ H1 fun xs H2=>Q (x :: xs) H2
section
variable {X:Cx} {e:Expr} {es:List Expr} {te:TE} {t:TA} {pos:Pos}
theorem zi:PA X [] zsa:=fun _ _ _ _ H Q I h=>Calls.spliced_nil ⟨[],H,I,.nil,h⟩
theorem zc(ha:PE X e te)(hr:PA X es t)(hs:starEach (e :: es) X.env=(false,eval e X.env) :: starEach es X.env:=by rfl):PA X (e :: es) (zlE te t):=by
 intro pos zl s σ H Q I h;rw [hs];show wpAny _ _ (spliced ((false,eval e X.env) :: backTo pos (starEach es X.env))) _ _ s;refine Calls.spliced_cons (thn (ha zl s σ H _ I h) fun u s1 ⟨x,H1,I1,r1,q1⟩=>?_);exact thn (hr pos zl s1 σ H1 _ I1 q1) fun us s2 ⟨xs,H2,I2,r2,q2⟩=>⟨x :: xs,H2,I2,.cons r1 r2,q2⟩
def zuF(t:TA):TE:=fun σ H Q=>t σ H fun xs H1=>xs.length<=sizeLine/\∀ p,H1 p=none->Q (.ref p) (upd H1 p (.tup xs))
def zr1(t:TA):TE:=fun σ H Q=>t σ H fun xs H1=>xs.length<=sizeLine/\∀ p,H1 p=none->Q (.ref p) (upd H1 p (.lst xs))
theorem za1{x1}(h:PA X es t):PE X (.Tuple es x1 pos) (zuF t):=by
 intro zl s σ H Q I hq;refine wpAny_Tuple_spliced (thn (h pos zl s σ H _ I hq) fun us s1 ⟨xs,H1,I1,r,z,q⟩=>⟨by rw [<- r.length]; exact z,?_⟩);have hf:H1 s1.heap.objs.size=none:=I1.hok.fresh (Nat.le_refl _);refine⟨.ref s1.heap.objs.size,upd H1 s1.heap.objs.size (.tup xs),I1.laid (t':=s1.toks) (fun b u e=>Heap.get?_push_of_some _ e) (Nat.le_refl _) ?_,rfl,q _ hf⟩;exact⟨⟨z,_,Heap.get?_push_size _ rfl,rfl⟩,us,r,⟨_,Heap.get?_push_size _ rfl,rfl,_,rfl⟩⟩
theorem zaO(h:PA X es t):PE X (.List es pos) (zr1 t):=by
 intro zl s σ H Q I hq;refine wpAny_List_spliced (thn (h pos zl s σ H _ I hq) fun us s1 ⟨xs,H1,I1,r,z,q⟩=>⟨by rw [<- r.length]; exact z,?_⟩);have hf:H1 s1.heap.objs.size=none:=I1.hok.fresh (Nat.le_refl _);refine⟨.ref s1.heap.objs.size,upd H1 s1.heap.objs.size (.lst xs),I1.laid (t':=s1.toks) (fun b u e=>Heap.get?_push_of_some _ e) (Nat.le_refl _) ?_,rfl,q _ hf⟩;exact⟨z,us,0,r,Heap.get?_push_size _ rfl⟩
end
abbrev Sp:=List V->Hp->VK->XK->Prop
abbrev CXT:=List Env->Hp->Shared->XK->Value->Shared->Prop
structure Env0(P:Program)(w:World)(K:W.Frag)(mg:Str->Option Value)(base:Heap)(A:Around)(outer:List Env)(s:Shared)(H:Hp):Prop where
 frames:A.frames=some outer
 mod:Mod K mg base
 bs:∀ b o,base.get? b=some o->s.heap.get? b=some o/\H b=none
 bsz:base.objs.size<=s.heap.objs.size
 funs:s.heap.FunFrames base outer
 frf:∀ b∈frs outer,H b=none
 hok:HOk P w H s.heap
 bare:AllBare s.gens
def CE(outer:List Env)(P:Program)(w:World)(H:Hp)(s:Shared)(Q:VK)(u:Value)(s':Shared):Prop :=
 ∃ v H',s'.os=s.os/\AllBare s'.gens/\Un (frs outer) [] H H' s.heap s'.heap/\HOk P w H' s'.heap/\RelV v u/\Q v H'
def CR(CX:CXT)(outer:List Env)(P:Program)(w:World)(H:Hp)(s:Shared)(Q:VK)(E:XK)(r:Result)(s':Shared):Prop :=
 match r with
 | .ok (.ret u)=>CE outer P w H s Q u s'
 | .ok _=>False
 | .error e=>CX outer H s E e s'
structure FnOk(P:Program)(w:World)(K:W.Frag)(mg:Str->Option Value)(base:Heap)(CX:CXT)(k:Nat)(f:Addr)(fd:FuncData)(ps:List Str)(sp:Sp):Prop where
 len:∀ vs H Q E,sp vs H Q E->vs.length=ps.length
 run:∀ (A:Around) (outer:List Env) (s:Shared) (H:Hp) (args:Args) (us:List Value) (vs:List V) (Q:VK) (E:XK),Room k A->Env0 P w K mg base A outer s H->BindsTo s fd args (ps.zip us)->Vals vs us->sp vs H Q E ->
  codeAny (model P w) A (.call (.ref f) args) (CR CX outer P w H s Q E) s
section
variable {X:Cx} {zl:List (Addr×Obj)} {σ:St} {H:Hp} {s s':Shared}
theorem Inv.env0(I:Inv X zl σ H s):Env0 X.prog X.w X.K X.mg X.base X.A X.stack s H :=
 ⟨I.ok.frames,I.ok.mod,I.bs,Nat.le_trans I.ok.bsz I.sz,I.stack,I.stkFree,I.hok,I.bare⟩
theorem Inv.after{Q:VK}{u:Value}(I:Inv X zl σ H s)(h:CE X.stack X.prog X.w H s Q u s'):EP X zl σ Q u s':=by
 obtain⟨v,H',os,bare,un,hok,r,q⟩:=h;obtain⟨hh,g,d,t,os'⟩:=s';obtain rfl:os'=s.os:=os;exact⟨v,H',I.call (h':=hh) (g':=g) (d':=d) (t':=t) (ch:=[]) un hok bare (fun b z=>absurd z (by simp)),r,q⟩
end
def zo5(sp:Sp)(dvs:List V)(E:XK)(t:TA):TE:=fun σ H Q=>t σ H fun vs H1=>sp (vs++dvs) H1 Q E
def Binds(K:W.Frag)(fd:FuncData)(ps:List Str)(ds:List Value):Prop :=
 ∀ (s:Shared) (us:List Value),K.In s.heap->(us++ds).length=ps.length->BindsTo s fd ⟨us,[]⟩ (ps.zip (us++ds))
theorem Binds.all{K:W.Frag}{fd:FuncData}{ps:List Str}(h:∀ us:List Value,us.length=ps.length->bindArgs fd ⟨us,[]⟩=pure (ps.zip us)):Binds K fd ps []:=fun s us _ hl=>by
 rw [List.append_nil] at hl ⊢;exact .of_eq (h us hl)
def Passes(CX:CXT)(X:Cx)(E:XK):Prop:=∀ (zl:List (Addr×Obj)) (σ:St) (H:Hp) (s:Shared) (e:Value) (s':Shared),Inv X zl σ H s->CX X.stack H s E e s'->X.xe e s'
section
variable {X:Cx} {CX:CXT} {k:Nat} {f C:Addr} {fd:FuncData} {ps:List Str} {sp:Sp} {dvs:List V} {ds:List Value} {E:XK} {x m:Str} {p pos apos:Pos} {e o:Expr} {es:List Expr} {ta:TE} {t:TA}
theorem zti{zl:List (Addr×Obj)}{σ:St}{H:Hp}{s:Shared}{Q:VK}{us:List Value}{vs:List V}(F:FnOk X.prog X.w X.K X.mg X.base CX k f fd ps sp)(hr:Room k X.A)(hb:Binds X.K fd ps ds)(hd:Vals dvs ds)(hx:Passes CX X E)
  (I:Inv X zl σ H s) (r:Vals vs us) (h:sp (vs++dvs) H Q E):wpAny (model X.prog X.w) X.A (call (.ref f) us) (EP X zl σ Q) X.xe s:=by
 have r2:Vals (vs++dvs) (us++ds):=r.append hd;have hl:(us++ds).length=ps.length:=by rw [<- r2.length]; exact F.len _ _ _ _ h
 refine wpAny_call (codeAny_mono (F.run X.A X.stack s H ⟨us,[]⟩ (us++ds) (vs++dvs) Q E hr I.env0 (hb s us I.kIn hl) r2 h) fun r s' hq=>?_);cases r with
 | error e=>exact hx zl σ H s e s' I hq
 | ok fl =>
  cases fl with
  | ret u=>exact I.after hq
  | next=>exact False.elim hq
  | brk=>exact False.elim hq
  | cont=>exact False.elim hq
theorem zmC(F:FnOk X.prog X.w X.K X.mg X.base CX k f fd ps sp)(hr:Room k X.A)(hg:Gl X x)(hm:X.mg x=some (.ref f))(hk:PySem.W.keepIn X.K (.ref f)=true)(hb:Binds X.K fd ps ds)(hd:Vals dvs ds)(hx:Passes CX X E)
  (ha:PA X (e :: es) t) (hdb:(x == ("__debug__":Str))=false:=by decide) (he:starEach (e :: es) X.env=(false,eval e X.env) :: starEach es X.env:=by rfl) (hpl:(backTo pos (starEach es X.env)).any (·.1)=false:=by rfl) :
  PE X (.Call (.Name x p) (e :: es) [] pos) (zo5 sp dvs E t):=by
 intro zl s σ H Q I h;refine wpAny_Call_Name_kw (zm1 I hg hm ?_ hdb);refine PySem.W.callWith_K (h₀:=X.base) I.ok.mod.kin hk (thn (ha pos zl s σ H _ I h) fun us s1 ⟨vs,H1,I1,r,q⟩=>⟨I1.kIn,?_⟩) he hpl;exact zti F hr hb hd hx I1 r q
end
structure FnScope(N P:List Str)(sc:Scope):Prop where
 kind:sc.kind=.function
 co:sc.isCoroutine=false
 gen:sc.isGenerator=false
 nd:N.Nodup
 pre:N.take P.length=P
 par:∀ x∈P,sc.names.lookup x=some .local\/sc.names.lookup x=some .cell
 nofree:∀ y∈sc.names,y.2≠.free
theorem zju{kindOf:Str->Option NameKind}{x:Str}:∀ {binds:List (Str×Value)} {m:Str->Option Value},(∀ v,(x,v)∉binds)->bindL kindOf binds m x=m x
 | [],_,_=>rfl
 | (n,v) :: r,m,h=>by
  unfold bindL;rw [zju fun w hw=>h w (List.mem_cons_of_mem _ hw)];split
  ·have:x≠n:=by rintro rfl; exact h v List.mem_cons_self
   simp [this]
  ·rfl
theorem zjz{kindOf:Str->Option NameKind}{x:Str}:∀ {binds:List (Str×Value)} {m:Str->Option Value},(∀ v,(x,v)∉binds)->bindC kindOf binds m x=m x
 | [],_,_=>rfl
 | (n,v) :: r,m,h=>by
  unfold bindC;rw [zjz fun w hw=>h w (List.mem_cons_of_mem _ hw)];split
  ·rfl
  ·have:x≠n:=by rintro rfl; exact h v List.mem_cons_self
   simp [this]
theorem zjk{kindOf:Str->Option NameKind}{x:Str}{v:Value}:∀ {P:List Str} {vs:List Value} {i:Nat} {m:Str->Option Value},P.Nodup->P[i]? = some x->vs[i]? = some v->kindOf x=some .local ->
  bindL kindOf (P.zip vs) m x=some v
 | [],_,_,_,_,h,_,_=>by simp at h
 | _ :: _,[],_,_,_,_,h,_=>by simp at h
 | p :: P,w :: vs,0,m,nd,h1,h2,hk=>by
  simp at h1 h2; subst h1; subst h2;show bindL kindOf ((p,w) :: P.zip vs) m p=_;unfold bindL;rw [zju fun v hv=>(List.nodup_cons.mp nd).1 (List.of_mem_zip hv).1,if_pos hk];simp
 | p :: P,w :: vs,i+1,m,nd,h1,h2,hk=>by
  show bindL kindOf ((p,w) :: P.zip vs) m x=_;unfold bindL;exact zjk (i:=i) (List.nodup_cons.mp nd).2 (by simpa using h1) (by simpa using h2) hk
theorem ziS{kindOf:Str->Option NameKind}{x:Str}{v:Value}:∀ {P:List Str} {vs:List Value} {i:Nat} {m:Str->Option Value},P.Nodup->P[i]? = some x->vs[i]? = some v->kindOf x≠some .local ->
  bindC kindOf (P.zip vs) m x=some v
 | [],_,_,_,_,h,_,_=>by simp at h
 | _ :: _,[],_,_,_,_,h,_=>by simp at h
 | p :: P,w :: vs,0,m,nd,h1,h2,hk=>by
  simp at h1 h2; subst h1; subst h2;show bindC kindOf ((p,w) :: P.zip vs) m p=_;unfold bindC;rw [zjz fun v hv=>(List.nodup_cons.mp nd).1 (List.of_mem_zip hv).1,if_neg hk];simp
 | p :: P,w :: vs,i+1,m,nd,h1,h2,hk=>by
  show bindC kindOf ((p,w) :: P.zip vs) m x=_;unfold bindC;exact ziS (i:=i) (List.nodup_cons.mp nd).2 (by simpa using h1) (by simpa using h2) hk
def start(N:List Str)(vs:List V):St:=vs.map some++List.replicate (N.length - vs.length) none
def zoD(CX:CXT)(P:Program)(w:World)(K:W.Frag)(mg:Str->Option Value)(base:Heap)(N:List Str)(qual:Str)(scope:Scope)(f:Addr)(cd:Value)(A:Around)(outer:List Env)(s:Shared)(H:Hp)(E:XK):Cx where
 prog:=P
 w:=w
 K:=K
 mg:=mg
 base:=base
 A:=A.deeper (envOfC qual scope s.heap.objs.size f cd)
 N:=N
 s₀:=s
 H₀:=H
 env:=envOfC qual scope s.heap.objs.size f cd
 outer:=outer
 stack:=envOfC qual scope s.heap.objs.size f cd :: outer
 ex:=[]
 calm:=true
 fn:=fun _=>true
 pn:=[]
 xe:=fun e s'=>wpAny (model P w) (A.deeper (envOfC qual scope s.heap.objs.size f cd)) (leaving (envOfC qual scope s.heap.objs.size f cd) e) (fun _ s''=>CX outer H s E e s'') (fun e' s''=>CX outer H s E e' s'') s'
theorem zkP{sc:Scope}{n:Nat}{x:Str}(h:sc.names.lookup x=some .cell):∃ c,(cellsFrom n sc.names []).lookup x=some c:=by
 have q:=PySem.W.cellsFrom_some sc.names n [] (.inl h);exact Option.isSome_iff_exists.mp q
theorem zn7{CX:CXT}{P:Program}{w:World}{K:W.Frag}{mg:Str->Option Value}{base:Heap}{N ps:List Str}{qual:Str}{scope:Scope}{f:Addr}{cd:Value}{A:Around}{outer:List Env}{s s1:Shared}{H:Hp}{E:XK}{us:List Value}{vs:List V}
  (S:FnScope N ps scope) (hd:A.handled=none) (e0:Env0 P w K mg base A outer s H) (hl:vs.length=ps.length) (r:Vals vs us)
  (x:InCallC s s.heap.objs.size (bindL (envOfC qual scope s.heap.objs.size f cd).kindOf (ps.zip us) fun _=>none) (cellsFrom (s.heap.objs.size+1) scope.names []) (bindC (envOfC qual scope s.heap.objs.size f cd).kindOf (ps.zip us) fun _=>none) s1) :
  Inv (zoD CX P w K mg base N qual scope f cd A outer s H E) [] (start N vs) H s1:=by
 have hpl:ps.length<=N.length:=by have:=congrArg List.length S.pre; rw [List.length_take] at this; omega
 obtain⟨h1,tk,rfl,hk⟩:=x.done;have noA:∀ b:Addr,b∉(zoD CX P w K mg base N qual scope f cd A outer s H E).ex:=fun b z=>absurd (show b∈([]:List Addr) from z) (by simp);refine⟨⟨e0.mod,S.kind,rfl,rfl,Nat.le_refl _,fun y z c h1 h2=>?_,fun y hy=>?_,fun y c _ h=>?_,fun _=>hd,Around.frames_deeper e0.frames,.inr ⟨rfl,rfl⟩,fun b z=>absurd z (noA b),e0.bs,e0.bsz,fun b _ _=>noA b,fun b z=>absurd z (noA b),e0.funs,e0.frf⟩,
  rfl,e0.bare,Un.kept hk,⟨_,x.toInCall.ns,fun i y v h1 h2 h3=>?_⟩,fun y c h=>⟨_,x.cell y c h⟩,e0.hok.fresh (Nat.le_refl _),fun y c h=>?_,fun p hp=>absurd (show p∈([]:List (Addr×Obj)) from hp) (by simp),e0.hok.kept hk,?_⟩
 ·exact name_of_addr x.apart (PySem.mem_of_lookup h1) (PySem.mem_of_lookup h2)
 ·have hy:scope.names.lookup y=some .cell\/scope.names.lookup y=some .free:=hy;rcases hy with hy | hy
  ·exact zkP hy
  ·exact absurd rfl (S.nofree _ (PySem.mem_of_lookup hy))
 ·exact Nat.le_of_lt (x.above y c (PySem.mem_of_lookup h))
 ·have hi:i<vs.length:=by
   unfold start at h2;by_cases hi:i<vs.length
   ·exact hi
   ·rw [List.getElem?_append_right (by simpa using hi)] at h2;rw [List.getElem?_replicate] at h2;split at h2 <;> cases h2
  have ha:vs[i]? = some v:=by
   unfold start at h2;rw [List.getElem?_append_left (by simpa using hi),List.getElem?_map] at h2;cases e:vs[i]? with
   | none=>rw [e] at h2; cases h2
   | some a=>rw [e] at h2; cases h2; rfl
  obtain⟨u,hu,rv⟩:=r.get ha;have hp:ps[i]? = some y:=by
   rw [<- S.pre,List.getElem?_take_of_lt (by omega)]; exact h1
  have ndP:ps.Nodup:=by rw [<- S.pre]; exact S.nd.sublist (List.take_sublist _ _)
  refine⟨u,rv,?_⟩;rcases S.par y (List.mem_of_getElem? hp) with k | k
  ·exact .inl ⟨k,zjk ndP hp hu k⟩
  ·obtain⟨c,e⟩:=zkP (n:=s.heap.objs.size+1) k;refine .inr ⟨.inl k,c,e,?_⟩;have q:=x.cell y c e;rw [ziS ndP hp hu (by show scope.names.lookup y≠_; rw [k]; decide)] at q;exact q
 ·exact e0.hok.fresh (Nat.le_of_lt (x.above y c (PySem.mem_of_lookup h)))
 ·unfold start;show _=N.length;rw [List.length_append,List.length_map,List.length_replicate];omega
theorem zua{CX:CXT}{P:Program}{w:World}{K:W.Frag}{mg:Str->Option Value}{base:Heap}{k:Nat}{f:Addr}{name qual:Str}{params:Arguments}{body:List Stmt}{scope:Scope}{dV kV doc pm cdv ct oc:Value}{an od:Option Addr}
  {osl:Array (Option Value)} {N ps:List Str} {sp:Sp} (lk:K.lookup f=some ⟨oc,od,.func (PySem.W.fnOf name qual params body scope dV kV doc pm an cdv ct),osl⟩) (hcd:PySem.W.codeIn K cdv qual=true) (S:FnScope N ps scope)
  (len:∀ vs H Q E,sp vs H Q E->vs.length=ps.length)
  (hbody:∀ (A:Around) (outer:List Env) (s:Shared) (H:Hp) (vs:List V) (Q:VK) (E:XK),Room k (A.deeper (envOfC qual scope s.heap.objs.size f cdv))->sp vs H Q E ->
   ∃ t,PSs (zoD CX P w K mg base N qual scope f cdv A outer s H E) body t/\t { nx:=fun _ H'=>Q .non H',rt:=Q } (start N vs) H) :
  FnOk P w K mg base CX (k+1) f (PySem.W.fnOf name qual params body scope dV kV doc pm an cdv ct) ps sp:=by
 refine⟨len,fun A outer s H args us vs Q E hr e0 hb r hsp=>?_⟩;have hl:=len _ _ _ _ hsp;have KX:K.In s.heap:=e0.mod.kin.keeps fun b o e=>(e0.bs b o e).1;have lim:s.heap.NoLimit:=e0.mod.nolimit.keeps fun b o e=>(e0.bs b o e).1;have hkind:∀ y∈ps.zip us,scope.names.lookup y.1=some .local\/(scope.names.lookup y.1=some .cell/\((cellsFrom (s.heap.objs.size+1) scope.names []).lookup y.1).isSome=true):=fun⟨n,v⟩ hy=>by
  rcases S.par n (List.of_mem_zip hy).1 with q | q
  ·exact .inl q
  ·exact .inr ⟨q,PySem.W.cellsFrom_some _ _ _ (.inl q)⟩
 refine codeAny_call_function hr.depth (KX _ _ lk) rfl S.co S.gen rfl (PySem.W.codeRec_of KX hcd) (hb _ _ _ _ ?_);refine wpAny_newFunctionEnv_cells S.kind hkind fun env he s1 x=>?_;subst he;refine⟨lim.keeps x.toInCall.keep,codeAny_func ?_⟩;obtain⟨t,ht,hq⟩:=hbody A outer s H vs Q E (hr.deeper _) hsp;have I:Inv (zoD CX P w K mg base N qual scope f cdv A outer s H E) [] (start N vs) H s1:=zn7 S hr.hd e0 hl r x;refine wpAny_mono (ht [] s1 (start N vs) H _ I hq) (fun fl s' hs=>?_) fun e s' hs=>hs;have fin:∀ {σ':St} {H':Hp} {v:V} {u:Value},Inv (zoD CX P w K mg base N qual scope f cdv A outer s H E) [] σ' H' s'->RelV v u->Q v H'->CE outer P w H s Q u s' :=
  fun {σ' H' v u} J rv q=>⟨v,H',J.os,J.bare,J.base,J.hok,rv,q⟩
 cases fl with
 | ret u =>
  obtain⟨v,σ',H',J,rv,q⟩:=hs;exact fin J rv q
 | next =>
  obtain⟨σ',H',J,q⟩:=hs;exact fin (v:=V.non) (u:=Value.none) J rfl q
 | brk =>
  obtain⟨_,_,_,q⟩:=hs;exact False.elim q
 | cont =>
  obtain⟨_,_,_,q⟩:=hs;exact False.elim q
end
section
section
variable {X:Cx} {x:Str} {p pos:Pos} {e:Expr} {es:List Expr} {t:TA} {id T:String} {r:List V->Hp->VK->Prop}
def tCB(r:List V->Hp->VK->Prop)(t:TA):TE:=fun σ H Q=>t σ H fun vs H1=>r vs H1 Q
theorem zR(hc:CallR X (.builtin id) r)(hg:Gl X x)(hm:X.mg x=none)(hv:bootBuiltins x=some (.builtin id))(ha:PA X (e :: es) t)(hn:x ≠ "__name__":=by decide)(hdb:(x == ("__debug__":Str))=false:=by decide)
  (he:starEach (e :: es) X.env=(false,eval e X.env) :: starEach es X.env:=by rfl) (hpl:(backTo pos (starEach es X.env)).any (·.1)=false:=by rfl):PE X (.Call (.Name x p) (e :: es) [] pos) (tCB r t):=by
 intro zl s σ H Q I h;refine wpAny_Call_Name_kw (zfU I hg hm hv ?_ hn hdb);exact PyProof.Rows.callWith_builtin1 (thn (ha pos zl s σ H _ I h) fun us s1 ⟨vs,H1,I1,r1,q1⟩=>hc zl s1 σ H1 vs us Q I1 r1 q1) he hpl
theorem zaR(hc:CallR X (.type T) r)(hg:Gl X x)(hm:X.mg x=none)(hv:bootBuiltins x=some (.type T))(ha:PA X (e :: es) t)(hn:x ≠ "__name__":=by decide)(hdb:(x == ("__debug__":Str))=false:=by decide)
  (he:starEach (e :: es) X.env=(false,eval e X.env) :: starEach es X.env:=by rfl) (hpl:(backTo pos (starEach es X.env)).any (·.1)=false:=by rfl):PE X (.Call (.Name x p) (e :: es) [] pos) (tCB r t):=by
 intro zl s σ H Q I h;refine wpAny_Call_Name_kw (zfU I hg hm hv ?_ hn hdb);exact PyProof.Rows.callWith_type1 (thn (ha pos zl s σ H _ I h) fun us s1 ⟨vs,H1,I1,r1,q1⟩=>hc zl s1 σ H1 vs us Q I1 r1 q1) he hpl
end
end
end L2
namespace HT
open PySem PyProof.Rows
def lexLt:List Int->List Int->Bool
 | [],[]=>false
 | [],_ :: _=>true
 | _ :: _,[]=>false
 | x :: xs,y :: ys=>if x=y then lexLt xs ys else decide (x<y)
theorem lexLt_cons(x y:Int)(xs ys:List Int):lexLt (x :: xs) (y :: ys)=if x=y then lexLt xs ys else decide (x<y):=rfl
theorem ziC:lexLt [] []=false:=rfl
theorem zg5(y:Int)(ys:List Int):lexLt [] (y :: ys)=true:=rfl
theorem zhd(x:Int)(xs:List Int):lexLt (x :: xs) []=false:=rfl
theorem zoT(A:Around)(s:Shared)(a:Int)(t:Tok)(c:Int)(u:Tok):∃ e,SeqAt.EqAt A s (.int a t) (.int c u) e/\(e=true↔a=c) :=
 ⟨(a == c),SeqAt.EqAt.int_int a t c u,by simp⟩
theorem zpq(A:Around)(s:Shared)(a:Int)(t:Tok)(c:Int)(u:Tok)(prog:Program)(w:World)(E:Value->Shared->Prop)(Q:Value->Shared->Prop)(h:Q (.bool (decide (a<c))) s):
  wpAny (model prog w) A (richCompare .Lt (.int a t) (.int c u)) Q E s :=
 (PyProof.Rows.lt_int h:wpAny (model prog w) A (compareOp .Lt (.int a t) (.int c u)) Q E s)
section
open PySem.SeqAt
open PySem.AutoSeq1 (wpAny_loadPart')
open PySem.MeetsSeq PySem.MeetsSeq2 PySem.MeetsSeq3
theorem zhX(l b:Addr)(items items2:Array Value)(n n2:Nat)(dd dd2:Option Addr)(sl sl2:Array (Option Value))(ns ms:List Int)(hi:IntsAre items.toList ns)(hj:IntsAre items2.toList ms):
  Meets (Builtin.«tuple.__lt__» ⟨[.ref l,.ref b],[]⟩)
   (fun _ R s=>s.heap.get? l=some { cls:=.type "tuple",dict:=dd,data:=.seq items n,slots:=sl }/\s.heap.get? b=some { cls:=.type "tuple",dict:=dd2,data:=.seq items2 n2,slots:=sl2 } /\
    R (.ok (.ret (.bool (lexLt ns ms)))) s) :=
 .of_wp fun prog w A R s h=>by
  obtain⟨hp,g,d,tk,os⟩:=s; obtain⟨hl,hb,h⟩:=h;have f2:=AutoSeq1.sub_tuple_tuple;have z1:items.size=ns.length:=by rw [<- hi.length]; simp
  have z2:items2.size=ms.length:=by rw [<- hj.length]; simp
  wp_walk using wpAny_loadPart' hl,wpAny_loadPart' hb,wpAny_forIn_list _ (fun rest b s'=>b.1=none/\s'=⟨hp,g,d,tk,os⟩/\∃ (vs ws:List Value) (ns' ms':List Int),rest=vs.zip ws /\
   IntsAre vs ns'/\IntsAre ws ms'/\ns'.length+items2.size=ms'.length+items.size/\R (.ok (.ret (.bool (lexLt ns' ms')))) ⟨hp,g,d,tk,os⟩) _
  case turn =>
   rintro⟨y,x⟩ rest b s' ⟨hb',rfl,vs,ws,ns',ms',hz,hvi,hwi,hlen,hR⟩;cases hvi with
   | nil=>rw [List.zip_nil_left] at hz; cases hz
   | cons a t hvi' =>
    cases hwi with
    | nil=>rw [List.zip_nil_right] at hz; cases hz
    | cons c u hwi' =>
     rw [List.zip_cons_cons] at hz;injection hz with hyx hrest
     injection hyx with hy hx
     subst hy hx;rw [lexLt_cons] at hR;simp only [List.length_cons] at hlen;obtain⟨e,he,hiff⟩:=zoT A.in1 ⟨hp,g,d,tk,os⟩ a t c u;refine wpAny_bind (he prog w _ _ ?_);cases e with
     | true =>
      rw [if_pos (hiff.mp rfl)] at hR
      wp_walk
      exact⟨rfl,rfl,_,_,_,_,hrest,hvi',hwi',by omega,hR⟩
     | false =>
      rw [if_neg (fun q=>absurd (hiff.mpr q) Bool.false_ne_true)] at hR;have hri:=zpq A.in1 ⟨hp,g,d,tk,os⟩ a t c u prog w
      wp_walk using hri
      exact⟨_,rfl,by simpa using hR⟩
  case fin =>
   rintro⟨b1,b2⟩ s' ⟨hb',rfl,vs,ws,ns',ms',hz,hvi,hwi,hlen,hR⟩;simp only at hb';subst hb';have hv:lexLt ns' ms'=decide (items.size<items2.size):=by
    cases hvi with
    | nil =>
     cases hwi with
     | nil =>
      simp only [List.length_nil] at hlen;rw [ziC];exact(decide_eq_false (by omega)).symm
     | cons c u hw =>
      simp only [List.length_nil,List.length_cons] at hlen;rw [zg5];exact(decide_eq_true (by omega)).symm
    | cons a t hv =>
     cases hwi with
     | nil =>
      simp only [List.length_nil,List.length_cons] at hlen;rw [zhd];exact(decide_eq_false (by omega)).symm
     | cons c u hw =>
      rw [List.zip_cons_cons] at hz;cases hz
   rw [hv] at hR
   wp_walk
   exact⟨_,rfl,by simpa [Builtin.Tuple.tupleCompareSizes] using hR⟩
  case h =>
   exact⟨rfl,rfl,items.toList,items2.toList,ns,ms,rfl,hi,hj,by omega,h⟩
end
section
variable {prog:Program} {w:World} {A:Around} {E:Value->Shared->Prop} {s:Shared}
theorem lt_tupInts{l b:Addr}{items items2:Array Value}{ns ms:List Int}{Q:Value->Shared->Prop}(hl:IsTup s.heap l items)(hb:IsTup s.heap b items2)(hi:IntsAre items.toList ns)(hj:IntsAre items2.toList ms)
  (hu:A.units<cLine) (h:Q (.bool (lexLt ns ms)) s):wpAny (model prog w) A (compareOp .Lt (.ref l) (.ref b)) Q E s:=by
 obtain⟨⟨cls,dd,data,sl⟩,ho,hc,n,hd⟩:=id hl;obtain⟨⟨cls2,dd2,data2,sl2⟩,ho2,hc2,n2,hd2⟩:=id hb;simp only at hc hd hc2 hd2;subst hc hd hc2 hd2;exact richCompare_meets_room (op:=.Lt) ⟨_,ho,rfl⟩ ⟨_,ho2,rfl⟩ PySem.F.slot_tuple_lt PySem.F.entry_tuple_lt (PySem.F.args_tuple_lt_2 _ _) (zhX l b items items2 n n2 dd dd2 sl sl2 ns ms hi hj)
  ⟨ho,ho2,show Value.bool (lexLt ns ms)≠Value.notImplemented/\Q (.bool (lexLt ns ms)) s from⟨(fun x=>nomatch x),h⟩⟩ hu
theorem cat_tup{t b:Addr}{vs ws:List Value}{Q:Value->Shared->Prop}(ht:IsTup s.heap t vs.toArray)(hb:IsTup s.heap b ws.toArray)(hv:vs≠[])
  (h1:ws=[]->Q (.ref t) s) (h2:ws≠[]->Q (.ref s.heap.objs.size) { s with heap:=s.heap.push { cls:=.type "tuple",data:=.seq (vs++ws).toArray } })
  (hsz:vs.length+ws.length<=sizeLine):wpAny (model prog w) A (binaryOp .Add (.ref t) (.ref b)) Q E s:=by
 obtain⟨⟨cls,dd,data,sl⟩,ho,hc,n,hd⟩:=id ht;obtain⟨⟨cls2,dd2,data2,sl2⟩,ho2,hc2,n2,hd2⟩:=id hb;simp only at hc hd hc2 hd2;subst hc hd hc2 hd2;have e:vs.toArray++ws.toArray=(vs++ws).toArray:=by simp
 by_cases hw:ws=[]
 ·exact concat_meets ⟨_,ho,rfl⟩ ⟨_,ho2,rfl⟩ noFill_tuple_add seq_tuple_add PySem.F.slot_tuple_add PySem.F.entry_tuple_add (PySem.F.args_tuple_add_2 _ _)
   (tuple_addW1 t b vs.toArray ws.toArray n n2 dd dd2 sl sl2 (by simpa using hv) (by simp [hw])) ⟨ho,ho2,h1 hw⟩
 ·refine concat_meets ⟨_,ho,rfl⟩ ⟨_,ho2,rfl⟩ noFill_tuple_add seq_tuple_add PySem.F.slot_tuple_add PySem.F.entry_tuple_add (PySem.F.args_tuple_add_2 _ _)
   (tuple_addW2 t b vs.toArray ws.toArray n n2 dd dd2 sl sl2 (by simpa using hv) (by simpa using hw) (by rw [List.size_toArray,List.size_toArray]; exact hsz)) ⟨ho,ho2,?_⟩
  rw [e];exact h2 hw
def sIx(n d:Nat):Option Int->Nat
 | none=>d
 | some v=>if v<0 then (v+(n:Int)).toNat else min v.toNat n
theorem sIx_nat(n d k:Nat):sIx n d (some (k:Int))=min k n:=by
 show (if (k:Int)<0 then ((k:Int)+(n:Int)).toNat else min (k:Int).toNat n)=min k n;rw [if_neg (by omega),Int.toNat_natCast]
theorem zsQ(n d:Nat)(hd:d<=n)(o:Option Int):sIx n d o<=n:=by
 cases o with
 | none=>exact hd
 | some v =>
  show (if v<0 then (v+(n:Int)).toNat else min v.toNat n)<=n;by_cases hv:v<0
  ·rw [if_pos hv]; omega
  ·rw [if_neg hv]; exact Nat.min_le_right _ _
theorem zn2(v:Int)(n d:Nat):(if v<0 then max (v+(n:Int)) 0 else min v (n:Int))=((sIx n d (some v):Nat):Int):=by
 show (if v<0 then max (v+(n:Int)) 0 else min v (n:Int))=(((if v<0 then (v+(n:Int)).toNat else min v.toNat n):Nat):Int);by_cases hv:v<0
 ·simp only [if_pos hv]; omega
 ·simp only [if_neg hv]; omega
theorem zl7(lo hi:Option Int)(n:Nat):Builtin.Slice.sliceAdjust lo hi 1 (n:Int)=(((sIx n 0 lo:Nat):Int),((sIx n n hi:Nat):Int)):=by
 have h1:¬ ((1:Int)<0):=by omega
 unfold Builtin.Slice.sliceAdjust;simp only [h1,if_false];refine Prod.ext ?_ ?_
 ·cases lo with
  | none=>rfl
  | some v=>exact zn2 v n 0
 ·cases hi with
  | none=>rfl
  | some v=>exact zn2 v n n
theorem zlK(i j:Nat):Builtin.Slice.slicePlaces (i:Int) (j:Int) 1=j - i:=by
 unfold Builtin.Slice.slicePlaces;have h1:(1:Int)>0:=by omega
 simp only [h1,if_true,Int.ediv_one];split <;> omega
theorem zht{v:Value}{o:Option Int}{Q:Option Int->Shared->Prop}(p:IsPart v o)(h:Q o s):wpAny (model prog w) A (Builtin.Slice.slicePartIndex v) Q E s:=by
 cases p with
 | none=>exact slicePart_none h
 | int i t=>exact slicePart_int h
theorem zfZ{sl:Addr}{vl vu:Value}{lo hi:Option Int}{n:Nat}{Q:Int×Int×Nat->Shared->Prop}(hs:s.heap.IsSliceOf sl vl vu .none)(pl:IsPart vl lo)(pu:IsPart vu hi)
  (h:Q (((sIx n 0 lo:Nat):Int),1,sIx n n hi - sIx n 0 lo) s):wpAny (model prog w) A (Builtin.Slice.sliceApplied (.ref sl) (pure (n:Int))) Q E s:=by
 obtain⟨os,hos,hcs,hds⟩:=id hs;unfold Builtin.Slice.sliceApplied Builtin.Slice.sliceFields;refine wpAny_bind (wpAny_bind (wpAny_field hos hds (x:=vl) rfl (wpAny_bind (wpAny_field hos hds (x:=vu) rfl (wpAny_bind (wpAny_field hos hds (x:=.none) rfl (wpAny_pure ?_)))))));refine wpAny_bind (slicePart_none ?_);show wpAny _ _ (if ((1:Int) == 0)=true then _ else _) _ _ s;rw [if_neg (by decide)];refine wpAny_bind (zht pl (wpAny_bind (zht pu (wpAny_bind (wpAny_pure ?_)))));show wpAny _ _ (match Builtin.Slice.sliceAdjust lo hi 1 (n:Int) with | (lo,hi)=>pure (lo,(1:Int),Builtin.Slice.slicePlaces lo hi 1)) _ _ s;rw [zl7 lo hi n];show wpAny _ _ (pure (((sIx n 0 lo:Nat):Int),(1:Int),Builtin.Slice.slicePlaces ((sIx n 0 lo:Nat):Int) ((sIx n n hi:Nat):Int) 1)) _ _ s;rw [zlK];exact wpAny_pure h
theorem zo1(xs:Array Value)(i k:Nat):((List.range k).filterMap fun(m:Nat)=>xs[((i:Int)+(m:Int)*1).toNat]?).toArray=((xs.toList.drop i).take k).toArray:=by
 have e:(fun(m:Nat)=>xs[((i:Int)+(m:Int)*1).toNat]?)=fun m=>xs[i+m]?:=by
  funext m;have:((i:Int)+(m:Int)*1).toNat=i+m:=by omega
  rw [this]
 rw [e];have:=pick_run xs i k;rw [List.filterMap_map] at this;have e2:((fun x=>xs[x]?)∘fun x=>i+x)=fun m=>xs[i+m]?:=rfl;rw [e2] at this;rw [this]
theorem getItem_tuple_cut{t sl:Addr}{items:Array Value}{vl vu:Value}{lo hi:Option Int}{Q:Value->Shared->Prop}(ht:IsTup s.heap t items)(hs:s.heap.IsSliceOf sl vl vu .none)(pl:IsPart vl lo)(pu:IsPart vu hi)
  (hw:¬ (sIx items.size 0 lo=0/\sIx items.size items.size hi=items.size))
  (h:Q (.ref s.heap.objs.size) { s with heap:=s.heap.push { cls:=.type "tuple",data:=.seq ((items.toList.drop (sIx items.size 0 lo)).take (sIx items.size items.size hi - sIx items.size 0 lo)).toArray } })
  (hsz:items.size<=sizeLine):wpAny (model prog w) A (getItem (.ref t) (.ref sl)) Q E s:=by
 have htake:sizeOk (.seq ((items.toList.drop (sIx items.size 0 lo)).take (sIx items.size items.size hi - sIx items.size 0 lo)).toArray):=by
  show ((items.toList.drop (sIx items.size 0 lo)).take (sIx items.size items.size hi - sIx items.size 0 lo)).toArray.size<=sizeLine;rw [List.size_toArray,List.length_take,List.length_drop,Array.length_toList];omega
 have hj:sIx items.size items.size hi<=items.size:=zsQ _ _ (Nat.le_refl _) hi;obtain⟨os,hos,hcs,hds⟩:=id hs;have hTs:s.TypeIs (.ref sl) "slice":=⟨os,hos,hcs⟩;unfold getItem
 try with_reducible refine wpAny_holding ?_
 first | refine wpAny_bind (wpAny_pure ?_) | skip
 refine wpAny_bind (wpAny_sequenceKey ht.typeIs (by decide) ?_);refine wpAny_bind (wpAny_callSpecial?_slot (name:=Str.ofString "__getitem__") ht.typeIs PyProof.Rows.slot_tuple_getitem
  (wpAny_call_entry PyProof.Rows.slot_tuple_getitem ht.typeIs entry_tuple_getitem ?_ (args_tuple_getitem _ _)))
 show wpAny _ _ (Builtin.Tuple.tupleItemsOf (.ref t) >>= _) _ _ s;refine wpAny_bind (tupleItemsOf_ ht ?_);refine wpAny_bind (wpAny_typeOf hTs ?_);rw [if_pos (by decide)];refine wpAny_bind (zfZ hs pl pu ?_);have hno:¬ ((((sIx items.size 0 lo:Nat):Int) == 0 && (1:Int) == 1 && (sIx items.size items.size hi - sIx items.size 0 lo) == items.size)=true):=by
  intro q;rw [Bool.and_eq_true,Bool.and_eq_true] at q;have q1:((sIx items.size 0 lo:Nat):Int)=0:=eq_of_beq q.1.1;have q2:sIx items.size items.size hi - sIx items.size 0 lo=items.size:=eq_of_beq q.2;exact hw ⟨by omega,by omega⟩
 show wpAny _ _ (if (((sIx items.size 0 lo:Nat):Int) == 0 && (1:Int) == 1 && (sIx items.size items.size hi - sIx items.size 0 lo) == items.size)=true then _ else _) _ _ s;rw [if_neg hno,zo1]
 first
  | exact wpAny_bind (m:=Builtin.Tuple.tupleExact _) (wpAny_newObj_type (wpAny_pure ⟨_,rfl,wpAny_pure h⟩) htake)
  | exact wpAny_bind (m:=Builtin.Tuple.tupleExact _) (wpAny_newObj_type (wpAny_bind (wpAny_pure (wpAny_pure ⟨_,rfl,wpAny_pure h⟩))) htake)
  | exact wpAny_bind (wpAny_bind (m:=Builtin.Tuple.tupleExact _) (wpAny_newObj_type (wpAny_pure (wpAny_pure ⟨_,rfl,wpAny_pure h⟩)) htake))
  | exact wpAny_bind (wpAny_bind (m:=Builtin.Tuple.tupleExact _) (wpAny_newObj_type (wpAny_pure ⟨_,rfl,wpAny_pure h⟩) htake))
end
end HT
namespace L2
open PySem PySem.Spec PyProof.Rows
section
abbrev TO:=St->Hp->(Option Int->Hp->Prop)->Prop
def PO(X:Cx)(e:Option Expr)(t:TO):Prop :=
 ∀ (zl:List (Addr×Obj)) (s:Shared) (σ:St) (H:Hp) (Q:Option Int->Hp->Prop),Inv X zl σ H s->t σ H Q ->
  wpAny (model X.prog X.w) X.A (evalPart e X.env) (fun u s'=>∃ o H',Inv X zl σ H' s'/\IsPart u o/\Q o H') X.xe s
def znO:TO:=fun _ H Q=>Q none H
def zlA(t:TE):TO:=fun σ H Q=>t σ H fun x H1=>∃ i,x=.int i/\Q (some i) H1
theorem zbY{ns:List Int}:∀ {us:List Value},Vals (ns.map V.int) us->IntsAre us ns:=by
 induction ns with
 | nil=>intro us r; rw [List.map_nil] at r; cases r; exact .nil
 | cons n ns ih =>
  intro us r;rw [List.map_cons] at r;cases r with
  | cons r1 r2 =>
   obtain⟨t,e⟩:=r1;subst e;exact .cons n t (ih r2)
section
variable {X:Cx} {e:Expr} {te:TE} {lo hi:Option Expr} {tl th:TO} {pos p2:Pos}
theorem zdY:PO X none znO:=by
 intro zl s σ H Q I h;rw [evalPart_none];exact wpAny_pure ⟨none,H,I,.none,h⟩
theorem zcS(h:PE X e te):PO X (some e) (zlA te):=by
 intro zl s σ H Q I hw;rw [evalPart_some];refine thn (h zl s σ H _ I hw) fun u s1 ⟨x,H1,I1,r1,q1⟩=>?_;obtain⟨i,rfl,q⟩:=q1;obtain⟨t,rfl⟩:=r1;exact⟨some i,H1,I1,.int i t,q⟩
def SlR(X:Cx)(r:V->Option Int->Option Int->Hp->VK->Prop):Prop :=
 ∀ (zl:List (Addr×Obj)) (s:Shared) (σ:St) (H:Hp) (x:V) (v vl vu:Value) (lo hi:Option Int) (sl:Addr) (Q:VK),Inv X zl σ H s->RelV x v->s.heap.IsSliceOf sl vl vu .none->IsPart vl lo->IsPart vu hi->r x lo hi H Q ->
  ∃ T id,typeLookup (.type T) "__getitem__" = pure (some (.builtin id))/\s.TypeIs v T/\wpAny (model X.prog X.w) X.A (getItem v (.ref sl)) (EP X zl σ Q) X.xe s
theorem SlR.or{r r':V->Option Int->Option Int->Hp->VK->Prop}(h:SlR X r)(h':SlR X r'):SlR X (fun x lo hi H Q=>r x lo hi H Q\/r' x lo hi H Q):=by
 intro zl s σ H x v vl vu lo hi sl Q I rx hs pl pu q;rcases q with q | q
 ·exact h zl s σ H x v vl vu lo hi sl Q I rx hs pl pu q
 ·exact h' zl s σ H x v vl vu lo hi sl Q I rx hs pl pu q
def tSl(r:V->Option Int->Option Int->Hp->VK->Prop)(te:TE)(tl th:TO):TE:=fun σ H Q=>te σ H fun x H1=>tl σ H1 fun l H2=>th σ H2 fun u H3=>r x l u H3 Q
theorem zci{r:V->Option Int->Option Int->Hp->VK->Prop}(hr:SlR X r)(he:PE X e te)(hl:PO X lo tl)(hu:PO X hi th):PE X (.Subscript e (.Slice lo hi none p2) pos) (tSl r te tl th):=by
 intro zl s σ H Q I h;refine Subscript_ (thn (he zl s σ H _ I h) fun v s1 ⟨x,H1,I1,r1,q1⟩=>?_);refine wpAny_Slice (thn (hl zl s1 σ H1 _ I1 q1) fun vl s2 ⟨l,H2,I2,pl,q2⟩=>thn (hu zl s2 σ H2 _ I2 q2) fun vu s3 ⟨u,H3,I3,pu,q3⟩=>?_);rw [evalPart_none];refine wpAny_pure ?_;have I4:Inv X zl σ H3 { s3 with heap:=s3.heap.push { cls:=.type "slice",data:=.fields #[vl,vu,.none] } }:=I3.kept (t':=s3.toks) fun b ob q=>Heap.get?_push_of_some _ q;obtain⟨T,id,hT,ht,hg⟩:=hr zl { s3 with heap:=s3.heap.push { cls:=.type "slice",data:=.fields #[vl,vu,.none] } } σ H3 x v vl vu l u s3.heap.objs.size Q I4 r1 (Heap.IsSliceOf.new ..) pl pu q3;show wpAny (model X.prog X.w) X.A (subscriptTail e (.Slice lo hi none p2) v (.ref s3.heap.objs.size)) (EP X zl σ Q) X.xe { s3 with heap:=s3.heap.push { cls:=.type "slice",data:=.fields #[vl,vu,.none] } };exact tail_any (ops:=[.ref s3.heap.objs.size,v]) ht hT hg (by with_unfolding_all rfl)
def zl8(xs:List V)(lo hi:Option Int):List V:=(xs.drop (HT.sIx xs.length 0 lo)).take (HT.sIx xs.length xs.length hi - HT.sIx xs.length 0 lo)
theorem zeE(xs:List V)(lo hi:Option Int):(zl8 xs lo hi).length<=xs.length:=by
 unfold zl8;rw [List.length_take,List.length_drop];omega
def zuw(K:W.Frag):V->Option Int->Option Int->Hp->VK->Prop:=fun x lo hi H Q=>∃ a xs,x=.ref a/\SqT K H a xs /\
 ¬ (HT.sIx xs.length 0 lo=0/\HT.sIx xs.length xs.length hi=xs.length)/\∀ p,H p=none->Q (.ref p) (upd H p (.tup (zl8 xs lo hi)))
theorem zty:SlR X (zuw X.K):=by
 intro zl s σ H x v vl vu lo hi sl Q I rx hs pl pu h;obtain⟨a,xs,rfl,hx,hw,q⟩:=h;cases rx;obtain⟨its,r,ht,hz⟩:=I.tuple hx;have hlen:its.toArray.size=xs.length:=by rw [List.size_toArray]; exact r.length.symm
 refine⟨"tuple",_,PyProof.Rows.slot_tuple_getitem.lookup,ht.typeIs,?_⟩;refine HT.getItem_tuple_cut ht hs pl pu (by rw [hlen]; exact hw) ?_ (by rw [hlen]; exact hz);rw [hlen];refine⟨.ref s.heap.objs.size,_,I.laid (t':=s.toks) (o:=.tup (zl8 xs lo hi)) (fun b ob q=>Heap.get?_push_of_some _ q) (Nat.le_refl _) ?_,rfl,q _ (I.hok.fresh (Nat.le_refl _))⟩;exact⟨⟨Nat.le_trans (zeE xs lo hi) hz,_,Heap.get?_push_size _ rfl,rfl⟩,_,(r.drop (HT.sIx xs.length 0 lo)).take (HT.sIx xs.length xs.length hi - HT.sIx xs.length 0 lo),IsTup.new _ _⟩
def zrM(K:W.Frag):R2:=fun x y H Q=>∃ a b xs ys,x=.ref a/\y=.ref b/\SqT K H a xs/\SqT K H b ys/\xs≠[]/\xs.length+ys.length<=sizeLine /\
 (ys=[]->Q (.ref a) H)/\(ys≠[]->∀ p,H p=none->Q (.ref p) (upd H p (.tup (xs++ys))))
theorem Vals.nil_iff{xs:List V}{us:List Value}(r:Vals xs us):us=[]↔xs=[]:=by
 cases r with
 | nil=>simp
 | cons _ _=>simp
theorem zrf:OpR X (binaryOp .Add) (zrM X.K):=by
 intro zl s σ H x y v u Q I rx ry h;obtain⟨a,b,xs,ys,rfl,rfl,ha,hb,hx,hz,q1,q2⟩:=h;cases rx;cases ry;obtain⟨its,r1,p1,_⟩:=I.tuple ha;obtain⟨its2,r2,p2,_⟩:=I.tuple hb;refine HT.cat_tup p1 p2 (fun z=>hx (r1.nil_iff.mp z)) (fun z=>⟨.ref a,H,I,rfl,q1 (r2.nil_iff.mp z)⟩) (fun z=>?_) (by rw [<- r1.length,<- r2.length]; exact hz);refine⟨.ref s.heap.objs.size,_,I.laid (t':=s.toks) (o:=.tup (xs++ys)) (fun b ob q=>Heap.get?_push_of_some _ q) (Nat.le_refl _) ?_,rfl,q2 (fun w=>z (r2.nil_iff.mpr w)) _ (I.hok.fresh (Nat.le_refl _))⟩;exact⟨⟨by rw [List.length_append]; exact hz,_,Heap.get?_push_size _ rfl,rfl⟩,_,r1.append r2,IsTup.new _ _⟩
end
end
section
def ixN(n:Nat)(i:Int):Option Nat:=if 0<=i then (if i<n then some i.toNat else none) else if -(n:Int)<=i then some (i+n).toNat else none
def atI{α:Type}(xs:List α)(i:Int):Option α:=(ixN xs.length i).bind fun j=>xs[j]?
theorem zmP{n:Nat}{i:Int}{j:Nat}(h:ixN n i=some j):seqIndex? i n=some j/\j<n/\-(n:Int)<=i/\i<n:=by
 unfold ixN at h;by_cases h0:0<=i
 ·rw [if_pos h0] at h;by_cases h1:i<n
  ·rw [if_pos h1] at h;have e:i.toNat=j:=Option.some.inj h;exact⟨by rw [seqIndex_of h0 h1,e],by omega,by omega,h1⟩
  ·rw [if_neg h1] at h; cases h
 ·rw [if_neg h0] at h;by_cases h1:-(n:Int)<=i
  ·rw [if_pos h1] at h;have e:(i+n).toNat=j:=Option.some.inj h;exact⟨by rw [seqIndex_neg (by omega) h1,e],by omega,h1,by omega⟩
  ·rw [if_neg h1] at h; cases h
theorem zkd{α:Type}{xs:List α}{i:Int}{v:α}(h:atI xs i=some v):∃ j,seqIndex? i xs.length=some j/\xs[j]? = some v/\j<xs.length/\-(xs.length:Int)<=i/\i<xs.length:=by
 unfold atI at h;cases e:ixN xs.length i with
 | none=>rw [e] at h; cases h
 | some j =>
  rw [e] at h;obtain⟨h1,h2,h3,h4⟩:=zmP e;exact⟨j,h1,h,h2,h3,h4⟩
theorem zcW{α:Type}{xs:List α}{j:Nat}{v:α}(h:xs[j]? = some v):atI xs (j:Int)=some v:=by
 have hj:j<xs.length:=(List.getElem?_eq_some_iff.mp h).1;have e:ixN xs.length (j:Int)=some j:=by
  unfold ixN;rw [if_pos (by omega),if_pos (by omega)]; simp
 unfold atI; rw [e]; exact h
theorem zpH{α:Type}(xs:List α)(v:α):atI (xs++[v]) (-1)=some v:=by
 have hl:(xs++[v]).length=xs.length+1:=by simp
 have e:ixN (xs++[v]).length (-1)=some xs.length:=by
  unfold ixN;rw [hl,if_neg (by decide),if_pos (by omega)];congr 1;omega
 unfold atI;rw [e];show (xs++[v])[xs.length]? = some v;simp
def PlainIx(b:Expr):Prop:=∀ o i,subscripted b false o i=operate [o,i] (getItem o i)
def IxR(X:Cx)(r:R2):Prop :=
 ∀ (value slice:Expr) (zl:List (Addr×Obj)) (s:Shared) (σ:St) (H:Hp) (x y:V) (v u:Value) (Q:VK),Inv X zl σ H s->RelV x v->RelV y u->r x y H Q ->
  subscripted slice false v u=operate [v,u] (getItem v u)->wpAny (model X.prog X.w) X.A (subscriptTail value slice v u) (EP X zl σ Q) X.xe s
def MtR(X:Cx)(id:String)(r:V->List V->Hp->VK->Prop):Prop :=
 ∀ (zl:List (Addr×Obj)) (s:Shared) (σ:St) (H:Hp) (x:V) (xs:List V) (v:Value) (us:List Value) (Q:VK),Inv X zl σ H s->RelV x v->Vals xs us->r x xs H Q ->
  wpAny (model X.prog X.w) X.A (call (.builtin id) (v :: us)) (EP X zl σ Q) X.xe s
section
variable {X:Cx} {a b:Expr} {ta tb:TE} {pos:Pos}
theorem IxR.or{r r':R2}(h:IxR X r)(h':IxR X r'):IxR X (fun x y H Q=>r x y H Q\/r' x y H Q):=by
 intro value slice zl s σ H x y v u Q I rx ry q hs;rcases q with q | q
 ·exact h value slice zl s σ H x y v u Q I rx ry q hs
 ·exact h' value slice zl s σ H x y v u Q I rx ry q hs
theorem zI{r:R2}(hr:IxR X r)(ha:PE X a ta)(hb:PE X b tb)(hs:PlainIx b):PE X (.Subscript a b pos) (tOp r ta tb):=by
 intro zl s σ H Q I h;exact Subscript_ (zus ha hb I h fun v u s2 x y H2 I2 rx ry q=>hr a b zl s2 σ H2 x y v u Q I2 rx ry q (hs _ _))
def zui(K:W.Frag):R2:=fun x y H Q=>∃ p xs i v,x=.ref p/\y=.int i/\SqL K H p xs/\atI xs i=some v/\Q v H
def zug(K:W.Frag):R2:=fun x y H Q=>∃ p xs i v,x=.ref p/\y=.int i/\SqT K H p xs/\atI xs i=some v/\Q v H
def zuk:R2:=fun x y H Q=>∃ z i c,x=.str z/\y=.int i/\z.length<=sizeLine/\atI z.cps.toList i=some c/\Q (.str ⟨#[c]⟩) H
theorem zna:IxR X (zui X.K):=by
 intro value slice zl s σ H x y v u Q I rx ry h hs;obtain⟨p,xs,i,z,rfl,rfl,hq,he,q⟩:=h;cases rx;obtain⟨t,rfl⟩:=ry;obtain⟨its,r,pl,hz⟩:=I.list hq;obtain⟨j,h1,h2,h3,h4,h5⟩:=zkd he;obtain⟨w,ew,rw'⟩:=r.get h2;have hl:=r.length;have hn:=line63;have fin:EP X zl σ Q w s:=⟨z,H,I,rw',q⟩;by_cases h0:0<=i
 ·have hj:i.toNat=j:=by
   rw [seqIndex_of h0 h5] at h1;exact Option.some.inj h1
  exact item_listR pl.isList h0 (by omega) (by rw [hj]; simpa using ew) fin hs
 ·have hj:(i+(its.toArray.size:Int)).toNat=j:=by
   rw [seqIndex_neg (by omega) h4] at h1;rw [List.size_toArray,<- hl];exact Option.some.inj h1
  exact subscriptTail_builtinR (x:=w) pl.isList.typeIs slot_list_getitem.lookup
   (wpAny_getItem_list_neg (Q:=fun r s'=>r=w/\EP X zl σ Q r s') pl.isList (by omega) (by rw [List.size_toArray] <;> omega) (by omega) (by rw [hj]; simpa using ew) ⟨rfl,fin⟩) hs
theorem zsB:IxR X (zug X.K):=by
 intro value slice zl s σ H x y v u Q I rx ry h hs;obtain⟨p,xs,i,z,rfl,rfl,hq,he,q⟩:=h;cases rx;obtain⟨t,rfl⟩:=ry;obtain⟨its,r,pl,hz⟩:=I.tuple hq;obtain⟨j,h1,h2,h3,h4,h5⟩:=zkd he;obtain⟨w,ew,rw'⟩:=r.get h2;have hl:=r.length;have hn:=line63;have fin:EP X zl σ Q w s:=⟨z,H,I,rw',q⟩;exact subscriptTail_builtinR (x:=w) pl.typeIs slot_tuple_getitem.lookup
  (getItem_tuple (j:=j) (Q:=fun r s'=>r=w/\EP X zl σ Q r s') pl (by omega) (by omega) (by rw [List.size_toArray,<- hl]; exact h1) (by simpa using ew) ⟨rfl,fin⟩) hs
theorem ztw:IxR X zuk:=by
 intro value slice zl s σ H x y v u Q I rx ry h hs;obtain⟨z,i,c,rfl,rfl,hz,he,q⟩:=h;obtain⟨t,rfl⟩:=rx;obtain⟨t',rfl⟩:=ry;obtain⟨j,h1,h2,h3,h4,h5⟩:=zkd he;have hl:z.cps.toList.length=z.length:=by simp [Str.length]
 rw [hl] at h1 h4 h5;have hn:=line63;exact tail_any (typeIs_str s z t) slot_str_getitem.lookup (getItem_str (c:=c) (by
  have e1:decide (i < -(2 ^ 63:Int))=false:=decide_eq_false (by omega);have e2:decide (i≥2 ^ 63)=false:=decide_eq_false (by omega);rw [e1,e2,Bool.or_false]) (by rw [h1]; simpa using h2) ⟨.str ⟨#[c]⟩,H,I.tok _,⟨_,rfl⟩,q⟩) hs
def rIx(K:W.Frag):R2:=fun x y H Q=>zui K x y H Q\/zug K x y H Q\/zuk x y H Q
theorem zt:IxR X (rIx X.K):=zna.or (zsB.or ztw)
theorem zmc(its:List Value)(n j:Nat)(u:Value):Obj.mapSeq (·.setIfInBounds j u) { cls:=.type "list",data:=.seq its.toArray n } = { cls:=.type "list",data:=.seq (its.set j u).toArray n }:=by
 simp [Obj.mapSeq]
theorem Inv.lst{zl:List (Addr×Obj)}{σ:St}{H:Hp}{s:Shared}{p:Addr}{xs:List V}(I:Inv X zl σ H s)(h:H p=some (.lst xs)):
  ∃ (its:List Value) (n:Nat),Vals xs its/\s.heap.get? p=some { cls:=.type "list",data:=.seq its.toArray n }/\xs.length<=sizeLine:=by
 obtain⟨z,its,n,r,e⟩:=I.hok p _ h;exact⟨its,n,r,e,z⟩
theorem Inv.lstUpd{zl:List (Addr×Obj)}{σ:St}{H:Hp}{s:Shared}{p:Addr}{xs ys:List V}{its its':List Value}{n n':Nat}{f:Obj->Obj}(I:Inv X zl σ H s)(h:H p=some (.lst xs))
  (ho:s.heap.get? p=some { cls:=.type "list",data:=.seq its.toArray n }) (hf:f { cls:=.type "list",data:=.seq its.toArray n } = { cls:=.type "list",data:=.seq its'.toArray n' }) (r:Vals ys its') (hz:ys.length<=sizeLine) (t:Nat) :
  Inv X zl σ (upd H p (.lst ys)) { s with heap:=s.heap.update p f,toks:=t }:=by
 have e:(s.heap.update p f).get? p=some { cls:=.type "list",data:=.seq its'.toArray n' }:=by
  rw [Heap.get?_update_self f ho (by rw [hf] <;> rfl),hf]
 refine I.write (x:=p) (e:=p) (by rw [h]; trivial) (.inl rfl) (fun b u hb q=>(Heap.get?_update_other _ _ (Ne.symm hb)).trans q) ⟨_,e⟩ ?_;exact⟨hz,its',n',r,e⟩
def zsE:V->V->V->Hp->(Hp->Prop)->Prop:=fun o i v H Q=>∃ p xs k j,o=.ref p/\i=.int k/\H p=some (.lst xs)/\ixN xs.length k=some j/\Q (upd H p (.lst (xs.set j v)))
theorem zf0:PSet X zsE:=by
 intro zl s σ H o i v ov iv u Q I ro ri rv h;obtain⟨p,xs,k,j,rfl,rfl,hp,hj,q⟩:=h;cases ro;obtain⟨t,rfl⟩:=ri;obtain⟨its,n,r,ho,hz⟩:=I.lst hp;obtain⟨h1,h2,h3,h4⟩:=zmP hj;have hl:=r.length;have hn:=line63;have I':Inv X zl σ (upd H p (.lst (xs.set j v))) { s with heap:=s.heap.update p (Obj.mapSeq (·.setIfInBounds j u)) } :=
  I.lstUpd hp ho (zmc its n j u) (r.set rv j) (by rw [List.length_set]; exact hz) s.toks
 by_cases h0:0<=k
 ·have hk:k.toNat=j:=by
   rw [seqIndex_of h0 h4] at h1;exact Option.some.inj h1
  exact PySem.W.ki_setAt ho h0 (by omega) (by rw [List.size_toArray,<- hl]; exact h4) (by rw [hk]; exact⟨_,I',q⟩)
 ·have hk:(k+(its.toArray.size:Int)).toNat=j:=by
   rw [seqIndex_neg (by omega) h3] at h1;rw [List.size_toArray,<- hl];exact Option.some.inj h1
  exact PySem.W.ki_setBack ho (by omega) (by rw [List.size_toArray,<- hl]; exact h3) (by omega) (by rw [hk]; exact⟨_,I',q⟩)
theorem zi1(lo hi:Option Int)(n:Nat):(sliceBounds lo hi none n).1=((HT.sIx n 0 lo:Nat):Int)/\(sliceBounds lo hi none n).2.1=((HT.sIx n n hi:Nat):Int)/\(sliceBounds lo hi none n).2.2=1:=by
 refine⟨?_,?_,rfl⟩
 ·cases lo with
  | none=>simp [sliceBounds,HT.sIx]
  | some i =>
   simp only [sliceBounds,HT.sIx,Option.getD_none,show (1:Int)>0 by decide,if_true];by_cases h:i<0
   ·simp only [h,if_true] <;> omega
   ·simp only [h,if_false] <;> omega
 ·cases hi with
  | none=>simp [sliceBounds,HT.sIx]
  | some i =>
   simp only [sliceBounds,HT.sIx,Option.getD_none,show (1:Int)>0 by decide,if_true];by_cases h:i<0
   ·simp only [h,if_true] <;> omega
   ·simp only [h,if_false] <;> omega
theorem zh3(its:List Value)(lo hi:Option Int):slicePick its.toArray lo hi none=((its.drop (HT.sIx its.length 0 lo)).take (HT.sIx its.length its.length hi - HT.sIx its.length 0 lo)).toArray:=by
 obtain⟨h1,h2,h3⟩:=zi1 lo hi its.toArray.size;unfold slicePick;rw [h1,h2,h3];simp only [sliceRange_one,pick_run,List.size_toArray] <;> rfl
def zta(K:W.Frag):V->Option Int->Option Int->Hp->VK->Prop:=fun x lo hi H Q=>∃ a xs,x=.ref a/\SqL K H a xs/\∀ p,H p=none->Q (.ref p) (upd H p (.lst (zl8 xs lo hi)))
theorem zow:SlR X (zta X.K):=by
 intro zl s σ H x v vl vu lo hi sl Q I rx hs pl pu h;obtain⟨a,xs,rfl,hx,q⟩:=h;cases rx;obtain⟨its,r,ht,hz⟩:=I.list hx;have hlen:=r.length;refine⟨"list",_,slot_list_getitem.lookup,ht.isList.typeIs,?_⟩;refine wpAny_getItem_list_slice ht.isList hs pl pu .none (by simp) ?_ (by rw [List.size_toArray] <;> omega);rw [zh3,<- hlen];refine⟨.ref s.heap.objs.size,_,I.laid (t':=s.toks) (o:=.lst (zl8 xs lo hi)) (fun b ob q=>Heap.get?_push_of_some _ q) (Nat.le_refl _) ?_,rfl,q _ (I.hok.fresh (Nat.le_refl _))⟩;exact⟨Nat.le_trans (zeE xs lo hi) hz,_,0,(r.drop (HT.sIx xs.length 0 lo)).take (HT.sIx xs.length xs.length hi - HT.sIx xs.length 0 lo),Heap.get?_push_size _ rfl⟩
theorem zfO:CallR X (.builtin "len") (fun xs H Q=>∃ p ys,xs=[.ref p]/\(SqL X.K H p ys\/SqT X.K H p ys)/\Q (.int ys.length) H):=by
 intro zl s σ H xs us Q I r h;obtain⟨p,ys,rfl,hq,q⟩:=h;obtain⟨u,rfl,rx⟩:=vals1 r;cases rx;have hn:=line63;rcases hq with hq | hq
 ·obtain⟨its,r',pl,hz⟩:=I.list hq;have hlen:=r'.length;exact Calls.call_len_list pl.isList (by simp only [List.size_toArray] <;> omega) ⟨.int ys.length,H,I.tok _,⟨s.toks+1,by rw [List.size_toArray,hlen]⟩,q⟩
 ·obtain⟨its,r',pl,hz⟩:=I.tuple hq;have hlen:=r'.length;exact len_tuple pl (by simp only [List.size_toArray] <;> omega) ⟨.int ys.length,H,I.tok _,⟨s.toks+1,by rw [List.size_toArray,hlen]⟩,q⟩
theorem zi7:CallR X (.builtin "len") (fun xs H Q=>∃ z,xs=[.str z]/\z.length<=sizeLine/\Q (.int z.length) H):=by
 intro zl s σ H xs us Q I r h;obtain⟨z,rfl,hz,q⟩:=h;obtain⟨u,rfl,t,rfl⟩:=vals1 r;have hn:=line63;exact len_str (by omega) ⟨.int z.length,H,I.tok _,⟨_,rfl⟩,q⟩
theorem CallR.or{f:Value}{r r':List V->Hp->VK->Prop}(h:CallR X f r)(h':CallR X f r'):CallR X f (fun xs H Q=>r xs H Q\/r' xs H Q):=by
 intro zl s σ H xs us Q I rs q;rcases q with q | q
 ·exact h zl s σ H xs us Q I rs q
 ·exact h' zl s σ H xs us Q I rs q
theorem ziY:CallR X (.type "list") (fun xs H Q=>∃ p ys,xs=[.ref p]/\(SqL X.K H p ys\/SqT X.K H p ys)/\∀ l,H l=none->Q (.ref l) (upd H l (.lst ys))):=by
 intro zl s σ H xs us Q I r h;obtain⟨p,ys,rfl,hq,q⟩:=h;obtain⟨u,rfl,rx⟩:=vals1 r;cases rx;have fin:∀ (its:List Value),Vals ys its->ys.length<=sizeLine->∀ (h':Heap) (c':Nat),(∀ b o',s.heap.get? b=some o'->h'.get? b=some o') ->
   h'.get? s.heap.objs.size=some { cls:=.type "list",dict:=none,data:=.seq its.toArray c',slots:=#[] }->EP X zl σ Q (.ref s.heap.objs.size) { s with heap:=h' }:=fun its r' hz h' c' kp e =>
  ⟨.ref s.heap.objs.size,_,I.laid (t':=s.toks) kp (Nat.le_refl _) (show ObjOk X.prog X.w _ h' _ (.lst ys) from⟨hz,its,c',r',e⟩),rfl,q _ (I.hok.fresh (Nat.le_refl _))⟩
 rcases hq with hq | hq
 ·obtain⟨its,r',pl,hz⟩:=I.list hq;have hlen:=r'.length;obtain⟨o,ho,hc,n,hd⟩:=pl.isList;exact call_list_seq p (.inl rfl) ho hc hd (fun h' c' kp e=>fin its r' hz h' c' kp e) (by simp only [List.size_toArray] <;> omega)
 ·obtain⟨its,r',pl,hz⟩:=I.tuple hq;have hlen:=r'.length;obtain⟨o,ho,hc,n,hd⟩:=pl;exact call_list_seq p (.inr rfl) ho hc hd (fun h' c' kp e=>fin its r' hz h' c' kp e) (by simp only [List.size_toArray] <;> omega)
theorem zbf:CallR X (.type "tuple") (fun xs H Q=>∃ p ys,xs=[.ref p]/\((SqL X.K H p ys/\∀ l,H l=none->Q (.ref l) (upd H l (.tup ys)))\/(SqT X.K H p ys/\Q (.ref p) H))):=by
 intro zl s σ H xs us Q I r h;obtain⟨p,ys,rfl,h⟩:=h;obtain⟨u,rfl,rx⟩:=vals1 r;cases rx;rcases h with ⟨hq,q⟩ | ⟨hq,q⟩
 ·obtain⟨its,r',pl,hz⟩:=I.list hq;have hlen:=r'.length;refine call_tuple_list pl.isList (fun h' kp=>?_) (by simp only [List.size_toArray] <;> omega);have I1:Inv X zl σ H { s with heap:=h' }:=I.kept (t':=s.toks) kp;have I2:Inv X zl σ (upd H h'.objs.size (.tup ys)) { s with heap:=h'.push { cls:=.type "tuple",data:=.seq its.toArray } } :=
   I1.laid (t':=s.toks) (fun b o e=>Heap.get?_push_of_some _ e) (Nat.le_refl _) (show ObjOk X.prog X.w _ _ _ (.tup ys) from⟨⟨hz,_,Heap.get?_push_size _ rfl,rfl⟩,its,r',IsTup.new _ _⟩)
  exact⟨.ref h'.objs.size,_,I2,rfl,q _ (I1.hok.fresh (Nat.le_refl _))⟩
 ·obtain⟨its,r',pl,hz⟩:=I.tuple hq;exact call_tuple_same pl ⟨.ref p,H,I,rfl,q⟩
def tyV(K:W.Frag)(T:String)(x:V)(H:Hp):Prop:=match x with
 | .str _=>T = "str"
 | .int _=>T = "int"
 | .ref p=>(T = "list"/\∃ xs,SqL K H p xs)\/(T = "tuple"/\∃ o,K.lookup p=some o/\o.cls=.type "tuple"/\o.dict=none) \/
   (T = "dict"/\((∃ kvs,H p=some (.dK kvs))\/∃ kvs,H p=some (.dT kvs)))\/(T = "set"/\∃ S n,H p=some (.set S n))
 | _=>False
theorem zqw{zl:List (Addr×Obj)}{σ:St}{H:Hp}{s:Shared}{T:String}{x:V}{v:Value}(I:Inv X zl σ H s)(r:RelV x v)(ty:tyV X.K T x H):
  s.TypeIs v T/\∀ a,v=.ref a->∃ ob,s.heap.get? a=some ob/\ob.dict=none:=by
 cases x with
 | str z =>
  obtain⟨t,rfl⟩:=r;cases (show T = "str" from ty);exact⟨typeIs_str s z t,fun _ e=>nomatch e⟩
 | int i =>
  obtain⟨t,rfl⟩:=r;cases (show T = "int" from ty);exact⟨typeIs_int s i t,fun _ e=>nomatch e⟩
 | ref p =>
  cases r;rcases ty with ⟨rfl,xs,hq⟩ | ⟨rfl,o,hk,hc,hd⟩ | ⟨rfl,hk⟩ | ⟨rfl,S,n,hk⟩
  ·obtain⟨its,_,pl,_⟩:=I.list hq;refine⟨pl.isList.typeIs,fun a e=>?_⟩;cases e;obtain⟨o,n,e,c,hd,_⟩:=pl;exact⟨o,e,hd⟩
  ·refine⟨⟨o,I.kIn p o hk,hc⟩,fun a e=>?_⟩;cases e;exact⟨o,I.kIn _ o hk,hd⟩
  ·have z:∃ o,s.heap.get? p=some o/\o.ExactDict:=by
    rcases hk with ⟨kvs,hk⟩ | ⟨kvs,hk⟩
    ·obtain⟨_,_,_,_,o,_,_,e,ex,_⟩:=I.hok p _ hk;exact⟨o,e,ex⟩
    ·obtain⟨_,_,_,_,o,_,_,e,ex,_⟩:=I.hok p _ hk;exact⟨o,e,ex⟩
   obtain⟨o,e,ex⟩:=z;refine⟨⟨o,e,ex.1⟩,fun a e2=>?_⟩;cases e2;exact⟨o,e,ex.2.1⟩
  ·obtain⟨o,_,_,_,e,ex,_⟩:=I.hok p _ hk;refine⟨⟨o,e,ex.1⟩,fun a e2=>?_⟩;cases e2;exact⟨o,e,ex.2.1⟩
 | _=>exact False.elim ty
def zuX(K:W.Frag)(T:String)(r:V->List V->Hp->VK->Prop)(to:TE):TE:=fun σ H Q=>to σ H fun x H1=>tyV K T x H1/\r x [] H1 Q
def tBM(K:W.Frag)(T:String)(r:V->List V->Hp->VK->Prop)(to:TE)(t:TA):TE:=fun σ H Q=>to σ H fun x H1=>tyV K T x H1/\t σ H1 fun xs H2=>r x xs H2 Q
variable {o e:Expr} {es:List Expr} {to:TE} {t:TA} {name:Str} {apos cpos:Pos} {T id:String} {r:V->List V->Hp->VK->Prop}
theorem zqH(pa:PlainAttrs T)(slot:Slot T name id)(hty:typeOf (.builtin id)=pure (.type "method_descriptor"))(hm:MtR X id r)(ho:PE X o to)
  (hbase:attributeBase o name X.env (eval o X.env)=eval o X.env:=by rfl) (hline:(apos.endLine == cpos.line)=true:=by rfl):PE X (.Call (.Attribute o name apos) [] [] cpos) (zuX X.K T r to):=by
 intro zl s σ H Q I h;refine wpAny_Call_method0_late hbase hline (thn (ho zl s σ H _ I h) fun v s1 ⟨x,H1,I1,r1,ty,q1⟩=>?_);obtain⟨h1,h2⟩:=zqw I1 r1 ty;exact⟨T,id,pa,slot,hty,h1,h2,Calls.callWith_builtin rfl (PySem.evalArgs_none (hm zl s1 σ H1 x [] v [] Q I1 r1 .nil q1))⟩
theorem znN(pa:PlainAttrs T)(slot:Slot T name id)(hty:typeOf (.builtin id)=pure (.type "method_descriptor"))(hm:MtR X id r)(ho:PE X o to)(ha:PA X (e :: es) t)
  (hbase:attributeBase o name X.env (eval o X.env)=eval o X.env:=by rfl)
  (hfew:((backTo cpos (starEach (e :: es) X.env)).all (fun x=>!x.1) && (backToKw cpos (keywordEach [] X.env)).all (fun x=>x.1.isSome)
   && decide ((e :: es).length+([]:List Keyword).length+(if ([]:List Keyword).isEmpty then 0 else 1)<30))=true:=by rfl)
  (hline:(apos.endLine == cpos.line)=true:=by rfl) (hs:starEach (e :: es) X.env=(false,eval e X.env) :: starEach es X.env:=by rfl) (hplain:(backTo cpos (starEach es X.env)).any (·.1)=false:=by rfl) :
  PE X (.Call (.Attribute o name apos) (e :: es) [] cpos) (tBM X.K T r to t):=by
 intro zl s σ H Q I h;refine wpAny_Call_method_late hbase hfew hline rfl (thn (ho zl s σ H _ I h) fun v s1 ⟨x,H1,I1,r1,ty,q1⟩=>?_);obtain⟨h1,h2⟩:=zqw I1 r1 ty;refine⟨T,id,pa,slot,hty,h1,h2,?_⟩;have hA:=ha cpos zl s1 σ H1 _ I1 q1;rw [hs] at hA ⊢;refine Calls.callWith_builtin (by show (false || (backTo cpos (starEach es X.env)).any (·.1))=false; rw [hplain] <;> rfl) (Calls.evalArgs_plain ?_);exact thn hA fun us s2 ⟨vs,H2,I2,r2,q2⟩=>hm zl s2 σ H2 x vs v us Q I2 r1 r2 q2
end
end
section
def MtM(X:Cx)(id:String)(r:V->List V->Hp->VK->Prop):Prop :=
 ∀ (zl:List (Addr×Obj)) (s:Shared) (σ:St) (H:Hp) (x:V) (xs:List V) (v:Value) (us:List Value) (Q:VK),Inv X zl σ H s->RelV x v->Vals xs us->r x xs H Q ->
  wpAny (model X.prog X.w) X.A (call (.builtin id) (v :: us)) (EP X zl σ Q) X.xe s
theorem Vals.one:∀ {x:V} {us:List Value},Vals [x] us->∃ u,us=[u]/\RelV x u
 | _,_,.cons r .nil=>⟨_,rfl,r⟩
theorem Vals.zero:∀ {us:List Value},Vals [] us->us=[]
 | _,.nil=>rfl
theorem Vals.reverse{xs:List V}{us:List Value}(h:Vals xs us):Vals xs.reverse us.reverse:=by
 induction h with
 | nil=>exact .nil
 | cons r t ih=>rw [List.reverse_cons,List.reverse_cons]; exact Vals.append ih (.cons r .nil)
theorem Vals.rep{xs:List V}{us:List Value}(h:Vals xs us):∀ k:Nat,Vals (List.replicate k xs).flatten (List.replicate k us).flatten
 | 0=>.nil
 | k+1=>by
  rw [List.replicate_succ,List.replicate_succ,List.flatten_cons,List.flatten_cons];exact Vals.append h (Vals.rep h k)
theorem zjs(its:List Value):∀ (k:Nat) (acc:List Value),
  List.foldl (fun x1 x2=>x1++x2) acc.toArray (List.replicate k its.toArray)=(acc++(List.replicate k its).flatten).toArray
 | 0,acc=>by simp
 | k+1,acc=>by
  have e:acc.toArray++its.toArray=(acc++its).toArray:=by simp
  have e2:(acc++its)++(List.replicate k its).flatten=acc++(List.replicate (k+1) its).flatten:=by
   rw [List.replicate_succ,List.flatten_cons,List.append_assoc]
  rw [<- e2,<- zjs its k (acc++its),<- e,List.replicate_succ,List.foldl_cons]
section
variable {X:Cx} {zl:List (Addr×Obj)} {σ:St} {H:Hp} {s:Shared} {l b:Addr} {xs ys zs:List V}
theorem Inv.lset{its its':List Value}{n:Nat}{f:Array Value->Array Value}{t':Nat}(I:Inv X zl σ H s)(hH:H l=some (.lst xs))
  (e:s.heap.get? l=some { cls:=.type "list",data:=.seq its.toArray n }) (hf:f its.toArray=its'.toArray) (hv:Vals ys its') (hz:ys.length<=sizeLine) :
  Inv X zl σ (upd H l (.lst ys)) { s with heap:=s.heap.update l (Obj.mapSeq f),toks:=t' }:=by
 have q:=PySem.IsL.update e f;rw [hf] at q;refine I.write (x:=l) (e:=l) (by rw [hH]; exact trivial) (.inl rfl) (fun b' u hb hu=>(Heap.get?_update_other s.heap (Obj.mapSeq f) (Ne.symm hb)).trans hu) ⟨_,q⟩ ?_;exact⟨hz,its',_,hv,q⟩
theorem Inv.lnew{its:List Value}{t':Nat}(I:Inv X zl σ H s)(hv:Vals ys its)(hz:ys.length<=sizeLine):
  Inv X zl σ (upd H s.heap.objs.size (.lst ys)) { s with heap:=s.heap.push { cls:=.type "list",data:=.seq its.toArray },toks:=t' } :=
 I.laid (fun _ _ q=>Heap.get?_push_of_some _ q) (Nat.le_refl _) ⟨hz,its,0,hv,Heap.get?_push_size _ rfl⟩
theorem Inv.fresh(I:Inv X zl σ H s):H s.heap.objs.size=none:=I.hok.fresh (Nat.le_refl _)
theorem Inv.lstM(I:Inv X zl σ H s)(hH:H l=some (.lst xs)):xs.length<=sizeLine/\∃ (its:List Value) (n:Nat),Vals xs its/\xs.length=its.length/\s.heap.get? l=some { cls:=.type "list",data:=.seq its.toArray n }:=by
 obtain⟨z,its,n,r,e⟩:=I.hok l _ hH;exact⟨z,its,n,r,r.length,e⟩
theorem zpx{n:Nat}(h:n<=sizeLine):Builtin.List.listTooLong n=false:=by
 unfold Builtin.List.listTooLong;exact decide_eq_false (by omega)
end
section
variable {X:Cx}
def znf:V->List V->Hp->VK->Prop:=fun x vs H Q=>∃ l xs y,x=.ref l/\vs=[y]/\H l=some (.lst xs)/\xs.length<sizeLine/\Q .non (upd H l (.lst (xs++[y])))
theorem zdV:MtM X "list.append" znf:=by
 intro zl s σ H x vs v us Q I rx rv h;obtain⟨l,xs,y,rfl,rfl,hH,hz,q⟩:=h;cases rx;obtain⟨u,rfl,ru⟩:=rv.one;obtain⟨z,its,n,r,hl,e⟩:=I.lstM hH;refine call_meets F.slot_list_append ⟨_,e,rfl⟩ F.entry_list_append (F.args_list_append_2 _ _) (PySem.list_append l its.toArray n u (by rw [List.size_toArray]; omega)) ⟨e,?_⟩;refine⟨.non,_,I.lset (its':=its++[u]) hH e (by simp) (r.append (.cons ru .nil)) ?_,rfl,q⟩;rw [List.length_append,List.length_singleton];omega
def zlr:V->List V->Hp->VK->Prop:=fun x vs H Q=>∃ l xs,x=.ref l/\vs=[]/\H l=some (.lst xs)/\Q .non (upd H l (.lst xs.reverse))
theorem zhO:MtM X "list.reverse" zlr:=by
 intro zl s σ H x vs v us Q I rx rv h;obtain⟨l,xs,rfl,rfl,hH,q⟩:=h;cases rx;have hus:=rv.zero;subst hus;obtain⟨z,its,n,r,hl,e⟩:=I.lstM hH;refine call_meets F.slot_list_reverse ⟨_,e,rfl⟩ F.entry_list_reverse (F.args_list_reverse_1 _) (AutoSeq1.list_reverse_list_0 l its.toArray n (by rw [List.size_toArray]; omega)) ⟨e,?_⟩;refine⟨.non,_,I.lset (its':=its.reverse) hH e (by simp) r.reverse ?_,rfl,q⟩;rw [List.length_reverse];omega
def zr8:R2:=fun x y H Q=>∃ l b xs zs,x=.ref l/\y=.ref b/\H l=some (.lst xs)/\H b=some (.lst zs)/\xs.length+zs.length<=sizeLine/\∀ p,H p=none->Q (.ref p) (upd H p (.lst (xs++zs)))
theorem zog:OpR X (binaryOp .Add) zr8:=by
 intro zl s σ H x y v u Q I rx ry h;obtain⟨l,b,xs,zs,rfl,rfl,hH,hB,hz,q⟩:=h;cases rx;cases ry;obtain⟨z,its,n,r,hl,e⟩:=I.lstM hH;obtain⟨z2,its2,n2,r2,hl2,e2⟩:=I.lstM hB;refine PySem.P.add_list e e2 ?_ (by rw [List.size_toArray,List.size_toArray]; omega);have ea:its.toArray++its2.toArray=(its++its2).toArray:=by simp
 rw [ea];exact⟨.ref _,_,I.lnew (t':=s.toks) (r.append r2) (by rw [List.length_append]; omega),rfl,q _ I.fresh⟩
def zu0:R2:=fun x y H Q=>∃ l k xs,x=.ref l/\y=.int k/\H l=some (.lst xs)/\-(2 ^ 63)<=k/\k<2 ^ 63/\xs.length*k.toNat<=sizeLine /\
 ∀ p,H p=none->Q (.ref p) (upd H p (.lst (List.replicate k.toNat xs).flatten))
theorem zrZ{α:Type}(xs:List α)(k:Nat):(List.replicate k xs).flatten.length=k*xs.length:=by
 induction k with
 | zero=>simp
 | succ k ih=>rw [List.replicate_succ,List.flatten_cons,List.length_append,ih,Nat.succ_mul,Nat.add_comm]
theorem zsv:OpR X (binaryOp .Mult) zu0:=by
 intro zl s σ H x y v u Q I rx ry h;obtain⟨l,k,xs,rfl,rfl,hH,h1,h2,hz,q⟩:=h;cases rx;obtain⟨t,rfl⟩:=ry;obtain⟨z,its,n,r,hl,e⟩:=I.lstM hH;have hlen:its.toArray.size*k.toNat<=sizeLine:=by rw [List.size_toArray,<- hl]; exact hz
 have hcap:¬ its.toArray.size*k.toNat>(2 ^ 63 - 1) / 8:=by
  have:(sizeLine:Nat)<=(2 ^ 63 - 1) / 8:=by decide
  omega
 have hfit:¬ (!Builtin.List.listFitsIndex k)=true:=by
  rw [fitsIndex_both h1 h2];exact Bool.false_ne_true
 have hlong:¬ Builtin.List.listTooLong (its.toArray.size*k.toNat)=true:=by
  rw [zpx hlen];exact Bool.false_ne_true
 have hnew:List.foldl (fun x1 x2=>x1++x2) #[] (List.replicate (if its.toArray.isEmpty=true then 0 else k.toNat) its.toArray)=(List.replicate k.toNat its).flatten.toArray:=by
  have f0:∀ m:Nat,List.foldl (fun x1 x2=>x1++x2) #[] (List.replicate m its.toArray)=(List.replicate m its).flatten.toArray:=fun m=>by
   have:=zjs its m [];rw [List.nil_append] at this;exact this
  rw [f0];cases its with
  | nil=>simp
  | cons a r'=>rw [if_neg (by simp)]
 refine wpAny_binaryOp_repeat_ref (T:="list") (U:="int") (by decide) ⟨_,e,rfl⟩ (fun s'=>typeIs_int s' k t) noFill_list_mul F.fills_int_mul F.slot_int_rmul repeat_list F.slot_int_index.lookup
  (call_meets F.slot_int_rmul (typeIs_int s k t) F.entry_int_rmul (F.args_int_rmul_2 _ _) (int___rmul___int_list k t l its.toArray n)
   ⟨e,rfl,⟨_,e,rfl⟩,call_meets F.slot_list_mul ⟨_,e,rfl⟩ F.entry_list_mul (F.args_list_mul_2 _ _) (AutoListH.list___mul___list_int_3 l its.toArray n k t hfit hcap hlong) ⟨e,?_⟩⟩)
 rw [hnew];exact⟨.ref _,_,I.lnew (t':=s.toks) (r.rep k.toNat) (by rw [zrZ,Nat.mul_comm]; exact hz),rfl,q _ I.fresh⟩
end
end
section
section
variable {κ:Type} [DecidableEq κ]
def zmm(kvs:List (κ×V))(k:κ):Option V:=(kvs.find? fun kv=>decide (kv.1=k)).map (·.2)
def zfu(kvs:List (κ×V))(k:κ)(v:V):List (κ×V) :=
 if (kvs.any fun kv=>decide (kv.1=k))=true then kvs.map (fun kv=>if kv.1=k then (kv.1,v) else kv) else kvs++[(k,v)]
theorem zf8{p:κ×V}{r:List (κ×V)}{k:κ}(e:p.1=k):zmm (p :: r) k=some p.2:=by simp [zmm,List.find?_cons,e]
theorem zf4{p:κ×V}{r:List (κ×V)}{k:κ}(e:¬ p.1=k):zmm (p :: r) k=zmm r k:=by simp [zmm,List.find?_cons,e]
theorem zkJ(k:κ):∀ kvs:List (κ×V),(kvs.any fun kv=>decide (kv.1=k))=(zmm kvs k).isSome
 | []=>rfl
 | p :: r=>by
  rw [List.any_cons];by_cases e:p.1=k
  ·simp only [zf8 e,decide_eq_true e,Bool.true_or,Option.isSome_some]
  ·rw [zf4 e,decide_eq_false e,Bool.false_or]; exact zkJ k r
theorem zeS(kvs:List (κ×V))(k:κ)(v:V):(zfu kvs k v).length<=kvs.length+1:=by
 unfold zfu;split
 ·rw [List.length_map]; omega
 ·rw [List.length_append,List.length_cons,List.length_nil]; omega
theorem RelO.isSome_eq{o:Option V}{u:Option Value}(r:RelO o u):o.isSome=u.isSome:=by
 cases o with
 | none=>cases u with
  | none=>rfl
  | some _=>exact(show False from r).elim
 | some _=>cases u with
  | none=>exact(show False from r).elim
  | some _=>rfl
theorem RelO.getD{o:Option V}{u:Option Value}{d:V}{d':Value}(r:RelO o u)(rd:RelV d d'):RelV (o.getD d) (u.getD d'):=by
 cases o with
 | none=>cases u with
  | none=>exact rd
  | some _=>exact(show False from r).elim
 | some _=>cases u with
  | none=>exact(show False from r).elim
  | some _=>exact r
theorem KV.val{kvs:List (κ×V)}{vs:List (κ×Value)}(r:KV kvs vs)(k:κ):RelO (zmm kvs k) (valueAt vs k):=by
 unfold KV at r;induction r with
 | nil=>exact True.intro
 | @cons p q ps qs h t ih =>
  obtain⟨h1,h2⟩:=h;by_cases e:p.1=k
  ·have e':q.1=k:=h1.symm.trans e;have b:valueAt (q :: qs) k=some q.2:=by simp [valueAt,List.find?_cons,e']
   rw [zf8 e,b]; exact h2
  ·have e':¬ q.1=k:=fun z=>e (h1.trans z);have b:valueAt (q :: qs) k=valueAt qs k:=by simp [valueAt,List.find?_cons,e']
   rw [zf4 e,b]; exact ih
theorem KV.any{kvs:List (κ×V)}{vs:List (κ×Value)}(r:KV kvs vs)(k:κ):(kvs.any fun kv=>decide (kv.1=k))=vs.any fun kv=>decide (kv.1=k):=by
 unfold KV at r;induction r with
 | nil=>rfl
 | cons h t ih=>rw [List.any_cons,List.any_cons,ih,h.1]
theorem KV.repl{kvs:List (κ×V)}{vs:List (κ×Value)}(r:KV kvs vs)(k:κ){y:V}{u:Value}(ry:RelV y u):
  KV (kvs.map fun kv=>if kv.1=k then (kv.1,y) else kv) (vs.map fun kv=>if kv.1=k then (kv.1,u) else kv):=by
 unfold KV at r ⊢;induction r with
 | nil=>exact .nil
 | @cons p q ps qs h t ih =>
  rw [List.map_cons,List.map_cons];refine .cons ?_ ih;obtain⟨h1,h2⟩:=h;by_cases e:p.1=k
  ·rw [if_pos e,if_pos (h1.symm.trans e)]; exact⟨h1,ry⟩
  ·rw [if_neg e,if_neg (fun z=>e (h1.trans z))]; exact⟨h1,h2⟩
theorem KV.put{kvs:List (κ×V)}{vs:List (κ×Value)}(r:KV kvs vs)(k:κ){y:V}{u:Value}(ry:RelV y u):KV (zfu kvs k y) (stored vs k u):=by
 unfold zfu stored;rw [r.any k];by_cases e:(vs.any fun kv=>decide (kv.1=k))=true
 ·rw [if_pos e,if_pos e]; exact r.repl k ry
 ·rw [if_neg e,if_neg e]; exact Paired.snoc r ⟨rfl,ry⟩
theorem KV.length{kvs:List (κ×V)}{vs:List (κ×Value)}(r:KV kvs vs):kvs.length=vs.length:=Paired.length r
end
theorem zn5{P:Program}{w:World}{k:Key}{u:Value}(r:RelV (kV k) u):(zah P w).is k u=true:=by
 cases k with
 | inl i=>obtain⟨t,e⟩:=(show ∃ t,u=Value.int i t from r); subst e; exact zj3 P w i t
 | inr x=>obtain⟨t,e⟩:=(show ∃ t,u=Value.str x t from r); subst e; exact zkc P w x t
theorem ziV{P:Program}{w:World}:∀ {ks:List Key} {us:List Value},Vals (ks.map kV) us->ItemsAre (zah P w) ks us
 | [],_,r=>by rw [List.map_nil] at r; cases r; exact .nil
 | k :: ks,_,r=>by
  rw [List.map_cons] at r;cases r with
  | cons h t=>exact .cons (zn5 h) (ziV t)
abbrev KT (H:Hp):List (List Key×V)->List (List Key×Addr×Value)->Prop:=Paired fun p q=>p.1=q.1/\H q.2.1=some (.tup (p.1.map kV))/\RelV p.2 q.2.2
theorem KT.val{H:Hp}{kvs:List (List Key×V)}{xs:List (List Key×Addr×Value)}(r:KT H kvs xs)(k:List Key):RelO (zmm kvs k) ((atKey xs k).map (·.2)):=by
 induction r with
 | nil=>exact True.intro
 | @cons p q ps qs h t ih =>
  obtain⟨h1,_,h2⟩:=h;by_cases e:p.1=k
  ·have e':q.1=k:=h1.symm.trans e;have b:atKey (q :: qs) k=some q.2:=by simp [atKey,List.find?_cons,e']
   rw [zf8 e,b]; exact h2
  ·have e':¬ q.1=k:=fun z=>e (h1.trans z);have b:atKey (q :: qs) k=atKey qs k:=by simp [atKey,List.find?_cons,e']
   rw [zf4 e,b]; exact ih
theorem KT.repl{H:Hp}{kvs:List (List Key×V)}{xs:List (List Key×Addr×Value)}(r:KT H kvs xs)(k:List Key){y:V}{u:Value}(ry:RelV y u):
  KT H (kvs.map fun kv=>if kv.1=k then (kv.1,y) else kv) (xs.map (putAt k u)):=by
 induction r with
 | nil=>exact .nil
 | @cons p q ps qs h t ih =>
  rw [List.map_cons,List.map_cons];refine .cons ?_ ih;obtain⟨h1,h2,h3⟩:=h;unfold putAt;by_cases e:p.1=k
  ·rw [if_pos e,if_pos (h1.symm.trans e)]; exact⟨h1,h2,ry⟩
  ·rw [if_neg e,if_neg (fun z=>e (h1.trans z))]; exact⟨h1,h2,h3⟩
theorem KT.put{H:Hp}{kvs:List (List Key×V)}{xs:List (List Key×Addr×Value)}(r:KT H kvs xs)(k:List Key){b:Addr}{y:V}{u:Value}(hb:H b=some (.tup (k.map kV)))(ry:RelV y u):
  KT H (zfu kvs k y) (storedH xs k b u):=by
 have e:(kvs.any fun kv=>decide (kv.1=k))=(atKey xs k).isSome:=by
  rw [zkJ,(r.val k).isSome_eq,Option.isSome_map]
 unfold zfu storedH;rw [e];by_cases q:(atKey xs k).isSome=true
 ·rw [if_pos q,if_pos q]; exact r.repl k ry
 ·rw [if_neg q,if_neg q]; exact Paired.snoc r ⟨rfl,hb,ry⟩
theorem KT.keeps{H H':Hp}{kvs:List (List Key×V)}{xs:List (List Key×Addr×Value)}(r:KT H kvs xs)(ht:∀ b ys,H b=some (.tup ys)->H' b=some (.tup ys)):KT H' kvs xs :=
 Paired.mapP r fun _ _ z=>⟨z.1,ht _ _ z.2.1,z.2.2⟩
section
variable {P:Program} {w:World} {H:Hp} {h:Heap} {a:Addr}
theorem zs5{u:HO}(ok:HOk P w H h)(e:Rd H a u):ObjOk P w H h a u:=e.ok ok
theorem zrY{kvs:List (Key×V)}(ok:HOk P w H h)(e:Rd H a (.dK kvs)):kvs.length<=sizeLine/\(a == sysModules)=false/\∃ vs,KV kvs vs/\h.DictOf (zah P w) a vs :=
 show ObjOk P w H h a (.dK kvs) from zs5 ok e
theorem ztB{kvs:List (Key×V)}(ok:HOk P w H h)(e:H a=some (.dK kvs)):kvs.length<=sizeLine/\(a == sysModules)=false/\∃ vs,KV kvs vs/\h.DictOf (zah P w) a vs:=zrY ok (.inl e)
theorem zmA{ks:List Key}(ok:HOk P w H h)(e:H a=some (.tup (ks.map kV))):(tupleKind (zah P w)).is h ks a:=by
 obtain⟨_,its,r,o,h1,h2,n,h3⟩:=(show ObjOk P w H h a (.tup (ks.map kV)) from ok a _ e);exact⟨o,its.toArray,n,h1,h2,h3,by simpa using ziV r⟩
theorem zr7{kvs:List (List Key×V)}(ok:HOk P w H h)(e:Rd H a (.dT kvs)):kvs.length<=sizeLine/\(a == sysModules)=false /\
  ∃ xs,KT H kvs xs/\h.DictOfH (tupleKind (zah P w)) a xs:=by
 obtain⟨z,y,xs,r,o,es,ep,h1,h2,h3,h4,h5⟩:=(show ObjOk P w H h a (.dT kvs) from zs5 ok e);refine⟨z,y,xs,r,o,es,ep,h1,h2,h3,h4,fun x hx=>?_,h5⟩;have all:∀ {l:List (List Key×V)} {m:List (List Key×Addr×Value)},KT H l m->∀ x∈m,(tupleKind (zah P w)).is h x.1 x.2.1:=by
  intro l m q;induction q with
  | nil=>intro x hx; exact nomatch hx
  | @cons p q ps qs hq t ih =>
   intro x hx;rcases List.mem_cons.mp hx with e | hx
   ·subst e;exact zmA ok (by rw [<- hq.1]; exact hq.2.1)
   ·exact ih x hx
 exact all r x hx
theorem zt2{kvs:List (List Key×V)}(ok:HOk P w H h)(e:H a=some (.dT kvs)):kvs.length<=sizeLine/\(a == sysModules)=false /\
  ∃ xs,KT H kvs xs/\h.DictOfH (tupleKind (zah P w)) a xs:=zr7 ok (.inl e)
end
def DGet(H:Hp)(a:Addr)(y:V)(r:Option V):Prop :=
 (∃ kvs k,Rd H a (.dK kvs)/\y=kV k/\r=zmm kvs k)\/∃ kvs k b,Rd H a (.dT kvs)/\y=.ref b/\H b=some (.tup (k.map kV))/\r=zmm kvs k
def DPut(H:Hp)(a:Addr)(y v:V)(H':Hp):Prop :=
 (∃ kvs k,H a=some (.dK kvs)/\y=kV k/\kvs.length<sizeLine/\H'=upd H a (.dK (zfu kvs k v))) \/
 ∃ kvs k b,H a=some (.dT kvs)/\y=.ref b/\H b=some (.tup (k.map kV))/\kvs.length<sizeLine/\H'=upd H a (.dT (zfu kvs k v))
theorem DPut.k{H:Hp}{a:Addr}{kvs:List (Key×V)}{k:Key}{v:V}(e:H a=some (.dK kvs))(hl:kvs.length<sizeLine):DPut H a (kV k) v (upd H a (.dK (zfu kvs k v))):=.inl ⟨kvs,k,e,rfl,hl,rfl⟩
theorem DPut.t{H:Hp}{a b:Addr}{kvs:List (List Key×V)}{k:List Key}{v:V}(e:H a=some (.dT kvs))(eb:H b=some (.tup (k.map kV)))(hl:kvs.length<sizeLine):
  DPut H a (.ref b) v (upd H a (.dT (zfu kvs k v))):=.inr ⟨kvs,k,b,e,rfl,eb,hl,rfl⟩
section
variable {X:Cx} {zl:List (Addr×Obj)} {σ:St} {H:Hp} {s:Shared} {a:Addr} {y v:V} {u r:Value} {o:Option V} {A:Around} {E:Value->Shared->Prop}
theorem Inv.big(I:Inv X zl σ H s):sysModules<s.heap.objs.size:=by
 have h:mainGlobals<s.heap.objs.size:=(I.mod.glob.keeps I.bk).lt;exact Nat.lt_trans (by decide) h
theorem zkk{h':Heap}{t':Nat}{ob:HO}(I:Inv X zl σ H s)(mu:Mut (H a))(hs:Heap.SameBut a s.heap h')(he:∃ q,h'.get? a=some q)(new:ObjOk X.prog X.w (upd H a ob) h' a ob):
  Inv X zl σ (upd H a ob) { s with heap:=h',toks:=t' } :=
 I.write (x:=a) (e:=a) mu (.inl rfl) (fun b q hb z=>(hs.2 b hb).trans z) he new
theorem zqP{P:Program}{w:World}{H':Hp}{h':Heap}{kvs:List (Key×V)}{vs:List (Key×Value)}(z:kvs.length<=sizeLine)(hd:(a == sysModules)=false)(rel:KV kvs vs)(dd:h'.DictOf (zah P w) a vs):
  ObjOk P w H' h' a (.dK kvs):=⟨z,hd,vs,rel,dd⟩
theorem zmq{H':Hp}{Q:Unit->Shared->Prop}(hu:A.units+1<cLine)(I:Inv X zl σ H s)(g:DPut H a y v H')(ry:RelV y u)(rv:RelV v r)(h:∀ s',Inv X zl σ H' s'->Q () s'):
  wpAny (model X.prog X.w) A (setItem (.ref a) u r) Q E s:=by
 rcases g with ⟨kvs,k,e,ey,l,eH⟩ | ⟨kvs,k,b,e,ey,eb,l,eH⟩
 ·subst ey eH;obtain⟨z,hd,vs,rel,dd⟩:=ztB I.hok e;have hz:vs.length<=sizeLine:=by rw [<- rel.length]; exact z
  have hl:(zfu kvs k v).length<=sizeLine:=by have:=zeS kvs k v; omega
  refine wpAny_setItem_pairs (hsz:=hz) (zn5 ry) dd fun h' dd' hs=>h _ ?_;have he:∃ q,h'.get? a=some q:=let ⟨q,_,_,hq,_⟩:=dd'; ⟨q,hq⟩;exact zkk I (by rw [e]; exact True.intro) hs he (zqP hl hd (rel.put k rv) dd')
 ·subst ey eH;cases (show u=Value.ref b from ry);obtain⟨z,hd,xs,rel,dd⟩:=zt2 I.hok e;have hz:xs.length<=sizeLine:=by rw [<- Paired.length rel]; exact z
  have hl:(zfu kvs k v).length<=sizeLine:=by have:=zeS kvs k v; omega
  refine wpAny_setItem_heap (hsz:=hz) (tupleKind_room_in1 hu) (zmA I.hok eb) dd fun h' dd' hs=>h _ ?_;obtain⟨q,es,ep,hq,h2,h3,h4,_,h5⟩:=dd';refine zkk I (by rw [e]; exact True.intro) hs ⟨q,hq⟩ ⟨hl,hd,_,(rel.put k eb rv).keeps fun c ys ec=>?_,q,es,ep,hq,h2,h3,h4,h5⟩;rw [zZ (zub ec e (fun z=>nomatch z))];exact ec
end
def ztH(td ty tv:TE):TS:=fun D σ H=>tv σ H fun v H1=>td σ H1 fun x H2=>ty σ H2 fun y H3=>∃ a H4,x=.ref a/\DPut H3 a y v H4/\D.nx σ H4
section
variable {X:Cx} {o i e value:Expr} {pos pos' tpos:Pos} {td ty tv:TE}
theorem zrU(hu:X.A.units+1<cLine)(ho:PE X o td)(hi:PE X i ty)(hv:PE X value tv)(hs:swapsWith value (some (.Subscript o i pos')) pos.line X.env=pure false):
  PS X (.Assign [.Subscript o i pos'] value pos) (ztH td ty tv):=by
 intro zl s σ H D I h;refine wpAny_Assign_Subscript (thn (hv zl s σ H _ I h) fun r s1 ⟨v,H1,I1,rv,q1⟩=>thn (ho zl s1 σ H1 _ I1 q1) fun u s2 ⟨x,H2,I2,rx,q2⟩=>thn (hi zl s2 σ H2 _ I2 q2) fun iv s3 ⟨y,H3,I3,ry,a,H4,ex,g,q3⟩=>?_) hs;subst ex;obtain rfl:u=Value.ref a:=rx;exact zmq hu I3 g ry rv fun s4 I4=>⟨σ,H4,I4,q3⟩
end
theorem zlc{P:Program}{w:World}{H:Hp}(h:Heap)(hb:sysModules<h.objs.size):ObjOk P w H (h.push { cls:=.type "dict",data:=.dict #[] }) h.objs.size (.dK []) :=
 ⟨Nat.zero_le _,beq_eq_false_iff_ne.mpr (Ne.symm (Nat.ne_of_lt hb)),[],.nil,Heap.DictOf.new h⟩
def zpY:TE:=fun _ H Q=>∀ p,H p=none->Q (.ref p) (upd H p (.dK []))
section
variable {X:Cx} {pos:Pos}
theorem zoV:PE X (.Dict [] [] pos) zpY:=fun zl s σ H Q I h =>
 wpAny_Dict_empty ⟨.ref s.heap.objs.size,_,I.laid (a:=s.heap.objs.size) (o:=.dK []) (t':=s.toks) (fun _ _ q=>Heap.get?_push_of_some _ q) (Nat.le_refl _) (zlc s.heap I.big),rfl,h _ (I.hok.fresh (Nat.le_refl _))⟩
end
def zox:List (TE×TE)->St->Hp->(List (V×V)->Hp->Prop)->Prop
 | [],_,H,Q=>Q [] H
 | (tk,tv) :: r,σ,H,Q=>tk σ H fun x H1=>tv σ H1 fun y H2=>zox r σ H2 fun ps H3=>Q ((x,y) :: ps) H3
abbrev VV:List (V×V)->List (Value×Value)->Prop:=Paired fun p q=>RelV p.1 q.1/\RelV p.2 q.2
def PPs(X:Cx)(pos:Pos)(keys:List (Option Expr))(values:List Expr)(trs:List (TE×TE)):Prop :=
 ∀ (zl:List (Addr×Obj)) (s:Shared) (σ:St) (H:Hp) (Q:List (V×V)->Hp->Prop),Inv X zl σ H s->zox trs σ H Q ->
  wpAny (model X.prog X.w) X.A (evalPairs (pairTrees keys values X.env pos)) (fun vs s'=>∃ ps H',Inv X zl σ H' s'/\VV ps vs/\Q ps H') X.xe s
theorem zq8{X:Cx}{pos:Pos}:PPs X pos [] [] []:=fun zl s σ H Q I h=>pairTrees_nil_walk ⟨[],H,I,.nil,h⟩
theorem zoP{X:Cx}{pos:Pos}{k v:Expr}{ks:List (Option Expr)}{vs:List Expr}{tk tv:TE}{trs:List (TE×TE)}(hk:PE X k tk)(hv:PE X v tv)(hr:PPs X pos ks vs trs):
  PPs X pos (some k :: ks) (v :: vs) ((tk,tv) :: trs):=fun zl s σ H Q I h =>
 pairTrees_cons_walk (thn (hk zl s σ H _ I h) fun u s1 ⟨x,H1,I1,rx,q1⟩=>thn (hv zl s1 σ H1 _ I1 q1) fun w2 s2 ⟨y,H2,I2,ry,q2⟩ =>
  thn (hr zl s2 σ H2 _ I2 q2) fun ws s3 ⟨ps,H3,I3,rel,q3⟩=>⟨(x,y) :: ps,H3,I3,.cons ⟨rx,ry⟩ rel,q3⟩)
def zgF(kvs more:List (Key×V)):List (Key×V):=more.foldl (fun acc kv=>zfu acc kv.1 kv.2) kvs
theorem KV.merge:∀ {more:List (Key×V)} {rs:List (Key×Value)} {kvs:List (Key×V)} {vs:List (Key×Value)},KV more rs->KV kvs vs->KV (zgF kvs more) (merged vs rs):=by
 intro more rs kvs vs r;unfold KV at r;induction r generalizing kvs vs with
 | nil=>intro q; exact q
 | @cons p q ps qs h t ih =>
  intro r0;have e:KV (zfu kvs p.1 p.2) (stored vs q.1 q.2):=by
   have:=r0.put p.1 h.2;rw [<- h.1]; exact this
  exact ih e
theorem zfm:∀ (more kvs:List (Key×V)),(zgF kvs more).length<=kvs.length+more.length
 | [],kvs=>by show kvs.length<=kvs.length+0; omega
 | p :: r,kvs=>by
  have h1:=zfm r (zfu kvs p.1 p.2);have h2:=zeS kvs p.1 p.2;show (zgF (zfu kvs p.1 p.2) r).length<=_;rw [List.length_cons]; omega
theorem zhK{P:Program}{w:World}:∀ {kvs:List (Key×V)} {ws:List (Value×Value)},VV (kvs.map fun kv=>(kV kv.1,kv.2)) ws->∃ rs,Carries (zah P w) ws rs/\KV kvs rs
 | [],_,r=>by rw [List.map_nil] at r; cases r; exact⟨[],True.intro,.nil⟩
 | p :: kvs,_,r=>by
  rw [List.map_cons] at r;cases r with
  | @cons a b as bs h t =>
   obtain⟨rs,c,q⟩:=zhK (P:=P) (w:=w) t;obtain⟨b1,b2⟩:=b;exact⟨(p.1,b2) :: rs,⟨zn5 h.1,rfl,c⟩,.cons ⟨rfl,h.2⟩ q⟩
def ztk(trs:List (TE×TE)):TE:=fun σ H Q=>∀ p,H p=none->zox trs σ (upd H p (.dK [])) fun ps H2=>H2 p=some (.dK [])/\∃ kvs:List (Key×V),ps=kvs.map (fun kv=>(kV kv.1,kv.2))/\kvs.length<=15/\Q (.ref p) (upd H2 p (.dK (zgF [] kvs)))
theorem zrk{X:Cx}{pos:Pos}{keys:List (Option Expr)}{values:List Expr}{trs:List (TE×TE)}(h:PPs X pos keys values trs)(hall:keys.all (·.isSome)=true)(hl:keys.length=values.length)(h0:keys≠[])
  (h15:keys.length<=15):PE X (.Dict keys values pos) (ztk trs):=by
 intro zl s σ H Q I q;have hn:=I.hok.fresh (Nat.le_refl s.heap.objs.size);have I1:=I.laid (a:=s.heap.objs.size) (o:=.dK []) (h':=s.heap.push { cls:=.type "dict",data:=.dict #[] }) (t':=s.toks) (fun _ _ q=>Heap.get?_push_of_some _ q) (Nat.le_refl _) (zlc s.heap I.big);refine wpAny_Dict_walk (knd:=zah X.prog X.w) hall hl h0 h15 (thn (h zl _ σ _ _ I1 (q _ hn)) fun ws s2 ⟨ps,H2,I2,rel,e,kvs,ep,lk,q2⟩=>?_);subst ep;obtain⟨rs,c,rk⟩:=zhK (P:=X.prog) (w:=X.w) rel;obtain⟨z,hd,vs0,r0,dd⟩:=ztB I2.hok e;cases r0;refine⟨rs,c,dd,fun h' dd' hs=>⟨.ref s.heap.objs.size,_,?_,rfl,q2⟩⟩;have hz:(zgF [] kvs).length<=sizeLine:=by
  have h1:=zfm kvs [];rw [List.length_nil] at h1;rw [sizeLine_eq]; omega
 have he:∃ q,h'.get? s.heap.objs.size=some q:=let ⟨q,_,_,hq,_⟩:=dd'; ⟨q,hq⟩;exact zkk I2 (by rw [e]; exact True.intro) hs he (zqP hz hd (rk.merge .nil) dd')
structure M1(X:Cx)(o:Expr)(m:Str)(apos:Pos)(e:Expr)(cpos:Pos):Prop where
 base:attributeBase o m X.env (eval o X.env)=eval o X.env
 few:((backTo cpos (starEach [e] X.env)).all (fun x=>!x.1) && (backToKw cpos (keywordEach [] X.env)).all (fun x=>x.1.isSome)
  && decide (([e]:List Expr).length+([]:List Keyword).length+(if ([]:List Keyword).isEmpty then 0 else 1)<30))=true
 line:(apos.endLine == cpos.line)=true
 trees:backTo cpos (starEach [e] X.env)=[(false,eval e X.env)]
structure M2(X:Cx)(o:Expr)(m:Str)(apos:Pos)(e f:Expr)(cpos:Pos):Prop where
 base:attributeBase o m X.env (eval o X.env)=eval o X.env
 few:((backTo cpos (starEach [e,f] X.env)).all (fun x=>!x.1) && (backToKw cpos (keywordEach [] X.env)).all (fun x=>x.1.isSome)
  && decide (([e,f]:List Expr).length+([]:List Keyword).length+(if ([]:List Keyword).isEmpty then 0 else 1)<30))=true
 line:(apos.endLine == cpos.line)=true
 trees:backTo cpos (starEach [e,f] X.env)=[(false,eval e X.env),(false,eval f X.env)]
def IsD(H:Hp)(a:Addr):Prop:=(∃ kvs,Rd H a (.dK kvs))\/∃ kvs,Rd H a (.dT kvs)
theorem zsX{X:Cx}{zl:List (Addr×Obj)}{σ:St}{H:Hp}{s:Shared}{a:Addr}(I:Inv X zl σ H s)(d:IsD H a):
  s.TypeIs (.ref a) "dict"/\(∀ b,Value.ref a=.ref b->∃ ob,s.heap.get? b=some ob/\ob.dict=none)/\(a == sysModules)=false:=by
 rcases d with ⟨kvs,e⟩ | ⟨kvs,e⟩
 ·obtain⟨_,hd,vs,_,dd⟩:=zrY I.hok e;refine⟨dd.typeIs,fun b q=>?_,hd⟩;cases q;obtain⟨ob,_,_,h1,h2,_⟩:=dd;exact⟨ob,h1,h2.2.1⟩
 ·obtain⟨_,hd,xs,_,dd⟩:=zr7 I.hok e;refine⟨dd.typeIs,fun b q=>?_,hd⟩;cases q;obtain⟨ob,_,_,h1,h2,_⟩:=dd;exact⟨ob,h1,h2.2.1⟩
section
variable {X:Cx} {zl:List (Addr×Obj)} {σ:St} {H:Hp} {s:Shared} {a:Addr} {y d:V} {u r:Value} {o:Option V} {A:Around} {E:Value->Shared->Prop}
theorem ztc{Q:Value->Shared->Prop}(hu:A.units+1<cLine)(I:Inv X zl σ H s)(g:DGet H a y o)(ry:RelV y u)(rd:RelV d r)(h:∀ w' s',Inv X zl σ H s'->RelV (o.getD d) w'->Q w' s'):
  wpAny (model X.prog X.w) A (call (.builtin "dict.get") [.ref a,u,r]) Q E s:=by
 rcases g with ⟨kvs,k,e,ey,l⟩ | ⟨kvs,k,b,e,ey,eb,l⟩
 ·subst ey;obtain⟨z,hd,vs,rel,dd⟩:=zrY I.hok e;refine call_meetsIn PySem.F.slot_dict_get dd.typeIs PySem.F.entry_dict_get (PySem.F.args_dict_get_3 _ _ _) (meets_dict_get_default (zah X.prog X.w) a (zn5 ry) hd r) ⟨_,dd.mapOf,h _ _ (I.tok _) ?_⟩;rw [l];exact(rel.val k).getD rd
 ·subst ey;cases (show u=Value.ref b from ry);obtain⟨z,hd,xs,rel,dd⟩:=zr7 I.hok e;refine call_meetsIn PySem.F.slot_dict_get dd.typeIs PySem.F.entry_dict_get (PySem.F.args_dict_get_3 _ _ _) (meetsH_dict_get_default (tupleKind (zah X.prog X.w)) a b hd r) ⟨tupleKind_room_in1 hu,k,xs,zmA I.hok eb,dd,h _ _ (I.tok _) ?_⟩;rw [l];exact(rel.val k).getD rd
end
def zp9(td ty tx:TE):TE:=fun σ H Q=>td σ H fun x H1=>∃ a,x=.ref a/\IsD H1 a/\ty σ H1 fun y H2=>tx σ H2 fun z H3=>∃ o,DGet H3 a y o/\Q (o.getD z) H3
section
variable {X:Cx} {o e f:Expr} {apos cpos:Pos} {td ty tx:TE}
theorem zf6(hu:X.A.units+1<cLine)(ho:PE X o td)(he:PE X e ty)(hf:PE X f tx)(m:M2 X o "get" apos e f cpos):PE X (.Call (.Attribute o "get" apos) [e,f] [] cpos) (zp9 td ty tx):=by
 intro zl s σ H Q I h;refine wpAny_Call_method m.base m.few m.line PySem.F.plainAttrs_dict PySem.F.slot_dict_get PySem.F.type_dict_get (thn (ho zl s σ H _ I h) fun u s1 ⟨x,H1,I1,rx,a,ex,d,q1⟩=>?_);subst ex;obtain rfl:u=Value.ref a:=rx;obtain⟨t1,t2,_⟩:=zsX I1 d;refine⟨t1,t2,?_⟩;rw [m.trees];refine Calls.callWith_builtin rfl (Calls.evalArgs_plain (Calls.spliced_cons (thn (he zl s1 σ H1 _ I1 q1) fun iv s2 ⟨y,H2,I2,ry,q2⟩ =>
  Calls.spliced_cons (thn (hf zl s2 σ H2 _ I2 q2) fun fv s3 ⟨z,H3,I3,rz,ov,g,q3⟩=>Calls.spliced_nil ?_))))
 exact ztc hu I3 g ry rz fun w' s4 I4 rw'=>⟨_,H3,I4,rw',q3⟩
end
end
end L2
namespace Att
open PySem PySem.W PySem.Calls PyProof.Rows
theorem zg1{P:Params}{h:Heap}:∀ (ns:List Int) (vs:List Value),WellAll P h vs (ns.map WData.int)->IntsAre vs ns:=by
 intro ns;induction ns with
 | nil =>
  intro vs w;rw [List.map_nil] at w;cases w;exact .nil
 | cons n ns ih =>
  intro vs w;rw [List.map_cons] at w;cases w with
  | cons a b =>
   cases a;exact .cons _ _ (ih _ b)
theorem zmp{l:OpenLaw}{n:Nat}(hn:l.most=some n){P:Params}{h:Heap}{args:List WData}{vals:List Value}
  (hpre:l.row.toRowW.claim.pre args=true) (hwl:WellAll P h vals args) :
  ∃ a vs ns,vals=[Value.ref a]/\args=[WData.list (ns.map WData.int)]/\h.get? a=some { cls:=.type "list",data:=.seq vs.toArray }/\IntsAre vs ns/\ns.length<=n:=by
 have hsh:WShape.hasAll [] args [.list .int]=true:=(pre_splitW hpre).1;have hc:l.pre.holds [] { args:=args } = true:=(pre_splitW hpre).2;obtain⟨d,r,rfl,h1,h2⟩:=hasAllW_cons hsh;obtain rfl:=hasAllW_nil h2;obtain⟨xs,rfl,h3⟩:=hasW_list h1;obtain⟨ns,rfl⟩:=items_int h3;have hlen:ns.length<=n:=by
  unfold OpenLaw.pre at hc;have h4:(WTm.not (.lt (.lit (.int (n:Int))) (.len (.arg 0)))).holds [] { args:=[.list (ns.map .int)] } = true:=by
   have h4:=(holds_andW hc).1;rw [hn] at h4;exact h4
  have h5:=condW_of h4 (w_not (w_lt w_lit (w_len_list (w_arg rfl))));rw [List.length_map] at h5;refine Nat.le_of_not_lt fun q=>?_;have q':(n:Int)<((ns.length:Nat):Int):=by omega
  first
   | (rw [decide_eq_true q'] at h5; exact absurd h5 (by decide))
   | (simp at h5; omega)
 cases hwl with
 | cons w1 w2 =>
  cases w2;cases w1 with
  | list ho hall=>exact⟨_,_,ns,rfl,rfl,ho,zg1 ns _ hall,hlen⟩
theorem zmW(l:OpenLaw)(args:List WData):l.row.toRowW.claim.post args (.bool true) args=true :=
 postW_of (r:=l.row.toRowW) (X:=(true == true))
  (show WShape.has [] (.bool true) .bool=true by first | rfl | decide | simp [WShape.has,WShape.arms,WShape.armsAll])
  (show (WTm.eq .res (.lit (.bool true))).value [] { args:=args,res:=some (.bool true),after:=args } = some (.bool (true == true)) from w_eq_bool (w_res rfl) w_lit) rfl
theorem attach_call{l:OpenLaw}{n:Nat}{q:Program}{loose:List Str}{XP:(Str->Option Value)->Heap->Prop}{YP:World->Heap->Prop}{d:DefRec}
  (hn:l.most=some n) (hdf:d.params.defaults=[])
  (call:∀ (w:World) (s₀ s₁:Shared) (mg mb:Str->Option Value) (fa:Addr) (o:Obj) (pm cd doc:Value) (a:Addr) (vs:List Value) (ns:List Int),
   Ground q loose [] XP w s₀ mg mb s₁.heap->YP w s₁.heap ->
   s₁.heap.get? fa=some o->o.data=.func (docDef d.name d.params d.body d.scope pm cd doc)->s₁.heap.CodeRec cd d.name->mg d.name=some (.ref fa) ->
   s₁.heap.get? a=some { cls:=.type "list",data:=.seq vs.toArray }->IntsAre vs ns->ns.length<=n->s₁.gens = #[] ->
   codeAny (model l.prog w) callerA (.call (.ref fa) ⟨[.ref a],[]⟩) (fun r s'=>r=.ok (.ret (.bool true))/\OldK s₁.heap s'.heap/\s'.os=s₁.os/\AllBare s'.gens) s₁) :
  WalkO q loose XP YP l.row.toRowW d [] (fun f vs=>PySem.call f vs):=by
 intro w s₀ s₁ mg mb G Y fa o pm cd doc dV kV ho hd hcd hD hmg hg args vals as hpre hlay hrd hwl hlo;obtain rfl:dV=.none:=Dflts.none hD hdf;obtain rfl:kV=.none:=Dflts.noKw hD;obtain⟨a,vs,ns,rfl,rfl,hobj,hints,hlen⟩:=zmp hn hpre hwl;refine enter_call (codeAny_mono (call w s₀ s₁ mg mb fa o pm cd doc a vs ns G Y ho (fd_plain hd) hcd hmg hobj hints hlen hg) fun r s' hq=>?_);obtain⟨rfl,h2,h3,h4⟩:=hq;exact⟨.inl ⟨.bool true,.bool true,[],rfl,fun _=>rfl,.bool true,zmW l _,fun _=>⟨List.Pairwise.nil,fun _ hm=>(nomatch hm)⟩⟩,h2,h3,h4⟩
end Att
namespace L2
open PySem PySem.Spec PyProof.Rows
section
theorem zgM:∀ {vs:List Value} {ns:List Int},IntsAre vs ns->Vals (ns.map V.int) vs
 | _,_,.nil=>.nil
 | _,_,.cons n t h=>.cons ⟨t,rfl⟩ (zgM h)
def Only(H:Hp):Prop:=∀ b,H b=none\/∃ o xs,H b=some (.frz o (.lst xs))
theorem zpz{P:Program}{w:World}{K:W.Frag}{mg mb:Str->Option Value}{CX:CXT}{k:Nat}{fa a:Addr}{fd:FuncData}{x:Str}{sp:Sp}{s₁:Shared}{vs:List Value}{ns:List Int}
  (KX:K.In s₁.heap) (hns:s₁.heap.Ns mainGlobals mg) (hb:s₁.heap.Ns builtinsNs mb) (hbb:∀ x:Str,x ≠ "__name__"->mb x=bootBuiltins x) (hlim:s₁.heap.NoLimit) (hg:s₁.gens = #[])
  (ha:s₁.heap.get? a=some { cls:=.type "list",data:=.seq vs.toArray }) (hi:IntsAre vs ns) (hl:ns.length<=sizeLine) (hr:Room k callerA)
  (F:∀ base:Heap,K.In base->base.Ns mainGlobals mg->FnOk P w K mg base CX k fa fd [x] sp) (hbind:∀ (s:Shared) (u:Value),BindsTo s fd ⟨[u],[]⟩ [(x,u)])
  (hsp:∀ H:Hp,Only H->SqL K H a (ns.map V.int)->sp [.ref a] H (fun v _=>v=.bl true) fun _ _ _=>False)
  (hCX:∀ H e s',CX [] H s₁ (fun _ _ _=>False) e s'->False) :
  codeAny (model P w) callerA (.call (.ref fa) ⟨[.ref a],[]⟩) (fun r s'=>r=.ok (.ret (.bool true))/\OldK s₁.heap s'.heap/\s'.os=s₁.os/\AllBare s'.gens) s₁:=by
 have rv:=zgM hi;have lenV:=hi.length
 -- from an abstract heap in which nothing but the script may be tracked
 have core:∀ H:Hp,Only H->SqL K H a (ns.map V.int)->HOk P w H s₁.heap->(∀ b,H b≠none->b=a)->(H a≠none->K.lookup a=none) ->
   codeAny (model P w) callerA (.call (.ref fa) ⟨[.ref a],[]⟩) (fun r s'=>r=.ok (.ret (.bool true))/\OldK s₁.heap s'.heap/\s'.os=s₁.os/\AllBare s'.gens) s₁:=by
  intro H hO hS hok hA hK;have base_of:∀ {b:Addr} {o:Obj},s₁.heap.get? b=some o->H b=none->(zpg s₁.heap H).get? b=some o:=fun e n=>zoJ e n;have noA:∀ {b:Addr} {o:Obj} {es:Array DictEntry} {ep:Nat},s₁.heap.get? b=some o->o.data=.dict es ep->H b=none:=fun {b o es ep} e d=>by
   cases q:H b with
   | none=>rfl
   | some u =>
    have e':b=a:=hA b (by rw [q]; simp);subst e';rw [ha] at e; cases e;have d':Data.seq vs.toArray _=Data.dict es ep:=d;cases d'
  have nsK:∀ {b:Addr} {m:Str->Option Value},s₁.heap.Ns b m->(zpg s₁.heap H).Ns b m:=fun {b m} ⟨o,es,ep,e,d,r⟩=>⟨o,es,ep,base_of e (noA e d),d,r⟩;have hKb:K.In (zpg s₁.heap H):=fun b o e=>base_of (KX b o e) (by
   cases q:H b with
   | none=>rfl
   | some u =>
    have e':b=a:=hA b (by rw [q]; simp);subst e';rw [hK (by rw [q]; simp)] at e; cases e)
  have hM:Mod K mg (zpg s₁.heap H):=⟨hKb,nsK hns,⟨mb,nsK hb,hbb⟩,let ⟨mc,h1,h2⟩:=hlim; ⟨mc,nsK h1,h2⟩⟩;have e0:Env0 P w K mg (zpg s₁.heap H) callerA [] s₁ H:=⟨rfl,hM,fun b o e=>zrO e,Nat.le_of_eq (zne _ _),trivial,fun b hb=>absurd (show b∈([]:List Addr) from hb) (by simp),hok,.of_eq hg⟩;refine codeAny_mono ((F _ hKb (nsK hns)).run callerA [] s₁ H ⟨[.ref a],[]⟩ [.ref a] [.ref a] _ _ hr e0 (hbind s₁ (.ref a)) (.cons rfl .nil) (hsp H hO hS)) fun r s' h=>?_;cases r with
  | error e=>exact(hCX H e s' h).elim
  | ok fl =>
   cases fl with
   | next=>exact False.elim h
   | brk=>exact False.elim h
   | cont=>exact False.elim h
   | ret u =>
    obtain⟨v,H',os,bare,un,hok',r',q⟩:=h;have q':v=.bl true:=q;subst q';obtain rfl:u=Value.bool true:=r';refine⟨rfl,OldK.of_keep fun b o e=>?_,os,bare⟩;cases q:H b with
    | none=>exact un.keep b o e q (by intro z; exact absurd (show b∈([]:List Addr) from z) (by simp)) (by simp)
    | some u =>
     rcases hO b with z | ⟨ob,xs,z⟩
     ·rw [q] at z; cases z
     ·have z2:=un.frzs b ob _ z;obtain⟨e1,_⟩:=hok b _ z;obtain⟨e2,_⟩:=hok' b _ z2;rw [e] at e1; cases e1;exact e2
 cases hk:K.lookup a with
 | some o =>
  -- the script is one of the module's own objects
  have e:=KX a o hk;rw [ha] at e;cases e;refine core (fun _=>none) (fun _=>.inl rfl) (.inr ⟨_,vs.toArray,_,hk,rfl,rfl,rfl,by rw [List.size_toArray,lenV]; exact hl,by simpa using rv⟩) (fun b u z=>by have z':(none:Option HO)=some u:=z; cases z') (fun b z=>absurd rfl z) fun z=>absurd rfl z
 | none =>
  refine core (fun b=>if b=a then some (.frz { cls:=.type "list",data:=.seq vs.toArray } (.lst (ns.map V.int))) else none) (fun b=>?_) (.inl (.inr ⟨{ cls:=.type "list",data:=.seq vs.toArray },if_pos rfl⟩)) (fun b u z=>?_) (fun b z=>?_) fun _=>hk
  ·by_cases hb:b=a
   ·exact .inr ⟨_,_,if_pos hb⟩
   ·exact .inl (if_neg hb)
  ·by_cases hb:b=a
   ·have z':=(if_pos hb).symm.trans z;cases z';subst hb;exact⟨ha,by rw [List.length_map]; exact hl,vs,_,rv,ha⟩
   ·have z':=(if_neg hb).symm.trans z;cases z'
  ·by_cases hb:b=a
   ·exact hb
   ·exact absurd (if_neg hb) z
end
section
abbrev KOf {K:W.Frag} {h:Heap} (_:K.In h):W.Frag:=K
theorem walk_of{l:PySem.W.OpenLaw}{n k:Nat}{q:Program}{loose:List Str}{XP:(Str->Option Value)->Heap->Prop}{YP:World->Heap->Prop}{d:DefRec}{K:Params->W.Frag}{CX:World->CXT}{sp:World->Sp}{x:Str}
  (hn:l.most=some n) (hn2:n<=sizeLine) (hdf:d.params.defaults=[]) (hr:Room k callerA)
  (hY:∀ (w:World) (h:Heap),YP w h->(K w.params).In h)
  (F:∀ (w:World) (mg:Str->Option Value) (fa:Addr) (h:Heap),(K w.params).In h->h.Ns mainGlobals mg->mg d.name=some (.ref fa) ->
   ∃ fd:FuncData,(∀ (s:Shared) (u:Value),BindsTo s fd ⟨[u],[]⟩ [(x,u)]) /\
    ∀ base:Heap,(K w.params).In base->base.Ns mainGlobals mg->FnOk l.prog w (K w.params) mg base (CX w) k fa fd [x] (sp w))
  (hsp:∀ (w:World) (H:Hp) (a:Addr) (ns:List Int),ns.length<=n->Only H->SqL (K w.params) H a (ns.map V.int)->sp w [.ref a] H (fun v _=>v=.bl true) fun _ _ _=>False)
  (hCX:∀ (w:World) (H:Hp) (s:Shared) (e:Value) (s':Shared),CX w [] H s (fun _ _ _=>False) e s'->False) :
  PySem.W.WalkO q loose XP YP l.row.toRowW d [] (fun f vs=>PySem.call f vs):=by
 refine Att.attach_call hn hdf fun w s₀ s₁ mg mb fa o pm cd doc a vs ns G Y ho hd hcd hmg hobj hints hlen hg=>?_;have KX:=hY w _ Y;obtain⟨fd,hb,hF⟩:=F w mg fa _ KX G.T.g hmg;exact zpz KX G.T.g G.T.b G.T.builtins G.T.nolimit hg hobj hints (Nat.le_trans hlen hn2) hr hF hb (fun H hO hS=>hsp w H a ns hlen hO hS) fun H e s'=>hCX w H s₁ e s'
end
section
def zeH(s:Stmt):Arguments:=match s with
 | .FunctionDef _ a _ _ _ _ _ _ _ _=>a
 | _=>{ posonlyargs:=[],args:=[],vararg:=none,kwonlyargs:=[],kw_defaults:=[],kwarg:=none,defaults:=[] }
def zcb(s:Stmt):List Stmt:=match s with
 | .FunctionDef _ _ b _ _ _ _ _ _ _=>b
 | _=>[]
def zp(s:Stmt):Scope:=match s with
 | .FunctionDef _ _ _ _ _ _ sc _ _ _=>sc
 | _=>{ kind:=.function,names:=[],isGenerator:=false,isCoroutine:=false }
abbrev CX0:CXT:=fun _ _ _ _ _ _=>False
abbrev E0:XK:=fun _ _ _=>False
theorem pass0{X:Cx}:Passes CX0 X E0:=fun _ _ _ _ _ _ _ h=>h.elim
structure Fun(K:W.Frag)(x qual:Str)(st:Stmt)(f:Addr)(fd:FuncData):Prop where
 ex:∃ (oc:Value) (od:Option Addr) (kV doc pm:Value) (an:Option Addr) (cdv ct:Value) (osl:Array (Option Value)),
  fd=PySem.W.fnOf x qual (zeH st) (zcb st) (zp st) .none kV doc pm an cdv ct/\K.lookup f=some ⟨oc,od,.func fd,osl⟩/\PySem.W.codeIn K cdv qual=true
 kp:PySem.W.keepIn K (.ref f)=true
section
variable {P:Program} {w:World} {K:W.Frag} {mg:Str->Option Value} {base:Heap}
theorem Fun.ok{x qual:Str}{st:Stmt}{f:Addr}{fd:FuncData}{N ps:List Str}{k:Nat}{sp:Sp}(F:Fun K x qual st f fd)(S:FnScope N ps (zp st))(len:∀ vs H Q E,sp vs H Q E->vs.length=ps.length)
  (hbody:∀ (cdv:Value) (A:Around) (outer:List Env) (s:Shared) (H:Hp) (vs:List V) (Q:VK) (E:XK),Room k (A.deeper (envOfC qual (zp st) s.heap.objs.size f cdv))->sp vs H Q E ->
   ∃ t,PSs (zoD CX0 P w K mg base N qual (zp st) f cdv A outer s H E).nox (zcb st) t/\t { nx:=fun _ H'=>Q .non H',rt:=Q } (start N vs) H):FnOk P w K mg base CX0 (k+1) f fd ps sp:=by
 obtain⟨oc,od,kV,doc,pm,an,cdv,ct,osl,rfl,lk,hcd⟩:=F.ex;refine zua lk hcd S len fun A outer s H vs Q E hr hsp=>?_;obtain⟨t,h,q⟩:=hbody cdv A outer s H vs Q E hr hsp;exact⟨t,h.nox,q⟩
theorem Fun.binds{x qual:Str}{st:Stmt}{f:Addr}{fd:FuncData}{ps:List Str}(F:Fun K x qual st f fd)
  (h:∀ (kV doc pm:Value) (an:Option Addr) (cdv ct:Value) (us:List Value),us.length=ps.length->bindArgs (PySem.W.fnOf x qual (zeH st) (zcb st) (zp st) .none kV doc pm an cdv ct) ⟨us,[]⟩=pure (ps.zip us)):Binds K fd ps []:=by
 obtain⟨oc,od,kV,doc,pm,an,cdv,ct,osl,rfl,lk,hcd⟩:=F.ex;exact .all (h kV doc pm an cdv ct)
theorem zqh{x qual:Str}{st:Stmt}{f:Addr}{oc:Value}{od an:Option Addr}{osl:Array (Option Value)}{kV doc pm cdv ct:Value}(l:K.lookup f=some ⟨oc,od,.func (PySem.W.fnOf x qual (zeH st) (zcb st) (zp st) .none kV doc pm an cdv ct),osl⟩)
  (c:PySem.W.codeIn K cdv qual=true) (k:PySem.W.keepIn K (.ref f)=true):Fun K x qual st f (PySem.W.fnOf x qual (zeH st) (zcb st) (zp st) .none kV doc pm an cdv ct):=⟨⟨oc,od,kV,doc,pm,an,cdv,ct,osl,rfl,l,c⟩,k⟩
end
theorem zoe{A:Around}{k:Nat}(hr:Room k A):A.units+1<cLine:=Nat.lt_of_le_of_lt (Nat.add_le_add_left (by decide:1<=64) _) hr.units
theorem small1000{n:Nat}(h:n<=1000):n<sizeLine:=Nat.lt_of_le_of_lt h (by decide)
section
variable {X:Cx}
theorem pv(i:Nat){x:Str}{pos:Pos}(hN:X.N[i]? = some x:=by rfl)(hv:Vis X.env.scope x:=by first | exact Or.inl rfl | exact Or.inr (Or.inl rfl) | exact Or.inr (Or.inr rfl))(hd:(x == ("__debug__":Str))=false:=by decide)
  (hcd:(x == ("__classdict__":Str))=false:=by decide):PE X (.Name x pos) (zoF i):=zsD hN hv hd hcd
end
theorem zpI{A B:Prop}(h:B):if false=true then A else B:=by
 rw [if_neg Bool.false_ne_true];exact h
theorem zpj{A B:Prop}(h:A):if true=true then A else B:=by
 rw [if_pos rfl];exact h
theorem ite2{c A B:Prop}[Decidable c](h1:c->A)(h2:¬ c->B):if c then A else B:=by
 by_cases h:c
 ·rw [if_pos h];exact h1 h
 ·rw [if_neg h];exact h2 h
def Same(H H':Hp):Prop:=∀ b o,H b=some o->H' b=some o
theorem Same.refl(H:Hp):Same H H:=fun _ _ h=>h
theorem Same.trans{H H1 H2:Hp}(a:Same H H1)(b:Same H1 H2):Same H H2:=fun c o h=>b c o (a c o h)
theorem Same.seq{K:W.Frag}{H H':Hp}{a:Addr}{xs:List V}(e:Same H H')(h:SqL K H a xs):SqL K H' a xs:=by
 rcases h with (h | ⟨o,h⟩) | h
 ·exact .inl (.inl (e _ _ h))
 ·exact .inl (.inr ⟨o,e _ _ h⟩)
 ·exact .inr h
end
section
section
variable {X:Cx}
def CDivX(i j:Int):Prop:=0<j/\j.natAbs.log2<9000
theorem zpQ:OpR X (binaryOp .FloorDiv) (rI CDivX fun i j=>.int (i / j)):=opI fun i j _ _ _ _ _ hc q=>by
 have h1:(0:Int)<j:=hc.1;exact floordiv_int (by omega) (by rw [Int.fdiv_eq_ediv_of_nonneg i (by omega)]; exact q) (.inl (PyProof.noPylong_of_log2 hc.2))
theorem zr5:OpR X (binaryOp .Mult) (rI IntMulOk fun i j=>.int (i*j)):=opI fun _ _ _ _ _ _ _ hc q=>mul_int q hc
theorem zoa{k:Int}{n:Nat}(h:k.natAbs<2 ^ n):Builtin.Int.intBits k<=n:=by
 unfold Builtin.Int.intBits;split
 ·exact Nat.zero_le _
 ·rename_i h0;have hk:k.natAbs≠0:=by
   intro z;apply h0;rw [Int.natAbs_eq_zero.mp z];rfl
  have:=(Nat.log2_lt hk).mpr h;omega
theorem zmE{i j:Int}(n m:Nat)(hi:i.natAbs<2 ^ n)(hj:j.natAbs<2 ^ m)(hn:n<=2 ^ 20:=by decide)(hm:m<=2 ^ 20:=by decide):IntMulOk i j :=
 .of_bits (Nat.le_trans (zoa hi) hn) (Nat.le_trans (zoa hj) hm)
theorem zcQ{i j:Int}(h1:-(2 ^ 64)<i)(h2:i<2 ^ 64):IntMulOk i j:=.of_left (intBits_le_64 h1 h2)
theorem zqF{i j:Int}(h1:-(2 ^ 64)<j)(h2:j<2 ^ 64):IntMulOk i j:=.of_right (intBits_le_64 h1 h2)
theorem zc0{n:Int}{k:Nat}(h0:0<n)(h:n<2 ^ k):n.natAbs.log2<k:=by
 refine(Nat.log2_lt (by omega)).mpr ?_;have e:((2 ^ k:Nat):Int)=(2:Int) ^ k:=by simp
 omega
end
def kD:Key->PyData
 | .inl i=>.int i
 | .inr x=>.str x
def DOf(H:Hp)(a:Addr)(ks:List PyData)(vs:List V):Prop:=∃ (ob:Obj) (m:List (Key×V)),H a=some (.frz ob (.dK m))/\ks=m.map (fun p=>kD p.1)/\vs=m.map (·.2)
mutual
def Has(H:Hp):PyData->V->Prop
 | .none,v=>v=.non
 | .bool b,v=>v=.bl b
 | .int i,v=>v=.int i
 | .str x,v=>v=.str x
 | .list ds,v=>∃ a vs,v=.ref a/\H a=some (.lst vs)/\HasL H ds vs
 | .tuple ds,v=>∃ a vs,v=.ref a/\H a=some (.tup vs)/\HasL H ds vs
 | .dict kvs,v=>∃ a vs,v=.ref a/\DOf H a (kvs.map (·.1)) vs/\HasV H kvs vs
def HasL(H:Hp):List PyData->List V->Prop
 | [],vs=>vs=[]
 | d :: ds,vs=>∃ v r,vs=v :: r/\Has H d v/\HasL H ds r
def HasV(H:Hp):List (PyData×PyData)->List V->Prop
 | [],vs=>vs=[]
 | p :: ps,vs=>∃ v r,vs=v :: r/\HasP H p v/\HasV H ps r
def HasP(H:Hp):PyData×PyData->V->Prop
 | (_,d),v=>Has H d v
end
mutual
theorem Has.mono{H H':Hp}(s:Same H H'):∀ (d:PyData) (v:V),Has H d v->Has H' d v
 | .none,_,h=>by simp only [Has] at h ⊢; exact h
 | .bool _,_,h=>by simp only [Has] at h ⊢; exact h
 | .int _,_,h=>by simp only [Has] at h ⊢; exact h
 | .str _,_,h=>by simp only [Has] at h ⊢; exact h
 | .list ds,v,h=>by
  simp only [Has] at h ⊢;obtain⟨a,vs,e,q,l⟩:=h;exact⟨a,vs,e,s _ _ q,HasL.mono s ds vs l⟩
 | .tuple ds,v,h=>by
  simp only [Has] at h ⊢;obtain⟨a,vs,e,q,l⟩:=h;exact⟨a,vs,e,s _ _ q,HasL.mono s ds vs l⟩
 | .dict kvs,v,h=>by
  simp only [Has] at h ⊢;obtain⟨a,vs,e,q,l⟩:=h;obtain⟨ob,m,e1,e2⟩:=q;exact⟨a,vs,e,⟨ob,m,s _ _ e1,e2⟩,HasV.mono s kvs vs l⟩
theorem HasL.mono{H H':Hp}(s:Same H H'):∀ (ds:List PyData) (vs:List V),HasL H ds vs->HasL H' ds vs
 | [],_,h=>by simp only [HasL] at h ⊢; exact h
 | d :: ds,vs,h=>by
  simp only [HasL] at h ⊢;obtain⟨v,r,e,q,l⟩:=h;exact⟨v,r,e,Has.mono s d v q,HasL.mono s ds r l⟩
theorem HasV.mono{H H':Hp}(s:Same H H'):∀ (ds:List (PyData×PyData)) (vs:List V),HasV H ds vs->HasV H' ds vs
 | [],_,h=>by simp only [HasV] at h ⊢; exact h
 | d :: ds,vs,h=>by
  simp only [HasV] at h ⊢;obtain⟨v,r,e,q,l⟩:=h;exact⟨v,r,e,HasP.mono s d v q,HasV.mono s ds r l⟩
theorem HasP.mono{H H':Hp}(s:Same H H'):∀ (p:PyData×PyData) (v:V),HasP H p v->HasP H' p v
 | (_,d),v,h=>by
  simp only [HasP] at h ⊢;exact Has.mono s d v h
end
section
variable {H:Hp} {v:V}
theorem ze7:Has H .none v↔v=.non:=by simp only [Has]
theorem zfe{b:Bool}:Has H (.bool b) v↔v=.bl b:=by simp only [Has]
theorem zbr{i:Int}:Has H (.int i) v↔v=.int i:=by simp only [Has]
theorem zdD{x:Str}:Has H (.str x) v↔v=.str x:=by simp only [Has]
theorem zbx{ds:List PyData}:Has H (.list ds) v↔∃ a vs,v=.ref a/\H a=some (.lst vs)/\HasL H ds vs:=by simp only [Has]
theorem zaG{ds:List PyData}:Has H (.tuple ds) v↔∃ a vs,v=.ref a/\H a=some (.tup vs)/\HasL H ds vs:=by simp only [Has]
theorem zig{kvs:List (PyData×PyData)}:Has H (.dict kvs) v↔∃ a vs,v=.ref a/\DOf H a (kvs.map (·.1)) vs/\HasV H kvs vs:=by simp only [Has]
theorem zpf{vs:List V}:HasV H [] vs↔vs=[]:=by simp only [HasV]
theorem ziW{p:PyData×PyData}{ds:List (PyData×PyData)}{vs:List V}:HasV H (p :: ds) vs↔∃ v r,vs=v :: r/\Has H p.2 v/\HasV H ds r:=by
 obtain⟨k,d⟩:=p;simp only [HasV,HasP]
theorem zS{vs:List V}:HasL H [] vs↔vs=[]:=by simp only [HasL]
theorem zH{d:PyData}{ds:List PyData}{vs:List V}:HasL H (d :: ds) vs↔∃ v r,vs=v :: r/\Has H d v/\HasL H ds r:=by simp only [HasL]
theorem HasL.length:∀ {ds:List PyData} {vs:List V},HasL H ds vs->vs.length=ds.length
 | [],_,h=>by rw [zS.mp h]; rfl
 | d :: ds,vs,h=>by
  obtain⟨v,r,e,_,l⟩:=zH.mp h;rw [e,List.length_cons,List.length_cons,HasL.length l]
theorem HasL.get:∀ {ds:List PyData} {vs:List V} {i:Nat} {d:PyData},HasL H ds vs->ds[i]? = some d->∃ v,vs[i]? = some v/\Has H d v
 | [],_,_,_,_,e=>by simp at e
 | c :: ds,vs,0,d,h,e=>by
  obtain⟨v,r,rfl,q,_⟩:=zH.mp h;simp at e;subst e;exact⟨v,rfl,q⟩
 | c :: ds,vs,i+1,d,h,e=>by
  obtain⟨v,r,rfl,_,l⟩:=zH.mp h;obtain⟨u,e1,e2⟩:=HasL.get (i:=i) (d:=d) l (by simpa using e);exact⟨u,by simpa using e1,e2⟩
theorem HasL.append:∀ {ds es:List PyData} {vs us:List V},HasL H ds vs->HasL H es us->HasL H (ds++es) (vs++us)
 | [],es,vs,us,h,h'=>by rw [zS.mp h]; exact h'
 | d :: ds,es,vs,us,h,h'=>by
  obtain⟨v,r,rfl,q,l⟩:=zH.mp h;exact zH.mpr ⟨v,r++us,rfl,q,HasL.append l h'⟩
theorem zjq:∀ (ns:List Int),HasL H (ns.map .int) (ns.map V.int)
 | []=>zS.mpr rfl
 | n :: ns=>zH.mpr ⟨_,_,rfl,zbr.mpr rfl,zjq ns⟩
end
def tyD:PyData->String
 | .none=>"NoneType" | .bool _=>"bool" | .int _=>"int" | .str _=>"str" | .list _=>"list" | .tuple _=>"tuple" | .dict _=>"dict"
theorem Has.ty{K:W.Frag}{H:Hp}{d:PyData}{v:V}(h:Has H d v):TyOf K H v (.type (tyD d)):=by
 cases d with
 | none=>rw [ze7.mp h]; exact .non
 | bool b=>rw [zfe.mp h]; exact .bl b
 | int i=>rw [zbr.mp h]; exact .int i
 | str x=>rw [zdD.mp h]; exact .str x
 | list ds=>obtain⟨a,vs,rfl,e,_⟩:=zbx.mp h; exact .lst e
 | tuple ds=>obtain⟨a,vs,rfl,e,_⟩:=zaG.mp h; exact .tup e
 | dict kvs =>
  obtain⟨a,vs,rfl,e,_⟩:=zig.mp h;obtain⟨ob,m,e,_⟩:=e;exact .dK (.inr ⟨ob,e⟩)
def ztU:List String:=["NoneType","bool","int","str","list","tuple","dict"]
def zq2:List String:=["int","bool","str","list","tuple","dict"]
def zqT(t c:String):Bool:=t == c || (t == "bool" && c == "int")
def zsd(d:PyData)(c:String):Bool:=zqT (tyD d) c
theorem zrB(d:PyData):tyD d∈ztU:=by cases d <;> simp [tyD,ztU]
theorem zrH(K:W.Frag){t c:String}(ht:t∈ztU)(hc:c∈zq2):PySem.W.kitOne K (.type t) (.type c)=some (zqT t c):=by
 simp only [ztU,zq2,List.mem_cons,List.not_mem_nil,or_false] at ht hc;rcases ht with rfl | rfl | rfl | rfl | rfl | rfl | rfl <;> rcases hc with rfl | rfl | rfl | rfl | rfl | rfl <;> rfl
def zuv:List V->Hp->VK->Prop
 | [x,.ty c],H,Q=>∃ d,Has H d x/\c∈zq2/\Q (.bl (zsd d c)) H
 | _,_,_=>False
theorem zrL{H:Hp}{d:PyData}{x:V}{c:String}{Q:VK}(h:Has H d x)(hc:c∈zq2)(q:Q (.bl (zsd d c)) H):zuv [x,.ty c] H Q:=⟨d,h,hc,q⟩
section
variable {X:Cx}
theorem ziv:CallR X (.builtin "isinstance") zuv:=by
 intro zl s σ H xs us Q I r h
 match xs,h with
 | [x,.ty c],h =>
  obtain⟨d,hx,hc,q⟩:=h;obtain⟨u,w',rfl,ru,rw'⟩:=vals2 r;cases (show w'=Value.type c from rw');exact zn6 I ru hx.ty (zrH X.K (zrB d) hc) fun tk=>⟨.bl _,H,I.tok tk,rfl,q⟩
end
def sp1(p:V->Hp->VK->Prop):Sp:=fun vs H Q _=>match vs with | [x]=>p x H Q | _=>False
def sp2(p:V->V->Hp->VK->Prop):Sp:=fun vs H Q _=>match vs with | [x,y]=>p x y H Q | _=>False
theorem znA{p:V->Hp->VK->Prop}:∀ (vs:List V) (H:Hp) (Q:VK) (E:XK),sp1 p vs H Q E->∃ x,vs=[x]/\p x H Q:=by
 intro vs H Q E h
 match vs,h with
 | [x],h=>exact⟨x,rfl,h⟩
theorem znF{p:V->V->Hp->VK->Prop}:∀ (vs:List V) (H:Hp) (Q:VK) (E:XK),sp2 p vs H Q E->∃ x y,vs=[x,y]/\p x y H Q:=by
 intro vs H Q E h
 match vs,h with
 | [x,y],h=>exact⟨x,y,rfl,h⟩
structure Dd(K:W.Frag)(mg:Str->Option Value)(x:Str)(st:Stmt)(ps:List Str):Prop where
 ex:∃ f fd,Fun K x x st f fd/\mg x=some (.ref f)/\Binds K fd ps []
structure Df(P:Program)(w:World)(K:W.Frag)(mg:Str->Option Value)(base:Heap)(x:Str)(ps:List Str)(k:Nat)(sp:Sp):Prop where
 ex:∃ f fd,FnOk P w K mg base CX0 k f fd ps sp/\mg x=some (.ref f)/\PySem.W.keepIn K (.ref f)=true/\Binds K fd ps []
section
variable {P:Program} {w:World} {K:W.Frag} {mg:Str->Option Value} {base:Heap} {x a b c d e:Str} {st:Stmt} {N:List Str} {k:Nat}
theorem Df.of{ps:List Str}{sp:Sp}(D:Dd K mg x st ps)(S:FnScope N ps (zp st))(len:∀ vs H Q E,sp vs H Q E->vs.length=ps.length)
  (hbody:∀ (f:Addr) (cdv:Value) (A:Around) (outer:List Env) (s:Shared) (H:Hp) (vs:List V) (Q:VK) (E:XK),Room k (A.deeper (envOfC x (zp st) s.heap.objs.size f cdv))->sp vs H Q E ->
   ∃ t,PSs (zoD CX0 P w K mg base N x (zp st) f cdv A outer s H E).nox (zcb st) t/\t { nx:=fun _ H'=>Q .non H',rt:=Q } (start N vs) H):Df P w K mg base x ps (k+1) sp:=by
 obtain⟨f,fd,F,hm,hb⟩:=D.ex;exact⟨f,fd,F.ok S len (hbody f),hm,F.kp,hb⟩
theorem Df.of2{p:V->V->Hp->VK->Prop}(D:Dd K mg x st [a,b])(S:FnScope N [a,b] (zp st))(σ0:V->V->St)(hs:∀ v u,start N [v,u]=σ0 v u)
  (hbody:∀ (f:Addr) (cdv:Value) (A:Around) (outer:List Env) (s:Shared) (H:Hp) (v u:V) (Q:VK) (E:XK),Room k (A.deeper (envOfC x (zp st) s.heap.objs.size f cdv))->p v u H Q ->
   ∃ t,PSs (zoD CX0 P w K mg base N x (zp st) f cdv A outer s H E).nox (zcb st) t/\t { nx:=fun _ H'=>Q .non H',rt:=Q } (σ0 v u) H):Df P w K mg base x [a,b] (k+1) (sp2 p):=by
 refine Df.of D S (fun vs H Q E h=>?_) fun f cdv A outer s H vs Q E hr h=>?_
 ·obtain⟨x,y,rfl,_⟩:=znF vs H Q E h;rfl
 ·obtain⟨x,y,rfl,h⟩:=znF vs H Q E h;rw [hs];exact hbody f cdv A outer s H x y Q E hr h
end
def tC2(p:V->V->Hp->VK->Prop)(ta tb:TE):TE:=fun σ H Q=>ta σ H fun x H1=>tb σ H1 fun y H2=>p x y H2 Q
section
variable {X:Cx} {x a b c d e':Str} {k j:Nat} {pos pos':Pos} {e1 e2 e3 e4 e5:Expr} {t1 t2 t3 t4 t5:TE}
theorem zsA{p:V->V->Hp->VK->Prop}(D:Df X.prog X.w X.K X.mg X.base x [a,b] k (sp2 p))(hr:Room j X.A)(hk:k<=j)(h1:PE X e1 t1)(h2:PE X e2 t2)(hg:Gl X x:=by rfl)(hdb:(x == ("__debug__":Str))=false:=by decide)
  (q1:starEach [e1,e2] X.env=(false,eval e1 X.env) :: starEach [e2] X.env:=by rfl) (q2:starEach [e2] X.env=(false,eval e2 X.env) :: starEach [] X.env:=by rfl)
  (hpl:(backTo pos (starEach [e2] X.env)).any (·.1)=false:=by rfl):PE X (.Call (.Name x pos') [e1,e2] [] pos) (tC2 p t1 t2):=by
 obtain⟨f,fd,F,hm,kp,hb⟩:=D.ex;intro zl s σ H Q I h;exact zmC (dvs:=[]) (ds:=[]) (E:=E0) F (hr.mono hk) hg hm kp hb .nil pass0 (zc h1 (zc h2 zi q2) q1) hdb q1 hpl zl s σ H Q I h
end
theorem Dd.mk'{K:W.Frag}{h:Heap}{mg:Str->Option Value}(X:K.In h)(G:h.Ns mainGlobals mg){x:Str}{st:Stmt}{ps:List Str}{f:Addr}{oc:Value}{od an:Option Addr}{osl:Array (Option Value)}{kV doc pm cdv ct:Value}
  (a:PySem.W.nsIn K mainGlobals x=some (some (.ref f))) (l:K.lookup f=some ⟨oc,od,.func (PySem.W.fnOf x x (zeH st) (zcb st) (zp st) .none kV doc pm an cdv ct),osl⟩)
  (c:PySem.W.codeIn K cdv x=true) (k:PySem.W.keepIn K (.ref f)=true)
  (hb:∀ (kV doc pm:Value) (an:Option Addr) (cdv ct:Value) (us:List Value),us.length=ps.length->bindArgs (PySem.W.fnOf x x (zeH st) (zcb st) (zp st) .none kV doc pm an cdv ct) ⟨us,[]⟩=pure (ps.zip us)):Dd K mg x st ps :=
 ⟨f,_,zqh (st:=st) l c k,PySem.W.mg_of X G a,(zqh (st:=st) l c k).binds hb⟩
theorem zd1:bootBuiltins "len" = some (.builtin "len"):=by decide +kernel
theorem zdw:bootBuiltins "isinstance" = some (.builtin "isinstance"):=by decide +kernel
theorem zjd:bootBuiltins "max" = some (.builtin "max"):=by decide +kernel
theorem zjM:bootBuiltins "min" = some (.builtin "min"):=by decide +kernel
theorem zqR:bootBuiltins "abs" = some (.builtin "abs"):=by decide +kernel
theorem zql:bootBuiltins "int" = some (.type "int"):=by decide +kernel
theorem zrI:bootBuiltins "bool" = some (.type "bool"):=by decide +kernel
theorem zrc:bootBuiltins "list" = some (.type "list"):=by decide +kernel
theorem zdB:bootBuiltins "tuple" = some (.type "tuple"):=by decide +kernel
theorem zid:bootBuiltins "dict" = some (.type "dict"):=by decide +kernel
section
variable {H:Hp} {Q:VK}
theorem zpy{i:Nat}{σ:St}:zoF i σ H Q↔match σ[i]? with | some (some v)=>Q v H | _=>False:=by
 unfold zoF;constructor
 ·rintro⟨v,e,q⟩;rw [e];exact q
 ·intro h;split at h
  ·rename_i v e;exact⟨v,e,h⟩
  ·exact h.elim
theorem zoi{g:Int->Int->V}{i j:Int}:rI0 g (.int i) (.int j) H Q↔Q (g i j) H :=
 ⟨fun⟨_,_,e1,e2,q⟩=>by cases e1; cases e2; exact q,fun q=>⟨i,j,rfl,rfl,q⟩⟩
theorem zud{p:Bool->Prop}{b:Bool}:(∃ c,V.bl b=V.bl c/\p c)↔p b:=⟨fun⟨_,e,q⟩=>by cases e; exact q,fun q=>⟨b,rfl,q⟩⟩
end
section
variable {K:W.Frag} {H:Hp} {Q:VK} {x y:V} {d:PyData} {ds:List PyData}
def zuh(K:W.Frag):List V->Hp->VK->Prop:=fun xs H Q=>∃ p ys,xs=[.ref p]/\(SqL K H p ys\/SqT K H p ys)/\Q (.int ys.length) H
end
section
variable {X:Cx}
theorem zmK:CallR X (.builtin "len") (zuh X.K):=zfO
end
def hid(a:Addr)(H:Hp):Hp:=fun b=>if b=a then none else H b
theorem zsy{a b:Addr}{H:Hp}(h:b≠a):hid a H b=H b:=if_neg h
theorem zps{a:Addr}{H:Hp}:hid a H a=none:=if_pos rfl
theorem Same.laid{H:Hp}{p:Addr}{o:HO}(h:H p=none):Same H (upd H p o):=fun b u e=>by
 rw [zZ (zal e h)];exact e
section
variable {X:Cx} {zl:List (Addr×Obj)} {σ:St} {H:Hp} {s:Shared} {a:Addr} {m:List (Key×V)}
theorem Inv.fz(I:Inv X zl σ H s)(e:H a=some (.dK m)):∃ ob,Inv X zl σ (upd H a (.frz ob (.dK m))) s:=by
 have q:=(show ObjOk X.prog X.w H s.heap a (.dK m) from I.hok a _ e);obtain⟨_,_,vs,_,ob,es,ep,h1,_⟩:=id q;exact⟨ob,I.write (x:=a) (e:=a) (o:=.frz ob (.dK m)) (h':=s.heap) (t':=s.toks) (by rw [e]; exact True.intro) (.inl rfl) (fun b v _ z=>z) ⟨ob,h1⟩ ⟨h1,q⟩⟩
def zt0(t:TE):TE:=fun σ H Q=>t σ H fun v H1=>∃ a m,v=.ref a/\H1 a=some (.dK m)/\∀ ob,Q v (upd H1 a (.frz ob (.dK m)))
theorem zmL{e:Expr}{t:TE}(h:PE X e t):PE X e (zt0 t):=fun zl s σ H Q I hw =>
 thn (h zl s σ H _ I hw) fun u s1 ⟨v,H1,I1,r1,a,m,ev,ea,q⟩=>by
  obtain⟨ob,J⟩:=I1.fz ea;exact⟨v,_,J,r1,q ob⟩
def zt7(i:Nat)(t:TS):TS:=fun D σ H=>t { D with nx:=fun σ' H'=>∃ a m,σ'[i]? = some (some (.ref a))/\H' a=some (.dK m)/\∀ ob,D.nx σ' (upd H' a (.frz ob (.dK m))) } σ H
theorem zun{i:Nat}{st:Stmt}{t:TS}(h:PS X st t):PS X st (zt7 i t):=fun zl s σ H D I hw =>
 thn (h zl s σ H _ I hw) fun f s1 q=>by
  cases f with
  | next =>
   obtain⟨σ1,H1,I1,a,m,e1,e2,q⟩:=q;obtain⟨ob,J⟩:=I1.fz e2;exact⟨σ1,_,J,q ob⟩
  | brk=>exact q
  | cont=>exact q
  | ret v=>exact q
end
end
section
theorem zol(d:PyData):zsd d "int" = match d with | .int _=>true | .bool _=>true | _=>false:=by cases d <;> first | rfl | (show zqT _ _=_; simp [zqT,tyD])
theorem zkG(d:PyData):zsd d "bool" = match d with | .bool _=>true | _=>false:=by cases d <;> first | rfl | (show zqT _ _=_; simp [zqT,tyD])
theorem zjS(d:PyData):zsd d "tuple" = match d with | .tuple _=>true | _=>false:=by cases d <;> first | rfl | (show zqT _ _=_; simp [zqT,tyD])
def vw:List Addr->Hp->Hp
 | [],H=>H
 | a :: r,H=>hid a (vw r H)
def zrK(K:W.Frag):V->V->Hp->VK->Prop:=fun x y H Q=>∃ (a:Addr) (ns:List Int) (i:Int),x=.ref a/\y=.int i/\SqL K H a (ns.map V.int)/\0<=i/\∀ n,Q (.int n) H
theorem zq9{ns:List Int}{i:Int}(h0:0<=i)(h1:i<((ns.map V.int).length:Int)):∃ n,atI (ns.map V.int) i=some (.int n):=by
 obtain⟨k,rfl⟩:=Int.eq_ofNat_of_zero_le h0;have hk:k<ns.length:=by rw [List.length_map] at h1; omega
 exact⟨ns[k],zcW (by rw [List.getElem?_map,List.getElem?_eq_getElem hk]; rfl)⟩
theorem zoW{ns:List Int}{lo hi:Option Int}{x:V}(h:x∈zl8 (ns.map V.int) lo hi):∃ n,x=.int n:=by
 have h1:=List.mem_of_mem_drop (List.mem_of_mem_take h);obtain⟨n,_,e⟩:=List.mem_map.mp h1;exact⟨n,e.symm⟩
theorem Fun.bind1{K:W.Frag}{x a:Str}{st:Stmt}{f:Addr}{fd:FuncData}(F:Fun K x x st f fd)
  (h:∀ (kV doc pm:Value) (an:Option Addr) (cdv ct:Value) (u:Value),bindArgs (PySem.W.fnOf x x (zeH st) (zcb st) (zp st) .none kV doc pm an cdv ct) ⟨[u],[]⟩=pure [(a,u)]):∀ (s:Shared) (u:Value),BindsTo s fd ⟨[u],[]⟩ [(a,u)]:=by
 obtain⟨oc,od,kV,doc,pm,an,cdv,ct,osl,rfl,lk,hcd⟩:=F.ex;exact fun s u=>.of_eq (h kV doc pm an cdv ct u)
def zur(K:W.Frag):V->Hp->VK->Prop:=fun x H Q=>∃ (a:Addr) (ns:List Int),x=.ref a/\SqL K H a (ns.map V.int)/\ns.length<=63/\∀ H',Q (.bl true) H'
theorem walk_law{l:PySem.W.OpenLaw}{k:Nat}{q:Program}{loose:List Str}{XP:(Str->Option Value)->Heap->Prop}{YP:World->Heap->Prop}{d:DefRec}{K:Params->W.Frag}(hn:l.most=some 63)(hdf:d.params.defaults=[])
  (hr:Room k callerA) (hY:∀ (w:World) (h:Heap),YP w h->(K w.params).In h)
  (F:∀ (w:World) (mg:Str->Option Value) (fa:Addr) (h:Heap),(K w.params).In h->h.Ns mainGlobals mg->mg d.name=some (.ref fa) ->
   ∃ fd:FuncData,(∀ (s:Shared) (u:Value),BindsTo s fd ⟨[u],[]⟩ [("script",u)])/\∀ base:Heap,(K w.params).In base->base.Ns mainGlobals mg->FnOk l.prog w (K w.params) mg base CX0 k fa fd ["script"] (sp1 (zur (K w.params)))) :
  PySem.W.WalkO q loose XP YP l.row.toRowW d [] (fun f vs=>PySem.call f vs) :=
 L2.walk_of (n:=63) (k:=k) (x:="script") (CX:=fun _=>CX0) (sp:=fun w=>sp1 (zur (K w.params))) hn (by decide) hdf hr hY F (fun _ _ a ns hl _ hS=>⟨a,ns,rfl,hS,hl,fun _=>rfl⟩) fun _ _ _ _ _ z=>z
theorem Fun.ok1{P:Program}{w:World}{K:W.Frag}{mg:Str->Option Value}{base:Heap}{x a:Str}{st:Stmt}{f:Addr}{fd:FuncData}{N:List Str}{k:Nat}{p:V->Hp->VK->Prop}(F:Fun K x x st f fd)(S:FnScope N [a] (zp st))(σ0:V->St)(hs:∀ v,start N [v]=σ0 v)
  (hbody:∀ (cdv:Value) (A:Around) (outer:List Env) (s:Shared) (H:Hp) (v:V) (Q:VK) (E:XK),Room k (A.deeper (envOfC x (zp st) s.heap.objs.size f cdv))->p v H Q ->
   ∃ t,PSs (zoD CX0 P w K mg base N x (zp st) f cdv A outer s H E).nox (zcb st) t/\t { nx:=fun _ H'=>Q .non H',rt:=Q } (σ0 v) H):FnOk P w K mg base CX0 (k+1) f fd [a] (sp1 p):=by
 refine F.ok S (fun vs H Q E h=>?_) fun cdv A outer s H vs Q E hr h=>?_
 ·obtain⟨x,rfl,_⟩:=znA vs H Q E h;rfl
 ·obtain⟨x,rfl,h⟩:=znA vs H Q E h;rw [hs];exact hbody cdv A outer s H x Q E hr h
end
section
mutual
theorem Has.reads{X:Cx}{zl:List (Addr×Obj)}{σ:St}{H:Hp}{s:Shared}(I:Inv X zl σ H s):∀ (d:PyData) (v:V) (u:Value),Has H d v->d.canLay0=true->RelV v u->∃ as,Reads s.heap u d as
 | .none,v,u,h,_,r=>by
  rw [ze7.mp h] at r;cases (show u=Value.none from r);exact⟨_,.none⟩
 | .bool b,v,u,h,_,r=>by
  rw [zfe.mp h] at r;cases (show u=Value.bool b from r);exact⟨_,.bool b⟩
 | .int i,v,u,h,_,r=>by
  rw [zbr.mp h] at r;obtain⟨t,q⟩:=(show ∃ t,u=Value.int i t from r);cases q;exact⟨_,.int i t⟩
 | .str x,v,u,h,_,r=>by
  rw [zdD.mp h] at r;obtain⟨t,q⟩:=(show ∃ t,u=Value.str x t from r);cases q;exact⟨_,.str x t⟩
 | .list ds,v,u,h,c,r=>by
  obtain⟨a,vs,rfl,e,l⟩:=zbx.mp h;cases (show u=Value.ref a from r);obtain⟨_,its,n,rv,e1⟩:=(show ObjOk X.prog X.w H s.heap a (.lst vs) from I.hok a _ e);obtain⟨as,q⟩:=HasL.reads I ds vs its l (by simpa only [PyData.canLay0] using c) rv;exact⟨_,.list e1 rfl rfl (by simpa using q)⟩
 | .tuple ds,v,u,h,c,r=>by
  obtain⟨a,vs,rfl,e,l⟩:=zaG.mp h;cases (show u=Value.ref a from r);obtain⟨_,its,rv,o,e1,e2,n,e3⟩:=(show ObjOk X.prog X.w H s.heap a (.tup vs) from I.hok a _ e);obtain⟨as,q⟩:=HasL.reads I ds vs its l (by simpa only [PyData.canLay0] using c) rv;exact⟨_,.tuple e1 e2 e3 (by simpa using q)⟩
 | .dict _,_,_,_,c,_=>by simp [PyData.canLay0] at c
theorem HasL.reads{X:Cx}{zl:List (Addr×Obj)}{σ:St}{H:Hp}{s:Shared}(I:Inv X zl σ H s):∀ (ds:List PyData) (vs:List V) (us:List Value),HasL H ds vs->PyData.canLayAll0 ds=true->Vals vs us->∃ as,ReadsAll s.heap us ds as
 | [],vs,us,h,_,r=>by
  rw [zS.mp h] at r;cases r;exact⟨_,.nil⟩
 | d :: ds,vs,us,h,c,r=>by
  obtain⟨v,w',rfl,h1,h2⟩:=zH.mp h;have c':d.canLay0=true/\PyData.canLayAll0 ds=true:=by simpa [PyData.canLayAll0] using c
  cases r with
  | cons r1 r2 =>
   obtain⟨as,q1⟩:=Has.reads I d v _ h1 c'.1 r1;obtain⟨bs,q2⟩:=HasL.reads I ds w' _ h2 c'.2 r2;exact⟨_,.cons q1 q2⟩
end
def zuJ:R2:=fun x y H Q=>∃ d e,Has H d x/\Has H e y/\SeqAt.shaped d=true/\SeqAt.shaped e=true/\Q (.bl (PyData.eqv d e)) H
def zu1:R2:=fun x y H Q=>∃ d e,Has H d x/\Has H e y/\SeqAt.shaped d=true/\SeqAt.shaped e=true/\Q (.bl (!PyData.eqv d e)) H
section
variable {X:Cx}
theorem zc7(hu:X.A.units+64<cLine):OpR X (compareOp .Eq) zuJ:=by
 intro zl s σ H x y v u Q I rx ry h;obtain⟨d,e,hd,he,sd,se,q⟩:=h;obtain⟨as,q1⟩:=Has.reads I d x v hd (SeqAt.canLay_of_shaped sd) rx;obtain⟨bs,q2⟩:=Has.reads I e y u he (SeqAt.canLay_of_shaped se) ry;exact eq_dataH q1 q2 sd se hu ⟨.bl _,H,I,rfl,q⟩
theorem zeb(hu:X.A.units+64<cLine):OpR X (compareOp .NotEq) zu1:=by
 intro zl s σ H x y v u Q I rx ry h;obtain⟨d,e,hd,he,sd,se,q⟩:=h;obtain⟨as,q1⟩:=Has.reads I d x v hd (SeqAt.canLay_of_shaped sd) rx;obtain⟨bs,q2⟩:=Has.reads I e y u he (SeqAt.canLay_of_shaped se) ry;exact ne_dataH q1 q2 sd se hu ⟨.bl _,H,I,rfl,q⟩
end
section
variable {prog:Program} {w:World} {A:Around} {E:Value->Shared->Prop} {s:Shared} {l:Addr}
theorem zlV{xs:Array (Int×Tok)}{Q:Value->Shared->Prop}(hh:A.handled=none)(hl:s.heap.IsTuple l (intItems xs))(hne:0<xs.size)
  (h:∀ v h' tk,(intItems xs)[argBest (fun i j=>decide (numAt xs i<numAt xs j)) (xs.size - 1)]? = some v->(∀ b o,s.heap.get? b=some o->h'.get? b=some o)->Q v { s with heap:=h',toks:=tk }) :
  wpAny (model prog w) A (call (.builtin "min") [.ref l]) Q E s:=by
 have hlt:l<s.heap.objs.size:=by obtain⟨o,e,_⟩:=hl; exact Heap.lt_size e
 refine call_min_walk (wpAny_pyIter_tuple hl ?_);refine⟨_,[_,l],[_],_,_,_,_,rfl,Walks.tuple (A:=A.in1) hh _ l (Nat.ne_of_lt hlt) (intItems xs),⟨⟨_,Heap.get?_push_size _ rfl,rfl,rfl⟩,hl.push _⟩,fun c hc=>?_,by simpa [intItems] using hne,CmpOf.ints_lt (numAt xs) (fun _ _=>intItems_at),fun v h' tk hP hk=>?_⟩
 ·show c<(s.heap.push _).objs.size;rw [Heap.size_push];rcases List.mem_cons.mp hc with rfl | hc
  ·exact Nat.lt_succ_self _
  ·rcases List.mem_cons.mp hc with rfl | hc
   ·exact Nat.lt_succ_of_lt hlt
   ·cases hc
 ·refine h v h' tk (by simpa [intItems] using hP) fun b o e=>hk b o (fun hm=>?_) (Heap.get?_push_of_some _ e);rcases List.mem_cons.mp hm with e1 | hm
  ·exact absurd (e1▸Heap.lt_size e) (Nat.lt_irrefl _)
  ·cases hm
theorem zl2{xs:Array (Int×Tok)}{Q:Value->Shared->Prop}(hh:A.handled=none)(hl:s.heap.IsTuple l (intItems xs))(hne:0<xs.size)
  (h:∀ v h' tk,(intItems xs)[argBest (fun i j=>decide (numAt xs i>numAt xs j)) (xs.size - 1)]? = some v->(∀ b o,s.heap.get? b=some o->h'.get? b=some o)->Q v { s with heap:=h',toks:=tk }) :
  wpAny (model prog w) A (call (.builtin "max") [.ref l]) Q E s:=by
 have hlt:l<s.heap.objs.size:=by obtain⟨o,e,_⟩:=hl; exact Heap.lt_size e
 refine call_max_walk (wpAny_pyIter_tuple hl ?_);refine⟨_,[_,l],[_],_,_,_,_,rfl,Walks.tuple (A:=A.in1) hh _ l (Nat.ne_of_lt hlt) (intItems xs),⟨⟨_,Heap.get?_push_size _ rfl,rfl,rfl⟩,hl.push _⟩,fun c hc=>?_,by simpa [intItems] using hne,CmpOf.ints_gt (numAt xs) (fun _ _=>intItems_at),fun v h' tk hP hk=>?_⟩
 ·show c<(s.heap.push _).objs.size;rw [Heap.size_push];rcases List.mem_cons.mp hc with rfl | hc
  ·exact Nat.lt_succ_self _
  ·rcases List.mem_cons.mp hc with rfl | hc
   ·exact Nat.lt_succ_of_lt hlt
   ·cases hc
 ·refine h v h' tk (by simpa [intItems] using hP) fun b o e=>hk b o (fun hm=>?_) (Heap.get?_push_of_some _ e);rcases List.mem_cons.mp hm with e1 | hm
  ·exact absurd (e1▸Heap.lt_size e) (Nat.lt_irrefl _)
  ·cases hm
theorem zgE{vs:List Value}{ns:List Int}(hi:IntsAre vs ns):∃ xs:Array (Int×Tok),vs.toArray=intItems xs/\ns=xs.toList.map (·.1):=by
 obtain⟨xs,e⟩:=hi.allInts.items;exact⟨xs,e,by rw [<- hi.numsOf,<- nums_intItems,<- e]⟩
end
def zuc(K:W.Frag):List V->Hp->VK->Prop:=fun xs H Q=>∃ p ns,xs=[.ref p]/\(SqL K H p (ns.map V.int)\/SqT K H p (ns.map V.int))/\ns≠[]/\∀ m,m∈ns->(∀ a,a∈ns->m<=a)->Q (.int m) H
def zuU(K:W.Frag):List V->Hp->VK->Prop:=fun xs H Q=>∃ p ns,xs=[.ref p]/\(SqL K H p (ns.map V.int)\/SqT K H p (ns.map V.int))/\ns≠[]/\∀ m,m∈ns->(∀ a,a∈ns->a<=m)->Q (.int m) H
section
variable {X:Cx}
theorem zoj(hc:X.calm=true):CallR X (.builtin "min") (zuc X.K):=by
 intro zl s σ H xs us Q I r h;obtain⟨p,ns,rfl,hq,hne,q⟩:=h;obtain⟨u,rfl,rx⟩:=vals1 r;cases (show u=Value.ref p from rx);have done:∀ (ys:Array (Int×Tok)) (v:Value) (h':Heap) (tk:Nat),ns=ys.toList.map (·.1)->0<ys.size->(intItems ys)[argBest (fun i j=>decide (numAt ys i<numAt ys j)) (ys.size - 1)]? = some v ->
   (∀ b o,s.heap.get? b=some o->h'.get? b=some o)->EP X zl σ Q v { s with heap:=h',toks:=tk }:=by
  intro ys v h' tk hns hsz hv hk;obtain⟨t,rfl⟩:=intItems_at hv;obtain⟨h1,h2⟩:=argBest_lt (numAt ys) (ys.size - 1);refine⟨.int _,H,I.kept (t':=tk) hk,⟨t,rfl⟩,q _ ?_ fun a ha=>?_⟩
  ·rw [hns,numAt_eq]; exact getD_mem (by rw [List.length_map,Array.length_toList]; omega)
  ·rw [hns] at ha;obtain⟨j,hj,rfl⟩:=mem_getD ha;rw [List.length_map,Array.length_toList] at hj;rw [<- numAt_eq]; exact h2 j (by omega)
 rcases hq with hq | hq
 ·obtain⟨its,rv,pl,_⟩:=I.list hq;obtain⟨ys,e,hns⟩:=zgE (zbY rv);have hsz:0<ys.size:=by
   cases ys with
   | mk l=>cases l with
    | nil=>exact absurd hns hne
    | cons _ _=>exact Nat.succ_pos _
  exact min_intList (I.ok.hd hc) (by rw [<- e]; exact pl.isList) hsz fun v h' tk hv hk=>done ys v h' tk hns hsz hv hk
 ·obtain⟨its,rv,pl,_⟩:=I.tuple hq;obtain⟨ys,e,hns⟩:=zgE (zbY rv);have hsz:0<ys.size:=by
   cases ys with
   | mk l=>cases l with
    | nil=>exact absurd hns hne
    | cons _ _=>exact Nat.succ_pos _
  exact zlV (I.ok.hd hc) (by rw [<- e]; exact pl) hsz fun v h' tk hv hk=>done ys v h' tk hns hsz hv hk
theorem ziT(hc:X.calm=true):CallR X (.builtin "max") (zuU X.K):=by
 intro zl s σ H xs us Q I r h;obtain⟨p,ns,rfl,hq,hne,q⟩:=h;obtain⟨u,rfl,rx⟩:=vals1 r;cases (show u=Value.ref p from rx);have done:∀ (ys:Array (Int×Tok)) (v:Value) (h':Heap) (tk:Nat),ns=ys.toList.map (·.1)->0<ys.size->(intItems ys)[argBest (fun i j=>decide (numAt ys i>numAt ys j)) (ys.size - 1)]? = some v ->
   (∀ b o,s.heap.get? b=some o->h'.get? b=some o)->EP X zl σ Q v { s with heap:=h',toks:=tk }:=by
  intro ys v h' tk hns hsz hv hk;obtain⟨t,rfl⟩:=intItems_at hv;obtain⟨h1,h2⟩:=argBest_gt (numAt ys) (ys.size - 1);refine⟨.int _,H,I.kept (t':=tk) hk,⟨t,rfl⟩,q _ ?_ fun a ha=>?_⟩
  ·rw [hns,numAt_eq]; exact getD_mem (by rw [List.length_map,Array.length_toList]; omega)
  ·rw [hns] at ha;obtain⟨j,hj,rfl⟩:=mem_getD ha;rw [List.length_map,Array.length_toList] at hj;rw [<- numAt_eq]; exact h2 j (by omega)
 rcases hq with hq | hq
 ·obtain⟨its,rv,pl,_⟩:=I.list hq;obtain⟨ys,e,hns⟩:=zgE (zbY rv);have hsz:0<ys.size:=by
   cases ys with
   | mk l=>cases l with
    | nil=>exact absurd hns hne
    | cons _ _=>exact Nat.succ_pos _
  exact max_intList (I.ok.hd hc) (by rw [<- e]; exact pl.isList) hsz fun v h' tk hv hk=>done ys v h' tk hns hsz hv hk
 ·obtain⟨its,rv,pl,_⟩:=I.tuple hq;obtain⟨ys,e,hns⟩:=zgE (zbY rv);have hsz:0<ys.size:=by
   cases ys with
   | mk l=>cases l with
    | nil=>exact absurd hns hne
    | cons _ _=>exact Nat.succ_pos _
  exact zl2 (I.ok.hd hc) (by rw [<- e]; exact pl) hsz fun v h' tk hv hk=>done ys v h' tk hns hsz hv hk
end
section
variable {K:W.Frag} {o:List Addr} {σ:St} {H0:Hp} {t t1 t2 t3 t4 t5:TE} {ta:TA} {tt tu:TT} {d d1 d2 d3 d4 d5:PyData} {ds:List PyData} {b c:Bool}
def zpG:PyData->Bool
 | .none=>true
 | _=>false
theorem znD{H:Hp}{v:V}(h:Has H d v):decide (v=.non)=zpG d:=by
 cases d with
 | none=>rw [ze7.mp h]; rfl
 | bool _=>rw [zfe.mp h]; rfl
 | int _=>rw [zbr.mp h]; rfl
 | str _=>rw [zdD.mp h]; rfl
 | list _=>obtain⟨a,vs,rfl,_⟩:=zbx.mp h; rfl
 | tuple _=>obtain⟨a,vs,rfl,_⟩:=zaG.mp h; rfl
 | dict _=>obtain⟨a,vs,rfl,_⟩:=zig.mp h; rfl
def zuP:R2:=fun x y H Q=>y=.non/\Q (.bl (decide (x=.non))) H
theorem zn3{X:Cx}:OpR X (compareOp .Is) zuP:=ztM
end
def spD(a b:Int):PyData:=.tuple [.int a,.int b]
end
section
theorem zn0{K:W.Frag}{a:Addr}{ns:List Int}{N:Int}{j:Nat}{tb:TS}{D:Ends}{σ:St}{H:Hp}(P:St->Prop)(h0:σ[0]? = some (some (.ref a)))(hS:SqL K H a (ns.map V.int))(hlen:ns.length<=63)(hP:P σ)
  (turn:∀ (n:Int) (σ:St) (H1 H2:Hp),P σ->Same H H1->Same H1 H2->tb { D with nx:=fun σ' H'=>Same H1 H'/\P σ',ct:=fun σ' H'=>Same H1 H'/\P σ',bk:=D.nx } (σ.set j (some (.int n))) H2)
  (done:∀ (σ:St) (H1:Hp),P σ->Same H H1->D.nx σ H1) :
  ztz (zrA K (tOp zr8 (zr1 (zlE (tC2 (zrK K) (zoF 0) (tC (.int 0))) zsa)) (tSl (zta K) (zoF 0) (zlA (tC (.int 1))) (zlA (tC (.int N)))))) (zjc j) tb D σ H:=by
 refine⟨_,h0,a,ns,0,rfl,rfl,hS,by decide,fun n0=>⟨by show 1<=sizeLine; decide,fun p hp=>?_⟩⟩;have s1:Same H (upd H p (.lst [.int n0])):=Same.laid hp;refine⟨_,h0,_,rfl,_,rfl,a,_,rfl,s1.seq hS,fun p2 hp2=>?_⟩;have s2:=s1.trans (Same.laid (o:=.lst (zl8 (ns.map V.int) (some 1) (some N))) hp2);have np:p≠p2:=zal zam hp2;have hz:(zl8 (ns.map V.int) (some 1) (some N)).length<=63:=Nat.le_trans (zeE _ _ _) (by rw [List.length_map]; exact hlen);refine⟨p,p2,_,_,rfl,rfl,by rw [zZ np,zam],zam,Nat.le_of_lt (small1000 (by simp only [List.length_cons,List.length_nil]; omega)),fun p3 hp3=>?_⟩;have s3:=s2.trans (Same.laid (o:=.lst ([V.int n0]++zl8 (ns.map V.int) (some 1) (some N))) hp3);refine⟨p3,rfl,⟨_,.of zam⟩,zpi (K:=K) (a:=p3) (xs:=[V.int n0]++zl8 (ns.map V.int) (some 1) (some N)) (fun i σ' H'=>Same _ H'/\P σ') ⟨Same.refl _,hP⟩ (fun i σ H4 _ ⟨s4,_⟩=>.of (s4 _ _ zam)) ?_ ?_⟩
 ·rintro i x σ' H4 hi ⟨s4,p4⟩;obtain⟨n,rfl⟩:∃ n,x=.int n:=by
   rcases List.mem_append.mp (List.mem_of_getElem? hi) with m | m
   ·exact⟨n0,List.mem_singleton.mp m⟩
   ·exact zoW m
  exact turn n σ' _ H4 p4 s3 s4
 ·rintro σ' H4 ⟨s4,p4⟩;exact done σ' H4 p4 (s3.trans s4)
end
section
section
variable {prog:Program} {w:World} {A:Around} {E:Value->Shared->Prop} {R:Result->Shared->Prop} {s:Shared}
theorem zjn{elt target iter:Expr}{ifs:List Expr}{scope:Scope}{pos:Pos}{it acc:Value}{env:Env}(I:Nat->Shared->Prop)
  (turn:∀ n s,I n s->wpAny (model prog w) A (pyNext it) (fun r s₁=>match r with
   | none=>R (.ok .next) s₁
   | some v=>wpAny (model prog w) A (letOwnedTupleGo target it v) (fun _ s₀=>wpAny (model prog w) A (assign target env v) (fun _ s₂ =>
     wpAny (model prog w) A (forIn ifs true fun c r=>if r=true then do let ok <- isTrue c env (eval c env); pure (ForInStep.yield ok) else pure (ForInStep.yield r)) (fun ok s₃ =>
      if ok=true then wpAny (model prog w) A (eval elt env) (fun x s₄ =>
       wpAny (model prog w) A (call (.builtin "list.append") [acc,x]) (fun _ s₅=>∃ m,m<n/\I m s₅) (fun _ _=>False) s₄) (fun _ _=>False) s₃
      else ∃ m,m<n/\I m s₃) (fun _ _=>False) s₂) (fun _ _=>False) s₀) (fun _ _=>False) s₁) (fun _ _=>False) s)
  (n:Nat) (h:I n s) :
  codeAny (model prog w) A (.compLoop (.ListComp elt [⟨target,iter,ifs,0⟩] scope pos) 0 it acc env) R s:=by
 have up:∀ {α:Type} {t:Sem α} {Q:α->Shared->Prop} {E':Value->Shared->Prop} {s':Shared},wpAny (model prog w) A t Q (fun _ _=>False) s'->wpAny (model prog w) A t Q E' s':=fun h=>wpAny_mono h (fun _ _ q=>q) fun _ _ z=>z.elim;refine codeAny_loop rfl I (fun n s hI=>?_) n h;show wpAny _ A ((compTurn (.ListComp elt [⟨target,iter,ifs,0⟩] scope pos) 0 it acc env).onRaise (fun x=>do noteFrame x env; theTreesLotGoes x)) _ _ s;refine wpAny_noted ?_;rw [compTurn_list];refine wpAny_bind (wpAny_standAt (wpAny_bind (thn (up (turn n s hI)) fun r s₁ h₁=>?_)));cases r with
 | none=>exact wpAny_pure h₁
 | some v =>
  refine wpAny_bind (thn (up h₁) fun _ s₀ h₀=>?_);refine wpAny_bind (thn (up h₀) fun _ s₂ h₂=>wpAny_bind (thn (up h₂) fun ok s₃ h₃=>?_));cases ok with
  | false=>exact wpAny_pure ⟨rfl,h₃⟩
  | true =>
   exact wpAny_bind (wpAny_bind (thn (up h₃) fun x s₄ h₄=>wpAny_bind (thn (up h₄) fun _ s₅ h₅=>wpAny_pure (wpAny_pure ⟨rfl,h₅⟩))))
end
def zb7(X:Cx)(scope:Scope)(cl:List (Str×Addr))(C:Addr)(s₃:Shared)(H₃:Hp)(fp:List Addr)(N:List Str):Cx where
 prog:=X.prog
 w:=X.w
 K:=X.K
 mg:=X.mg
 base:=X.base
 A:=X.A
 N:=N
 s₀:=s₃
 H₀:=H₃
 env:=compEnvC scope cl C X.env
 outer:=X.stack
 stack:=X.stack
 ex:=fp
 fn:=fun _=>false
 calm:=X.calm
 pn:=[]
 xe:=fun _ _=>False
def PTs(X:Cx)(ifs:List Expr)(t:TT):Prop :=
 ∀ (zl:List (Addr×Obj)) (s:Shared) (σ:St) (H:Hp) (Q:Bool->Hp->Prop),Inv X zl σ H s->t σ H Q ->
  wpAny (model X.prog X.w) X.A (forIn ifs true fun c r=>if r=true then do let ok <- isTrue c X.env (eval c X.env); pure (ForInStep.yield ok) else pure (ForInStep.yield r)) (TP X zl σ Q) X.xe s
def zs4:TT:=fun _ H Q=>Q true H
theorem zbS{X:Cx}:PTs X [] zs4:=fun _ _ _ H _ I h=>wpAny_tests_nil ⟨H,I,h⟩
theorem zoq{X:Cx}{c:Expr}{t:TT}(h:PT X c t):PTs X [c] t:=fun zl s σ H Q I hw=>wpAny_tests_one (h zl s σ H Q I hw)
def tau(caps:List (Option Nat))(σ:St):St:=caps.map fun o=>o.bind fun i=>(σ[i]?).join
def zop(caps:List (Option Nat))(wi:TI)(g:TG)(tt:TT)(te:TE):TE:=fun σ H Q=>wi σ H fun J H1=>∀ D,H1 D=none->∃ W:Nat->Nat->St->Hp->Prop,(∃ m,W 0 m (tau caps σ) (upd H1 D (.lst []))) /\
 ∀ i m τ H2,W i m τ H2->(J.stop i H2/\Q (.ref D) H2)\/(J.go i H2/\∀ x H3,J.yld i H2 x H3->g x τ H3 fun τ4 H4=>tt τ4 H4 fun b H5 =>
  if b=true then te τ4 H5 fun v H6=>∃ xs,H6 D=some (.lst xs)/\xs.length<sizeLine/\∃ m',m'<m/\W (i+1) m' τ4 (upd H6 D (.lst (xs++[v]))) else ∃ m',m'<m/\W (i+1) m' τ4 H5)
structure CompOk(X:Cx)(scope:Scope)(cl:List (Str×Addr))(N:List Str)(caps:List (Option Nat)):Prop where
 clos:closureFor scope X.env=pure cl
 sub:∀ x c,cl.lookup x=some c->X.env.cells.lookup x=some c
 kind:scope.kind=.function
 cell:∀ y∈scope.names,y.2≠.cell
 names:∀ y∈scope.names,y.2=.local->scope.names.lookup y.1=some .local
 has:∀ x,((relabel scope X.env).names.lookup x=some .cell\/(relabel scope X.env).names.lookup x=some .free)->∃ c,cl.lookup x=some c
 cap:∀ (j i:Nat) (x:Str),caps[j]? = some (some i)->N[j]? = some x->X.N[i]? = some x/\Vis X.env.scope x/\¬ X.env.kindOf x=some .local/\∃ c,cl.lookup x=some c/\((relabel scope X.env).names.lookup x=some .cell\/(relabel scope X.env).names.lookup x=some .free)
 len:caps.length=N.length
section
variable {X:Cx} {scope:Scope} {cl:List (Str×Addr)} {N:List Str} {caps:List (Option Nat)} {tg iter elt:Expr} {ifs:List Expr} {pos:Pos} {wi:TI} {g:TG} {tt:TT} {te:TE}
theorem zlL{zl:List (Addr×Obj)}{σ:St}{H:Hp}{s:Shared}{fp:List Addr}{h₁:Heap}{t':Nat}(c:CompOk X scope cl N caps)(I:Inv X zl σ H s)(f:∀ b∈fp,FpOk X zl H b)(fo:∀ b∈fp,∃ o,s.heap.get? b=some o)
  (hns:h₁.Ns s.heap.objs.size (fun _=>none)) (hk:∀ b o,s.heap.get? b=some o->h₁.get? b=some o) :
  Inv (zb7 X scope cl s.heap.objs.size s H fp N) [] (tau caps σ) H { s with heap:=h₁,toks:=t' }:=by
 have lt:∀ b∈fp,b<s.heap.objs.size:=fun b hb=>by obtain⟨o,e⟩:=fo b hb; exact Heap.lt_size e
 have cells:∀ x k,cl.lookup x=some k->∃ v,s.heap.IsCell k v:=fun x k e=>I.cell x k (c.sub x k e);refine⟨⟨I.ok.mod,c.kind,I.ok.glob,I.ok.blt,Nat.le_refl _,fun x y k h1 h2=>I.ok.inj x y k (c.sub x k h1) (c.sub y k h2),fun x hx=>c.has x hx,fun x k h _=>absurd (show false=true from h) (by decide),I.ok.hd,I.ok.frames,.inl rfl,
  fun b hb=>⟨Nat.ne_of_lt (lt b hb),fun x k e=>(f b hb).2.2.2.2.1 x k (c.sub x k e)⟩,I.bs,Nat.le_trans I.ok.bsz I.sz,fun b o e hb=>?_,fun b hb z=>?_,I.stack,I.stkFree⟩,
  rfl,I.bare,Un.kept hk,⟨_,hns,fun j x v h1 h2 h3=>?_⟩,fun x k e=>?_,I.hok.fresh (Nat.le_refl _),fun x k e=>I.freeC x k (c.sub x k e),fun p hp=>absurd (show p∈([]:List (Addr×Obj)) from hp) (by simp),I.hok.kept hk,?_⟩
 ·rcases(f b hb).2.2.2.1 with q | q
  ·exact I.ok.noex b o e q
  ·exact absurd (Nat.lt_of_lt_of_le (Heap.lt_size e) (Nat.le_trans I.ok.bsz q)) (Nat.lt_irrefl _)
 ·rcases List.mem_cons.mp (I.stkSub b z) with q | q
  ·exact(f b hb).2.1 q
  ·exact(f b hb).2.2.1 q
 ·have h2':(caps.map fun o=>o.bind fun i=>(σ[i]?).join)[j]? = some (some v):=h2;rw [List.getElem?_map] at h2';cases e:caps[j]? with
  | none=>rw [e] at h2'; cases h2'
  | some oi =>
   rw [e] at h2';have h2'':(oi.bind fun i=>(σ[i]?).join)=some v:=Option.some.inj h2';cases oi with
   | none=>cases h2''
   | some i =>
    have h4:(σ[i]?).join=some v:=h2'';have h5:σ[i]? = some (some v):=by
     cases q:σ[i]? with
     | none=>rw [q] at h4; cases h4
     | some w'=>rw [q] at h4; exact congrArg some h4
    obtain⟨k1,k2,k3,cc,k4,k5⟩:=c.cap j i x e h1;obtain⟨m,hn,hl⟩:=I.loc;obtain⟨u,r,l⟩:=hl i x v k1 h5 k2;refine⟨u,r,.inr ⟨k5,cc,k4,?_⟩⟩;rcases l with ⟨q,_⟩ | ⟨_,c',hc',hcell⟩
    ·exact(k3 q).elim
    ·rw [c.sub x cc k4] at hc';cases hc';exact hcell.keeps hk
 ·obtain⟨v,q⟩:=cells x k e;exact⟨v,q.keeps hk⟩
 ·show (caps.map _).length=N.length;rw [List.length_map];exact c.len
theorem zm2{zl:List (Addr×Obj)}{σ τ:St}{H H':Hp}{s s':Shared}{h':Heap}{fp:List Addr}(I:Inv X zl σ H s)(f:∀ b∈fp,FpOk X zl H b)(J:Inv (zb7 X scope cl s.heap.objs.size s H fp N) [] τ H' s')(hs:Heap.SameBut s.heap.objs.size s'.heap h'):
  Inv X zl σ H' { s' with heap:=h' }:=by
 have hC:H' s.heap.objs.size=none:=J.free;have keep:∀ b o,b≠s.heap.objs.size->s'.heap.get? b=some o->h'.get? b=some o:=fun b o nb e=>hs.extBut b o nb e;have u1:Un (frs X.stack) (s.heap.objs.size :: fp) H H' s.heap s'.heap:=Un.mono J.base (fun b hb=>hb) (fun b hb=>List.mem_cons_of_mem _ hb);have u2:Un (frs X.stack) (s.heap.objs.size :: fp) H' H' s'.heap h' :=
  ⟨fun b o e _ _ hx=>keep b o (fun z=>hx (by rw [z]; exact List.mem_cons_self)) e,fun b o e _ _ hx=>⟨o.slots,keep b o (fun z=>hx (by rw [z]; exact List.mem_cons_self)) e⟩,fun _ _ _ n _=>n,fun b o e hx=>⟨o,keep b o (fun z=>hx (by rw [z]; exact List.mem_cons_self)) e⟩,fun _ _ q=>q,fun _ _ _ q=>q,fun _ ps q=>⟨#[],by rw [q]; simp⟩⟩
 have hok:HOk X.prog X.w H' h':=fun a o e=>(J.hok a o e).stay (fun b u hb q=>keep b u (fun z=>by
  rcases hb with hb | hb
  ·rw [<- hb,z,hC] at e; cases e
  ·rw [z,hC] at hb; cases hb) q) (fun b q=>q) fun b xs q=>q
 refine I.call' (s':={ s' with heap:=h' }) (ch:=s.heap.objs.size :: fp) J.os (u1.trans u2) hok J.bare fun b hb=>?_;rcases List.mem_cons.mp hb with rfl | hb
 ·refine⟨.inr I.sz,Nat.ne_of_gt I.lt,fun x k e z=>?_,fun p hp z=>?_⟩
  ·obtain⟨v,q⟩:=I.cell x k e;exact absurd q.lt (by rw [z]; exact Nat.lt_irrefl _)
  ·exact absurd (Heap.lt_size (I.pin p hp).1) (by rw [z]; exact Nat.lt_irrefl _)
 ·obtain⟨f0,f1,f2,f3,f4,f5⟩:=f b hb;exact⟨f3,f1,f4,f5⟩
theorem zhQ{zl:List (Addr×Obj)}{σ:St}{H2:Hp}{s2:Shared}{it:Addr}{fp:List Addr}{tn:Nat->Heap->Prop}{J:It}{RR:Value->Addr->Result->Shared->Prop}{E:Value->Shared->Prop}(hc:X.calm=true)(c:CompOk X scope cl N caps)
  (I2:Inv X zl σ H2 s2) (T:Turn X.prog X.w X.K tg J fp it tn) (st2:tn 0 s2.heap) (f2:∀ b∈fp,FpOk X zl H2 b)
  (hg:∀ C s H fp,PG (zb7 X scope cl C s H fp N) tg g) (ht:∀ C s H fp,PTs (zb7 X scope cl C s H fp N) ifs tt) (he:∀ C s H fp,PE (zb7 X scope cl C s H fp N) elt te)
  (Q:VK) (hq:∀ D,H2 D=none->∃ W:Nat->Nat->St->Hp->Prop,(∃ m,W 0 m (tau caps σ) (upd H2 D (.lst []))) /\
   ∀ i m τ H2,W i m τ H2->(J.stop i H2/\Q (.ref D) H2)\/(J.go i H2/\∀ x H3,J.yld i H2 x H3->g x τ H3 fun τ4 H4=>tt τ4 H4 fun b H5 =>
    if b=true then te τ4 H5 fun v H6=>∃ xs,H6 D=some (.lst xs)/\xs.length<sizeLine/\∃ m',m'<m/\W (i+1) m' τ4 (upd H6 D (.lst (xs++[v]))) else ∃ m',m'<m/\W (i+1) m' τ4 H5))
  (hRR:∀ (D C:Addr) (H':Hp) (s':Shared) (m:Str->Option Value),s'.heap.Ns C m->FpOk X zl H' C->(∀ h',Heap.SameBut C s'.heap h'->Inv X zl σ H' { s' with heap:=h' })->Q (.ref D) H'->RR (.ref D) C (.ok .next) s') :
  wpAny (model X.prog X.w) X.A (newList []) (fun acc s₃=>wpAny (model X.prog X.w) X.A (newFunctionEnv scope X.env.globals cl [] X.env.qual none .none (some X.env)) (fun cenv s₄ =>
   codeAny (model X.prog X.w) X.A (.compStart (.ListComp elt [⟨tg,iter,ifs,0⟩] scope pos) 0 (.ref it) acc { cenv with scope:=relabel scope X.env }) (RR acc cenv.locals) s₄) E s₃) E s2:=by
 have hD:H2 s2.heap.objs.size=none:=I2.hok.fresh (Nat.le_refl _);obtain⟨W,⟨m0,w0⟩,turn⟩:=hq s2.heap.objs.size hD;have I3:Inv X zl σ (upd H2 s2.heap.objs.size (.lst [])) { s2 with heap:=s2.heap.push { cls:=.type "list",data:=.seq ([]:List Value).toArray } }:=I2.laid (t':=s2.toks) (fun b u e=>Heap.get?_push_of_some _ e) (Nat.le_refl _) ⟨Nat.zero_le _,[],0,.nil,Heap.get?_push_size _ rfl⟩;have fo:∀ b∈fp,∃ o,s2.heap.get? b=some o:=fun b hb=>by obtain⟨o,e,_⟩:=T.obj 0 _ st2 b hb; exact⟨o,e⟩
 have f3:∀ b∈fp,FpOk X zl (upd H2 s2.heap.objs.size (.lst [])) b:=fun b hb=>by
  obtain⟨o,e⟩:=fo b hb;refine⟨?_,(f2 b hb).2⟩;rw [zZ (Nat.ne_of_lt (Heap.lt_size e))];exact(f2 b hb).1
 refine wpAny_newObj_type (wpAny_newFunctionEnv c.cell (by intro y hy; simp at hy) (fun h₁ hns₁ hsb₁=>?_) c.kind);have hk:∀ b o,(s2.heap.push { cls:=.type "list",data:=.seq ([]:List Value).toArray }).get? b=some o->h₁.get? b=some o:=fun b o e=>hsb₁.extBut b o (Nat.ne_of_lt (Heap.lt_size e)) (Heap.get?_push_of_some _ e);have st4:tn 0 h₁:=T.keep 0 _ _ st2 fun b _ o e=>hk b o (Heap.get?_push_of_some _ e);have I4:=zlL (t':=s2.toks+([]:List (Str×Value)).length) c I3 f3 (fun b hb=>by obtain⟨o,e⟩:=fo b hb; exact⟨o,Heap.get?_push_of_some _ e⟩) hns₁ hk;have fpok:∀ {H':Hp},(∀ b∈fp,H' b=none)->∀ b∈fp,FpOk (zb7 X scope cl (s2.heap.push { cls:=.type "list",data:=.seq ([]:List Value).toArray }).objs.size { s2 with heap:=s2.heap.push { cls:=.type "list",data:=.seq ([]:List Value).toArray } } (upd H2 s2.heap.objs.size (.lst [])) fp N) [] H' b:=fun hn b hb =>
  ⟨hn b hb,(I4.ok.exf b hb).1,I4.ok.exfs b hb,.inl hb,(I4.ok.exf b hb).2,fun p hp=>absurd (show p∈([]:List (Addr×Obj)) from hp) (by simp)⟩
 have loop:codeAny (model X.prog X.w) X.A (.compLoop (.ListComp elt [⟨tg,iter,ifs,0⟩] scope pos) 0 (.ref it) (.ref s2.heap.objs.size) (compEnvC scope cl (s2.heap.push { cls:=.type "list",data:=.seq ([]:List Value).toArray }).objs.size X.env))
   (RR (.ref s2.heap.objs.size) (s2.heap.push { cls:=.type "list",data:=.seq ([]:List Value).toArray }).objs.size) { s2 with heap:=h₁,toks:=s2.toks+([]:List (Str×Value)).length }:=by
  refine zjn (fun n s'=>∃ i τ H',Inv (zb7 X scope cl (s2.heap.push { cls:=.type "list",data:=.seq ([]:List Value).toArray }).objs.size { s2 with heap:=s2.heap.push { cls:=.type "list",data:=.seq ([]:List Value).toArray } } (upd H2 s2.heap.objs.size (.lst [])) fp N) [] τ H' s'/\tn i s'.heap/\(∀ b∈fp,H' b=none)/\W i n τ H') ?_ m0 ⟨0,_,_,I4,st4,fun b hb=>(f3 b hb).1,w0⟩;rintro n s5 ⟨i,τ,H5,I5,st5,fr5,w5⟩;rcases turn i n τ H5 w5 with ⟨stop,qn⟩ | ⟨go,step⟩
  ·refine thn (T.done (zb7 X scope cl (s2.heap.push { cls:=.type "list",data:=.seq ([]:List Value).toArray }).objs.size { s2 with heap:=s2.heap.push { cls:=.type "list",data:=.seq ([]:List Value).toArray } } (upd H2 s2.heap.objs.size (.lst [])) fp N) rfl rfl rfl hc i [] s5 τ H5 (fun _ _=>False) I5 (fpok fr5) st5 stop) fun r s6 ⟨hr,I6⟩=>?_;subst hr;obtain⟨m,hn,_⟩:=id I6.loc;exact hRR _ _ H5 s6 m hn (I3.fpOk (Nat.le_refl _) I6.free) (fun h' hs=>zm2 I3 f3 I6 hs) qn
  ·refine thn (T.item (zb7 X scope cl (s2.heap.push { cls:=.type "list",data:=.seq ([]:List Value).toArray }).objs.size { s2 with heap:=s2.heap.push { cls:=.type "list",data:=.seq ([]:List Value).toArray } } (upd H2 s2.heap.objs.size (.lst [])) fp N) rfl rfl rfl hc i [] s5 τ H5 (fun _ _=>False) I5 (fpok fr5) st5 go) fun r s6 ⟨u,hr,h6⟩=>?_;subst hr;refine thn h6 fun _ s7 ⟨x,H7,I7,r7,y7,st7,fr7⟩=>?_;have I7':=I7.pinned (fpok fr7) (T.obj _ _ st7);refine thn (hg _ _ _ _ _ s7 τ H7 x u _ I7' r7 (step x H7 y7)) fun _ s8 ⟨τ8,H8,I8,q8⟩=>?_;refine thn (ht _ _ _ _ _ s8 τ8 H8 _ I8 q8) fun ok s9 ⟨H9,I9,q9⟩=>?_;have again:∀ {H':Hp} {s':Shared} {m:Nat},Inv (zb7 X scope cl (s2.heap.push { cls:=.type "list",data:=.seq ([]:List Value).toArray }).objs.size { s2 with heap:=s2.heap.push { cls:=.type "list",data:=.seq ([]:List Value).toArray } } (upd H2 s2.heap.objs.size (.lst [])) fp N) ([]++zjl fp s7.heap) τ8 H' s'->(m<n/\W (i+1) m τ8 H') ->
     ∃ m,m<n/\∃ i τ H',Inv (zb7 X scope cl (s2.heap.push { cls:=.type "list",data:=.seq ([]:List Value).toArray }).objs.size { s2 with heap:=s2.heap.push { cls:=.type "list",data:=.seq ([]:List Value).toArray } } (upd H2 s2.heap.objs.size (.lst [])) fp N) [] τ H' s'/\tn i s'.heap/\(∀ b∈fp,H' b=none)/\W i m τ H':=fun {H' s' m} I' q=>by
    refine⟨m,q.1,i+1,τ8,H',I'.unpinned,T.keep _ _ _ st7 fun b hb o e=>(I'.pin (b,o) (List.mem_append_right _ (List.mem_append_right _ (zep hb e)))).1,fun b hb=>?_,q.2⟩;obtain⟨o,e,d⟩:=T.obj _ _ st7 b hb;exact(I'.pin (b,o) (List.mem_append_right _ (List.mem_append_right _ (zep hb e)))).2.1
   cases ok with
   | false =>
    rw [if_neg Bool.false_ne_true] at q9 ⊢;obtain⟨m',hm,w9⟩:=q9;exact again I9 ⟨hm,w9⟩
   | true =>
    rw [if_pos rfl] at q9 ⊢;refine thn (he _ _ _ _ _ s9 τ8 H9 _ I9 q9) fun v s10 ⟨z,H10,I10,r10,xs,hx,hz,m',hm,w10⟩=>?_;refine thn (zdV _ s10 τ8 H10 (.ref s2.heap.objs.size) [z] (.ref s2.heap.objs.size) [v] (fun _ H11=>W (i+1) m' τ8 H11) I10 rfl (.cons r10 .nil) ⟨_,xs,z,rfl,rfl,hx,hz,w10⟩) fun _ s11 ⟨_,H11,I11,_,w11⟩=>?_;exact again I11 ⟨hm,w11⟩
 exact codeAny_compStart_list loop (T.self _ 0 _ _ _ st4 loop)
theorem zcz(hx:∀ e s,X.xe e s->False)(hc:X.calm=true)(c:CompOk X scope cl N caps)(hi:PI X tg iter wi)(hg:∀ C s H fp,PG (zb7 X scope cl C s H fp N) tg g)(ht:∀ C s H fp,PTs (zb7 X scope cl C s H fp N) ifs tt)(he:∀ C s H fp,PE (zb7 X scope cl C s H fp N) elt te)
  (hs:∀ x,foldedSetIterable iter X.env x=pure x:=by intro _; rfl):PE X (.ListComp elt [⟨tg,iter,ifs,0⟩] scope pos) (zop caps wi g tt te):=by
 intro zl s σ H Q I h;rw [eval_ListComp];refine wpAny_comprehension_free (use:=none) rfl hs c.clos c.kind c.names (thn (hi zl s σ H _ I h) fun v s1 h1=>thn h1 fun itv s2 h2=>?_);obtain⟨it,fp,tn,J,H2,e,I2,T,st2,f2,q2⟩:=h2;subst e;exact zhQ (RR:=fun acc C=>compPost (model X.prog X.w) X.A X.xe none (EP X zl σ Q) acc C) hc c I2 T st2 f2 hg ht he Q q2 fun D C H' s' m hn _ hb q=>⟨m,hn,fun h' hs=>⟨.ref D,H',hb h' hs,rfl,q⟩⟩
theorem zhY{i:Nat}{y:Str}{py spos:Pos}(hx:∀ e s,X.xe e s->False)(hc:X.calm=true)(c:CompOk X scope cl N caps)(hN:X.N.Nodup)(hyi:X.N[i]? = some y)(hl:X.env.scope.names.lookup y=some .local)(hi:PI X tg iter wi)(hg:∀ C s H fp,PG (zb7 X scope cl C s H fp N) tg g)
  (ht:∀ C s H fp,PTs (zb7 X scope cl C s H fp N) ifs tt) (he:∀ C s H fp,PE (zb7 X scope cl C s H fp N) elt te)
  (hsw:swapsWith (.ListComp elt [⟨tg,iter,ifs,0⟩] scope pos) (some (.Name y py)) spos.line X.env=pure true:=by rfl)
  (hs:∀ x,foldedSetIterable iter X.env x=pure x:=by intro _; rfl):PS X (.Assign [.Name y py] (.ListComp elt [⟨tg,iter,ifs,0⟩] scope pos) spos) (zsb (zop caps wi g tt te) (zjc i)):=by
 intro zl s σ H D I h;rw [exec_Assign_Name_used _ _ _ _ hsw];refine wpAny_bind (wpAny_standAt (wpAny_bind ?_));show wpAny _ X.A (do let _ <- comprehension (.ListComp elt [⟨tg,iter,ifs,0⟩] scope pos) scope X.env _ (newList []) false (eval iter X.env) (some (assign (.Name y py) X.env))) _ _ s;refine wpAny_bind (wpAny_mono (wpAny_comprehension_free (use:=some (assign (.Name y py) X.env)) (Q:=fun _ s'=>SP X zl D .next s') rfl hs c.clos c.kind c.names (thn (hi zl s σ H _ I h) fun v s1 h1=>thn h1 fun itv s2 h2=>?_)) (fun _ s' hq=>wpAny_pure (wpAny_pure hq)) fun _ _ e=>e);obtain⟨it,fp,tn,J,H2,e,I2,T,st2,f2,q2⟩:=h2;subst e;refine zhQ (RR:=fun acc C=>compPost (model X.prog X.w) X.A X.xe (some (assign (.Name y py) X.env)) (fun _ s'=>SP X zl D .next s') acc C) hc c I2 T st2 f2 hg ht he (fun v H'=>D.nx (σ.set i (some v)) H') q2 fun Da C H' s' m hn f hb q=>?_;obtain⟨o,es,ep,ho,hd,r⟩:=hn;have I':Inv X zl σ H' s':=hb s'.heap (Heap.SameBut.refl _ _);have I'':Inv X (zl++[(C,o)]) σ H' s':=I'.pins_of fun p hp=>(List.mem_append.mp hp).elim (fun z=>I'.pin p (List.mem_append_right _ z)) fun z=>by
  cases List.mem_singleton.mp z;exact⟨ho,f.1,f.2.1,f.2.2.1,fun v e=>by rw [hd] at e; cases e⟩
 refine wpAny_assign_Name (zh7 I'' hN hyi (.inl hl) (show RelV (V.ref Da) (Value.ref Da) from rfl) (fun s2 J2=>?_) (.inr hl));refine⟨m,⟨o,es,ep,(J2.pin (C,o) (List.mem_append_right _ (List.mem_append_right _ (List.mem_singleton.mpr rfl)))).1,hd,r⟩,fun h' hs=>?_⟩;exact⟨_,H',J2.unpinned.turned (t':=s2.toks) (fun b ob nb e=>hs.extBut b ob nb e) f.1 f.2.1 f.2.2.2.1 f.2.2.2.2.1 f.2.2.2.2.2,q⟩
end
def zmD(env:Env):List (Str×NameKind)->List (Str×Addr)->List (Str×Addr)
 | [],acc=>acc
 | (n,k) :: r,acc=>zmD env r (if k == .free then (n,(env.cells.lookup n).getD 0) :: acc else acc)
theorem zkW{env:Env}{x:Str}{c:Addr}:∀ {names:List (Str×NameKind)} {acc:List (Str×Addr)},(x,c)∈zmD env names acc->(x,c)∈acc\/((x,NameKind.free)∈names/\c=(env.cells.lookup x).getD 0)
 | [],_,h=>.inl h
 | (n,k) :: r,acc,h=>by
  rcases zkW (names:=r) h with h | ⟨h,e⟩
  ·by_cases hk:k == .free
   ·rw [if_pos hk] at h;rcases List.mem_cons.mp h with h | h
    ·cases h;have:k=.free:=by simpa using hk
     subst this;exact .inr ⟨List.mem_cons_self,rfl⟩
    ·exact .inl h
   ·rw [if_neg hk] at h;exact .inl h
  ·exact .inr ⟨List.mem_cons_of_mem _ h,e⟩
theorem zkT{env:Env}{p:Str×Addr}:∀ {names:List (Str×NameKind)} {acc:List (Str×Addr)},p∈acc->p∈zmD env names acc
 | [],_,h=>h
 | (n,k) :: r,acc,h=>zkT (names:=r) (by split <;> first | exact List.mem_cons_of_mem _ h | exact h)
theorem ziH{env:Env}{x:Str}:∀ {names:List (Str×NameKind)} {acc:List (Str×Addr)},(x,NameKind.free)∈names->∃ c,(x,c)∈zmD env names acc
 | (n,k) :: r,acc,h=>by
  rcases List.mem_cons.mp h with h | h
  ·cases h;exact⟨_,zkT (names:=r) (by rw [if_pos (by decide)]; exact List.mem_cons_self)⟩
  ·exact ziH (names:=r) h
theorem zdj{β:Type}{x:Str}{c:β}:∀ {l:List (Str×β)},(x,c)∈l->∃ c',l.lookup x=some c'
 | (n,v) :: r,h=>by
  cases e:x == n with
  | true=>exact⟨v,by rw [List.lookup_cons,e]⟩
  | false =>
   rcases List.mem_cons.mp h with h | h
   ·cases h;simp at e
   ·obtain⟨c',q⟩:=zdj (l:=r) h;exact⟨c',by rw [List.lookup_cons,e]; exact q⟩
theorem ziA{env:Env}{scope:Scope}(h:∀ y∈scope.names,y.2=.free->(env.cells.lookup y.1).isSome=true):closureFor scope env=pure (zmD env scope.names []):=by
 have go:∀ (names:List (Str×NameKind)) (acc:List (Str×Addr)),(∀ y∈names,y.2=.free->(env.cells.lookup y.1).isSome=true) ->
   (forIn names acc (fun(x:Str×NameKind) (cs:List (Str×Addr))=>(if x.2 == .free then (do let c <- cellOf env x.1; pure (ForInStep.yield ((x.1,c) :: cs))) else pure (ForInStep.yield cs):Sem (ForInStep (List (Str×Addr))))))=(pure (zmD env names acc):Sem (List (Str×Addr))):=by
  intro names;induction names with
  | nil=>intro acc _; rfl
  | cons y r ih =>
   intro acc hy;obtain⟨n,k⟩:=y;rw [List.forIn_cons];by_cases hk:k == .free
   ·have hs:=hy (n,k) List.mem_cons_self (by simpa using hk);obtain⟨c,hc⟩:=Option.isSome_iff_exists.mp hs;have hc':env.cells.lookup n=some c:=hc;simp only [hk,if_true,cellOf,hc',pure_bind,zmD,Option.getD_some];exact ih _ fun y hy'=>hy y (List.mem_cons_of_mem _ hy')
   ·simp only [hk,Bool.false_eq_true,if_false,pure_bind,zmD];exact ih _ fun y hy'=>hy y (List.mem_cons_of_mem _ hy')
 have g:=go scope.names [] h;exact(bind_pure _).trans g
def zb4(DN:List Str)(dsc sc:List (Str×NameKind))(N:List Str)(caps:List (Option Nat)):Bool :=
 (caps.length == N.length) && sc.all (fun y=>y.2 != .cell && (y.2 != .free || dsc.lookup y.1 == some .cell) && (y.2 != .local || sc.lookup y.1 == some .local)) &&
 (caps.zip N).all fun p=>match p.1 with | none=>true | some i=>DN[i]? == some p.2 && dsc.lookup p.2 == some .cell && sc.lookup p.2 == some .free
theorem zd2{dsc:List (Str×NameKind)}{env:Env}{x:Str}{k:NameKind}:∀ {names:List (Str×NameKind)},(names.map fun(n,k)=>if (k == .free && env.scope.kind == .function && env.kindOf n == some .cell) then (n,.cell) else (n,k)).lookup x=some k ->
  ∃ k',names.lookup x=some k'/\(k'=k\/(k'=.free/\k=.cell))
 | [],h=>by simp at h
 | (n,k0) :: r,h=>by
  cases e:x == n with
  | true =>
   refine⟨k0,by rw [List.lookup_cons,e],?_⟩;rw [List.map_cons] at h;dsimp only at h;split at h
   ·rename_i hc;rw [List.lookup_cons,e] at h;have:k0=.free:=by simp at hc; exact hc.1.1
    cases h;exact .inr ⟨this,rfl⟩
   ·rw [List.lookup_cons,e] at h;cases h;exact .inl rfl
  | false =>
   rw [List.map_cons] at h;dsimp only at h;have h':(r.map fun(n,k)=>if (k == NameKind.free && env.scope.kind == .function && env.kindOf n == some .cell) then (n,NameKind.cell) else (n,k)).lookup x=some k:=by
    split at h <;> (rw [List.lookup_cons,e] at h; exact h)
   obtain⟨k',q,z⟩:=zd2 (dsc:=dsc) h';exact⟨k',by rw [List.lookup_cons,e]; exact q,z⟩
theorem zhy{env:Env}{x:Str}(h1:env.scope.kind=.function)(h2:env.kindOf x=some .cell):∀ {names:List (Str×NameKind)},names.lookup x=some .free ->
  (names.map fun(n,k)=>if (k == .free && env.scope.kind == .function && env.kindOf n == some .cell) then (n,.cell) else (n,k)).lookup x=some .cell
 | [],h=>by simp at h
 | (n,k0) :: r,h=>by
  rw [List.map_cons];cases e:x == n with
  | true =>
   rw [List.lookup_cons,e] at h;cases h;have en:x=n:=by simpa using e
   subst en;dsimp only;rw [if_pos (by rw [h1,h2]; decide),List.lookup_cons,e]
  | false =>
   rw [List.lookup_cons,e] at h;have ih:=zhy h1 h2 (names:=r) h;dsimp only;split <;> (rw [List.lookup_cons,e]; exact ih)
theorem zay{X:Cx}{dsc:Scope}{L:Nat}{scope:Scope}{N:List Str}{caps:List (Option Nat)}(hd:X.env.scope=dsc)(hc:X.env.cells=cellsFrom L dsc.names [])(hdk:dsc.kind=.function)(hk:scope.kind=.function)(h:zb4 X.N dsc.names scope.names N caps=true):
  CompOk X scope (zmD X.env scope.names []) N caps:=by
 subst hd;simp only [zb4,Bool.and_eq_true,List.all_eq_true,beq_iff_eq] at h;obtain⟨⟨hl,hs⟩,hz⟩:=h;have hfree:∀ y∈scope.names,y.2=.free->X.env.scope.names.lookup y.1=some .cell:=fun y hy e=>by
  have q:=(hs y hy).1.2;rw [e] at q;simpa using q
 have hcell:∀ y∈scope.names,y.2≠.cell:=fun y hy e=>by
  have q:=(hs y hy).1.1;rw [e] at q;simp at q
 have hsome:∀ x,X.env.scope.names.lookup x=some .cell->(X.env.cells.lookup x).isSome=true:=fun x e=>by
  rw [hc];exact PySem.W.cellsFrom_some _ _ _ (.inl e)
 have sub:∀ x c,(zmD X.env scope.names []).lookup x=some c->X.env.cells.lookup x=some c:=fun x c e=>by
  rcases zkW (PySem.mem_of_lookup e) with q | ⟨q,ec⟩
  ·cases q
  ·obtain⟨c',hc'⟩:=Option.isSome_iff_exists.mp (hsome x (hfree _ q rfl));rw [ec,hc'];rfl
 refine⟨ziA fun y hy e=>hsome y.1 (hfree y hy e),sub,hk,hcell,fun y hy e=>?_,fun x hx=>?_,fun j i x h1 h2=>?_,hl⟩
 ·have q:=(hs y hy).2;rw [e] at q;simpa using q
 ·have fin:(x,NameKind.free)∈scope.names->∃ c,(zmD X.env scope.names []).lookup x=some c:=fun m=>by
   obtain⟨c,hm⟩:=ziH (env:=X.env) (acc:=[]) m;exact zdj hm
  rcases hx with hx | hx
  ·obtain⟨k',q,z⟩:=zd2 (dsc:=[]) hx;rcases z with rfl | ⟨rfl,_⟩
   ·exact absurd rfl (hcell _ (PySem.mem_of_lookup q))
   ·exact fin (PySem.mem_of_lookup q)
  ·obtain⟨k',q,z⟩:=zd2 (dsc:=[]) hx;rcases z with rfl | ⟨_,z⟩
   ·exact fin (PySem.mem_of_lookup q)
   ·cases z
 ·have hm:(some i,x)∈caps.zip N:=by
   have:(caps.zip N)[j]? = some (some i,x):=by rw [List.getElem?_zip_eq_some]; exact⟨h1,h2⟩
   exact List.mem_of_getElem? this
  have q:=hz _ hm;simp only [Bool.and_eq_true,beq_iff_eq] at q;obtain⟨⟨q1,q2⟩,q3⟩:=q;obtain⟨c,hmc⟩:=ziH (env:=X.env) (acc:=[]) (PySem.mem_of_lookup q3);obtain⟨c',hc'⟩:=zdj hmc;refine⟨q1,.inr (.inl q2),fun z=>?_,c',hc',.inl (zhy hdk q2 q3)⟩;have z':X.env.scope.names.lookup x=some .local:=z;rw [q2] at z';cases z'
end
section
section
variable {X:Cx}
def ztL:R2:=fun x y H Q=>∃ z n,x=.str z/\y=.int n/\z.length<=1000/\n<=1000/\-1000<=n/\Q (.str (PySem.Txt.mul z n)) H
theorem zst{z:Str}{n:Int}(h1:z.length<=1000)(h2:n<=1000)(h3:-1000<=n):PySem.MulOk z n:=by
 refine⟨by simp; omega,fun a _ b=>?_,fun a _=>?_⟩
 ·have e:(1000:Int)<=(2 ^ 63 - 1) / n:=by
   rw [Int.le_ediv_iff_mul_le (by omega)];have:=Int.mul_le_mul_of_nonneg_left h2 (show (0:Int)<=1000 by decide);omega
  omega
 ·have e:z.length*n.toNat<=1000*1000:=Nat.mul_le_mul h1 (by omega);unfold Builtin.Str.tooLong;simp only [decide_eq_false_iff_not,Nat.not_lt];exact Nat.le_trans e (by decide)
theorem zrC:OpR X (binaryOp .Mult) ztL:=by
 intro zl s σ H x y v u Q I rx ry h;obtain⟨z,n,rfl,rfl,h1,h2,h3,q⟩:=h;obtain⟨t,rfl⟩:=rx;obtain⟨t',rfl⟩:=ry;exact PySem.SB.mul (zst h1 h2 h3) fun _ k=>⟨.str _,H,I.tok _,⟨_,rfl⟩,q⟩
def zuO:V->Option Int->Option Int->Hp->VK->Prop:=fun x lo hi H Q=>∃ z,x=.str z/\z.length<=sizeLine/\Q (.str (PySem.Txt.slice z lo hi)) H
theorem ztE:SlR X zuO:=by
 intro zl s σ H x v vl vu lo hi sl Q I rx hs pl pu h;obtain⟨z,rfl,hz,q⟩:=h;obtain⟨t,rfl⟩:=rx;refine⟨"str",_,F.slot_str_getitem.lookup,typeIs_str _ _ _,?_⟩;have fin:∀ (a b:Option (Int×Tok)),a.map (·.1)=lo->b.map (·.1)=hi->s.heap.IsSlice sl a b none->wpAny (model X.prog X.w) X.A (getItem (.str z t) (.ref sl)) (EP X zl σ Q) X.xe s:=fun a b e1 e2 hsl=>by
  subst e1 e2;exact wpAny_getItem_str_slice (l:=a) (u:=b) (st:=none) hsl rfl (post_val_or_str ⟨Nat.le_trans (PySem.Txt.slice_le z _ _) hz,fun _ k=>⟨.str _,H,I.tok _,⟨_,rfl⟩,q⟩⟩)
 cases pl with
 | none =>
  cases pu with
  | none=>exact fin none none rfl rfl hs
  | int j tj=>exact fin none (some (j,tj)) rfl rfl hs
 | int i ti =>
  cases pu with
  | none=>exact fin (some (i,ti)) none rfl rfl hs
  | int j tj=>exact fin (some (i,ti)) (some (j,tj)) rfl rfl hs
theorem zhP:∀ {zs:List Str} {us:List Value},Vals (zs.map V.str) us->StrsAre us zs
 | [],_,.nil=>.nil
 | z :: zs,_,.cons r t=>by
  obtain⟨tk,rfl⟩:=r;exact .cons z tk (zhP t)
def zth(K:W.Frag):V->List V->Hp->VK->Prop:=fun x vs H Q=>∃ z a zs,x=.str z/\vs=[.ref a]/\SqL K H a (zs.map V.str)/\z.length<=16/\zs.length<=1000/\(∀ y∈zs,y.length<=1000)/\Q (.str (PySem.Txt.join z zs)) H
theorem zjR{zs:List Str}(h:∀ y∈zs,y.length<=1000):(zs.map (·.length)).sum<=zs.length*1000:=by
 induction zs with
 | nil=>simp
 | cons z zs ih =>
  have h1:=h z List.mem_cons_self;have h2:=ih fun y hy=>h y (List.mem_cons_of_mem _ hy);simp only [List.map_cons,List.sum_cons,List.length_cons,Nat.add_mul,Nat.one_mul];omega
theorem zrq:MtR X "str.join" (zth X.K):=by
 intro zl s σ H x vs v us Q I rx rv h;obtain⟨z,a,zs,rfl,rfl,hq,hz,hn,hl,q⟩:=h;obtain⟨t,rfl⟩:=rx;obtain⟨u,rfl,r1⟩:=rv.one;cases r1;obtain⟨its,r,pl,hsz⟩:=I.list hq;have hs:=zjR hl;refine join_listW pl.isList (by simpa using zhP r) hz (by omega) fun _ k=>⟨.str _,H,I.tok _,⟨_,rfl⟩,q⟩
end
section
variable {K:W.Frag} {o:List Addr} {σ:St} {H0:Hp} {t:TE} {ta:TA} {ds:List PyData}
def zkt(lo:Int)(n:Nat):List PyData:=(List.range n).map fun k:Nat=>.int (lo+k)
theorem zaC{lo:Int}{n:Nat}:(zkt lo n).length=n:=by simp [zkt]
theorem zcC{lo:Int}{n i:Nat}{d:PyData}(h:(zkt lo n)[i]? = some d):i<n/\d=.int (lo+i):=by
 have hi:i<n:=by
  have:=List.getElem?_eq_some_iff.mp h;obtain⟨hl,_⟩:=this
  rwa [zaC] at hl
 refine⟨hi,?_⟩;simp only [zkt,List.getElem?_map,List.getElem?_range hi,Option.map_some,Option.some.injEq] at h;exact h.symm
end
theorem zpD{y:Str}{zs:List Str}(hy:y.length<=16)(hz:∀ z∈zs,z.length<=1000):(PySem.Txt.join y zs).length<=zs.length*1016:=by
 show (Builtin.Str.glued y zs).length<=_;rw [StrLaws.glued_eq_join];cases zs with
 | nil=>exact Nat.zero_le _
 | cons a r =>
  rw [len_join_cons];have h1:=zjR hz;have h2:r.length*y.length<=r.length*16:=Nat.mul_le_mul_left _ hy;simp only [List.length_cons] at h1 ⊢;omega
def zdP{α:Type}(xs:List α)(lo hi:Option Int):List α:=(xs.drop (HT.sIx xs.length 0 lo)).take (HT.sIx xs.length xs.length hi - HT.sIx xs.length 0 lo)
theorem HasL.drop{H:Hp}:∀ {ds:List PyData} {vs:List V} (n:Nat),HasL H ds vs->HasL H (ds.drop n) (vs.drop n)
 | ds,vs,0,h=>h
 | [],vs,n+1,h=>by rw [zS.mp h]; exact zS.mpr rfl
 | d :: ds,vs,n+1,h=>by
  obtain⟨v,r,rfl,_,l⟩:=zH.mp h;exact HasL.drop n l
theorem HasL.take{H:Hp}:∀ {ds:List PyData} {vs:List V} (n:Nat),HasL H ds vs->HasL H (ds.take n) (vs.take n)
 | ds,vs,0,h=>zS.mpr rfl
 | [],vs,n+1,h=>by rw [zS.mp h]; exact zS.mpr rfl
 | d :: ds,vs,n+1,h=>by
  obtain⟨v,r,rfl,q,l⟩:=zH.mp h;exact zH.mpr ⟨v,_,rfl,q,HasL.take n l⟩
theorem HasL.cut{H:Hp}{ds:List PyData}{vs:List V}(lo hi:Option Int)(h:HasL H ds vs):HasL H (zdP ds lo hi) (zl8 vs lo hi):=by
 unfold zdP zl8;rw [h.length];exact(h.drop _).take _
theorem HasL.rev{H:Hp}:∀ {ds:List PyData} {vs:List V},HasL H ds vs->HasL H ds.reverse vs.reverse
 | [],vs,h=>by rw [zS.mp h]; exact zS.mpr rfl
 | d :: ds,vs,h=>by
  obtain⟨v,r,rfl,q,l⟩:=zH.mp h;rw [List.reverse_cons,List.reverse_cons];exact(HasL.rev l).append (zH.mpr ⟨v,[],rfl,q,zS.mpr rfl⟩)
end
section
theorem zqQ:∀ {l:List Addr} {H:Hp} {b:Addr} {u:HO},vw l H b=some u↔b∉l/\H b=some u
 | [],H,b,u=>by simp [vw]
 | a :: r,H,b,u=>by
  show hid a (vw r H) b=some u↔_;by_cases h:b=a
  ·subst h; simp [zps]
  ·rw [zsy h,zqQ]; simp [h]
def vx(h o:List Addr)(H:Hp):Hp:=vw (h++o) H
theorem zaq{h o:List Addr}{H:Hp}{b:Addr}{u:HO}:vx h o H b=some u↔b∉h/\b∉o/\H b=some u:=by
 unfold vx;rw [zqQ];simp [and_assoc]
theorem zao{h o:List Addr}{H:Hp}:Same (vx h o H) H:=fun b u e=>(zaq.mp e).2.2
theorem zeQ{h o:List Addr}{H H':Hp}(s:Same H H'):Same (vx h o H) (vx h o H'):=fun b u e=>by
 obtain⟨h1,h2,h3⟩:=zaq.mp e;exact zaq.mpr ⟨h1,h2,s b u h3⟩
structure Ex(o:List Addr)(H:Hp)(o':List Addr)(H':Hp):Prop where
 pre:∃ r,o'=o++r
 kp:∀ b u,b∉o->H b=some u->b∉o'/\H' b=some u
section
variable {h o o' o'':List Addr} {H H' H'':Hp} {S:List (List PyData)} {p a:Addr}
theorem Ex.refl:Ex o H o H:=⟨⟨[],by simp⟩,fun _ _ a b=>⟨a,b⟩⟩
theorem Ex.trans(a:Ex o H o' H')(b:Ex o' H' o'' H''):Ex o H o'' H'':=by
 obtain⟨⟨r,e⟩,ka⟩:=a;obtain⟨⟨t,e'⟩,kb⟩:=b;refine⟨⟨r++t,by rw [e',e,List.append_assoc]⟩,fun b u h1 h2=>?_⟩;obtain⟨h3,h4⟩:=ka b u h1 h2;exact kb b u h3 h4
theorem Ex.vx(e:Ex o H o' H'):Same (L2.vx h o H) (L2.vx h o' H'):=fun b u q=>by
 obtain⟨h1,h2,h3⟩:=zaq.mp q;obtain⟨h4,h5⟩:=e.kp b u h2 h3;exact zaq.mpr ⟨h1,h4,h5⟩
structure ExH(h o:List Addr)(H:Hp)(o':List Addr)(H':Hp):Prop where
 pre:∃ r,o'=o++r
 kp:∀ b u,b∉h->b∉o->H b=some u->b∉o'/\H' b=some u
theorem Ex.hid(e:Ex o H o' H'):ExH h o H o' H':=⟨e.pre,fun b u _=>e.kp b u⟩
theorem ExH.refl:ExH h o H o H:=Ex.refl.hid
theorem ExH.trans(a:ExH h o H o' H')(b:ExH h o' H' o'' H''):ExH h o H o'' H'':=by
 obtain⟨⟨r,e⟩,ka⟩:=a;obtain⟨⟨t,e'⟩,kb⟩:=b;refine⟨⟨r++t,by rw [e',e,List.append_assoc]⟩,fun b u h0 h1 h2=>?_⟩;obtain⟨h3,h4⟩:=ka b u h0 h1 h2;exact kb b u h0 h3 h4
theorem ExH.vx(e:ExH h o H o' H'):Same (L2.vx h o H) (L2.vx h o' H'):=fun b u q=>by
 obtain⟨h1,h2,h3⟩:=zaq.mp q;obtain⟨h4,h5⟩:=e.kp b u h1 h2 h3;exact zaq.mpr ⟨h1,h4,h5⟩
theorem Ex.of_same(s:Same H H'):Ex o H o H':=⟨⟨[],by simp⟩,fun b u h e=>⟨h,s b u e⟩⟩
theorem ze0{α:Type}{l t:List α}{k:Nat}{a:α}(q:l[k]? = some a):(l++t)[k]? = some a:=by
 obtain⟨hk,_⟩:=List.getElem?_eq_some_iff.mp q;rw [List.getElem?_append_left hk];exact q
def exO(a C:Addr)(d:Option Addr):HO:=.ext fun h=>∃ o,h.get? a=some o/\o.cls=.ref C/\o.dict=d/\∃ vs,o.data=.fields vs
def xw(dx:Addr)(fs:List (Str×V)):HO:=.ext fun h=>∃ mA,h.Ns1 dx mA/\(∀ f,RelO (fs.lookup f) (mA f))/\PySem.Within mA (fs.map (·.1))
def HasE(H:Hp)(C:Addr)(fs:List (Str×PyData))(v:V):Prop:=∃ a d,v=.ref a/\H a=some (exO a C d)/\∀ f dt,fs.lookup f=some dt->∃ dx vs u,d=some dx/\H dx=some (xw dx vs)/\vs.lookup f=some u/\Has H dt u
theorem HasE.mono{H H':Hp}{C:Addr}{fs:List (Str×PyData)}{v:V}(s:Same H H')(q:HasE H C fs v):HasE H' C fs v:=by
 obtain⟨a,d,e,ha,hf⟩:=q;refine⟨a,d,e,s _ _ ha,fun f dt l=>?_⟩;obtain⟨dx,vs,u,e1,e2,e3,e4⟩:=hf f dt l;exact⟨dx,vs,u,e1,s _ _ e2,e3,Has.mono s _ _ e4⟩
inductive XV where
 | d (d:PyData)
 | l (k:Nat)
 | o (v:V)
 | x (C:Addr) (fs:List (Str×PyData))
def HasX(h o:List Addr)(H:Hp):XV->V->Prop
 | .d d,v=>Has (vx h o H) d v
 | .l k,v=>∃ a,o[k]? = some a/\v=.ref a
 | .o w,v=>v=w
 | .x C fs,v=>HasE (vx h o H) C fs v
theorem HasX.mono(e:Ex o H o' H'):∀ {x:XV} {v:V},HasX h o H x v->HasX h o' H' x v
 | .d d,v,q=>Has.mono e.vx d v q
 | .l k,v,⟨a,q,r⟩=>by
  obtain⟨t,rfl⟩:=e.pre;exact⟨a,ze0 q,r⟩
 | .o w,v,q=>q
 | .x C fs,v,q=>HasE.mono e.vx q
def HasXs(h o:List Addr)(H:Hp):List XV->List V->Prop
 | [],vs=>vs=[]
 | x :: xs,vs=>∃ v r,vs=v :: r/\HasX h o H x v/\HasXs h o H xs r
abbrev Sto:=List (List PyData)
inductive MO where
 | l (vs:List V)
 | k (m:List (Key×V))
 | t (m:List (List Key×V))
def MO.ho:MO->HO
 | .l vs=>.lst vs
 | .k m=>.dK m
 | .t m=>.dT m
structure RepS(h o:List Addr)(H:Hp)(S:Sto):Prop where
 len:S.length=o.length
 nd:o.Nodup
 dis:∀ a∈o,a∉h
 hal:∀ b∈h,∃ u:MO,H b=some u.ho
 cont:∀ (k:Nat) (a:Addr) (ds:List PyData),o[k]? = some a->S[k]? = some ds->∃ vs,H a=some (.lst vs)/\HasL (vx h o H) ds vs
theorem zoH{α β:Type}{l:List α}{t:List β}{k:Nat}{a:α}(hl:t.length=l.length)(q:l[k]? = some a):∃ b,t[k]? = some b:=by
 obtain⟨hk,_⟩:=List.getElem?_eq_some_iff.mp q;exact⟨t[k]'(by omega),List.getElem?_eq_getElem _⟩
theorem RepS.oal(r:RepS h o H S):∀ a∈o,∃ u,H a=some (.lst u):=fun a ha=>by
 obtain⟨k,hk⟩:=List.mem_iff_getElem?.mp ha;obtain⟨ds,e⟩:=zoH r.len hk;obtain⟨vs,e',_⟩:=r.cont k a ds hk e;exact⟨_,e'⟩
theorem RepS.oam(r:RepS h o H S):∀ a∈o,∃ u:MO,H a=some u.ho:=fun a ha=>let ⟨u,e⟩:=r.oal a ha; ⟨.l u,e⟩
theorem RepS.fresh(r:RepS h o H S)(hp:H p=none):p∉h/\p∉o:=by
 constructor
 ·intro m;obtain⟨u,e⟩:=r.hal p m;rw [hp] at e;cases e
 ·intro m;obtain⟨u,e⟩:=r.oal p m;rw [hp] at e;cases e
theorem RepS.same(r:RepS h o H S)(s:Same H H'):RepS h o H' S where
 len:=r.len
 nd:=r.nd
 dis:=r.dis
 hal:=fun b m=>by obtain⟨u,e⟩:=r.hal b m; exact⟨u,s b _ e⟩
 cont:=fun k a ds e1 e2=>by
  obtain⟨vs,e3,l⟩:=r.cont k a ds e1 e2;exact⟨vs,s _ _ e3,HasL.mono (zeQ s) _ _ l⟩
theorem RepS.laid{u:HO}(r:RepS h o H S)(hp:H p=none):vx h o (upd H p u) p=some u:=by
 obtain⟨h1,h2⟩:=r.fresh hp;exact zaq.mpr ⟨h1,h2,zam⟩
theorem Ex.new{u:HO}(r:RepS h o H S)(hp:H p=none):Ex o H (o++[p]) (upd H p u):=by
 refine⟨⟨[p],rfl⟩,fun b w hb e=>?_⟩;have ne:b≠p:=zal e hp;exact⟨by simp [hb,ne],by rw [zZ ne]; exact e⟩
theorem zcq{α:Type}{l:List α}{a:α}(h:l.Nodup)(n:a∉l):(l++[a]).Nodup:=by
 rw [List.nodup_append];refine⟨h,by simp,fun x hx y hy e=>?_⟩;rw [List.mem_singleton] at hy;subst hy;subst e;exact n hx
theorem RepS.new{ds:List PyData}{vs:List V}(r:RepS h o H S)(hp:H p=none)(l:HasL (vx h o H) ds vs):RepS h (o++[p]) (upd H p (.lst vs)) (S++[ds]):=by
 obtain⟨h1,h2⟩:=r.fresh hp;have ex:Ex o H (o++[p]) (upd H p (.lst vs)):=Ex.new r hp;refine⟨by simp [r.len],zcq r.nd h2,fun a ha=>?_,fun b hb=>?_,fun k a es e1 e2=>?_⟩
 ·rcases List.mem_append.mp ha with ha | ha
  ·exact r.dis a ha
  ·rw [List.mem_singleton.mp ha]; exact h1
 ·obtain⟨u,e⟩:=r.hal b hb;exact⟨u,by rw [zZ (zal e hp)]; exact e⟩
 ·by_cases hk:k<o.length
  ·rw [List.getElem?_append_left hk] at e1;rw [List.getElem?_append_left (by rw [r.len]; exact hk)] at e2;obtain⟨ws,e3,l3⟩:=r.cont k a es e1 e2;refine⟨ws,?_,l3.mono ex.vx⟩;rw [zZ (zal e3 hp)];exact e3
  ·have hk':k=o.length:=by
    obtain⟨q,_⟩:=List.getElem?_eq_some_iff.mp e1;rw [List.length_append,List.length_singleton] at q;omega
   subst hk';rw [List.getElem?_concat_length] at e1;rw [<- r.len,List.getElem?_concat_length] at e2;cases e1;cases e2;exact⟨vs,zam,l.mono ex.vx⟩
theorem Ex.upd{k:Nat}{u:HO}(e:o[k]? = some a):Ex o H o (L2.upd H a u) :=
 ⟨⟨[],by simp⟩,fun b w hb eb=>⟨hb,by rw [zZ (fun z=>hb (by rw [z]; exact List.mem_of_getElem? e))]; exact eb⟩⟩
theorem zfh{l:List Addr}(h:l.Nodup){i j:Nat}{a:Addr}(e1:l[i]? = some a)(e2:l[j]? = some a):i=j:=by
 obtain⟨hi,e1⟩:=List.getElem?_eq_some_iff.mp e1;obtain⟨hj,e2⟩:=List.getElem?_eq_some_iff.mp e2;exact(List.getElem_inj h).mp (e1.trans e2.symm)
theorem RepS.upd{k:Nat}{ds:List PyData}{vs:List V}(r:RepS h o H S)(e:o[k]? = some a)(l:HasL (vx h o H) ds vs):RepS h o (L2.upd H a (.lst vs)) (S.set k ds):=by
 have ex:Ex o H o (L2.upd H a (.lst vs)):=Ex.upd e;refine⟨by simp [r.len],r.nd,r.dis,fun b hb=>?_,fun j b es e1 e2=>?_⟩
 ·obtain⟨u,eb⟩:=r.hal b hb;have ne:b≠a:=fun z=>r.dis a (List.mem_of_getElem? e) (z▸hb);exact⟨u,by rw [zZ ne]; exact eb⟩
 ·by_cases hj:j=k
  ·subst hj;rw [e1] at e;cases e;obtain⟨hk,_⟩:=List.getElem?_eq_some_iff.mp e1;rw [List.getElem?_set_self (by rw [r.len]; exact hk)] at e2;cases e2;exact⟨vs,zam,l.mono ex.vx⟩
  ·rw [List.getElem?_set_ne (Ne.symm hj)] at e2;obtain⟨ws,e3,l3⟩:=r.cont j b es e1 e2;have ne:b≠a:=fun z=>hj (zfh r.nd e1 (z▸e));exact⟨ws,by rw [zZ ne]; exact e3,l3.mono ex.vx⟩
abbrev XE:=List (Option XV)
structure RepE(h o:List Addr)(H:Hp)(δ:XE)(σ:St):Prop where
 len:δ.length=σ.length
 get:∀ (i:Nat) x,δ[i]? = some (some x)->∃ v,σ[i]? = some (some v)/\HasX h o H x v
variable {δ:XE} {σ:St}
theorem RepE.mono(r:RepE h o H δ σ)(e:Ex o H o' H'):RepE h o' H' δ σ:=⟨r.len,fun i x q=>by
 obtain⟨v,e1,e2⟩:=r.get i x q;exact⟨v,e1,e2.mono e⟩⟩
theorem RepE.set{i:Nat}{x:XV}{v:V}(r:RepE h o H δ σ)(q:HasX h o H x v):RepE h o H (δ.set i (some x)) (σ.set i (some v)):=by
 refine⟨by simp [r.len],fun j y e=>?_⟩;rw [List.getElem?_set] at e ⊢;by_cases hij:i=j
 ·rw [if_pos hij] at e ⊢;by_cases hl:i<δ.length
  ·rw [if_pos hl] at e;rw [if_pos (by rw [<- r.len]; exact hl)];cases e;exact⟨v,rfl,q⟩
  ·rw [if_neg hl] at e;cases e
 ·rw [if_neg hij] at e ⊢;exact r.get j y e
def zp6(caps:List (Option Nat))(δ:XE):XE:=caps.map fun o=>o.bind fun i=>(δ[i]?).join
theorem RepE.tau{caps:List (Option Nat)}(r:RepE h o H δ σ):RepE h o H (zp6 caps δ) (L2.tau caps σ):=by
 refine⟨by simp [zp6,L2.tau],fun i x e=>?_⟩;unfold zp6 at e;unfold L2.tau;rw [List.getElem?_map] at e ⊢;cases hc:caps[i]? with
 | none=>rw [hc] at e; cases e
 | some c =>
  rw [hc] at e;cases c with
  | none=>cases e
  | some j =>
   have e':(δ[j]?).join=some x:=by simpa using e
   have e2:δ[j]? = some (some x):=by
    cases hd:δ[j]? with
    | none=>rw [hd] at e'; cases e'
    | some y=>rw [hd] at e'; exact congrArg some (by simpa using e')
   obtain⟨v,e3,e4⟩:=r.get j x e2;exact⟨v,by simp [e3],e4⟩
end
abbrev RX:=XV->Sto->Prop
abbrev DE:=XE->Sto->RX->Prop
abbrev DT:=XE->Sto->(Bool->Sto->Prop)->Prop
abbrev DA:=XE->Sto->(List XV->Sto->Prop)->Prop
abbrev D2:=XV->XV->Sto->RX->Prop
def Cn(h o:List Addr)(H:Hp)(R:RX)(Q:VK):Prop:=∀ o' H' S' x v,Ex o H o' H'->RepS h o' H' S'->HasX h o' H' x v->R x S'->Q v H'
theorem Cn.pre{h o o':List Addr}{H H':Hp}{R:RX}{Q:VK}(c:Cn h o H R Q)(e:Ex o H o' H'):Cn h o' H' R Q:=fun o2 H2 S2 x v e2=>c o2 H2 S2 x v (e.trans e2)
def RE(t:TE)(dt:DE):Prop:=∀ (h o:List Addr) (H:Hp) (δ:XE) (σ:St) (S:Sto) (R:RX) (Q:VK),RepE h o H δ σ->RepS h o H S->dt δ S R->Cn h o H R Q->t σ H Q
def RT(t:TT)(dt:DT):Prop:=∀ (h o:List Addr) (H:Hp) (δ:XE) (σ:St) (S:Sto) (R:Bool->Sto->Prop) (Q:Bool->Hp->Prop),RepE h o H δ σ->RepS h o H S->dt δ S R ->
 (∀ o' H' S' b,Ex o H o' H'->RepS h o' H' S'->R b S'->Q b H')->t σ H Q
def RA(t:TA)(dt:DA):Prop:=∀ (h o:List Addr) (H:Hp) (δ:XE) (σ:St) (S:Sto) (R:List XV->Sto->Prop) (Q:List V->Hp->Prop),RepE h o H δ σ->RepS h o H S->dt δ S R ->
 (∀ o' H' S' xs vs,Ex o H o' H'->RepS h o' H' S'->HasXs h o' H' xs vs->R xs S'->Q vs H')->t σ H Q
def RO(r:R2)(rd:D2):Prop:=∀ (h o:List Addr) (H:Hp) (S:Sto) (x y:XV) (v u:V) (R:RX) (Q:VK),RepS h o H S->HasX h o H x v->HasX h o H y u->rd x y S R->Cn h o H R Q->r v u H Q
def RU(r:V->Hp->VK->Prop)(rd:XV->Sto->RX->Prop):Prop:=∀ (h o:List Addr) (H:Hp) (S:Sto) (x:XV) (v:V) (R:RX) (Q:VK),RepS h o H S->HasX h o H x v->rd x S R->Cn h o H R Q->r v H Q
def RC(r:List V->Hp->VK->Prop)(rd:List XV->Sto->RX->Prop):Prop:=∀ (h o:List Addr) (H:Hp) (S:Sto) (xs:List XV) (vs:List V) (R:RX) (Q:VK),RepS h o H S->HasXs h o H xs vs->rd xs S R->Cn h o H R Q->r vs H Q
def asI:XV->(Int->Prop)->Prop
 | .d (.int i),k=>k i
 | _,_=>False
def asB:XV->(Bool->Prop)->Prop
 | .d (.bool i),k=>k i
 | _,_=>False
def asS:XV->(Str->Prop)->Prop
 | .d (.str i),k=>k i
 | _,_=>False
def asT:XV->(List PyData->Prop)->Prop
 | .d (.tuple i),k=>k i
 | _,_=>False
def zpm(S:Sto):XV->Option (List PyData)
 | .d (.list ds)=>some ds
 | .l k=>S[k]?
 | _=>none
def asL(S:Sto)(x:XV)(k:List PyData->Prop):Prop:=∃ ds,zpm S x=some ds/\k ds
def zgn(S:Sto):XV->Option PyData
 | .d d=>some d
 | .l k=>(S[k]?).map .list
 | .o _=>none
 | .x _ _=>none
def asD(x:XV)(k:PyData->Prop):Prop:=match x with
 | .d d=>k d
 | _=>False
theorem zbi{x:XV}{k:Int->Prop}(h:asI x k):∃ i,x=.d (.int i)/\k i:=by
 unfold asI at h;split at h
 ·exact⟨_,rfl,h⟩
 ·exact h.elim
theorem zlg{x:XV}{k:Bool->Prop}(h:asB x k):∃ i,x=.d (.bool i)/\k i:=by
 unfold asB at h;split at h
 ·exact⟨_,rfl,h⟩
 ·exact h.elim
theorem zmN{x:XV}{k:Str->Prop}(h:asS x k):∃ i,x=.d (.str i)/\k i:=by
 unfold asS at h;split at h
 ·exact⟨_,rfl,h⟩
 ·exact h.elim
theorem zhz{x:XV}{k:List PyData->Prop}(h:asT x k):∃ i,x=.d (.tuple i)/\k i:=by
 unfold asT at h;split at h
 ·exact⟨_,rfl,h⟩
 ·exact h.elim
theorem zfR{x:XV}{k:PyData->Prop}(h:asD x k):∃ i,x=.d i/\k i:=by
 unfold asD at h;split at h
 ·exact⟨_,rfl,h⟩
 ·exact h.elim
section
variable {h o:List Addr} {H:Hp} {S:Sto} {x:XV} {v:V} {i:Int} {b:Bool} {z:Str} {ds:List PyData} {d:PyData}
theorem zaJ(q:HasX h o H (.d (.int i)) v):v=.int i:=(zbr (H:=vx h o H)).mp q
theorem zfv(q:HasX h o H (.d (.bool b)) v):v=.bl b:=(zfe (H:=vx h o H)).mp q
theorem zdZ(q:HasX h o H (.d (.str z)) v):v=.str z:=(zdD (H:=vx h o H)).mp q
theorem zeC(q:HasX h o H (.d (.tuple ds)) v):∃ a vs,v=.ref a/\H a=some (.tup vs)/\HasL (vx h o H) ds vs:=by
 obtain⟨a,vs,e,q,l⟩:=zaG.mp (show Has _ _ _ from q);exact⟨a,vs,e,zao _ _ q,l⟩
theorem zbN(r:RepS h o H S)(e:zpm S x=some ds)(q:HasX h o H x v):∃ a vs,v=.ref a/\H a=some (.lst vs)/\HasL (vx h o H) ds vs:=by
 unfold zpm at e;split at e
 ·cases e;obtain⟨a,vs,e,q,l⟩:=zbx.mp (show Has _ _ _ from q);exact⟨a,vs,e,zao _ _ q,l⟩
 ·obtain⟨a,e1,rfl⟩:=q;obtain⟨vs,e2,l⟩:=r.cont _ a ds e1 e;exact⟨a,vs,rfl,e2,l⟩
 ·cases e
theorem zdz(r:RepS h o H S)(e:zgn S x=some d)(q:HasX h o H x v):Has H d v:=by
 unfold zgn at e;split at e
 ·cases e;exact Has.mono zao _ _ q
 ·rename_i k;obtain⟨a,e1,rfl⟩:=q;cases hs:S[k]? with
  | none=>rw [hs] at e; cases e
  | some es =>
   rw [hs] at e;cases e;obtain⟨vs,e2,l⟩:=r.cont k a es e1 hs;exact zbx.mpr ⟨a,vs,rfl,e2,HasL.mono zao _ _ l⟩
 ·cases e
 ·cases e
theorem xI(i:Int):HasX h o H (.d (.int i)) (.int i):=(zbr (H:=vx h o H)).mpr rfl
theorem xB(i:Bool):HasX h o H (.d (.bool i)) (.bl i):=(zfe (H:=vx h o H)).mpr rfl
theorem xS(i:Str):HasX h o H (.d (.str i)) (.str i):=(zdD (H:=vx h o H)).mpr rfl
theorem xN:HasX h o H (.d .none) .non:=(ze7 (H:=vx h o H)).mpr rfl
theorem zpL{vs:List V}{R:RX}{Q:VK}(r:RepS h o H S)(l:HasL (vx h o H) ds vs)(c:Cn h o H R Q)(q:R (.d (.tuple ds)) S):∀ p,H p=none->Q (.ref p) (upd H p (.tup vs)):=fun p hp =>
 c o _ S (.d (.tuple ds)) _ (Ex.of_same (Same.laid hp)) (r.same (Same.laid hp)) (zaG.mpr ⟨p,vs,rfl,r.laid hp,l.mono (zeQ (Same.laid hp))⟩) q
theorem zmk{vs:List V}{R:RX}{Q:VK}(r:RepS h o H S)(l:HasL (vx h o H) ds vs)(c:Cn h o H R Q)(q:R (.d (.list ds)) S):∀ p,H p=none->Q (.ref p) (upd H p (.lst vs)):=fun p hp =>
 c o _ S (.d (.list ds)) _ (Ex.of_same (Same.laid hp)) (r.same (Same.laid hp)) (zbx.mpr ⟨p,vs,rfl,r.laid hp,l.mono (zeQ (Same.laid hp))⟩) q
theorem zrQ{vs:List V}{R:RX}{Q:VK}(r:RepS h o H S)(l:HasL (vx h o H) ds vs)(c:Cn h o H R Q)(q:R (.l S.length) (S++[ds])):∀ p,H p=none->Q (.ref p) (upd H p (.lst vs)):=fun p hp =>
 c (o++[p]) _ (S++[ds]) (.l S.length) _ (Ex.new r hp) (r.new hp l) ⟨p,by rw [r.len,List.getElem?_concat_length],rfl⟩ q
theorem zf9:∀ {xs:List XV} {vs:List V} {ds:List PyData},HasXs h o H xs vs->xs=ds.map XV.d->HasL (vx h o H) ds vs
 | [],vs,[],q,_=>zS.mpr q
 | x :: xs,vs,d :: ds,⟨v,r,e,q,l⟩,e2=>by
  rw [List.map_cons] at e2;cases e2;exact zH.mpr ⟨v,r,e,q,zf9 l rfl⟩
 | x :: xs,vs,[],_,e2=>by cases e2
 | [],vs,d :: ds,_,e2=>by cases e2
end
def datas:List XV->Option (List PyData)
 | []=>some []
 | .d d :: r=>(datas r).map (d :: ·)
 | _ :: _=>none
theorem zdr:∀ {xs:List XV} {ds:List PyData},datas xs=some ds->xs=ds.map XV.d
 | [],ds,e=>by cases e; rfl
 | .d d :: r,ds,e=>by
  unfold datas at e;cases hr:datas r with
  | none=>rw [hr] at e; cases e
  | some es =>
   rw [hr] at e;cases e;rw [zdr hr];rfl
 | .l _ :: _,_,e=>by cases e
 | .o _ :: _,_,e=>by cases e
 | .x _ _ :: _,_,e=>by cases e
def zo(i:Nat):DE:=fun δ S R=>∃ x,δ[i]? = some (some x)/\R x S
def dC(d:PyData):DE:=fun _ S R=>R (.d d) S
def dO(v:V):DE:=fun _ S R=>R (.o v) S
def dOp(rd:D2)(a b:DE):DE:=fun δ S R=>a δ S fun x S1=>b δ S1 fun y S2=>rd x y S2 R
def dUn(rd:XV->Sto->RX->Prop)(a:DE):DE:=fun δ S R=>a δ S fun x S1=>rd x S1 R
def zE:DA:=fun _ S R=>R [] S
def ze(a:DE)(b:DA):DA:=fun δ S R=>a δ S fun x S1=>b δ S1 fun xs S2=>R (x :: xs) S2
def dCB(rd:List XV->Sto->RX->Prop)(a:DA):DE:=fun δ S R=>a δ S fun xs S1=>rd xs S1 R
def zfG(a:DA):DE:=fun δ S R=>a δ S fun xs S1=>∃ ds,datas xs=some ds/\ds.length<=1000/\R (.d (.tuple ds)) S1
def zgD(a:DA):DE:=fun δ S R=>a δ S fun xs S1=>∃ ds,datas xs=some ds/\ds.length<=1000/\R (.d (.list ds)) S1
def zfw(a:DA):DE:=fun δ S R=>a δ S fun xs S1=>∃ ds,datas xs=some ds/\ds.length<=1000/\R (.l S1.length) (S1++[ds])
section
variable {t ta tb tc:TE} {da db dc:DE} {tl:TA} {dl:DA} {tt tu:TT} {dt du:DT}
theorem zd{i:Nat}:RE (zoF i) (zo i):=fun h o H δ σ S R Q he hs ⟨x,e,q⟩ c=>by
 obtain⟨v,e1,e2⟩:=he.get i x e;exact⟨v,e1,c o H S x v Ex.refl hs e2 q⟩
theorem zg{i:Int}:RE (tC (.int i)) (dC (.int i)):=fun h o H δ σ S R Q he hs q c=>c o H S _ _ Ex.refl hs (xI i) q
theorem zeU{i:Bool}:RE (tC (.bl i)) (dC (.bool i)):=fun h o H δ σ S R Q he hs q c=>c o H S _ _ Ex.refl hs (xB i) q
theorem zeA{i:Str}:RE (tC (.str i)) (dC (.str i)):=fun h o H δ σ S R Q he hs q c=>c o H S _ _ Ex.refl hs (xS i) q
theorem zqZ:RE (tC .non) (dC .none):=fun h o H δ σ S R Q he hs q c=>c o H S _ _ Ex.refl hs xN q
theorem zux{v:V}:RE (tC v) (dO v):=fun h o H δ σ S R Q he hs q c=>c o H S (.o v) v Ex.refl hs rfl q
theorem zm{r:R2}{rd:D2}(hr:RO r rd)(ha:RE ta da)(hb:RE tb db):RE (tOp r ta tb) (dOp rd da db):=fun h o H δ σ S R Q he hs q c =>
 ha h o H δ σ S _ _ he hs q fun o1 H1 S1 x v e1 s1 x1 d1=>hb h o1 H1 δ σ S1 _ _ (he.mono e1) s1 d1 fun o2 H2 S2 y u e2 s2 y2 d2 =>
  hr h o2 H2 S2 x y v u R Q s2 (x1.mono e2) y2 d2 (c.pre (e1.trans e2))
theorem zdI{r:V->Hp->VK->Prop}{rd:XV->Sto->RX->Prop}(hr:RU r rd)(ha:RE ta da):RE (tUn r ta) (dUn rd da):=fun h o H δ σ S R Q he hs q c =>
 ha h o H δ σ S _ _ he hs q fun o1 H1 S1 x v e1 s1 x1 d1=>hr h o1 H1 S1 x v R Q s1 x1 d1 (c.pre e1)
theorem zh:RA zsa zE:=fun h o H δ σ S R Q he hs q c=>c o H S [] [] Ex.refl hs rfl q
theorem za(ha:RE ta da)(hb:RA tl dl):RA (zlE ta tl) (ze da dl):=fun h o H δ σ S R Q he hs q c =>
 ha h o H δ σ S _ _ he hs q fun o1 H1 S1 x v e1 s1 x1 d1=>hb h o1 H1 δ σ S1 _ _ (he.mono e1) s1 d1 fun o2 H2 S2 xs vs e2 s2 x2 d2 =>
  c o2 H2 S2 (x :: xs) (v :: vs) (e1.trans e2) s2 ⟨v,vs,rfl,x1.mono e2,x2⟩ d2
theorem zaU{r:List V->Hp->VK->Prop}{rd:List XV->Sto->RX->Prop}(hr:RC r rd)(ha:RA tl dl):RE (tCB r tl) (dCB rd dl):=fun h o H δ σ S R Q he hs q c =>
 ha h o H δ σ S _ _ he hs q fun o1 H1 S1 xs vs e1 s1 x1 d1=>hr h o1 H1 S1 xs vs R Q s1 x1 d1 (c.pre e1)
theorem za0(ha:RA tl dl):RE (zuF tl) (zfG dl):=fun h o H δ σ S R Q he hs q c =>
 ha h o H δ σ S _ _ he hs q fun o1 H1 S1 xs vs e1 s1 x1 ⟨ds,e,hl,d1⟩=>by
  have l:=zf9 x1 (zdr e);exact⟨by rw [l.length]; exact Nat.le_of_lt (small1000 hl),zpL s1 l (c.pre e1) d1⟩
theorem zbI(ha:RA tl dl):RE (zr1 tl) (zgD dl):=fun h o H δ σ S R Q he hs q c =>
 ha h o H δ σ S _ _ he hs q fun o1 H1 S1 xs vs e1 s1 x1 ⟨ds,e,hl,d1⟩=>by
  have l:=zf9 x1 (zdr e);exact⟨by rw [l.length]; exact Nat.le_of_lt (small1000 hl),zmk s1 l (c.pre e1) d1⟩
theorem zd6(ha:RA tl dl):RE (zr1 tl) (zfw dl):=fun h o H δ σ S R Q he hs q c =>
 ha h o H δ σ S _ _ he hs q fun o1 H1 S1 xs vs e1 s1 x1 ⟨ds,e,hl,d1⟩=>by
  have l:=zf9 x1 (zdr e);exact⟨by rw [l.length]; exact Nat.le_of_lt (small1000 hl),zrQ s1 l (c.pre e1) d1⟩
def dB(a:DE):DT:=fun δ S R=>a δ S fun x S1=>asB x fun b=>R b S1
def zoE(a:DT):DT:=fun δ S R=>a δ S fun b S1=>R (!b) S1
def ztl(a b:DT):DT:=fun δ S R=>a δ S fun x S1=>if x=true then b δ S1 R else R false S1
def dOr(a b:DT):DT:=fun δ S R=>a δ S fun x S1=>if x=true then R true S1 else b δ S1 R
def zko(a b:DE):DE:=fun δ S R=>a δ S fun x S1=>asB x fun c=>if c=true then b δ S1 R else R (.d (.bool false)) S1
def zuN(a b:DE):DE:=fun δ S R=>a δ S fun x S1=>asB x fun c=>if c=true then R (.d (.bool true)) S1 else b δ S1 R
def zpp(a:DE):DE:=fun δ S R=>a δ S fun x S1=>asB x fun c=>R (.d (.bool (!c))) S1
def dIf(c:DT)(a b:DE):DE:=fun δ S R=>c δ S fun x S1=>if x=true then a δ S1 R else b δ S1 R
theorem zdJ(ha:RE ta da):RT (zpC ta) (dB da):=fun h o H δ σ S R Q he hs q c =>
 ha h o H δ σ S _ _ he hs q fun o1 H1 S1 x v e1 s1 x1 d1=>by
  replace d1:=zlg d1;obtain⟨b,rfl,d1⟩:=d1;exact⟨b,zfv x1,c o1 H1 S1 b e1 s1 d1⟩
theorem zgI(ha:RT tt dt):RT (zuT tt) (zoE dt):=fun h o H δ σ S R Q he hs q c =>
 ha h o H δ σ S _ _ he hs q fun o1 H1 S1 b e1 s1 d1=>c o1 H1 S1 _ e1 s1 d1
theorem zqk(ha:RT tt dt)(hb:RT tu du):RT (zu2 tt tu) (ztl dt du):=fun h o H δ σ S R Q he hs q c =>
 ha h o H δ σ S _ _ he hs q fun o1 H1 S1 b e1 s1 d1=>by
  cases b with
  | true=>exact zpj (hb h o1 H1 δ σ S1 R Q (he.mono e1) s1 (by simpa using d1) fun o2 H2 S2 b e2=>c o2 H2 S2 b (e1.trans e2))
  | false=>exact zpI (c o1 H1 S1 false e1 s1 (by simpa using d1))
theorem zkp(ha:RT tt dt)(hb:RT tu du):RT (tOr tt tu) (dOr dt du):=fun h o H δ σ S R Q he hs q c =>
 ha h o H δ σ S _ _ he hs q fun o1 H1 S1 b e1 s1 d1=>by
  cases b with
  | false=>exact zpI (hb h o1 H1 δ σ S1 R Q (he.mono e1) s1 (by simpa using d1) fun o2 H2 S2 b e2=>c o2 H2 S2 b (e1.trans e2))
  | true=>exact zpj (c o1 H1 S1 true e1 s1 (by simpa using d1))
theorem zkD(ha:RE ta da)(hb:RE tb db):RE (zsW ta tb) (zko da db):=fun h o H δ σ S R Q he hs q c =>
 ha h o H δ σ S _ _ he hs q fun o1 H1 S1 x v e1 s1 x1 d1=>by
  replace d1:=zlg d1;obtain⟨b,rfl,d1⟩:=d1;refine⟨b,zfv x1,?_⟩;cases b with
  | true=>exact zpj (hb h o1 H1 δ σ S1 R Q (he.mono e1) s1 (by simpa using d1) (c.pre e1))
  | false=>exact zpI (c o1 H1 S1 _ _ e1 s1 (xB false) (by simpa using d1))
theorem ztx(ha:RE ta da):RE (ztF ta) (zpp da):=fun h o H δ σ S R Q he hs q c =>
 ha h o H δ σ S _ _ he hs q fun o1 H1 S1 x v e1 s1 x1 d1=>by
  replace d1:=zlg d1;obtain⟨b,rfl,d1⟩:=d1;exact⟨b,zfv x1,c o1 H1 S1 _ _ e1 s1 (xB _) d1⟩
theorem zup(hc:RT tt dt)(ha:RE ta da)(hb:RE tb db):RE (tIf tt ta tb) (dIf dt da db):=fun h o H δ σ S R Q he hs q c =>
 hc h o H δ σ S _ _ he hs q fun o1 H1 S1 b e1 s1 d1=>by
  cases b with
  | true=>exact zpj (ha h o1 H1 δ σ S1 R Q (he.mono e1) s1 (by simpa using d1) (c.pre e1))
  | false=>exact zpI (hb h o1 H1 δ σ S1 R Q (he.mono e1) s1 (by simpa using d1) (c.pre e1))
def zfS(rd rd':D2)(a b e:DE):DE:=fun δ S R=>a δ S fun x S1=>b δ S1 fun y S2=>rd x y S2 fun z S3=>asB z fun k=>if k=true then e δ S3 fun u S4=>rd' y u S4 R else R (.d (.bool false)) S3
theorem ze1{r r':R2}{rd rd':D2}(hr:RO r rd)(hr':RO r' rd')(ha:RE ta da)(hb:RE tb db)(hc:RE tc dc):RE (zmO r r' ta tb tc) (zfS rd rd' da db dc):=fun h o H δ σ S R Q he hs q c =>
 ha h o H δ σ S _ _ he hs q fun o1 H1 S1 x v e1 s1 x1 d1=>hb h o1 H1 δ σ S1 _ _ (he.mono e1) s1 d1 fun o2 H2 S2 y u e2 s2 y2 d2 =>
  hr h o2 H2 S2 x y v u _ _ s2 (x1.mono e2) y2 d2 fun o3 H3 S3 z w e3 s3 z3 d3=>by
   replace d3:=zlg d3;obtain⟨b,rfl,d3⟩:=d3;refine⟨b,zfv z3,?_⟩;cases b with
   | false=>exact zpI (c o3 H3 S3 _ _ ((e1.trans e2).trans e3) s3 (xB false) (by simpa using d3))
   | true=>exact zpj (hc h o3 H3 δ σ S3 _ _ (((he.mono e1).mono e2).mono e3) s3 (by simpa using d3) fun o4 H4 S4 k w' e4 s4 k4 d4=>hr' h o4 H4 S4 y k u w' R Q s4 ((y2.mono e3).mono e4) k4 d4 (c.pre (((e1.trans e2).trans e3).trans e4)))
end
def dI(C:Int->Int->Prop)(g:Int->Int->Int):D2:=fun x y S R=>asI x fun i=>asI y fun j=>C i j/\R (.d (.int (g i j))) S
def dI0(g:Int->Int->Int):D2:=fun x y S R=>asI x fun i=>asI y fun j=>R (.d (.int (g i j))) S
def dIb(g:Int->Int->Bool):D2:=fun x y S R=>asI x fun i=>asI y fun j=>R (.d (.bool (g i j))) S
def dUI(g:Int->Int):XV->Sto->RX->Prop:=fun x S R=>asI x fun i=>R (.d (.int (g i))) S
def zil:D2:=fun x y S R=>∃ d,zgn S x=some d/\∃ e,zgn S y=some e/\SeqAt.shaped d=true/\SeqAt.shaped e=true/\R (.d (.bool (PyData.eqv d e))) S
def zld:D2:=fun x y S R=>∃ d,zgn S x=some d/\∃ e,zgn S y=some e/\SeqAt.shaped d=true/\SeqAt.shaped e=true/\R (.d (.bool (!PyData.eqv d e))) S
def zsk:D2:=fun x _ S R=>asD x fun d=>R (.d (.bool (zpG d))) S
def zu5:D2:=fun x y S R=>asT x fun ds=>asI y fun i=>∃ d,atI ds i=some d/\R (.d d) S
def zvg:D2:=fun x y S R=>asL S x fun ds=>asI y fun i=>∃ d,atI ds i=some d/\R (.d d) S
def zvf:D2:=fun x y S R=>asL S x fun ds=>asL S y fun es=>ds.length+es.length<=1000/\R (.d (.list (ds++es))) S
def zt6:D2:=fun x y S R=>asT x fun ds=>asT y fun es=>ds≠[]/\ds.length+es.length<=1000/\R (.d (.tuple (ds++es))) S
section
theorem zhI{C:Int->Int->Prop}{g:Int->Int->Int}:RO (rI C fun i j=>.int (g i j)) (dI C g):=fun h o H S x y v u R Q hs hx hy q c=>by
 replace q:=zbi q;obtain⟨i,rfl,q⟩:=q;replace q:=zbi q;obtain⟨j,rfl,hc,q⟩:=q;exact⟨i,j,zaJ hx,zaJ hy,hc,c o H S _ _ Ex.refl hs (xI _) q⟩
theorem zb9{g:Int->Int->Int}:RO (rI0 fun i j=>.int (g i j)) (dI0 g):=fun h o H S x y v u R Q hs hx hy q c=>by
 replace q:=zbi q;obtain⟨i,rfl,q⟩:=q;replace q:=zbi q;obtain⟨j,rfl,q⟩:=q;exact⟨i,j,zaJ hx,zaJ hy,c o H S _ _ Ex.refl hs (xI _) q⟩
theorem zcI{g:Int->Int->Bool}:RO (rI0 fun i j=>.bl (g i j)) (dIb g):=fun h o H S x y v u R Q hs hx hy q c=>by
 replace q:=zbi q;obtain⟨i,rfl,q⟩:=q;replace q:=zbi q;obtain⟨j,rfl,q⟩:=q;exact⟨i,j,zaJ hx,zaJ hy,c o H S _ _ Ex.refl hs (xB _) q⟩
theorem ziO{g:Int->Int}:RU (rU fun i=>.int (g i)) (dUI g):=fun h o H S x v R Q hs hx q c=>by
 replace q:=zbi q;obtain⟨i,rfl,q⟩:=q;exact⟨i,zaJ hx,c o H S _ _ Ex.refl hs (xI _) q⟩
theorem zc8:RO zuJ zil:=fun h o H S x y v u R Q hs hx hy q c=>by
 obtain⟨d,q1,e,q2,q3,q4,q⟩:=q;exact⟨d,e,zdz hs q1 hx,zdz hs q2 hy,q3,q4,c o H S _ _ Ex.refl hs (xB _) q⟩
theorem zee:RO zu1 zld:=fun h o H S x y v u R Q hs hx hy q c=>by
 obtain⟨d,q1,e,q2,q3,q4,q⟩:=q;exact⟨d,e,zdz hs q1 hx,zdz hs q2 hy,q3,q4,c o H S _ _ Ex.refl hs (xB _) q⟩
theorem zqI{ta:TE}{da:DE}(ha:RE ta da):RE (tOp zuP ta (tC .non)) (dOp zsk da (dC .none)):=fun h o H δ σ S R Q he hs q c =>
 ha h o H δ σ S _ _ he hs q fun o1 H1 S1 x v e1 s1 x1 d1=>by
  replace d1:=zfR d1;obtain⟨d,rfl,d1⟩:=d1;have e:=znD (show Has _ d v from x1);exact⟨rfl,by rw [e]; exact c o1 H1 S1 _ _ e1 s1 (xB _) d1⟩
theorem HasL.atI{H:Hp}{ds:List PyData}{vs:List V}{i:Int}{d:PyData}(l:HasL H ds vs)(e:L2.atI ds i=some d):∃ v,L2.atI vs i=some v/\Has H d v:=by
 unfold L2.atI at e ⊢;rw [l.length];cases hn:ixN ds.length i with
 | none=>rw [hn] at e; cases e
 | some j =>
  rw [hn] at e;exact l.get (show ds[j]? = some d from e)
theorem zsJ{K:W.Frag}:RO (zug K) zu5:=fun h o H S x y v u R Q hs hx hy q c=>by
 replace q:=zhz q;obtain⟨ds,rfl,q⟩:=q;replace q:=zbi q;obtain⟨i,rfl,d,e,q⟩:=q;obtain⟨a,vs,rfl,ea,l⟩:=zeC hx;obtain⟨w,ew,hw⟩:=l.atI e;exact⟨a,vs,i,w,rfl,zaJ hy,.of ea,ew,c o H S (.d d) w Ex.refl hs hw q⟩
theorem zqz{K:W.Frag}:RO (zui K) zvg:=fun h o H S x y v u R Q hs hx hy q c=>by
 obtain⟨ds,e0,q⟩:=q;replace q:=zbi q;obtain⟨i,rfl,d,e,q⟩:=q;obtain⟨a,vs,rfl,ea,l⟩:=zbN hs e0 hx;obtain⟨w,ew,hw⟩:=l.atI e;exact⟨a,vs,i,w,rfl,zaJ hy,.of ea,ew,c o H S (.d d) w Ex.refl hs hw q⟩
theorem ztO:RO zr8 zvf:=fun h o H S x y v u R Q hs hx hy q c=>by
 obtain⟨ds,e0,es,e1,hl,q⟩:=q;obtain⟨a,vs,rfl,ea,la⟩:=zbN hs e0 hx;obtain⟨b,us,rfl,eb,lb⟩:=zbN hs e1 hy;exact⟨a,b,vs,us,rfl,rfl,ea,eb,by rw [la.length,lb.length]; exact Nat.le_of_lt (small1000 hl),zmk hs (la.append lb) c q⟩
theorem zru{K:W.Frag}:RO (zrM K) zt6:=fun h o H S x y v u R Q hs hx hy q c=>by
 replace q:=zhz q;obtain⟨ds,rfl,q⟩:=q;replace q:=zhz q;obtain⟨es,rfl,hn,hl,q⟩:=q;obtain⟨a,vs,rfl,ea,la⟩:=zeC hx;obtain⟨b,us,rfl,eb,lb⟩:=zeC hy;refine⟨a,b,vs,us,rfl,rfl,.of ea,.of eb,fun z=>?_,by rw [la.length,lb.length]; exact Nat.le_of_lt (small1000 hl),fun z=>?_,fun _=>zpL hs (la.append lb) c q⟩
 ·subst z;have:=la.length;exact hn (List.eq_nil_of_length_eq_zero this.symm)
 ·subst z;have e:es=[]:=List.eq_nil_of_length_eq_zero lb.length.symm;subst e;rw [List.append_nil] at q;exact c o H S (.d (.tuple ds)) _ Ex.refl hs hx q
end
abbrev DO:=XE->Sto->(Option Int->Sto->Prop)->Prop
def RP(t:TO)(dt:DO):Prop:=∀ (h o:List Addr) (H:Hp) (δ:XE) (σ:St) (S:Sto) (R:Option Int->Sto->Prop) (Q:Option Int->Hp->Prop),RepE h o H δ σ->RepS h o H S->dt δ S R ->
 (∀ o' H' S' b,Ex o H o' H'->RepS h o' H' S'->R b S'->Q b H')->t σ H Q
def zbB:DO:=fun _ S R=>R none S
def ze2(a:DE):DO:=fun δ S R=>a δ S fun x S1=>asI x fun i=>R (some i) S1
theorem zeh:RP znO zbB:=fun h o H δ σ S R Q he hs q c=>c o H S none Ex.refl hs q
theorem zdO{t:TE}{da:DE}(ha:RE t da):RP (zlA t) (ze2 da):=fun h o H δ σ S R Q he hs q c =>
 ha h o H δ σ S _ _ he hs q fun o1 H1 S1 x v e1 s1 x1 d1=>by
  replace d1:=zbi d1;obtain⟨i,rfl,d1⟩:=d1;exact⟨i,zaJ x1,c o1 H1 S1 _ e1 s1 d1⟩
abbrev D3:=XV->Option Int->Option Int->Sto->RX->Prop
def RL(r:V->Option Int->Option Int->Hp->VK->Prop)(rd:D3):Prop:=∀ (h o:List Addr) (H:Hp) (S:Sto) (x:XV) (v:V) (a b:Option Int) (R:RX) (Q:VK),RepS h o H S->HasX h o H x v->rd x a b S R->Cn h o H R Q->r v a b H Q
def dSl(rd:D3)(e:DE)(a b:DO):DE:=fun δ S R=>e δ S fun x S1=>a δ S1 fun i S2=>b δ S2 fun j S3=>rd x i j S3 R
theorem zjG{r:V->Option Int->Option Int->Hp->VK->Prop}{rd:D3}{te:TE}{de:DE}{ta tb:TO}{da db:DO}(hr:RL r rd)(he':RE te de)(ha:RP ta da)(hb:RP tb db):RE (tSl r te ta tb) (dSl rd de da db):=fun h o H δ σ S R Q he hs q c =>
 he' h o H δ σ S _ _ he hs q fun o1 H1 S1 x v e1 s1 x1 d1=>ha h o1 H1 δ σ S1 _ _ (he.mono e1) s1 d1 fun o2 H2 S2 i e2 s2 d2=>hb h o2 H2 δ σ S2 _ _ ((he.mono e1).mono e2) s2 d2 fun o3 H3 S3 j e3 s3 d3 =>
  hr h o3 H3 S3 x v i j R Q s3 ((x1.mono e2).mono e3) d3 (c.pre ((e1.trans e2).trans e3))
def zu8:D3:=fun x i j S R=>asL S x fun ds=>R (.d (.list (zdP ds i j))) S
def zvd:D3:=fun x i j S R=>asT x fun ds=>¬ (HT.sIx ds.length 0 i=0/\HT.sIx ds.length ds.length j=ds.length)/\R (.d (.tuple (zdP ds i j))) S
theorem zn4{K:W.Frag}:RL (zta K) zu8:=fun h o H S x v a b R Q hs hx q c=>by
 obtain⟨ds,e0,q⟩:=q;obtain⟨p,vs,rfl,ea,l⟩:=zbN hs e0 hx;exact⟨p,vs,rfl,.of ea,zmk hs (l.cut a b) c q⟩
theorem zs1{K:W.Frag}:RL (zuw K) zvd:=fun h o H S x v a b R Q hs hx q c=>by
 replace q:=zhz q;obtain⟨ds,rfl,hn,q⟩:=q;obtain⟨p,vs,rfl,ea,l⟩:=zeC hx;exact⟨p,vs,rfl,.of ea,by rw [l.length]; exact hn,zpL hs (l.cut a b) c q⟩
def asQ(S:Sto):XV->Option (List PyData)
 | .d (.tuple ds)=>some ds
 | .d (.list ds)=>some ds
 | .l k=>S[k]?
 | _=>none
theorem zjt{h o:List Addr}{H:Hp}{S:Sto}{x:XV}{v:V}{ds:List PyData}(r:RepS h o H S)(e:asQ S x=some ds)(q:HasX h o H x v):∃ a vs,v=.ref a/\(H a=some (.tup vs)\/H a=some (.lst vs))/\HasL (vx h o H) ds vs:=by
 unfold asQ at e;split at e
 ·cases e;obtain⟨a,vs,e,q,l⟩:=zeC q;exact⟨a,vs,e,.inl q,l⟩
 ·cases e;obtain⟨a,vs,e,q,l⟩:=zbN (x:=.d (.list ds)) (ds:=ds) r rfl q;exact⟨a,vs,e,.inr q,l⟩
 ·rename_i k;obtain⟨a,vs,e,q,l⟩:=zbN (x:=.l k) r e q;exact⟨a,vs,e,.inr q,l⟩
 ·cases e
def arg1:List XV->(XV->Prop)->Prop
 | [x],k=>k x
 | _,_=>False
def arg2:List XV->(XV->XV->Prop)->Prop
 | [x,y],k=>k x y
 | _,_=>False
theorem zbj{xs:List XV}{k:XV->Prop}(h:arg1 xs k):∃ x,xs=[x]/\k x:=by
 unfold arg1 at h;split at h
 ·exact⟨_,rfl,h⟩
 ·exact h.elim
theorem zkq{xs:List XV}{k:XV->XV->Prop}(h:arg2 xs k):∃ x y,xs=[x,y]/\k x y:=by
 unfold arg2 at h;split at h
 ·exact⟨_,_,rfl,h⟩
 ·exact h.elim
theorem hxs1{h o:List Addr}{H:Hp}{x:XV}{vs:List V}(q:HasXs h o H [x] vs):∃ v,vs=[v]/\HasX h o H x v:=by
 obtain⟨v,r,e,hx,hr⟩:=q;cases hr;exact⟨v,e,hx⟩
theorem hxs2{h o:List Addr}{H:Hp}{x y:XV}{vs:List V}(q:HasXs h o H [x,y] vs):∃ v u,vs=[v,u]/\HasX h o H x v/\HasX h o H y u:=by
 obtain⟨v,r,e,hx,q⟩:=q;obtain⟨u,e',hy⟩:=hxs1 q;subst e';exact⟨v,u,e,hx,hy⟩
def zt9:XV->(String->Prop)->Prop
 | .o v,k=>∃ c,v=.ty c/\k c
 | _,_=>False
def zul:XV->(Int->Prop)->Prop
 | .d d,k=>match d with
  | .int i=>k i
  | .bool b=>k (if b then 1 else 0)
  | _=>False
 | _,_=>False
theorem zq6{x:XV}{k:String->Prop}(h:zt9 x k):∃ c,x=.o (.ty c)/\k c:=by
 cases x with
 | o v =>
  obtain⟨c,rfl,h⟩:=h;exact⟨c,rfl,h⟩
 | d d=>exact h.elim
 | l j=>exact h.elim
 | x _ _=>exact h.elim
theorem zro{x:XV}{k:Int->Prop}(h:zul x k):(∃ i,x=.d (.int i)/\k i)\/∃ b,x=.d (.bool b)/\k (if b then 1 else 0):=by
 cases x with
 | d d =>
  cases d with
  | int i=>exact .inl ⟨i,rfl,h⟩
  | bool b=>exact .inr ⟨b,rfl,h⟩
  | _=>exact h.elim
 | _=>exact h.elim
def zvc:List XV->Sto->RX->Prop:=fun xs S R=>arg1 xs fun x=>∃ ds,asQ S x=some ds/\R (.d (.int ds.length)) S
theorem znR{K:W.Frag}:RC (zuh K) zvc:=fun h o H S xs vs R Q hs hx q c=>by
 obtain⟨x,rfl,ds,hd,q1⟩:=zbj q;obtain⟨v,rfl,hx1⟩:=hxs1 hx;obtain⟨a,ws,rfl,ea,l⟩:=zjt hs hd hx1;refine⟨a,ws,rfl,ea.elim (fun z=>.inr (.of z)) (fun z=>.inl (.of z)),?_⟩;rw [l.length];exact c o H S _ _ Ex.refl hs (xI _) q1
def zr9:List XV->Sto->RX->Prop:=fun xs S R=>arg2 xs fun x y=>zt9 y fun cl=>∃ d,zgn S x=some d/\cl∈zq2/\R (.d (.bool (zsd d cl))) S
theorem zms:RC zuv zr9:=fun h o H S xs vs R Q hs hx q c=>by
 obtain⟨x,y,rfl,q1⟩:=zkq q;obtain⟨cl,rfl,d,hd,hc,q2⟩:=zq6 q1;obtain⟨v,u,rfl,hx1,hu⟩:=hxs2 hx;cases hu;exact zrL (zdz hs hd hx1) hc (c o H S _ _ Ex.refl hs (xB _) q2)
def zsn:List XV->Sto->RX->Prop:=fun xs S R=>arg1 xs fun x=>asI x fun i=>R (.d (.int (if i<0 then -i else i))) S
theorem zpW:RC (fun xs H Q=>∃ i,xs=[.int i]/\Q (.int (if i<0 then -i else i)) H) zsn:=fun h o H S xs vs R Q hs hx q c=>by
 obtain⟨x,rfl,q1⟩:=zbj q;obtain⟨v,rfl,hx1⟩:=hxs1 hx;obtain⟨i,rfl,q2⟩:=zbi q1;exact⟨i,by rw [zaJ hx1],c o H S _ _ Ex.refl hs (xI _) q2⟩
def znB:List XV->Sto->RX->Prop:=fun xs S R=>arg1 xs fun x=>zul x fun i=>R (.d (.int i)) S
theorem zrE:RC (fun xs H Q=>(∃ i,xs=[.int i]/\Q (.int i) H)\/∃ k,xs=[.bl k]/\Q (.int (if k then 1 else 0)) H) znB:=fun h o H S xs vs R Q hs hx q c=>by
 obtain⟨x,rfl,q1⟩:=zbj q;obtain⟨v,rfl,hx1⟩:=hxs1 hx;rcases zro q1 with ⟨i,rfl,q2⟩ | ⟨b,rfl,q2⟩
 ·exact .inl ⟨_,by rw [zaJ hx1],c o H S _ _ Ex.refl hs (xI _) q2⟩
 ·exact .inr ⟨_,by rw [zfv hx1],c o H S _ _ Ex.refl hs (xI _) q2⟩
def dI2(g:Int->Int->Int):List XV->Sto->RX->Prop:=fun xs S R=>arg2 xs fun x y=>asI x fun i=>asI y fun j=>R (.d (.int (g i j))) S
theorem znZ{g:Int->Int->Int}:RC (fun xs H Q=>∃ i j,xs=[.int i,.int j]/\Q (.int (g i j)) H) (dI2 g):=fun h o H S xs vs R Q hs hx q c=>by
 obtain⟨x,y,rfl,q1⟩:=zkq q;obtain⟨v,u,rfl,hx1,hu⟩:=hxs2 hx;obtain⟨i,rfl,q2⟩:=zbi q1;obtain⟨j,rfl,q3⟩:=zbi q2;exact⟨i,j,by rw [zaJ hx1,zaJ hu],c o H S _ _ Ex.refl hs (xI _) q3⟩
def zfk:List XV->Sto->RX->Prop:=fun xs S R=>arg1 xs fun x=>∃ ds,asQ S x=some ds/\R (.d (.tuple ds)) S
theorem zek{K:W.Frag}:RC (fun xs H Q=>∃ p ys,xs=[.ref p]/\((SqL K H p ys/\∀ l,H l=none->Q (.ref l) (upd H l (.tup ys)))\/(SqT K H p ys/\Q (.ref p) H))) zfk:=fun h o H S xs vs R Q hs hx q c=>by
 obtain⟨x,rfl,ds,hd,q1⟩:=zbj q;obtain⟨v,rfl,hx1⟩:=hxs1 hx;obtain⟨a,ws,rfl,ea,l⟩:=zjt hs hd hx1;refine⟨a,ws,rfl,ea.elim (fun z=>.inr ⟨.of z,?_⟩) (fun z=>.inl ⟨.of z,zpL hs l c q1⟩)⟩;have hh:HasX h o H (.d (.tuple ds)) (.ref a):=by
  unfold asQ at hd;split at hd
  ·cases hd;exact hx1
  ·obtain⟨a',us,e1,e2,_⟩:=zbN (x:=.d (.list _)) hs rfl hx1;cases e1;rw [z] at e2;cases e2
  ·rename_i k;obtain⟨a',us,e1,e2,_⟩:=zbN (x:=.l k) hs hd hx1;cases e1;rw [z] at e2;cases e2
  ·cases hd
 exact c o H S _ _ Ex.refl hs hh q1
def zib:List XV->Sto->RX->Prop:=fun xs S R=>arg1 xs fun x=>∃ ds,asQ S x=some ds/\R (.l S.length) (S++[ds])
theorem znw{K:W.Frag}:RC (fun xs H Q=>∃ p ys,xs=[.ref p]/\(SqL K H p ys\/SqT K H p ys)/\∀ l,H l=none->Q (.ref l) (upd H l (.lst ys))) zib:=fun h o H S xs vs R Q hs hx q c=>by
 obtain⟨x,rfl,ds,hd,q1⟩:=zbj q;obtain⟨v,rfl,hx1⟩:=hxs1 hx;obtain⟨a,ws,rfl,ea,l⟩:=zjt hs hd hx1;exact⟨a,ws,rfl,ea.elim (fun z=>.inr (.of z)) (fun z=>.inl (.of z)),zrQ hs l c q1⟩
theorem zc4{H:Hp}:∀ {ns:List Int} {vs:List V},HasL H (ns.map PyData.int) vs->vs=ns.map V.int
 | [],vs,h=>zS.mp h
 | n :: ns,vs,h=>by
  obtain⟨v,r,rfl,h1,h2⟩:=zH.mp h;rw [zbr.mp h1,zc4 h2];rfl
def zuS:List XV->Sto->RX->Prop:=fun xs S R=>arg1 xs fun x=>∃ ds,asQ S x=some ds/\∃ ns,ds=ns.map PyData.int/\ns≠[]/\∀ m,m∈ns->(∀ a,a∈ns->m<=a)->R (.d (.int m)) S
def zse:List XV->Sto->RX->Prop:=fun xs S R=>arg1 xs fun x=>∃ ds,asQ S x=some ds/\∃ ns,ds=ns.map PyData.int/\ns≠[]/\∀ m,m∈ns->(∀ a,a∈ns->a<=m)->R (.d (.int m)) S
theorem zsN{K:W.Frag}:RC (zuc K) zuS:=fun h o H S xs vs R Q hs hx q c=>by
 obtain⟨x,rfl,ds,hd,ns,rfl,hn,q1⟩:=zbj q;obtain⟨v,rfl,hx1⟩:=hxs1 hx;obtain⟨a,ws,rfl,ea,l⟩:=zjt hs hd hx1;rw [zc4 l] at ea;exact⟨a,ns,rfl,ea.elim (fun z=>.inr (.of z)) (fun z=>.inl (.of z)),hn,fun m m1 m2=>c o H S _ _ Ex.refl hs (xI _) (q1 m m1 m2)⟩
theorem zqG{K:W.Frag}:RC (zuU K) zse:=fun h o H S xs vs R Q hs hx q c=>by
 obtain⟨x,rfl,ds,hd,ns,rfl,hn,q1⟩:=zbj q;obtain⟨v,rfl,hx1⟩:=hxs1 hx;obtain⟨a,ws,rfl,ea,l⟩:=zjt hs hd hx1;rw [zc4 l] at ea;exact⟨a,ns,rfl,ea.elim (fun z=>.inr (.of z)) (fun z=>.inl (.of z)),hn,fun m m1 m2=>c o H S _ _ Ex.refl hs (xI _) (q1 m m1 m2)⟩
def dBM(rd:XV->List XV->Sto->RX->Prop)(e:DE)(a:DA):DE:=fun δ S R=>e δ S fun x S1=>∃ k,x=.l k/\k<S1.length/\a δ S1 fun xs S2=>rd x xs S2 R
def zsc(rd:XV->List XV->Sto->RX->Prop)(e:DE):DE:=fun δ S R=>e δ S fun x S1=>∃ k,x=.l k/\k<S1.length/\rd x [] S1 R
def RM(r:V->List V->Hp->VK->Prop)(rd:XV->List XV->Sto->RX->Prop):Prop:=∀ (h o:List Addr) (H:Hp) (S:Sto) (x:XV) (v:V) (xs:List XV) (vs:List V) (R:RX) (Q:VK),RepS h o H S->HasX h o H x v->HasXs h o H xs vs->rd x xs S R->Cn h o H R Q->r v vs H Q
theorem zll{K:W.Frag}{H:Hp}{a:Addr}{vs:List V}(e:H a=some (.lst vs)):tyV K "list" (.ref a) H:=.inl ⟨rfl,vs,.of e⟩
theorem zpX{h o:List Addr}{H:Hp}{S:Sto}{k:Nat}{v:V}(hs:RepS h o H S)(hk:k<S.length)(hx:HasX h o H (.l k) v):∃ a vs,v=.ref a/\H a=some (.lst vs):=by
 obtain⟨a,e,rfl⟩:=hx;obtain⟨vs,e2,_⟩:=hs.cont k a _ e (List.getElem?_eq_getElem hk);exact⟨a,vs,rfl,e2⟩
theorem zph{K:W.Frag}{r:V->List V->Hp->VK->Prop}{rd:XV->List XV->Sto->RX->Prop}{te:TE}{de:DE}{tl:TA}{dl:DA}(hr:RM r rd)(he':RE te de)(ha:RA tl dl):RE (tBM K "list" r te tl) (dBM rd de dl):=fun h o H δ σ S R Q he hs q c =>
 he' h o H δ σ S _ _ he hs q fun o1 H1 S1 x v e1 s1 x1 ⟨k,ek,hk,d1⟩=>by
  subst ek;obtain⟨a,ws,rfl,ea⟩:=zpX s1 hk x1;exact⟨zll ea,ha h o1 H1 δ σ S1 _ _ (he.mono e1) s1 d1 fun o2 H2 S2 xs vs e2 s2 x2 d2=>hr h o2 H2 S2 (.l k) _ xs vs R Q s2 (x1.mono e2) x2 d2 (c.pre (e1.trans e2))⟩
theorem zq1{K:W.Frag}{r:V->List V->Hp->VK->Prop}{rd:XV->List XV->Sto->RX->Prop}{te:TE}{de:DE}(hr:RM r rd)(he':RE te de):RE (zuX K "list" r te) (zsc rd de):=fun h o H δ σ S R Q he hs q c =>
 he' h o H δ σ S _ _ he hs q fun o1 H1 S1 x v e1 s1 x1 ⟨k,ek,hk,d1⟩=>by
  subst ek;obtain⟨a,ws,rfl,ea⟩:=zpX s1 hk x1;exact⟨zll ea,hr h o1 H1 S1 (.l k) _ [] [] R Q s1 x1 rfl d1 (c.pre e1)⟩
def zeJ:XV->List XV->Sto->RX->Prop:=fun x xs S R=>∃ k,x=.l k/\∃ ds,S[k]? = some ds/\arg1 xs fun y=>asD y fun d=>ds.length<1000/\R (.d .none) (S.set k (ds++[d]))
theorem ze3:RM znf zeJ:=fun h o H S x v xs vs R Q hs hx hxs q c=>by
 obtain⟨k,rfl,ds,e,q1⟩:=q;obtain⟨y,rfl,q2⟩:=zbj q1;obtain⟨d,rfl,hl,q3⟩:=zfR q2;obtain⟨a,ea,rfl⟩:=hx;obtain⟨u,rfl,hu⟩:=hxs1 hxs;obtain⟨ws,ew,l⟩:=hs.cont k a ds ea e;exact⟨a,ws,u,rfl,rfl,ew,by rw [l.length]; exact small1000 (Nat.le_of_lt hl),c o _ _ (.d .none) _ (Ex.upd ea) (hs.upd ea (l.append (zH.mpr ⟨u,[],rfl,hu,zS.mpr rfl⟩))) xN q3⟩
def zeo:XV->List XV->Sto->RX->Prop:=fun x xs S R=>∃ k,x=.l k/\∃ ds,S[k]? = some ds/\xs=[]/\R (.d .none) (S.set k ds.reverse)
theorem zhp:RM zlr zeo:=fun h o H S x v xs vs R Q hs hx hxs q c=>by
 obtain⟨k,rfl,ds,e,rfl,q1⟩:=q;obtain⟨a,ea,rfl⟩:=hx;obtain⟨ws,ew,l⟩:=hs.cont k a ds ea e;cases hxs;exact⟨a,ws,rfl,rfl,ew,c o _ _ (.d .none) _ (Ex.upd ea) (hs.upd ea l.rev) xN q1⟩
def zmn:XV->List XV->Sto->RX->Prop:=fun x xs S R=>∃ k,x=.l k/\∃ ds,S[k]? = some ds/\arg1 xs fun y=>∃ es,zpm S y=some es/\ds.length+es.length<=1000/\R (.d .none) (S.set k (ds++es))
def ret0(S:Sto)(R:RX):RX:=fun y S'=>match y,S' with
 | .d d,[]=>R (.d d) S
 | .l 0,[ds]=>R (.l S.length) (S++[ds])
 | _,_=>False
def ztV(k:Nat)(S:Sto)(R:RX):RX:=fun y S'=>match y,S' with
 | .d d,[p]=>R (.d d) (S.set k p)
 | .l 1,[p,ds]=>R (.l S.length) (S.set k p++[ds])
 | _,_=>False
section
variable {h o:List Addr} {H:Hp} {S:Sto} {R:RX} {Q:VK}
theorem zj9{h o h' o':List Addr}{H:Hp}(e:∀ b,(b∈h'\/b∈o')↔(b∈h\/b∈o)):vx h' o' H=vx h o H:=by
 funext b;have iff:∀ u,vx h' o' H b=some u↔vx h o H b=some u:=fun u=>by
  rw [zaq,zaq];have:=e b;constructor
  ·rintro⟨a1,a2,a3⟩;exact⟨fun m=>(this.mpr (.inl m)).elim a1 a2,fun m=>(this.mpr (.inr m)).elim a1 a2,a3⟩
  ·rintro⟨a1,a2,a3⟩;exact⟨fun m=>(this.mp (.inl m)).elim a1 a2,fun m=>(this.mp (.inr m)).elim a1 a2,a3⟩
 cases e1:vx h' o' H b with
 | some u=>exact((iff u).mp e1).symm
 | none =>
  cases e2:vx h o H b with
  | none=>rfl
  | some u=>rw [(iff u).mpr e2] at e1; cases e1
theorem rep0(hs:RepS h o H S):RepS (h++o) [] H [] where
 len:=rfl
 nd:=List.nodup_nil
 dis:=fun a ha=>by cases ha
 hal:=fun b hb=>(List.mem_append.mp hb).elim (hs.hal b) (hs.oam b)
 cont:=fun k a ds e=>by simp at e
theorem hx0{d:PyData}{v:V}(hx:HasX h o H (.d d) v):HasX (h++o) [] H (.d d) v:=by
 show Has (vx (h++o) [] H) d v;rw [zj9 (h:=h) (o:=o) fun b=>by simp];exact hx
theorem hx0'{d:PyData}{v:V}(hx:HasX (h++o) [] H (.d d) v):HasX h o H (.d d) v:=by
 show Has (vx h o H) d v;rw [<- zj9 (h':=h++o) (o':=[]) (h:=h) (o:=o) fun b=>by simp];exact hx
theorem cn0(hs:RepS h o H S)(c:Cn h o H R Q):Cn (h++o) [] H (ret0 S R) Q:=fun o' H' S' y v e s' hy q=>by
 have sm:Same H (vx [] o' H'):=fun b u eb=>by
  obtain⟨a1,a2⟩:=e.kp b u (by simp) eb;exact zaq.mpr ⟨by simp,a1,a2⟩
 have sH:Same H H':=fun b u eb=>(zaq.mp (sm b u eb)).2.2;unfold ret0 at q;split at q
 ·have e0:o'=[]:=List.eq_nil_of_length_eq_zero s'.len.symm;subst e0;exact c o H' S _ v (Ex.of_same sH) (hs.same sH) (hx0' hy) q
 ·rename_i ds;obtain⟨a,rfl⟩:∃ a,o'=[a]:=List.length_eq_one_iff.mp s'.len.symm;obtain⟨a',ea,rfl⟩:=hy;cases ea;obtain⟨vs,ev,l⟩:=s'.cont 0 a ds rfl rfl;have na:a∉h++o:=s'.dis a (by simp);have hn:H a=none:=by
   cases eh:H a with
   | none=>rfl
   | some u=>exact absurd (e.kp a u (by simp) eh).1 (by simp)
  have e2:Ex o H (o++[a]) H':=⟨⟨[a],rfl⟩,fun b u hb eb=>by
   obtain⟨a1,a2⟩:=e.kp b u (by simp) eb;exact⟨by simp only [List.mem_append,not_or]; exact⟨hb,a1⟩,a2⟩⟩
  have ev':vx (h++o) [a] H'=vx h (o++[a]) H':=zj9 fun b=>by simp [or_assoc]
  rw [ev'] at l;refine c (o++[a]) H' (S++[ds]) (.l S.length) _ e2 ⟨by simp [hs.len],zcq hs.nd fun m=>na (List.mem_append_right _ m),fun b hb=>?_,fun b hb=>?_,fun k b es q1 q2=>?_⟩ ⟨a,by rw [hs.len,List.getElem?_concat_length],rfl⟩ q
  ·rcases List.mem_append.mp hb with hb | hb
   ·exact hs.dis b hb
   ·rw [List.mem_singleton.mp hb]; exact fun m=>na (List.mem_append_left _ m)
  ·obtain⟨u,eb⟩:=hs.hal b hb;exact⟨u,sH b _ eb⟩
  ·by_cases hk:k<o.length
   ·rw [List.getElem?_append_left hk] at q1;rw [List.getElem?_append_left (by rw [hs.len]; exact hk)] at q2;obtain⟨ws,e3,l3⟩:=hs.cont k b es q1 q2;exact⟨ws,sH _ _ e3,l3.mono e2.vx⟩
   ·have hk':k=o.length:=by
     obtain⟨q,_⟩:=List.getElem?_eq_some_iff.mp q1;rw [List.length_append,List.length_singleton] at q;omega
    subst hk';rw [List.getElem?_concat_length] at q1;rw [<- hs.len,List.getElem?_concat_length] at q2;cases q1;cases q2;exact⟨vs,ev,l⟩
 ·exact q.elim
theorem ztW{k:Nat}{a:Addr}{p:List PyData}(hs:RepS h o H S)(ea:o[k]? = some a)(ep:S[k]? = some p):RepS (h++o.filter (fun b=>b≠a)) [a] H [p] where
 len:=rfl
 nd:=by simp
 dis:=fun b hb=>by
  rw [List.mem_singleton.mp hb];intro m;rcases List.mem_append.mp m with m | m
  ·exact hs.dis a (List.mem_of_getElem? ea) m
  ·have:=(List.mem_filter.mp m).2;simp at this
 hal:=fun b hb=>(List.mem_append.mp hb).elim (hs.hal b) fun m=>hs.oam b (List.mem_filter.mp m).1
 cont:=fun j b ds e1 e2=>by
  cases j with
  | succ j=>simp at e1
  | zero =>
   cases e1;cases e2;obtain⟨vs,e3,l⟩:=hs.cont k a p ea ep;refine⟨vs,e3,?_⟩;rw [zj9 (h:=h) (o:=o) (mem_pen ea)];exact l
where
 mem_pen {h o:List Addr} {k:Nat} {a:Addr} (ea:o[k]? = some a) (b:Addr):(b∈h++o.filter (fun b=>b≠a)\/b∈[a])↔(b∈h\/b∈o):=by
  have ma:=List.mem_of_getElem? ea;by_cases e:b=a
  ·subst e;simp [ma]
  ·simp [e]
theorem hxP{k:Nat}{a:Addr}{d:PyData}{v:V}(ea:o[k]? = some a)(hx:HasX h o H (.d d) v):HasX (h++o.filter (fun b=>b≠a)) [a] H (.d d) v:=by
 show Has (vx _ _ H) d v;rw [zj9 (h:=h) (o:=o) (ztW.mem_pen ea)];exact hx
theorem cnP{k:Nat}{a:Addr}{p:List PyData}(hs:RepS h o H S)(ea:o[k]? = some a)(ep:S[k]? = some p)(c:Cn h o H R Q):Cn (h++o.filter (fun b=>b≠a)) [a] H (ztV k S R) Q:=fun o' H' S' y v e s' hy q=>by
 have ma:=List.mem_of_getElem? ea;have hk:k<o.length:=(List.getElem?_eq_some_iff.mp ea).1;unfold ztV at q;split at q
 ·rename_i d p';obtain⟨r,rfl⟩:=e.pre;have er:r=[]:=by
   have:=s'.len;simp at this;exact this
  subst er;have ex:Ex o H o H':=⟨⟨[],by simp⟩,fun b u hb eb=>⟨hb,(e.kp b u (fun m=>hb (by rw [List.mem_singleton.mp m]; exact ma)) eb).2⟩⟩;obtain⟨vs,ev,l⟩:=s'.cont 0 a p' rfl rfl;have ev':vx (h++o.filter (fun b=>b≠a)) ([a]++[]) H'=vx h o H':=zj9 (ztW.mem_pen ea);rw [ev'] at l;refine c o H' (S.set k p') (.d d) v ex ⟨by simp [hs.len],hs.nd,hs.dis,fun b hb=>?_,fun j b es q1 q2=>?_⟩ (by
   have hy':Has (vx (h++o.filter (fun b=>b≠a)) ([a]++[]) H') d v:=hy;rw [ev'] at hy';exact hy') q
  ·obtain⟨u,eb⟩:=hs.hal b hb;exact⟨u,(e.kp b _ (fun m=>hs.dis a ma (by rw [<- List.mem_singleton.mp m]; exact hb)) eb).2⟩
  ·by_cases hj:j=k
   ·subst hj;rw [q1] at ea;cases ea;rw [List.getElem?_set_self (by rw [hs.len]; exact hk)] at q2;cases q2;exact⟨vs,ev,l⟩
   ·rw [List.getElem?_set_ne (Ne.symm hj)] at q2;obtain⟨ws,e3,l3⟩:=hs.cont j b es q1 q2;have ne:b≠a:=fun z=>hj (zfh hs.nd q1 (z▸ea));exact⟨ws,(e.kp b _ (by simp [ne]) e3).2,l3.mono ex.vx⟩
 ·rename_i p' ds;obtain⟨r,rfl⟩:=e.pre;obtain⟨a2,rfl⟩:∃ a2,r=[a2]:=by
   have:=s'.len;simp at this;exact List.length_eq_one_iff.mp this
  obtain⟨b2,eb2,rfl⟩:=hy;cases eb2;obtain⟨vs,ev,l⟩:=s'.cont 0 a p' rfl rfl;obtain⟨vs2,ev2,l2⟩:=s'.cont 1 a2 ds rfl rfl;have n2:a2∉h++o.filter (fun b=>b≠a):=s'.dis a2 (by simp);have n3:a≠a2:=by
   have:=s'.nd;simp at this;exact this
  have n4:a2∉o:=fun m=>n2 (List.mem_append_right _ (List.mem_filter.mpr ⟨m,by simp [Ne.symm n3]⟩));have ex:Ex o H (o++[a2]) H':=⟨⟨[a2],rfl⟩,fun b u hb eb=>by
   obtain⟨z1,z2⟩:=e.kp b u (fun m=>hb (by rw [List.mem_singleton.mp m]; exact ma)) eb;refine⟨?_,z2⟩;simp only [List.mem_append,not_or];exact⟨hb,fun m=>z1 (by simp at m ⊢; exact .inr m)⟩⟩
  have ev':vx (h++o.filter (fun b=>b≠a)) ([a]++[a2]) H'=vx h (o++[a2]) H':=zj9 fun b=>by
   have:=ztW.mem_pen (h:=h) ea b;simp only [List.mem_append] at this ⊢;rw [<- or_assoc,this,or_assoc]
  rw [ev'] at l l2;refine c (o++[a2]) H' (S.set k p'++[ds]) (.l S.length) _ ex ⟨by simp [hs.len],zcq hs.nd n4,fun b hb=>?_,fun b hb=>?_,fun j b es q1 q2=>?_⟩ ⟨a2,by rw [hs.len,List.getElem?_concat_length],rfl⟩ q
  ·rcases List.mem_append.mp hb with hb | hb
   ·exact hs.dis b hb
   ·rw [List.mem_singleton.mp hb]; exact fun m=>n2 (List.mem_append_left _ m)
  ·obtain⟨u,eb⟩:=hs.hal b hb;exact⟨u,(e.kp b _ (fun m=>hs.dis a ma (by rw [<- List.mem_singleton.mp m]; exact hb)) eb).2⟩
  ·by_cases hjo:j<o.length
   ·rw [List.getElem?_append_left hjo] at q1;rw [List.getElem?_append_left (by rw [List.length_set,hs.len]; exact hjo)] at q2;by_cases hj:j=k
    ·subst hj;rw [q1] at ea;cases ea;rw [List.getElem?_set_self (by rw [hs.len]; exact hk)] at q2;cases q2;exact⟨vs,ev,l⟩
    ·rw [List.getElem?_set_ne (Ne.symm hj)] at q2;obtain⟨ws,e3,l3⟩:=hs.cont j b es q1 q2;have ne:b≠a:=fun z=>hj (zfh hs.nd q1 (z▸ea));exact⟨ws,(e.kp b _ (by simp [ne]) e3).2,l3.mono ex.vx⟩
   ·have hk':j=o.length:=by
     obtain⟨q,_⟩:=List.getElem?_eq_some_iff.mp q1;rw [List.length_append,List.length_singleton] at q;omega
    subst hk';rw [List.getElem?_concat_length] at q1;rw [<- hs.len,<- List.length_set (i:=k) (a:=p'),List.getElem?_concat_length] at q2;cases q1;cases q2;exact⟨vs2,ev2,l2⟩
 ·exact q.elim
end
structure DEnds where
 nx:XE->Sto->Prop
 rt:RX
 bk:XE->Sto->Prop:=fun _ _=>False
 ct:XE->Sto->Prop:=fun _ _=>False
abbrev DS:=DEnds->XE->Sto->Prop
abbrev DG:=XV->XE->Sto->(XE->Sto->Prop)->Prop
abbrev DGs:=List PyData->XE->Sto->(XE->Sto->Prop)->Prop
def Nx(h o:List Addr)(H:Hp)(N:XE->Sto->Prop)(M:St->Hp->Prop):Prop:=∀ o' H' δ' S' σ',Ex o H o' H'->RepE h o' H' δ' σ'->RepS h o' H' S'->N δ' S'->M σ' H'
theorem Nx.pre{h o o':List Addr}{H H':Hp}{N:XE->Sto->Prop}{M:St->Hp->Prop}(c:Nx h o H N M)(e:Ex o H o' H'):Nx h o' H' N M:=fun o2 H2 δ2 S2 σ2 e2=>c o2 H2 δ2 S2 σ2 (e.trans e2)
structure EOk(h o:List Addr)(H:Hp)(E:DEnds)(D:Ends):Prop where
 nx:Nx h o H E.nx D.nx
 rt:Cn h o H E.rt D.rt
 bk:Nx h o H E.bk D.bk
 ct:Nx h o H E.ct D.ct
theorem EOk.pre{h o o':List Addr}{H H':Hp}{E:DEnds}{D:Ends}(c:EOk h o H E D)(e:Ex o H o' H'):EOk h o' H' E D:=⟨c.nx.pre e,c.rt.pre e,c.bk.pre e,c.ct.pre e⟩
def RS(t:TS)(dt:DS):Prop:=∀ (h o:List Addr) (H:Hp) (δ:XE) (σ:St) (S:Sto) (E:DEnds) (D:Ends),RepE h o H δ σ->RepS h o H S->dt E δ S->EOk h o H E D->t D σ H
def RG(t:TG)(dt:DG):Prop:=∀ (h o:List Addr) (H:Hp) (δ:XE) (σ:St) (S:Sto) (x:XV) (v:V) (N:XE->Sto->Prop) (M:St->Hp->Prop),RepE h o H δ σ->RepS h o H S->HasX h o H x v->dt x δ S N->Nx h o H N M->t v σ H M
def RGs(t:TGs)(dt:DGs):Prop:=∀ (h o:List Addr) (H:Hp) (δ:XE) (σ:St) (S:Sto) (ds:List PyData) (vs:List V) (N:XE->Sto->Prop) (M:St->Hp->Prop),RepE h o H δ σ->RepS h o H S->HasL (vx h o H) ds vs->dt ds δ S N->Nx h o H N M->t vs σ H M
def zn(i:Nat):DG:=fun x δ S N=>N (δ.set i (some x)) S
def zbL:DGs:=fun ds δ S N=>ds=[]/\N δ S
def hdD:List PyData->(PyData->List PyData->Prop)->Prop
 | d :: es,k=>k d es
 | [],_=>False
theorem zsF{ds:List PyData}{k:PyData->List PyData->Prop}(h:hdD ds k):∃ d es,ds=d :: es/\k d es:=by
 cases ds with
 | nil=>exact h.elim
 | cons d es=>exact⟨d,es,rfl,h⟩
theorem zto{d:PyData}{es:List PyData}{k:PyData->List PyData->Prop}:hdD (d :: es) k=k d es:=rfl
def zN(g:DG)(r:DGs):DGs:=fun ds δ S N=>hdD ds fun d es=>g (.d d) δ S fun δ' S'=>r es δ' S' N
def zbK(n:Nat)(r:DGs):DG:=fun x δ S N=>asT x fun ds=>ds.length=n/\r ds δ S N
def zjY(a b:DE):DG:=fun x δ S N=>a δ S fun y S1=>b δ S1 fun z S2=>asD x fun d=>∃ k,y=.l k/\∃ ds,S2[k]? = some ds/\asI z fun i=>∃ j,ixN ds.length i=some j/\N δ (S2.set k (ds.set j d))
theorem zk{i:Nat}:RG (zjc i) (zn i):=fun h o H δ σ S x v N M he hs hx q c=>c o H _ S _ Ex.refl (he.set hx) hs q
theorem zav:RGs zuR zbL:=fun h o H δ σ S ds vs N M he hs l ⟨e,q⟩ c=>by
 subst e;exact⟨zS.mp l,c o H δ S σ Ex.refl he hs q⟩
theorem zA{t:TG}{u:TGs}{g:DG}{r:DGs}(h1:RG t g)(h2:RGs u r):RGs (ztt t u) (zN g r):=fun h o H δ σ S ds vs N M he hs l q0 c=>by
 obtain⟨d,es,rfl,q⟩:=zsF q0;obtain⟨v,ws,rfl,hv,l⟩:=zH.mp l;exact⟨v,ws,rfl,h1 h o H δ σ S (.d d) v _ _ he hs hv q fun o1 H1 δ1 S1 σ1 e1 he1 hs1 q1=>h2 h o1 H1 δ1 σ1 S1 es ws N M he1 hs1 (l.mono e1.vx) q1 (c.pre e1)⟩
theorem za3{K:W.Frag}{n:Nat}{t:TGs}{r:DGs}(h1:RGs t r):RG (zut K n t) (zbK n r):=fun h o H δ σ S x v N M he hs hx q c=>by
 replace q:=zhz q;obtain⟨ds,rfl,hn,q⟩:=q;obtain⟨a,vs,rfl,ea,l⟩:=zeC hx;exact⟨a,vs,rfl,.of ea,by rw [l.length]; exact hn,h1 h o H δ σ S ds vs N M he hs l q c⟩
theorem HasL.setAt{H:Hp}:∀ {ds:List PyData} {vs:List V} {j:Nat} {d:PyData} {v:V},HasL H ds vs->Has H d v->HasL H (ds.set j d) (vs.set j v)
 | [],vs,j,d,v,l,_=>by rw [zS.mp l]; exact zS.mpr rfl
 | c :: ds,vs,0,d,v,l,q=>by
  obtain⟨u,r,rfl,_,l⟩:=zH.mp l;exact zH.mpr ⟨v,r,rfl,q,l⟩
 | c :: ds,vs,j+1,d,v,l,q=>by
  obtain⟨u,r,rfl,hu,l⟩:=zH.mp l;exact zH.mpr ⟨u,r.set j v,rfl,hu,HasL.setAt l q⟩
theorem zk3{ta tb:TE}{da db:DE}(ha:RE ta da)(hb:RE tb db):RG (zuW ta tb zsE) (zjY da db):=fun h o H δ σ S x v N M he hs hx q c =>
 ha h o H δ σ S _ _ he hs q fun o1 H1 S1 y u e1 s1 y1 d1=>hb h o1 H1 δ σ S1 _ _ (he.mono e1) s1 d1 fun o2 H2 S2 z w e2 s2 z2 d0=>by
  obtain⟨d,rfl,k,rfl,ds,es,d2⟩:=zfR d0;replace d2:=zbi d2;obtain⟨i,rfl,j,ej,d2⟩:=d2;obtain⟨a,ea,rfl⟩:=y1.mono e2;obtain⟨ws,ew,l⟩:=s2.cont k a ds ea es;refine⟨a,ws,i,j,rfl,zaJ z2,ew,by rw [l.length]; exact ej,?_⟩;exact c o2 _ δ _ σ ((e1.trans e2).trans (Ex.upd ea)) (((he.mono e1).mono e2).mono (Ex.upd ea)) (s2.upd ea (l.setAt (hx.mono (e1.trans e2)))) d2
def zaN:DS:=fun E δ S=>E.nx δ S
def zX(t u:DS):DS:=fun E δ S=>t { E with nx:=u E } δ S
def zan(e:DE)(g:DG):DS:=fun E δ S=>e δ S fun x S1=>g x δ S1 E.nx
def zhg(e:DE):DS:=fun E δ S=>e δ S fun _ S1=>E.nx δ S1
def zba(e:DE):DS:=fun E δ S=>e δ S E.rt
def zdu(c:DT)(t u:DS):DS:=fun E δ S=>c δ S fun b S1=>if b=true then t E δ S1 else u E δ S1
section
variable {t u:TS} {dt du:DS} {te:TE} {de:DE}
theorem zad:RS zr3 zaN:=fun h o H δ σ S E D he hs q c=>c.nx o H δ S σ Ex.refl he hs q
theorem zr(ht:RS t dt)(hu:RS u du):RS (zoA t u) (zX dt du):=fun h o H δ σ S E D he hs q c =>
 ht h o H δ σ S _ _ he hs q ⟨fun o1 H1 δ1 S1 σ1 e1 he1 hs1 q1=>hu h o1 H1 δ1 σ1 S1 E D he1 hs1 q1 (c.pre e1),c.rt,c.bk,c.ct⟩
theorem zw{g:TG}{dg:DG}(he':RE te de)(hg:RG g dg):RS (zsb te g) (zan de dg):=fun h o H δ σ S E D he hs q c =>
 he' h o H δ σ S _ _ he hs q fun o1 H1 S1 x v e1 s1 x1 d1=>hg h o1 H1 δ σ S1 x v _ _ (he.mono e1) s1 x1 d1 (c.nx.pre e1)
theorem zfJ(he':RE te de):RS (ztr te) (zhg de):=fun h o H δ σ S E D he hs q c =>
 he' h o H δ σ S _ _ he hs q fun o1 H1 S1 x v e1 s1 x1 d1=>c.nx o1 H1 δ S1 σ e1 (he.mono e1) s1 d1
theorem zM(he':RE te de):RS (zt3 te) (zba de):=fun h o H δ σ S E D he hs q c=>he' h o H δ σ S _ _ he hs q c.rt
theorem zbt{tc:TT}{dc:DT}(hc:RT tc dc)(ht:RS t dt)(hu:RS u du):RS (ztZ tc t u) (zdu dc dt du):=fun h o H δ σ S E D he hs q c =>
 hc h o H δ σ S _ _ he hs q fun o1 H1 S1 b e1 s1 d1=>by
  cases b with
  | true=>exact zpj (ht h o1 H1 δ σ S1 E D (he.mono e1) s1 (by simpa using d1) (c.pre e1))
  | false=>exact zpI (hu h o1 H1 δ σ S1 E D (he.mono e1) s1 (by simpa using d1) (c.pre e1))
def frz(n:Nat)(ds:List PyData):Option XV->Option XV
 | some (.l k)=>if k=n then some (.d (.list ds)) else some (.l k)
 | y=>y
end
abbrev DI:=XE->Sto->(List PyData->Sto->Prop)->Prop
structure WalkX(h o:List Addr)(H:Hp)(J:It)(ds:List PyData):Prop where
 stop:∀ (i:Nat) o2 H2,ExH h o H o2 H2->ds.length<=i->J.stop i H2
 go:∀ (i:Nat) d o2 H2,ExH h o H o2 H2->ds[i]? = some d->J.go i H2
 yld:∀ (i:Nat) d o2 H2 x H3 S2,ExH h o H o2 H2->RepS h o2 H2 S2->ds[i]? = some d->J.yld i H2 x H3->Same H2 H3/\Has (vx h o2 H3) d x
def RI(w:TI)(di:DI):Prop:=∀ (h o:List Addr) (H:Hp) (δ:XE) (σ:St) (S:Sto) (R:List PyData->Sto->Prop) (Q:It->Hp->Prop),RepE h o H δ σ->RepS h o H S->di δ S R ->
 (∀ o' H' S' ds J,Ex o H o' H'->RepS h o' H' S'->WalkX h o' H' J ds->R ds S'->Q J H')->w σ H Q
theorem zjX{h o:List Addr}{H:Hp}{lo:Int}{n:Nat}:WalkX h o H (Itr lo n) (zkt lo n) where
 stop:=fun i _ _ _ hi=>by rw [zaC] at hi; exact hi
 go:=fun i d _ _ _ hi=>(zcC hi).1
 yld:=fun i d o2 H2 x H3 S2 _ _ hi y=>by
  obtain⟨e,ex⟩:=y;subst e ex;rw [(zcC hi).2];exact⟨Same.refl _,zbr.mpr rfl⟩
def zmg(g:DG)(b:DS):List PyData->DS
 | [],E,δ,S=>E.nx δ S
 | d :: ds,E,δ,S=>g (.d d) δ S fun δ1 S1=>b { nx:=fun δ2 S2=>zmg g b ds E δ2 S2,ct:=fun δ2 S2=>zmg g b ds E δ2 S2,bk:=E.nx,rt:=E.rt } δ1 S1
def ziN(i:DI)(g:DG)(b:DS):DS:=fun E δ S=>i δ S fun ds S1=>zmg g b ds E δ S1
theorem zcY{wi:TI}{g:TG}{tb:TS}{di:DI}{dg:DG}{db:DS}(hi:RI wi di)(hg:RG g dg)(hb:RS tb db):RS (ztz wi g tb) (ziN di dg db):=fun h o H δ σ S E D he hs q c =>
 hi h o H δ σ S _ _ he hs q fun o1 H1 S1 ds J e1 s1 wk d1=>by
  refine⟨fun i m σ2 H2=>m=ds.length - i/\i<=ds.length/\∃ o2 δ2 S2,Ex o1 H1 o2 H2/\RepE h o2 H2 δ2 σ2/\RepS h o2 H2 S2/\zmg dg db (ds.drop i) E δ2 S2,⟨ds.length,by simp,Nat.zero_le _,o1,δ,S1,Ex.refl,he.mono e1,s1,d1⟩,?_⟩;rintro i m σ2 H2 ⟨rfl,hi,o2,δ2,S2,e2,he2,hs2,d2⟩;by_cases hlt:i<ds.length
  ·have ed:ds[i]? = some ds[i]:=List.getElem?_eq_getElem hlt;rw [List.drop_eq_getElem_cons hlt] at d2;refine .inr ⟨wk.go i _ o2 H2 e2.hid ed,fun σ3 H3=>∃ o3 δ3 S3,Ex o1 H1 o3 H3/\RepE h o3 H3 δ3 σ3/\RepS h o3 H3 S3/\zmg dg db (ds.drop (i+1)) E δ3 S3,fun σ3 H3 n=>⟨ds.length - (i+1),by omega,rfl,hlt,n⟩,fun x H3 y=>?_⟩;obtain⟨s3,hx⟩:=wk.yld i _ o2 H2 x H3 S2 e2.hid hs2 ed y;have e23:Ex o2 H2 o2 H3:=Ex.of_same s3;refine hg h o2 H3 δ2 σ2 S2 (.d ds[i]) x _ _ (he2.mono e23) (hs2.same s3) hx d2 fun o4 H4 δ4 S4 σ4 e4 he4 hs4 d4=>?_;have e14:Ex o1 H1 o4 H4:=(e2.trans e23).trans e4;have ce:=(c.pre e1).pre e14;exact hb h o4 H4 δ4 σ4 S4 _ _ he4 hs4 d4 ⟨fun o5 H5 δ5 S5 σ5 e5 he5 hs5 d5=>⟨o5,δ5,S5,e14.trans e5,he5,hs5,d5⟩,ce.rt,ce.nx,fun o5 H5 δ5 S5 σ5 e5 he5 hs5 d5=>⟨o5,δ5,S5,e14.trans e5,he5,hs5,d5⟩⟩
  ·have ei:i=ds.length:=by omega
   subst ei;rw [List.drop_length] at d2;exact .inl ⟨wk.stop _ o2 H2 e2.hid (Nat.le_refl _),c.nx o2 H2 δ2 S2 σ2 (e1.trans e2) he2 hs2 d2⟩
def zqy(cd:DT)(b:DS):DS:=fun E δ S=>∃ W:Nat->XE->Sto->Prop,(∃ m,W m δ S)/\∀ m δ S,W m δ S ->
 cd δ S fun x S1=>if x=true then ∃ N:XE->Sto->Prop,(∀ δ' S',N δ' S'->∃ m',m'<m/\W m' δ' S')/\b { nx:=N,ct:=N,bk:=E.nx,rt:=E.rt } δ S1 else E.nx δ S1
theorem zo8{tc:TT}{tb:TS}{dc:DT}{db:DS}(hc:RT tc dc)(hb:RS tb db):RS (zq4 tc tb) (zqy dc db):=fun h o H δ σ S E D he hs ⟨W,⟨m0,w0⟩,q⟩ c=>by
 refine⟨fun m σ2 H2=>∃ o2 δ2 S2,Ex o H o2 H2/\RepE h o2 H2 δ2 σ2/\RepS h o2 H2 S2/\W m δ2 S2,⟨m0,o,δ,S,Ex.refl,he,hs,w0⟩,?_⟩;rintro m σ2 H2 ⟨o2,δ2,S2,e2,he2,hs2,w2⟩;refine hc h o2 H2 δ2 σ2 S2 _ _ he2 hs2 (q m δ2 S2 w2) fun o3 H3 S3 b e3 s3 d3=>?_;cases b with
 | false=>exact zpI (c.nx o3 H3 δ2 S3 σ2 (e2.trans e3) (he2.mono e3) s3 (by simpa using d3))
 | true =>
  refine zpj ?_;obtain⟨N,n1,d3⟩:∃ N:XE->Sto->Prop,(∀ δ' S',N δ' S'->∃ m',m'<m/\W m' δ' S')/\db { nx:=N,ct:=N,bk:=E.nx,rt:=E.rt } δ2 S3:=by simpa using d3
  have e13:=e2.trans e3;have ce:=c.pre e13;refine⟨fun σ4 H4=>∃ o4 δ4 S4,Ex o H o4 H4/\RepE h o4 H4 δ4 σ4/\RepS h o4 H4 S4/\N δ4 S4,fun σ4 H4 ⟨o4,δ4,S4,e4,he4,hs4,n4⟩=>?_,?_⟩
  ·obtain⟨m',hm,w'⟩:=n1 δ4 S4 n4;exact⟨m',hm,o4,δ4,S4,e4,he4,hs4,w'⟩
  ·exact hb h o3 H3 δ2 σ2 S3 _ _ (he2.mono e3) s3 d3 ⟨fun o5 H5 δ5 S5 σ5 e5 he5 hs5 d5=>⟨o5,δ5,S5,e13.trans e5,he5,hs5,d5⟩,ce.rt,ce.nx,fun o5 H5 δ5 S5 σ5 e5 he5 hs5 d5=>⟨o5,δ5,S5,e13.trans e5,he5,hs5,d5⟩⟩
def zbd:DT:=fun _ S R=>R true S
theorem zbW:RT zs4 zbd:=fun h o H δ σ S R Q he hs q c=>c o H S true Ex.refl hs q
def zf5(n:Nat)(g:DG)(tt:DT)(te:DE)(fin:Sto->Prop):List PyData->XE->Sto->Prop
 | [],_,S=>fin S
 | d :: ds,τ,S=>g (.d d) τ S fun τ1 S1=>tt τ1 S1 fun b S2=>if b=true then te τ1 S2 fun x S3=>asD x fun e=>∃ acc,S3[n]? = some acc/\acc.length<1000/\zf5 n g tt te fin ds τ1 (S3.set n (acc++[e])) else zf5 n g tt te fin ds τ1 S2
def zgP(caps:List (Option Nat))(i:DI)(g:DG)(tt:DT)(te:DE):DE:=fun δ S R=>i δ S fun ds S1=>zf5 S1.length g tt te (fun S2=>R (.l S1.length) S2) ds (zp6 caps δ) (S1++[[]])
def zeg(caps:List (Option Nat))(i:DI)(g:DG)(tt:DT)(te:DE):DE:=fun δ S R=>i δ S fun ds S1=>zf5 S1.length g tt te (fun S2=>∃ S0 acc,S2=S0++[acc]/\S0.length=S1.length/\R (.d (.list acc)) S0) ds (zp6 caps δ) (S1++[[]])
theorem RepS.pop{h o r:List Addr}{H:Hp}{S0 T:Sto}(hs:RepS h (o++r) H (S0++T))(hl:S0.length=o.length):RepS h o H S0 where
 len:=hl
 nd:=(List.nodup_append.mp hs.nd).1
 dis:=fun a ha=>hs.dis a (List.mem_append_left _ ha)
 hal:=hs.hal
 cont:=fun k a ds e1 e2=>by
  obtain⟨vs,e3,l⟩:=hs.cont k a ds (ze0 e1) (ze0 e2);exact⟨vs,e3,l.mono fun b u e=>by
   obtain⟨z1,z2,z3⟩:=zaq.mp e;exact zaq.mpr ⟨z1,fun m=>z2 (List.mem_append_left _ m),z3⟩⟩
theorem zlb{h o r:List Addr}{H:Hp}:Same (vx h (o++r) H) (vx h o H):=fun b u e=>by
 obtain⟨z1,z2,z3⟩:=zaq.mp e;exact zaq.mpr ⟨z1,fun m=>z2 (List.mem_append_left _ m),z3⟩
theorem Ex.pop{o o' r:List Addr}{H H':Hp}(e:Ex o H (o++r) H'):Ex o H o H':=⟨⟨[],by simp⟩,fun b u hb eb=>⟨hb,(e.kp b u hb eb).2⟩⟩
theorem zi3{caps:List (Option Nat)}{wi:TI}{g:TG}{tt:TT}{te:TE}{di:DI}{dg:DG}{dtt:DT}{dte:DE}(hi:RI wi di)(hg:RG g dg)(ht:RT tt dtt)(he':RE te dte)
  {h o:List Addr} {H:Hp} {δ:XE} {σ:St} {S:Sto} {Q:VK} {fin:Nat->Sto->Prop} (he:RepE h o H δ σ) (hs:RepS h o H S) (q:di δ S fun ds S1=>zf5 S1.length dg dtt dte (fin S1.length) ds (zp6 caps δ) (S1++[[]]))
  (c:∀ o1 H1 D o2 H2 S2,Ex o H o1 H1->H1 D=none->Ex (o1++[D]) (upd H1 D (.lst [])) o2 H2->RepS h o2 H2 S2->fin o1.length S2->Q (.ref D) H2):zop caps wi g tt te σ H Q:=by
 refine hi h o H δ σ S _ _ he hs q fun o1 H1 S1 ds J e1 s1 wk d1 D hD=>?_;have eN:Ex o1 H1 (o1++[D]) (upd H1 D (.lst [])):=Ex.new s1 hD;have sN:RepS h (o1++[D]) (upd H1 D (.lst [])) (S1++[[]]):=s1.new hD (zS.mpr rfl);have hn:S1.length=o1.length:=s1.len;refine⟨fun i m τ H2=>m=ds.length - i/\i<=ds.length/\∃ o2 δ2 S2,Ex (o1++[D]) (upd H1 D (.lst [])) o2 H2/\RepE h o2 H2 δ2 τ/\RepS h o2 H2 S2/\zf5 S1.length dg dtt dte (fin S1.length) (ds.drop i) δ2 S2,⟨ds.length,by simp,Nat.zero_le _,_,_,_,Ex.refl,((he.mono e1).mono eN).tau,sN,d1⟩,?_⟩;rintro i m τ H2 ⟨rfl,hi,o2,δ2,S2,e2,he2,hs2,d2⟩;by_cases hlt:i<ds.length
 ·have ed:ds[i]? = some ds[i]:=List.getElem?_eq_getElem hlt;rw [List.drop_eq_getElem_cons hlt] at d2;refine .inr ⟨wk.go i _ o2 H2 (eN.trans e2).hid ed,fun x H3 y=>?_⟩;obtain⟨s3,hx⟩:=wk.yld i _ o2 H2 x H3 S2 (eN.trans e2).hid hs2 ed y;have e23:Ex o2 H2 o2 H3:=Ex.of_same s3;refine hg h o2 H3 δ2 τ S2 (.d ds[i]) x _ _ (he2.mono e23) (hs2.same s3) hx d2 fun o4 H4 δ4 S4 τ4 e4 he4 hs4 d4=>?_;refine ht h o4 H4 δ4 τ4 S4 _ _ he4 hs4 d4 fun o5 H5 S5 b e5 s5 d5=>?_;have e15:=((e2.trans e23).trans e4).trans e5;cases b with
  | false=>exact zpI ⟨ds.length - (i+1),by omega,rfl,hlt,o5,δ4,S5,e15,he4.mono e5,s5,by simpa using d5⟩
  | true =>
   refine zpj (he' h o5 H5 δ4 τ4 S5 _ _ (he4.mono e5) s5 (by simpa using d5) fun o6 H6 S6 z v e6 s6 z6 d6=>?_);replace d6:=zfR d6;obtain⟨e,rfl,acc,ea,hl,d6⟩:=d6;have e16:=e15.trans e6;have eD:o6[S1.length]? = some D:=by
    obtain⟨r,rfl⟩:=e16.pre;rw [hn];exact ze0 (by rw [List.getElem?_concat_length])
   obtain⟨vs,ev,l⟩:=s6.cont _ D acc eD ea;refine⟨vs,ev,by rw [l.length]; exact small1000 (Nat.le_of_lt hl),ds.length - (i+1),by omega,rfl,hlt,o6,δ4,_,e16.trans (Ex.upd eD),((he4.mono e5).mono e6).mono (Ex.upd eD),s6.upd eD (l.append (zH.mpr ⟨v,[],rfl,z6,zS.mpr rfl⟩)),d6⟩
 ·have ei:i=ds.length:=by omega
  subst ei;rw [List.drop_length] at d2;exact .inl ⟨wk.stop _ o2 H2 (eN.trans e2).hid (Nat.le_refl _),c o1 H1 D o2 H2 S2 e1 hD e2 hs2 (hn▸d2)⟩
theorem zkZ{caps:List (Option Nat)}{wi:TI}{g:TG}{tt:TT}{te:TE}{di:DI}{dg:DG}{dtt:DT}{dte:DE}(hi:RI wi di)(hg:RG g dg)(ht:RT tt dtt)(he':RE te dte):RE (zop caps wi g tt te) (zgP caps di dg dtt dte):=fun h o H δ σ S R Q he hs q c=>by
 refine zi3 (fin:=fun n S2=>R (.l n) S2) hi hg ht he' he hs q fun o1 H1 D o2 H2 S2 e1 hD e2 s2 f=>?_;have eN:Ex o1 H1 (o1++[D]) (upd H1 D (.lst [])):=⟨⟨[D],rfl⟩,fun b w hb e=>by
  have ne:b≠D:=zal e hD;exact⟨by simp [hb,ne],by rw [zZ ne]; exact e⟩⟩
 refine c o2 H2 S2 (.l o1.length) _ ((e1.trans eN).trans e2) s2 ⟨D,?_,rfl⟩ f;obtain⟨r,rfl⟩:=e2.pre;exact ze0 (by rw [List.getElem?_concat_length])
theorem zbO{caps:List (Option Nat)}{wi:TI}{g:TG}{tt:TT}{te:TE}{di:DI}{dg:DG}{dtt:DT}{dte:DE}(hi:RI wi di)(hg:RG g dg)(ht:RT tt dtt)(he':RE te dte):RE (zop caps wi g tt te) (zeg caps di dg dtt dte):=fun h o H δ σ S R Q he hs q c=>by
 refine zi3 (fin:=fun n S2=>∃ (S0:Sto) (acc:List PyData),S2=S0++[acc]/\S0.length=n/\R (.d (.list acc)) S0) hi hg ht he' he hs q fun o1 H1 D o2 H2 S2 e1 hD e2 s2 ⟨S0,acc,eS,hl,f⟩=>?_;subst eS;have eN:Ex o1 H1 (o1++[D]) (upd H1 D (.lst [])):=⟨⟨[D],rfl⟩,fun b w hb e=>by
  have ne:b≠D:=zal e hD;exact⟨by simp [hb,ne],by rw [zZ ne]; exact e⟩⟩
 have e12:=eN.trans e2;obtain⟨r,rfl⟩:=e2.pre;have er:r=[]:=by
  have:=s2.len;simp only [List.length_append,List.length_singleton,hl] at this;exact List.eq_nil_of_length_eq_zero (by omega)
 subst er;rw [List.append_nil] at s2 e12;have s0:RepS h o1 H2 S0:=s2.pop hl;refine c o1 H2 S0 (.d (.list acc)) _ (e1.trans (Ex.pop (o':=o1) e12)) s0 ?_ f;obtain⟨vs,ev,l⟩:=s2.cont o1.length D acc (by rw [List.getElem?_concat_length]) (by rw [<- hl,List.getElem?_concat_length]);have nD:D∉o1:=by
  have:=(List.nodup_append.mp s2.nd).2.2;intro m;exact this D m D (by simp) rfl
 exact zbx.mpr ⟨D,vs,rfl,zaq.mpr ⟨s2.dis D (by simp),nD,ev⟩,l.mono zlb⟩
def fin(n:Nat)(R:RX):RX:=fun y S'=>match y with
 | .l k=>if k<n then R (.l k) (S'.take n) else ∃ ds,S'[k]? = some ds/\(R (.d (.list ds)) (S'.take n)\/R (.l n) (S'.take n++[ds]))
 | y=>R y (S'.take n)
theorem zqi{h o:List Addr}{H:Hp}{S:Sto}{R:RX}{Q:VK}(hs:RepS h o H S)(c:Cn h o H R Q):Cn h o H (fin S.length R) Q:=fun o' H' S' y v e s' hy q=>by
 obtain⟨r,rfl⟩:=e.pre;have eS:S'=S'.take S.length++S'.drop S.length:=(List.take_append_drop _ _).symm;have hl:(S'.take S.length).length=o.length:=by
  have:=s'.len;rw [List.length_append] at this;rw [List.length_take,this,hs.len];omega
 have s0:RepS h o H' (S'.take S.length):=by
  rw [eS] at s';exact s'.pop hl
 have e0:Ex o H o H':=Ex.pop (o':=o) e;cases y with
 | d d=>exact c o H' _ (.d d) v e0 s0 (Has.mono zlb d v hy) q
 | o w=>exact c o H' _ (.o w) v e0 s0 hy q
 | x C fs=>exact c o H' _ (.x C fs) v e0 s0 (HasE.mono zlb hy) q
 | l k =>
  unfold fin at q;by_cases hk:k<S.length
  ·simp only [hk,↓reduceIte] at q;obtain⟨a,ea,rfl⟩:=hy;exact c o H' _ (.l k) _ e0 s0 ⟨a,by rw [List.getElem?_append_left (by rw [<- hs.len]; exact hk)] at ea; exact ea,rfl⟩ q
  ·simp only [hk,↓reduceIte] at q;obtain⟨ds,eds,q⟩:=q;obtain⟨a,ea,rfl⟩:=hy;obtain⟨vs,ev,l⟩:=s'.cont k a ds ea eds;have na:a∉o:=fun m=>by
    obtain⟨j,ej⟩:=List.mem_iff_getElem?.mp m;have hj:j<o.length:=(List.getElem?_eq_some_iff.mp ej).1;have:=zfh s'.nd (ze0 (t:=r) ej) ea;rw [hs.len] at hk;omega
   have nh:a∉h:=s'.dis a (List.mem_of_getElem? ea);rcases q with q | q
   ·exact c o H' _ (.d (.list ds)) _ e0 s0 (zbx.mpr ⟨a,vs,rfl,zaq.mpr ⟨nh,na,ev⟩,l.mono zlb⟩) q
   ·have hn:H a=none:=by
     cases eh:H a with
     | none=>rfl
     | some u=>exact absurd (List.mem_of_getElem? ea) (e.kp a u na eh).1
    have e1:Ex o H (o++[a]) H':=⟨⟨[a],rfl⟩,fun b u hb eb=>⟨by simp only [List.mem_append,List.mem_singleton,not_or]; exact⟨hb,zal eb hn⟩,(e0.kp b u hb eb).2⟩⟩;have sub:Same (vx h (o++r) H') (vx h (o++[a]) H'):=fun b u eb=>by
     obtain⟨z1,z2,z3⟩:=zaq.mp eb;refine zaq.mpr ⟨z1,?_,z3⟩;simp only [List.mem_append,List.mem_singleton,not_or];exact⟨fun m=>z2 (List.mem_append_left _ m),fun z=>z2 (by rw [z]; exact List.mem_of_getElem? ea)⟩
    refine c (o++[a]) H' _ (.l S.length) _ e1 ⟨by rw [List.length_append,List.length_append,hl]; rfl,zcq hs.nd na,fun b hb=>?_,s0.hal,fun j b es q1 q2=>?_⟩ ⟨a,by rw [hs.len,List.getElem?_concat_length],rfl⟩ q
    ·rcases List.mem_append.mp hb with hb | hb
     ·exact hs.dis b hb
     ·rw [List.mem_singleton.mp hb]; exact nh
    ·by_cases hj:j<o.length
     ·rw [List.getElem?_append_left hj] at q1;rw [List.getElem?_append_left (by rw [hl]; exact hj),List.getElem?_take_of_lt (by rw [hs.len]; exact hj)] at q2;obtain⟨ws,e3,l3⟩:=s'.cont j b es (ze0 q1) q2;exact⟨ws,e3,l3.mono sub⟩
     ·have hj':j=o.length:=by
       obtain⟨q,_⟩:=List.getElem?_eq_some_iff.mp q1;rw [List.length_append,List.length_singleton] at q;omega
      subst hj';rw [List.getElem?_concat_length] at q1;rw [<- hl,List.getElem?_concat_length] at q2;cases q1;cases q2;exact⟨vs,ev,l.mono sub⟩
def zct(n:Nat)(R:RX):DEnds:={ nx:=fun _ S'=>fin n R (.d .none) S',rt:=fin n R }
theorem eok{h o:List Addr}{H:Hp}{S:Sto}{R:RX}{Q:VK}(hs:RepS h o H S)(c:Cn h o H R Q):EOk h o H (zct S.length R) { nx:=fun _ H'=>Q .non H',rt:=Q } :=
 ⟨fun o' H' δ' S' σ' e he hs' q=>zqi hs c o' H' S' _ _ e hs' xN q,zqi hs c,fun _ _ _ _ _ _ _ _ q=>q.elim,fun _ _ _ _ _ _ _ _ q=>q.elim⟩
def zbo(p:List PyData):Prop:=∃ l g s:Int,p=[.int l,.int g,.int s]/\0<=l
end
section
def zuM(K:W.Frag):List V->Hp->VK->Prop:=fun xs H Q=>∃ (p:Addr) (ns:List Int),xs=[.ref p]/\SqL K H p (ns.map V.int)/\Q (.int ns.sum) H
theorem zjf:bootBuiltins "sum" = some (.builtin "sum"):=by decide +kernel
section
variable {X:Cx}
theorem zd7(hc:X.calm=true):CallR X (.builtin "sum") (zuM X.K):=by
 intro zl s σ H xs us Q I r h;obtain⟨p,ns,rfl,hq,q⟩:=h;obtain⟨u,rfl,rx⟩:=vals1 r;cases (show u=Value.ref p from rx);obtain⟨its,rv,pl,_⟩:=I.list hq;obtain⟨ys,e,hns⟩:=zgE (zbY rv);refine sum_intListG (I.ok.hd hc) (by rw [<- e]; exact pl.isList) fun h' tk t' hk=>⟨.int ns.sum,H,I.kept (t':=tk) hk,⟨t',?_⟩,q⟩;have es:preSum (numAt ys) ys.size=ns.sum:=by
  rw [preSum_eq,hns,List.take_of_length_le (by simp)]
 rw [es]
end
def zqK:List XV->Sto->RX->Prop:=fun xs S R=>arg1 xs fun x=>∃ ds,zpm S x=some ds/\∃ ns:List Int,ds=ns.map PyData.int/\R (.d (.int ns.sum)) S
theorem zjg{K:W.Frag}:RC (zuM K) zqK:=fun h o H S xs vs R Q hs hx q c=>by
 obtain⟨x,rfl,ds,hd,ns,rfl,q1⟩:=zbj q;obtain⟨v,rfl,hx1⟩:=hxs1 hx;obtain⟨a,ws,rfl,ea,l⟩:=zbN hs hd hx1;rw [zc4 l] at ea;exact⟨a,ns,rfl,.of ea,c o H S _ _ Ex.refl hs (xI _) q1⟩
def zuB:List XV->Sto->RX->Prop:=fun xs S R=>arg1 xs fun x=>∃ ds,zpm S x=some ds/\∃ ns:List Bool,ds=ns.map PyData.bool/\R (.d (.bool (ns.all id))) S
section
variable {S:Sto} {i:Int} {b:Bool} {z:Str} {ds:List PyData} {d:PyData} {k:Nat} {x y:XV} {R:RX} {c:String} {p:List PyData} {n:Nat} {v:V}
theorem zs7{K:Int->Prop}:asI (.d (.int i)) K=K i:=rfl
theorem zsU{K:Bool->Prop}:asB (.d (.bool b)) K=K b:=rfl
theorem ztT{K:Str->Prop}:asS (.d (.str z)) K=K z:=rfl
theorem ztP{K:List PyData->Prop}:asT (.d (.tuple ds)) K=K ds:=rfl
theorem ztG{K:PyData->Prop}:asD (.d d) K=K d:=rfl
theorem zq5:zpm S (.d (.list ds))=some ds:=rfl
theorem zs3:asQ S (.d (.list ds))=some ds:=rfl
theorem zsO:asQ S (.d (.tuple ds))=some ds:=rfl
theorem zsM:asQ S (.l k)=S[k]?:=rfl
theorem znI:zgn S (.d d)=some d:=rfl
theorem zm5:zgn S (.l k)=(S[k]?).map .list:=rfl
theorem zqs:ret0 S R (.d d) []=R (.d d) S:=rfl
theorem zqN:ret0 S R (.l 0) [ds]=R (.l S.length) (S++[ds]):=rfl
theorem zp4:ztV k S R (.d d) [p]=R (.d d) (S.set k p):=rfl
theorem ztJ:fin n R (.d d) S=R (.d d) (S.take n):=rfl
theorem ztC:fin n R (.l k) S=if k<n then R (.l k) (S.take n) else ∃ ds,S[k]? = some ds/\(R (.d (.list ds)) (S.take n)\/R (.l n) (S.take n++[ds])):=rfl
theorem zp2{K:XV->Prop}:arg1 [x] K=K x:=rfl
theorem zqe{K:XV->XV->Prop}:arg2 [x,y] K=K x y:=rfl
theorem zqL{K:String->Prop}:zt9 (.o (.ty c)) K↔K c:=⟨fun⟨_,e,q⟩=>by cases e; exact q,fun q=>⟨c,rfl,q⟩⟩
theorem zqn{K:Int->Prop}:zul (.d (.bool b)) K=K (if b then 1 else 0):=rfl
theorem zmo:(zct n R).rt x S=fin n R x S:=rfl
theorem ziR:datas []=some []:=rfl
theorem zhC{r:List XV}:datas (.d d :: r)=(datas r).map (d :: ·):=rfl
end
theorem zs9{α:Type}{a:α}{l:List α}:atI (a :: l) 0=some a:=zcW (j:=0) rfl
theorem ztu{α:Type}{a b:α}{l:List α}:atI (a :: b :: l) 1=some b:=zcW (j:=1) rfl
theorem zsl{α:Type}{a b c:α}{l:List α}:atI (a :: b :: c :: l) 2=some c:=zcW (j:=2) rfl
theorem zss{α:Type}{a b c d:α}{l:List α}:atI (a :: b :: c :: d :: l) 3=some d:=zcW (j:=3) rfl
def Shp(n:Nat)(d:PyData):Prop:=d.canLay0=true/\d.depth<=n
theorem zgj{n:Nat}{i:Int}:Shp n (.int i):=⟨rfl,Nat.zero_le _⟩
theorem zks{n:Nat}:∀ {ds:List PyData},(∀ d∈ds,Shp n d)->PyData.canLayAll0 ds=true/\PyData.depthAll ds<=n
 | [],_=>⟨by simp only [PyData.canLayAll0],by simp only [PyData.depthAll]; exact Nat.zero_le _⟩
 | d :: ds,h=>by
  obtain⟨h1,h2⟩:=h d List.mem_cons_self;obtain⟨h3,h4⟩:=zks (ds:=ds) fun e m=>h e (List.mem_cons_of_mem _ m);simp only [PyData.canLayAll0,PyData.depthAll,h1,h3,Bool.and_true,true_and];omega
theorem ziy{n:Nat}{ds:List PyData}(h:∀ d∈ds,Shp n d):Shp (n+1) (.list ds):=by
 obtain⟨h1,h2⟩:=zks h;exact⟨by simp only [PyData.canLay0]; exact h1,by simp only [PyData.depth]; omega⟩
theorem zkw{n:Nat}{ds:List PyData}(h:∀ d∈ds,Shp n d):Shp (n+1) (.tuple ds):=by
 obtain⟨h1,h2⟩:=zks h;exact⟨by simp only [PyData.canLay0]; exact h1,by simp only [PyData.depth]; omega⟩
theorem zkm{α:Type}{n:Nat}{f:α->PyData}{l:List α}(h:∀ x∈l,Shp n (f x)):∀ d∈l.map f,Shp n d:=fun d m=>by
 obtain⟨x,hx,rfl⟩:=List.mem_map.mp m;exact h x hx
theorem zuo{n:Nat}{a b:PyData}(h1:Shp n a)(h2:Shp n b):∀ d∈[a,b],Shp n d:=by
 intro d m;simp only [List.mem_cons,List.not_mem_nil,or_false] at m;rcases m with rfl | rfl
 ·exact h1
 ·exact h2
theorem Shp.ok{n:Nat}{d:PyData}(h:Shp n d)(hn:n<=64:=by decide):SeqAt.shaped d=true:=by
 unfold SeqAt.shaped;rw [h.1,decide_eq_true (Nat.le_trans h.2 hn)];rfl
theorem zaY{g:DG}{b:DS}{E:DEnds}:∀ {ds:List PyData} {δ:XE} {S:Sto} (I:Nat->XE->Sto->Prop),I 0 δ S ->
  (∀ i d δ S (N:XE->Sto->Prop),ds[i]? = some d->I i δ S->(∀ δ' S',I (i+1) δ' S'->N δ' S')->g (.d d) δ S fun δ1 S1=>b { nx:=N,ct:=N,bk:=E.nx,rt:=E.rt } δ1 S1) ->
  (∀ δ S,I ds.length δ S->E.nx δ S)->zmg g b ds E δ S
 | [],δ,S,I,h0,_,fin=>fin δ S h0
 | d :: ds,δ,S,I,h0,step,fin=>by
  show g (.d d) δ S fun δ1 S1=>b _ δ1 S1;refine step 0 d δ S _ rfl h0 fun δ' S' h1=>?_;exact zaY (ds:=ds) (fun i=>I (i+1)) h1 (fun i e δ S N hi=>step (i+1) e δ S N (by simpa using hi)) fin
theorem zix{α:Type}{l:List α}{a b:α}{n:Nat}(h:l.length=n):(l++[a]).set n b=l++[b]:=by
 subst h;rw [List.set_append_right _ _ (Nat.le_refl _),Nat.sub_self];rfl
theorem zrn{H:Hp}:RepS [] [] H []:=⟨rfl,List.nodup_nil,fun _ h=>(nomatch h),fun _ h=>(nomatch h),fun _ _ _ e=>(by simp at e)⟩
theorem Ex.same_nil{o':List Addr}{H H':Hp}(e:Ex [] H o' H'):Same H H':=fun b u q=>(e.kp b u (by simp) q).2
theorem zrt{K:W.Frag}{a:Addr}{ns:List Int}{N:Int}{j m:Nat}{tb:TS}{db:DS}{D:Ends}{σ:St}{H:Hp}(hb:RS tb db)(h0:σ[0]? = some (some (.ref a)))(hl:σ.length=m+1)(hS:SqL K H a (ns.map V.int))(hlen:ns.length<=63)
  (turn:∀ n:Int,db { nx:=fun δ _=>δ[0]? = some (some (.o (.ref a)))/\δ.length=m+1,ct:=fun δ _=>δ[0]? = some (some (.o (.ref a)))/\δ.length=m+1,rt:=fun _ _=>False } ((some (.o (.ref a)) :: List.replicate m none).set j (some (.d (.int n)))) [])
  (hj:j≠0) (done:∀ (σ:St) (H1:Hp),Same H H1->D.nx σ H1) :
  ztz (zrA K (tOp zr8 (zr1 (zlE (tC2 (zrK K) (zoF 0) (tC (.int 0))) zsa)) (tSl (zta K) (zoF 0) (zlA (tC (.int 1))) (zlA (tC (.int N)))))) (zjc j) tb D σ H:=by
 refine zn0 (a:=a) (ns:=ns) (fun σ=>σ[0]? = some (some (.ref a))/\σ.length=m+1) h0 hS hlen ⟨h0,hl⟩ ?_ fun σ H1 _ s=>done σ H1 s;rintro n σ1 H1 H2 ⟨z0,z1⟩ s1 s2;refine hb [] [] H2 _ _ [] _ _ ⟨by simp [z1],fun i x e=>?_⟩ zrn (turn n) ⟨?_,fun _ _ _ _ _ _ _ _ q=>q.elim,fun _ _ _ _ _ _ _ _ q=>q.elim,?_⟩
 ·rw [List.getElem?_set] at e ⊢;by_cases hij:j=i
  ·rw [if_pos hij] at e ⊢;by_cases hjl:j<m+1
   ·rw [if_pos (by simpa using hjl)] at e;rw [if_pos (by rw [z1]; exact hjl)];cases e;exact⟨.int n,rfl,xI n⟩
   ·rw [if_neg (by simpa using hjl)] at e;cases e
  ·rw [if_neg hij] at e ⊢;cases i with
   | zero =>
    cases e;exact⟨.ref a,z0,rfl⟩
   | succ i =>
    rw [List.getElem?_cons_succ,List.getElem?_replicate] at e;split at e <;> cases e
 ·rintro o' H' δ' S' σ' e he hs ⟨q1,q2⟩;obtain⟨v,ev,hv⟩:=he.get 0 _ q1;cases hv;exact⟨s2.trans e.same_nil,ev,by rw [<- he.len]; exact q2⟩
 ·rintro o' H' δ' S' σ' e he hs ⟨q1,q2⟩;obtain⟨v,ev,hv⟩:=he.get 0 _ q1;cases hv;exact⟨s2.trans e.same_nil,ev,by rw [<- he.len]; exact q2⟩
end
section
theorem zmH{P:Program}{w:World}{K:W.Frag}{tg:Expr}(it:Addr)(lo:Int)(n:Nat):Turn P w K tg (Itr lo n) [it] it (fun i h=>IsLongIter h it (lo+(i:Nat)*1) ((n:Int) - (i:Nat)) 1) where
 mem:=by simp
 obj:=fun i h st b hb=>by
  have e:b=it:=by simpa using hb
  subst e;exact⟨_,st,fun v z=>by
   have z':Data.fields _=Data.cell v:=z;cases z'⟩
 keep:=fun i h h' st k=>k it (by simp) _ st
 item:=by
  intro X hP hw hK hc i zl s σ H E I hf st hg;subst hP hw hK;obtain⟨f0,f1,f2,f3,f4,f5⟩:=hf it (by simp);have W:=Walks.longrange (prog:=X.prog) (w:=X.w) (I.ok.hd hc) it lo 1 n;refine W.item i s _ _ hg st fun v h' tk hv st' kk=>?_;obtain⟨t,rfl⟩:=hv;have I1:Inv X zl σ H { s with heap:=h',toks:=tk }:=I.turned (fun b o hb e=>kk b o (by simpa using hb) e) f0 f1 f3 f4 f5;refine⟨_,rfl,zod (s:={ s with heap:=h',toks:=tk }) (n:="longrange_iterator") st' rfl rfl (by decide) ⟨.int (lo+i),H,I1,⟨t,?_⟩,⟨rfl,rfl⟩,st',fun b hb=>(hf b hb).1⟩⟩;rw [Int.mul_one]
 done:=by
  intro X hP hw hK hc i zl s σ H E I hf st hg;subst hP hw hK;obtain⟨f0,f1,f2,f3,f4,f5⟩:=hf it (by simp);exact wpAny_pyNext_long_end (I.ok.hd hc) st (by have:n<=i:=hg; omega) fun h' eb=>⟨rfl,I.turned (t':=s.toks) (fun b o hb e=>eb b o hb e) f0 f1 f3 f4 f5⟩
 self:=fun _ _ _ _ _ st h=>wpAny_pyIter_longiter st h
section
variable {X:Cx} {tg:Expr}
theorem zjx{zl:List (Addr×Obj)}{σ:St}{H:Hp}{s:Shared}{R:It->Hp->Prop}{E:Value->Shared->Prop}{lo hi:Int}{t u v:Tok}{tk:Nat}(I:Inv X zl σ H s)
  (q:R (Itr lo (hi - lo).toNat) H):wpAny (model X.prog X.w) X.A (pyIter (.ref s.heap.objs.size)) (PIE X zl σ tg R) E { s with heap:=s.heap.push { cls:=.type "range",data:=.fields #[.int lo t,.int hi u,.int 1 v] },toks:=tk }:=by
 have I1:Inv X zl σ H { s with heap:=s.heap.push { cls:=.type "range",data:=.fields #[.int lo t,.int hi u,.int 1 v] },toks:=tk }:=I.kept fun b o e=>Heap.get?_push_of_some _ e;have e1:lo+((0:Nat):Int)*1=lo:=by simp
 have e2:(((hi - lo).toNat:Nat):Int) - ((0:Nat):Int)=Builtin.Range.rangeSize lo hi 1:=by rw [rangeSize_one]; split <;> omega
 cases hsm:Builtin.Range.small lo hi 1 with
 | true =>
  refine wpAny_pyIter_range (IsRange.new ..) hsm ?_;refine⟨(s.heap.push { cls:=.type "range",data:=.fields #[.int lo t,.int hi u,.int 1 v] }).objs.size,[(s.heap.push { cls:=.type "range",data:=.fields #[.int lo t,.int hi u,.int 1 v] }).objs.size],_,_,H,rfl,
   I1.kept (t':=tk) fun b o e=>Heap.get?_push_of_some _ e,zl4 _ lo (hi - lo).toNat,?_,fun b hb=>?_,q⟩
  ·show IsRangeIter _ _ (lo+((0:Nat):Int)*1) ((((hi - lo).toNat:Nat):Int) - ((0:Nat):Int)) 1;rw [e1,e2];exact Heap.get?_push_size _ rfl
  ·have e:b=(s.heap.push { cls:=.type "range",data:=.fields #[.int lo t,.int hi u,.int 1 v] }).objs.size:=by simpa using hb
   subst e;exact I1.fpOk (Nat.le_refl _) (I1.hok.fresh (Nat.le_refl _))
 | false =>
  refine wpAny_pyIter_longrange (IsRange.new ..) hsm ?_;refine⟨(s.heap.push { cls:=.type "range",data:=.fields #[.int lo t,.int hi u,.int 1 v] }).objs.size,[(s.heap.push { cls:=.type "range",data:=.fields #[.int lo t,.int hi u,.int 1 v] }).objs.size],_,_,H,rfl,
   I1.kept (t':=tk) fun b o e=>Heap.get?_push_of_some _ e,zmH _ lo (hi - lo).toNat,?_,fun b hb=>?_,q⟩
  ·show IsLongIter _ _ (lo+((0:Nat):Int)*1) ((((hi - lo).toNat:Nat):Int) - ((0:Nat):Int)) 1;rw [e1,e2];exact Heap.get?_push_size _ rfl
  ·have e:b=(s.heap.push { cls:=.type "range",data:=.fields #[.int lo t,.int hi u,.int 1 v] }).objs.size:=by simpa using hb
   subst e;exact I1.fpOk (Nat.le_refl _) (I1.hok.fresh (Nat.le_refl _))
def zqY(ta:TA):TI:=fun σ H R=>ta σ H fun vs H1=>∃ j:Int,vs=[.int j]/\R (Itr 0 j.toNat) H1
def zqM(ta:TA):TI:=fun σ H R=>ta σ H fun vs H1=>∃ i j:Int,vs=[.int i,.int j]/\R (Itr i (j - i).toNat) H1
theorem zbZ{a:Expr}{ta:TA}{p pos:Pos}(hg:Gl X "range")(hm:X.mg "range" = none)(ha:PA X [a] ta)(hs:starEach [a] X.env=[(false,eval a X.env)]:=by rfl):PI X tg (.Call (.Name "range" p) [a] [] pos) (zqY ta):=by
 intro zl s σ H R I h;refine Call_ (zfU I hg hm boot_range (PyProof.Rows.callWith_type1 (thn (ha pos zl s σ H _ I h) fun us s1 ⟨vs,H1,I1,r1,q1⟩=>?_) hs rfl));obtain⟨j,e,q⟩:=q1;subst e;cases r1 with
 | cons r rr =>
  cases rr;obtain⟨t,rfl⟩:=r;exact call_range_1 (zjx I1 (by simpa using q))
theorem zhu{a b:Expr}{ta:TA}{p pos:Pos}(hg:Gl X "range")(hm:X.mg "range" = none)(ha:PA X [a,b] ta)(hs:starEach [a,b] X.env=[(false,eval a X.env),(false,eval b X.env)]:=by rfl)(hs2:starEach [b] X.env=[(false,eval b X.env)]:=by rfl):
  PI X tg (.Call (.Name "range" p) [a,b] [] pos) (zqM ta):=by
 intro zl s σ H R I h;refine Call_ (zfU I hg hm boot_range (PyProof.Rows.callWith_type1 (thn (ha pos zl s σ H _ I h) fun us s1 ⟨vs,H1,I1,r1,q1⟩=>?_) (by rw [hs,hs2]) (by rw [hs2]; rfl)));obtain⟨i,j,e,q⟩:=q1;subst e;cases r1 with
 | cons r rr =>
  cases rr with
  | cons r' rr =>
   cases rr;obtain⟨t,rfl⟩:=r;obtain⟨t',rfl⟩:=r';exact call_range_2 (zjx I1 q)
end
def zbU(a:DA):DI:=fun δ S R=>a δ S fun xs S1=>arg1 xs fun x=>asI x fun j=>R (zkt 0 j.toNat) S1
def zg4(a:DA):DI:=fun δ S R=>a δ S fun xs S1=>arg2 xs fun x y=>asI x fun i=>asI y fun j=>R (zkt i (j - i).toNat) S1
theorem zdC{ta:TA}{da:DA}(ha:RA ta da):RI (zqY ta) (zbU da):=fun h o H δ σ S R Q he hs q c =>
 ha h o H δ σ S _ _ he hs q fun o1 H1 S1 xs vs e1 s1 x1 d0=>by
  obtain⟨x,rfl,d2⟩:=zbj d0;obtain⟨j,rfl,d1⟩:=zbi d2;obtain⟨v,rfl,hv⟩:=hxs1 x1;rw [zaJ hv];exact⟨j,rfl,c o1 H1 S1 _ _ e1 s1 zjX d1⟩
theorem zlw{ta:TA}{da:DA}(ha:RA ta da):RI (zqM ta) (zg4 da):=fun h o H δ σ S R Q he hs q c =>
 ha h o H δ σ S _ _ he hs q fun o1 H1 S1 xs vs e1 s1 x1 d0=>by
  obtain⟨x,y,rfl,d2⟩:=zkq d0;obtain⟨i,rfl,d3⟩:=zbi d2;obtain⟨j,rfl,d1⟩:=zbi d3;obtain⟨v,u,rfl,hv,hu⟩:=hxs2 x1;rw [zaJ hv,zaJ hu];exact⟨i,j,rfl,c o1 H1 S1 _ _ e1 s1 zjX d1⟩
end
section
open Sem (wp)
open AutoSeq1 (wpAny_loadPart')
section
variable {X:Cx} {zl:List (Addr×Obj)} {σ:St} {H:Hp} {s:Shared} {h':Heap}
theorem Inv.turnLaid{t':Nat}{ch:List Addr}{T:Addr}{o:HO}(I:Inv X zl σ H s)(k:∀ b u,b∉ch->s.heap.get? b=some u->h'.get? b=some u)(hf:∀ b∈ch,FpOk X zl H b)(hT:s.heap.objs.size<=T)
  (new:ObjOk X.prog X.w (upd H T o) h' T o):Inv X zl σ (upd H T o) { s with heap:=h',toks:=t' }:=by
 have hn:H T=none:=I.hok.fresh hT;have nch:∀ b u,H b=some u->b∉ch:=fun b u e m=>by rw [(hf b m).1] at e; cases e
 have neT:∀ b u,s.heap.get? b=some u->b≠T:=fun b u e z=>absurd (Nat.lt_of_lt_of_le (Heap.lt_size e) hT) (by rw [z]; exact Nat.lt_irrefl _);have up:∀ b u,H b=some u->upd H T o b=some u:=fun b u e=>(zZ (zal e hn)).trans e;refine I.step (g':=s.gens) (d':=s.drawn) (ch:=ch) (fun b hb=>?_) (fun b u _ _ hc e _=>k b u hc e) (fun b u _ _ hc e _=>⟨u.slots,k b u hc e⟩) (fun b u _ e n=>(zZ (neT b u e)).trans n)
  (fun b u hc e=>⟨u,k b u hc e⟩) (fun b xs e=>up b _ e) (fun b u v e=>up b _ e) (fun b ps e=>⟨#[],by rw [up b _ e]; simp⟩) (fun m hm=>?_) (fun b u e=>?_) I.bare
 ·obtain⟨_,f1,_,f3,f4,f5⟩:=hf b hb;exact⟨f3,f1,f4,f5⟩
 ·obtain⟨ob,es,ep,ho,r⟩:=hm;exact⟨ob,es,ep,k _ ob (fun z=>(hf _ z).2.1 rfl) ho,r⟩
 ·by_cases hb:b=T
  ·subst hb;rw [zam] at e;cases e;exact new
  ·rw [zZ hb] at e;refine(I.hok b u e).stay (fun c v hc q=>k c v ?_ q) (fun c q=>up c _ q) fun c xs q=>up c _ q;rcases hc with z | z
   ·rw [z]; exact nch b u e
   ·exact nch c _ z
theorem Inv.turnedN{t':Nat}{ch:List Addr}(I:Inv X zl σ H s)(k:∀ b u,b∉ch->s.heap.get? b=some u->h'.get? b=some u)(hf:∀ b∈ch,FpOk X zl H b):Inv X zl σ H { s with heap:=h',toks:=t' }:=by
 have nch:∀ b u,H b=some u->b∉ch:=fun b u e m=>by rw [(hf b m).1] at e; cases e
 refine I.step (g':=s.gens) (d':=s.drawn) (ch:=ch) (fun b hb=>?_) (fun b u _ _ hc e _=>k b u hc e) (fun b u _ _ hc e _=>⟨u.slots,k b u hc e⟩) (fun b u _ e n=>n)
  (fun b u hc e=>⟨u,k b u hc e⟩) (fun b xs e=>e) (fun b u v e=>e) (fun b ps e=>⟨#[],by rw [e]; simp⟩) (fun m hm=>?_) (fun b u e=>?_) I.bare
 ·obtain⟨_,f1,_,f3,f4,f5⟩:=hf b hb;exact⟨f3,f1,f4,f5⟩
 ·obtain⟨ob,es,ep,ho,r⟩:=hm;exact⟨ob,es,ep,k _ ob (fun z=>(hf _ z).2.1 rfl) ho,r⟩
 ·refine(I.hok b u e).stay (fun c v hc q=>k c v ?_ q) (fun _ q=>q) fun _ _ q=>q;rcases hc with z | z
  ·rw [z]; exact nch b u e
  ·exact nch c _ z
end
section
variable {prog:Program} {w:World} {A:Around} {E:Value->Shared->Prop} {s:Shared}
theorem zlM{j t:Addr}{i:Nat}{vs:Array Value}{x:Value}{Q:Value->Shared->Prop}(hj:s.heap.IsTupleIter j t i)(ht:s.heap.IsTuple t vs)(hx:vs[i]? = some x)
  (hQ:∀ g,g.IsTupleIter j t (i+1)->Heap.SameBut j s.heap g->Q x { s with heap:=g }):wpAny (model prog w) A (Builtin.SmallTypes.nextOf (.ref j)) Q E s:=by
 obtain⟨oj,ej,cj,dj⟩:=id hj;obtain⟨ot,et,_,nt,dt⟩:=ht;unfold Builtin.SmallTypes.nextOf;refine wpAny_bind (wpAny_callSpecial?_slot (name:=Str.ofString "__next__") hj.typeIs F.slot_tuple_iterator_next (wpAny_call_entry F.slot_tuple_iterator_next hj.typeIs F.entry_tuple_iterator_next ?_ (F.args_tuple_iterator_next_1 _)));show wpAny _ _ (field (.ref j) 0 >>= _) _ _ s;refine wpAny_bind (wpAny_field ej dj (x:=.ref t) rfl ?_);show wpAny _ _ (ite ((Value.ref t == Value.none)=true) _ _) _ _ s;refine(if_neg (show ¬ ((Value.ref t == Value.none)=true) from Bool.false_ne_true))▸?_;show wpAny _ _ (field (.ref j) 1 >>= _) _ _ s;refine wpAny_bind (wpAny_field ej dj (x:=.int i 0) rfl ?_);refine wpAny_bind (m:=seqItems? (.ref t)) (wpAny_seqItems et dt ?_);simp only [hx,Int.toNat_natCast];refine wpAny_bind (wpAny_setField ej dj (by simp) (wpAny_pure ⟨x,rfl,wpAny_pure (hQ _ ⟨_,Heap.get?_update_self _ ej (Obj.isFreed_of_fields (Obj.data_mapFields dj _)),(Obj.cls_mapFields ..).trans cj,?_⟩ (Heap.SameBut.update ..))⟩));rw [Obj.data_mapFields dj];simp [rawInt]
theorem zhc{j t:Addr}{i:Nat}{vs:Array Value}{Q:Value->Shared->Prop}(hh:A.handled=none)(hj:s.heap.IsTupleIter j t i)(ht:s.heap.IsTuple t vs)(hx:vs[i]? = none)
  (hE:∀ g e,Heap.ExtBut j s.heap g->(∃ o,g.get? e=some o/\o.cls=.type "StopIteration")->E (.ref e) { s with heap:=g }):wpAny (model prog w) A (Builtin.SmallTypes.nextOf (.ref j)) Q E s:=by
 obtain⟨oj,ej,cj,dj⟩:=id hj;obtain⟨ot,et,_,nt,dt⟩:=ht;unfold Builtin.SmallTypes.nextOf;refine wpAny_bind (wpAny_callSpecial?_slot (name:=Str.ofString "__next__") hj.typeIs F.slot_tuple_iterator_next (wpAny_call_entry F.slot_tuple_iterator_next hj.typeIs F.entry_tuple_iterator_next ?_ (F.args_tuple_iterator_next_1 _)));show wpAny _ _ (field (.ref j) 0 >>= _) _ _ s;refine wpAny_bind (wpAny_field ej dj (x:=.ref t) rfl ?_);show wpAny _ _ (ite ((Value.ref t == Value.none)=true) _ _) _ _ s;refine(if_neg (show ¬ ((Value.ref t == Value.none)=true) from Bool.false_ne_true))▸?_;show wpAny _ _ (field (.ref j) 1 >>= _) _ _ s;refine wpAny_bind (wpAny_field ej dj (x:=.int i 0) rfl ?_);refine wpAny_bind (m:=seqItems? (.ref t)) (wpAny_seqItems et dt ?_);simp only [hx,Int.toNat_natCast];refine wpAny_bind (wpAny_rule (wpAny_bind (wpAny_setField ej dj (by simp) ?_)));show wpAny _ _ (newExc (.type "StopIteration") [] >>= _) _ _ _;refine wpAny_bind ?_;simp only [newExc,newTuple];refine wpAny_bind (wpAny_newObj_type ?_ (by size_fits)); refine wpAny_bind (m:=firstArgMember _ _) (wpAny_of_eq (a:=Value.none) (by first | rfl | (simp only [firstArgMember]; rfl)) ?_);refine wpAny_newObj_type ?_ (by size_fits); simp only [raiseNew];refine wpAny_bind (wpAny_handled ?_)
 first | rw [show A.in1.handled=none from hh] | rw [hh]
 exact wpAny_bind (wpAny_pure (wpAny_throw (hE _ _ (((Heap.SameBut.update ..).extBut.push _).push _) ⟨_,Heap.get?_push_size _ rfl,rfl⟩)))
theorem zmx{e j:Addr}{i:Nat}{x old:Value}{J:Heap->Prop}{Q:Value->Shared->Prop}(he:IsEnum s.heap e j i old)(hne:e≠j)
  (hn:∀ (Q':Value->Shared->Prop) (E':Value->Shared->Prop),(∀ g,J g->Heap.SameBut j s.heap g->Q' x { s with heap:=g })->wpAny (model prog w) A (Builtin.SmallTypes.nextOf (.ref j)) Q' E' s)
  (hJ:∀ g g',J g->(∀ o,g.get? j=some o->g'.get? j=some o)->J g')
  (hQ:∀ g,IsEnumOut g e j ((i:Int)+1) x s.heap.objs.size->J g->g.get? s.heap.objs.size=some { cls:=.type "tuple",data:=.seq #[.int i s.toks,x] } ->
   (∀ b o,b≠e->b≠j->s.heap.get? b=some o->g.get? b=some o)->Q (.ref s.heap.objs.size) { s with heap:=g,toks:=s.toks+1 }) :
  wpAny (model prog w) A (Builtin.«enumerate.__next__» ⟨[.ref e],[]⟩) (fun fin s'=>∃ v,fin=.done (.ret v)/\Q v s') E s:=by
 obtain⟨h0,gs,dr,tk,os⟩:=s;show wpAny _ _ (field (.ref e) 2 >>= _) _ _ _;refine wpAny_bind (wpAny_field he rfl (x:=.ref j) rfl (wpAny_bind (hn _ _ fun g1 J1 b1=>?_)));replace b1:Heap.SameBut j h0 g1:=b1;have e1:IsEnum g1 e j i old:=(b1.2 e hne).trans he;show wpAny _ _ (field (.ref e) 3 >>= _) _ _ ⟨g1,gs,dr,tk,os⟩;refine wpAny_bind (wpAny_field e1 rfl (x:=rawInt i) rfl ?_);show wpAny _ _ (field (.ref e) 4 >>= _) _ _ ⟨g1,gs,dr,tk,os⟩;refine wpAny_bind (wpAny_field e1 rfl (x:=.none) rfl ?_);show wpAny _ _ (mkInt i >>= _) _ _ ⟨g1,gs,dr,tk,os⟩;refine wpAny_bind (wpAny_mkInt ?_);show wpAny _ _ (setField (.ref e) 3 (rawInt ((i:Int)+1)) >>= _) _ _ ⟨g1,gs,dr,tk+1,os⟩;refine wpAny_bind (wpAny_setField_rec e1 (by simp) fun g2 e2 b2=>?_);replace b2:Heap.SameBut e g1 g2:=b2;replace e2:IsEnum g2 e j ((i:Int)+1) old:=e2;show wpAny _ _ (setField (.ref e) 4 .none >>= _) _ _ ⟨g2,gs,dr,tk+1,os⟩;refine wpAny_bind (wpAny_setField_rec e2 (by simp) fun g3 e3 b3=>?_);replace b3:Heap.SameBut e g2 g3:=b3;replace e3:IsEnum g3 e j ((i:Int)+1) old:=e3;show wpAny _ _ (newTuple [.int i tk,x] >>= _) _ _ ⟨g3,gs,dr,tk+1,os⟩;refine wpAny_bind (wpAny_newTuple ?_);have sz:g3.objs.size=h0.objs.size:=by rw [b3.1,b2.1,b1.1]
 have lt:e<h0.objs.size:=Heap.lt_size he;have e4:IsEnum (g3.push { cls:=.type "tuple",data:=.seq #[.int i tk,x] }) e j ((i:Int)+1) old:=Heap.get?_push_of_some _ e3;have J3:J g3:=hJ _ _ (hJ _ _ J1 fun o q=>b2.extBut j o (Ne.symm hne) q) fun o q=>b3.extBut j o (Ne.symm hne) q;have J4:J (g3.push { cls:=.type "tuple",data:=.seq #[.int i tk,x] }):=hJ _ _ J3 fun o q=>Heap.get?_push_of_some _ q;have t4:(g3.push { cls:=.type "tuple",data:=.seq #[.int i tk,x] }).get? h0.objs.size=some { cls:=.type "tuple",data:=.seq #[.int i tk,x] }:=by rw [<- sz]; exact Heap.get?_push_size _ rfl
 have k4:∀ b o,b≠e->b≠j->h0.get? b=some o->(g3.push { cls:=.type "tuple",data:=.seq #[.int i tk,x] }).get? b=some o:=fun b o n1 n2 q=>Heap.get?_push_of_some _ (b3.extBut b o n1 (b2.extBut b o n1 (b1.extBut b o n2 q)));generalize g3.push { cls:=.type "tuple",data:=.seq #[.int i tk,x] } = g4 at e4 J4 t4 k4 ⊢;show wpAny _ _ (Builtin.SmallTypes.ownedTupleIsFree (.ref e) >>= _) _ _ ⟨g4,gs,dr,tk+1,os⟩;rw [sz];refine wpAny_bind ?_;unfold Builtin.SmallTypes.ownedTupleIsFree;refine wpAny_bind (wpAny_field e4 rfl (x:=.none) rfl (wpAny_pure ?_));simp only [if_true];refine wpAny_bind (wpAny_rule (wpAny_bind (wpAny_field e4 rfl (x:=old) rfl (wpAny_bind (wpAny_setField_rec e4 (by simp) fun g5 e5 b5=>?_)))));replace b5:Heap.SameBut e g4 g5:=b5;replace e5:IsEnum g5 e j ((i:Int)+1) x:=e5;show wpAny _ _ (Builtin.SmallTypes.ownedTupleHandOut (.ref e) (.ref h0.objs.size) >>= _) _ _ ⟨g5,gs,dr,tk+1,os⟩;refine wpAny_bind ?_;unfold Builtin.SmallTypes.ownedTupleHandOut;refine wpAny_bind (wpAny_setField_rec e5 (by simp) fun g6 e6 b6=>?_);replace b6:Heap.SameBut e g5 g6:=b6;replace e6:IsEnumOut g6 e j ((i:Int)+1) x h0.objs.size:=e6;refine wpAny_setField_rec e6 (by simp) fun g7 e7 b7=>?_;replace b7:Heap.SameBut e g6 g7:=b7;replace e7:IsEnumOut g7 e j ((i:Int)+1) x h0.objs.size:=e7;have k7:∀ b o,b≠e->g4.get? b=some o->g7.get? b=some o:=fun b o n q=>b7.extBut b o n (b6.extBut b o n (b5.extBut b o n q));exact wpAny_bind (wpAny_letGo (wpAny_pure ⟨_,rfl,hQ g7 e7 (hJ _ _ J4 fun o q=>k7 j o (Ne.symm hne) q) (k7 _ _ (Nat.ne_of_gt lt) t4) fun b o n1 n2 q=>k7 b o n1 (k4 b o n1 n2 q)⟩))
theorem zi4{e j:Addr}{i:Nat}{x old:Value}{J:Heap->Prop}{Q:Option Value->Shared->Prop}(he:IsEnum s.heap e j i old)(hne:e≠j)
  (hn:∀ (A:Around) (Q':Value->Shared->Prop) (E':Value->Shared->Prop),(∀ g,J g->Heap.SameBut j s.heap g->Q' x { s with heap:=g })->wpAny (model prog w) A (Builtin.SmallTypes.nextOf (.ref j)) Q' E' s)
  (hJ:∀ g g',J g->(∀ o,g.get? j=some o->g'.get? j=some o)->J g')
  (hQ:∀ g,IsEnumOut g e j ((i:Int)+1) x s.heap.objs.size->J g->g.get? s.heap.objs.size=some { cls:=.type "tuple",data:=.seq #[.int i s.toks,x] } ->
   (∀ b o,b≠e->b≠j->s.heap.get? b=some o->g.get? b=some o)->Q (some (.ref s.heap.objs.size)) { s with heap:=g,toks:=s.toks+1 }):wpAny (model prog w) A (pyNext (.ref e)) Q E s:=by
 have ty:s.TypeIs (.ref e) "enumerate":=⟨_,he,rfl⟩;unfold pyNext;exact wpAny_bind (wpAny_attempt (wpAny_callSpecial?_slot (name:=Str.ofString "__next__") ty F.slot_enumerate_next (wpAny_call_entry F.slot_enumerate_next ty F.entry_enumerate_next (zmx he hne (hn _) hJ fun g a b c k=>wpAny_pure (hQ g a b c k)) (F.args_enumerate_next_1 _))))
theorem zjU{e j:Addr}{i:Nat}{old:Value}{Q:Option Value->Shared->Prop}(hh:A.handled=none)(he:IsEnum s.heap e j i old)
  (hn:∀ (A:Around) (Q':Value->Shared->Prop) (E':Value->Shared->Prop),A.handled=none->(∀ g x,Heap.ExtBut j s.heap g->(∃ o,g.get? x=some o/\o.cls=.type "StopIteration")->E' (.ref x) { s with heap:=g })->wpAny (model prog w) A (Builtin.SmallTypes.nextOf (.ref j)) Q' E' s)
  (hQ:∀ g,Heap.ExtBut j s.heap g->Q none { s with heap:=g }):wpAny (model prog w) A (pyNext (.ref e)) Q E s:=by
 have ty:s.TypeIs (.ref e) "enumerate":=⟨_,he,rfl⟩;unfold pyNext;refine wpAny_bind (wpAny_attempt (wpAny_callSpecial?_slot (name:=Str.ofString "__next__") ty F.slot_enumerate_next (wpAny_call_entry F.slot_enumerate_next ty F.entry_enumerate_next ?_ (F.args_enumerate_next_1 _))));show wpAny _ _ (field (.ref e) 2 >>= _) _ _ _;refine wpAny_bind (wpAny_field he rfl (x:=.ref j) rfl (wpAny_bind (hn _ _ _ hh fun g x b hx=>?_)));obtain⟨o,ho,hc⟩:=hx;exact wpAny_bind (wpAny_isInstance (T:="StopIteration") (b:=true) ⟨o,ho,hc⟩ isSubtype_stop (wpAny_pure (hQ _ b)))
theorem zrz(t:Addr)(vs:Array Value)(n:Nat)(dct:Option Addr)(sl:Array (Option Value)):Meets (Builtin.«enumerate.__new__» ⟨[.type "enumerate",.ref t],[]⟩) (fun _ R s=>s.heap.get? t=some { cls:=.type "tuple",dict:=dct,data:=.seq vs n,slots:=sl } /\
   R (.ok (.ret (.ref (s.heap.push { cls:=.type "tuple_iterator",data:=.fields #[.ref t,.int 0 0] }).objs.size)))
    { s with heap:=(s.heap.push { cls:=.type "tuple_iterator",data:=.fields #[.ref t,.int 0 0] }).push { cls:=.type "enumerate",data:=.fields #[.none,.bool false,.ref s.heap.objs.size,rawInt 0,.none,.none] } }) :=
 .of_wp fun prog w A R s hyp=>by
  obtain⟨g0,gs,dr,tk,os⟩:=s;obtain⟨ht,hyp⟩:=hyp;have sub:=sub_enumerate;have hT:Heap.IsTuple (Shared.heap ⟨g0,gs,dr,tk,os⟩) t vs:=⟨_,ht,rfl,n,rfl⟩
  wp_walk using wpAny_loadPart' ht
  refine wpAny_stack_any fun _=>wpAny_pure ?_;split
  ·rename_i c _ _ _ _ _;cases (c == Value.type "enumerate") <;> (wp_walk using wpAny_loadPart' ht,wpAny_pyIter_tuple hT; exact⟨_,rfl,hyp⟩)
  ·wp_walk using wpAny_loadPart' ht,wpAny_pyIter_tuple hT
   exact⟨_,rfl,hyp⟩
theorem zie{t:Addr}{vs:Array Value}{Q:Value->Shared->Prop}(hT:s.heap.IsTuple t vs)
  (hyp:∀ g,IsEnum g (s.heap.objs.size+1) s.heap.objs.size 0 .none->g.IsTupleIter s.heap.objs.size t 0->(∀ b o,s.heap.get? b=some o->g.get? b=some o)->Q (.ref (s.heap.objs.size+1)) { s with heap:=g }):wpAny (model prog w) A (call (.type "enumerate") [.ref t]) Q E s:=by
 obtain⟨⟨c,dct,dt,sl⟩,ht,hc,n,hd⟩:=hT;replace hc:c=.type "tuple":=hc;replace hd:dt=.seq vs n:=hd;subst hc hd;refine callType_new F.called_enumerate (by decide) (F.typeCall_enumerate_1 _) (F.newCall_enumerate_1 _) (fun ob=>F.args_object_init_2 ob _) F.entry_enumerate_new (zrz t vs n dct sl) ⟨ht,?_⟩;have sz:(s.heap.push { cls:=.type "tuple_iterator",data:=.fields #[.ref t,.int 0 0] }).objs.size=s.heap.objs.size+1:=Heap.size_push ..;show _/\_;rw [sz];have he:=Heap.get?_push_size (s.heap.push { cls:=.type "tuple_iterator",data:=.fields #[.ref t,.int 0 0] }) (o:={ cls:=.type "enumerate",data:=.fields #[.none,.bool false,.ref s.heap.objs.size,rawInt 0,.none,.none] }) rfl;rw [sz] at he;exact⟨⟨_,he,rfl⟩,hyp _ he ⟨_,Heap.get?_push_of_some _ (Heap.get?_push_size _ rfl),rfl,rfl⟩ fun b o q=>Heap.get?_push_of_some _ (Heap.get?_push_of_some _ q)⟩
end
def Ite(Sq:Hp->Addr->List V->Prop)(a:Addr):It :=
 ⟨fun i H=>∃ xs x,Sq H a xs/\xs[i]? = some x,fun i H x H'=>∃ p v,H p=none/\x=.ref p/\H'=upd H p (.tup [.int i,v])/\∀ xs,Sq H a xs->xs[i]? = some v,fun i H=>∃ xs,Sq H a xs/\xs.length<=i⟩
theorem zlC{P:Program}{w:World}{K:W.Frag}{elts:List Expr}{n:Nat}{pos:Pos}(a e j:Addr)(hej:e≠j):Turn P w K (.Tuple elts n pos) (Ite (SqT K) a) [e,j] e (fun i h=>(∃ old,IsEnum h e j i old)/\h.IsTupleIter j a i) where
 mem:=by simp
 obj:=fun i h ⟨⟨old,he⟩,hj⟩ b hb=>by
  rcases List.mem_cons.mp hb with rfl | hb
  ·exact⟨_,he,fun v z=>by
    have z':Data.fields _=Data.cell v:=z;cases z'⟩
  ·rw [List.mem_singleton.mp hb];obtain⟨o,q,c,d⟩:=hj;exact⟨o,q,fun v z=>by rw [d] at z; cases z⟩
 keep:=fun i h h' ⟨⟨old,he⟩,hj⟩ k=>⟨⟨old,k e (by simp) _ he⟩,hj.at fun o q=>k j (by simp) o q⟩
 item:=by
  intro X hP hw hK hc i zl s σ H E I hf ⟨⟨old,he⟩,hj⟩ hg;subst hP hw hK;obtain⟨xs,x,hq,hx⟩:=hg;obtain⟨its,rv,p,hz⟩:=I.tuple hq;obtain⟨u,hu,ru⟩:=rv.get hx;have hT:s.heap.IsTuple a its.toArray:=p;refine zi4 (J:=fun g=>g.IsTupleIter j a (i+1)) he hej (fun A' Q' E' k=>zlM hj hT (x:=u) (by simpa using hu) k) (fun g g' z k=>z.at k) fun g e1 j1 t1 k1=>?_;refine⟨_,rfl,wpAny_letOwnedTupleGo_enum (s:={ s with heap:=g,toks:=s.toks+1 }) e1 fun g' e2 b2=>?_⟩;have lt:e<s.heap.objs.size:=Heap.lt_size he;have ltj:j<s.heap.objs.size:=by
   obtain⟨_,q,_⟩:=hj;exact Heap.lt_size q
  have t2:g'.get? s.heap.objs.size=some { cls:=.type "tuple",data:=.seq #[.int i s.toks,u] }:=(b2.2 _ (Nat.ne_of_gt lt)).trans t1;have neT:H s.heap.objs.size=none:=I.hok.fresh (Nat.le_refl _);refine⟨.ref s.heap.objs.size,upd H s.heap.objs.size (.tup [.int i,x]),I.turnLaid (ch:=[e,j]) (t':=s.toks+1) (fun b o nb q=>(b2.2 b fun z=>nb (by simp [z])).trans (k1 b o (fun z=>nb (by simp [z])) (fun z=>nb (by simp [z])) q)) hf (Nat.le_refl _) ?_,rfl,
   ⟨_,x,neT,rfl,rfl,fun ys hy=>by rw [I.tuple_inj hy hq]; exact hx⟩,⟨⟨u,by simpa using e2⟩,j1.at fun o q=>(b2.2 j (Ne.symm hej)).trans q⟩,fun b hb=>?_⟩
  ·refine⟨⟨by show 2<=sizeLine; decide,_,t2,rfl⟩,[.int i s.toks,u],.cons ⟨s.toks,rfl⟩ (.cons ru .nil),⟨_,t2,rfl,_,rfl⟩⟩
  ·rcases List.mem_cons.mp hb with rfl | hb
   ·rw [zZ (Nat.ne_of_lt lt)];exact(hf _ (by simp)).1
   ·rw [List.mem_singleton.mp hb,zZ (Nat.ne_of_lt ltj)];exact(hf _ (by simp)).1
 done:=by
  intro X hP hw hK hc i zl s σ H E I hf ⟨⟨old,he⟩,hj⟩ hg;subst hP hw hK;obtain⟨xs,hq,hx⟩:=hg;obtain⟨its,rv,p,hz⟩:=I.tuple hq;have hT:s.heap.IsTuple a its.toArray:=p;have hl:=rv.length;exact zjU (I.ok.hd hc) he (fun A' Q' E' h0 k=>zhc h0 hj hT (by simp; omega) k) fun g b=>⟨rfl,I.turnedN (ch:=[e,j]) (t':=s.toks) (fun b' o nb q=>b b' o (fun z=>nb (by simp [z])) q) hf⟩
 self:=fun _ _ _ _ _ st h=>by
  obtain⟨⟨old,he⟩,_⟩:=st;exact wpAny_pyIter_enum he h
theorem zmb{P:Program}{w:World}{K:W.Frag}{elts:List Expr}{n:Nat}{pos:Pos}(a e j:Addr)(hej:e≠j):Turn P w K (.Tuple elts n pos) (Ite (SqL K) a) [e,j] e (fun i h=>(∃ old,IsEnum h e j i old)/\h.IsListIter j a i) where
 mem:=by simp
 obj:=fun i h ⟨⟨old,he⟩,hj⟩ b hb=>by
  rcases List.mem_cons.mp hb with rfl | hb
  ·exact⟨_,he,fun v z=>by
    have z':Data.fields _=Data.cell v:=z;cases z'⟩
  ·rw [List.mem_singleton.mp hb];obtain⟨o,q,c,d⟩:=hj;exact⟨o,q,fun v z=>by rw [d] at z; cases z⟩
 keep:=fun i h h' ⟨⟨old,he⟩,hj⟩ k=>⟨⟨old,k e (by simp) _ he⟩,hj.at fun o q=>k j (by simp) o q⟩
 item:=by
  intro X hP hw hK hc i zl s σ H E I hf ⟨⟨old,he⟩,hj⟩ hg;subst hP hw hK;obtain⟨xs,x,hq,hx⟩:=hg;obtain⟨its,rv,p,hz⟩:=I.list hq;obtain⟨u,hu,ru⟩:=rv.get hx;have hT:s.heap.IsList a its.toArray:=p.isList;refine zi4 (J:=fun g=>g.IsListIter j a (i+1)) he hej (fun A' Q' E' k=>wpAny_nextOf_list_item hj hT (x:=u) (by simpa using hu) k) (fun g g' z k=>z.at k) fun g e1 j1 t1 k1=>?_;refine⟨_,rfl,wpAny_letOwnedTupleGo_enum (s:={ s with heap:=g,toks:=s.toks+1 }) e1 fun g' e2 b2=>?_⟩;have lt:e<s.heap.objs.size:=Heap.lt_size he;have ltj:j<s.heap.objs.size:=by
   obtain⟨_,q,_⟩:=hj;exact Heap.lt_size q
  have t2:g'.get? s.heap.objs.size=some { cls:=.type "tuple",data:=.seq #[.int i s.toks,u] }:=(b2.2 _ (Nat.ne_of_gt lt)).trans t1;have neT:H s.heap.objs.size=none:=I.hok.fresh (Nat.le_refl _);refine⟨.ref s.heap.objs.size,upd H s.heap.objs.size (.tup [.int i,x]),I.turnLaid (ch:=[e,j]) (t':=s.toks+1) (fun b o nb q=>(b2.2 b fun z=>nb (by simp [z])).trans (k1 b o (fun z=>nb (by simp [z])) (fun z=>nb (by simp [z])) q)) hf (Nat.le_refl _) ?_,rfl,
   ⟨_,x,neT,rfl,rfl,fun ys hy=>by rw [I.list_inj hy hq]; exact hx⟩,⟨⟨u,by simpa using e2⟩,j1.at fun o q=>(b2.2 j (Ne.symm hej)).trans q⟩,fun b hb=>?_⟩
  ·refine⟨⟨by show 2<=sizeLine; decide,_,t2,rfl⟩,[.int i s.toks,u],.cons ⟨s.toks,rfl⟩ (.cons ru .nil),⟨_,t2,rfl,_,rfl⟩⟩
  ·rcases List.mem_cons.mp hb with rfl | hb
   ·rw [zZ (Nat.ne_of_lt lt)];exact(hf _ (by simp)).1
   ·rw [List.mem_singleton.mp hb,zZ (Nat.ne_of_lt ltj)];exact(hf _ (by simp)).1
 done:=by
  intro X hP hw hK hc i zl s σ H E I hf ⟨⟨old,he⟩,hj⟩ hg;subst hP hw hK;obtain⟨xs,hq,hx⟩:=hg;obtain⟨its,rv,p,hz⟩:=I.list hq;have hT:s.heap.IsList a its.toArray:=p.isList;have hl:=rv.length;exact zjU (I.ok.hd hc) he (fun A' Q' E' h0 k=>wpAny_nextOf_list_end h0 hj hT (by simp; omega) k) fun g b=>⟨rfl,I.turnedN (ch:=[e,j]) (t':=s.toks) (fun b' o nb q=>b b' o (fun z=>nb (by simp [z])) q) hf⟩
 self:=fun _ _ _ _ _ st h=>by
  obtain⟨⟨old,he⟩,_⟩:=st;exact wpAny_pyIter_enum he h
section
variable {X:Cx} {elts:List Expr} {n:Nat} {tpos:Pos}
theorem zhe:bootBuiltins "enumerate" = some (.type "enumerate"):=by decide +kernel
end
def ziK(i:Nat):List PyData->List PyData
 | []=>[]
 | d :: ds=>.tuple [.int i,d] :: ziK (i+1) ds
theorem zd9:∀ (ds:List PyData) (i:Nat),(ziK i ds).length=ds.length
 | [],_=>rfl
 | d :: ds,i=>by simp [ziK,zd9 ds (i+1)]
theorem zfb:∀ (ds:List PyData) (i k:Nat) (d:PyData),(ziK i ds)[k]? = some d->∃ e,ds[k]? = some e/\d=.tuple [.int ((i+k:Nat):Int),e]
 | [],_,_,_,h=>by simp [ziK] at h
 | c :: ds,i,0,d,h=>by
  have e:PyData.tuple [.int i,c]=d:=by simpa [ziK] using h
  exact⟨c,rfl,by rw [<- e]; rfl⟩
 | c :: ds,i,k+1,d,h=>by
  obtain⟨e,h1,h2⟩:=zfb ds (i+1) k d (by simpa [ziK] using h);exact⟨e,by simpa using h1,by rw [h2]; congr 3; omega⟩
theorem zkS{X:Cx}{x:Str}{i:Int}{pos:Pos}(hg:Gl X x)(hm:∃ t,X.mg x=some (.int i t))(hd:(x == ("__debug__":Str))=false:=by decide):PE X (.Name x pos) (tC (.int i)):=by
 obtain⟨t,e⟩:=hm;exact zrF hg e ⟨t,rfl⟩ hd
end
section
def dIx:D2:=fun x y S R=>asI y fun i=>match x with
 | .d (.tuple ds)=>∃ d,atI ds i=some d/\R (.d d) S
 | .d (.list ds)=>∃ d,atI ds i=some d/\R (.d d) S
 | .l k=>∃ ds,S[k]? = some ds/\∃ d,atI ds i=some d/\R (.d d) S
 | .d (.str z)=>z.length<=sizeLine/\∃ c,atI z.cps.toList i=some c/\R (.d (.str ⟨#[c]⟩)) S
 | _=>False
theorem zs0:RO zuk (fun x y S R=>asS x fun z=>asI y fun i=>z.length<=sizeLine/\∃ c,atI z.cps.toList i=some c/\R (.d (.str ⟨#[c]⟩)) S):=fun h o H S x y v u R Q hs hx hy q c=>by
 replace q:=zmN q;obtain⟨z,rfl,q⟩:=q;replace q:=zbi q;obtain⟨i,rfl,hz,k,ek,q⟩:=q;exact⟨z,i,k,zdZ hx,zaJ hy,hz,ek,c o H S _ _ Ex.refl hs (xS _) q⟩
theorem zJ{K:W.Frag}:RO (rIx K) dIx:=fun h o H S x y v u R Q hs hx hy q c=>by
 replace q:=zbi q;obtain⟨i,rfl,q⟩:=q;split at q
 ·exact .inr (.inl (zsJ h o H S _ _ v u R Q hs hx hy q c))
 ·exact .inl (zqz h o H S _ _ v u R Q hs hx hy ⟨_,rfl,q⟩ c)
 ·exact .inl (zqz h o H S _ _ v u R Q hs hx hy q c)
 ·exact .inr (.inr (zs0 h o H S _ _ v u R Q hs hx hy q c))
 ·exact q.elim
section
variable {S:Sto} {R:RX} {ds:List PyData} {i:Int} {k:Nat} {z:Str}
theorem ztA:dIx (.d (.tuple ds)) (.d (.int i)) S R=∃ d,atI ds i=some d/\R (.d d) S:=rfl
theorem ztK:dIx (.d (.list ds)) (.d (.int i)) S R=∃ d,atI ds i=some d/\R (.d d) S:=rfl
theorem zsw:dIx (.l k) (.d (.int i)) S R=∃ ds,S[k]? = some ds/\∃ d,atI ds i=some d/\R (.d d) S:=rfl
theorem zsm:dIx (.d (.str z)) (.d (.int i)) S R=(z.length<=sizeLine/\∃ c,atI z.cps.toList i=some c/\R (.d (.str ⟨#[c]⟩)) S):=rfl
end
def zuL(K:W.Frag):V->Option Int->Option Int->Hp->VK->Prop:=fun x a b H Q=>zta K x a b H Q\/(zuw K x a b H Q\/zuO x a b H Q)
theorem zfW{X:Cx}:SlR X (zuL X.K):=zow.or (zty.or ztE)
def zji:D3:=fun x i j S R=>match x with
 | .d (.tuple ds)=>¬ (HT.sIx ds.length 0 i=0/\HT.sIx ds.length ds.length j=ds.length)/\R (.d (.tuple (zdP ds i j))) S
 | .d (.list ds)=>R (.d (.list (zdP ds i j))) S
 | .l k=>∃ ds,S[k]? = some ds/\R (.d (.list (zdP ds i j))) S
 | .d (.str z)=>z.length<=sizeLine/\R (.d (.str (PySem.Txt.slice z i j))) S
 | _=>False
theorem zfM{K:W.Frag}:RL (zuL K) zji:=fun h o H S x v a b R Q hs hx q c=>by
 unfold zji at q;split at q
 ·exact .inr (.inl (zs1 h o H S _ v a b R Q hs hx q c))
 ·exact .inl (zn4 h o H S _ v a b R Q hs hx ⟨_,rfl,q⟩ c)
 ·exact .inl (zn4 h o H S _ v a b R Q hs hx q c)
 ·exact .inr (.inr ⟨_,zdZ hx,q.1,c o H S _ _ Ex.refl hs (xS _) q.2⟩)
 ·exact q.elim
section
variable {S:Sto} {R:RX} {ds:List PyData} {i j:Option Int} {k:Nat} {z:Str}
theorem zq3:zji (.d (.tuple ds)) i j S R=(¬ (HT.sIx ds.length 0 i=0/\HT.sIx ds.length ds.length j=ds.length)/\R (.d (.tuple (zdP ds i j))) S):=rfl
theorem zqc:zji (.d (.list ds)) i j S R=R (.d (.list (zdP ds i j))) S:=rfl
theorem zqr:zji (.l k) i j S R=∃ ds,S[k]? = some ds/\R (.d (.list (zdP ds i j))) S:=rfl
theorem zqj:zji (.d (.str z)) i j S R=(z.length<=sizeLine/\R (.d (.str (PySem.Txt.slice z i j))) S):=rfl
end
def zp5(K:W.Frag):R2:=fun x y H Q=>∃ a b ys,x=.ref a/\y=.ref b/\SqT K H a []/\SqT K H b ys/\Q (.ref b) H
theorem zo9{X:Cx}:OpR X (binaryOp .Add) (zp5 X.K):=by
 intro zl s σ H x y v u Q I rx ry h;obtain⟨a,b,ys,rfl,rfl,ha,hb,q⟩:=h;cases rx;cases ry;obtain⟨its,r1,p1,_⟩:=I.tuple ha;obtain⟨its2,r2,p2,_⟩:=I.tuple hb;cases r1;obtain⟨⟨c1,d1,e1,l1⟩,o1,w1,n1,k1⟩:=id p1;obtain⟨⟨c2,d2,e2,l2⟩,o2,w2,n2,k2⟩:=id p2;simp only at w1 k1 w2 k2;subst w1 k1 w2 k2;exact concat_meets ⟨_,o1,rfl⟩ ⟨_,o2,rfl⟩ noFill_tuple_add seq_tuple_add PySem.F.slot_tuple_add PySem.F.entry_tuple_add (PySem.F.args_tuple_add_2 _ _) (tuple_addW0 a b _ _ n1 n2 d1 d2 l1 l2 (by simp)) ⟨o1,o2,⟨.ref b,H,I,rfl,q⟩⟩
def zsq(K:W.Frag):R2:=fun x y H Q=>rI0 (fun i j=>.int (i+j)) x y H Q\/(zr8 x y H Q\/(zrM K x y H Q\/(zp5 K x y H Q\/∃ i j,x=.str i/\y=.str j/\i.length+j.length<=sizeLine/\Q (.str (i++j)) H)))
theorem zL{X:Cx}:OpR X (binaryOp .Add) (zsq X.K):=ztp.or (zog.or (zrf.or (zo9.or zlQ)))
def zbJ:D2:=fun x y S R=>match x,y with
 | .d (.int i),.d (.int j)=>R (.d (.int (i+j))) S
 | .d (.tuple ds),.d (.tuple es)=>ds.length+es.length<=1000/\R (.d (.tuple (ds++es))) S
 | .d (.str a),.d (.str b)=>a.length+b.length<=sizeLine/\R (.d (.str (a++b))) S
 | x,y=>asL S x fun ds=>asL S y fun es=>ds.length+es.length<=1000/\R (.d (.list (ds++es))) S
theorem zY{K:W.Frag}:RO (zsq K) zbJ:=fun h o H S x y v u R Q hs hx hy q c=>by
 unfold zbJ at q;split at q
 ·exact .inl (zb9 h o H S _ _ v u R Q hs hx hy q c)
 ·rename_i ds es;cases ds with
  | cons d ds=>exact .inr (.inr (.inl (zru h o H S _ _ v u R Q hs hx hy ⟨by simp,q⟩ c)))
  | nil =>
   obtain⟨a,vs,rfl,ea,l⟩:=zeC hx;obtain⟨b,us,rfl,eb,l'⟩:=zeC hy;rw [zS.mp l] at ea;exact .inr (.inr (.inr (.inl ⟨a,b,us,rfl,rfl,.of ea,.of eb,c o H S (.d (.tuple es)) _ Ex.refl hs hy q.2⟩)))
 ·exact .inr (.inr (.inr (.inr ⟨_,_,zdZ hx,zdZ hy,q.1,c o H S _ _ Ex.refl hs (xS _) q.2⟩)))
 ·exact .inr (.inl (ztO h o H S _ _ v u R Q hs hx hy q c))
section
variable {S:Sto} {R:RX} {ds es:List PyData} {i j:Int} {k l:Nat} {a b:Str}
theorem zqq:zbJ (.d (.int i)) (.d (.int j)) S R=R (.d (.int (i+j))) S:=rfl
theorem zpT:zbJ (.d (.tuple ds)) (.d (.tuple es)) S R=(ds.length+es.length<=1000/\R (.d (.tuple (ds++es))) S):=rfl
theorem znc:zbJ (.d (.list ds)) (.d (.list es)) S R↔(ds.length+es.length<=1000/\R (.d (.list (ds++es))) S):=⟨fun⟨_,e,_,e',q⟩=>by cases e; cases e'; exact q,fun q=>⟨_,rfl,_,rfl,q⟩⟩
end
def ztf:R2:=fun x y H Q=>rI IntMulOk (fun i j=>.int (i*j)) x y H Q\/(ztL x y H Q\/zu0 x y H Q)
theorem zaw{X:Cx}:OpR X (binaryOp .Mult) ztf:=zr5.or (zrC.or zsv)
def zdL:D2:=fun x y S R=>asI y fun j=>match x with
 | .d (.int i)=>IntMulOk i j/\R (.d (.int (i*j))) S
 | .d (.str z)=>z.length<=1000/\j<=1000/\-1000<=j/\R (.d (.str (PySem.Txt.mul z j))) S
 | .d (.list ds)=>j<=1000/\-1000<=j/\ds.length*j.toNat<=1000/\R (.d (.list (List.replicate j.toNat ds).flatten)) S
 | _=>False
theorem HasL.rep{H:Hp}{ds:List PyData}{vs:List V}(l:HasL H ds vs):∀ n:Nat,HasL H (List.replicate n ds).flatten (List.replicate n vs).flatten
 | 0=>zS.mpr rfl
 | n+1=>by
  rw [List.replicate_succ,List.replicate_succ,List.flatten_cons,List.flatten_cons];exact l.append (HasL.rep l n)
theorem za4:RO ztf zdL:=fun h o H S x y v u R Q hs hx hy q c=>by
 replace q:=zbi q;obtain⟨j,rfl,q⟩:=q;split at q
 ·exact .inl (zhI h o H S _ _ v u R Q hs hx hy q c)
 ·exact .inr (.inl ⟨_,_,zdZ hx,zaJ hy,q.1,q.2.1,q.2.2.1,c o H S _ _ Ex.refl hs (xS _) q.2.2.2⟩)
 ·obtain⟨a,vs,rfl,ea,l⟩:=zbN (x:=.d (.list _)) hs rfl hx;obtain⟨h1,h2,h3,q⟩:=q;exact .inr (.inr ⟨a,j,vs,rfl,zaJ hy,ea,by omega,by omega,by rw [l.length]; exact Nat.le_of_lt (small1000 h3),zmk hs (l.rep j.toNat) c q⟩)
 ·exact q.elim
section
variable {S:Sto} {R:RX} {i j:Int} {z:Str} {ds:List PyData}
theorem zp3:zdL (.d (.list ds)) (.d (.int j)) S R=(j<=1000/\-1000<=j/\ds.length*j.toNat<=1000/\R (.d (.list (List.replicate j.toNat ds).flatten)) S):=rfl
theorem zqJ:zdL (.d (.int i)) (.d (.int j)) S R=(IntMulOk i j/\R (.d (.int (i*j))) S):=rfl
theorem zqW:zdL (.d (.str z)) (.d (.int j)) S R=(z.length<=1000/\j<=1000/\-1000<=j/\R (.d (.str (PySem.Txt.mul z j))) S):=rfl
end
def zuG:R2:=fun x y H Q=>rI CDivX (fun i j=>.int (i / j)) x y H Q\/rI CDivN (fun i j=>.int (i.fdiv j)) x y H Q
theorem zdX{X:Cx}:OpR X (binaryOp .FloorDiv) zuG:=zpQ.or zpt
def dFd:D2:=fun x y S R=>asI x fun i=>asI y fun j=>(CDivX i j/\R (.d (.int (i / j))) S)\/(CDivN i j/\R (.d (.int (i.fdiv j))) S)
theorem zgo:RO zuG dFd:=fun h o H S x y v u R Q hs hx hy q c=>by
 replace q:=zbi q;obtain⟨i,rfl,q⟩:=q;replace q:=zbi q;obtain⟨j,rfl,q⟩:=q;rcases q with q | q
 ·exact .inl (zhI (C:=CDivX) (g:=fun i j=>i / j) h o H S _ _ v u R Q hs hx hy q c)
 ·exact .inr (zhI (C:=CDivN) (g:=fun i j=>i.fdiv j) h o H S _ _ v u R Q hs hx hy q c)
def zue(S:Sto):XV->Option Bool
 | .d .none=>some false
 | .d (.bool b)=>some b
 | .d (.int i)=>some (i != 0)
 | .d (.str z)=>if z.length<=sizeLine then some ((z.length:Int) != 0) else none
 | .d (.list ds)=>some (!ds.isEmpty)
 | .d (.tuple ds)=>some (!ds.isEmpty)
 | .l k=>(S[k]?).map fun ds=>!ds.isEmpty
 | _=>none
def zoB(a:DE):DT:=fun δ S R=>a δ S fun x S1=>∃ k,zue S1 x=some k/\R k S1
theorem zeF{H:Hp}{ds:List PyData}{vs:List V}(l:HasL H ds vs):(!ds.isEmpty) = !vs.isEmpty:=by
 have:=l.length;cases ds <;> cases vs <;> simp_all
theorem zgW{K:W.Frag}{ta:TE}{da:DE}(ha:RE ta da):RT (fun σ H Q=>ta σ H fun x H'=>∃ k,TruV K x H' k/\Q k H') (zoB da):=fun h o H δ σ S R Q he hs q c =>
 ha h o H δ σ S _ _ he hs q fun o1 H1 S1 x v e1 s1 x1 ⟨k,ek,d1⟩=>by
  refine⟨k,?_,c o1 H1 S1 k e1 s1 d1⟩;unfold zue at ek;split at ek
  ·cases ek; rw [(ze7 (H:=vx h o1 H1)).mp x1]; rfl
  ·cases ek; rw [zfv x1]; rfl
  ·cases ek; rw [zaJ x1]; rfl
  ·split at ek
   ·rename_i hz;cases ek; rw [zdZ x1]; exact⟨hz,rfl⟩
   ·cases ek
  ·obtain⟨a,vs,rfl,ea,l⟩:=zbN (x:=.d (.list _)) s1 rfl x1;cases ek;exact .inl ⟨vs,.of ea,zeF l⟩
  ·obtain⟨a,vs,rfl,ea,l⟩:=zeC x1;cases ek;exact .inr (.inl ⟨vs,.of ea,zeF l⟩)
  ·rename_i j _;cases hj:S1[j]? with
   | none=>rw [hj] at ek; cases ek
   | some ds =>
    rw [hj] at ek;cases ek;obtain⟨a,vs,rfl,ea,l⟩:=zbN (x:=.l j) s1 hj x1;exact .inl ⟨vs,.of ea,zeF l⟩
  ·cases ek
section
variable {S:Sto} {b:Bool} {i:Int} {ds:List PyData} {k:Nat}
theorem zqt:zue S (.d (.bool b))=some b:=rfl
end
def zhL:DS:=fun _ _ _=>False
theorem zik:RS zp8 zhL:=fun h o H δ σ S E D he hs q c=>q.elim
def zuQ(K:W.Frag)(tl:TE):TI:=fun σ H R=>tl σ H fun x H1=>∃ a,x=.ref a/\(((∃ xs,SqL K H1 a xs)/\R (Itl K a) H1)\/((∃ xs,SqT K H1 a xs)/\R (Itt K a) H1))
theorem zcg{X:Cx}{tg:Expr}{l:Expr}{tl:TE}(hl:PE X l tl):PI X tg l (zuQ X.K tl):=by
 intro zl s σ H R I h;refine thn (hl zl s σ H _ I h) fun v s1 ⟨x,H1,I1,r1,q1⟩=>?_;obtain⟨a,e,⟨⟨xs,hq⟩,q⟩ | ⟨⟨xs,hq⟩,q⟩⟩:=q1
 ·subst e;cases r1;obtain⟨its,rv,p,hz⟩:=I1.list hq;refine wpAny_pyIter_list p.isList ?_;refine⟨s1.heap.objs.size,[s1.heap.objs.size],_,_,H1,rfl,I1.kept (t':=s1.toks) fun b o e=>Heap.get?_push_of_some _ e,zjy a _,⟨_,Heap.get?_push_size _ rfl,rfl,rfl⟩,fun b hb=>?_,q⟩;have e:b=s1.heap.objs.size:=by simpa using hb
  subst e;exact I1.fpOk (Nat.le_refl _) (I1.hok.fresh (Nat.le_refl _))
 ·subst e;cases r1;obtain⟨its,rv,p,hz⟩:=I1.tuple hq;refine wpAny_pyIter_tuple (show s1.heap.IsTuple a its.toArray from p) ?_;refine⟨s1.heap.objs.size,[s1.heap.objs.size],_,_,H1,rfl,I1.kept (t':=s1.toks) fun b o e=>Heap.get?_push_of_some _ e,zlX a _,⟨_,Heap.get?_push_size _ rfl,rfl,rfl⟩,fun b hb=>?_,q⟩;have e:b=s1.heap.objs.size:=by simpa using hb
  subst e;exact I1.fpOk (Nat.le_refl _) (I1.hok.fresh (Nat.le_refl _))
def zlm:XV->Option (List PyData)
 | .d (.list ds)=>some ds
 | .d (.tuple ds)=>some ds
 | _=>none
theorem zqo{ds:List PyData}:zlm (.d (.list ds))=some ds:=rfl
theorem zqf{ds:List PyData}:zlm (.d (.tuple ds))=some ds:=rfl
def zcX(e:DE):DI:=fun δ S R=>e δ S fun x S1=>∃ ds,zlm x=some ds/\R ds S1
theorem zce{K:W.Frag}{te:TE}{de:DE}(he':RE te de):RI (zuQ K te) (zcX de):=fun h o H δ σ S R Q he hs q c =>
 he' h o H δ σ S _ _ he hs q fun o1 H1 S1 x v e1 s1 x1 ⟨ds,ex,d1⟩=>by
  unfold zlm at ex;split at ex
  ·cases ex;obtain⟨a,vs,rfl,ea,l⟩:=zbx.mp (show Has _ _ _ from x1);have hl:=l.length;refine⟨a,rfl,.inl ⟨⟨vs,.of (zao _ _ ea)⟩,c o1 H1 S1 ds _ e1 s1 ⟨fun i o2 H2 e2 hi=>⟨vs,.of (zao _ _ (e2.vx _ _ ea)),by omega⟩,fun i d o2 H2 e2 hi=>?_,fun i d o2 H2 x H3 S2 e2 s2 hi y=>?_⟩ d1⟩⟩
   ·obtain⟨v,ev,_⟩:=l.get hi;exact⟨vs,v,.of (zao _ _ (e2.vx _ _ ea)),ev⟩
   ·obtain⟨v,ev,hv⟩:=l.get hi;have e3:H3=H2:=y.1;subst e3;have ex:=y.2 vs (.of (zao _ _ (e2.vx _ _ ea)));rw [ev] at ex;cases ex;exact⟨Same.refl _,hv.mono e2.vx⟩
  ·cases ex;obtain⟨a,vs,rfl,ea,l⟩:=zaG.mp (show Has _ _ _ from x1);have hl:=l.length;refine⟨a,rfl,.inr ⟨⟨vs,.of (zao _ _ ea)⟩,c o1 H1 S1 ds _ e1 s1 ⟨fun i o2 H2 e2 hi=>⟨vs,.of (zao _ _ (e2.vx _ _ ea)),by omega⟩,fun i d o2 H2 e2 hi=>?_,fun i d o2 H2 x H3 S2 e2 s2 hi y=>?_⟩ d1⟩⟩
   ·obtain⟨v,ev,_⟩:=l.get hi;exact⟨vs,v,.of (zao _ _ (e2.vx _ _ ea)),ev⟩
   ·obtain⟨v,ev,hv⟩:=l.get hi;have e3:H3=H2:=y.1;subst e3;have ex:=y.2 vs (.of (zao _ _ (e2.vx _ _ ea)));rw [ev] at ex;cases ex;exact⟨Same.refl _,hv.mono e2.vx⟩
  ·cases ex
def zuC(dt:DS):DS:=fun E δ S=>dt { E with nx:=fun δ' S'=>∃ S0 ds,S'=S0++[ds]/\S.length<=S0.length/\E.nx (δ'.map (frz S0.length ds)) S0 } δ S
end
section
abbrev PN:=List XV->Sto->RX->Prop
def lfN(q:PN):List V->Hp->VK->Prop:=fun vs H Q=>∃ h o S xs R,RepS h o H S/\HasXs h o H xs vs/\q xs S R/\Cn h o H R Q
def spN(ps:List Str)(q:PN):Sp:=fun vs H Q _=>vs.length=ps.length/\lfN q vs H Q
theorem HasXs.len{h o:List Addr}{H:Hp}:∀ {xs:List XV} {vs:List V},HasXs h o H xs vs->vs.length=xs.length
 | [],vs,q=>by rw [show vs=[] from q]; rfl
 | x :: xs,vs,⟨v,r,e,_,l⟩=>by rw [e,List.length_cons,List.length_cons,HasXs.len l]
theorem HasXs.get{h o:List Addr}{H:Hp}:∀ {xs:List XV} {vs:List V} {i:Nat} {x:XV},HasXs h o H xs vs->xs[i]? = some x->∃ v,vs[i]? = some v/\HasX h o H x v
 | [],_,i,_,_,e=>by simp at e
 | y :: xs,vs,0,x,⟨v,r,e1,q,l⟩,e=>by
  rw [List.getElem?_cons_zero] at e;cases e;subst e1;exact⟨v,rfl,q⟩
 | y :: xs,vs,i+1,x,⟨v,r,e1,q,l⟩,e=>by
  subst e1;rw [List.getElem?_cons_succ] at e ⊢;exact HasXs.get l e
theorem zlO{h o:List Addr}{H:Hp}{xs:List XV}{vs:List V}{n:Nat}(q:HasXs h o H xs vs):RepE h o H (xs.map some++List.replicate n none) (vs.map some++List.replicate n none):=by
 have hl:=q.len;refine⟨by simp [hl],fun i x e=>?_⟩;by_cases hi:i<xs.length
 ·rw [List.getElem?_append_left (by rw [List.length_map]; exact hi),List.getElem?_map] at e;obtain⟨y,ey,e⟩:=Option.map_eq_some_iff.mp e;cases e;obtain⟨v,ev,hv⟩:=q.get ey;exact⟨v,by rw [List.getElem?_append_left (by rw [List.length_map,hl]; exact hi),List.getElem?_map,ev]; rfl,hv⟩
 ·rw [List.getElem?_append_right (by rw [List.length_map]; omega),List.getElem?_replicate] at e;split at e <;> cases e
section
variable {P:Program} {w:World} {K:W.Frag} {mg:Str->Option Value} {base:Heap} {x:Str} {st:Stmt} {N ps:List Str} {k:Nat}
theorem Df.dN{q:PN}(D:Dd K mg x st ps)(S:FnScope N ps (zp st))(n:Nat)(hn:N.length=ps.length+n)
  (hbody:∀ (f:Addr) (cdv:Value) (A:Around) (outer:List Env) (s:Shared) (H:Hp) (E:XK),Room k (A.deeper (envOfC x (zp st) s.heap.objs.size f cdv)) ->
   ∃ t dt,PSs (zoD CX0 P w K mg base N x (zp st) f cdv A outer s H E).nox (zcb st) t/\RS t dt/\∀ xs S R,q xs S R->dt (zct S.length R) (xs.map some++List.replicate n none) S):Df P w K mg base x ps (k+1) (spN ps q):=by
 refine Df.of D S (fun vs H Q E h=>h.1) fun f cdv A outer s H vs Q E hr ⟨hl,h,o,S',xs,R,hs',hx,hq,c⟩=>?_;obtain⟨t,dt,h1,h2,h3⟩:=hbody f cdv A outer s H E hr;refine⟨t,h1,h2 h o H _ _ S' _ _ ?_ hs' (h3 xs S' R hq) (eok hs' c)⟩;have e:N.length - vs.length=n:=by omega
 unfold start;rw [e];exact zlO hx
end
section
variable {X:Cx} {x:Str} {ps:List Str} {k j:Nat} {pos pos':Pos} {e:Expr} {es:List Expr} {t:TA}
theorem zu{q:PN}(D:Df X.prog X.w X.K X.mg X.base x ps k (spN ps q))(hr:Room j X.A)(hk:k<=j)(ha:PA X (e :: es) t)(hg:Gl X x:=by rfl)(hdb:(x == ("__debug__":Str))=false:=by decide)
  (q1:starEach (e :: es) X.env=(false,eval e X.env) :: starEach es X.env:=by rfl) (q2:((backTo pos (starEach es X.env)).any fun x=>x.fst)=false:=by rfl):PE X (.Call (.Name x pos') (e :: es) [] pos) (zo5 (spN ps q) [] E0 t):=by
 obtain⟨f,fd,F,hm,kp,hb⟩:=D.ex;exact zmC (dvs:=[]) (ds:=[]) (E:=E0) F (hr.mono hk) hg hm kp hb .nil pass0 ha hdb q1 q2
end
def zaa(m:Nat)(q:PN)(da:DA):DE:=fun δ S R=>da δ S fun xs S1=>∃ ds,datas xs=some ds/\ds.length=m/\q (ds.map XV.d) [] (ret0 S1 R)
theorem hxs0{h o:List Addr}{H:Hp}:∀ {ds:List PyData} {vs:List V},HasXs h o H (ds.map XV.d) vs->HasXs (h++o) [] H (ds.map XV.d) vs
 | [],_,q=>q
 | d :: ds,vs,⟨v,r,e,q,l⟩=>⟨v,r,e,hx0 q,hxs0 l⟩
theorem zx{ps:List Str}{q:PN}{m:Nat}{t:TA}{da:DA}(ha:RA t da)(hm:ps.length=m:=by rfl):RE (zo5 (spN ps q) [] E0 t) (zaa m q da):=fun h o H δ σ S R Q he hs w c =>
 ha h o H δ σ S _ _ he hs w fun o1 H1 S1 xs vs e1 s1 x1 ⟨ds,e,hl,d1⟩=>by
  have ex:=zdr e;subst ex;have hv:=x1.len;rw [List.append_nil];exact⟨by rw [hv,List.length_map,hl,hm],h++o1,[],[],_,_,rep0 s1,hxs0 x1,d1,cn0 s1 (c.pre e1)⟩
def zaf(i m:Nat)(q:PN)(da:DA):DE:=fun δ S R=>da δ S fun xs S1=>∃ k,xs[i]? = some (.l k)/\∃ p,S1[k]? = some p/\∃ ds,datas (xs.set i (.d .none))=some ds/\ds.length=m/\q ((ds.map XV.d).set i (.l 0)) [p] (ztV k S1 R)
theorem zuY{h o:List Addr}{H:Hp}{k:Nat}{a:Addr}(ea:o[k]? = some a):∀ {xs:List XV} {vs:List V} {ds:List PyData} {i:Nat},HasXs h o H xs vs->xs[i]? = some (.l k)->datas (xs.set i (.d .none))=some ds->HasXs (h++o.filter (fun b=>b≠a)) [a] H ((ds.map XV.d).set i (.l 0)) vs
 | [],_,_,i,_,e,_=>by simp at e
 | x :: xs,vs,ds,0,⟨v,r,e1,q,l⟩,e,ed=>by
  rw [List.getElem?_cons_zero] at e;cases e;rw [List.set_cons_zero] at ed;obtain⟨ds',rfl⟩:∃ ds',ds=.none :: ds':=by
   unfold datas at ed;cases hd:datas xs with
   | none=>rw [hd] at ed; cases ed
   | some y=>rw [hd] at ed; cases ed; exact⟨y,rfl⟩
  have ed':datas xs=some ds':=by
   unfold datas at ed;cases hd:datas xs with
   | none=>rw [hd] at ed; cases ed
   | some y=>rw [hd] at ed; cases ed; rfl
  have ex:=zdr ed';subst ex;obtain⟨b,eb,rfl⟩:=q;rw [ea] at eb;cases eb;exact⟨_,r,e1,⟨a,rfl,rfl⟩,go (ea:=ea) l⟩
 | x :: xs,vs,ds,i+1,⟨v,r,e1,q,l⟩,e,ed=>by
  rw [List.getElem?_cons_succ] at e;rw [List.set_cons_succ] at ed
  match x,q,ed with
  | .d d,q,ed =>
   unfold datas at ed;cases hd:datas (xs.set i (.d .none)) with
   | none=>rw [hd] at ed; cases ed
   | some ds' =>
    rw [hd] at ed;cases ed;exact⟨v,r,e1,hxP ea q,zuY ea l e hd⟩
  | .l j,q,ed=>cases ed
  | .o w,q,ed=>cases ed
  | .x _ _,q,ed=>cases ed
where
 go {h o:List Addr} {H:Hp} {k:Nat} {a:Addr} {ea:o[k]? = some a}:∀ {ds:List PyData} {vs:List V},HasXs h o H (ds.map XV.d) vs->HasXs (h++o.filter (fun b=>b≠a)) [a] H (ds.map XV.d) vs
 | [],_,q=>q
 | d :: ds,vs,⟨v,r,e,q,l⟩=>⟨v,r,e,hxP ea q,go (ea:=ea) l⟩
theorem zno:∀ {xs:List XV} {ds:List PyData},datas xs=some ds->xs.length=ds.length:=fun e=>by
 rw [zdr e,List.length_map]
theorem zT{ps:List Str}{q:PN}{i m:Nat}{t:TA}{da:DA}(ha:RA t da)(hm:ps.length=m:=by rfl):RE (zo5 (spN ps q) [] E0 t) (zaf i m q da):=fun h o H δ σ S R Q he hs w c =>
 ha h o H δ σ S _ _ he hs w fun o1 H1 S1 xs vs e1 s1 x1 ⟨k,ek,p,ep,ds,e,hl,d1⟩=>by
  have hv:=x1.len;have hd:=zno e;rw [List.length_set] at hd;obtain⟨v,_,a,ea,_⟩:=x1.get ek;rw [List.append_nil];exact⟨by rw [hv,hd,hl,hm],_,[a],[p],_,_,ztW s1 ea ep,zuY ea x1 ek e,d1,cnP s1 ea ep (c.pre e1)⟩
end
section
def zts(K:W.Frag):List V->Hp->VK->Prop:=fun xs H Q=>zuh K xs H Q\/∃ z,xs=[.str z]/\z.length<=sizeLine/\Q (.int z.length) H
theorem zbm{X:Cx}:CallR X (.builtin "len") (zts X.K):=zfO.or zi7
def ztX(S:Sto):XV->Option Nat
 | .d (.tuple ds)=>some ds.length
 | .d (.list ds)=>some ds.length
 | .l k=>(S[k]?).map List.length
 | .d (.str z)=>if z.length<=sizeLine then some z.length else none
 | _=>none
def zfz:List XV->Sto->RX->Prop:=fun xs S R=>arg1 xs fun x=>∃ n,ztX S x=some n/\R (.d (.int n)) S
theorem zcU{K:W.Frag}:RC (zts K) zfz:=fun h o H S xs vs R Q hs hx q c=>by
 obtain⟨x,rfl,n,hd,q1⟩:=zbj q;unfold ztX at hd;split at hd
 ·cases hd;exact .inl (znR h o H S _ vs R Q hs hx ⟨_,rfl,q1⟩ c)
 ·cases hd;exact .inl (znR h o H S _ vs R Q hs hx ⟨_,rfl,q1⟩ c)
 ·rename_i k;cases hk:S[k]? with
  | none=>rw [hk] at hd; cases hd
  | some ds =>
   rw [hk] at hd;cases hd;exact .inl (znR h o H S _ vs R Q hs hx ⟨ds,hk,q1⟩ c)
 ·split at hd
  ·rename_i hz;cases hd;obtain⟨v,rfl,hx1⟩:=hxs1 hx;exact .inr ⟨_,by rw [zdZ hx1],hz,c o H S _ _ Ex.refl hs (xI _) q1⟩
  ·cases hd
 ·cases hd
section
variable {S:Sto} {ds:List PyData} {k:Nat} {z:Str}
theorem znt:ztX S (.d (.tuple ds))=some ds.length:=rfl
theorem zp0:ztX S (.d (.list ds))=some ds.length:=rfl
end
def zuK(neg:Bool):R2:=fun x y H Q=>∃ d e ds,Has H d x/\Has H e y/\SeqAt.shaped d=true/\SeqAt.shaped (.list ds)=true/\(e=.list ds\/e=.tuple ds)/\Q (.bl (if neg then !ds.any (fun y=>PyData.eqv y d) else ds.any (fun y=>PyData.eqv y d))) H
theorem zlD{ds:List PyData}(h:SeqAt.shaped (.list ds)=true):PyData.canLayAll0 ds=true/\PyData.depthAll ds<=63:=by
 have h1:=SeqAt.canLay_of_shaped h;have h2:=SeqAt.depth_of_shaped h;simp only [PyData.canLay0,PyData.depth] at h1 h2;exact⟨h1,by omega⟩
theorem znJ{X:Cx}(hu:X.A.units+64<cLine):OpR X (compareOp .NotIn) (zuK true):=by
 intro zl s σ H x y v u Q I rx ry h;obtain⟨d,e,ds,hd,he,sd,se,ee,q⟩:=h;obtain⟨s1,s2⟩:=zlD se;obtain⟨as,q1⟩:=Has.reads I d x v hd (SeqAt.canLay_of_shaped sd) rx;have hm:X.A.units+1+min (PyData.depthAll ds) d.depth<cLine:=by
  have:=Nat.min_le_left (PyData.depthAll ds) d.depth;omega
 rcases ee with rfl | rfl
 ·obtain⟨bs,q2⟩:=Has.reads I (.list ds) y u he (by simpa only [PyData.canLay0] using s1) ry;exact SeqAt.notIn_list_reads q2 q1 s1 (SeqAt.canLay_of_shaped sd) hm ⟨.bl _,H,I,rfl,q⟩
 ·obtain⟨bs,q2⟩:=Has.reads I (.tuple ds) y u he (by simpa only [PyData.canLay0] using s1) ry;exact SeqAt.notIn_tuple_reads q2 q1 s1 (SeqAt.canLay_of_shaped sd) hm ⟨.bl _,H,I,rfl,q⟩
def zmG:R2:=fun x y H Q=>zuK true x y H Q\/∃ i j,x=.str i/\y=.str j/\Q (.bl (!(!(Builtin.Str.occurrences j i 0 j.length 1).isEmpty))) H
theorem zny{X:Cx}(hu:X.A.units+64<cLine):OpR X (compareOp .NotIn) zmG:=(znJ hu).or zi9
def zk1:D2:=fun x y S R=>match y with
 | .d (.str b)=>asS x fun a=>R (.d (.bool (!(!(Builtin.Str.occurrences b a 0 b.length 1).isEmpty)))) S
 | y=>∃ d,zgn S x=some d/\∃ ds,asQ S y=some ds/\SeqAt.shaped d=true/\SeqAt.shaped (.list ds)=true/\R (.d (.bool (!ds.any fun y=>PyData.eqv y d))) S
theorem zrh{h o:List Addr}{H:Hp}{S:Sto}{x:XV}{v:V}{ds:List PyData}(hs:RepS h o H S)(e:asQ S x=some ds)(q:HasX h o H x v):∃ e,Has H e v/\(e=.list ds\/e=.tuple ds):=by
 unfold asQ at e;split at e
 ·cases e; exact⟨_,zdz (x:=.d _) hs rfl q,.inr rfl⟩
 ·cases e; exact⟨_,zdz (x:=.d _) hs rfl q,.inl rfl⟩
 ·rename_i k;exact⟨.list ds,zdz (x:=.l k) hs (by show (S[k]?).map PyData.list=_; rw [e]; rfl) q,.inl rfl⟩
 ·cases e
theorem zpu:RO zmG zk1:=fun h o H S x y v u R Q hs hx hy q c=>by
 unfold zk1 at q;split at q
 ·replace q:=zmN q;obtain⟨a,rfl,q⟩:=q;exact .inr ⟨_,_,zdZ hx,zdZ hy,c o H S _ _ Ex.refl hs (xB _) q⟩
 ·obtain⟨d,e1,ds,e2,s1,s2,q⟩:=q;obtain⟨e,he,ee⟩:=zrh hs e2 hy;exact .inl ⟨d,e,ds,zdz hs e1 hx,he,s1,s2,ee,c o H S _ _ Ex.refl hs (xB _) q⟩
section
variable {S:Sto} {ds:List PyData} {k:Nat} {a b:Str} {x:XV} {R:RX}
theorem zli:zk1 x (.d (.list ds)) S R↔∃ d,zgn S x=some d/\SeqAt.shaped d=true/\SeqAt.shaped (.list ds)=true/\R (.d (.bool (!ds.any fun y=>PyData.eqv y d))) S:=⟨fun⟨d,e,_,e',q⟩=>by cases e'; exact⟨d,e,q⟩,fun⟨d,e,q⟩=>⟨d,e,_,rfl,q⟩⟩
end
section
variable {X:Cx} {elts:List Expr} {n:Nat} {tpos:Pos}
def zqX(K:W.Frag)(ta:TA):TI:=fun σ H R=>ta σ H fun vs H1=>∃ a,vs=[.ref a]/\(((∃ xs,SqT K H1 a xs)/\R (Ite (SqT K) a) H1)\/((∃ xs,SqL K H1 a xs)/\R (Ite (SqL K) a) H1))
theorem zpo{a:Expr}{ta:TA}{p pos:Pos}(hg:Gl X "enumerate")(hm:X.mg "enumerate" = none)(ha:PA X [a] ta)(hs:starEach [a] X.env=[(false,eval a X.env)]:=by rfl):PI X (.Tuple elts n tpos) (.Call (.Name "enumerate" p) [a] [] pos) (zqX X.K ta):=by
 intro zl s σ H R I h;refine Call_ (zfU I hg hm zhe (PyProof.Rows.callWith_type1 (thn (ha pos zl s σ H _ I h) fun us s1 ⟨vs,H1,I1,r1,q1⟩=>?_) hs rfl));obtain⟨b,e,⟨⟨xs,hq⟩,q⟩ | ⟨⟨xs,hq⟩,q⟩⟩:=q1
 ·subst e;cases r1 with
  | cons r rr =>
   cases rr;cases r;obtain⟨its,rv,pl,hz⟩:=I1.tuple hq;refine zie (show s1.heap.IsTuple b its.toArray from pl) fun g he hj k=>?_;refine wpAny_pyIter_enum (s:={ s1 with heap:=g }) he ?_
   have I2:Inv X zl σ H1 { s1 with heap:=g }:=I1.kept (t':=s1.toks) k;refine⟨s1.heap.objs.size+1,[s1.heap.objs.size+1,s1.heap.objs.size],_,_,H1,rfl,I2,zlC b _ _ (Nat.succ_ne_self _),⟨⟨_,he⟩,hj⟩,fun c hc=>?_,q⟩;rcases List.mem_cons.mp hc with rfl | hc
   ·exact I1.fpOk (Nat.le_succ _) (I1.hok.fresh (Nat.le_succ _))
   ·rw [List.mem_singleton.mp hc];exact I1.fpOk (Nat.le_refl _) (I1.hok.fresh (Nat.le_refl _))
 ·subst e;cases r1 with
  | cons r rr =>
   cases rr;cases r;obtain⟨its,rv,pl,hz⟩:=I1.list hq;refine call_enumerate_list pl.isList fun g he hj _ k=>?_;refine wpAny_pyIter_enum (s:={ s1 with heap:=g }) he ?_
   have I2:Inv X zl σ H1 { s1 with heap:=g }:=I1.kept (t':=s1.toks) k;refine⟨s1.heap.objs.size+1,[s1.heap.objs.size+1,s1.heap.objs.size],_,_,H1,rfl,I2,zmb b _ _ (Nat.succ_ne_self _),⟨⟨_,he⟩,hj⟩,fun c hc=>?_,q⟩;rcases List.mem_cons.mp hc with rfl | hc
   ·exact I1.fpOk (Nat.le_succ _) (I1.hok.fresh (Nat.le_succ _))
   ·rw [List.mem_singleton.mp hc];exact I1.fpOk (Nat.le_refl _) (I1.hok.fresh (Nat.le_refl _))
end
def ziJ(a:DA):DI:=fun δ S R=>a δ S fun xs S1=>arg1 xs fun x=>∃ ds,zlm x=some ds/\R (ziK 0 ds) S1
theorem zo0{K:W.Frag}{ta:TA}{da:DA}(ha:RA ta da):RI (zqX K ta) (ziJ da):=fun h o H δ σ S R Q he hs q c =>
 ha h o H δ σ S _ _ he hs q fun o1 H1 S1 xs vs e1 s1 x1 d0=>by
  obtain⟨x,rfl,ds,hd,d1⟩:=zbj d0;obtain⟨v,rfl,hv⟩:=hxs1 x1;have core:∀ {Sq:Hp->Addr->List V->Prop} {a:Addr} {ws:List V},(∀ {o2 H2},ExH h o1 H1 o2 H2->Sq H2 a ws)->HasL (vx h o1 H1) ds ws->WalkX h o1 H1 (Ite Sq a) (ziK 0 ds):=by
   intro Sq a ws ea' l;have hl:=l.length;refine⟨fun i o2 H2 e2 hi=>⟨ws,ea' e2,by rw [zd9] at hi; omega⟩,fun i d o2 H2 e2 hi=>?_,fun i d o2 H2 x H3 S2 e2 s2 hi y=>?_⟩
   ·obtain⟨e,h1,rfl⟩:=zfb ds 0 i d hi;obtain⟨u,eu,_⟩:=l.get h1;exact⟨ws,u,ea' e2,eu⟩
   ·obtain⟨e,h1,rfl⟩:=zfb ds 0 i d hi;obtain⟨u,eu,hu⟩:=l.get h1;obtain⟨p,v,hp,rfl,rfl,hy⟩:=y;have ev:=hy ws (ea' e2);rw [eu] at ev;cases ev;refine⟨Same.laid hp,zaG.mpr ⟨p,_,rfl,s2.laid hp,zH.mpr ⟨_,_,rfl,?_,zH.mpr ⟨_,_,rfl,(hu.mono e2.vx).mono (zeQ (Same.laid hp)),zS.mpr rfl⟩⟩⟩⟩;rw [Nat.zero_add];exact zbr.mpr rfl
  unfold zlm at hd;split at hd
  ·cases hd;obtain⟨a,ws,rfl,ea,l⟩:=zbx.mp (show Has (vx h o1 H1) (.list ds) v from hv);exact⟨a,rfl,.inr ⟨⟨ws,.of (zao _ _ ea)⟩,c o1 H1 S1 _ _ e1 s1 (core (fun e2=>.of (zao _ _ (e2.vx _ _ ea))) l) d1⟩⟩
  ·cases hd;obtain⟨a,ws,rfl,ea,l⟩:=zaG.mp (show Has (vx h o1 H1) (.tuple ds) v from hv);exact⟨a,rfl,.inl ⟨⟨ws,.of (zao _ _ ea)⟩,c o1 H1 S1 _ _ e1 s1 (core (fun e2=>.of (zao _ _ (e2.vx _ _ ea))) l) d1⟩⟩
  ·cases hd
def zuH:XV->List XV->Sto->RX->Prop:=fun x xs S R=>∃ k,x=.l k/\∃ ds,S[k]? = some ds/\xs=[]/\∃ d,ds[ds.length - 1]? = some d/\R (.d d) (S.set k ds.dropLast)
def zsC(rd:XV->List XV->Sto->RX->Prop)(e:DE)(a:DA):DE:=fun δ S R=>e δ S fun x S1=>∃ z,x=.d (.str z)/\a δ S1 fun xs S2=>rd x xs S2 R
theorem zsG{K:W.Frag}{r:V->List V->Hp->VK->Prop}{rd:XV->List XV->Sto->RX->Prop}{te:TE}{de:DE}{tl:TA}{dl:DA}(hr:RM r rd)(he':RE te de)(ha:RA tl dl):RE (tBM K "str" r te tl) (zsC rd de dl):=fun h o H δ σ S R Q he hs q c =>
 he' h o H δ σ S _ _ he hs q fun o1 H1 S1 x v e1 s1 x1 ⟨z,ez,d1⟩=>by
  subst ez;cases zdZ x1;exact⟨rfl,ha h o1 H1 δ σ S1 _ _ (he.mono e1) s1 d1 fun o2 H2 S2 xs vs e2 s2 x2 d2=>hr h o2 H2 S2 (.d (.str z)) _ xs vs R Q s2 (HasX.mono (x:=.d (.str z)) e2 x1) x2 d2 (c.pre (e1.trans e2))⟩
theorem zhA{H:Hp}:∀ {ns:List Str} {vs:List V},HasL H (ns.map PyData.str) vs->vs=ns.map V.str
 | [],vs,h=>zS.mp h
 | n :: ns,vs,h=>by
  obtain⟨v,r,rfl,h1,h2⟩:=zH.mp h;rw [zdD.mp h1,zhA h2];rfl
def zok:XV->List XV->Sto->RX->Prop:=fun x xs S R=>asS x fun z=>arg1 xs fun y=>∃ ds,zpm S y=some ds/\∃ zs:List Str,ds=zs.map PyData.str/\z.length<=16/\zs.length<=1000/\(∀ y∈zs,y.length<=1000)/\R (.d (.str (PySem.Txt.join z zs))) S
theorem zpF{K:W.Frag}:RM (zth K) zok:=fun h o H S x v xs vs R Q hs hx hxs q c=>by
 replace q:=zmN q;obtain⟨z,rfl,q⟩:=q;obtain⟨y,rfl,ds,e,zs,rfl,h1,h2,h3,q1⟩:=zbj q;obtain⟨u,rfl,hu⟩:=hxs1 hxs;obtain⟨a,ws,rfl,ea,l⟩:=zbN hs e hu;rw [zhA l] at ea;exact⟨z,a,zs,zdZ hx,rfl,.of ea,h1,h2,h3,c o H S _ _ Ex.refl hs (xS _) q1⟩
def znC:D2:=fun x y S R=>asL S x fun ds=>asL S y fun es=>ds.length+es.length<=1000/\R (.l S.length) (S++[ds++es])
theorem zrP:RO zr8 znC:=fun h o H S x y v u R Q hs hx hy q c=>by
 obtain⟨ds,e0,es,e1,hl,q⟩:=q;obtain⟨a,vs,rfl,ea,la⟩:=zbN hs e0 hx;obtain⟨b,us,rfl,eb,lb⟩:=zbN hs e1 hy;exact⟨a,b,vs,us,rfl,rfl,ea,eb,by rw [la.length,lb.length]; exact Nat.le_of_lt (small1000 hl),zrQ hs (la.append lb) c q⟩
abbrev zu3 (a:Addr) (m:Nat):DEnds:={ nx:=fun δ _=>δ[0]? = some (some (.o (.ref a)))/\δ.length=m+1,ct:=fun δ _=>δ[0]? = some (some (.o (.ref a)))/\δ.length=m+1,rt:=fun _ _=>False }
end
section
open Sem (wp)
def zuq:List PyData->List PyData->List PyData
 | d :: ds,e :: es=>.tuple [d,e] :: zuq ds es
 | _,_=>[]
def zqV(a:DA):DI:=fun δ S R=>a δ S fun xs S1=>arg2 xs fun x y=>∃ ds,zlm x=some ds/\∃ es,zlm y=some es/\R (zuq ds es) S1
end
section
open Sem (wp)
section
variable {prog:Program} {w:World} {A:Around} {R:Result->Shared->Prop} {I:Addr} {fp wr:List Addr} {n:Nat} {P:Nat->Value->Prop} {St:Nat->Heap->Prop}
def CmpH(prog:Program)(w:World)(A:Around)(g:Heap)(own:List Addr)(P:Nat->Value->Prop)(bt:Nat->Nat->Bool):Prop :=
 ∀ i j x y (s:Shared) (Q:Value->Shared->Prop) (E:Value->Shared->Prop),(∀ b o,b∉own->g.get? b=some o->s.heap.get? b=some o)->P i x->P j y->Q (.bool (bt i j)) s->wpAny (model prog w) A (richCompare .Lt x y) Q E s
theorem zm3(W:Walks prog w A.in1 I fp wr n P St)(bt:Nat->Nat->Bool){g:Heap}(S:Addr)(cm:CmpH prog w A.in1 g (S :: wr) P bt)(nS:S∉fp):∀ (d j:Nat) (s:Shared) (best:Value) (c:Nat),n=j+1+d->(∀ b o,b∉S :: wr->g.get? b=some o->s.heap.get? b=some o)->St (j+1) s.heap->P (argBest bt j) best ->
   s.heap.get? S=some { cls:=.type "list",dict:=none,data:=.seq #[best,best] c,slots:=#[] } ->
   (∀ v h' tk,P (argBest bt (n - 1)) v->(∀ b o,b∉S :: wr->s.heap.get? b=some o->h'.get? b=some o)->R (.ok (.ret v)) { s with heap:=h',toks:=tk })->codeAny (model prog w) A (.builtin "min.loop" ⟨[.ref I,.none,.ref S],[]⟩) R s:=by
 have nw:S∉wr:=fun m=>nS (W.sub _ m);have nm:(toString "min" ++ toString ".loop":String) = "min.loop":=by decide
 intro d;induction d with
 | zero =>
  intro j s best c hd kg st hb hS fin;have hj:j+1=n:=by omega
  refine codeAny_builtin F.entry_min_loop ?_;rw [Around.under_plainId F.plain_min_loop _];show wpAny _ A.in1 (seqItems? (.ref S) >>= _) _ _ s;refine wpAny_bind (wpAny_seqItems hS rfl ?_);show wpAny _ A.in1 (tryCatch (pyNext (.ref I)) _ >>= _) _ _ s;refine wpAny_bind (wpAny_tryCatch (W.done s _ _ (by rw [<- hj]; exact st) fun h1 t1 k1=>?_));have hS1:=k1 S _ nw hS;show wpAny _ A.in1 (updateSeq S (fun _=>#[]) >>= _) _ _ _;refine wpAny_bind (wpAny_updateSeq hS1 rfl (wpAny_bind (wpAny_letGo (wpAny_pure (fin best _ t1 (by rw [<- hj]; exact hb) fun b o hn e=>?_)))));rw [List.mem_cons,not_or] at hn;exact(Heap.get?_update_other _ _ (Ne.symm hn.1)).trans (k1 b o hn.2 e)
 | succ d ih =>
  intro j s best c hd kg st hb hS fin;refine codeAny_builtin F.entry_min_loop ?_;rw [Around.under_plainId F.plain_min_loop _];show wpAny _ A.in1 (seqItems? (.ref S) >>= _) _ _ s;refine wpAny_bind (wpAny_seqItems hS rfl ?_);show wpAny _ A.in1 (tryCatch (pyNext (.ref I)) _ >>= _) _ _ s;refine wpAny_bind (wpAny_tryCatch (W.item (j+1) s _ _ (by omega) st fun x h1 t1 hx st1 k1=>?_));have hS1:=k1 S _ nw hS;have kg1:∀ b o,b∉S :: wr->g.get? b=some o->h1.get? b=some o:=fun b o hn e=>k1 b o (fun m=>hn (List.mem_cons_of_mem _ m)) (kg b o hn e);show wpAny _ A.in1 (tryCatch (holding [x,x] (richCompare .Lt x best >>= _)) _ >>= _) _ _ _;refine wpAny_bind (wpAny_tryCatch (wpAny_holding (wpAny_bind (cm (j+1) (argBest bt j) x best _ _ _ kg1 hx hb (wpAny_bind (wpAny_holding (wpAny_truthy_bool (wpAny_bind (wpAny_letGo (wpAny_pure ?_)))))))))) ;cases ht:bt (j+1) (argBest bt j) with
  | true =>
   simp only [if_true];refine wpAny_bind (wpAny_updateSeq hS1 rfl (wpAny_bind (wpAny_letGo ?_)));rw [nm];have keep:∀ b o,b∉S :: wr->s.heap.get? b=some o->(h1.update S (Obj.mapSeq fun _=>#[x,x])).get? b=some o:=fun b o hn e=>by
    rw [List.mem_cons,not_or] at hn;exact(Heap.get?_update_other _ _ (Ne.symm hn.1)).trans (k1 b o hn.2 e)
   refine wpAny_pure ⟨plainId_quiet F.plain_min_loop _,ih (j+1) _ x _ (by omega) (fun b o hn e=>keep b o hn (kg b o hn e)) (W.frame _ _ _ st1 fun b m o e=>?_) (by simp only [argBest,ht,if_true]; exact hx) (Heap.get?_update_self _ hS1 rfl) fun v h2 t2 hv k2=>fin v h2 t2 hv fun b o hn e=>k2 b o hn (keep b o hn e)⟩;exact(Heap.get?_update_other _ _ (fun z:S=b=>nS (by rw [z]; exact m))).trans e
  | false =>
   simp only [Bool.false_eq_true,if_false];refine wpAny_bind (wpAny_letGo ?_);rw [nm];exact wpAny_pure ⟨plainId_quiet F.plain_min_loop _,ih (j+1) _ best c (by omega) kg1 st1 (by simp only [argBest,ht,Bool.false_eq_true,if_false]; exact hb) hS1 fun v h2 t2 hv k2=>fin v h2 t2 hv fun b o hn e=>k2 b o hn (k1 b o (fun m=>hn (List.mem_cons_of_mem _ m)) e)⟩
theorem zlN(W:Walks prog w A.in1 I fp wr n P St)(bt:Nat->Nat->Bool)(S:Addr)(nS:S∉fp)(hn:0<n){s:Shared}{c:Nat}(cm:CmpH prog w A.in1 s.heap (S :: wr) P bt)(st:St 0 s.heap)(hS:s.heap.get? S=some { cls:=.type "list",dict:=none,data:=.seq #[] c,slots:=#[] })
  (fin:∀ v h' tk,P (argBest bt (n - 1)) v->(∀ b o,b∉S :: wr->s.heap.get? b=some o->h'.get? b=some o)->R (.ok (.ret v)) { s with heap:=h',toks:=tk }):codeAny (model prog w) A (.builtin "min.loop" ⟨[.ref I,.none,.ref S],[]⟩) R s:=by
 have nw:S∉wr:=fun m=>nS (W.sub _ m);have nm:(toString "min" ++ toString ".loop":String) = "min.loop":=by decide
 refine codeAny_builtin F.entry_min_loop ?_;rw [Around.under_plainId F.plain_min_loop _];show wpAny _ A.in1 (seqItems? (.ref S) >>= _) _ _ s;refine wpAny_bind (wpAny_seqItems hS rfl ?_);show wpAny _ A.in1 (tryCatch (pyNext (.ref I)) _ >>= _) _ _ s;refine wpAny_bind (wpAny_tryCatch (W.item 0 s _ _ hn st fun x h1 t1 hx st1 k1=>?_));have hS1:=k1 S _ nw hS;show wpAny _ A.in1 (updateSeq S (fun _=>#[x,x]) >>= _) _ _ _;refine wpAny_bind (wpAny_updateSeq hS1 rfl ?_);rw [nm];have keep:∀ b o,b∉S :: wr->s.heap.get? b=some o->(h1.update S (Obj.mapSeq fun _=>#[x,x])).get? b=some o:=fun b o hn e=>by
  rw [List.mem_cons,not_or] at hn;exact(Heap.get?_update_other _ _ (Ne.symm hn.1)).trans (k1 b o hn.2 e)
 refine wpAny_pure ⟨plainId_quiet F.plain_min_loop _,zm3 W bt S cm nS (n - 1) 0 _ x _ (by omega) keep (W.frame _ _ _ st1 fun b m o e=>?_) hx (Heap.get?_update_self _ hS1 rfl) fun v h2 t2 hv k2=>fin v h2 t2 hv fun b o hn e=>k2 b o hn (keep b o hn e)⟩;exact(Heap.get?_update_other _ _ (fun z:S=b=>nS (by rw [z]; exact m))).trans e
end
section
variable {prog:Program} {w:World} {A:Around} {E:Value->Shared->Prop} {s:Shared}
theorem znj{l:Addr}{its:Array Value}{Q:Value->Shared->Prop}(hh:A.handled=none)(hl:s.heap.IsList l its)(hne:0<its.size)(bt:Nat->Nat->Bool)
  (cm:∀ i j x y (s':Shared) (Q:Value->Shared->Prop) (E:Value->Shared->Prop),(∀ b o,s.heap.get? b=some o->s'.heap.get? b=some o)->its[i]? = some x->its[j]? = some y->Q (.bool (bt i j)) s'->wpAny (model prog w) A.in1 (richCompare .Lt x y) Q E s')
  (fin:∀ v h' tk,its[argBest bt (its.size - 1)]? = some v->(∀ b o,s.heap.get? b=some o->h'.get? b=some o)->Q v { s with heap:=h',toks:=tk }):wpAny (model prog w) A (call (.builtin "min") [.ref l]) Q E s:=by
 have nm:(toString "min" ++ toString ".loop":String) = "min.loop":=by decide
 have lt:l<s.heap.objs.size:=by obtain⟨o,e,_⟩:=hl; exact Heap.lt_size e
 refine call_function_tree F.kind_min F.plain_min F.entry_min (F.args_min1 _) ?_;show wpAny _ A.in1 (Builtin.Builtins.bindParams "min" ["key","default"] 0 ⟨[],[]⟩ >>= _) _ _ s;refine wpAny_bind (wpAny_of_eq (show Builtin.Builtins.bindParams "min" ["key","default"] 0 ⟨[],[]⟩=pure [none,none] from rfl) (wpAny_bind (wpAny_pure (wpAny_bind (wpAny_pyIter_list hl ?_)))));refine wpAny_bind (wpAny_newObj_type ?_);rw [nm];have z1:(s.heap.push { cls:=.type "list_iterator",data:=.fields #[.ref l,.int 0 0] }).objs.size=s.heap.objs.size+1:=Heap.size_push ..;have nS:(s.heap.push { cls:=.type "list_iterator",data:=.fields #[.ref l,.int 0 0] }).objs.size∉[s.heap.objs.size,l]:=by
  rw [z1];simp only [List.mem_cons,List.not_mem_nil,or_false,not_or];exact⟨Nat.succ_ne_self _,Nat.ne_of_gt (Nat.lt_succ_of_lt lt)⟩
 have up:∀ b o,s.heap.get? b=some o->((s.heap.push { cls:=.type "list_iterator",data:=.fields #[.ref l,.int 0 0] }).push { cls:=.type "list",data:=.seq #[] }).get? b=some o:=fun b o e=>Heap.get?_push_of_some _ (Heap.get?_push_of_some _ e);have old:∀ b o,s.heap.get? b=some o->b∉(s.heap.push { cls:=.type "list_iterator",data:=.fields #[.ref l,.int 0 0] }).objs.size :: [s.heap.objs.size]:=fun b o e=>by
  rw [z1];simp only [List.mem_cons,List.not_mem_nil,or_false,not_or];have:=Heap.lt_size e;exact⟨Nat.ne_of_lt (Nat.lt_succ_of_lt this),Nat.ne_of_lt this⟩
 refine wpAny_pure ⟨plainId_quiet F.plain_min_loop _,zlN (Walks.list (A:=A.in1) hh _ l (Nat.ne_of_lt lt) its) bt _ nS hne (fun i j x y s' Q' E' k hi hj q=>cm i j x y s' Q' E' (fun b o e=>k b o (old b o e) (up b o e)) hi hj q) ?_ (Heap.get?_push_size _ rfl) fun v h' tk hv k=>fin v h' tk hv fun b o e=>k b o (old b o e) (up b o e)⟩;exact⟨⟨_,Heap.get?_push_of_some _ (Heap.get?_push_size _ rfl),rfl,rfl⟩,(hl.push _).push _⟩
end
def zs2(K:W.Frag):List V->Hp->VK->Prop:=fun xs H Q=>∃ (p:Addr) (vs:List V) (nss:List (List Int)),xs=[.ref p]/\SqL K H p vs/\vs≠[]/\Paired (fun(v:V) (ns:List Int)=>∃ a,v=.ref a/\H a=some (.tup (ns.map V.int))) vs nss /\
 ∀ (i:Nat) v ns,vs[i]? = some v->nss[i]? = some ns->(∀ ms∈nss,HT.lexLt ms ns=false)->Q v H
theorem zg2{ns:Nat->List Int}(tr:∀ a b c:List Int,HT.lexLt a b=false->HT.lexLt b c=false->HT.lexLt a c=false)(as:∀ a b:List Int,HT.lexLt a b=true->HT.lexLt b a=false):∀ k,argBest (fun i j=>HT.lexLt (ns i) (ns j)) k<=k/\∀ j,j<=k->HT.lexLt (ns j) (ns (argBest (fun i j=>HT.lexLt (ns i) (ns j)) k))=false
 | 0=>⟨Nat.le_refl _,fun j hj=>by
   have:j=0:=by omega
   subst this;show HT.lexLt (ns 0) (ns 0)=false;cases h:HT.lexLt (ns 0) (ns 0) with
   | false=>rfl
   | true=>have:=as _ _ h; rw [h] at this; cases this⟩
 | k+1=>by
  obtain⟨h1,h2⟩:=zg2 tr as (ns:=ns) k;simp only [argBest];by_cases hb:HT.lexLt (ns (k+1)) (ns (argBest (fun i j=>HT.lexLt (ns i) (ns j)) k))=true
  ·rw [if_pos hb];refine⟨Nat.le_refl _,fun j hj=>?_⟩;by_cases e:j=k+1
   ·subst e;cases h:HT.lexLt (ns (k+1)) (ns (k+1)) with
    | false=>rfl
    | true=>have:=as _ _ h; rw [h] at this; cases this
   ·exact tr _ _ _ (h2 j (by omega)) (as _ _ hb)
  ·rw [if_neg hb];refine⟨by omega,fun j hj=>?_⟩;by_cases e:j=k+1
   ·subst e; exact Bool.eq_false_iff.mpr hb
   ·exact h2 j (by omega)
theorem zln:∀ a b:List Int,HT.lexLt a b=true->HT.lexLt b a=false
 | [],[],h=>by cases h
 | [],y :: ys,_=>rfl
 | x :: xs,[],h=>by cases h
 | x :: xs,y :: ys,h=>by
  rw [HT.lexLt_cons] at h ⊢;by_cases e:x=y
  ·subst e;rw [if_pos rfl] at h ⊢;exact zln xs ys h
  ·rw [if_neg e] at h;rw [if_neg (Ne.symm e)];simp only [decide_eq_true_eq] at h;simp only [decide_eq_false_iff_not];omega
theorem zhM:∀ a b c:List Int,HT.lexLt a b=false->HT.lexLt b c=false->HT.lexLt a c=false
 | _,_,[],_,_=>by rename_i a b _ _; cases a <;> rfl
 | [],[],z :: zs,_,h=>by cases h
 | [],y :: ys,z :: zs,h,_=>by cases h
 | x :: xs,[],z :: zs,_,h=>by cases h
 | x :: xs,y :: ys,z :: zs,h,k=>by
  rw [HT.lexLt_cons] at h k ⊢;by_cases e:x=y
  ·subst e;rw [if_pos rfl] at h;by_cases e2:x=z
   ·subst e2;rw [if_pos rfl] at k ⊢;exact zhM xs ys zs h k
   ·rw [if_neg e2] at k ⊢;exact k
  ·rw [if_neg e] at h;by_cases e2:y=z
   ·subst e2;rw [if_neg e];exact h
   ·rw [if_neg e2] at k;simp only [decide_eq_false_iff_not] at h k;rw [if_neg (by omega)];simp only [decide_eq_false_iff_not];omega
theorem znd{X:Cx}(hc:X.calm=true)(hu:X.A.units+64<cLine):CallR X (.builtin "min") (zs2 X.K):=by
 intro zl s σ H xs us Q I r h;obtain⟨p,vs,nss,rfl,hq,hne,pr,q⟩:=h;obtain⟨u,rfl,rx⟩:=vals1 r;cases (show u=Value.ref p from rx);obtain⟨its,rv,pl,_⟩:=I.list hq;have hl:=rv.length;have hl2:=Paired.length pr;have hsz:0<its.toArray.size:=by
  rw [List.size_toArray,<- hl];exact List.length_pos_iff.mpr hne
 have at_:∀ (i:Nat) x,its.toArray[i]? = some x->∃ (v:V) (ns:List Int),vs[i]? = some v/\nss[i]? = some ns/\RelV v x/\∃ a,v=.ref a/\H a=some (.tup (ns.map V.int)):=fun i x hx=>by
  have hi:i<its.length:=by
   have:=(Array.getElem?_eq_some_iff.mp hx).1;simpa using this
  have e1:vs[i]? = some vs[i]:=List.getElem?_eq_getElem (by omega);have e2:nss[i]? = some nss[i]:=List.getElem?_eq_getElem (by omega);obtain⟨x',hx',rr⟩:=rv.get e1;have:x=x':=by
   have h2:its[i]? = some x:=by simpa using hx
   rw [hx'] at h2;exact(Option.some.inj h2).symm
  subst this;have pg:∀ {a:List V} {b:List (List Int)} {i:Nat} {v:V} {ns:List Int},Paired (fun(v:V) (ns:List Int)=>∃ a,v=.ref a/\H a=some (.tup (ns.map V.int))) a b->a[i]? = some v->b[i]? = some ns->∃ a,v=.ref a/\H a=some (.tup (ns.map V.int)):=by
   intro a b i v ns pq;induction pq generalizing i with
   | nil=>intro h; simp at h
   | cons r0 _ ih =>
    cases i with
    | zero =>
     intro h1 h2;rw [List.getElem?_cons_zero] at h1 h2;cases h1;cases h2;exact r0
    | succ i =>
     intro h1 h2;rw [List.getElem?_cons_succ] at h1 h2;exact ih h1 h2
  exact⟨_,_,e1,e2,rr,pg pr e1 e2⟩
 refine znj (I.ok.hd hc) pl.isList hsz (fun i j=>HT.lexLt (nss.getD i []) (nss.getD j [])) (fun i j x y s' Q' E' k hx hy q'=>?_) fun v h' tk hv k=>?_
 ·obtain⟨v1,n1,_,f1,r1,a1,rfl,e1⟩:=at_ i x hx;obtain⟨v2,n2,_,f2,r2,a2,rfl,e2⟩:=at_ j y hy;cases r1;cases r2;obtain⟨_,is1,w1,t1⟩:=(show ObjOk X.prog X.w H s.heap a1 (.tup (n1.map V.int)) from I.hok a1 _ e1);obtain⟨_,is2,w2,t2⟩:=(show ObjOk X.prog X.w H s.heap a2 (.tup (n2.map V.int)) from I.hok a2 _ e2);have g1:nss.getD i []=n1:=by rw [List.getD_eq_getElem?_getD,f1]; rfl
  have g2:nss.getD j []=n2:=by rw [List.getD_eq_getElem?_getD,f2]; rfl
  rw [g1,g2] at q';obtain⟨o1,b1,c1⟩:=t1;obtain⟨o2,b2,c2⟩:=t2;exact HT.lt_tupInts ⟨o1,k _ _ b1,c1⟩ ⟨o2,k _ _ b2,c2⟩ (zbY w1) (zbY w2) (by show X.A.units+1<cLine; omega) q'
 ·obtain⟨v1,n1,e1,f1,r1,_⟩:=at_ _ v hv;obtain⟨_,h2⟩:=zg2 (ns:=fun i=>nss.getD i []) zhM zln (its.toArray.size - 1);refine⟨v1,H,I.kept (t':=tk) k,r1,q _ v1 n1 e1 f1 fun ms hm=>?_⟩;obtain⟨j,hj⟩:=List.mem_iff_getElem?.mp hm;have hjl:=(List.getElem?_eq_some_iff.mp hj).1;have:=h2 j (by rw [List.size_toArray]; omega);rw [show nss.getD j []=ms by rw [List.getD_eq_getElem?_getD,hj]; rfl] at this;rw [show nss.getD (argBest (fun i j=>HT.lexLt (nss.getD i []) (nss.getD j [])) (its.toArray.size - 1)) []=n1 by rw [List.getD_eq_getElem?_getD,f1]; rfl] at this;exact this
def ztn(K:W.Frag):List V->Hp->VK->Prop:=fun xs H Q=>zuc K xs H Q\/zs2 K xs H Q
theorem zgz{X:Cx}(hc:X.calm=true)(hu:X.A.units+64<cLine):CallR X (.builtin "min") (ztn X.K):=(zoj hc).or (znd hc hu)
def zpB(ns:List Int):PyData:=.tuple (ns.map PyData.int)
def zj2:List XV->Sto->RX->Prop:=fun xs S R=>zuS xs S R\/arg1 xs fun x=>∃ ds,zpm S x=some ds/\∃ nss:List (List Int),ds=nss.map zpB/\nss≠[]/\∀ m,m∈nss->(∀ a,a∈nss->HT.lexLt a m=false)->R (.d (zpB m)) S
theorem zke{K:W.Frag}:RC (ztn K) zj2:=fun h o H S xs vs R Q hs hx q c=>by
 rcases q with q | q
 ·exact .inl (zsN h o H S xs vs R Q hs hx q c)
 ·obtain⟨x,rfl,ds,hd,nss,rfl,hn,q1⟩:=zbj q;obtain⟨v,rfl,hx1⟩:=hxs1 hx;obtain⟨a,ws,rfl,ea,l⟩:=zbN hs hd hx1;have hl:=l.length;refine .inr ⟨a,ws,nss,rfl,.of ea,fun z=>hn ?_,?_,fun i v ns e1 e2 hm=>?_⟩
  ·subst z;rw [List.length_map] at hl;exact List.eq_nil_of_length_eq_zero hl.symm
  ·have go:∀ {nss:List (List Int)} {ws:List V},HasL (vx h o H) (nss.map zpB) ws->Paired (fun(v:V) (ns:List Int)=>∃ a,v=.ref a/\H a=some (.tup (ns.map V.int))) ws nss:=by
    intro nss;induction nss with
    | nil=>intro ws l; rw [zS.mp l]; exact .nil
    | cons n nss ih =>
     intro ws l;obtain⟨v,r,rfl,h1,l2⟩:=zH.mp l;obtain⟨b,us,rfl,eb,lb⟩:=zaG.mp h1;rw [zc4 lb] at eb;exact .cons ⟨b,rfl,zao _ _ eb⟩ (ih l2)
   exact go l
  ·obtain⟨v',ev,hv⟩:=l.get (show (nss.map zpB)[i]? = some (zpB ns) by rw [List.getElem?_map,e2]; rfl);rw [e1] at ev;cases ev;exact c o H S (.d (zpB ns)) v Ex.refl hs hv (q1 ns (List.mem_of_getElem? e2) hm)
section
variable {S:Sto} {P:Sto->List PyData->Prop} {a b c d:List PyData} {x:List PyData}
theorem zgN{S0:Sto}:(∃ T ds,S0++[x]=T++[ds]/\P T ds)↔P S0 x:=by
 constructor
 ·rintro⟨T,ds,e,q⟩;obtain⟨rfl,e2⟩:=List.append_inj' e rfl;cases e2;exact q
 ·exact fun q=>⟨S0,x,rfl,q⟩
theorem zkQ:(∃ T ds,[a]=T++[ds]/\P T ds)↔P [] a:=zgN (S0:=[])
theorem zlt:(∃ T ds,[a,b]=T++[ds]/\P T ds)↔P [a] b:=zgN (S0:=[a])
theorem zlj:(∃ T ds,[a,b,c]=T++[ds]/\P T ds)↔P [a,b] c:=zgN (S0:=[a,b])
end
section
variable {α:Type} {n:Nat} {g:DG} {tt:DT} {te:DE} {fin:Sto->Prop} {S0:Sto} {caps:XE}
theorem zqg{h:α->PyData}{f:α->PyData}(P:XE->Prop)(hn:S0.length=n)(l:List α)(τ:XE)(hP:P τ)(hl:l.length<=1000)
  (el:∀ x∈l,∀ τ acc (R:XE->RX),P τ->(∀ τ',P τ'->R τ' (.d (f x)) (S0++[acc]))->g (.d (h x)) τ (S0++[acc]) fun τ1 S1=>te τ1 S1 (R τ1)) (hf:fin (S0++[l.map f])):zf5 n g zbd te fin (l.map h) τ (S0++[[]]):=by
 have go:∀ (l:List α) (acc:List PyData) (τ:XE),P τ->acc.length+l.length<=1000->(∀ x∈l,∀ τ acc (R:XE->RX),P τ->(∀ τ',P τ'->R τ' (.d (f x)) (S0++[acc]))->g (.d (h x)) τ (S0++[acc]) fun τ1 S1=>te τ1 S1 (R τ1)) ->
   fin (S0++[acc++l.map f])->zf5 n g zbd te fin (l.map h) τ (S0++[acc]):=by
  intro l;induction l with
  | nil=>intro acc τ _ _ _ h; rw [List.map_nil,List.append_nil] at h; exact h
  | cons x l ih =>
   intro acc τ hP hl el hh;show g (.d (h x)) τ (S0++[acc]) fun τ1 S1=>zbd τ1 S1 fun b S2=>if b=true then te τ1 S2 fun x S3=>asD x fun e=>∃ acc,S3[n]? = some acc/\acc.length<1000/\zf5 n g zbd te fin (l.map h) τ1 (S3.set n (acc++[e])) else zf5 n g zbd te fin (l.map h) τ1 S2
   simp only [zbd,↓reduceIte];rw [List.length_cons] at hl;refine el x List.mem_cons_self τ acc (fun τ1 x S3=>asD x fun e=>∃ acc,S3[n]? = some acc/\acc.length<1000/\zf5 n g zbd te fin (l.map h) τ1 (S3.set n (acc++[e]))) hP fun τ' hP'=>?_;refine⟨acc,by rw [<- hn,List.getElem?_concat_length],by omega,?_⟩;rw [zix hn];refine ih (acc++[f x]) τ' hP' (by rw [List.length_append,List.length_singleton]; omega) (fun e m=>el e (List.mem_cons_of_mem _ m)) ?_;rw [List.append_assoc];exact hh
 exact go l [] τ hP (by simpa using hl) el (by simpa using hf)
theorem cmp1{h:α->PyData}(f:α->PyData)(hn:S0.length=n)(l:List α){u:Option XV}(hl:l.length<=1000)
  (el:∀ x∈l,∀ (u:Option XV) acc (R:XE->RX),(∀ u',R (u' :: caps) (.d (f x)) (S0++[acc]))->g (.d (h x)) (u :: caps) (S0++[acc]) fun τ1 S1=>te τ1 S1 (R τ1)) (hf:fin (S0++[l.map f])):zf5 n g zbd te fin (l.map h) (u :: caps) (S0++[[]]) :=
 zqg (fun τ=>∃ u,τ=u :: caps) hn l _ ⟨u,rfl⟩ hl (fun x m τ acc R ⟨u,e⟩ k=>by subst e; exact el x m u acc R fun u'=>k _ ⟨u',rfl⟩) hf
theorem cmp2{h:α->PyData}(f:α->PyData)(hn:S0.length=n)(l:List α){u v:Option XV}(hl:l.length<=1000)
  (el:∀ x∈l,∀ (u v:Option XV) acc (R:XE->RX),(∀ u' v',R (u' :: v' :: caps) (.d (f x)) (S0++[acc]))->g (.d (h x)) (u :: v :: caps) (S0++[acc]) fun τ1 S1=>te τ1 S1 (R τ1)) (hf:fin (S0++[l.map f])):zf5 n g zbd te fin (l.map h) (u :: v :: caps) (S0++[[]]) :=
 zqg (fun τ=>∃ u v,τ=u :: v :: caps) hn l _ ⟨u,v,rfl⟩ hl (fun x m τ acc R ⟨u,v,e⟩ k=>by subst e; exact el x m u v acc R fun u' v'=>k _ ⟨u',v',rfl⟩) hf
theorem ztj{h:α->PyData}{f:α->PyData}{p:α->Bool}(P:XE->Prop)(hn:S0.length=n)(l:List α)(τ:XE)(hP:P τ)(hl:l.length<=1000)
  (el:∀ x∈l,∀ τ acc (R:XE->Bool->Sto->Prop),P τ->(∀ τ',P τ'->(p x=true->∀ T:RX,T (.d (f x)) (S0++[acc])->te τ' (S0++[acc]) T)->R τ' (p x) (S0++[acc]))->g (.d (h x)) τ (S0++[acc]) fun τ1 S1=>tt τ1 S1 (R τ1))
  (hf:fin (S0++[(l.filter p).map f])):zf5 n g tt te fin (l.map h) τ (S0++[[]]):=by
 have go:∀ (l:List α) (acc:List PyData) (τ:XE),P τ->acc.length+l.length<=1000->(∀ x∈l,∀ τ acc (R:XE->Bool->Sto->Prop),P τ->(∀ τ',P τ'->(p x=true->∀ T:RX,T (.d (f x)) (S0++[acc])->te τ' (S0++[acc]) T)->R τ' (p x) (S0++[acc]))->g (.d (h x)) τ (S0++[acc]) fun τ1 S1=>tt τ1 S1 (R τ1)) ->
   fin (S0++[acc++(l.filter p).map f])->zf5 n g tt te fin (l.map h) τ (S0++[acc]):=by
  intro l;induction l with
  | nil=>intro acc τ _ _ _ h; rw [List.filter_nil,List.map_nil,List.append_nil] at h; exact h
  | cons x l ih =>
   intro acc τ hP hl el hh;show g (.d (h x)) τ (S0++[acc]) fun τ1 S1=>tt τ1 S1 fun b S2=>if b=true then te τ1 S2 fun x S3=>asD x fun e=>∃ acc,S3[n]? = some acc/\acc.length<1000/\zf5 n g tt te fin (l.map h) τ1 (S3.set n (acc++[e])) else zf5 n g tt te fin (l.map h) τ1 S2
   rw [List.length_cons] at hl;refine el x List.mem_cons_self τ acc (fun τ1 b S2=>if b=true then te τ1 S2 fun x S3=>asD x fun e=>∃ acc,S3[n]? = some acc/\acc.length<1000/\zf5 n g tt te fin (l.map h) τ1 (S3.set n (acc++[e])) else zf5 n g tt te fin (l.map h) τ1 S2) hP fun τ' hP' ev=>?_;cases hp:p x with
   | false =>
    rw [List.filter_cons_of_neg (by rw [hp]; exact Bool.false_ne_true)] at hh;exact zpI (ih acc τ' hP' (by omega) (fun e m=>el e (List.mem_cons_of_mem _ m)) hh)
   | true =>
    rw [List.filter_cons_of_pos hp,List.map_cons] at hh;refine zpj (ev hp _ ⟨acc,by rw [<- hn,List.getElem?_concat_length],by omega,?_⟩);rw [zix hn];exact ih (acc++[f x]) τ' hP' (by rw [List.length_append,List.length_singleton]; omega) (fun e m=>el e (List.mem_cons_of_mem _ m)) (by rw [List.append_assoc]; exact hh)
 exact go l [] τ hP (by simpa using hl) el (by simpa using hf)
theorem cmf2{h:α->PyData}(f:α->PyData)(p:α->Bool)(hn:S0.length=n)(l:List α){u v:Option XV}(hl:l.length<=1000)
  (el:∀ x∈l,∀ (u v:Option XV) acc (R:XE->Bool->Sto->Prop),(∀ u' v',(p x=true->∀ T:RX,T (.d (f x)) (S0++[acc])->te (u' :: v' :: caps) (S0++[acc]) T)->R (u' :: v' :: caps) (p x) (S0++[acc]))->g (.d (h x)) (u :: v :: caps) (S0++[acc]) fun τ1 S1=>tt τ1 S1 (R τ1)) (hf:fin (S0++[(l.filter p).map f])):zf5 n g tt te fin (l.map h) (u :: v :: caps) (S0++[[]]) :=
 ztj (fun τ=>∃ u v,τ=u :: v :: caps) hn l _ ⟨u,v,rfl⟩ hl (fun x m τ acc R ⟨u,v,e⟩ k=>by subst e; exact el x m u v acc R fun u' v' hh=>k _ ⟨u',v',rfl⟩ hh) hf
end
end
section
section
variable {X:Cx} {e ek:Expr} {te tk:TE} {pos p2:Pos}
def zu6(K:W.Frag):V->Hp->VK->Prop:=fun x H Q=>∃ a xs,x=.ref a/\SqL K H a xs/\∀ p,H p=none->Q (.ref p) (upd H p (.lst xs.reverse))
def zuV(K:W.Frag)(te tk:TE):TE:=fun σ H Q=>te σ H fun x H1=>tk σ H1 fun y H2=>y=.int (-1)/\zu6 K x H2 Q
theorem Vals.rev{xs:List V}{us:List Value}(r:Vals xs us):Vals xs.reverse us.reverse:=by
 induction r with
 | nil=>exact .nil
 | cons h _ ih =>
  rw [List.reverse_cons,List.reverse_cons];exact ih.append (.cons h .nil)
theorem zsI(he:PE X e te)(hk:PE X ek tk):PE X (.Subscript e (.Slice none none (some ek) p2) pos) (zuV X.K te tk):=by
 intro zl s σ H Q I h;refine Subscript_ (thn (he zl s σ H _ I h) fun v s1 ⟨x,H1,I1,r1,q1⟩=>?_);refine wpAny_Slice ?_;rw [evalPart_none];refine wpAny_pure (wpAny_pure ?_);rw [evalPart_some];refine thn (hk zl s1 σ H1 _ I1 q1) fun vk s3 ⟨y,H3,I3,ry,q3⟩=>?_;obtain⟨rfl,a,xs,rfl,hx,q⟩:=q3;obtain⟨t,rfl⟩:=ry;cases r1;have I4:Inv X zl σ H3 { s3 with heap:=s3.heap.push { cls:=.type "slice",data:=.fields #[.none,.none,.int (-1) t] } }:=I3.kept (t':=s3.toks) fun b ob q=>Heap.get?_push_of_some _ q;obtain⟨its,r,ht,hz⟩:=I4.list hx;have hlen:=r.length;show wpAny (model X.prog X.w) X.A (subscriptTail e (.Slice none none (some ek) p2) (.ref a) (.ref s3.heap.objs.size)) (EP X zl σ Q) X.xe { s3 with heap:=s3.heap.push { cls:=.type "slice",data:=.fields #[.none,.none,.int (-1) t] } };refine tail_any (ops:=[.ref a,.ref s3.heap.objs.size]) ht.isList.typeIs slot_list_getitem.lookup ?_ (by with_unfolding_all rfl);refine wpAny_getItem_list_slice ht.isList (Heap.IsSliceOf.new ..) .none .none (.int (-1) t) (by decide) ?_ (by rw [List.size_toArray] <;> omega);rw [PySem.W.krv_pick];refine⟨.ref _,_,I4.laid (t':=s3.toks) (o:=.lst xs.reverse) (fun b ob q=>Heap.get?_push_of_some _ q) (Nat.le_refl _) ?_,rfl,q _ (I4.hok.fresh (Nat.le_refl _))⟩;exact⟨by rw [List.length_reverse]; exact hz,_,0,r.rev,Heap.get?_push_size _ rfl⟩
end
def zrm(x:XV)(S:Sto)(R:RX):Prop:=match x with
 | .d (.list ds)=>R (.d (.list ds.reverse)) S
 | .l k=>∃ ds,S[k]? = some ds/\R (.d (.list ds.reverse)) S
 | _=>False
def zt1(e k:DE):DE:=fun δ S R=>e δ S fun x S1=>k δ S1 fun y S2=>y=.d (.int (-1))/\zrm x S2 R
theorem ztS{K:W.Frag}{te tk:TE}{de dk:DE}(he':RE te de)(hk':RE tk dk):RE (zuV K te tk) (zt1 de dk):=fun h o H δ σ S R Q he hs q c =>
 he' h o H δ σ S _ _ he hs q fun o1 H1 S1 x v e1 s1 x1 d1=>hk' h o1 H1 δ σ S1 _ _ (he.mono e1) s1 d1 fun o2 H2 S2 y u e2 s2 y2 d2=>by
  obtain⟨rfl,d2⟩:=d2;refine⟨zaJ y2,?_⟩;have x2:=x1.mono e2;unfold zrm at d2;split at d2
  ·obtain⟨p,vs,rfl,ea,l⟩:=zbN s2 (x:=.d (.list _)) rfl x2;exact⟨p,vs,rfl,.of ea,zmk s2 l.rev (Cn.pre c (e1.trans e2)) d2⟩
  ·obtain⟨ds,e0,d2⟩:=d2;obtain⟨p,vs,rfl,ea,l⟩:=zbN s2 (x:=.l _) e0 x2;exact⟨p,vs,rfl,.of ea,zmk s2 l.rev (Cn.pre c (e1.trans e2)) d2⟩
  ·exact d2.elim
section
variable {S:Sto} {R:RX} {ds:List PyData} {k:Nat}
theorem znl:zrm (.d (.list ds)) S R=R (.d (.list ds.reverse)) S:=rfl
end
end
section
@[irreducible] def QSs (X:Cx) (st:List Stmt) (t:TS):Prop:=PSs X st t
theorem QSs.out{X:Cx}{st:List Stmt}{t:TS}(h:QSs X st t):PSs X st t:=by unfold QSs at h; exact h
theorem QSs.mk{X:Cx}{st:List Stmt}{t:TS}(h:PSs X st t):QSs X st t:=by unfold QSs; exact h
@[irreducible] def QA (X:Cx) (es:List Expr) (t:TA):Prop:=PA X es t
theorem QA.out{X:Cx}{es:List Expr}{t:TA}(h:QA X es t):PA X es t:=by unfold QA at h; exact h
theorem QA.mk{X:Cx}{es:List Expr}{t:TA}(h:PA X es t):QA X es t:=by unfold QA; exact h
theorem zjw{X:Cx}:QA X [] zsa:=QA.mk zi
theorem zab{X:Cx}{e:Expr}{es:List Expr}{te:TE}{t:TA}(ha:PE X e te)(hr:QA X es t)(hs:starEach (e :: es) X.env=(false,eval e X.env) :: starEach es X.env:=by rfl):QA X (e :: es) (zlE te t):=QA.mk (zc ha hr.out hs)
theorem zh1{X:Cx}{es:List Expr}{t:TA}{pos:Pos}(h:QA X es t):PE X (.List es pos) (zr1 t):=zaO h.out
@[irreducible] def QS (X:Cx) (st:Stmt) (t:TS):Prop:=PS X st t
theorem QS.out{X:Cx}{st:Stmt}{t:TS}(h:QS X st t):PS X st t:=by unfold QS at h; exact h
theorem QS.mk{X:Cx}{st:Stmt}{t:TS}(h:PS X st t):QS X st t:=by unfold QS; exact h
theorem zm6{X:Cx}{st:Stmt}{rest:List Stmt}{t u:TS}(h1:QS X st t)(h2:QSs X rest u):QSs X (st :: rest) (zoA t u):=QSs.mk (zj h1.out h2.out)
end
end L2
namespace HT
open PySem PyProof.Rows
end HT
namespace L2
open PySem PySem.Spec PyProof.Rows
section
def zuA:D3:=fun x i j S R=>asT x fun ds=>R (.d (.tuple (zdP ds i j))) S
end
section
@[irreducible] def QE (X:Cx) (e:Expr) (t:TE):Prop:=PE X e t
theorem QE.out{X:Cx}{e:Expr}{t:TE}(h:QE X e t):PE X e t:=by unfold QE at h; exact h
theorem znn{X:Cx}{st:Stmt}{rest:List Stmt}{t u:TS}(h1:PS X st t)(h2:QSs X rest u):PSs X (st :: rest) (zoA t u):=zj h1 h2.out
theorem zo3{X:Cx}{st:Stmt}{t:TS}(h1:QS X st t):QSs X [st] t:=QSs.mk (zq h1.out)
end
end L2
namespace L2
open PySem PySem.Spec PySem.Calls PyProof.Rows PySem.W
section
variable {prog:Program} {w:World} {A:Around} {E:Value->Shared->Prop} {s:Shared}
def KeptBut(a:Addr)(h h':Heap):Prop:=∀ b o,b≠a->h.get? b=some o->h'.get? b=some o
end
end L2
namespace L2
open PySem PySem.Spec PyProof.Rows
section
def zuI:D2:=fun x y S R=>asT x fun ds=>asT y fun es=>∃ ns,ds=ns.map PyData.int/\∃ ms,es=ms.map PyData.int/\R (.d (.bool (HT.lexLt ns ms))) S
end
section
open Sem (wp)
namespace F4
end F4
end
section
namespace F4
end F4
end
section
namespace F4
end F4
end
section
namespace F4
end F4
end
end L2
namespace L2
open PySem PySem.Spec PySem.Calls PyProof.Rows PySem.W PySem.Builtin PySem.Builtin.ObjectAttr PySem.Builtin.Getset_descriptor
end L2
namespace L2
open PySem PySem.Spec PySem.Calls PyProof.Rows
end L2
namespace L2
open PySem PySem.Spec PyProof.Rows
section
abbrev EXD:=Addr->List (Str×PyData)->Prop
abbrev PX:=List XV->Sto->RX->EXD->Prop
def CnX(h o:List Addr)(H:Hp)(EX:EXD)(E:XK):Prop:=∀ o' H' S' C a fs,Ex o H o' H'->RepS h o' H' S'->HasE (vx h o' H') C fs (.ref a)->EX C fs->E (.ref C) (some a) H'
theorem CnX.pre{h o o':List Addr}{H H':Hp}{EX:EXD}{E:XK}(c:CnX h o H EX E)(e:Ex o H o' H'):CnX h o' H' EX E:=fun o2 H2 S2 C a fs e2=>c o2 H2 S2 C a fs (e.trans e2)
def RSx(E:XK)(EX:EXD)(t:TS)(dt:DS):Prop:=∀ (h o:List Addr) (H:Hp) (δ:XE) (σ:St) (S:Sto) (En:DEnds) (D:Ends),RepE h o H δ σ->RepS h o H S->dt En δ S->EOk h o H En D->CnX h o H EX E->t D σ H
section
variable {E:XK} {EX:EXD} {t u:TS} {dt du:DS}
theorem zr6(ht:RS t dt):RSx E EX t dt:=fun h o H δ σ S En D he hs q c _=>ht h o H δ σ S En D he hs q c
end
end
end L2
namespace L2
open PySem PySem.Spec PySem.Calls PyProof.Rows PySem.W PySem.Builtin PySem.Builtin.ObjectAttr
end L2
namespace L2
open PySem PySem.Spec PySem.Calls PyProof.Rows PySem.W
end L2
namespace L2
open PySem PySem.Spec PySem.Calls PyProof.Rows
end L2
namespace L2
open PySem PySem.Spec PySem.Calls PyProof.Rows
end L2
namespace L2
open PySem PySem.Spec PyProof.Rows
section
def znu(EX:EXD)(C:Addr)(ns:List Str)(da:DA):DS:=fun _ δ S=>da δ S fun xs _=>∃ ds,datas xs=some ds/\ds.length=ns.length/\EX C (ns.zip ds)
end
end L2
namespace L2
open PySem PySem.Spec PySem.Calls PyProof.Rows
end L2
namespace L2
open PySem PySem.Spec PyProof.Rows
section
abbrev Phi:=List Addr->List Addr->Hp->Prop
class Stb (Φ:Phi):Prop where
 st:∀ {h o o':List Addr} {H H':Hp},Φ h o H->Ex o H o' H'->Φ h o' H'
def REp(Φ:Phi)(t:TE)(dt:DE):Prop:=∀ (h o:List Addr) (H:Hp) (δ:XE) (σ:St) (S:Sto) (R:RX) (Q:VK),RepE h o H δ σ->RepS h o H S->dt δ S R->Cn h o H R Q->Φ h o H->t σ H Q
def RIp(Φ:Phi)(w:TI)(di:DI):Prop:=∀ (h o:List Addr) (H:Hp) (δ:XE) (σ:St) (S:Sto) (R:List PyData->Sto->Prop) (Q:It->Hp->Prop),RepE h o H δ σ->RepS h o H S->di δ S R ->
 (∀ o' H' S' ds J,Ex o H o' H'->RepS h o' H' S'->WalkX h o' H' J ds->R ds S'->Q J H')->Φ h o H->w σ H Q
section
variable {Φ:Phi} [Stb Φ] {ta tb te:TE} {da db de:DE} {tl:TA} {dl:DA} {tt tu:TT} {dt du:DT}
theorem zbw(a:RE te de):REp Φ te de:=fun h o H δ σ S R Q he hs q c _=>a h o H δ σ S R Q he hs q c
theorem znr{w:TI}{di:DI}(a:RI w di):RIp Φ w di:=fun h o H δ σ S R Q he hs q c _=>a h o H δ σ S R Q he hs q c
theorem zuf{r:R2}{rd:D2}(hr:RO r rd)(ha:REp Φ ta da)(hb:REp Φ tb db):REp Φ (tOp r ta tb) (dOp rd da db):=fun h o H δ σ S R Q he hs q c w =>
 ha h o H δ σ S _ _ he hs q (fun o1 H1 S1 x v e1 s1 x1 d1=>hb h o1 H1 δ σ S1 _ _ (he.mono e1) s1 d1 (fun o2 H2 S2 y u e2 s2 y2 d2 =>
  hr h o2 H2 S2 x y v u R Q s2 (x1.mono e2) y2 d2 (c.pre (e1.trans e2))) (Stb.st w e1)) w
end
section
variable {E:XK} {EX:EXD} {ta tb te:TE} {da db de:DE} {tl:TA} {dl:DA} {tt tu:TT} {dt du:DT}
def zqv(EX:EXD)(m:Nat)(q:PX)(da:DA):DE:=fun δ S R=>da δ S fun xs S1=>∃ ds,datas xs=some ds/\ds.length=m/\q (ds.map XV.d) [] (ret0 S1 R) EX
end
def zuZ(N P:List Str)(sc:Scope):Bool:=decide (sc.kind=.function) && !sc.isCoroutine && !sc.isGenerator && decide N.Nodup && decide (N.take P.length=P) && P.all (fun x=>decide (sc.names.lookup x=some .local) || decide (sc.names.lookup x=some .cell)) && sc.names.all fun y=>decide (y.2≠.free)
theorem fsc{N P:List Str}{sc:Scope}(h:zuZ N P sc=true):FnScope N P sc:=by
 simp only [zuZ,Bool.and_eq_true,decide_eq_true_eq,Bool.not_eq_true',List.all_eq_true,Bool.or_eq_true] at h;obtain⟨⟨⟨⟨⟨⟨h1,h2⟩,h3⟩,h4⟩,h5⟩,h6⟩,h7⟩:=h;exact⟨h1,h2,h3,h4,h5,h6,h7⟩
end
section
section
variable {κ α:Type} [DecidableEq κ]
def lkA(m:List (κ×α))(k:κ):Option α:=(m.find? fun p=>decide (p.1=k)).map (·.2)
def ptA(m:List (κ×α))(k:κ)(v:α):List (κ×α):=if (m.any fun p=>decide (p.1=k))=true then m.map (fun p=>if p.1=k then (p.1,v) else p) else m++[(k,v)]
def HasM(H:Hp):List (κ×PyData)->List (κ×V)->Prop
 | [],m=>m=[]
 | p :: r,m=>∃ v m',m=(p.1,v) :: m'/\Has H p.2 v/\HasM H r m'
theorem HasM.mono{H H':Hp}(s:Same H H'):∀ {m:List (κ×PyData)} {m':List (κ×V)},HasM H m m'->HasM H' m m'
 | [],_,q=>q
 | p :: r,_,⟨v,t,e,q,l⟩=>⟨v,t,e,Has.mono s _ _ q,HasM.mono s l⟩
theorem HasM.length{H:Hp}:∀ {m:List (κ×PyData)} {m':List (κ×V)},HasM H m m'->m'.length=m.length
 | [],_,q=>by rw [show _=[] from q]; rfl
 | p :: r,_,⟨v,t,e,q,l⟩=>by rw [e,List.length_cons,List.length_cons,HasM.length l]
theorem HasM.val{H:Hp}(k:κ):∀ {m:List (κ×PyData)} {m':List (κ×V)},HasM H m m'->(lkA m k=none/\zmm m' k=none)\/∃ d v,lkA m k=some d/\zmm m' k=some v/\Has H d v
 | [],m',q=>by rw [show m'=[] from q]; exact .inl ⟨rfl,rfl⟩
 | p :: r,m',⟨v,t,e,q,l⟩=>by
  subst e;by_cases hk:p.1=k
  ·exact .inr ⟨p.2,v,by simp [lkA,hk],zf8 hk,q⟩
  ·have e1:lkA (p :: r) k=lkA r k:=by simp [lkA,hk]
   rw [e1,zf4 hk];exact HasM.val k l
theorem HasM.any{H:Hp}(k:κ):∀ {m:List (κ×PyData)} {m':List (κ×V)},HasM H m m'->(m'.any fun p=>decide (p.1=k))=m.any fun p=>decide (p.1=k)
 | [],m',q=>by rw [show m'=[] from q]; rfl
 | p :: r,m',⟨v,t,e,q,l⟩=>by
  subst e;rw [List.any_cons,List.any_cons,HasM.any k l]
theorem HasM.sets{H:Hp}{k:κ}{d:PyData}{v:V}(hv:Has H d v):∀ {m:List (κ×PyData)} {m':List (κ×V)},HasM H m m'->HasM H (m.map fun p=>if p.1=k then (p.1,d) else p) (m'.map fun p=>if p.1=k then (p.1,v) else p)
 | [],m',q=>by rw [show m'=[] from q]; rfl
 | p :: r,m',⟨u,t,e,q,l⟩=>by
  subst e;rw [List.map_cons,List.map_cons];by_cases hk:p.1=k
  ·exact⟨v,_,by simp [hk],by simpa [hk] using hv,HasM.sets hv l⟩
  ·exact⟨u,_,by simp [hk],by simpa [hk] using q,HasM.sets hv l⟩
theorem HasM.snoc{H:Hp}{k:κ}{d:PyData}{v:V}(hv:Has H d v):∀ {m:List (κ×PyData)} {m':List (κ×V)},HasM H m m'->HasM H (m++[(k,d)]) (m'++[(k,v)])
 | [],m',q=>by rw [show m'=[] from q]; exact⟨v,[],rfl,hv,rfl⟩
 | p :: r,m',⟨u,t,e,q,l⟩=>by subst e; exact⟨u,_,rfl,q,HasM.snoc hv l⟩
theorem HasM.put{H:Hp}{k:κ}{d:PyData}{v:V}{m:List (κ×PyData)}{m':List (κ×V)}(l:HasM H m m')(hv:Has H d v):HasM H (ptA m k d) (zfu m' k v):=by
 unfold ptA zfu;rw [l.any k];split
 ·exact l.sets hv
 ·exact l.snoc hv
end
inductive DD where
 | k (m:List (Key×PyData))
 | t (m:List (List Key×PyData))
def DD.pairs:DD->List (PyData×PyData)
 | .k m=>m.map fun p=>(kD p.1,p.2)
 | .t m=>m.map fun p=>(.tuple (p.1.map kD),p.2)
def DD.len:DD->Nat
 | .k m=>m.length
 | .t m=>m.length
def zoz:PyData->Option Key
 | .int i=>some (.inl i)
 | .str x=>some (.inr x)
 | _=>none
def zl3:List PyData->Option (List Key)
 | []=>some []
 | d :: ds=>(zoz d).bind fun k=>(zl3 ds).map (k :: ·)
def zrJ:PyData->Option (List Key)
 | .tuple ds=>zl3 ds
 | _=>none
def DD.get:DD->PyData->Option (Option PyData)
 | .k m,y=>(zoz y).map (lkA m)
 | .t m,y=>(zrJ y).map (lkA m)
def DD.put:DD->PyData->PyData->Option DD
 | .k m,y,d=>(zoz y).map fun k=>.k (ptA m k d)
 | .t m,y,d=>(zrJ y).map fun k=>.t (ptA m k d)
def RAt(G H:Hp)(a:Addr):DD->Prop
 | .k m=>∃ m',Rd H a (.dK m')/\HasM G m m'
 | .t m=>∃ m',Rd H a (.dT m')/\HasM G m m'
def DAt(G H:Hp)(a:Addr):DD->Prop
 | .k m=>∃ m',H a=some (.dK m')/\HasM G m m'
 | .t m=>∃ m',H a=some (.dT m')/\HasM G m m'
theorem zio{H:Hp}{y:PyData}{v:V}{k:Key}(e:zoz y=some k)(q:Has H y v):v=kV k:=by
 cases y with
 | int i=>cases e; exact zbr.mp q
 | str x=>cases e; exact zdD.mp q
 | _=>cases e
theorem zjC{H:Hp}:∀ {ds:List PyData} {vs:List V} {ks:List Key},zl3 ds=some ks->HasL H ds vs->vs=ks.map kV
 | [],vs,ks,e,l=>by cases e; exact zS.mp l
 | d :: ds,vs,ks,e,l=>by
  obtain⟨v,r,rfl,q,l⟩:=zH.mp l;unfold zl3 at e;cases hk:zoz d with
  | none=>rw [hk] at e; cases e
  | some k =>
   rw [hk,Option.bind_some] at e;cases hs:zl3 ds with
   | none=>rw [hs] at e; cases e
   | some ks' =>
    rw [hs] at e;cases e;rw [zio hk q,zjC hs l];rfl
theorem zk4{H:Hp}{y:PyData}{v:V}{ks:List Key}(e:zrJ y=some ks)(q:Has H y v):∃ b,v=.ref b/\H b=some (.tup (ks.map kV)):=by
 cases y with
 | tuple ds =>
  obtain⟨b,vs,rfl,eb,l⟩:=zaG.mp q;exact⟨b,rfl,by rw [<- zjC (show zl3 ds=some ks from e) l]; exact eb⟩
 | _=>cases e
theorem DAt.mono{G G' H H':Hp}{a:Addr}{D:DD}(s:Same G G')(e:∀ u,H a=some u->H' a=some u)(q:DAt G H a D):DAt G' H' a D:=by
 cases D with
 | k m=>obtain⟨m',e1,l⟩:=q; exact⟨m',e _ e1,l.mono s⟩
 | t m=>obtain⟨m',e1,l⟩:=q; exact⟨m',e _ e1,l.mono s⟩
theorem DAt.rd{G H:Hp}{a:Addr}{D:DD}(q:DAt G H a D):RAt G H a D:=by
 cases D with
 | k m=>obtain⟨m',e1,l⟩:=q; exact⟨m',.inl e1,l⟩
 | t m=>obtain⟨m',e1,l⟩:=q; exact⟨m',.inl e1,l⟩
theorem DAt.mo{G H:Hp}{a:Addr}{D:DD}(q:DAt G H a D):∃ u:MO,H a=some u.ho:=by
 cases D with
 | k m=>obtain⟨m',e1,l⟩:=q; exact⟨.k m',e1⟩
 | t m=>obtain⟨m',e1,l⟩:=q; exact⟨.t m',e1⟩
def RelD(G:Hp):Option PyData->Option V->Prop
 | none,r=>r=none
 | some d,r=>∃ u,r=some u/\Has G d u
theorem RAt.get{G H:Hp}{a:Addr}{D:DD}{y:PyData}{v:V}{o:Option PyData}(sv:Same G H)(q:RAt G H a D)(hy:Has G y v)(e:D.get y=some o):∃ r,DGet H a v r/\RelD G o r:=by
 cases D with
 | k m =>
  obtain⟨m',e1,l⟩:=q;replace e:(zoz y).map (lkA m)=some o:=e;cases hk:zoz y with
  | none=>rw [hk] at e; cases e
  | some k =>
   rw [hk] at e;cases e;rw [zio hk hy];refine⟨_,.inl ⟨m',k,e1,rfl,rfl⟩,?_⟩;rcases l.val k with ⟨z1,z2⟩ | ⟨d,u,z1,z2,z3⟩
   ·rw [z1]; exact z2
   ·rw [z1]; exact⟨u,z2,z3⟩
 | t m =>
  obtain⟨m',e1,l⟩:=q;replace e:(zrJ y).map (lkA m)=some o:=e;cases hk:zrJ y with
  | none=>rw [hk] at e; cases e
  | some k =>
   rw [hk] at e;cases e;obtain⟨b,rfl,eb⟩:=zk4 hk hy;refine⟨_,.inr ⟨m',k,b,e1,rfl,sv _ _ eb,rfl⟩,?_⟩;rcases l.val k with ⟨z1,z2⟩ | ⟨d,u,z1,z2,z3⟩
   ·rw [z1]; exact z2
   ·rw [z1]; exact⟨u,z2,z3⟩
theorem RAt.isD{G H:Hp}{a:Addr}{D:DD}(q:RAt G H a D):IsD H a:=by
 cases D with
 | k m=>obtain⟨m',e1,_⟩:=q; exact .inl ⟨m',e1⟩
 | t m=>obtain⟨m',e1,_⟩:=q; exact .inr ⟨m',e1⟩
theorem DAt.put{G H:Hp}{a:Addr}{D D':DD}{y d:PyData}{v u:V}(sv:Same G H)(q:DAt G H a D)(hy:Has G y v)(hd:Has G d u)(e:D.put y d=some D')(hl:D.len<1000):
  ∃ x:MO,DPut H a v u (upd H a x.ho)/\∀ H',H' a=some x.ho->DAt G H' a D':=by
 cases D with
 | k m =>
  obtain⟨m',e1,l⟩:=q;replace e:((zoz y).map fun k=>DD.k (ptA m k d))=some D':=e;cases hk:zoz y with
  | none=>rw [hk] at e; cases e
  | some k =>
   rw [hk] at e;cases e;rw [zio hk hy];exact⟨.k (zfu m' k u),DPut.k e1 (by rw [l.length]; exact small1000 (Nat.le_of_lt hl)),fun H' z=>⟨_,z,l.put hd⟩⟩
 | t m =>
  obtain⟨m',e1,l⟩:=q;replace e:((zrJ y).map fun k=>DD.t (ptA m k d))=some D':=e;cases hk:zrJ y with
  | none=>rw [hk] at e; cases e
  | some k =>
   rw [hk] at e;cases e;obtain⟨b,rfl,eb⟩:=zk4 hk hy;exact⟨.t (zfu m' k u),DPut.t e1 (sv _ _ eb) (by rw [l.length]; exact small1000 (Nat.le_of_lt hl)),fun H' z=>⟨_,z,l.put hd⟩⟩
theorem zsg{a b:Key}(e:kD a=kD b):a=b:=by
 cases a <;> cases b <;> cases e <;> rfl
theorem znq{H:Hp}:∀ {m:List (Key×PyData)} {m':List (Key×V)},HasM H m m'->HasV H (m.map fun p=>(kD p.1,p.2)) (m'.map (·.2))/\m'.map (fun p=>kD p.1)=m.map fun p=>kD p.1
 | [],m',q=>by rw [show m'=[] from q]; exact⟨zpf.mpr rfl,rfl⟩
 | p :: r,m',⟨v,t,e,q,l⟩=>by
  subst e;obtain⟨z1,z2⟩:=znq l;exact⟨ziW.mpr ⟨v,_,rfl,q,z1⟩,by rw [List.map_cons,List.map_cons,z2]⟩
theorem znV{H:Hp}:∀ {m:List (Key×PyData)} {m':List (Key×V)},HasV H (m.map fun p=>(kD p.1,p.2)) (m'.map (·.2))->m.map (fun p=>kD p.1)=m'.map (fun p=>kD p.1)->HasM H m m'
 | [],[],_,_=>rfl
 | [],_ :: _,_,e=>by simp at e
 | _ :: _,[],_,e=>by simp at e
 | p :: r,q :: t,h,e=>by
  rw [List.map_cons,List.map_cons] at h;obtain⟨v,s,e1,e2,e3⟩:=ziW.mp h;rw [List.cons.injEq] at e1;rw [List.map_cons,List.map_cons,List.cons.injEq] at e;have z:=zsg e.1;obtain⟨q1,q2⟩:=q;refine⟨q2,t,by rw [z],?_,znV (by rw [e1.2]; exact e3) e.2⟩;have z1:q2=v:=e1.1;rw [z1];exact e2
theorem zgm{H:Hp}{m:List (Key×PyData)}{v:V}:Has H (.dict (DD.pairs (.k m))) v↔∃ a ob m',v=.ref a/\H a=some (.frz ob (.dK m'))/\HasM H m m':=by
 rw [zig];constructor
 ·rintro⟨a,vs,rfl,⟨ob,m',e,e1,e2⟩,l⟩;subst e2;refine⟨a,ob,m',rfl,e,znV l ?_⟩;rw [<- e1];simp [DD.pairs]
 ·rintro⟨a,ob,m',rfl,e,l⟩;obtain⟨z1,z2⟩:=znq l;exact⟨a,_,rfl,⟨ob,m',e,by rw [z2]; simp [DD.pairs],rfl⟩,z1⟩
abbrev DM:=List (Addr×DD)
def ad(M:DM):List Addr:=M.map (·.1)
structure RepM(h o:List Addr)(H:Hp)(M:DM):Prop where
 nd:(ad M).Nodup
 nh:∀ a∈ad M,a∉h/\a∉o
 ct:∀ a D,(a,D)∈M->DAt (vx (h++ad M) o H) H a D
section
variable {h o o':List Addr} {H H':Hp} {M:DM} {S:Sto}
theorem RepM.at(r:RepM h o H M){a:Addr}(m:a∈ad M):∃ D,(a,D)∈M/\DAt (vx (h++ad M) o H) H a D:=by
 obtain⟨p,mp,e⟩:=List.mem_map.mp m;obtain⟨b,D⟩:=p;cases e;exact⟨D,mp,r.ct _ D mp⟩
theorem RepM.mono(r:RepM h o H M)(e:Ex o H o' H'):RepM h o' H' M:=by
 have k1:∀ a∈ad M,∀ u,H a=some u->a∉o'/\H' a=some u:=fun a m u z=>e.kp a u (r.nh a m).2 z;refine⟨r.nd,fun a m=>⟨(r.nh a m).1,?_⟩,fun a D m=>?_⟩
 ·obtain⟨D,_,q⟩:=r.at m;obtain⟨u,z⟩:=q.mo;exact(k1 a m _ z).1
 ·exact(r.ct a D m).mono e.vx fun u z=>(k1 a (List.mem_map.mpr ⟨_,m,rfl⟩) u z).2
theorem RepM.nil:RepM h o H []:=⟨List.nodup_nil,fun a m=>(by cases m),fun a D m=>(by cases m)⟩
def zrr(M:DM)(a:Addr)(D:DD):DM:=M.map fun p=>if p.1=a then (a,D) else p
theorem zgA{a:Addr}{D:DD}:∀ {M:DM},ad (zrr M a D)=ad M
 | []=>rfl
 | p :: r=>by
  have z:=zgA (a:=a) (D:=D) (M:=r);unfold ad zrr at z ⊢;rw [List.map_cons,List.map_cons,List.map_cons,z];by_cases e:p.1=a <;> simp [e]
theorem zgg{a:Addr}{u:HO}(m:a∈h):Same (vx h o H) (vx h o (upd H a u)):=fun b w e=>by
 obtain⟨z1,z2,z3⟩:=zaq.mp e;exact zaq.mpr ⟨z1,z2,by rw [zZ (fun z=>z1 (by rw [z]; exact m))]; exact z3⟩
theorem HasX.view(s:Same (vx h o H) (vx h o H')):∀ {x:XV} {v:V},HasX h o H x v->HasX h o H' x v
 | .d d,v,q=>Has.mono s d v q
 | .l k,v,q=>q
 | .o w,v,q=>q
 | .x C fs,v,q=>HasE.mono s q
theorem RepE.view{δ:XE}{σ:St}(s:Same (vx h o H) (vx h o H'))(r:RepE h o H δ σ):RepE h o H' δ σ:=⟨r.len,fun i x e=>let ⟨v,e1,e2⟩:=r.get i x e; ⟨v,e1,e2.view s⟩⟩
theorem RepS.hidden{a:Addr}{u:MO}(r:RepS h o H S)(m:a∈h):RepS h o (L2.upd H a u.ho) S where
 len:=r.len
 nd:=r.nd
 dis:=r.dis
 hal:=fun b mb=>by
  by_cases e:b=a
  ·subst e; exact⟨u,zam⟩
  ·obtain⟨w,z⟩:=r.hal b mb;exact⟨w,by rw [zZ e]; exact z⟩
 cont:=fun k b ds e1 e2=>by
  obtain⟨vs,e3,l⟩:=r.cont k b ds e1 e2;have ne:b≠a:=fun z=>r.dis b (List.mem_of_getElem? e1) (z▸m);exact⟨vs,by rw [zZ ne]; exact e3,HasL.mono (zgg m) _ _ l⟩
theorem RepM.put{a:Addr}{D D':DD}{u:MO}(r:RepM h o H M)(m:(a,D)∈M)(q:∀ H',H' a=some u.ho->DAt (vx (h++ad M) o H) H' a D'):RepM h o (L2.upd H a u.ho) (zrr M a D'):=by
 have ma:a∈ad M:=List.mem_map.mpr ⟨_,m,rfl⟩;refine⟨by rw [zgA]; exact r.nd,by rw [zgA]; exact r.nh,fun b D2 mb=>?_⟩;rw [zgA];have sv:Same (vx (h++ad M) o H) (vx (h++ad M) o (L2.upd H a u.ho)):=zgg (List.mem_append_right _ ma);obtain⟨p,mp,ep⟩:=List.mem_map.mp mb;by_cases e:p.1=a
 ·rw [if_pos e] at ep;cases ep;exact(q _ zam).mono sv fun _ z=>z
 ·rw [if_neg e] at ep;subst ep;exact(r.ct _ _ mp).mono sv fun w z=>by rw [zZ e]; exact z
theorem RepS.less{l:List Addr}(r:RepS (h++l) o H S):RepS h o H S where
 len:=r.len
 nd:=r.nd
 dis:=fun a ma z=>r.dis a ma (List.mem_append_left _ z)
 hal:=fun b mb=>r.hal b (List.mem_append_left _ mb)
 cont:=fun k b ds e1 e2=>by
  obtain⟨vs,e3,q⟩:=r.cont k b ds e1 e2;exact⟨vs,e3,HasL.mono (fun c u z=>let ⟨z1,z2,z3⟩:=zaq.mp z; zaq.mpr ⟨fun mm=>z1 (List.mem_append_left _ mm),z2,z3⟩) _ _ q⟩
theorem zgU{l:List Addr}:Same (vx (h++l) o H) (vx h o H):=fun c u z=>let ⟨z1,z2,z3⟩:=zaq.mp z; zaq.mpr ⟨fun mm=>z1 (List.mem_append_left _ mm),z2,z3⟩
theorem HasX.less{l:List Addr}:∀ {x:XV} {v:V},HasX (h++l) o H x v->HasX h o H x v
 | .d d,v,q=>Has.mono zgU d v q
 | .l k,v,q=>q
 | .o w,v,q=>q
 | .x C fs,v,q=>HasE.mono zgU q
end
end
section
structure DEndsM where
 nx:XE->Sto->DM->Prop
 rt:XV->Sto->DM->Prop
 bk:XE->Sto->DM->Prop:=fun _ _ _=>False
 ct:XE->Sto->DM->Prop:=fun _ _ _=>False
abbrev DSm:=DEndsM->XE->Sto->DM->Prop
def Fr(H:Hp)(M:DM):Prop:=∀ a∈ad M,H a=none
def NxM(h o:List Addr)(H:Hp)(A:List Addr)(N:XE->Sto->DM->Prop)(Y:St->Hp->Prop):Prop:=∀ o' H' δ' S' M' σ',Ex o H o' H'->ad M'=A->RepE (h++ad M') o' H' δ' σ'->RepS (h++ad M') o' H' S'->RepM h o' H' M'->N δ' S' M'->Y σ' H'
structure EOkM(h o:List Addr)(H:Hp)(A:List Addr)(E:DEndsM)(D:Ends):Prop where
 nx:NxM h o H A E.nx D.nx
 rt:∀ o' H' S' M' x v,Ex o H o' H'->ad M'=A->RepS (h++ad M') o' H' S'->RepM h o' H' M'->HasX (h++ad M') o' H' x v->E.rt x S' M'->D.rt v H'
 bk:NxM h o H A E.bk D.bk
 ct:NxM h o H A E.ct D.ct
def RSm(E:XK)(EX:EXD)(t:TS)(dt:DSm):Prop:=∀ (h o0:List Addr) (H0:Hp) (o:List Addr) (H:Hp) (δ:XE) (σ:St) (S:Sto) (M:DM) (En:DEndsM) (D:Ends),Ex o0 H0 o H->Fr H0 M->RepE (h++ad M) o H δ σ->RepS (h++ad M) o H S->RepM h o H M->dt En δ S M ->
 EOkM h o0 H0 (ad M) En D->CnX h o0 H0 EX E->t D σ H
theorem CnX.inn{E:XK}{EX:EXD}{h o0 o l:List Addr}{H0 H:Hp}(x:CnX h o0 H0 EX E)(e0:Ex o0 H0 o H):CnX (h++l) o H EX E:=fun o' H' S' C a fs e s' hE q=>x o' H' S' C a fs (e0.trans e) s'.less (HasE.mono zgU hE) q
def zja(dt:DS):DSm:=fun En δ S M=>dt { nx:=fun δ' S'=>En.nx δ' S' M,rt:=fun x S'=>En.rt x S' M,bk:=fun δ' S'=>En.bk δ' S' M,ct:=fun δ' S'=>En.ct δ' S' M } δ S
def zpk(t u:DSm):DSm:=fun En δ S M=>t { En with nx:=u En } δ S M
def zuD(c:DM->DT)(t u:DSm):DSm:=fun En δ S M=>c M δ S fun b S1=>if b=true then t En δ S1 M else u En δ S1 M
def zfX(g:DG)(b:DSm):List PyData->DSm
 | [],E,δ,S,M=>E.nx δ S M
 | d :: ds,E,δ,S,M=>g (.d d) δ S fun δ1 S1=>b { nx:=fun δ2 S2 M2=>zfX g b ds E δ2 S2 M2,ct:=fun δ2 S2 M2=>zfX g b ds E δ2 S2 M2,bk:=E.nx,rt:=E.rt } δ1 S1 M
def zot(i:DM->DI)(g:DG)(b:DSm):DSm:=fun En δ S M=>i M δ S fun ds S1=>zfX g b ds En δ S1 M
def PhM(M:DM):Phi:=fun h' o H=>∃ h,h'=h++ad M/\RepM h o H M
instance {M:DM}:Stb (PhM M):=⟨fun⟨h,e,r⟩ x=>⟨h,e,r.mono x⟩⟩
section
variable {E:XK} {EX:EXD} {t u:TS} {dt du:DSm}
theorem zpO{ds:DS}(ht:RSx E EX t ds):RSm E EX t (zja ds):=fun h o0 H0 o H δ σ S M En D e0 fr he hs rm q c x =>
 ht (h++ad M) o H δ σ S _ D he hs q ⟨fun o' H' δ' S' σ' e he' hs' n=>c.nx o' H' δ' S' M σ' (e0.trans e) rfl he' hs' (rm.mono e) n,fun o' H' S' y v e hs' hy n=>c.rt o' H' S' M y v (e0.trans e) rfl hs' (rm.mono e) hy n,
  fun o' H' δ' S' σ' e he' hs' n=>c.bk o' H' δ' S' M σ' (e0.trans e) rfl he' hs' (rm.mono e) n,fun o' H' δ' S' σ' e he' hs' n=>c.ct o' H' δ' S' M σ' (e0.trans e) rfl he' hs' (rm.mono e) n⟩ (x.inn e0)
theorem zrN{ds:DS}(ht:RS t ds):RSm E EX t (zja ds):=zpO (zr6 ht)
theorem ztv(ht:RSm E EX t dt)(hu:RSm E EX u du):RSm E EX (zoA t u) (zpk dt du):=fun h o0 H0 o H δ σ S M En D e0 fr he hs rm q c x =>
 ht h o0 H0 o H δ σ S M _ _ e0 fr he hs rm q ⟨fun o1 H1 δ1 S1 M1 σ1 e1 ea he1 hs1 rm1 q1=>hu h o0 H0 o1 H1 δ1 σ1 S1 M1 En D e1 (by unfold Fr; rw [ea]; exact fr) he1 hs1 rm1 q1 (by rw [ea]; exact c) x,c.rt,c.bk,c.ct⟩ x
theorem zpZ{wi:TI}{g:TG}{tb:TS}{di:DM->DI}{dg:DG}{db:DSm}(hi:∀ M,RIp (PhM M) wi (di M))(hg:RG g dg)(hb:RSm E EX tb db):RSm E EX (ztz wi g tb) (zot di dg db):=fun h o0 H0 o H δ σ S M En D e0 fr he hs rm q c x =>
 hi M (h++ad M) o H δ σ S _ _ he hs q (fun o1 H1 S1 ds J e1 s1 wk d1=>by
  refine⟨fun i m σ2 H2=>m=ds.length - i/\i<=ds.length/\∃ o2 δ2 S2 M2,Ex o0 H0 o2 H2/\ExH (h++ad M) o1 H1 o2 H2/\ad M2=ad M/\RepE (h++ad M) o2 H2 δ2 σ2/\RepS (h++ad M) o2 H2 S2/\RepM h o2 H2 M2/\zfX dg db (ds.drop i) En δ2 S2 M2,
   ⟨ds.length,by simp,Nat.zero_le _,o1,δ,S1,M,e0.trans e1,ExH.refl,rfl,he.mono e1,s1,rm.mono e1,d1⟩,?_⟩
  rintro i m σ2 H2 ⟨rfl,hi,o2,δ2,S2,M2,e2,x2,ea,he2,hs2,rm2,d2⟩;by_cases hlt:i<ds.length
  ·have ed:ds[i]? = some ds[i]:=List.getElem?_eq_getElem hlt;rw [List.drop_eq_getElem_cons hlt] at d2;refine .inr ⟨wk.go i _ o2 H2 x2 ed,fun σ3 H3=>∃ o3 δ3 S3 M3,Ex o0 H0 o3 H3/\ExH (h++ad M) o1 H1 o3 H3/\ad M3=ad M/\RepE (h++ad M) o3 H3 δ3 σ3/\RepS (h++ad M) o3 H3 S3/\RepM h o3 H3 M3/\zfX dg db (ds.drop (i+1)) En δ3 S3 M3,fun σ3 H3 n=>⟨ds.length - (i+1),by omega,rfl,hlt,n⟩,fun y H3 yy=>?_⟩;obtain⟨s3,hx⟩:=wk.yld i _ o2 H2 y H3 S2 x2 hs2 ed yy;have e23:Ex o2 H2 o2 H3:=Ex.of_same s3;refine hg (h++ad M) o2 H3 δ2 σ2 S2 (.d ds[i]) y _ _ (he2.mono e23) (hs2.same s3) hx d2 fun o4 H4 δ4 S4 σ4 e4 he4 hs4 d4=>?_;have e24:Ex o2 H2 o4 H4:=e23.trans e4;have nM:∀ b u,H0 b=some u->b∉ad M:=fun b u z mb=>by
    rw [fr b mb] at z;cases z
   have e04:Ex o0 H0 o4 (fun b=>if b∈ad M then none else H4 b):=⟨(e2.trans e24).pre,fun b u nb z=>by
    obtain⟨z1,z2⟩:=(e2.trans e24).kp b u nb z;exact⟨z1,by show (if b∈ad M then none else H4 b)=some u; rw [if_neg (nM b u z)]; exact z2⟩⟩
   have exh:∀ {o5 H5},Ex o4 (fun b=>if b∈ad M then none else H4 b) o5 H5->ExH (h++ad M) o4 H4 o5 H5:=fun e5=>⟨e5.pre,fun b u n1 n2 z=>e5.kp b u n2 (by show (if b∈ad M then none else H4 b)=some u; rw [if_neg (fun mb=>n1 (List.mem_append_right _ mb))]; exact z)⟩;have again:∀ o5 H5 δ5 S5 M5 σ5,Ex o4 (fun b=>if b∈ad M then none else H4 b) o5 H5->ad M5=ad M2->RepE (h++ad M5) o5 H5 δ5 σ5->RepS (h++ad M5) o5 H5 S5->RepM h o5 H5 M5->zfX dg db (ds.drop (i+1)) En δ5 S5 M5 ->
     ∃ o3 δ3 S3 M3,Ex o0 H0 o3 H5/\ExH (h++ad M) o1 H1 o3 H5/\ad M3=ad M/\RepE (h++ad M) o3 H5 δ3 σ5/\RepS (h++ad M) o3 H5 S3/\RepM h o3 H5 M3/\zfX dg db (ds.drop (i+1)) En δ3 S3 M3:=fun o5 H5 δ5 S5 M5 σ5 e5 a5 he5 hs5 rm5 d5 =>
    ⟨o5,δ5,S5,M5,e04.trans e5,(x2.trans e24.hid).trans (exh e5),a5.trans ea,by rw [<- ea,<- a5]; exact he5,by rw [<- ea,<- a5]; exact hs5,rm5,d5⟩
   refine hb h o4 (fun b=>if b∈ad M then none else H4 b) o4 H4 δ4 σ4 S4 M2 _ _ ⟨⟨[],by simp⟩,fun b u nb eb=>?_⟩ (fun a ma=>by show (if a∈ad M then none else H4 a)=none; rw [if_pos (by rw [<- ea]; exact ma)]) (by rw [ea]; exact he4) (by rw [ea]; exact hs4) (rm2.mono e24) d4
    ⟨again,fun o5 H5 S5 M5 y5 v5 e5 a5 hs5 rm5 hx5 q5=>c.rt o5 H5 S5 M5 y5 v5 (e04.trans e5) (a5.trans ea) hs5 rm5 hx5 q5,fun o5 H5 δ5 S5 M5 σ5 e5 a5 he5 hs5 rm5 q5=>c.nx o5 H5 δ5 S5 M5 σ5 (e04.trans e5) (a5.trans ea) he5 hs5 rm5 q5,again⟩ (x.pre e04)
   refine⟨nb,?_⟩;by_cases mb:b∈ad M
   ·simp [mb] at eb
   ·simpa [mb] using eb
  ·have ei:i=ds.length:=by omega
   subst ei;rw [List.drop_length] at d2;exact .inl ⟨wk.stop _ o2 H2 x2 (Nat.le_refl _),c.nx o2 H2 δ2 S2 M2 σ2 e2 ea (by rw [ea]; exact he2) (by rw [ea]; exact hs2) rm2 d2⟩) ⟨h,rfl,rm⟩
end
end
section
section
variable {h h' o:List Addr} {H H':Hp}
theorem HasX.to(s:Same (vx h o H) (vx h' o H')):∀ {x:XV} {v:V},HasX h o H x v->HasX h' o H' x v
 | .d d,v,q=>Has.mono s d v q
 | .l k,v,q=>q
 | .o w,v,q=>q
 | .x C fs,v,q=>HasE.mono s q
theorem RepE.to{δ:XE}{σ:St}(s:Same (vx h o H) (vx h' o H'))(r:RepE h o H δ σ):RepE h' o H' δ σ:=⟨r.len,fun i x e=>let ⟨v,e1,e2⟩:=r.get i x e; ⟨v,e1,e2.to s⟩⟩
end
def zq7(a:Addr)(m:List (Key×PyData)):XV->XV
 | .o (.ref b)=>if b=a then .d (.dict (DD.pairs (.k m))) else .o (.ref b)
 | x=>x
theorem zsj{h h' o:List Addr}{H H':Hp}{a:Addr}{m:List (Key×PyData)}{m':List (Key×V)}{ob:Obj}(s:Same (vx h o H) (vx h' o H'))(e:vx h' o H' a=some (.frz ob (.dK m')))(l:HasM (vx h o H) m m'):∀ {x:XV} {v:V},HasX h o H x v->HasX h' o H' (zq7 a m x) v
 | .d d,v,z=>Has.mono s d v z
 | .l k,v,z=>z
 | .x C fs,v,z=>HasE.mono s z
 | .o w,v,z=>by
  cases w with
  | ref b =>
   unfold zq7;dsimp only;split
   ·rename_i eb;subst eb;rw [show v=.ref b from z];exact zgm.mpr ⟨b,ob,m',rfl,e,l.mono s⟩
   ·exact z
  | _=>exact z
theorem zoQ{h h' o:List Addr}{H H':Hp}{a:Addr}{m:List (Key×PyData)}{m':List (Key×V)}{ob:Obj}{δ:XE}{σ:St}(s:Same (vx h o H) (vx h' o H'))(e:vx h' o H' a=some (.frz ob (.dK m')))(l:HasM (vx h o H) m m')(r:RepE h o H δ σ):RepE h' o H' (δ.map (Option.map (zq7 a m))) σ:=by
 refine⟨by rw [List.length_map]; exact r.len,fun i x ex=>?_⟩;rw [List.getElem?_map] at ex;cases hd:δ[i]? with
 | none=>rw [hd] at ex; cases ex
 | some y =>
  rw [hd] at ex;cases y with
  | none=>cases ex
  | some y =>
   cases ex;obtain⟨v,e1,e2⟩:=r.get i y hd;exact⟨v,e1,zsj s e l e2⟩
theorem zaz{M:DM}{a:Addr}{D:DD}:ad (M++[(a,D)])=ad M++[a]:=by simp [ad]
theorem RepM.init{h o:List Addr}{H:Hp}{M:DM}{a:Addr}{D:DD}(r:RepM h o H (M++[(a,D)])):RepM h o H M:=by
 have nd:=r.nd;rw [zaz] at nd;refine⟨(List.nodup_append.mp nd).1,fun b m=>r.nh b (by rw [zaz]; exact List.mem_append_left _ m),fun b D2 m=>?_⟩;have z:=r.ct b D2 (List.mem_append_left _ m);rw [zaz,<- List.append_assoc] at z;exact z.mono zgU fun _ z=>z
def znU(f:Bool)(i:Nat)(D0:DD)(b:DSm):DSm:=fun En δ S M=>∀ a,a∉ad M->b { nx:=(fun δ' S' M'=>if f=true then (∃ M1 m,M'=M1++[(a,.k m)]/\δ'[i]? = some (some (.o (.ref a)))/\En.nx (δ'.map (Option.map (zq7 a m))) S' M1) else (∃ M1 D,M'=M1++[(a,D)]/\En.nx δ' S' M1)),rt:=(fun x S' M'=>∃ M1 D,M'=M1++[(a,D)]/\En.rt x S' M1),bk:=(fun δ' S' M'=>∃ M1 D,M'=M1++[(a,D)]/\En.bk δ' S' M1),ct:=(fun δ' S' M'=>∃ M1 D,M'=M1++[(a,D)]/\En.ct δ' S' M1) } (δ.set i (some (.o (.ref a)))) S (M++[(a,D0)])
section
variable {E:XK} {EX:EXD} {tb:TS} {db:DSm} {i:Nat}
theorem zoU{f:Bool}{u:MO}{D0:DD}(hD:∀ (G H:Hp) a,H a=some u.ho->DAt G H a D0)(hb:RSm E EX tb db){h o0:List Addr}{H0:Hp}{o:List Addr}{H:Hp}{δ:XE}{σ:St}{S:Sto}{M:DM}{En:DEndsM}{D:Ends}(e0:Ex o0 H0 o H)(fr:Fr H0 M)(he:RepE (h++ad M) o H δ σ)(hs:RepS (h++ad M) o H S)(rm:RepM h o H M)
  (q:znU f i D0 db En δ S M) (c:EOkM h o0 H0 (ad M) En D) (x:CnX h o0 H0 EX E) (p:Addr) (hp:H p=none):(if f=true then zt7 i tb else tb) D (σ.set i (some (.ref p))) (upd H p u.ho):=by
 have nM:p∉ad M:=fun m=>by
  obtain⟨D2,_,z⟩:=rm.at m;obtain⟨w,ew⟩:=z.mo;rw [hp] at ew;cases ew
 have f1:=hs.fresh hp;have nh:p∉h:=fun m=>f1.1 (List.mem_append_left _ m);have sH:Same H (upd H p u.ho):=Same.laid hp;have e1:Ex o0 H0 o (upd H p u.ho):=e0.trans (Ex.of_same sH);have H0p:H0 p=none:=by
  cases z:H0 p with
  | none=>rfl
  | some w =>
   by_cases m:p∈o0
   ·obtain⟨r,er⟩:=e0.pre;exact absurd (show p∈o by rw [er]; exact List.mem_append_left _ m) f1.2
   ·have:=(e0.kp p w m z).2;rw [hp] at this;cases this
 have sv:Same (vx (h++ad M) o H) (vx (h++(ad M++[p])) o (upd H p u.ho)):=fun b w z=>by
  obtain⟨z1,z2,z3⟩:=zaq.mp z;have ne:b≠p:=zal z3 hp;refine zaq.mpr ⟨fun m=>?_,z2,by rw [zZ ne]; exact z3⟩;rw [<- List.append_assoc] at m;rcases List.mem_append.mp m with m | m
  ·exact z1 m
  ·exact ne (List.mem_singleton.mp m)
 have sM:RepS (h++ad (M++[(p,D0)])) o (upd H p u.ho) S:=by
  rw [zaz];refine⟨hs.len,hs.nd,fun a ma z=>?_,fun b mb=>?_,fun k b ds e1 e2=>?_⟩
  ·rw [<- List.append_assoc] at z;rcases List.mem_append.mp z with z | z
   ·exact hs.dis a ma z
   ·rw [List.mem_singleton.mp z] at ma;exact f1.2 ma
  ·rw [<- List.append_assoc] at mb;rcases List.mem_append.mp mb with m | m
   ·obtain⟨w,ew⟩:=hs.hal b m;exact⟨w,sH _ _ ew⟩
   ·rw [List.mem_singleton.mp m];exact⟨u,zam⟩
  ·obtain⟨vs,e3,l⟩:=hs.cont k b ds e1 e2;exact⟨vs,sH _ _ e3,HasL.mono sv _ _ l⟩
 have mM:RepM h o (upd H p u.ho) (M++[(p,D0)]):=by
  refine⟨by rw [zaz]; exact zcq rm.nd nM,fun a ma=>?_,fun a D2 m=>?_⟩
  ·rw [zaz] at ma;rcases List.mem_append.mp ma with m | m
   ·exact rm.nh a m
   ·rw [List.mem_singleton.mp m];exact⟨nh,f1.2⟩
  ·rw [zaz];rcases List.mem_append.mp m with m | m
   ·exact(rm.ct a D2 m).mono sv fun w z=>sH _ _ z
   ·have:=List.mem_singleton.mp m;cases this;exact hD _ _ _ zam
 have hE:RepE (h++ad (M++[(p,D0)])) o (upd H p u.ho) (δ.set i (some (.o (.ref p)))) (σ.set i (some (.ref p))):=by
  rw [zaz];exact(he.to sv).set (show HasX _ _ _ (.o (.ref p)) (.ref p) from rfl)
 have fr1:Fr H0 (M++[(p,D0)]):=fun a ma=>by
  rw [zaz] at ma;rcases List.mem_append.mp ma with m | m
  ·exact fr a m
  ·rw [List.mem_singleton.mp m]; exact H0p
 have back:∀ {N:XE->Sto->DM->Prop} {Y:St->Hp->Prop},NxM h o0 H0 (ad M) N Y->NxM h o0 H0 (ad (M++[(p,D0)])) (fun δ' S' M'=>∃ M1 D,M'=M1++[(p,D)]/\N δ' S' M1) Y:=fun {N Y} nx o' H' δ' S' M' σ' ex ea hE' hS' hM' ⟨M1,D2,eM,n⟩=>by
  subst eM;rw [zaz,zaz] at ea;rw [zaz,<- List.append_assoc] at hE' hS';exact nx o' H' _ S' M1 σ' ex (List.append_inj_left' ea rfl) (hE'.to zgU) hS'.less hM'.init n
 have ret:∀ o' H' S' M' y v,Ex o0 H0 o' H'->ad M'=ad (M++[(p,D0)])->RepS (h++ad M') o' H' S'->RepM h o' H' M'->HasX (h++ad M') o' H' y v->(∃ M1 D,M'=M1++[(p,D)]/\En.rt y S' M1)->D.rt v H':=by
  rintro o' H' S' M' y v ex ea hS' hM' hx' ⟨M1,D2,eM,n⟩;subst eM;rw [zaz,zaz] at ea;rw [zaz,<- List.append_assoc] at hx' hS';exact c.rt o' H' S' M1 _ v ex (List.append_inj_left' ea rfl) hS'.less hM'.init hx'.less n
 have qq:=q p nM;cases f with
 | false =>
  refine hb h o0 H0 o _ _ _ S (M++[(p,D0)]) _ D e1 fr1 hE sM mM qq ⟨?_,ret,back c.bk,back c.ct⟩ x;exact fun o' H' δ' S' M' σ' ex ea hE' hS' hM' n=>back c.nx o' H' δ' S' M' σ' ex ea hE' hS' hM' (by simpa using n)
 | true =>
  refine hb h o0 H0 o _ _ _ S (M++[(p,D0)]) _ { D with nx:=fun σ' H'=>∃ a m,σ'[i]? = some (some (.ref a))/\H' a=some (.dK m)/\∀ ob,D.nx σ' (upd H' a (.frz ob (.dK m))) } e1 fr1 hE sM mM qq ⟨?_,ret,back c.bk,back c.ct⟩ x;intro o' H' δ' S' M' σ' ex ea hE' hS' hM' n;obtain⟨M1,m,eM,ei,n2⟩:∃ M1 m,M'=M1++[(p,DD.k m)]/\δ'[i]? = some (some (.o (.ref p)))/\En.nx (δ'.map (Option.map (zq7 p m))) S' M1:=by simpa using n
  subst eM;obtain⟨v,ev,hv⟩:=hE'.get i _ ei;have evp:v=.ref p:=hv;subst evp;have nn:=hM'.nh p (by rw [zaz]; simp);have nd:=hM'.nd;rw [zaz,zaz] at ea;rw [zaz] at nd;have pn:p∉ad M1:=fun m=>(List.nodup_append.mp nd).2.2 p m p (by simp) rfl;obtain⟨m',em,l⟩:=hM'.ct p (.k m) (by simp);refine⟨p,m',ev,em,fun ob=>?_⟩;have np:p∉h++ad M1:=fun z=>(List.mem_append.mp z).elim nn.1 pn;have s2:Same (vx (h++ad (M1++[(p,DD.k m)])) o' H') (vx (h++ad M1) o' (upd H' p (.frz ob (.dK m')))):=fun b w z=>by
   obtain⟨z1,z2,z3⟩:=zaq.mp z;rw [zaz,<- List.append_assoc] at z1;have ne:b≠p:=fun z=>z1 (by rw [z]; simp);exact zaq.mpr ⟨fun mm=>z1 (List.mem_append_left _ mm),z2,by rw [zZ ne]; exact z3⟩
  refine c.nx o' _ _ S' M1 σ' ⟨ex.pre,fun b w nb zb=>?_⟩ (List.append_inj_left' ea rfl) (zoQ s2 (zaq.mpr ⟨np,nn.2,zam⟩) l hE') ?_ ?_ n2
  ·obtain⟨z1,z3⟩:=ex.kp b w nb zb;exact⟨z1,by rw [zZ (fun z=>by rw [z,H0p] at zb; cases zb)]; exact z3⟩
  ·refine⟨hS'.len,hS'.nd,fun a ma z=>hS'.dis a ma (by rw [zaz,<- List.append_assoc]; exact List.mem_append_left _ z),fun b mb=>?_,fun k b ds q1 q2=>?_⟩
   ·obtain⟨w,ew⟩:=hS'.hal b (by rw [zaz,<- List.append_assoc]; exact List.mem_append_left _ mb);exact⟨w,by rw [zZ (fun z=>np (by rw [<- z]; exact mb))]; exact ew⟩
   ·obtain⟨vs,q3,l3⟩:=hS'.cont k b ds q1 q2;exact⟨vs,by rw [zZ (fun z=>nn.2 (by rw [<- z]; exact List.mem_of_getElem? q1))]; exact q3,HasL.mono s2 _ _ l3⟩
  ·have r1:=hM'.init;refine⟨r1.nd,r1.nh,fun b D3 mb=>?_⟩;have nb:b≠p:=fun z=>pn (by rw [<- z]; exact List.mem_map.mpr ⟨_,mb,rfl⟩);exact(hM'.ct b D3 (List.mem_append_left _ mb)).mono s2 fun w z=>by rw [zZ nb]; exact z
theorem zr2(hb:RSm E EX tb db):RSm E EX (zoA (zsb zpY (zjc i)) (zt7 i tb)) (znU true i (.k []) db):=fun h o0 H0 o H δ σ S M En D e0 fr he hs rm q c x p hp =>
 zoU (f:=true) (D0:=.k []) (u:=.k []) (fun G H a z=>⟨[],z,rfl⟩) hb e0 fr he hs rm q c x p hp
def zsL(dt:DSm):DS:=fun En δ S=>dt { nx:=fun δ' S' _=>En.nx δ' S',rt:=fun x S' _=>En.rt x S',bk:=fun δ' S' _=>En.bk δ' S',ct:=fun δ' S' _=>En.ct δ' S' } δ S []
theorem zrs{t:TS}{dt:DSm}(ht:RSm E EX t dt):RSx E EX t (zsL dt):=fun h o H δ σ S En D he hs q c x=>by
 have z:h++ad []=h:=List.append_nil _;have nx:∀ {N:XE->Sto->Prop} {Y:St->Hp->Prop},Nx h o H N Y->NxM h o H (ad []) (fun δ' S' _=>N δ' S') Y:=fun {N Y} n o' H' δ' S' M' σ' ex ea he' hs' _ q'=>by
  rw [ea,z] at he' hs';exact n o' H' δ' S' σ' ex he' hs' q'
 refine ht h o H o H δ σ S [] _ D Ex.refl (fun a m=>by cases m) (by rw [z]; exact he) (by rw [z]; exact hs) RepM.nil q ⟨nx c.nx,?_,nx c.bk,nx c.ct⟩ x;rintro o' H' S' M' y v ex ea hs' _ hx' q';rw [ea,z] at hs' hx';exact c.rt o' H' S' y v ex hs' hx' q'
theorem zrV{t:TS}{dt:DSm}(ht:RSm E0 (fun _ _=>False) t dt):RS t (zsL dt):=fun h o H δ σ S En D he hs q c=>zrs ht h o H δ σ S En D he hs q c fun _ _ _ _ _ _ _ _ _ z=>z.elim
end
end
section
theorem zrj{t:TE}{de:DE}(a:REp (PhM []) t de):RE t de:=fun h o H δ σ S R Q he hs q c=>a h o H δ σ S R Q he hs q c ⟨h,(List.append_nil _).symm,RepM.nil⟩
def IsDD(M:DM)(x:XV)(D:DD):Prop:=(∃ a,x=.o (.ref a)/\(a,D)∈M)\/∃ m,D=.k m/\x=.d (.dict (DD.pairs (.k m)))
theorem znW{M:DM}{h o:List Addr}{H:Hp}{x:XV}{D:DD}{v:V}(φ:PhM M h o H)(q:IsDD M x D)(hx:HasX h o H x v):∃ a,v=.ref a/\RAt (vx h o H) H a D:=by
 rcases q with ⟨a,rfl,m⟩ | ⟨m,rfl,rfl⟩
 ·obtain⟨h0,rfl,rm⟩:=φ;exact⟨a,hx,(rm.ct a D m).rd⟩
 ·obtain⟨a,ob,m',rfl,e,l⟩:=zgm.mp (show Has _ _ v from hx);exact⟨a,rfl,m',.inr ⟨ob,zao _ _ e⟩,l⟩
def zgb(M:DM)(dd dy dx:DE):DE:=fun δ S R=>dd δ S fun x S1=>∃ D,IsDD M x D/\dy δ S1 fun y S2=>dx δ S2 fun z S3=>asD y fun k=>asD z fun dz=>∃ o,D.get k=some o/\R (.d (o.getD dz)) S3
theorem zf1{M:DM}{td ty tx:TE}{dd dy dx:DE}(hd:REp (PhM M) td dd)(hy:REp (PhM M) ty dy)(hx:REp (PhM M) tx dx):REp (PhM M) (zp9 td ty tx) (zgb M dd dy dx):=fun h o H δ σ S R Q he hs q c w =>
 hd h o H δ σ S _ _ he hs q (fun o1 H1 S1 x v e1 s1 x1 ⟨D,hD,d1⟩=>by
  obtain⟨a,rfl,da⟩:=znW (Stb.st w e1) hD x1;refine⟨a,rfl,da.isD,hy h o1 H1 δ σ S1 _ _ (he.mono e1) s1 d1 (fun o2 H2 S2 y u e2 s2 y2 d2=>hx h o2 H2 δ σ S2 _ _ ((he.mono e1).mono e2) s2 d2 (fun o3 H3 S3 z t e3 s3 z3 d3=>?_) (Stb.st w (e1.trans e2))) (Stb.st w e1)⟩;replace d3:=zfR d3;obtain⟨k,rfl,d3⟩:=d3;obtain⟨dz,rfl,r,e,q⟩:=zfR d3;obtain⟨a',ea,da'⟩:=znW (Stb.st w ((e1.trans e2).trans e3)) hD (x1.mono (e2.trans e3));cases ea;obtain⟨r',g,rr⟩:=da'.get zao (y2.mono e3) e;refine⟨r',g,?_⟩;cases r with
  | none =>
   rw [show r'=none from rr];exact c o3 H3 S3 (.d dz) t ((e1.trans e2).trans e3) s3 z3 q
  | some d =>
   obtain⟨r2,rfl,h2⟩:=rr;exact c o3 H3 S3 (.d d) r2 ((e1.trans e2).trans e3) s3 h2 q) w
def zpM(j:Nat)(dk dv:DM->DE):DSm:=fun En δ S M=>dv M δ S fun x S1=>asD x fun d=>zo j δ S1 fun y S2=>∃ a,y=.o (.ref a)/\dk M δ S2 fun z S3=>asD z fun k=>∃ D D',(a,D)∈M/\D.put k d=some D'/\D.len<1000/\En.nx δ S3 (zrr M a D')
theorem zte{E:XK}{EX:EXD}{j:Nat}{ty tv:TE}{dk dv:DM->DE}(hk:∀ M,REp (PhM M) ty (dk M))(hv:∀ M,REp (PhM M) tv (dv M)):RSm E EX (ztH (zoF j) ty tv) (zpM j dk dv):=fun h o0 H0 o H δ σ S M En D e0 fr he hs rm q c x =>
 hv M (h++ad M) o H δ σ S _ _ he hs q (fun o1 H1 S1 y v e1 s1 x1 d1=>by
  obtain⟨d,rfl,y1,ey,a,rfl,d2⟩:=zfR d1;have he1:=he.mono e1;obtain⟨v1,ev,hv1⟩:=he1.get j _ ey;have ev1:v1=.ref a:=hv1;subst ev1;refine⟨_,ev,hk M (h++ad M) o1 H1 δ σ S1 _ _ he1 s1 d2 (fun o2 H2 S2 z u e2 s2 z2 d3=>?_) ⟨h,rfl,rm.mono e1⟩⟩;obtain⟨k,rfl,D1,D2,mD,eD,hl,n⟩:=zfR d3;have e12:=e1.trans e2;have rm2:=rm.mono e12;have ma:a∈ad M:=List.mem_map.mpr ⟨_,mD,rfl⟩;obtain⟨w,pt,fin⟩:=(rm2.ct a D1 mD).put zao z2 (x1.mono e2) eD hl;have mh:a∈h++ad M:=List.mem_append_right _ ma;refine⟨a,_,rfl,pt,c.nx o2 _ δ S2 (zrr M a D2) σ ⟨(e0.trans e12).pre,fun b w' nb zb=>?_⟩ zgA ?_ ?_ (rm2.put mD fin) n⟩
  ·obtain⟨z1,z3⟩:=(e0.trans e12).kp b w' nb zb;exact⟨z1,by rw [zZ (fun z=>by rw [z,fr a ma] at zb; cases zb)]; exact z3⟩
  ·rw [zgA];exact(he1.mono e2).view (zgg mh)
  ·rw [zgA];exact s2.hidden mh) ⟨h,rfl,rm⟩
theorem zrS{t t':TS}{d:DS}(h:RS t d)(e:t'=t:=by rfl):RS t' d:=e▸h
end
end L2
namespace L2
open PySem PySem.Spec PySem.Calls PyProof.Rows
theorem ztI{P:Program}{w:World}{k:Key}{u:Value}(h:(zah P w).is k u=true):RelV (kV k) u:=by
 have h':zky k u=true:=h;cases k with
 | inl i =>
  have q:Value.isInt i u=true:=h';cases u <;> simp [Value.isInt] at q;rename_i j t;subst q;exact⟨t,rfl⟩
 | inr x =>
  have q:Value.isStrOf x u=true:=h';cases u <;> simp [Value.isStrOf] at q;rename_i j t;subst q;exact⟨t,rfl⟩
theorem zlq{P:Program}{w:World}{H:Hp}{h:Heap}{a:Addr}{ob:Obj}{m:List (Key×V)}(ok:HOk P w H h)(e:H a=some (.frz ob (.dK m))):(a == sysModules)=false/\m.length<=sizeLine/\∃ es ep vs,ob.data=.dict es ep/\KV m vs/\h.DictAt (zah P w) a vs ep:=by
 obtain⟨e1,hz,hne,vs,kv,o,es,ep,ho,r1,r2,r3⟩:=(show ObjOk P w H h a (.frz ob (.dK m)) from ok a _ e);rw [e1] at ho;cases ho;exact⟨hne,hz,es,ep,vs,r2,kv,_,es,e1,r1,r2,r3⟩
theorem KV.get{kvs:List (Key×V)}{vs:List (Key×Value)}(r:KV kvs vs):∀ {i:Nat} {p:Key×V},kvs[i]? = some p->∃ u,vs[i]? = some (p.1,u)/\RelV p.2 u:=by
 unfold KV at r;induction r with
 | nil=>intro i p e; simp at e
 | @cons p q ps qs h t ih =>
  intro i x e;cases i with
  | zero =>
   simp at e;subst e;exact⟨q.2,by simp [h.1],h.2⟩
  | succ i =>
   obtain⟨u,e1,e2⟩:=ih (i:=i) (p:=x) (by simpa using e);exact⟨u,by simpa using e1,e2⟩
def Iti(a:Addr)(ob:Obj)(m:List (Key×V)):It:=⟨fun i H=>i<m.length/\H a=some (.frz ob (.dK m)),fun i H x H'=>∃ p b,m[i]? = some p/\H b=none/\x=.ref b/\H'=upd H b (.tup [kV p.1,p.2]),fun i H=>m.length<=i/\H a=some (.frz ob (.dK m))⟩
def tnI(it a:Addr)(ob:Obj)(n:Nat)(i:Nat)(h:Heap):Prop:=∃ es ep ok ov,ob.data=.dict es ep/\IsItemIter h it a i n ep ok ov
theorem zhh:entryFor table "dict_itemiterator.__iter__" = some Builtin.«dict_keyiterator.__iter__» :=
 entryFor_alias (id':="dict_keyiterator.__iter__") (by kernel_rfl) rfl (by decide +kernel) (by kernel_rfl)
theorem zgS{prog:Program}{w:World}{A:Around}{E:Value->Shared->Prop}{s:Shared}{it d:Addr}{i n ep:Nat}{ok ov:Value}{Q:Value->Shared->Prop}(hit:IsItemIter s.heap it d i n ep ok ov)(h:Q (.ref it) s):wpAny (model prog w) A (pyIter (.ref it)) Q E s:=by
 have hT:s.TypeIs (.ref it) "dict_itemiterator":=⟨_,hit,rfl⟩;refine wpAny_pyIter_slot hT F.slot_dict_itemiterator_iter (wpAny_call_entry F.slot_dict_itemiterator_iter hT zhh ?_ (F.args_dict_itemiterator_iter_1 _));show wpAny _ _ (ret (.ref it)) _ _ s;exact wpAny_pure ⟨_,rfl,"dict_itemiterator",_,hT,F.slot_dict_itemiterator_next.lookup,h⟩
theorem zma{P:Program}{w:World}{K:W.Frag}{elts:List Expr}{n:Nat}{tpos:Pos}(a it:Addr)(ob:Obj)(m:List (Key×V)):Turn P w K (.Tuple elts n tpos) (Iti a ob m) [it] it (tnI it a ob m.length) where
 mem:=by simp
 obj:=fun i h ⟨_,_,_,_,_,st⟩ b hb=>by
  have e:b=it:=by simpa using hb
  subst e;exact⟨_,st,fun v z=>by cases z⟩
 keep:=fun i h h' ⟨es,ep,ok,ov,eo,st⟩ k=>⟨es,ep,ok,ov,eo,k it (by simp) _ st⟩
 item:=by
  intro X hP hw hK hc i zl s σ H E I hf st hg;subst hP hw hK;obtain⟨es,ep,ok,ov,eo,st⟩:=st;obtain⟨hi,ea⟩:=hg;obtain⟨hne,hz,es',ep',vs,eo',kv,da⟩:=zlq I.hok ea;rw [eo] at eo';cases eo';obtain⟨u,eu,ru⟩:=kv.get (List.getElem?_eq_getElem hi);have hl:vs.length=m.length:=kv.length.symm;refine wpAny_pyNext_items_item (knd:=zah X.prog X.w) (kvs:=vs) (by rw [hl]; exact st) da eu fun key h' hk st' t1 sz kp=>?_;refine⟨_,rfl,wpAny_letOwnedTupleGo_items (s:={ s with heap:=h' }) st' fun g' e2 b2=>?_⟩;have lt:it<s.heap.objs.size:=Heap.lt_size st;have t2:g'.get? s.heap.objs.size=some { cls:=.type "tuple",data:=.seq #[key,u] }:=(b2.2 _ (Nat.ne_of_gt lt)).trans t1;have neT:H s.heap.objs.size=none:=I.hok.fresh (Nat.le_refl _);rw [hl] at e2;refine⟨.ref s.heap.objs.size,upd H s.heap.objs.size (.tup [kV m[i].1,m[i].2]),I.turnLaid (ch:=[it]) (t':=s.toks) (fun b o nb q=>(b2.2 b fun z=>nb (by simp [z])).trans (kp b o (fun z=>nb (by simp [z])) q)) hf (Nat.le_refl _) ?_,rfl,
   ⟨m[i],_,List.getElem?_eq_getElem hi,neT,rfl,rfl⟩,⟨es,ep,_,_,eo,e2⟩,fun b hb=>?_⟩
  ·refine⟨⟨by show 2<=sizeLine; decide,_,t2,rfl⟩,[key,u],.cons (ztI hk) (.cons ru .nil),⟨_,t2,rfl,_,rfl⟩⟩
  ·rw [List.mem_singleton.mp hb,zZ (Nat.ne_of_lt lt)];exact(hf _ (by simp)).1
 done:=by
  intro X hP hw hK hc i zl s σ H E I hf st hg;subst hP hw hK;obtain⟨es,ep,ok,ov,eo,st⟩:=st;obtain⟨hi,ea⟩:=hg;obtain⟨hne,hz,es',ep',vs,eo',kv,da⟩:=zlq I.hok ea;rw [eo] at eo';cases eo';have hl:vs.length=m.length:=kv.length.symm;obtain⟨f0,f1,f2,f3,f4,f5⟩:=hf it (by simp);exact wpAny_pyNext_items_end (knd:=zah X.prog X.w) (kvs:=vs) (I.ok.hd hc) (by rw [hl]; exact st) da (List.getElem?_eq_none (by omega)) fun h' eb=>⟨rfl,I.turned (t':=s.toks) (fun b o hb e=>eb b o hb e) f0 f1 f3 f4 f5⟩
 self:=fun _ _ _ _ _ ⟨_,_,_,_,_,st⟩ h=>zgS st h
section
variable {X:Cx} {elts:List Expr} {n:Nat} {tpos apos cpos:Pos}
def zqB(te:TE):TI:=fun σ H R=>te σ H fun x H1=>∃ a ob m,x=.ref a/\H1 a=some (.frz ob (.dK m))/\R (Iti a ob m) H1
theorem zhZ{l:Expr}{te:TE}(hl:PE X l te)(hbase:attributeBase l "items" X.env (eval l X.env)=eval l X.env)(hline:(apos.endLine == cpos.line)=true):PI X (.Tuple elts n tpos) (.Call (.Attribute l "items" apos) [] [] cpos) (zqB te):=by
 intro zl s σ H R I h;refine wpAny_Call_method (T:="dict") (id:="dict.items") hbase rfl hline F.plainAttrs_dict F.slot_dict_items F.type_dict_items (thn (hl zl s σ H _ I h) fun v s1 ⟨x,H1,I1,r1,q1⟩=>?_);obtain⟨a,ob,m,e,ea,q⟩:=q1;subst e;cases r1;obtain⟨hne,hz,es,ep,vs,eo,kv,da⟩:=zlq I1.hok ea;have hl':vs.length=m.length:=kv.length.symm;have hm:=da.dictOf;refine⟨hm.typeIs,hm.mapOf.noDict,?_⟩;show wpAny _ _ (callWith cpos (.builtin "dict.items") [.ref a] [] []) _ _ s1;refine method_meetsIn F.slot_dict_items F.entry_dict_items rfl (PyProof.Rows.evalArgs_none ⟨rfl,hm.typeIs,F.args_dict_items_1 _,_,meets_dict_items (zah X.prog X.w) a hne,⟨vs,hm⟩,?_⟩);have da1:=da.push { cls:=.type "dict_items",data:=.fields #[.ref a] };refine wpAny_pyIter_items (s:={ s1 with heap:=s1.heap.push { cls:=.type "dict_items",data:=.fields #[.ref a] } }) (knd:=zah X.prog X.w) ⟨_,Heap.get?_push_size _ rfl,rfl,rfl⟩ da1 ?_;have I2:Inv X zl σ H1 { s1 with heap:=s1.heap.push { cls:=.type "dict_items",data:=.fields #[.ref a] } }:=I1.kept (t':=s1.toks) fun b o e=>Heap.get?_push_of_some _ e;refine⟨_,[_],_,_,H1,rfl,I2.kept (t':=s1.toks) fun b o e=>Heap.get?_push_of_some _ e,zma a _ ob m,⟨es,ep,_,_,eo,by rw [<- hl']; exact Heap.get?_push_size _ rfl⟩,fun b hb=>?_,q⟩;rw [List.mem_singleton.mp hb];exact I2.fpOk (Nat.le_refl _) (I2.hok.fresh (Nat.le_refl _))
end
def DD.itemsD(m:List (Key×PyData)):List PyData:=m.map fun p=>.tuple [kD p.1,p.2]
def zfI(e:DE):DI:=fun δ S R=>e δ S fun x S1=>∃ m,x=.d (.dict (DD.pairs (.k m)))/\R (DD.itemsD m) S1
theorem zso{H:Hp}{k:Key}:Has H (kD k) (kV k):=by
 cases k with
 | inl i=>exact zbr.mpr rfl
 | inr x=>exact zdD.mpr rfl
theorem HasM.get{H:Hp}:∀ {m:List (Key×PyData)} {m':List (Key×V)} {i:Nat} {p:Key×PyData},HasM H m m'->m[i]? = some p->∃ v,m'[i]? = some (p.1,v)/\Has H p.2 v
 | [],_,_,_,_,e=>by simp at e
 | q :: r,_,0,p,⟨v,t,e1,hv,l⟩,e=>by
  simp at e;subst e e1;exact⟨v,rfl,hv⟩
 | q :: r,_,i+1,p,⟨v,t,e1,hv,l⟩,e=>by
  subst e1;obtain⟨u,z1,z2⟩:=HasM.get (i:=i) l (by simpa using e);exact⟨u,by simpa using z1,z2⟩
theorem ziD{te:TE}{de:DE}(he':RE te de):RI (zqB te) (zfI de):=fun h o H δ σ S R Q he hs q c =>
 he' h o H δ σ S _ _ he hs q fun o1 H1 S1 x v e1 s1 x1 ⟨m,ex,d1⟩=>by
  subst ex;obtain⟨a,ob,m',rfl,ea,l⟩:=zgm.mp (show Has _ _ v from x1);have hl:=l.length;refine⟨a,ob,m',rfl,zao _ _ ea,c o1 H1 S1 _ _ e1 s1 ⟨fun i o2 H2 e2 hi=>⟨by simp [DD.itemsD] at hi; omega,zao _ _ (e2.vx _ _ ea)⟩,fun i d o2 H2 e2 hi=>?_,fun i d o2 H2 y H3 S2 e2 s2 hi yy=>?_⟩ d1⟩
  ·have:=(List.getElem?_eq_some_iff.mp hi).1;simp [DD.itemsD] at this;exact⟨by omega,zao _ _ (e2.vx _ _ ea)⟩
  ·obtain⟨p,b,ep,nb,ey,e3⟩:=yy;subst e3 ey;unfold DD.itemsD at hi;rw [List.getElem?_map] at hi;obtain⟨p2,e4,e5⟩:=Option.map_eq_some_iff.mp hi;obtain⟨u,z1,z2⟩:=l.get e4;rw [ep] at z1;cases z1;have sm:Same H2 (upd H2 b (.tup [kV p2.1,u])):=Same.laid nb;have fb:=s2.fresh nb;refine⟨sm,?_⟩;rw [<- e5];refine zaG.mpr ⟨b,_,rfl,zaq.mpr ⟨fb.1,fb.2,zam⟩,zH.mpr ⟨_,_,rfl,zso,zH.mpr ⟨_,_,rfl,?_,zS.mpr rfl⟩⟩⟩;exact Has.mono (zeQ sm) _ _ (Has.mono e2.vx _ _ z2)
end L2
namespace L2
open PySem PySem.Spec PyProof.Rows
section
section
variable {E:XK} {EX:EXD} {a b c d e f u:TS} {dt du:DS} {i:Nat}
theorem zrb(h:RS (zoA a b) dt)(hu:RS u du):RS (zoA a (zoA b u)) (zX dt du):=zrS (zr h hu)
end
end
end L2
namespace HT
open PySem PyProof.Rows
section
open PySem.SeqAt
open PySem.AutoSeq1 (wpAny_loadPart')
open PySem.MeetsSeq PySem.MeetsSeq2 PySem.MeetsSeq3
theorem lexLt_self:∀ ns:List Int,lexLt ns ns=false
 | []=>rfl
 | x :: xs=>by rw [lexLt_cons,if_pos rfl,lexLt_self xs]
end
end HT
namespace L2
open PySem PySem.Spec PyProof.Rows
end L2
namespace L2
open PySem PySem.Spec PySem.Calls PyProof.Rows
end L2
namespace HT
open PySem PyProof.Rows
theorem zn8:typeLookup (.type "tuple") "keys" = pure none:=am_miss_of_fast (by decide +kernel)
set_option maxRecDepth 8000 in
theorem zpJ{prog:Program}{w:World}{A:Around}{E:Value->Shared->Prop}{s:Shared}{a:Addr}{o:Obj}{xs:Array Value}{k:Nat}{Q:Option Value->Shared->Prop}
  (hx:s.heap.get? a=some o) (hc:o.cls=.type "tuple") (hdat:o.data=.seq xs k) (hd:o.dict=none) (hA:A.handled=none)
  (h:∀ h' tk,(∀ b ob,s.heap.get? b=some ob->h'.get? b=some ob)->Q none { s with heap:=h',toks:=tk }) :
  wpAny (model prog w) A (getAttr? (.ref a) "keys") Q E s:=by
 obtain⟨c,dct,dat,sl⟩:=o;simp only at hc hdat hd;subst hc hdat hd;obtain⟨hp,g,d,tk,os⟩:=s;have hT:∀ tk',(⟨hp,g,d,tk',os⟩:Shared).TypeIs (.ref a) "tuple":=fun _=>⟨_,hx,rfl⟩;have f1:=sub_AttributeError;have f3:=F.slot_tuple_getattribute.lookup;have f4:=F.slot_tuple_getattribute.bind (.ref a);have f5:=am_tuple_getattr_none;have hname:(["__module__","__name__","__qualname__","__doc__","__annotations__"]:List Str).contains ("keys":Str)=false:=by decide +kernel
 unfold getAttr? getAttrBy? getAttrBy
 repeat (any_goals (first | assumption | exact hT _ | ((with_reducible show wpAny _ _ (call (Value.builtin "tuple.__getattribute__") _ _) _ _ _); refine call_meets F.slot_tuple_getattribute (hT _) am_entry_tuple_getattribute (F.args_tuple_getattribute_2 _ _) (meets_getattribute_miss_tuple a xs k sl "keys" _ zn8 hname) ⟨hx,hA,fun h' tk' e hx'=>?_⟩) | wp_step))
 obtain⟨t',u',he⟩:=hx'.there;show wpAny _ _ (getattributeRaised _ _ _ _ _ _ _) _ _ _;unfold getattributeRaised
 repeat (any_goals (first | assumption | wp_step))
 exact h _ _ hx'.keeps
theorem zjQ:entryFor table "dict.update.loop" = some Builtin.«dict.update.loop»:=entryFor_of_tree (by kernel_rfl)
theorem zea:plainId "dict.update.loop" = true:=by decide +kernel
section
variable {prog:Program} {w:World} {K:Type} [DecidableEq K] {knd:PySem.KeyKind prog w K}
def zgC(acc kvs:List (K×Value)):List (K×Value):=kvs.foldl (fun a p=>stored a p.1 p.2) acc
def PairsAt(knd:PySem.KeyKind prog w K)(ap:List Addr)(h:Heap)(vs:List Value)(kvs:List (K×Value)):Prop:=Paired (fun v kv=>∃ b key,v=Value.ref b/\b∉ap/\knd.is kv.1 key=true/\IsTup h b #[key,kv.2]) vs kvs
theorem PairsAt.keeps{ap:List Addr}{h h':Heap}{vs:List Value}{kvs:List (K×Value)}(r:PairsAt knd ap h vs kvs)(k:∀ b o,b∉ap->h.get? b=some o->h'.get? b=some o):PairsAt knd ap h' vs kvs:=by
 unfold PairsAt at *;induction r with
 | nil=>exact .nil
 | cons x t ih =>
  obtain⟨b,key,e,nb,hk,o,g,c⟩:=x;exact .cons ⟨b,key,e,nb,hk,o,k b o nb g,c⟩ ih
theorem zlB(kvs:List (K×Value))(k:K)(v:Value):(stored kvs k v).length<=kvs.length+1:=by
 unfold stored;split <;> simp
theorem zev{A:Around}{R:Result->Shared->Prop}{I S:Addr}{fp wr:List Addr}{n:Nat}{P:Nat->Value->Prop}{St:Nat->Heap->Prop}{items:List Value}(W:Walks prog w A.in1 I fp wr n P St)(hSf:S∉fp)(hP:∀ i v,P i v->items[i]? = some v):
  ∀ (kvs:List (K×Value)) (i:Nat) (s:Shared) (acc:List (K×Value)),kvs.length+i=n->St i s.heap->s.heap.DictOf knd S acc->PairsAt knd (S :: wr) s.heap (items.drop i) kvs->acc.length+kvs.length<=1000 ->
   (∀ h' tk,h'.DictOf knd S (zgC acc kvs)->(∀ b o,b∉S :: wr->s.heap.get? b=some o->h'.get? b=some o)->R (.ok (.ret .none)) { s with heap:=h',toks:=tk }) ->
   codeAny (model prog w) A (.builtin "dict.update.loop" ⟨[.ref S,.ref I,rawInt i,.none],[]⟩) R s:=by
 have hSw:S∉wr:=fun h=>hSf (W.sub _ h);intro kvs;induction kvs with
 | nil =>
  intro i s acc hn hst hS hp hl hR;have hi:i=n:=by simpa using hn
  subst hi;refine codeAny_builtin zjQ ?_;rw [Around.under_plainId zea _];show wpAny _ A.in1 (pyNext (.ref I) >>= _) _ _ s;refine wpAny_bind (W.done s _ _ hst fun h' tk hm=>?_);show wpAny _ A.in1 (Builtin.Dict.addKeywords S [] >>= _) _ _ _;refine wpAny_bind (wpAny_pure (wpAny_pure (hR h' tk ?_ fun b o nb e=>hm b o (fun z=>nb (List.mem_cons_of_mem _ z)) e)));obtain⟨o,es,ep,ho,r⟩:=hS;exact⟨o,es,ep,hm S _ hSw ho,r⟩
 | cons kv kvs ih =>
  intro i s acc hn hst hS hp hl hR;have hlt:i<n:=by rw [List.length_cons] at hn; omega
  refine codeAny_builtin zjQ ?_;rw [Around.under_plainId zea _];show wpAny _ A.in1 (pyNext (.ref I) >>= _) _ _ s;refine wpAny_bind (W.item i s _ _ hlt hst fun v h' tk hPv hst' hm=>?_);have ev:=hP i v hPv;have ed:items.drop i=v :: items.drop (i+1):=by
   obtain⟨hl',rfl⟩:=List.getElem?_eq_some_iff.mp ev;exact List.drop_eq_getElem_cons hl'
  rw [ed] at hp;have hp':=hp.keeps (h':=h') fun b o nb e=>hm b o (fun z=>nb (List.mem_cons_of_mem _ z)) e;unfold PairsAt at hp';cases hp' with
  | cons x t =>
   obtain⟨b,key,rfl,nb,hk,⟨cls,dd,data,sl⟩,ho,hc,m,hd⟩:=x;simp only at hc hd;subst hc hd;have hS':h'.DictOf knd S acc:=by
    obtain⟨o,es,ep,ho,r⟩:=hS;exact⟨o,es,ep,hm S _ hSw ho,r⟩
   have hT:({ s with heap:=h',toks:=tk }:Shared).TypeIs (.ref b) "tuple":=⟨_,ho,rfl⟩;dsimp only;refine wpAny_bind (wpAny_holding (wpAny_bind (wpAny_tryCatch ?_)));unfold Builtin.Dict.pairItems;refine wpAny_bind (wpAny_typeOf hT ?_);rw [if_pos (by decide)];have hz:acc.length<=sizeLine:=by rw [List.length_cons] at hl; rw [sizeLine_eq]; omega
   have hset:∀ (Q:Unit->Shared->Prop) (E:Value->Shared->Prop),(∀ h2,h2.DictOf knd S (stored acc kv.1 kv.2)->Heap.SameBut S h' h2->Q () { s with heap:=h2,toks:=tk+1 })->wpAny (model prog w) A.in1 (dictSet S key kv.2) Q E { s with heap:=h',toks:=tk } :=
    fun Q E hQ=>wpAny_dictSet_pairs (s:={ s with heap:=h',toks:=tk }) hk hS' hQ hz
   wp_walk using PySem.AutoSeq1.wpAny_loadPart' ho,hset
   intro h2 hD hs2
   wp_walk
   have hc:((i:Int)+1)=((i+1:Nat):Int):=by push_cast; rfl
   rw [hc];have nS:∀ {c:Addr},c∈fp->c≠S:=fun m z=>hSf (z▸m);refine⟨plainId_quiet zea _,ih (i+1) _ (stored acc kv.1 kv.2) (by rw [List.length_cons] at hn; omega) (W.frame _ _ _ hst' fun c m o e=>?_) hD (PairsAt.keeps t fun c o nc e=>?_) ?_ fun h3 tk3 hD3 k3=>hR h3 tk3 hD3 fun c o nc e=>k3 c o nc ?_⟩
   ·rw [hs2.2 c (nS m)]; exact e
   ·rw [hs2.2 c (fun z=>nc (by rw [z]; exact List.mem_cons_self))]; exact e
   ·have:=zlB acc kv.1 kv.2;rw [List.length_cons] at hl;omega
   ·show h2.get? c=some o;rw [hs2.2 c (fun z=>nc (by rw [z]; exact List.mem_cons_self))];exact hm c o (fun z=>nc (List.mem_cons_of_mem _ z)) e
theorem call_dictP{A:Around}{E:Value->Shared->Prop}{s:Shared}{p:Addr}{op:Obj}{items:Array Value}{nn:Nat}{kvs:List (K×Value)}{Q:Value->Shared->Prop}(hp:s.heap.get? p=some op)(hc:op.cls=.type "tuple")(hdat:op.data=.seq items nn)(hd:op.dict=none)
  (hh:A.handled=none) (hpr:∀ ap:List Addr,(∀ a∈ap,s.heap.objs.size<=a)->PairsAt knd ap s.heap items.toList kvs) (hk:kvs.length=items.size) (hl:kvs.length<=1000)
  (h:∀ h' tk,h'.DictOf knd s.heap.objs.size (zgC [] kvs)->(∀ b o,s.heap.get? b=some o->h'.get? b=some o)->Q (.ref s.heap.objs.size) { s with heap:=h',toks:=tk }) :
  wpAny (model prog w) A (call (.type "dict") [.ref p]) Q E s:=by
 refine callType_codes (Q₁:=fun obj s₁=>obj=.ref s.heap.objs.size/\s₁ = { s with heap:=s.heap.push { cls:=.type "dict",data:=.dict #[] } }) PySem.F.kt_called_dict (PySem.F.kt_typeCall_dict_1 _) PySem.F.entry_dict_init (kt_code_dict_new _ ⟨rfl,rfl⟩) ?_;rintro obj s₁ ⟨rfl,rfl⟩;have hnew:(s.heap.push { cls:=.type "dict",data:=.dict #[] }).DictOf knd s.heap.objs.size []:=Heap.DictOf.new s.heap;have hp1:(s.heap.push { cls:=.type "dict",data:=.dict #[] }).get? p=some op:=Heap.get?_push_of_some _ hp;have hT:({ s with heap:=s.heap.push { cls:=.type "dict",data:=.dict #[] } }:Shared).TypeIs (.ref p) "tuple":=⟨_,hp1,hc⟩;have plt:=Heap.lt_size hp;refine⟨hnew.typeIs,PySem.F.args_dict_init_2 _ _,?_⟩;unfold Builtin.«dict.__init__»;refine wpAny_bind ?_;unfold Builtin.Dict.selfAndRest;refine wpAny_bind (wpAny_notOrdered_dict hnew.typeIs ?_);show wpAny _ _ (pure (s.heap.objs.size,[Value.ref p])) _ _ _;refine wpAny_pure ?_;show wpAny _ _ (Builtin.Dict.updateFrom "dict.__init__" s.heap.objs.size (.ref p) [] .none) _ _ _;unfold Builtin.Dict.updateFrom;refine wpAny_bind (wpAny_typeOf hT ?_);rw [if_pos (by decide)];refine wpAny_bind (zpJ (A:=A.in1.in1) hp1 hc hdat hd hh fun h2 tk2 k2=>?_);rw [if_pos (show (none:Option Value).isNone=true from rfl)];refine wpAny_bind (wpAny_rule ?_);have hp2:=k2 _ _ hp1;have ht2:h2.IsTuple p items:=⟨_,hp2,hc,nn,hdat⟩;refine wpAny_bind (wpAny_pyIter_tuple (s:={ s with heap:=h2,toks:=tk2 }) ht2 ?_);have g0:∃ o,h2.get? s.heap.objs.size=some o:=by
  obtain⟨o,es,ep,ho,r⟩:=id hnew;exact⟨o,k2 _ _ ho⟩
 obtain⟨o0,g0⟩:=g0;have lt2:s.heap.objs.size<h2.objs.size:=Heap.lt_size g0;have plt2:p<h2.objs.size:=Heap.lt_size hp2;have hS:(h2.push { cls:=.type "tuple_iterator",data:=.fields #[.ref p,.int 0 0] }).DictOf knd s.heap.objs.size []:=by
  obtain⟨o,es,ep,ho,r⟩:=hnew;exact⟨o,es,ep,Heap.get?_push_of_some _ (k2 _ _ ho),r⟩
 refine wpAny_pure ⟨plainId_quiet zea _,?_⟩;refine zev (knd:=knd) (A:=A.in1) (items:=items.toList) (Walks.tuple (A:=A.in1.in1) hh h2.objs.size p (Nat.ne_of_lt plt2) items) ?_ ?_ kvs 0 _ [] ?_ ?_ hS ?_ ?_ ?_
 ·simp only [List.mem_cons,List.not_mem_nil,or_false,not_or];exact⟨Nat.ne_of_lt lt2,Nat.ne_of_gt plt⟩
 ·intro i v e;rw [Array.getElem?_toList];exact e
 ·omega
 ·exact⟨⟨_,Heap.get?_push_size _ rfl,rfl,rfl⟩,ht2.at fun o e=>Heap.get?_push_of_some _ e⟩
 ·rw [List.drop_zero];refine PairsAt.keeps (hpr _ fun a m=>?_) fun b o nb e=>Heap.get?_push_of_some _ (k2 _ _ (Heap.get?_push_of_some _ e));simp only [List.mem_cons,List.not_mem_nil,or_false] at m;rcases m with rfl | rfl
  ·exact Nat.le_refl _
  ·exact Nat.le_of_lt lt2
 ·simpa using hl
 ·intro h3 tk3 hD k3;refine⟨rfl,h h3 tk3 hD fun b o e=>k3 b o (fun m=>?_) (Heap.get?_push_of_some _ (k2 _ _ (Heap.get?_push_of_some _ e)))⟩;have:=Heap.lt_size e;simp only [List.mem_cons,List.not_mem_nil,or_false] at m;rcases m with z | z
  ·rw [z] at this;exact absurd this (Nat.lt_irrefl _)
  ·rw [z] at this;exact absurd (Nat.lt_trans this lt2) (Nat.lt_irrefl _)
end
end HT
namespace L2
open PySem PySem.Spec PySem.Calls PyProof.Rows
def zfP(kvs:List (Key×V)):List (Key×V):=kvs.foldl (fun a p=>zfu a p.1 p.2) []
def PrV(H:Hp):List V->List (Key×V)->Prop:=Paired fun v kv=>∃ b,v=.ref b/\H b=some (.tup [kV kv.1,kv.2])
def zqC:List V->Hp->VK->Prop:=fun xs H Q=>∃ p ws kvs,xs=[.ref p]/\H p=some (.tup ws)/\PrV H ws kvs/\kvs.length<=1000/\∀ l,H l=none->Q (.ref l) (upd H l (.dK (zfP kvs)))
theorem zoN(a:List (Key×V))(k:Key)(v:V):(zfu a k v).length<=a.length+1:=by
 unfold zfu;split <;> simp
theorem zfB:∀ (kvs acc:List (Key×V)),(kvs.foldl (fun a p=>zfu a p.1 p.2) acc).length<=acc.length+kvs.length
 | [],acc=>by simp
 | p :: r,acc=>by
  rw [List.foldl_cons,List.length_cons];have h1:=zfB r (zfu acc p.1 p.2);have h2:=zoN acc p.1 p.2;omega
theorem zmu{kvs:List (Key×V)}{vs:List (Key×Value)}(r:KV kvs vs):∀ {acc:List (Key×V)} {acc':List (Key×Value)},KV acc acc'->KV (kvs.foldl (fun a p=>zfu a p.1 p.2) acc) (vs.foldl (fun a p=>stored a p.1 p.2) acc'):=by
 unfold KV at r;induction r with
 | nil=>intro acc acc' h; exact h
 | @cons p q ps qs h t ih =>
  intro acc acc' ha;rw [List.foldl_cons,List.foldl_cons];refine ih ?_;rw [<- h.1];exact ha.put p.1 h.2
section
variable {X:Cx}
theorem zkL{zl:List (Addr×Obj)}{σ:St}{H:Hp}{s:Shared}(I:Inv X zl σ H s):∀ {ws:List V} {kvs:List (Key×V)} {its:List Value},PrV H ws kvs->Vals ws its ->
  ∃ kvs':List (Key×Value),KV kvs kvs'/\∀ ap:List Addr,(∀ a∈ap,s.heap.objs.size<=a)->HT.PairsAt (zah X.prog X.w) ap s.heap its kvs':=by
 intro ws kvs its pr;unfold PrV at pr;induction pr generalizing its with
 | nil =>
  intro rv;cases rv;exact⟨[],.nil,fun _ _=>.nil⟩
 | @cons v kv ws kvs h t ih =>
  intro rv;cases rv with
  | cons r rv =>
   obtain⟨b,rfl,hb⟩:=h;cases r;obtain⟨kvs',hk,hp⟩:=ih rv;obtain⟨_,is,r2,o,g,c,n,e⟩:=(show ObjOk X.prog X.w H s.heap b (.tup [kV kv.1,kv.2]) from I.hok b _ hb);cases r2 with
   | cons ra r2=>cases r2 with
    | @cons _ u2 _ _ rb r2 =>
     cases r2;refine⟨(kv.1,u2) :: kvs',.cons ⟨rfl,rb⟩ hk,fun ap ha=>.cons ⟨b,_,rfl,fun m=>?_,zn5 ra,o,g,c,n,e⟩ (hp ap ha)⟩;exact absurd (Nat.lt_of_lt_of_le (Heap.lt_size g) (ha b m)) (Nat.lt_irrefl _)
theorem zgv(hc:X.calm=true):CallR X (.type "dict") zqC:=by
 intro zl s σ H xs us Q I r h;obtain⟨p,ws,kvs,rfl,hp,pr,hl,q⟩:=h;obtain⟨u,rfl,rx⟩:=vals1 r;cases rx;obtain⟨⟨hz,o1,g1,d1⟩,its,rv,o2,g2,c2,n2,e2⟩:=(show ObjOk X.prog X.w H s.heap p (.tup ws) from I.hok p _ hp);rw [g1] at g2;cases g2;obtain⟨kvs',hkv,hpa⟩:=zkL I pr rv;have l1:kvs.length=kvs'.length:=Paired.length hkv;have l2:ws.length=kvs.length:=Paired.length pr;have l3:=rv.length;refine HT.call_dictP (knd:=zah X.prog X.w) (items:=its.toArray) (kvs:=kvs') g1 c2 e2 d1 (I.ok.hd hc) (by simpa using hpa) (by simp; omega) (by omega) fun h' tk hD kp=>?_;have ln:=zfB kvs [];exact⟨.ref s.heap.objs.size,_,I.laid (t':=tk) kp (Nat.le_refl _) (show ObjOk X.prog X.w _ h' _ (.dK (zfP kvs)) from⟨by unfold zfP; rw [sizeLine_eq]; simp at ln; omega,beq_eq_false_iff_ne.mpr (Ne.symm (Nat.ne_of_lt I.big)),_,zmu hkv .nil,hD⟩),rfl,q _ (I.hok.fresh (Nat.le_refl _))⟩
end
def zjZ(kvs:List (Key×PyData)):List (Key×PyData):=kvs.foldl (fun m p=>ptA m p.1 p.2) []
theorem zgV{H:Hp}:∀ {kvs:List (Key×PyData)} {kv':List (Key×V)},HasM H kvs kv'->∀ {acc:List (Key×PyData)} {acc':List (Key×V)},HasM H acc acc'->HasM H (kvs.foldl (fun m p=>ptA m p.1 p.2) acc) (kv'.foldl (fun a p=>zfu a p.1 p.2) acc')
 | [],_,q,acc,acc',ha=>by
  have e:_=[]:=q;subst e;exact ha
 | p :: r,_,⟨v,t,e,q,l⟩,acc,acc',ha=>by
  subst e;rw [List.foldl_cons,List.foldl_cons];exact zgV l (ha.put q)
theorem zmU{h o:List Addr}{H:Hp}:∀ {kvs:List (Key×PyData)} {ws:List V},HasL (vx h o H) (kvs.map fun p=>PyData.tuple [kD p.1,p.2]) ws->∃ kv',PrV H ws kv'/\HasM (vx h o H) kvs kv'
 | [],ws,l=>by
  have e:=zS.mp l;subst e;exact⟨[],.nil,rfl⟩
 | p :: r,ws,l=>by
  obtain⟨v,t,rfl,hv,l⟩:=zH.mp l;obtain⟨kv',pr,hm⟩:=zmU l;obtain⟨b,vs,rfl,eb,lb⟩:=zaG.mp hv;obtain⟨v1,r1,rfl,h1,k1⟩:=zH.mp lb;obtain⟨v2,r2,rfl,h2,k2⟩:=zH.mp k1;have e3:=zS.mp k2;subst e3;have e4:v1=kV p.1:=by
   cases hp:p.1 with
   | inl i=>rw [hp] at h1; exact zbr.mp h1
   | inr x=>rw [hp] at h1; exact zdD.mp h1
  subst e4;exact⟨(p.1,v2) :: kv',.cons ⟨b,rfl,zao _ _ eb⟩ pr,⟨v2,kv',rfl,h2,hm⟩⟩
def zlx(da:DA):DE:=fun δ S R=>da δ S fun xs S1=>arg1 xs fun x=>asT x fun ds=>∃ kvs:List (Key×PyData),ds=kvs.map (fun p=>.tuple [kD p.1,p.2])/\kvs.length<=1000/\R (.d (.dict (DD.pairs (.k (zjZ kvs))))) S1
theorem zoY{ta:TA}{da:DA}(ha:RA ta da):RE (zt0 (tCB zqC ta)) (zlx da):=fun h o H δ σ S R Q he hs q c =>
 ha h o H δ σ S _ _ he hs q fun o1 H1 S1 xs vs e1 s1 x1 d0=>by
  obtain⟨x,rfl,d1⟩:=zbj d0;replace d1:=zhz d1;obtain⟨ds,rfl,kvs,rfl,hl,d2⟩:=d1;obtain⟨v,rfl,hv⟩:=hxs1 x1;obtain⟨a,ws,rfl,ea,l⟩:=zeC hv;obtain⟨kv',pr,hm⟩:=zmU l;have ln:kv'.length<=1000:=by rw [hm.length]; exact hl
  refine⟨a,ws,kv',rfl,ea,pr,ln,fun p hp=>⟨p,_,rfl,zam,fun ob=>?_⟩⟩;rw [zh6];refine(c.pre e1) o1 _ S1 (.d (.dict (DD.pairs (.k (zjZ kvs))))) _ (Ex.of_same (Same.laid hp)) (s1.same (Same.laid hp)) ?_ d2;show Has _ _ _;exact zgm.mpr ⟨p,ob,zfP kv',rfl,s1.laid hp,HasM.mono (zeQ (Same.laid hp)) (zgV hm rfl)⟩
end L2
namespace HT
open PySem PyProof.Rows
theorem zlI:typeLookup (.type "list") "keys" = pure none:=am_miss_of_fast (by decide +kernel)
set_option maxRecDepth 8000 in
theorem zoy{prog:Program}{w:World}{A:Around}{E:Value->Shared->Prop}{s:Shared}{a:Addr}{o:Obj}{xs:Array Value}{k:Nat}{Q:Option Value->Shared->Prop}
  (hx:s.heap.get? a=some o) (hc:o.cls=.type "list") (hdat:o.data=.seq xs k) (hd:o.dict=none) (hA:A.handled=none)
  (h:∀ h' tk,(∀ b ob,s.heap.get? b=some ob->h'.get? b=some ob)->Q none { s with heap:=h',toks:=tk }) :
  wpAny (model prog w) A (getAttr? (.ref a) "keys") Q E s:=by
 obtain⟨c,dct,dat,sl⟩:=o;simp only at hc hdat hd;subst hc hdat hd;obtain⟨hp,g,d,tk,os⟩:=s;have hT:∀ tk',(⟨hp,g,d,tk',os⟩:Shared).TypeIs (.ref a) "list":=fun _=>⟨_,hx,rfl⟩;have f1:=sub_AttributeError;have f3:=F.slot_list_getattribute.lookup;have f4:=F.slot_list_getattribute.bind (.ref a);have f5:=am_list_getattr_none;have hname:(["__module__","__name__","__qualname__","__doc__","__annotations__"]:List Str).contains ("keys":Str)=false:=by decide +kernel
 unfold getAttr? getAttrBy? getAttrBy
 repeat (any_goals (first | assumption | exact hT _ | ((with_reducible show wpAny _ _ (call (Value.builtin "list.__getattribute__") _ _) _ _ _); refine call_meets F.slot_list_getattribute (hT _) am_entry_list_getattribute (F.args_list_getattribute_2 _ _) (meets_getattribute_miss_list a xs k sl "keys" _ zlI hname) ⟨hx,hA,fun h' tk' e hx'=>?_⟩) | wp_step))
 obtain⟨t',u',he⟩:=hx'.there;show wpAny _ _ (getattributeRaised _ _ _ _ _ _ _) _ _ _;unfold getattributeRaised
 repeat (any_goals (first | assumption | wp_step))
 exact h _ _ hx'.keeps
section
variable {prog:Program} {w:World} {K:Type} [DecidableEq K] {knd:PySem.KeyKind prog w K}
theorem call_dictPL{A:Around}{E:Value->Shared->Prop}{s:Shared}{p:Addr}{op:Obj}{items:Array Value}{nn:Nat}{kvs:List (K×Value)}{Q:Value->Shared->Prop}(hp:s.heap.get? p=some op)(hc:op.cls=.type "list")(hdat:op.data=.seq items nn)(hd:op.dict=none)
  (hh:A.handled=none) (hpr:∀ ap:List Addr,(∀ a∈ap,s.heap.objs.size<=a)->PairsAt knd ap s.heap items.toList kvs) (hk:kvs.length=items.size) (hl:kvs.length<=1000)
  (h:∀ h' tk,h'.DictOf knd s.heap.objs.size (zgC [] kvs)->(∀ b o,s.heap.get? b=some o->h'.get? b=some o)->Q (.ref s.heap.objs.size) { s with heap:=h',toks:=tk }) :
  wpAny (model prog w) A (call (.type "dict") [.ref p]) Q E s:=by
 refine callType_codes (Q₁:=fun obj s₁=>obj=.ref s.heap.objs.size/\s₁ = { s with heap:=s.heap.push { cls:=.type "dict",data:=.dict #[] } }) PySem.F.kt_called_dict (PySem.F.kt_typeCall_dict_1 _) PySem.F.entry_dict_init (kt_code_dict_new _ ⟨rfl,rfl⟩) ?_;rintro obj s₁ ⟨rfl,rfl⟩;have hnew:(s.heap.push { cls:=.type "dict",data:=.dict #[] }).DictOf knd s.heap.objs.size []:=Heap.DictOf.new s.heap;have hp1:(s.heap.push { cls:=.type "dict",data:=.dict #[] }).get? p=some op:=Heap.get?_push_of_some _ hp;have hT:({ s with heap:=s.heap.push { cls:=.type "dict",data:=.dict #[] } }:Shared).TypeIs (.ref p) "list":=⟨_,hp1,hc⟩;have plt:=Heap.lt_size hp;refine⟨hnew.typeIs,PySem.F.args_dict_init_2 _ _,?_⟩;unfold Builtin.«dict.__init__»;refine wpAny_bind ?_;unfold Builtin.Dict.selfAndRest;refine wpAny_bind (wpAny_notOrdered_dict hnew.typeIs ?_);show wpAny _ _ (pure (s.heap.objs.size,[Value.ref p])) _ _ _;refine wpAny_pure ?_;show wpAny _ _ (Builtin.Dict.updateFrom "dict.__init__" s.heap.objs.size (.ref p) [] .none) _ _ _;unfold Builtin.Dict.updateFrom;refine wpAny_bind (wpAny_typeOf hT ?_);rw [if_pos (by decide)];refine wpAny_bind (zoy (A:=A.in1.in1) hp1 hc hdat hd hh fun h2 tk2 k2=>?_);rw [if_pos (show (none:Option Value).isNone=true from rfl)];refine wpAny_bind (wpAny_rule ?_);have hp2:=k2 _ _ hp1;have ht2:h2.IsList p items:=⟨_,hp2,hc,nn,hdat⟩;refine wpAny_bind (wpAny_pyIter_list (s:={ s with heap:=h2,toks:=tk2 }) ht2 ?_);have g0:∃ o,h2.get? s.heap.objs.size=some o:=by
  obtain⟨o,es,ep,ho,r⟩:=id hnew;exact⟨o,k2 _ _ ho⟩
 obtain⟨o0,g0⟩:=g0;have lt2:s.heap.objs.size<h2.objs.size:=Heap.lt_size g0;have plt2:p<h2.objs.size:=Heap.lt_size hp2;have hS:(h2.push { cls:=.type "list_iterator",data:=.fields #[.ref p,.int 0 0] }).DictOf knd s.heap.objs.size []:=by
  obtain⟨o,es,ep,ho,r⟩:=hnew;exact⟨o,es,ep,Heap.get?_push_of_some _ (k2 _ _ ho),r⟩
 refine wpAny_pure ⟨plainId_quiet zea _,?_⟩;refine zev (knd:=knd) (A:=A.in1) (items:=items.toList) (Walks.list (A:=A.in1.in1) hh h2.objs.size p (Nat.ne_of_lt plt2) items) ?_ ?_ kvs 0 _ [] ?_ ?_ hS ?_ ?_ ?_
 ·simp only [List.mem_cons,List.not_mem_nil,or_false,not_or];exact⟨Nat.ne_of_lt lt2,Nat.ne_of_gt plt⟩
 ·intro i v e;rw [Array.getElem?_toList];exact e
 ·omega
 ·exact⟨⟨_,Heap.get?_push_size _ rfl,rfl,rfl⟩,ht2.at fun o e=>Heap.get?_push_of_some _ e⟩
 ·rw [List.drop_zero];refine PairsAt.keeps (hpr _ fun a m=>?_) fun b o nb e=>Heap.get?_push_of_some _ (k2 _ _ (Heap.get?_push_of_some _ e));simp only [List.mem_cons,List.not_mem_nil,or_false] at m;rcases m with rfl | rfl
  ·exact Nat.le_refl _
  ·exact Nat.le_of_lt lt2
 ·simpa using hl
 ·intro h3 tk3 hD k3;refine⟨rfl,h h3 tk3 hD fun b o e=>k3 b o (fun m=>?_) (Heap.get?_push_of_some _ (k2 _ _ (Heap.get?_push_of_some _ e)))⟩;have:=Heap.lt_size e;simp only [List.mem_cons,List.not_mem_nil,or_false] at m;rcases m with z | z
  ·rw [z] at this;exact absurd this (Nat.lt_irrefl _)
  ·rw [z] at this;exact absurd (Nat.lt_trans this lt2) (Nat.lt_irrefl _)
end
end HT
namespace L2
open PySem PySem.Spec PySem.Calls PyProof.Rows
def znT:List V->Hp->VK->Prop:=fun xs H Q=>∃ p ws kvs,xs=[.ref p]/\H p=some (.lst ws)/\PrV H ws kvs/\kvs.length<=1000/\∀ l,H l=none->Q (.ref l) (upd H l (.dK (zfP kvs)))
theorem zcc{X:Cx}(hc:X.calm=true):CallR X (.type "dict") znT:=by
 intro zl s σ H xs us Q I r h;obtain⟨p,ws,kvs,rfl,hp,pr,hl,q⟩:=h;obtain⟨u,rfl,rx⟩:=vals1 r;cases rx;obtain⟨hz,its,n,rv,g1⟩:=(show ObjOk X.prog X.w H s.heap p (.lst ws) from I.hok p _ hp);obtain⟨kvs',hkv,hpa⟩:=zkL I pr rv;have l1:kvs.length=kvs'.length:=Paired.length hkv;have l2:ws.length=kvs.length:=Paired.length pr;have l3:=rv.length;refine HT.call_dictPL (knd:=zah X.prog X.w) (items:=its.toArray) (kvs:=kvs') g1 rfl rfl rfl (I.ok.hd hc) (by simpa using hpa) (by simp; omega) (by omega) fun h' tk hD kp=>?_;have ln:=zfB kvs [];exact⟨.ref s.heap.objs.size,_,I.laid (t':=tk) kp (Nat.le_refl _) (show ObjOk X.prog X.w _ h' _ (.dK (zfP kvs)) from⟨by unfold zfP; rw [sizeLine_eq]; simp at ln; omega,beq_eq_false_iff_ne.mpr (Ne.symm (Nat.ne_of_lt I.big)),_,zmu hkv .nil,hD⟩),rfl,q _ (I.hok.fresh (Nat.le_refl _))⟩
def zft(da:DA):DE:=fun δ S R=>da δ S fun xs S1=>arg1 xs fun x=>∃ kvs:List (Key×PyData),x=.d (.list (kvs.map fun p=>.tuple [kD p.1,p.2]))/\kvs.length<=1000/\R (.d (.dict (DD.pairs (.k (zjZ kvs))))) S1
theorem zgt{ta:TA}{da:DA}(ha:RA ta da):RE (zt0 (tCB znT ta)) (zft da):=fun h o H δ σ S R Q he hs q c =>
 ha h o H δ σ S _ _ he hs q fun o1 H1 S1 xs vs e1 s1 x1 d0=>by
  obtain⟨x,rfl,kvs,rfl,hl,d2⟩:=zbj d0;obtain⟨v,rfl,hv⟩:=hxs1 x1;obtain⟨a,ws,rfl,ea,l⟩:=zbx.mp (show Has (vx h o1 H1) _ _ from hv);obtain⟨kv',pr,hm⟩:=zmU l;have ln:kv'.length<=1000:=by rw [hm.length]; exact hl
  refine⟨a,ws,kv',rfl,zao _ _ ea,pr,ln,fun p hp=>⟨p,_,rfl,zam,fun ob=>?_⟩⟩;rw [zh6];refine(c.pre e1) o1 _ S1 (.d (.dict (DD.pairs (.k (zjZ kvs))))) _ (Ex.of_same (Same.laid hp)) (s1.same (Same.laid hp)) ?_ d2;show Has _ _ _;exact zgm.mpr ⟨p,ob,zfP kv',rfl,s1.laid hp,HasM.mono (zeQ (Same.laid hp)) (zgV hm rfl)⟩
end L2
namespace L2
open PySem PySem.Spec PyProof.Rows
section
theorem zoO{k v:Int}:RE (zt0 (ztk [(tC (.int k),tC (.int v))])) (dC (.dict [(.int k,.int v)])):=fun h o H δ σ S R Q he hs q c p hp=>by
 refine⟨zam,[(Sum.inl k,.int v)],rfl,by simp,p,zgF [] [(Sum.inl k,.int v)],rfl,zam,fun ob=>?_⟩;rw [zh6,zh6];refine c o _ S (.d (.dict (DD.pairs (.k [(Sum.inl k,.int v)])))) _ (Ex.of_same (Same.laid hp)) (hs.same (Same.laid hp)) ?_ q;show Has _ _ _;exact zgm.mpr ⟨p,ob,zgF [] [(Sum.inl k,.int v)],rfl,hs.laid hp,⟨.int v,[],rfl,zbr.mpr rfl,rfl⟩⟩
end
section
def Itd(lo:Int)(n:Nat):It:=⟨fun i _=>i<n,fun i H x H'=>H'=H/\x=.int (lo - i),fun i _=>n<=i⟩
theorem znm{P:Program}{w:World}{K:W.Frag}{tg:Expr}(it:Addr)(lo:Int)(n:Nat):Turn P w K tg (Itd lo n) [it] it (fun i h=>IsRangeIter h it (lo+(i:Nat)*(-1)) ((n:Int) - (i:Nat)) (-1)) where
 mem:=by simp
 obj:=fun i h st b hb=>by
  have e:b=it:=by simpa using hb
  subst e;exact⟨_,st,fun v z=>by
   have z':Data.fields _=Data.cell v:=z;cases z'⟩
 keep:=fun i h h' st k=>k it (by simp) _ st
 item:=by
  intro X hP hw hK hc i zl s σ H E I hf st hg;subst hP hw hK;obtain⟨f0,f1,f2,f3,f4,f5⟩:=hf it (by simp);have W:=Walks.range (prog:=X.prog) (w:=X.w) (I.ok.hd hc) it lo (-1) n;refine W.item i s _ _ hg st fun v h' tk hv st' kk=>?_;obtain⟨t,rfl⟩:=hv;have I1:Inv X zl σ H { s with heap:=h',toks:=tk }:=I.turned (fun b o hb e=>kk b o (by simpa using hb) e) f0 f1 f3 f4 f5;refine⟨_,rfl,zod (s:={ s with heap:=h',toks:=tk }) (n:="range_iterator") st' rfl rfl (by decide) ⟨.int (lo - i),H,I1,⟨t,?_⟩,⟨rfl,rfl⟩,st',fun b hb=>(hf b hb).1⟩⟩;rw [show lo+(i:Int)*(-1)=lo - i by omega]
 done:=by
  intro X hP hw hK hc i zl s σ H E I hf st hg;subst hP hw hK;obtain⟨f0,f1,f2,f3,f4,f5⟩:=hf it (by simp);exact wpAny_pyNext_range_end (I.ok.hd hc) st (by have:n<=i:=hg; omega) fun h' eb=>⟨rfl,I.turned (t':=s.toks) (fun b o hb e=>eb b o hb e) f0 f1 f3 f4 f5⟩
 self:=fun _ _ _ _ _ st h=>wpAny_pyIter_rangeiter st h
section
variable {X:Cx} {tg:Expr}
theorem zl0{zl:List (Addr×Obj)}{σ:St}{H:Hp}{s:Shared}{R:It->Hp->Prop}{E:Value->Shared->Prop}{lo hi:Int}{t u v:Tok}{tk:Nat}(I:Inv X zl σ H s)(h1:-1000<=lo/\lo<=1000)(h2:-1000<=hi/\hi<=1000)
  (q:R (Itd lo (lo - hi).toNat) H):wpAny (model X.prog X.w) X.A (pyIter (.ref s.heap.objs.size)) (PIE X zl σ tg R) E { s with heap:=s.heap.push { cls:=.type "range",data:=.fields #[.int lo t,.int hi u,.int (-1) v] },toks:=tk }:=by
 have I1:Inv X zl σ H { s with heap:=s.heap.push { cls:=.type "range",data:=.fields #[.int lo t,.int hi u,.int (-1) v] },toks:=tk }:=I.kept fun b o e=>Heap.get?_push_of_some _ e;have e1:lo+((0:Nat):Int)*(-1)=lo:=by simp
 have e2:(((lo - hi).toNat:Nat):Int) - ((0:Nat):Int)=Builtin.Range.rangeSize lo hi (-1):=by
  unfold Builtin.Range.rangeSize;rw [if_neg (by decide)];split
  ·rw [show (- -1:Int)=1 by decide,Int.ediv_one];omega
  ·omega
 have hsm:Builtin.Range.small lo hi (-1)=true:=by
  unfold Builtin.Range.small;rw [<- e2,if_neg (by decide)];simp only [Builtin.Range.rangeFitsLong,Bool.and_eq_true,Bool.or_eq_true,decide_eq_true_eq,beq_iff_eq];omega
 refine wpAny_pyIter_range (IsRange.new ..) hsm ?_;refine⟨(s.heap.push { cls:=.type "range",data:=.fields #[.int lo t,.int hi u,.int (-1) v] }).objs.size,[(s.heap.push { cls:=.type "range",data:=.fields #[.int lo t,.int hi u,.int (-1) v] }).objs.size],_,_,H,rfl,
  I1.kept (t':=tk) fun b o e=>Heap.get?_push_of_some _ e,znm _ lo (lo - hi).toNat,?_,fun b hb=>?_,q⟩
 ·show IsRangeIter _ _ (lo+((0:Nat):Int)*(-1)) ((((lo - hi).toNat:Nat):Int) - ((0:Nat):Int)) (-1);rw [e1,e2];exact Heap.get?_push_size _ rfl
 ·have e:b=(s.heap.push { cls:=.type "range",data:=.fields #[.int lo t,.int hi u,.int (-1) v] }).objs.size:=by simpa using hb
  subst e;exact I1.fpOk (Nat.le_refl _) (I1.hok.fresh (Nat.le_refl _))
def ztD(ta:TA):TI:=fun σ H R=>ta σ H fun vs H1=>∃ i j:Int,vs=[.int i,.int j,.int (-1)]/\(-1000<=i/\i<=1000)/\(-1000<=j/\j<=1000)/\R (Itd i (i - j).toNat) H1
theorem zmF{a b c:Expr}{ta:TA}{p pos:Pos}(hg:Gl X "range")(hm:X.mg "range" = none)(ha:PA X [a,b,c] ta)(hs:starEach [a,b,c] X.env=[(false,eval a X.env),(false,eval b X.env),(false,eval c X.env)]:=by rfl)(hs2:starEach [b,c] X.env=[(false,eval b X.env),(false,eval c X.env)]:=by rfl):
  PI X tg (.Call (.Name "range" p) [a,b,c] [] pos) (ztD ta):=by
 intro zl s σ H R I h;refine Call_ (zfU I hg hm boot_range (PyProof.Rows.callWith_type1 (thn (ha pos zl s σ H _ I h) fun us s1 ⟨vs,H1,I1,r1,q1⟩=>?_) (by rw [hs,hs2]) (by rw [hs2]; rfl)));obtain⟨i,j,e,h1,h2,q⟩:=q1;subst e;cases r1 with
 | cons r rr =>
  cases rr with
  | cons r' rr =>
   cases rr with
   | cons r'' rr =>
    cases rr;obtain⟨t,rfl⟩:=r;obtain⟨t',rfl⟩:=r';obtain⟨t'',rfl⟩:=r'';exact call_range_3 (by decide) (zl0 I1 h1 h2 q) (.inl (PyProof.noPylong_small (by omega)))
end
def zlP(lo:Int)(n:Nat):List PyData:=(List.range n).map fun k:Nat=>.int (lo - k)
theorem zgR{lo:Int}{n i:Nat}{d:PyData}(h:(zlP lo n)[i]? = some d):i<n/\d=.int (lo - i):=by
 unfold zlP at h;rw [List.getElem?_map] at h;by_cases hi:i<n
 ·rw [List.getElem?_range hi] at h;exact⟨hi,(Option.some.inj h).symm⟩
 ·rw [List.getElem?_eq_none (by simpa using Nat.le_of_not_lt hi)] at h;cases h
theorem zlG{h o:List Addr}{H:Hp}{lo:Int}{n:Nat}:WalkX h o H (Itd lo n) (zlP lo n) where
 stop:=fun i _ _ _ hi=>by
  have h':n<=i:=by simpa [zlP] using hi
  exact h'
 go:=fun i d _ _ _ hi=>(zgR hi).1
 yld:=fun i d o2 H2 x H3 S2 _ _ hi y=>by
  obtain⟨e,ex⟩:=y;subst e ex;rw [(zgR hi).2];exact⟨Same.refl _,zbr.mpr rfl⟩
def zkY(a:DA):DI:=fun δ S R=>a δ S fun xs S1=>∃ i j:Int,xs=[.d (.int i),.d (.int j),.d (.int (-1))]/\(-1000<=i/\i<=1000)/\(-1000<=j/\j<=1000)/\R (zlP i (i - j).toNat) S1
theorem zrx{ta:TA}{da:DA}(ha:RA ta da):RI (ztD ta) (zkY da):=fun h o H δ σ S R Q he hs q c =>
 ha h o H δ σ S _ _ he hs q fun o1 H1 S1 xs vs e1 s1 x1 d0=>by
  obtain⟨i,j,rfl,h1,h2,d1⟩:=d0;obtain⟨v1,r1,rfl,hv1,l1⟩:=x1;obtain⟨v2,r2,rfl,hv2,l2⟩:=l1;obtain⟨v3,r3,rfl,hv3,l3⟩:=l2;have l4:r3=[]:=l3;subst l4;rw [zaJ hv1,zaJ hv2,zaJ hv3];exact⟨i,j,rfl,h1,h2,c o1 H1 S1 _ _ e1 s1 zlG d1⟩
end
section
theorem ztd{X:Cx}{c:Expr}{a b:List Stmt}{tc:TT}{t u:TS}{pos:Pos}(hc:PT X c tc)(ha:QSs X a t)(hb:QSs X b u):QS X (.If c a b pos) (ztZ tc t u):=QS.mk (zbk hc ha.out hb.out)
theorem zoX{X:Cx}{i:Nat}{x:Str}{es:List Expr}{b:Expr}{t:TA}{tb:TE}{pos pos' p1 p2:Pos}(hN:X.N.Nodup)(hi:X.N[i]? = some x)(hx:Loc X.env.scope x)(he:QA X es t)(hb:PE X b tb)(hm:PlainIx b)
  (hs:swapsWith (.Subscript (.List es p1) b p2) (some (.Name x pos')) pos.line X.env=pure false:=by rfl) (hf:X.fn x=true\/X.env.scope.names.lookup x=some .local:=by first | exact .inl rfl | exact .inr rfl | assumption) :
  QS X (.Assign [.Name x pos'] (.Subscript (.List es p1) b p2) pos) (zsb (tOp (rIx X.K) (zr1 t) tb) (zjc i)):=QS.mk (zF hN hi hx (zI zt (zaO he.out) hb hm) hs hf)
end
end L2
namespace L2
open PySem PyProof.Rows
def zmB:Bool->Keyed->Array Keyed->Nat->Nat->Nat->StateT SortSt Sem (Option Nat):=sortPriv% PySem.Builtin.gallop
def zpP:Array Keyed->Array Keyed->StateT SortSt Sem (Array Keyed):=sortPriv% PySem.Builtin.mergeLo
def zpa:Array Keyed->Array Keyed->StateT SortSt Sem (Array Keyed):=sortPriv% PySem.Builtin.mergeHi
structure LtOk(prog:Program)(w:World)(A:Around)(E:Value->Shared->Prop)(s:Shared)(kd:SortKind)(D:Keyed->Prop)(lt:Keyed->Keyed->Bool):Prop where
 ask:∀ x y (st:SortSt) (Q:Option Bool->SortSt->Prop),D x->D y->kindOf st=kd->Q (some (lt x y)) st->wpS (model prog w) A E s (lt' x y) Q st
 asym:∀ x y,D x->D y->lt x y=true->lt y x=false
 tr:∀ x y z,D x->D y->D z->lt y x=false->lt z y=false->lt z x=false
section
variable {prog:Program} {w:World} {A:Around} {E:Value->Shared->Prop} {s:Shared} {kd:SortKind} {D:Keyed->Prop} {lt:Keyed->Keyed->Bool}
theorem zO{arr:Array Keyed}{i:Nat}{x:Keyed}{Q:Keyed->SortSt->Prop}{st:SortSt}(h:arr[i]? = some x)(q:Q x st):wpS (model prog w) A E s (elem' arr i) Q st:=by
 rw [elem'_eq,h];exact wpS_pure q
def bey(lt:Keyed->Keyed->Bool)(left:Bool)(key x:Keyed):Bool:=if left=true then lt x key else !lt key x
theorem zgO(O:LtOk prog w A E s kd D lt){left:Bool}{key x:Keyed}{arr:Array Keyed}{i:Nat}{Q:Option Bool->SortSt->Prop}{st:SortSt}(hk:kindOf st=kd)(hD:D key)(hg:arr[i]? = some x)(hx:D x)(q:Q (some (bey lt left key x)) st):
  wpS (model prog w) A E s (do
   let y <- elem' arr i
   if left=true then lt' y key
    else do
     let r <- lt' key y
     pure (Option.map (fun b=>!b) r)) Q st:=by
 refine wpS_bind (zO hg ?_);unfold bey at q;by_cases h:left=true
 ·rw [if_pos h] at q ⊢;exact O.ask _ _ _ _ hx hD hk q
 ·rw [if_neg h] at q ⊢;exact wpS_bind (O.ask _ _ _ _ hD hx hk (wpS_pure q))
theorem zob{n:Nat}{p:Nat->Bool}{α:Type}{f:Nat->Option α×Nat×Nat->StateT SortSt Sem (ForInStep (Option α×Nat×Nat))}{Q:Option α×Nat×Nat->SortSt->Prop}{st:SortSt}
  (hf:∀ x lo hi (Q':ForInStep (Option α×Nat×Nat)->SortSt->Prop),hi<=n->(hi<=lo->Q' (.done (none,lo,hi)) st)->(lo<hi->p (lo+(hi - lo) / 2)=true->Q' (.yield (none,lo+(hi - lo) / 2+1,hi)) st) ->
   (lo<hi->p (lo+(hi - lo) / 2)=false->Q' (.yield (none,lo,lo+(hi - lo) / 2)) st)->wpS (model prog w) A E s (f x (none,lo,hi)) Q' st)
  (hmono:∀ i j,i<=j->j<n->p j=true->p i=true) {lo hi:Nat} (h1:lo<=hi) (h2:hi<=n) (h3:∀ i,i<lo->p i=true) (h4:∀ i,hi<=i->i<n->p i=false)
  (q:∀ k,k<=n->(∀ i,i<k->p i=true)->(∀ i,k<=i->i<n->p i=false)->Q (none,k,k) st):wpS (model prog w) A E s (forIn [:n] (none,lo,hi) f) Q st:=by
 refine wpS_forRange (I:=fun k c st'=>st'=st/\∃ lo hi,c=(none,lo,hi)/\lo<=hi/\hi<=n/\hi - lo+k<=n/\(∀ i,i<lo->p i=true)/\∀ i,hi<=i->i<n->p i=false) ?step ?fin ⟨rfl,lo,hi,rfl,h1,h2,by omega,h3,h4⟩
 case fin =>
  rintro c st' ⟨rfl,lo,hi,rfl,a1,a2,a3,a4,a5⟩;have:lo=hi:=by omega
  subst this;exact q lo a2 a4 a5
 case step =>
  rintro k c st' _ hkn ⟨rfl,lo,hi,rfl,a1,a2,a3,a4,a5⟩;refine hf k lo hi _ a2 (fun hle=>?_) (fun hlt hp=>?_) fun hlt hp=>?_
  ·have:lo=hi:=by omega
   subst this;exact q lo a2 a4 a5
  ·refine⟨rfl,_,_,rfl,by omega,a2,by omega,fun i hi'=>?_,a5⟩;exact hmono i (lo+(hi - lo) / 2) (by omega) (by omega) hp
  ·refine⟨rfl,_,_,rfl,by omega,by omega,by omega,a4,fun i hi' hin=>?_⟩;cases hpi:p i with
   | false=>rfl
   | true=>rw [hmono (lo+(hi - lo) / 2) i hi' hin hpi] at hp; cases hp
theorem zlR(O:LtOk prog w A E s kd D lt){left:Bool}{key:Keyed}{arr:Array Keyed}{base n hint:Nat}{Q:Option Nat->SortSt->Prop}{st:SortSt}(hk:kindOf st=kd)(hD:D key)(g:Nat->Keyed)(hg:∀ i,i<n->arr[base+i]? = some (g i))(hgD:∀ i,i<n->D (g i))
  (hmono:∀ i j,i<=j->j<n->bey lt left key (g j)=true->bey lt left key (g i)=true) (hh:hint<n)
  (q:∀ k,k<=n->(∀ i,i<k->bey lt left key (g i)=true)->(∀ i,k<=i->i<n->bey lt left key (g i)=false)->Q (some k) st):wpS (model prog w) A E s (zmB left key arr base n hint) Q st:=by
 have hmF:∀ i j,i<=j->j<n->bey lt left key (g i)=false->bey lt left key (g j)=false:=fun i j h1 h2 h3=>by
  cases h:bey lt left key (g j) with
  | false=>rfl
  | true=>rw [hmono i j h1 h2 h] at h3; cases h3
 refine wpS_bind (zgO O hk hD (hg hint hh) (hgD hint hh) ?_);cases hb:bey lt left key (g hint) with
 | true =>
  simp only [if_true];refine wpS_bind (wpS_mono (wpS_forRange (I:=fun k c st'=>st'=st/\∃ la of_,c=(none,la,of_)/\la<of_/\k+1<=of_/\hint+la<n/\bey lt left key (g (hint+la))=true)
   (Q:=fun c st'=>st'=st/\∃ la of_,c=(none,la,of_)/\la<of_/\hint+la<n/\bey lt left key (g (hint+la))=true/\(n - hint<=of_\/(hint+of_<n/\bey lt left key (g (hint+of_))=false))) ?step ?fin ⟨rfl,0,1,rfl,by omega,by omega,by omega,hb⟩) ?post)
  case step =>
   rintro k c st' _ hk2 ⟨rfl,la,of_,rfl,h1,h2,h3,h4⟩;by_cases ho:of_≥n - hint
   ·rw [if_pos ho];exact wpS_pure ⟨rfl,la,of_,rfl,h1,h3,h4,.inl ho⟩
   ·rw [if_neg ho];have hn:hint+of_<n:=by omega
    refine wpS_bind (zgO O hk hD (hg _ hn) (hgD _ hn) ?_);cases hb2:bey lt left key (g (hint+of_)) with
    | true=>exact wpS_pure ⟨rfl,of_,2*of_+1,rfl,by omega,by omega,hn,hb2⟩
    | false=>exact wpS_pure ⟨rfl,la,of_,rfl,h1,h3,h4,.inr ⟨hn,hb2⟩⟩
  case fin =>
   rintro c st' ⟨rfl,la,of_,rfl,h1,h2,h3,h4⟩;exact⟨rfl,la,of_,rfl,h1,h3,h4,.inl (by omega)⟩
  case post =>
   rintro c st' ⟨rfl,la,of_,rfl,h1,h3,h4,h5⟩;dsimp only;refine wpS_bind (zob (p:=fun i=>bey lt left key (g i)) ?hf hmono (by omega) (by omega) (fun i hi=>hmono i (hint+la) (by omega) h3 h4) (fun i hi hin=>?_) fun k k1 k2 k3=>?_)
   case hf =>
    intro x lo hi Q' hn e1 e2 e3;by_cases ho:lo≥hi
    ·rw [if_pos ho];exact wpS_pure (e1 ho)
    ·rw [if_neg ho];have hm:lo+(hi - lo) / 2<n:=by omega
     refine wpS_bind (zgO O hk hD (hg _ hm) (hgD _ hm) ?_);dsimp only;cases hb2:bey lt left key (g (lo+(hi - lo) / 2)) with
     | true=>exact wpS_pure (e2 (by omega) hb2)
     | false=>exact wpS_pure (e3 (by omega) hb2)
   ·rcases h5 with h5 | ⟨h5,h6⟩
    ·omega
    ·exact hmF (hint+of_) i (by omega) hin h6
   ·exact wpS_pure (q k k1 k2 k3)
 | false =>
  simp only [Bool.false_eq_true,if_false];refine wpS_bind (wpS_mono (wpS_forRange (I:=fun k c st'=>st'=st/\∃ la of_,c=(none,la,of_)/\la<of_/\k+1<=of_/\la<=hint/\bey lt left key (g (hint - la))=false)
   (Q:=fun c st'=>st'=st/\∃ la of_,c=(none,la,of_)/\la<of_/\la<=hint/\bey lt left key (g (hint - la))=false/\(hint+1<=of_\/(of_<=hint/\bey lt left key (g (hint - of_))=true))) ?step ?fin ⟨rfl,0,1,rfl,by omega,by omega,by omega,hb⟩) ?post)
  case step =>
   rintro k c st' _ hk2 ⟨rfl,la,of_,rfl,h1,h2,h3,h4⟩;by_cases ho:of_≥hint+1
   ·rw [if_pos ho];exact wpS_pure ⟨rfl,la,of_,rfl,h1,h3,h4,.inl ho⟩
   ·rw [if_neg ho];have hn:hint - of_<n:=by omega
    refine wpS_bind (zgO O hk hD (hg _ hn) (hgD _ hn) ?_);cases hb2:bey lt left key (g (hint - of_)) with
    | true=>exact wpS_pure ⟨rfl,la,of_,rfl,h1,h3,h4,.inr ⟨by omega,hb2⟩⟩
    | false=>exact wpS_pure ⟨rfl,of_,2*of_+1,rfl,by omega,by omega,by omega,hb2⟩
  case fin =>
   rintro c st' ⟨rfl,la,of_,rfl,h1,h2,h3,h4⟩;exact⟨rfl,la,of_,rfl,h1,h3,h4,.inl (by omega)⟩
  case post =>
   rintro c st' ⟨rfl,la,of_,rfl,h1,h3,h4,h5⟩;dsimp only;refine wpS_bind (zob (p:=fun i=>bey lt left key (g i)) ?hf hmono (by omega) (by omega) (fun i hi=>?_) (fun i hi hin=>hmF (hint - la) i (by omega) hin h4) fun k k1 k2 k3=>?_)
   case hf =>
    intro x lo hi Q' hn e1 e2 e3;by_cases ho:lo≥hi
    ·rw [if_pos ho];exact wpS_pure (e1 ho)
    ·rw [if_neg ho];have hm:lo+(hi - lo) / 2<n:=by omega
     refine wpS_bind (zgO O hk hD (hg _ hm) (hgD _ hm) ?_);dsimp only;cases hb2:bey lt left key (g (lo+(hi - lo) / 2)) with
     | true=>exact wpS_pure (e2 (by omega) hb2)
     | false=>exact wpS_pure (e3 (by omega) hb2)
   ·rcases h5 with h5 | ⟨h5,h6⟩
    ·omega
    ·exact hmono i (hint - of_) (by omega) (by omega) h6
   ·exact wpS_pure (q k k1 k2 k3)
def SrtL(lt:Keyed->Keyed->Bool)(l:List Keyed):Prop:=l.Pairwise fun x y=>lt y x=false
structure MI(lt:Keyed->Keyed->Bool)(L0 out A B:List Keyed):Prop where
 pm:(out++(A++B)).Perm L0
 so:SrtL lt out
 le:∀ x∈out,∀ y∈A++B,lt y x=false
 sa:SrtL lt A
 sb:SrtL lt B
theorem zlk{l:List Keyed}{x:Keyed}(h:SrtL lt l)(k:∀ y∈l,lt x y=false):SrtL lt (l++[x]):=by
 unfold SrtL at *;rw [List.pairwise_append];exact⟨h,by simp,fun y m z mz=>by rw [List.mem_singleton.mp mz]; exact k y m⟩
theorem MI.takeA{L0 out A B:List Keyed}{x:Keyed}(h:MI lt L0 out (x :: A) B)(k:∀ y∈B,lt y x=false):MI lt L0 (out++[x]) A B:=by
 have sa:=h.sa;unfold SrtL at sa;rw [List.pairwise_cons] at sa;refine⟨by rw [List.append_assoc]; exact h.pm,zlk h.so fun y m=>h.le y m x (by simp),fun z mz y my=>?_,sa.2,h.sb⟩;rcases List.mem_append.mp mz with mz | mz
 ·exact h.le z mz y (by rcases List.mem_append.mp my with m | m <;> simp [m])
 ·rw [List.mem_singleton.mp mz];rcases List.mem_append.mp my with m | m
  ·exact sa.1 y m
  ·exact k y m
theorem MI.takeB{L0 out A B:List Keyed}{y:Keyed}(h:MI lt L0 out A (y :: B))(k:∀ x∈A,lt x y=false):MI lt L0 (out++[y]) A B:=by
 have sb:=h.sb;unfold SrtL at sb;rw [List.pairwise_cons] at sb;refine⟨?_,zlk h.so fun x m=>h.le x m y (by simp),fun z mz x mx=>?_,h.sa,sb.2⟩
 ·refine .trans ?_ h.pm;rw [List.append_assoc];refine List.Perm.append_left _ ?_;exact(List.perm_middle (a:=y) (l₁:=A) (l₂:=B)).symm
 ·rcases List.mem_append.mp mz with mz | mz
  ·exact h.le z mz x (by rcases List.mem_append.mp mx with m | m <;> simp [m])
  ·rw [List.mem_singleton.mp mz];rcases List.mem_append.mp mx with m | m
   ·exact k x m
   ·exact sb.1 x m
theorem MI.takesA{L0:List Keyed}:∀ {X out A B:List Keyed},MI lt L0 out (X++A) B->(∀ x∈X,∀ y∈B,lt y x=false)->MI lt L0 (out++X) A B
 | [],out,A,B,h,_=>by simpa using h
 | x :: X,out,A,B,h,k=>by
  have:=MI.takesA (MI.takeA h (k x List.mem_cons_self)) fun z m=>k z (List.mem_cons_of_mem _ m);simpa using this
theorem MI.takesB{L0:List Keyed}:∀ {Y out A B:List Keyed},MI lt L0 out A (Y++B)->(∀ y∈Y,∀ x∈A,lt x y=false)->MI lt L0 (out++Y) A B
 | [],out,A,B,h,_=>by simpa using h
 | y :: Y,out,A,B,h,k=>by
  have:=MI.takesB (MI.takeB h (k y List.mem_cons_self)) fun z m=>k z (List.mem_cons_of_mem _ m);simpa using this
def MDone(lt:Keyed->Keyed->Bool)(L0 l:List Keyed):Prop:=l.Perm L0/\SrtL lt l
theorem MI.doneA{L0 out A:List Keyed}(h:MI lt L0 out A []):MDone lt L0 (out++A):=by
 refine⟨by simpa using h.pm,?_⟩;unfold SrtL;rw [List.pairwise_append];exact⟨h.so,h.sa,fun x m y m'=>h.le x m y (by simpa using m')⟩
theorem MI.lastA{L0 out B:List Keyed}{x:Keyed}(h:MI lt L0 out [x] B)(k:∀ y∈B,lt x y=false):MDone lt L0 (out++B++[x]):=by
 have h2:MI lt L0 (out++B) [x] []:=MI.takesB (B:=[]) (by simpa using h) fun y m z mz=>by rw [List.mem_singleton.mp mz]; exact k y m
 exact h2.doneA
def sameSt(st st':SortSt):Prop:=kindOf st'=kindOf st/\arrOf st'=arrOf st/\pendingOf st'=pendingOf st/\failedOf st'=failedOf st
theorem sameSt.rfl'{st:SortSt}:sameSt st st:=⟨rfl,rfl,rfl,rfl⟩
theorem LtOk.irr(O:LtOk prog w A E s kd D lt){x:Keyed}(h:D x):lt x x=false:=by
 cases e:lt x x with
 | false=>rfl
 | true=>rw [O.asym x x h h e] at e; cases e
theorem za5(O:LtOk prog w A E s kd D lt){l:List Keyed}(h:SrtL lt l)(hD:∀ x∈l,D x){i j:Nat}{x y:Keyed}(ij:i<=j)(hx:l[i]? = some x)(hy:l[j]? = some y):lt y x=false:=by
 rcases Nat.lt_or_eq_of_le ij with h1 | h1
 ·obtain⟨hi,ex⟩:=List.getElem?_eq_some_iff.mp hx;obtain⟨hj,ey⟩:=List.getElem?_eq_some_iff.mp hy;have:=List.pairwise_iff_getElem.mp h i j hi hj h1;rw [ex,ey] at this;exact this
 ·subst h1;rw [hx] at hy;cases hy;exact O.irr (hD x (List.mem_of_getElem? hx))
theorem zdd{l:List Keyed}{i:Nat}{x:Keyed}(h:l[i]? = some x):l.drop i=x :: l.drop (i+1):=by
 obtain⟨hi,e⟩:=List.getElem?_eq_some_iff.mp h;rw [List.drop_eq_getElem_cons hi,e]
theorem zaV{a:Array Keyed}{i:Nat}(h:i<a.size):∃ x,a[i]? = some x/\a.toList[i]? = some x:=⟨a[i],by simp [h],by simp [h]⟩
theorem zaK{l:List Keyed}{i:Nat}{y:Keyed}(h:y∈l.drop i):∃ j,i<=j/\l[j]? = some y:=by
 obtain⟨j,hj⟩:=List.mem_iff_getElem?.mp h;rw [List.getElem?_drop] at hj;exact⟨i+j,by omega,hj⟩
structure MInv(lt:Keyed->Keyed->Bool)(a b out:Array Keyed)(ia ib:Nat):Prop where
 mi:MI lt (a.toList++b.toList) out.toList (a.toList.drop ia) (b.toList.drop ib)
 ha:ia+1<a.size
 hb:ib<b.size
section
variable {a b out:Array Keyed} {ia ib:Nat}
theorem MInv.stepB(O:LtOk prog w A E s kd D lt)(haD:∀ x∈a.toList,D x)(hbD:∀ x∈b.toList,D x)(hsa:SrtL lt a.toList){x y:Keyed}(h:MInv lt a b out ia ib)(hx:a.toList[ia]? = some x)(hy:b.toList[ib]? = some y)(l:lt y x=true):
  MI lt (a.toList++b.toList) (out.push y).toList (a.toList.drop ia) (b.toList.drop (ib+1)):=by
 have m:=h.mi;rw [zdd hy] at m;have:=m.takeB fun z mz=>by
  obtain⟨j,hj,ez⟩:=zaK mz;have Dx:=haD x (List.mem_of_getElem? hx);have Dy:=hbD y (List.mem_of_getElem? hy);have Dz:=haD z (List.mem_of_getElem? ez);exact O.tr y x z Dy Dx Dz (O.asym y x Dy Dx l) (za5 O hsa haD hj hx ez)
 simpa using this
theorem MInv.stepA(O:LtOk prog w A E s kd D lt)(haD:∀ x∈a.toList,D x)(hbD:∀ x∈b.toList,D x)(hsb:SrtL lt b.toList){x y:Keyed}(h:MInv lt a b out ia ib)(hx:a.toList[ia]? = some x)(hy:b.toList[ib]? = some y)(l:lt y x=false):
  MI lt (a.toList++b.toList) (out.push x).toList (a.toList.drop (ia+1)) (b.toList.drop ib):=by
 have m:=h.mi;rw [zdd hx] at m;have:=m.takeA fun z mz=>by
  obtain⟨j,hj,ez⟩:=zaK mz;exact O.tr x y z (haD x (List.mem_of_getElem? hx)) (hbD y (List.mem_of_getElem? hy)) (hbD z (List.mem_of_getElem? ez)) l (za5 O hsb hbD hj hy ez)
 simpa using this
theorem zem(a:Array Keyed)(i:Nat):(a.extract i a.size).toList=a.toList.drop i:=by
 rw [Array.toList_extract,List.extract_eq_take_drop,List.take_of_length_le (by simp)]
theorem zej(hib:ib=b.size)(m:MI lt (a.toList++b.toList) out.toList (a.toList.drop ia) (b.toList.drop ib)):MDone lt (a.toList++b.toList) (out++a.extract ia a.size++b.extract ib b.size).toList:=by
 have e:b.toList.drop ib=[]:=List.drop_of_length_le (by simp [hib]);rw [Array.toList_append,Array.toList_append,zem,zem,e,List.append_nil];rw [e] at m;exact m.doneA
theorem zo6(hia:ia=a.size)(m:MI lt (a.toList++b.toList) out.toList (a.toList.drop ia) (b.toList.drop ib)):MDone lt (a.toList++b.toList) (out++a.extract ia a.size++b.extract ib b.size).toList:=by
 have e:a.toList.drop ia=[]:=List.drop_of_length_le (by simp [hia]);rw [Array.toList_append,Array.toList_append,zem,zem,e,List.append_nil];rw [e] at m;have h2:MI lt (a.toList++b.toList) (out.toList++b.toList.drop ib) [] []:=MI.takesB (B:=[]) (by simpa using m) (fun y my x mx=>by cases mx);have:=h2.doneA;simpa using this
theorem zeZ(hl:∀ x,a[a.size - 1]? = some x->∀ y∈b.toList,lt x y=false)(h1:ia+1=a.size)(m:MI lt (a.toList++b.toList) out.toList (a.toList.drop ia) (b.toList.drop ib)):MDone lt (a.toList++b.toList) (out++b.extract ib b.size++a.extract ia a.size).toList:=by
 obtain⟨x,e1,e2⟩:=zaV (a:=a) (i:=ia) (by omega);have ed:a.toList.drop ia=[x]:=by
  rw [zdd e2,List.drop_of_length_le (by simp; omega)]
 rw [ed] at m;have hx:=hl x (by rw [show a.size - 1=ia by omega]; exact e1);have:=m.lastA fun y my=>hx y (List.mem_of_mem_drop my);rw [Array.toList_append,Array.toList_append,zem,zem,ed];exact this
end
theorem gal(O:LtOk prog w A E s kd D lt){left:Bool}{key:Keyed}{arr:Array Keyed}{base n hint:Nat}{Q:Option Nat->SortSt->Prop}{st:SortSt}(hk:kindOf st=kd)(Dk:D key)(hD:∀ j,base<=j->j<base+n->∃ x,arr[j]? = some x/\D x)
  (hs:∀ i j x y,base<=i->i<=j->j<base+n->arr[i]? = some x->arr[j]? = some y->lt y x=false) (hh:hint<n)
  (q:∀ k,k<=n->(∀ j x,base<=j->j<base+k->arr[j]? = some x->bey lt left key x=true)->(∀ j x,base+k<=j->j<base+n->arr[j]? = some x->bey lt left key x=false)->Q (some k) st):wpS (model prog w) A E s (zmB left key arr base n hint) Q st:=by
 have hg:∀ i,i<n->arr[base+i]? = some ((arr[base+i]?).getD key):=fun i hi=>by
  obtain⟨x,e,_⟩:=hD (base+i) (by omega) (by omega);rw [e];rfl
 have hgD:∀ i,i<n->D ((arr[base+i]?).getD key):=fun i hi=>by
  obtain⟨x,e,d⟩:=hD (base+i) (by omega) (by omega);rw [e];exact d
 refine zlR O hk Dk (fun i=>(arr[base+i]?).getD key) hg hgD (fun i j hij hj hb=>?_) hh fun k k1 k2 k3=>q k k1 (fun j x h1 h2 e=>?_) fun j x h1 h2 e=>?_
 ·have s1:=hs (base+i) (base+j) _ _ (by omega) (by omega) (by omega) (hg i (by omega)) (hg j hj);have Di:=hgD i (by omega);have Dj:=hgD j hj
  try dsimp only at hb ⊢
  generalize (arr[base+i]?).getD key=x at s1 Di ⊢;generalize (arr[base+j]?).getD key=y at s1 Dj hb;cases left with
  | true =>
   unfold bey at hb ⊢;rw [if_pos rfl] at hb ⊢;cases hx:lt x key with
   | true=>rfl
   | false=>rw [O.tr key x y Dk Di Dj hx s1] at hb; cases hb
  | false =>
   unfold bey at hb ⊢;rw [if_neg (by decide)] at hb ⊢;have hb':lt key y=false:=by simpa using hb
   rw [O.tr x y key Di Dj Dk s1 hb'];rfl
 ·have:=k2 (j - base) (by omega)
  try dsimp only at this
  rw [show base+(j - base)=j by omega,e] at this;exact this
 ·have:=k3 (j - base) (by omega) (by omega)
  try dsimp only at this
  rw [show base+(j - base)=j by omega,e] at this;exact this
theorem ziB{a:Array Keyed}{i k:Nat}:(a.extract i (i+k)).toList=(a.toList.drop i).take k:=by
 rw [Array.toList_extract,List.extract_eq_take_drop,Nat.add_sub_cancel_left]
theorem zch{l:List Keyed}{i k:Nat}{x:Keyed}(h:x∈(l.drop i).take k):∃ j,i<=j/\j<i+k/\l[j]? = some x:=by
 obtain⟨j,hj⟩:=List.mem_iff_getElem?.mp h;rw [List.getElem?_take] at hj;split at hj
 ·rw [List.getElem?_drop] at hj;exact⟨i+j,by omega,by omega,hj⟩
 ·cases hj
theorem zfp(a:Array Keyed)(i:Nat):a.extract i (i+0) = #[]:=by
 apply Array.toList_inj.mp;rw [ziB,List.take_zero]
section
variable {a b out:Array Keyed} {ia ib k:Nat} {L0:List Keyed}
theorem zof(m:MI lt L0 out.toList (a.toList.drop ia) (b.toList.drop ib))(h:∀ j x,ia<=j->j<ia+k->a.toList[j]? = some x->∀ y∈b.toList.drop ib,lt y x=false):MI lt L0 (out++a.extract ia (ia+k)).toList (a.toList.drop (ia+k)) (b.toList.drop ib):=by
 rw [Array.toList_append,ziB];refine MI.takesA ?_ fun x mx y my=>?_
 ·rw [<- List.drop_drop,List.take_append_drop];exact m
 ·obtain⟨j,h1,h2,e⟩:=zch mx;exact h j x h1 h2 e y my
theorem zi0(m:MI lt L0 out.toList (a.toList.drop ia) (b.toList.drop ib))(h:∀ j y,ib<=j->j<ib+k->b.toList[j]? = some y->∀ x∈a.toList.drop ia,lt x y=false):MI lt L0 (out++b.extract ib (ib+k)).toList (a.toList.drop ia) (b.toList.drop (ib+k)):=by
 rw [Array.toList_append,ziB];refine MI.takesB ?_ fun x mx y my=>?_
 ·rw [<- List.drop_drop,List.take_append_drop];exact m
 ·obtain⟨j,h1,h2,e⟩:=zch mx;exact h j x h1 h2 e y my
theorem zf3(m:MI lt L0 out.toList (a.toList.drop ia) (b.toList.drop ib)){x:Keyed}(hx:a.toList[ia]? = some x)(h:∀ y∈b.toList.drop ib,lt y x=false):MI lt L0 (out.push x).toList (a.toList.drop (ia+1)) (b.toList.drop ib):=by
 rw [zdd hx] at m;have:=m.takeA h;simpa using this
theorem zkR(m:MI lt L0 out.toList (a.toList.drop ia) (b.toList.drop ib)){y:Keyed}(hy:b.toList[ib]? = some y)(h:∀ x∈a.toList.drop ia,lt x y=false):MI lt L0 (out.push y).toList (a.toList.drop ia) (b.toList.drop (ib+1)):=by
 rw [zdd hy] at m;have:=m.takeB h;simpa using this
end
theorem zat{a:Array Keyed}{i:Nat}{x:Keyed}:a[i]? = some x↔a.toList[i]? = some x:=by simp
theorem fin3{prog:Program}{w:World}{A:Around}{E:Value->Shared->Prop}{s:Shared}{τ:Type}{P C:Prop}{_:Decidable P}{f g:StateT SortSt Sem τ}{Q':τ->SortSt->Prop}{st':SortSt}(hf:C->wpS (model prog w) A E s f Q' st')(hg:C->wpS (model prog w) A E s g Q' st')(h:C):wpS (model prog w) A E s (if P then f else g) Q' st':=by
 split
 ·exact hf h
 ·exact hg h
theorem zj7(O:LtOk prog w A E s kd D lt){a b:Array Keyed}{Q:Array Keyed->SortSt->Prop}{st:SortSt}(hk:kindOf st=kd)(haD:∀ x∈a.toList,D x)(hbD:∀ x∈b.toList,D x)(ha:SrtL lt a.toList)(hb:SrtL lt b.toList)(ha1:1<=a.size)(hb1:1<=b.size)
  (h0:∀ y,b[0]? = some y->∀ x∈a.toList,lt x y=false) (hl:∀ x,a[a.size - 1]? = some x->∀ y∈b.toList,lt x y=false)
  (q:∀ (out:Array Keyed) st',MDone lt (a.toList++b.toList) out.toList->sameSt st st'->Q out st'):wpS (model prog w) A E s (zpP a b) Q st:=by
 refine wpS_bind (wpS_lift (wpAny_rule ⟨rfl,?_⟩));obtain⟨y0,ey0,ey0'⟩:=zaV (a:=b) (i:=0) (by clear ha1; omega);refine wpS_bind (zO ey0 ?_);have m0:MI lt (a.toList++b.toList) [] a.toList b.toList:=⟨List.Perm.refl _,List.Pairwise.nil,(fun x m=>by cases m),ha,hb⟩;have m1:MI lt (a.toList++b.toList) (#[y0]:Array Keyed).toList (a.toList.drop 0) (b.toList.drop 1):=by
  have e:b.toList=y0 :: b.toList.drop 1:=by have:=zdd ey0'; simpa using this
  have m2:MI lt (a.toList++b.toList) [] a.toList (y0 :: b.toList.drop 1):=by
   have:=m0
   conv at this=>arg 5; rw [e]
   exact this
  have:=m2.takeB (h0 y0 ey0);simpa using this
 by_cases c1:1=b.size
 ·rw [if_pos (by simpa using c1)];exact wpS_pure (q _ _ (zej c1 m1) sameSt.rfl')
 rw [if_neg (by simpa using c1)];by_cases c2:0+1=a.size
 ·rw [if_pos (by simpa using c2)];exact wpS_pure (q _ _ (zeZ hl c2 m1) sameSt.rfl')
 rw [if_neg (by simpa using c2)];refine wpS_bind (wpS_get ?_);have tot:∀ {out:Array Keyed} {ia ib:Nat},MInv lt a b out ia ib->ia+ib<a.size+b.size:=fun h=>by have:=h.ha; have:=h.hb; (clear c2 c1 hb1 ha1; omega)
 refine wpS_bind (wpS_mono (wpS_forRange
  (I:=fun k c st'=>sameSt st st'/\∃ out ia ib mg,c=(none,out,ia,ib,mg)/\MInv lt a b out ia ib/\k<ia+ib)
  (Q:=fun c st'=>sameSt st st'/\∃ r rest,c=(some r,rest)/\MDone lt (a.toList++b.toList) r.toList) ?step ?fin ⟨sameSt.rfl',#[y0],0,1,_,rfl,⟨m1,by clear c1 hb1; omega,by clear c2 ha1; omega⟩,by clear c2 c1 hb1 ha1; omega⟩) ?post)
 case fin =>
  rintro c st' ⟨hst,out,ia,ib,mg,rfl,hm,hlt⟩;have:=tot hm
  (clear c2 c1 hb1 ha1; omega)
 case post =>
  rintro c st' ⟨hst,r,rest,rfl,hd⟩;exact wpS_pure (q r st' hd hst)
 case step =>
  rintro k c st' _ hkt ⟨hst,out,ia,ib,mg,rfl,hm,hlt⟩;refine wpS_bind (wpS_mono (wpS_forRange
   (I:=fun j c st'=>sameSt st st'/\∃ out' ia' ib' ac bc,c=(none,out',ia',ib',ac,bc)/\MInv lt a b out' ia' ib'/\j+(ia+ib)<=ia'+ib')
   (Q:=fun c st'=>sameSt st st'/\((∃ r rest,c=(some r,rest)/\MDone lt (a.toList++b.toList) r.toList)\/∃ out' ia' ib' ac bc,c=(none,out',ia',ib',ac,bc)/\MInv lt a b out' ia' ib'/\ia+ib<ia'+ib')) ?step1 ?fin1 ⟨hst,out,ia,ib,0,0,rfl,hm,by clear hlt hkt c2 c1 hb1 ha1; omega⟩) ?post1)
  case fin1 =>
   rintro c st2 ⟨hst2,out',ia',ib',ac,bc,rfl,hm',hle⟩;have:=tot hm'
   (clear hlt hkt c2 c1 hb1 ha1; omega)
  case step1 =>
   rintro j c st2 _ hj ⟨hst2,out',ia',ib',ac,bc,rfl,hm',hle⟩;obtain⟨y,ey,ey'⟩:=zaV (a:=b) (i:=ib') hm'.hb;obtain⟨x,ex,ex'⟩:=zaV (a:=a) (i:=ia') (by have:=hm'.ha; (clear hle hj hlt hkt c2 c1 hb1 ha1; omega));have Dx:=haD x (List.mem_of_getElem? ex');have Dy:=hbD y (List.mem_of_getElem? ey');have hk2:kindOf st2=kd:=hst2.1.trans hk;refine wpS_bind (zO ey (wpS_bind (zO ex (wpS_bind (O.ask y x st2 _ Dy Dx hk2 ?_)))));cases hlt2:lt y x with
   | true =>
    have ms:=hm'.stepB O haD hbD ha ex' ey' hlt2;simp only [if_true];refine wpS_bind (zO ey ?_);by_cases c3:ib'+1=b.size
    ·rw [if_pos (by simpa using c3)];exact wpS_pure ⟨hst2,.inl ⟨_,_,rfl,zej c3 ms⟩⟩
    ·rw [if_neg (by simpa using c3)];have hm2:MInv lt a b (out'.push y) ia' (ib'+1):=⟨ms,hm'.ha,by have:=hm'.hb; (clear hle hj hlt hkt c2 c1 hb1 ha1; omega)⟩;by_cases c4:bc+1≥mg
     ·rw [if_pos c4];exact wpS_pure ⟨hst2,.inr ⟨_,_,_,_,_,rfl,hm2,by clear c4 c3 hj hlt hkt c2 c1 hb1 ha1; omega⟩⟩
     ·rw [if_neg c4];exact wpS_pure ⟨hst2,_,_,_,_,_,rfl,hm2,by clear c4 c3 hj hlt hkt c2 c1 hb1 ha1; omega⟩
   | false =>
    have ms:=hm'.stepA O haD hbD hb ex' ey' hlt2;simp only [Bool.false_eq_true,if_false];refine wpS_bind (zO ex ?_);by_cases c3:ia'+1+1=a.size
    ·rw [if_pos (by simpa using c3)];exact wpS_pure ⟨hst2,.inl ⟨_,_,rfl,zeZ hl c3 ms⟩⟩
    ·rw [if_neg (by simpa using c3)];have hm2:MInv lt a b (out'.push x) (ia'+1) ib':=⟨ms,by have:=hm'.ha; (clear hle hj hlt hkt c2 c1 hb1 ha1; omega),hm'.hb⟩;by_cases c4:ac+1≥mg
     ·rw [if_pos c4];exact wpS_pure ⟨hst2,.inr ⟨_,_,_,_,_,rfl,hm2,by clear c4 c3 hj hlt hkt c2 c1 hb1 ha1; omega⟩⟩
     ·rw [if_neg c4];exact wpS_pure ⟨hst2,_,_,_,_,_,rfl,hm2,by clear c4 c3 hj hlt hkt c2 c1 hb1 ha1; omega⟩
  case post1 =>
   rintro c st2 ⟨hst2,hc⟩;rcases hc with ⟨r,rest,rfl,hd⟩ | ⟨out',ia',ib',ac,bc,rfl,hm',hle⟩
   ·dsimp only;exact wpS_pure ⟨hst2,_,_,rfl,hd⟩
   ·dsimp only;refine wpS_bind (wpS_lift (wpAny_rule ⟨rfl,?_⟩));refine wpS_bind (wpS_mono (wpS_forRange
     (I:=fun j c st'=>sameSt st st'/\∃ out2 ia2 ib2 mg2 ac2 bc2,c=(none,out2,ia2,ib2,mg2,ac2,bc2)/\MInv lt a b out2 ia2 ib2/\j+(ia'+ib')<=ia2+ib2)
     (Q:=fun c st'=>sameSt st st'/\((∃ r rest,c=(some r,rest)/\MDone lt (a.toList++b.toList) r.toList)\/∃ out2 ia2 ib2 mg2 ac2 bc2,c=(none,out2,ia2,ib2,mg2,ac2,bc2)/\MInv lt a b out2 ia2 ib2/\ia'+ib'<=ia2+ib2)) ?step2 ?fin2 ⟨hst2,out',ia',ib',_,_,_,rfl,hm',by clear hle hlt hkt c2 c1 hb1 ha1; omega⟩) ?post2)
    case fin2 =>
     rintro c st3 ⟨hst3,out2,ia2,ib2,mg2,ac2,bc2,rfl,hm2,hle2⟩;have:=tot hm2
     (clear hle hlt hkt c2 c1 hb1 ha1; omega)
    case post2 =>
     rintro c st3 ⟨hst3,hc⟩;rcases hc with ⟨r,rest,rfl,hd⟩ | ⟨out2,ia2,ib2,mg2,ac2,bc2,rfl,hm2,hle2⟩
     ·dsimp only;exact wpS_pure ⟨hst3,_,_,rfl,hd⟩
     ·dsimp only;refine wpS_bind (wpS_modify (wpS_pure ⟨⟨hst3.1,hst3.2.1,hst3.2.2.1,hst3.2.2.2⟩,out2,ia2,ib2,_,rfl,hm2,by clear hkt c2 c1 hb1 ha1; omega⟩))
    case step2 =>
     rintro j c st3 _ hj ⟨hst3,out2,ia2,ib2,mg2,ac2,bc2,rfl,hm2,hle2⟩;obtain⟨y,ey,ey'⟩:=zaV (a:=b) (i:=ib2) hm2.hb;have hia2:=hm2.ha;have hib2:=hm2.hb;have Dy:=hbD y (List.mem_of_getElem? ey');have aD:∀ j,j<a.size->∃ x,a[j]? = some x/\D x:=fun j hj=>by
      obtain⟨x,e,e'⟩:=zaV (a:=a) hj;exact⟨x,e,haD x (List.mem_of_getElem? e')⟩
     have bD:∀ j,j<b.size->∃ x,b[j]? = some x/\D x:=fun j hj=>by
      obtain⟨x,e,e'⟩:=zaV (a:=b) hj;exact⟨x,e,hbD x (List.mem_of_getElem? e')⟩
     -- what is told behind both ways of the first test
     dsimp only;have fin2:∀ (P:Prop) (_:Decidable P) (f g:StateT SortSt Sem (ForInStep (Option (Array Keyed)×Array Keyed×Nat×Nat×Nat×Nat×Nat))) (Q':ForInStep (Option (Array Keyed)×Array Keyed×Nat×Nat×Nat×Nat×Nat)->SortSt->Prop) (st':SortSt),wpS (model prog w) A E s f Q' st'->wpS (model prog w) A E s g Q' st'->wpS (model prog w) A E s (if P then f else g) Q' st':=fun P _ f g Q' st' h1 h2=>by
      split
      ·exact h1
      ·exact h2
     refine fin3 (C:=?C3) ?f3 ?g3 ?h3
     case f3=>intro h; generalize mg2 - 1=m0; revert m0; exact h
     case g3=>intro h; generalize mg2=m0; revert m0; exact h
     intro m0
     all_goals
      refine wpS_bind (wpS_modify ?_);refine wpS_bind (zO ey ?_);refine wpS_bind (gal O (hst3.1.trans hk) Dy (fun j h1 h2=>aD j (by clear h1 hib2 hle2 hj hle hlt hkt c2 c1 hb1 ha1; omega)) (fun i j x z h1 h2 h3 e1 e2=>za5 O ha haD h2 (zat.mp e1) (zat.mp e2)) (by clear hib2 hle2 hj hle hlt hkt c2 c1 hb1 ha1; omega) fun k1 hk1 g1 g2=>?_);dsimp only;have hst4:sameSt st st3:=hst3
      -- behind the block of a
      have bl:MI lt (a.toList++b.toList) (out2++a.extract ia2 (ia2+k1)).toList (a.toList.drop (ia2+k1)) (b.toList.drop ib2):=zof hm2.mi fun j x h1 h2 e z mz=>by
       have:=g1 j x h1 h2 (zat.mpr e);obtain⟨j2,hj2,ez⟩:=zaK mz;have l1:lt y x=false:=by simpa [bey] using this
       exact O.tr x y z (haD x (List.mem_of_getElem? e)) Dy (hbD z (List.mem_of_getElem? ez)) l1 (za5 O hb hbD hj2 ey' ez)
      have gt:∀ x∈a.toList.drop (ia2+k1),lt x y=false:=fun x mx=>by
       obtain⟨j2,hj2,ex⟩:=zaK mx;have hlt3:=(List.getElem?_eq_some_iff.mp ex).1;have:=g2 j2 x hj2 (by simp at hlt3; (clear hj2 hk1 hib2 hia2 hle2 hj hle hlt hkt c2 c1 hb1 ha1; omega)) (zat.mpr ex);have l1:lt y x=true:=by simpa [bey] using this
       exact O.asym y x Dy (haD x (List.mem_of_getElem? ex)) l1
      have ez0:k1=0->(out2++a.extract ia2 (ia2+k1))=out2:=fun z=>by subst z; rw [zfp,Array.append_empty]
      -- from here on: outA,iaA
      have go:∀ (outA:Array Keyed) (iaA:Nat) (mgA acA:Nat),MI lt (a.toList++b.toList) outA.toList (a.toList.drop iaA) (b.toList.drop ib2)->(∀ x∈a.toList.drop iaA,lt x y=false)->ia2<=iaA->iaA+1<a.size->True:=fun _ _ _ _ _ _ _ _=>trivial;by_cases c5:k1>0
      ·rw [if_pos c5];by_cases c6:ia2+k1+1=a.size
       ·rw [if_pos (by simpa using c6)];exact wpS_pure ⟨hst4,.inl ⟨_,_,rfl,zeZ hl c6 bl⟩⟩
       rw [if_neg (by simpa using c6)];by_cases c7:ia2+k1=a.size
       ·rw [if_pos (by simpa using c7)];exact wpS_pure ⟨hst4,.inl ⟨_,_,rfl,zo6 c7 bl⟩⟩
       rw [if_neg (by simpa using c7)];refine wpS_bind (zO ey ?_);have mb:=zkR bl ey' gt;by_cases d1:ib2+1=b.size
       ·rw [if_pos (by simpa using d1)];exact wpS_pure ⟨hst4,.inl ⟨_,_,rfl,zej d1 mb⟩⟩
       rw [if_neg (by simpa using d1)];obtain⟨x,ex,ex'⟩:=zaV (a:=a) (i:=(ia2+k1)) (by clear d1 c6 c5 hib2 hle2 hj hle hlt hkt c2 c1 hb1 ha1; omega);have Dx:=haD x (List.mem_of_getElem? ex');refine wpS_bind (zO ex ?_);refine wpS_bind (gal O (hst3.1.trans hk) Dx (fun j h1 h2=>bD j (by clear h1 d1 c7 c6 c5 hk1 hia2 hle2 hj hle hlt hkt c2 c1 hb1 ha1; omega)) (fun i j x z h1 h2 h3 e1 e2=>za5 O hb hbD h2 (zat.mp e1) (zat.mp e2)) (by clear c7 c6 c5 hk1 hia2 hle2 hj hle hlt hkt c2 c1 hb1 ha1; omega) fun k2 hk2 f1 f2=>?_);dsimp only;have bb:=zi0 (k:=k2) mb fun j z h1 h2 e x2 mx2=>by
        have:=f1 j z h1 h2 (zat.mpr e);obtain⟨j2,hj2,ex2⟩:=zaK mx2;have Dz:=hbD z (List.mem_of_getElem? e);have l1:lt z x=true:=by simpa [bey] using this
        exact O.tr z x x2 Dz Dx (haD x2 (List.mem_of_getElem? ex2)) (O.asym z x Dz Dx l1) (za5 O ha haD hj2 ex' ex2)
       have gb:∀ z∈b.toList.drop (ib2+1+k2),lt z x=false:=fun z mz=>by
        obtain⟨j2,hj2,ez⟩:=zaK mz;have hlt3:=(List.getElem?_eq_some_iff.mp ez).1;have:=f2 j2 z hj2 (by simp at hlt3; (clear hj2 hk2 d1 c7 c6 c5 hk1 hib2 hia2 hle2 hj hle hlt hkt c2 c1 hb1 ha1; omega)) (zat.mpr ez);simpa [bey] using this
       by_cases d2:k2>0
       ·rw [if_pos d2];by_cases d3:ib2+1+k2=b.size
        ·rw [if_pos (by simpa using d3)];exact wpS_pure ⟨hst4,.inl ⟨_,_,rfl,zej d3 bb⟩⟩
        rw [if_neg (by simpa using d3)];refine wpS_bind (zO ex ?_);have mf:=zf3 bb ex' gb;by_cases d4:(ia2+k1)+1+1=a.size
        ·rw [if_pos (by simpa using d4)];exact wpS_pure ⟨hst4,.inl ⟨_,_,rfl,zeZ hl d4 mf⟩⟩
        rw [if_neg (by simpa using d4)];refine fin2 _ _ _ _ _ _ ?_ ?_
        ·exact wpS_pure ⟨hst4,.inr ⟨_,_,_,_,_,_,rfl,⟨mf,by clear d3 d2 hk2 d1 c5 hib2 hle2 hj hle hlt hkt c2 c1 hb1 ha1; omega,by clear d4 d2 d1 c7 c6 c5 hk1 hia2 hle2 hj hle hlt hkt c2 c1 hb1 ha1; omega⟩,by clear d4 d3 d2 hk2 d1 c7 c6 c5 hk1 hib2 hia2 hj hle hlt hkt c2 c1 hb1 ha1; omega⟩⟩
        ·exact wpS_pure ⟨hst4,_,_,_,_,_,_,rfl,⟨mf,by clear d3 d2 hk2 d1 c5 hib2 hle2 hj hle hlt hkt c2 c1 hb1 ha1; omega,by clear d4 d2 d1 c7 c6 c5 hk1 hia2 hle2 hj hle hlt hkt c2 c1 hb1 ha1; omega⟩,by clear d4 d3 d2 hk2 d1 c7 c6 c5 hk1 hib2 hia2 hj hle hlt hkt c2 c1 hb1 ha1; omega⟩
       ·rw [if_neg d2];have k0':k2=0:=by clear hk2 d1 c7 c6 c5 hk1 hib2 hia2 hle2 hj hle hlt hkt c2 c1 hb1 ha1; omega
        subst k0';have ee:∀ o:Array Keyed,o++b.extract (ib2+1) (ib2+1+0)=o:=fun o=>by rw [zfp,Array.append_empty]
        rw [ee,Nat.add_zero] at bb;rw [Nat.add_zero] at gb;refine wpS_bind (zO ex ?_);have mf:=zf3 bb ex' gb;by_cases d4:(ia2+k1)+1+1=a.size
        ·rw [if_pos (by simpa using d4)];exact wpS_pure ⟨hst4,.inl ⟨_,_,rfl,zeZ hl d4 mf⟩⟩
        rw [if_neg (by simpa using d4)];refine fin2 _ _ _ _ _ _ ?_ ?_
        ·exact wpS_pure ⟨hst4,.inr ⟨_,_,_,_,_,_,rfl,⟨mf,by clear d2 hk2 d1 c5 hib2 hle2 hj hle hlt hkt c2 c1 hb1 ha1; omega,by clear d4 d2 hk2 c7 c6 c5 hk1 hia2 hle2 hj hle hlt hkt c2 c1 hb1 ha1; omega⟩,by clear d4 d2 hk2 d1 c7 c6 c5 hk1 hib2 hia2 hj hle hlt hkt c2 c1 hb1 ha1; omega⟩⟩
        ·exact wpS_pure ⟨hst4,_,_,_,_,_,_,rfl,⟨mf,by clear d2 hk2 d1 c5 hib2 hle2 hj hle hlt hkt c2 c1 hb1 ha1; omega,by clear d4 d2 hk2 c7 c6 c5 hk1 hia2 hle2 hj hle hlt hkt c2 c1 hb1 ha1; omega⟩,by clear d4 d2 hk2 d1 c7 c6 c5 hk1 hib2 hia2 hj hle hlt hkt c2 c1 hb1 ha1; omega⟩
      ·rw [if_neg c5];have k0:k1=0:=by clear hk1 hib2 hia2 hle2 hj hle hlt hkt c2 c1 hb1 ha1; omega
       subst k0;rw [ez0 rfl,Nat.add_zero] at bl;rw [Nat.add_zero] at gt;refine wpS_bind (zO ey ?_);have mb:=zkR bl ey' gt;by_cases d1:ib2+1=b.size
       ·rw [if_pos (by simpa using d1)];exact wpS_pure ⟨hst4,.inl ⟨_,_,rfl,zej d1 mb⟩⟩
       rw [if_neg (by simpa using d1)];obtain⟨x,ex,ex'⟩:=zaV (a:=a) (i:=ia2) (by clear d1 c5 hk1 hib2 hle2 hj hle hlt hkt c2 c1 hb1 ha1; omega);have Dx:=haD x (List.mem_of_getElem? ex');refine wpS_bind (zO ex ?_);refine wpS_bind (gal O (hst3.1.trans hk) Dx (fun j h1 h2=>bD j (by clear h1 d1 c5 hk1 hia2 hle2 hj hle hlt hkt c2 c1 hb1 ha1; omega)) (fun i j x z h1 h2 h3 e1 e2=>za5 O hb hbD h2 (zat.mp e1) (zat.mp e2)) (by clear c5 hk1 hia2 hle2 hj hle hlt hkt c2 c1 hb1 ha1; omega) fun k2 hk2 f1 f2=>?_);dsimp only;have bb:=zi0 (k:=k2) mb fun j z h1 h2 e x2 mx2=>by
        have:=f1 j z h1 h2 (zat.mpr e);obtain⟨j2,hj2,ex2⟩:=zaK mx2;have Dz:=hbD z (List.mem_of_getElem? e);have l1:lt z x=true:=by simpa [bey] using this
        exact O.tr z x x2 Dz Dx (haD x2 (List.mem_of_getElem? ex2)) (O.asym z x Dz Dx l1) (za5 O ha haD hj2 ex' ex2)
       have gb:∀ z∈b.toList.drop (ib2+1+k2),lt z x=false:=fun z mz=>by
        obtain⟨j2,hj2,ez⟩:=zaK mz;have hlt3:=(List.getElem?_eq_some_iff.mp ez).1;have:=f2 j2 z hj2 (by simp at hlt3; (clear hj2 hk2 d1 c5 hk1 hib2 hia2 hle2 hj hle hlt hkt c2 c1 hb1 ha1; omega)) (zat.mpr ez);simpa [bey] using this
       by_cases d2:k2>0
       ·rw [if_pos d2];by_cases d3:ib2+1+k2=b.size
        ·rw [if_pos (by simpa using d3)];exact wpS_pure ⟨hst4,.inl ⟨_,_,rfl,zej d3 bb⟩⟩
        rw [if_neg (by simpa using d3)];refine wpS_bind (zO ex ?_);have mf:=zf3 bb ex' gb;by_cases d4:ia2+1+1=a.size
        ·rw [if_pos (by simpa using d4)];exact wpS_pure ⟨hst4,.inl ⟨_,_,rfl,zeZ hl d4 mf⟩⟩
        rw [if_neg (by simpa using d4)];refine fin2 _ _ _ _ _ _ ?_ ?_
        ·exact wpS_pure ⟨hst4,.inr ⟨_,_,_,_,_,_,rfl,⟨mf,by clear d3 d2 hk2 d1 c5 hk1 hib2 hle2 hj hle hlt hkt c2 c1 hb1 ha1; omega,by clear d4 d2 d1 c5 hk1 hia2 hle2 hj hle hlt hkt c2 c1 hb1 ha1; omega⟩,by clear d4 d3 d2 hk2 d1 c5 hk1 hib2 hia2 hj hle hlt hkt c2 c1 hb1 ha1; omega⟩⟩
        ·exact wpS_pure ⟨hst4,_,_,_,_,_,_,rfl,⟨mf,by clear d3 d2 hk2 d1 c5 hk1 hib2 hle2 hj hle hlt hkt c2 c1 hb1 ha1; omega,by clear d4 d2 d1 c5 hk1 hia2 hle2 hj hle hlt hkt c2 c1 hb1 ha1; omega⟩,by clear d4 d3 d2 hk2 d1 c5 hk1 hib2 hia2 hj hle hlt hkt c2 c1 hb1 ha1; omega⟩
       ·rw [if_neg d2];have k0':k2=0:=by clear hk2 d1 c5 hk1 hib2 hia2 hle2 hj hle hlt hkt c2 c1 hb1 ha1; omega
        subst k0';have ee:∀ o:Array Keyed,o++b.extract (ib2+1) (ib2+1+0)=o:=fun o=>by rw [zfp,Array.append_empty]
        rw [ee,Nat.add_zero] at bb;rw [Nat.add_zero] at gb;refine wpS_bind (zO ex ?_);have mf:=zf3 bb ex' gb;by_cases d4:ia2+1+1=a.size
        ·rw [if_pos (by simpa using d4)];exact wpS_pure ⟨hst4,.inl ⟨_,_,rfl,zeZ hl d4 mf⟩⟩
        rw [if_neg (by simpa using d4)];refine fin2 _ _ _ _ _ _ ?_ ?_
        ·exact wpS_pure ⟨hst4,.inr ⟨_,_,_,_,_,_,rfl,⟨mf,by clear d2 hk2 d1 c5 hk1 hib2 hle2 hj hle hlt hkt c2 c1 hb1 ha1; omega,by clear d4 d2 hk2 c5 hk1 hia2 hle2 hj hle hlt hkt c2 c1 hb1 ha1; omega⟩,by clear d4 d2 hk2 d1 c5 hk1 hib2 hia2 hj hle hlt hkt c2 c1 hb1 ha1; omega⟩⟩
        ·exact wpS_pure ⟨hst4,_,_,_,_,_,_,rfl,⟨mf,by clear d2 hk2 d1 c5 hk1 hib2 hle2 hj hle hlt hkt c2 c1 hb1 ha1; omega,by clear d4 d2 hk2 c5 hk1 hia2 hle2 hj hle hlt hkt c2 c1 hb1 ha1; omega⟩,by clear d4 d2 hk2 d1 c5 hk1 hib2 hia2 hj hle hlt hkt c2 c1 hb1 ha1; omega⟩
def flt(lt:Keyed->Keyed->Bool):Keyed->Keyed->Bool:=fun x y=>lt y x
theorem MDone.rev{L0 l:List Keyed}(h:MDone (flt lt) L0 l):MDone lt L0 l.reverse:=by
 refine⟨(List.reverse_perm l).trans h.1,?_⟩;unfold SrtL;rw [List.pairwise_reverse];exact h.2
theorem zhV{l:List Keyed}{i:Nat}{x:Keyed}(h:l[i]? = some x):(l.take (i+1)).reverse=x :: (l.take i).reverse:=by
 rw [List.take_add_one,h];simp
theorem zaH{l:List Keyed}{i:Nat}{y:Keyed}(h:y∈(l.take i).reverse):∃ j,j<i/\l[j]? = some y:=by
 obtain⟨j,hj⟩:=List.mem_iff_getElem?.mp (List.mem_reverse.mp h);rw [List.getElem?_take] at hj;split at hj
 ·exact⟨j,by assumption,hj⟩
 ·cases hj
theorem zdb(a:Array Keyed)(n:Nat):(a.extract 0 n).toList=a.toList.take n:=by
 rw [Array.toList_extract,List.extract_eq_take_drop];simp
theorem zng{l:List Keyed}(h:SrtL lt l)(n:Nat):SrtL (flt lt) (l.take n).reverse:=by
 unfold SrtL;rw [List.pairwise_reverse];exact List.Pairwise.sublist (List.take_sublist n l) h
section
variable {a b out:Array Keyed} {na nb k:Nat} {L0:List Keyed}
theorem zh2(m:MI (flt lt) L0 out.toList (a.toList.take (na+1)).reverse (b.toList.take nb).reverse){x:Keyed}(hx:a.toList[na]? = some x)(h:∀ y∈(b.toList.take nb).reverse,lt x y=false):MI (flt lt) L0 (out.push x).toList (a.toList.take na).reverse (b.toList.take nb).reverse:=by
 rw [zhV hx] at m;have:=m.takeA h;simpa using this
theorem zkX(m:MI (flt lt) L0 out.toList (a.toList.take na).reverse (b.toList.take (nb+1)).reverse){y:Keyed}(hy:b.toList[nb]? = some y)(h:∀ x∈(a.toList.take na).reverse,lt y x=false):MI (flt lt) L0 (out.push y).toList (a.toList.take na).reverse (b.toList.take nb).reverse:=by
 rw [zhV hy] at m;have:=m.takeB h;simpa using this
theorem zfo{n:Nat}(hn:n=na+1)(m:MI (flt lt) L0 out.toList (a.toList.take n).reverse (b.toList.take nb).reverse){x:Keyed}(hx:a.toList[na]? = some x)(h:∀ y∈(b.toList.take nb).reverse,lt x y=false):MI (flt lt) L0 (out.push x).toList (a.toList.take na).reverse (b.toList.take nb).reverse:=by
 subst hn;exact zh2 m hx h
theorem zjE{n:Nat}(hn:n=nb+1)(m:MI (flt lt) L0 out.toList (a.toList.take na).reverse (b.toList.take n).reverse){y:Keyed}(hy:b.toList[nb]? = some y)(h:∀ x∈(a.toList.take na).reverse,lt y x=false):MI (flt lt) L0 (out.push y).toList (a.toList.take na).reverse (b.toList.take nb).reverse:=by
 subst hn;exact zkX m hy h
theorem zhJ{l:List Keyed}{i n:Nat}(h:i<=n):(l.take n).reverse=((l.drop i).take (n - i)).reverse++(l.take i).reverse:=by
 rw [<- List.reverse_append];congr 1;have:=List.take_add (l:=l) (i:=i) (j:=n - i);rw [show i+(n - i)=n by omega] at this;exact this
theorem znv(a:Array Keyed){i n:Nat}(h:i<=n):(a.extract i n).reverse.toList=((a.toList.drop i).take (n - i)).reverse:=by
 rw [Array.toList_reverse,Array.toList_extract,List.extract_eq_take_drop]
theorem znG(m:MI (flt lt) L0 out.toList (a.toList.take na).reverse (b.toList.take nb).reverse)(hk:k<=na)(h:∀ j x,k<=j->j<na->a.toList[j]? = some x->∀ y∈(b.toList.take nb).reverse,lt x y=false):MI (flt lt) L0 (out++(a.extract k na).reverse).toList (a.toList.take k).reverse (b.toList.take nb).reverse:=by
 rw [Array.toList_append,znv a hk];rw [zhJ hk] at m;refine MI.takesA m fun x mx y my=>?_;obtain⟨j,h1,h2,e⟩:=zch (List.mem_reverse.mp mx);exact h j x h1 (by clear h1; omega) e y my
theorem zjb(m:MI (flt lt) L0 out.toList (a.toList.take na).reverse (b.toList.take nb).reverse)(hk:k<=nb)(h:∀ j y,k<=j->j<nb->b.toList[j]? = some y->∀ x∈(a.toList.take na).reverse,lt y x=false):MI (flt lt) L0 (out++(b.extract k nb).reverse).toList (a.toList.take na).reverse (b.toList.take k).reverse:=by
 rw [Array.toList_append,znv b hk];rw [zhJ hk] at m;refine MI.takesB m fun x mx y my=>?_;obtain⟨j,h1,h2,e⟩:=zch (List.mem_reverse.mp mx);exact h j x h1 (by omega) e y my
theorem zdg(h0:na=0)(m:MI (flt lt) L0 out.toList (a.toList.take na).reverse (b.toList.take nb).reverse):MDone lt L0 (a.extract 0 na++b.extract 0 nb++out.reverse).toList:=by
 subst h0;have h2:MI (flt lt) L0 (out.toList++(b.toList.take nb).reverse) [] []:=MI.takesB (B:=[]) (by simpa using m) (fun y my x mx=>by cases mx);have:=h2.doneA.rev;rw [Array.toList_append,Array.toList_append,zdb,zdb,Array.toList_reverse];simpa using this
theorem zk8(h0:nb=0)(m:MI (flt lt) L0 out.toList (a.toList.take na).reverse (b.toList.take nb).reverse):MDone lt L0 (a.extract 0 na++b.extract 0 nb++out.reverse).toList:=by
 subst h0;have h1:MI (flt lt) L0 out.toList (a.toList.take na).reverse []:=by simpa using m
 have:=h1.doneA.rev;rw [Array.toList_append,Array.toList_append,zdb,zdb,Array.toList_reverse];simpa using this
theorem zel(hf:∀ y,b[0]? = some y->∀ x∈a.toList,lt x y=false)(h1:nb=1)(hb1:1<=b.size)(m:MI (flt lt) L0 out.toList (a.toList.take na).reverse (b.toList.take nb).reverse):MDone lt L0 (b.extract 0 nb++a.extract 0 na++out.reverse).toList:=by
 subst h1;obtain⟨y,e1,e2⟩:=zaV (a:=b) (i:=0) (by omega);have ed:(b.toList.take (0+1)).reverse=[y]:=by rw [zhV e2]; simp
 rw [show (1:Nat)=0+1 from rfl,ed] at m;have h2:MI (flt lt) L0 (out.toList++(a.toList.take na).reverse) [] [y]:=MI.takesA (A:=[]) (by simpa using m) fun x mx z mz=>by
  rw [List.mem_singleton.mp mz];exact hf y e1 x (List.mem_of_mem_take (List.mem_reverse.mp mx))
 have h3:MI (flt lt) L0 (out.toList++(a.toList.take na).reverse++[y]) [] []:=MI.takesB (B:=[]) (by simpa using h2) (fun y my x mx=>by cases mx);have:=h3.doneA.rev;have ee:b.toList.take 1=[y]:=by have:=congrArg List.reverse ed; simpa using this
 rw [Array.toList_append,Array.toList_append,zdb,zdb,Array.toList_reverse,ee];simpa using this
end
structure HInv(lt:Keyed->Keyed->Bool)(a b out:Array Keyed)(na nb:Nat):Prop where
 mi:MI (flt lt) (a.toList++b.toList) out.toList (a.toList.take na).reverse (b.toList.take nb).reverse
 a0:0<na
 a1:na<=a.size
 b0:1<nb
 b1:nb<=b.size
theorem zkb(O:LtOk prog w A E s kd D lt){a b:Array Keyed}{Q:Array Keyed->SortSt->Prop}{st:SortSt}(hk:kindOf st=kd)(haD:∀ x∈a.toList,D x)(hbD:∀ x∈b.toList,D x)(ha:SrtL lt a.toList)(hb:SrtL lt b.toList)(ha1:1<=a.size)(hb1:1<=b.size)
  (h0:∀ y,b[0]? = some y->∀ x∈a.toList,lt x y=false) (hl:∀ x,a[a.size - 1]? = some x->∀ y∈b.toList,lt x y=false)
  (q:∀ (out:Array Keyed) st',MDone lt (a.toList++b.toList) out.toList->sameSt st st'->Q out st'):wpS (model prog w) A E s (zpa a b) Q st:=by
 refine wpS_bind (wpS_lift (wpAny_rule ⟨rfl,?_⟩));obtain⟨x0,ex0,ex0'⟩:=zaV (a:=a) (i:=a.size - 1) (by clear hb1; omega);refine wpS_bind (zO ex0 ?_);have fin2:∀ {τ:Type} (P:Prop) (_:Decidable P) (f g:StateT SortSt Sem τ) (Q':τ->SortSt->Prop) (st':SortSt),wpS (model prog w) A E s f Q' st'->wpS (model prog w) A E s g Q' st'->wpS (model prog w) A E s (if P then f else g) Q' st':=fun P _ f g Q' st' h1 h2=>by
  split
  ·exact h1
  ·exact h2
 have ta:a.toList.take a.size=a.toList:=List.take_of_length_le (by simp);have tb:b.toList.take b.size=b.toList:=List.take_of_length_le (by simp);have m0:MI (flt lt) (a.toList++b.toList) (#[]:Array Keyed).toList (a.toList.take a.size).reverse (b.toList.take b.size).reverse:=by
  refine⟨?_,List.Pairwise.nil,(fun x m=>by cases m),zng ha _,zng hb _⟩;rw [ta,tb];exact(List.reverse_perm _).append (List.reverse_perm _)
 have m1:MI (flt lt) (a.toList++b.toList) (#[x0]:Array Keyed).toList (a.toList.take (a.size - 1)).reverse (b.toList.take b.size).reverse:=by
  have m2:=m0;rw [show a.size=a.size - 1+1 by clear hb1; omega] at m2;have:=zh2 m2 ex0' fun y my=>hl x0 ex0 y (List.mem_of_mem_take (List.mem_reverse.mp my));simpa using this
 by_cases c1:a.size - 1=0
 ·rw [if_pos (by simpa using c1)];exact wpS_pure (q _ _ (zdg c1 m1) sameSt.rfl')
 rw [if_neg (by simpa using c1)];by_cases c2:b.size=1
 ·rw [if_pos (by simpa using c2)];exact wpS_pure (q _ _ (zel h0 c2 hb1 m1) sameSt.rfl')
 rw [if_neg (by simpa using c2)];refine wpS_bind (wpS_get ?_);refine wpS_bind (wpS_mono (wpS_forRange (a:=0)
  (I:=fun k c st'=>sameSt st st'/\∃ out na nb mg,c=(none,na,nb,out,mg)/\HInv lt a b out na nb/\na+nb+k<a.size+b.size)
  (Q:=fun c st'=>sameSt st st'/\∃ (r:Array Keyed),∃ rest,c=(some r,rest)/\MDone lt (a.toList++b.toList) r.toList) ?step ?fin ⟨sameSt.rfl',#[x0],a.size - 1,b.size,_,rfl,⟨m1,by clear c2 hb1 ha1; omega,by clear c2 c1 hb1 ha1; omega,by clear c1 ha1; omega,by clear c2 c1 hb1 ha1; omega⟩,by clear c2 c1 hb1; omega⟩) ?post)
 case fin =>
  rintro c st' ⟨hst,out,na,nb,mg,rfl,hm,hlt⟩
  (clear c2 c1 hb1 ha1; omega)
 case post =>
  rintro c st' ⟨hst,r,rest,rfl,hd⟩;exact wpS_pure (q r st' hd hst)
 case step =>
  rintro k c st' _ hkt ⟨hst,out,na,nb,mg,rfl,hm,hlt⟩;refine wpS_bind (wpS_mono (wpS_forRange (a:=0)
   (I:=fun j c st'=>sameSt st st'/\∃ out' na' nb' ac bc,c=(none,na',nb',out',ac,bc)/\HInv lt a b out' na' nb'/\na'+nb'+j<=na+nb)
   (Q:=fun c st'=>sameSt st st'/\((∃ (r:Array Keyed),∃ rest,c=(some r,rest)/\MDone lt (a.toList++b.toList) r.toList)\/∃ out' na' nb' ac bc,c=(none,na',nb',out',ac,bc)/\HInv lt a b out' na' nb'/\na'+nb'<na+nb)) ?step1 ?fin1 ⟨hst,out,na,nb,0,0,rfl,hm,by clear hlt hkt c2 c1 hb1 ha1; omega⟩) ?post1)
  case fin1 =>
   rintro c st2 ⟨hst2,out',na',nb',ac,bc,rfl,hm',hle⟩;have:=hm'.a0
   (clear this hkt c2 c1 hb1 ha1; omega)
  case step1 =>
   rintro j c st2 _ hj ⟨hst2,out',na',nb',ac,bc,rfl,hm',hle⟩;have z1:=hm'.a0;have z2:=hm'.a1;have z3:=hm'.b0;have z4:=hm'.b1;obtain⟨y,ey,ey'⟩:=zaV (a:=b) (i:=nb' - 1) (by clear z3 z2 z1 hle hj hlt hkt c2 c1 ha1; omega);obtain⟨x,ex,ex'⟩:=zaV (a:=a) (i:=na' - 1) (by clear z4 z3 z1 hle hj hlt hkt c2 c1 hb1; omega);have Dx:=haD x (List.mem_of_getElem? ex');have Dy:=hbD y (List.mem_of_getElem? ey');have hk2:kindOf st2=kd:=hst2.1.trans hk;have mm:=hm'.mi;refine wpS_bind (zO ey (wpS_bind (zO ex (wpS_bind (O.ask y x st2 _ Dy Dx hk2 ?_)))));cases hlt2:lt y x with
   | true =>
    have ms:MI (flt lt) (a.toList++b.toList) (out'.push x).toList (a.toList.take (na' - 1)).reverse (b.toList.take nb').reverse:=by
     rw [show na'=na' - 1+1 by clear z4 z3 z2 hle hj hlt hkt c2 c1 hb1 ha1; omega] at mm;exact zh2 mm ex' fun z mz=>by
      obtain⟨j2,hj2,ez⟩:=zaH mz;exact O.tr z y x (hbD z (List.mem_of_getElem? ez)) Dy Dx (za5 O hb hbD (by clear z4 z3 z2 z1 hle hj hlt hkt c2 c1 hb1 ha1; omega) ez ey') (O.asym y x Dy Dx hlt2)
    simp only [if_true];refine wpS_bind (zO ex ?_);by_cases c3:na' - 1=0
    ·rw [if_pos (by simpa using c3)];exact wpS_pure ⟨hst2,.inl ⟨_,_,rfl,zdg c3 ms⟩⟩
    ·rw [if_neg (by simpa using c3)];have hm2:HInv lt a b (out'.push x) (na' - 1) nb':=⟨ms,by clear z4 z3 z2 z1 hle hj hlt hkt c2 c1 hb1 ha1; omega,by clear c3 z4 z3 z1 hle hj hlt hkt c2 c1 hb1 ha1; omega,z3,z4⟩;refine fin2 _ _ _ _ _ _ ?_ ?_
     ·exact wpS_pure ⟨hst2,.inr ⟨_,_,_,_,_,rfl,hm2,by clear c3 z4 z3 z2 hj hlt hkt c2 c1 hb1 ha1; omega⟩⟩
     ·exact wpS_pure ⟨hst2,_,_,_,_,_,rfl,hm2,by clear c3 z4 z3 z2 hj hlt hkt c2 c1 hb1 ha1; omega⟩
   | false =>
    have ms:MI (flt lt) (a.toList++b.toList) (out'.push y).toList (a.toList.take na').reverse (b.toList.take (nb' - 1)).reverse:=by
     rw [show nb'=nb' - 1+1 by clear z4 z2 z1 hle hj hlt hkt c2 c1 hb1 ha1; omega] at mm;exact zkX mm ey' fun z mz=>by
      obtain⟨j2,hj2,ez⟩:=zaH mz;exact O.tr z x y (haD z (List.mem_of_getElem? ez)) Dx Dy (za5 O ha haD (by clear z4 z3 z2 z1 hle hj hlt hkt c2 c1 hb1 ha1; omega) ez ex') hlt2
    simp only [Bool.false_eq_true,if_false];refine wpS_bind (zO ey ?_);by_cases c3:nb' - 1=1
    ·rw [if_pos (by simpa using c3)];exact wpS_pure ⟨hst2,.inl ⟨_,_,rfl,zel h0 c3 hb1 ms⟩⟩
    ·rw [if_neg (by simpa using c3)];have hm2:HInv lt a b (out'.push y) na' (nb' - 1):=⟨ms,z1,z2,by clear z4 z2 z1 hle hj hlt hkt c2 c1 hb1 ha1; omega,by clear c3 z3 z2 z1 hle hj hlt hkt c2 c1 hb1 ha1; omega⟩;refine fin2 _ _ _ _ _ _ ?_ ?_
     ·exact wpS_pure ⟨hst2,.inr ⟨_,_,_,_,_,rfl,hm2,by clear c3 z4 z2 z1 hj hlt hkt c2 c1 hb1 ha1; omega⟩⟩
     ·exact wpS_pure ⟨hst2,_,_,_,_,_,rfl,hm2,by clear c3 z4 z2 z1 hj hlt hkt c2 c1 hb1 ha1; omega⟩
  case post1 =>
   rintro c st2 ⟨hst2,hc⟩;rcases hc with ⟨r,rest,rfl,hd⟩ | ⟨out',na',nb',ac,bc,rfl,hm',hle⟩
   ·dsimp only;exact wpS_pure ⟨hst2,_,_,rfl,hd⟩
   ·dsimp only;refine wpS_bind (wpS_lift (wpAny_rule ⟨rfl,?_⟩));refine wpS_bind (wpS_mono (wpS_forRange (a:=0)
     (I:=fun j c st'=>sameSt st st'/\∃ out2 na2 nb2 mg2 ac2 bc2,c=(none,na2,nb2,out2,mg2,ac2,bc2)/\HInv lt a b out2 na2 nb2/\na2+nb2+j<=na'+nb')
     (Q:=fun c st'=>sameSt st st'/\((∃ (r:Array Keyed),∃ rest,c=(some r,rest)/\MDone lt (a.toList++b.toList) r.toList)\/∃ out2 na2 nb2 mg2 ac2 bc2,c=(none,na2,nb2,out2,mg2,ac2,bc2)/\HInv lt a b out2 na2 nb2/\na2+nb2<=na'+nb')) ?step2 ?fin2 ⟨hst2,out',na',nb',_,_,_,rfl,hm',by clear hle hlt hkt c2 c1 hb1 ha1; omega⟩) ?post2)
    case fin2 =>
     rintro c st3 ⟨hst3,out2,na2,nb2,mg2,ac2,bc2,rfl,hm2,hle2⟩;have:=hm2.a0;have:=hm'.a1;have:=hm'.b1
     (clear this hkt c2 c1 hb1 ha1; omega)
    case post2 =>
     rintro c st3 ⟨hst3,hc⟩;rcases hc with ⟨r,rest,rfl,hd⟩ | ⟨out2,na2,nb2,mg2,ac2,bc2,rfl,hm2,hle2⟩
     ·dsimp only;exact wpS_pure ⟨hst3,_,_,rfl,hd⟩
     ·dsimp only;refine wpS_bind (wpS_modify (wpS_pure ⟨⟨hst3.1,hst3.2.1,hst3.2.2.1,hst3.2.2.2⟩,out2,na2,nb2,_,rfl,hm2,by clear hkt c2 c1 hb1 ha1; omega⟩))
    case step2 =>
     rintro j c st3 _ hj ⟨hst3,out2,na2,nb2,mg2,ac2,bc2,rfl,hm2,hle2⟩;have z1:=hm2.a0;have z2:=hm2.a1;have z3:=hm2.b0;have z4:=hm2.b1;obtain⟨y,ey,ey'⟩:=zaV (a:=b) (i:=nb2 - 1) (by clear z3 z2 z1 hle2 hj hle hlt hkt c2 c1 ha1; omega);have Dy:=hbD y (List.mem_of_getElem? ey');have aD:∀ j,j<a.size->∃ x,a[j]? = some x/\D x:=fun j hj=>by
      obtain⟨x,e,e'⟩:=zaV (a:=a) hj;exact⟨x,e,haD x (List.mem_of_getElem? e')⟩
     have bD:∀ j,j<b.size->∃ x,b[j]? = some x/\D x:=fun j hj=>by
      obtain⟨x,e,e'⟩:=zaV (a:=b) hj;exact⟨x,e,hbD x (List.mem_of_getElem? e')⟩
     dsimp only;refine fin3 (C:=?C3) ?f3 ?g3 ?h3
     case f3=>intro h; generalize mg2 - 1=m0; revert m0; exact h
     case g3=>intro h; generalize mg2=m0; revert m0; exact h
     intro m0
     all_goals
      refine wpS_bind (wpS_modify ?_);refine wpS_bind (zO ey ?_);refine wpS_bind (gal O (hst3.1.trans hk) Dy (fun j h1 h2=>aD j (by clear h1 z4 z3 z1 hle2 hj hle hlt hkt c2 c1 hb1 ha1; omega)) (fun i j x z h1 h2 h3 e1 e2=>za5 O ha haD h2 (zat.mp e1) (zat.mp e2)) (by clear z4 z3 z2 hle2 hj hle hlt hkt c2 c1 hb1 ha1; omega) fun k1 hk1 g1 g2=>?_);dsimp only;have hst4:sameSt st st3:=hst3;have bl:MI (flt lt) (a.toList++b.toList) (out2++(a.extract k1 na2).reverse).toList (a.toList.take k1).reverse (b.toList.take nb2).reverse:=znG hm2.mi hk1 fun j x h1 h2 e z mz=>by
       have:=g2 j x (by clear h2 hk1 z4 z3 z2 z1 hle2 hj hle hlt hkt c2 c1 hb1 ha1; omega) (by clear h1 hk1 z4 z3 z2 z1 hle2 hj hle hlt hkt c2 c1 hb1 ha1; omega) (zat.mpr e);obtain⟨j2,hj2,ez⟩:=zaH mz;have Dx:=haD x (List.mem_of_getElem? e);have l1:lt y x=true:=by simpa [bey] using this
       exact O.tr z y x (hbD z (List.mem_of_getElem? ez)) Dy Dx (za5 O hb hbD (by clear h2 h1 hk1 z4 z3 z2 z1 hle2 hj hle hlt hkt c2 c1 hb1 ha1; omega) ez ey') (O.asym y x Dy Dx l1)
      have gt:∀ x∈(a.toList.take k1).reverse,lt y x=false:=fun x mx=>by
       obtain⟨j2,hj2,ex⟩:=zaH mx;have:=g1 j2 x (by clear hj2 hk1 z4 z3 z2 z1 hle2 hj hle hlt hkt c2 c1 hb1 ha1; omega) (by clear hk1 z4 z3 z2 z1 hle2 hj hle hlt hkt c2 c1 hb1 ha1; omega) (zat.mpr ex);simpa [bey] using this
      by_cases c5:na2 - k1>0
      ·rw [if_pos c5];by_cases c6:k1=0
       ·rw [if_pos (by simpa using c6)];exact wpS_pure ⟨hst4,.inl ⟨_,_,rfl,zdg c6 bl⟩⟩
       rw [if_neg (by simpa using c6)];refine wpS_bind (zO ey ?_);have mb:MI (flt lt) (a.toList++b.toList) ((out2++(a.extract k1 na2).reverse).push y).toList (a.toList.take k1).reverse (b.toList.take (nb2 - 1)).reverse:=zjE (by clear c6 c5 hk1 z4 z2 z1 hle2 hj hle hlt hkt c2 c1 hb1 ha1; omega) bl ey' gt;by_cases d1:nb2 - 1=1
       ·rw [if_pos (by simpa using d1)];exact wpS_pure ⟨hst4,.inl ⟨_,_,rfl,zel h0 d1 hb1 mb⟩⟩
       rw [if_neg (by simpa using d1)];obtain⟨x,ex,ex'⟩:=zaV (a:=a) (i:=k1 - 1) (by clear d1 c6 c5 z4 z3 z1 hle2 hj hle hlt hkt c2 c1 hb1; omega);have Dx:=haD x (List.mem_of_getElem? ex');refine wpS_bind (zO ex ?_);refine wpS_bind (gal O (hst3.1.trans hk) Dx (fun j h1 h2=>bD j (by clear h1 d1 c6 c5 hk1 z3 z2 z1 hle2 hj hle hlt hkt c2 c1 hb1 ha1; omega)) (fun i j x z h1 h2 h3 e1 e2=>za5 O hb hbD h2 (zat.mp e1) (zat.mp e2)) (by clear d1 c6 c5 hk1 z4 z2 z1 hle2 hj hle hlt hkt c2 c1 hb1 ha1; omega) fun k2 hk2 f1 f2=>?_);dsimp only;have bb:=zjb (k:=k2) mb hk2 fun j z h1 h2 e x2 mx2=>by
        have:=f2 j z (by clear h2 hk2 d1 c6 c5 hk1 z4 z3 z2 z1 hle2 hj hle hlt hkt c2 c1 hb1 ha1; omega) (by clear h1 hk2 d1 c6 c5 hk1 z4 z3 z2 z1 hle2 hj hle hlt hkt c2 c1 hb1 ha1; omega) (zat.mpr e);obtain⟨j2,hj2,ex2⟩:=zaH mx2;have Dz:=hbD z (List.mem_of_getElem? e);have l1:lt z x=false:=by simpa [bey] using this
        exact O.tr x2 x z (haD x2 (List.mem_of_getElem? ex2)) Dx Dz (za5 O ha haD (by clear h2 h1 hk2 d1 c6 c5 hk1 z4 z3 z2 z1 hle2 hj hle hlt hkt c2 c1 hb1 ha1; omega) ex2 ex') l1
       have gb:∀ z∈(b.toList.take k2).reverse,lt x z=false:=fun z mz=>by
        obtain⟨j2,hj2,ez⟩:=zaH mz;have:=f1 j2 z (by clear hj2 hk2 d1 c6 c5 hk1 z4 z3 z2 z1 hle2 hj hle hlt hkt c2 c1 hb1 ha1; omega) (by clear hk2 d1 c6 c5 hk1 z4 z3 z2 z1 hle2 hj hle hlt hkt c2 c1 hb1 ha1; omega) (zat.mpr ez);have l1:lt z x=true:=by simpa [bey] using this
        exact O.asym z x (hbD z (List.mem_of_getElem? ez)) Dx l1
       by_cases d2:nb2 - 1 - k2>0
       ·rw [if_pos d2];by_cases d3:k2=1
        ·rw [if_pos (by simpa using d3)];exact wpS_pure ⟨hst4,.inl ⟨_,_,rfl,zel h0 d3 hb1 bb⟩⟩
        rw [if_neg (by simpa using d3)];by_cases d5:k2=0
        ·rw [if_pos (by simpa using d5)];exact wpS_pure ⟨hst4,.inl ⟨_,_,rfl,zk8 d5 bb⟩⟩
        rw [if_neg (by simpa using d5)];refine wpS_bind (zO ex ?_);have mf:MI (flt lt) (a.toList++b.toList) (((out2++(a.extract k1 na2).reverse).push y++(b.extract k2 (nb2 - 1)).reverse).push x).toList (a.toList.take (k1 - 1)).reverse (b.toList.take k2).reverse:=zfo (by clear d5 d3 d2 hk2 d1 c5 hk1 z4 z3 z2 z1 hle2 hj hle hlt hkt c2 c1 hb1 ha1; omega) bb ex' gb;by_cases d4:k1 - 1=0
        ·rw [if_pos (by simpa using d4)];exact wpS_pure ⟨hst4,.inl ⟨_,_,rfl,zdg d4 mf⟩⟩
        rw [if_neg (by simpa using d4)];refine fin2 _ _ _ _ _ _ ?_ ?_
        ·exact wpS_pure ⟨hst4,.inr ⟨_,_,_,_,_,_,rfl,⟨mf,by clear d5 d3 d2 hk2 d1 c6 c5 hk1 z4 z3 z2 z1 hle2 hj hle hlt hkt c2 c1 hb1 ha1; omega,by clear d4 d5 d3 d2 hk2 d1 c6 c5 z4 z3 z1 hle2 hj hle hlt hkt c2 c1 hb1 ha1; omega,by clear d4 d2 hk2 d1 c6 c5 hk1 z4 z3 z2 z1 hle2 hj hle hlt hkt c2 c1 hb1 ha1; omega,by clear d4 d5 d3 d2 d1 c6 c5 hk1 z3 z2 z1 hle2 hj hle hlt hkt c2 c1 hb1 ha1; omega⟩,by clear d4 d5 d3 d2 d1 c6 c5 z4 z3 z2 z1 hj hle hlt hkt c2 c1 hb1 ha1; omega⟩⟩
        ·exact wpS_pure ⟨hst4,_,_,_,_,_,_,rfl,⟨mf,by clear d5 d3 d2 hk2 d1 c6 c5 hk1 z4 z3 z2 z1 hle2 hj hle hlt hkt c2 c1 hb1 ha1; omega,by clear d4 d5 d3 d2 hk2 d1 c6 c5 z4 z3 z1 hle2 hj hle hlt hkt c2 c1 hb1 ha1; omega,by clear d4 d2 hk2 d1 c6 c5 hk1 z4 z3 z2 z1 hle2 hj hle hlt hkt c2 c1 hb1 ha1; omega,by clear d4 d5 d3 d2 d1 c6 c5 hk1 z3 z2 z1 hle2 hj hle hlt hkt c2 c1 hb1 ha1; omega⟩,by clear d4 d5 d3 d2 d1 c6 c5 z4 z3 z2 hj hle hlt hkt c2 c1 hb1 ha1; omega⟩
       ·rw [if_neg d2];have k0':k2=nb2 - 1:=by clear d1 c6 c5 hk1 z4 z3 z2 z1 hle2 hj hle hlt hkt c2 c1 hb1 ha1; omega
        subst k0';have ee:∀ o:Array Keyed,o++(b.extract (nb2 - 1) (nb2 - 1)).reverse=o:=fun o=>by
         have:b.extract (nb2 - 1) (nb2 - 1+0) = #[]:=zfp b _;rw [Nat.add_zero] at this;rw [this];simp
        rw [ee] at bb;refine wpS_bind (zO ex ?_);have mf:MI (flt lt) (a.toList++b.toList) (((out2++(a.extract k1 na2).reverse).push y).push x).toList (a.toList.take (k1 - 1)).reverse (b.toList.take (nb2 - 1)).reverse:=zfo (by clear d2 hk2 d1 c5 hk1 z4 z3 z2 z1 hle2 hj hle hlt hkt c2 c1 hb1 ha1; omega) bb ex' gb;by_cases d4:k1 - 1=0
        ·rw [if_pos (by simpa using d4)];exact wpS_pure ⟨hst4,.inl ⟨_,_,rfl,zdg d4 mf⟩⟩
        rw [if_neg (by simpa using d4)];refine fin2 _ _ _ _ _ _ ?_ ?_
        ·exact wpS_pure ⟨hst4,.inr ⟨_,_,_,_,_,_,rfl,⟨mf,by clear d2 hk2 d1 c6 c5 hk1 z4 z3 z2 z1 hle2 hj hle hlt hkt c2 c1 hb1 ha1; omega,by clear d4 d2 hk2 d1 c6 c5 z4 z3 z1 hle2 hj hle hlt hkt c2 c1 hb1 ha1; omega,by clear d4 d2 hk2 c6 c5 hk1 z4 z2 z1 hle2 hj hle hlt hkt c2 c1 hb1 ha1; omega,by clear d4 d2 hk2 d1 c6 c5 hk1 z3 z2 z1 hle2 hj hle hlt hkt c2 c1 hb1 ha1; omega⟩,by clear d4 d2 hk2 d1 c6 c5 z4 z3 z2 z1 hj hle hlt hkt c2 c1 hb1 ha1; omega⟩⟩
        ·exact wpS_pure ⟨hst4,_,_,_,_,_,_,rfl,⟨mf,by clear d2 hk2 d1 c6 c5 hk1 z4 z3 z2 z1 hle2 hj hle hlt hkt c2 c1 hb1 ha1; omega,by clear d4 d2 hk2 d1 c6 c5 z4 z3 z1 hle2 hj hle hlt hkt c2 c1 hb1 ha1; omega,by clear d4 d2 hk2 c6 c5 hk1 z4 z2 z1 hle2 hj hle hlt hkt c2 c1 hb1 ha1; omega,by clear d4 d2 hk2 d1 c6 c5 hk1 z3 z2 z1 hle2 hj hle hlt hkt c2 c1 hb1 ha1; omega⟩,by clear d4 d2 hk2 d1 c6 c5 z4 z3 z2 hj hle hlt hkt c2 c1 hb1 ha1; omega⟩
      ·rw [if_neg c5];have k0:k1=na2:=by clear z4 z3 z2 z1 hle2 hj hle hlt hkt c2 c1 hb1 ha1; omega
       subst k0;have ez0:∀ o:Array Keyed,o++(a.extract k1 k1).reverse=o:=fun o=>by
        have:a.extract k1 (k1+0) = #[]:=zfp a k1;rw [Nat.add_zero] at this;rw [this];simp
       rw [ez0] at bl;refine wpS_bind (zO ey ?_);have mb:MI (flt lt) (a.toList++b.toList) (out2.push y).toList (a.toList.take k1).reverse (b.toList.take (nb2 - 1)).reverse:=zjE (by clear c5 hk1 z2 z1 hle2 z4 hj hle hlt hkt c2 c1 hb1 ha1; omega) bl ey' gt;by_cases d1:nb2 - 1=1
       ·rw [if_pos (by simpa using d1)];exact wpS_pure ⟨hst4,.inl ⟨_,_,rfl,zel h0 d1 hb1 mb⟩⟩
       rw [if_neg (by simpa using d1)];obtain⟨x,ex,ex'⟩:=zaV (a:=a) (i:=k1 - 1) (by clear d1 c5 hk1 z1 hle2 z4 z3 hj hle hlt hkt c2 c1 hb1; omega);have Dx:=haD x (List.mem_of_getElem? ex');refine wpS_bind (zO ex ?_);refine wpS_bind (gal O (hst3.1.trans hk) Dx (fun j h1 h2=>bD j (by clear h1 d1 c5 hk1 z2 z1 hle2 z3 hj hle hlt hkt c2 c1 hb1 ha1; omega)) (fun i j x z h1 h2 h3 e1 e2=>za5 O hb hbD h2 (zat.mp e1) (zat.mp e2)) (by clear d1 c5 hk1 z2 z1 hle2 z4 hj hle hlt hkt c2 c1 hb1 ha1; omega) fun k2 hk2 f1 f2=>?_);dsimp only;have bb:=zjb (k:=k2) mb hk2 fun j z h1 h2 e x2 mx2=>by
        have:=f2 j z (by clear h2 hk2 d1 c5 hk1 z2 z1 hle2 z4 z3 hj hle hlt hkt c2 c1 hb1 ha1; omega) (by clear h1 hk2 d1 c5 hk1 z2 z1 hle2 z4 z3 hj hle hlt hkt c2 c1 hb1 ha1; omega) (zat.mpr e);obtain⟨j2,hj2,ex2⟩:=zaH mx2;have Dz:=hbD z (List.mem_of_getElem? e);have l1:lt z x=false:=by simpa [bey] using this
        exact O.tr x2 x z (haD x2 (List.mem_of_getElem? ex2)) Dx Dz (za5 O ha haD (by clear h2 h1 hk2 d1 c5 hk1 z2 z1 hle2 z4 z3 hj hle hlt hkt c2 c1 hb1 ha1; omega) ex2 ex') l1
       have gb:∀ z∈(b.toList.take k2).reverse,lt x z=false:=fun z mz=>by
        obtain⟨j2,hj2,ez⟩:=zaH mz;have:=f1 j2 z (by clear hj2 hk2 d1 c5 hk1 z2 z1 hle2 z4 z3 hj hle hlt hkt c2 c1 hb1 ha1; omega) (by clear hk2 d1 c5 hk1 z2 z1 hle2 z4 z3 hj hle hlt hkt c2 c1 hb1 ha1; omega) (zat.mpr ez);have l1:lt z x=true:=by simpa [bey] using this
        exact O.asym z x (hbD z (List.mem_of_getElem? ez)) Dx l1
       by_cases d2:nb2 - 1 - k2>0
       ·rw [if_pos d2];by_cases d3:k2=1
        ·rw [if_pos (by simpa using d3)];exact wpS_pure ⟨hst4,.inl ⟨_,_,rfl,zel h0 d3 hb1 bb⟩⟩
        rw [if_neg (by simpa using d3)];by_cases d5:k2=0
        ·rw [if_pos (by simpa using d5)];exact wpS_pure ⟨hst4,.inl ⟨_,_,rfl,zk8 d5 bb⟩⟩
        rw [if_neg (by simpa using d5)];refine wpS_bind (zO ex ?_);have mf:MI (flt lt) (a.toList++b.toList) ((out2.push y++(b.extract k2 (nb2 - 1)).reverse).push x).toList (a.toList.take (k1 - 1)).reverse (b.toList.take k2).reverse:=zfo (by clear d5 d3 d2 hk2 d1 c5 hk1 z2 hle2 z4 z3 hj hle hlt hkt c2 c1 hb1 ha1; omega) bb ex' gb;by_cases d4:k1 - 1=0
        ·rw [if_pos (by simpa using d4)];exact wpS_pure ⟨hst4,.inl ⟨_,_,rfl,zdg d4 mf⟩⟩
        rw [if_neg (by simpa using d4)];refine fin2 _ _ _ _ _ _ ?_ ?_
        ·exact wpS_pure ⟨hst4,.inr ⟨_,_,_,_,_,_,rfl,⟨mf,by clear d5 d3 d2 hk2 d1 c5 hk1 z2 z1 hle2 z4 z3 hj hle hlt hkt c2 c1 hb1 ha1; omega,by clear d4 d5 d3 d2 hk2 d1 c5 hk1 z1 hle2 z4 z3 hj hle hlt hkt c2 c1 hb1 ha1; omega,by clear d4 d2 hk2 d1 c5 hk1 z2 z1 hle2 z4 z3 hj hle hlt hkt c2 c1 hb1 ha1; omega,by clear d4 d5 d3 d2 d1 c5 hk1 z2 z1 hle2 z3 hj hle hlt hkt c2 c1 hb1 ha1; omega⟩,by clear d4 d5 d3 d2 d1 c5 hk1 z2 z1 z4 z3 hj hle hlt hkt c2 c1 hb1 ha1; omega⟩⟩
        ·exact wpS_pure ⟨hst4,_,_,_,_,_,_,rfl,⟨mf,by clear d5 d3 d2 hk2 d1 c5 hk1 z2 z1 hle2 z4 z3 hj hle hlt hkt c2 c1 hb1 ha1; omega,by clear d4 d5 d3 d2 hk2 d1 c5 hk1 z1 hle2 z4 z3 hj hle hlt hkt c2 c1 hb1 ha1; omega,by clear d4 d2 hk2 d1 c5 hk1 z2 z1 hle2 z4 z3 hj hle hlt hkt c2 c1 hb1 ha1; omega,by clear d4 d5 d3 d2 d1 c5 hk1 z2 z1 hle2 z3 hj hle hlt hkt c2 c1 hb1 ha1; omega⟩,by clear d4 d5 d3 d2 d1 c5 hk1 z2 z1 z4 hj hle hlt hkt c2 c1 hb1 ha1; omega⟩
       ·rw [if_neg d2];have k0':k2=nb2 - 1:=by clear d1 c5 hk1 z2 z1 hle2 z4 z3 hj hle hlt hkt c2 c1 hb1 ha1; omega
        subst k0';have ee:∀ o:Array Keyed,o++(b.extract (nb2 - 1) (nb2 - 1)).reverse=o:=fun o=>by
         have:b.extract (nb2 - 1) (nb2 - 1+0) = #[]:=zfp b _;rw [Nat.add_zero] at this;rw [this];simp
        rw [ee] at bb;refine wpS_bind (zO ex ?_);have mf:MI (flt lt) (a.toList++b.toList) ((out2.push y).push x).toList (a.toList.take (k1 - 1)).reverse (b.toList.take (nb2 - 1)).reverse:=zfo (by clear d2 hk2 d1 c5 hk1 z2 hle2 z4 z3 hj hle hlt hkt c2 c1 hb1 ha1; omega) bb ex' gb;by_cases d4:k1 - 1=0
        ·rw [if_pos (by simpa using d4)];exact wpS_pure ⟨hst4,.inl ⟨_,_,rfl,zdg d4 mf⟩⟩
        rw [if_neg (by simpa using d4)];refine fin2 _ _ _ _ _ _ ?_ ?_
        ·exact wpS_pure ⟨hst4,.inr ⟨_,_,_,_,_,_,rfl,⟨mf,by clear d2 hk2 d1 c5 hk1 z2 z1 hle2 z4 z3 hj hle hlt hkt c2 c1 hb1 ha1; omega,by clear d4 d2 hk2 d1 c5 hk1 z1 hle2 z4 z3 hj hle hlt hkt c2 c1 hb1 ha1; omega,by clear d4 d2 hk2 c5 hk1 z2 z1 hle2 z4 hj hle hlt hkt c2 c1 hb1 ha1; omega,by clear d4 d2 hk2 d1 c5 hk1 z2 z1 hle2 z3 hj hle hlt hkt c2 c1 hb1 ha1; omega⟩,by clear d4 d2 hk2 d1 c5 hk1 z2 z1 z4 z3 hj hle hlt hkt c2 c1 hb1 ha1; omega⟩⟩
        ·exact wpS_pure ⟨hst4,_,_,_,_,_,_,rfl,⟨mf,by clear d2 hk2 d1 c5 hk1 z2 z1 hle2 z4 z3 hj hle hlt hkt c2 c1 hb1 ha1; omega,by clear d4 d2 hk2 d1 c5 hk1 z1 hle2 z4 z3 hj hle hlt hkt c2 c1 hb1 ha1; omega,by clear d4 d2 hk2 c5 hk1 z2 z1 hle2 z4 hj hle hlt hkt c2 c1 hb1 ha1; omega,by clear d4 d2 hk2 d1 c5 hk1 z2 z1 hle2 z3 hj hle hlt hkt c2 c1 hb1 ha1; omega⟩,by clear d4 d2 hk2 d1 c5 hk1 z2 z1 z4 hj hle hlt hkt c2 c1 hb1 ha1; omega⟩
def G(xs:Array Keyed)(i:Nat):Keyed:=(xs[i]?).getD (.none,.none)
theorem zt5{xs:Array Keyed}{i:Nat}(h:i<xs.size):xs[i]? = some (G xs i):=by unfold G; simp [h]
def Sg(lt:Keyed->Keyed->Bool)(xs:Array Keyed)(lo hi:Nat):Prop:=∀ i j,lo<=i->i<=j->j<hi->lt (G xs j) (G xs i)=false
structure Tb(kd:SortKind)(D:Keyed->Prop)(a₀:Array Keyed)(lo:Nat)(st0 st:SortSt):Prop where
 kd:kindOf st=kd
 fl:failedOf st=none
 pm:(arrOf st).Perm a₀
 pe:pendingOf st=pendingOf st0
 lo:∀ i,i<lo->G (arrOf st) i=G (arrOf st0) i
 d:∀ x∈a₀.toList,D x
section
variable {a₀:Array Keyed} {lo:Nat} {st0 st st':SortSt}
theorem Tb.size(h:Tb kd D a₀ lo st0 st):(arrOf st).size=a₀.size:=h.pm.size_eq
theorem Tb.at(h:Tb kd D a₀ lo st0 st){i:Nat}(hi:i<a₀.size):(arrOf st)[i]? = some (G (arrOf st) i):=zt5 (by rw [h.size]; exact hi)
theorem Tb.dd(h:Tb kd D a₀ lo st0 st){i:Nat}(hi:i<a₀.size):D (G (arrOf st) i):=by
 have e:=h.at hi;have m:G (arrOf st) i∈(arrOf st).toList:=List.mem_of_getElem? (by rw [<- zat]; exact e);exact h.d _ ((Array.perm_iff_toList_perm.mp h.pm).mem_iff.mp m)
theorem zcA(O:LtOk prog w A E s kd D lt)(h:Tb kd D a₀ lo st0 st){i j:Nat}{Q:Option Bool->SortSt->Prop}(hi:i<a₀.size)(hj:j<a₀.size)(q:Q (some (lt (G (arrOf st) i) (G (arrOf st) j))) st):wpS (model prog w) A E s (ltAt' i j) Q st:=by
 rw [ltAt'_eq];refine wpS_bind (wpS_get ?_);refine wpS_bind (zO (h.at hi) (wpS_bind (zO (h.at hj) ?_)));exact O.ask _ _ _ _ (h.dd hi) (h.dd hj) h.kd q
theorem zdv{xs:Array Keyed}{i j k:Nat}(hj:j<=xs.size):G (mirror xs i j ((j - i) / 2)) k=if i<=k/\k<j then G xs (i+j - 1 - k) else G xs k:=by
 unfold G;rw [getElem?_mirror_all hj];split <;> rfl
theorem ziL{xs:Array Keyed}{src d k:Nat}(hs:src<xs.size)(hd:d<=src):G (bubble xs src d) k=if k=src - d then G xs src else if src - d<k/\k<=src then G xs (k - 1) else G xs k:=by
 unfold G;rw [getElem?_bubble hs d hd];split
 ·rfl
 ·split <;> rfl
theorem Tb.mirror(h:Tb kd D a₀ lo st0 st){i j:Nat}(hi:lo<=i)(hj:j<=a₀.size):Tb kd D a₀ lo st0 (setArr st (mirror (arrOf st) i j ((j - i) / 2))):=by
 refine⟨h.kd,h.fl,(mirror_perm _ _ _ _).trans h.pm,h.pe,fun k hk=>?_,h.d⟩;show G (PyProof.Rows.mirror (arrOf st) i j ((j - i) / 2)) k=_;rw [zdv (by rw [h.size]; exact hj),if_neg (by omega)];exact h.lo k hk
theorem Tb.bubble(h:Tb kd D a₀ lo st0 st){src d:Nat}(hs:src<a₀.size)(hd:d<=src)(hl:lo<=src - d):Tb kd D a₀ lo st0 (setArr st (bubble (arrOf st) src d)):=by
 refine⟨h.kd,h.fl,(bubble_perm _ _ _).trans h.pm,h.pe,fun k hk=>?_,h.d⟩;show G (PyProof.Rows.bubble (arrOf st) src d) k=_;rw [ziL (by rw [h.size]; exact hs) hd,if_neg (by omega),if_neg (by omega)];exact h.lo k hk
theorem zdn{i j:Nat}{Q:Unit->SortSt->Prop}(q:Q () (setArr st (mirror (arrOf st) i j ((j - i) / 2)))):wpS (model prog w) A E s (reverseSlice' i j) Q st:=by
 rw [reverseSlice'_eq];exact wpS_modify q
theorem Sg.more(O:LtOk prog w A E s kd D lt)(h:Tb kd D a₀ lo st0 st){l n:Nat}(hn:n<a₀.size)(hl:l<n)(hs:Sg lt (arrOf st) l n)(h1:lt (G (arrOf st) n) (G (arrOf st) (n - 1))=false):Sg lt (arrOf st) l (n+1):=fun i j hi hij hj=>by
 by_cases e:j<n
 ·exact hs i j hi hij e
 ·have ej:j=n:=by omega
  subst ej;by_cases e2:i=j
  ·rw [e2]; exact O.irr (h.dd hn)
  ·exact O.tr _ (G (arrOf st) (j - 1)) _ (h.dd (by omega)) (h.dd (by omega)) (h.dd hn) (hs i (j - 1) hi (by omega) (by omega)) h1
theorem Sg.one(O:LtOk prog w A E s kd D lt)(h:Tb kd D a₀ lo st0 st){l:Nat}(hn:l<a₀.size):Sg lt (arrOf st) l (l+1):=fun i j hi hij hj=>by
 have e1:i=l:=by clear hn; omega
 have e2:j=l:=by clear e1 hn; omega
 rw [e1,e2];exact O.irr (h.dd hn)
def Fg(lt:Keyed->Keyed->Bool)(xs:Array Keyed)(lo hi:Nat):Prop:=∀ i j,lo<=i->i<=j->j<hi->lt (G xs i) (G xs j)=false
theorem ze6{xs:Array Keyed}{l n:Nat}(hn:n<=xs.size)(hs:Fg lt xs l n):Sg lt (mirror xs l n ((n - l) / 2)) l n:=fun i j hi hij hj=>by
 rw [zdv hn,zdv hn,if_pos (by clear hn; omega),if_pos (by clear hn; omega)];exact hs _ _ (by clear hij hi hn; omega) (by clear hj hi hn; omega) (by clear hij hn; omega)
end
def Eg(lt:Keyed->Keyed->Bool)(xs:Array Keyed)(lo hi:Nat):Prop:=∀ i j,lo<=i->i<hi->lo<=j->j<hi->lt (G xs i) (G xs j)=false
theorem zi2{xs:Array Keyed}{l i n:Nat}(hn:n<=xs.size)(hl:l<=i)(hf:Fg lt xs l n)(he:Eg lt xs i n):Fg lt (mirror xs i n ((n - i) / 2)) l n:=fun p q hp hpq hq=>by
 rw [zdv hn,zdv hn];by_cases h1:i<=p
 ·rw [if_pos (by clear hp hl hn; omega),if_pos (by clear hp hl hn; omega)];exact he _ _ (by clear h1 hp hl hn; omega) (by clear hpq hp hl hn; omega) (by clear h1 hpq hp hl hn; omega) (by clear hp hl hn; omega)
 ·rw [if_neg (by clear hq hpq hp hl hn; omega)];by_cases h2:i<=q
  ·rw [if_pos (by clear h1 hpq hp hl hn; omega)];exact hf _ _ hp (by clear h2 hpq hp hl hn; omega) (by clear h1 hpq hp hl hn; omega)
  ·rw [if_neg (by clear h1 hq hpq hp hl hn; omega)];exact hf p q hp hpq hq
theorem zd8{xs:Array Keyed}{i n k:Nat}(hn:n<=xs.size)(hk:n<=k):G (mirror xs i n ((n - i) / 2)) k=G xs k:=by
 rw [zdv hn,if_neg (by clear hn; omega)]
theorem zdG{xs:Array Keyed}{i n:Nat}(hn:n<=xs.size)(hi:i<n):G (mirror xs i n ((n - i) / 2)) (n - 1)=G xs i:=by
 rw [zdv hn,if_pos (by clear hn; omega)];congr 1
 (clear hn; omega)
theorem zec(O:LtOk prog w A E s kd D lt){a₀:Array Keyed}{lo:Nat}{st0 st:SortSt}(h:Tb kd D a₀ lo st0 st){l n:Nat}(hn:n<a₀.size)(hl:l<n)(hs:Fg lt (arrOf st) l n)(h1:lt (G (arrOf st) (n - 1)) (G (arrOf st) n)=false):Fg lt (arrOf st) l (n+1):=fun i j hi hij hj=>by
 by_cases e:j<n
 ·exact hs i j hi hij e
 ·have ej:j=n:=by omega
  subst ej;by_cases e2:i=j
  ·rw [e2]; exact O.irr (h.dd hn)
  ·exact O.tr _ (G (arrOf st) (j - 1)) _ (h.dd hn) (h.dd (by omega)) (h.dd (by omega)) h1 (hs i (j - 1) hi (by omega) (by omega))
theorem zoc(O:LtOk prog w A E s kd D lt){a₀:Array Keyed}{lo nrem:Nat}{st0 st:SortSt}{Q:Option Nat->SortSt->Prop}(h:Tb kd D a₀ lo st0 st)(hn:lo+nrem<=a₀.size)(h1:1<=nrem)
  (q:∀ m st',Tb kd D a₀ lo st0 st'->1<=m->m<=nrem->Sg lt (arrOf st') lo (lo+m)->Q (some m) st'):wpS (model prog w) A E s (countRun' lo nrem) Q st:=by
 refine wpS_bind (wpS_mono (wpS_forRange (a:=1)
  (I:=fun k c st'=>st'=st/\c=(none,k)/\Sg lt (arrOf st) lo (lo+k))
  (Q:=fun c st'=>st'=st/\∃ n,c=(none,n)/\1<=n/\n<=nrem/\Sg lt (arrOf st) lo (lo+n)/\(n=nrem\/lt (G (arrOf st) (lo+n)) (G (arrOf st) (lo+n - 1))=true)) ?step ?fin ⟨rfl,rfl,Sg.one O h (by omega)⟩) ?post)
 case fin =>
  rintro c st' ⟨rfl,rfl,hs⟩;rw [show max 1 nrem=nrem by clear hn; omega] at hs ⊢;exact⟨rfl,nrem,rfl,h1,Nat.le_refl _,hs,.inl rfl⟩
 case step =>
  rintro k c st' hk1 hk2 ⟨rfl,rfl,hs⟩;refine wpS_bind (zcA O h (i:=lo+k) (j:=lo+k - 1) (by clear hk1 h1; omega) (by clear hk1 h1; omega) ?_);cases e:lt (G (arrOf st') (lo+k)) (G (arrOf st') (lo+k - 1)) with
  | true =>
   simp only [if_true];exact wpS_pure ⟨rfl,k,rfl,hk1,by clear hk1 h1 hn; omega,hs,.inr e⟩
  | false =>
   simp only [Bool.false_eq_true,if_false];refine wpS_pure ⟨rfl,rfl,?_⟩;exact Sg.more (n:=lo+k) O h (by clear hk1 h1; omega) (by clear hk2 h1 hn; omega) hs e
 case post =>
  rintro c st' ⟨rfl,n,rfl,n1,n2,hs,hor⟩;dsimp only;by_cases hnn:n=nrem
  ·rw [if_pos (by simpa using hnn)];exact wpS_pure (q n st' h n1 n2 hs)
  rw [if_neg (by simpa using hnn)];have hlt:=hor.resolve_left hnn;by_cases hgt:n>1
  ·rw [if_pos hgt];refine wpS_bind (zcA O h (i:=lo) (j:=lo+n - 1) (by clear hgt hnn hor n2 n1; omega) (by clear hgt hnn hor n1; omega) ?_);cases e0:lt (G (arrOf st') lo) (G (arrOf st') (lo+n - 1)) with
   | true =>
    simp only [if_true];exact wpS_pure (q n st' h n1 n2 hs)
   | false =>
    simp only [Bool.false_eq_true,if_false];have hsz:lo+n<=(arrOf st').size:=by rw [h.size]; (clear hgt hnn hor n1 h1; omega)
    have hal:∀ p q,lo<=p->p<lo+n->lo<=q->q<lo+n->lt (G (arrOf st') p) (G (arrOf st') q)=false:=fun p q p1 p2 q1 q2=>by
     have s1:=hs lo q (Nat.le_refl _) q1 q2;have s2:=hs p (lo+n - 1) p1 (by clear q2 q1 p1 hsz hgt hnn hor n2 n1 h1 hn; omega) (by clear q2 q1 p2 p1 hsz hgt hnn hor n2 h1 hn; omega);have d0:=h.dd (i:=lo) (by clear q2 q1 p2 p1 hsz hgt hnn hor n2 n1; omega);have dn:=h.dd (i:=lo+n - 1) (by clear q2 q1 p2 p1 hsz hgt hnn hor n1; omega);have dp:=h.dd (i:=p) (by clear q2 q1 p1 hsz hgt hnn hor n1 h1; omega);have dq:=h.dd (i:=q) (by clear q1 p2 p1 hsz hgt hnn hor n1 h1; omega);have s3:=hs q (lo+n - 1) q1 (by clear q1 p2 p1 hsz hgt hnn hor n2 n1 h1 hn; omega) (by clear q2 q1 p2 p1 hsz hgt hnn hor n2 h1 hn; omega);have s4:=hs lo p (Nat.le_refl _) p1 p2;by_cases hpq:p<=q
     ·-- G p<=G last<=G lo<=G q would want both ways
      exact O.tr _ (G (arrOf st') lo) _ dq d0 dp (O.tr _ (G (arrOf st') (lo+n - 1)) _ dq dn d0 s3 e0) s4
     ·exact hs q p q1 (by clear q2 q1 p2 p1 hsz hgt hnn hor n2 n1 h1 hn; omega) p2
    have hT:=h.mirror (i:=lo) (j:=lo+n) (Nat.le_refl _) (by clear hsz hgt hnn hor n1 h1; omega);have hF:Fg lt (arrOf (setArr st' (mirror (arrOf st') lo (lo+n) ((lo+n - lo) / 2)))) lo (lo+(n+1)):=by
     have hf0:Fg lt (arrOf st') lo (lo+n):=fun p q p1 pq q2=>hal p q p1 (by clear p1 hsz hgt hnn hor n2 n1 h1 hn; omega) (by clear q2 hsz hgt hnn hor n2 n1 h1 hn; omega) q2;have hf1:=zi2 hsz (Nat.le_refl _) hf0 fun p q p1 p2 q1 q2=>hal p q p1 p2 q1 q2;refine zec (n:=lo+n) O hT (by clear hsz hgt hor n1 h1; omega) (by clear hsz hgt hnn hor n2 h1 hn; omega) hf1 ?_;show lt (G (mirror (arrOf st') lo (lo+n) _) (lo+n - 1)) (G (mirror (arrOf st') lo (lo+n) _) (lo+n))=false;rw [zd8 hsz (Nat.le_refl _),zdG hsz (by clear hsz hgt hnn hor n2 h1 hn; omega)];have d1:=h.dd (i:=lo+n) (by clear hsz hgt hor n1 h1; omega);have d2:=h.dd (i:=lo+n - 1) (by clear hsz hgt hnn hor n1; omega);exact O.tr _ _ _ d1 d2 (h.dd (by clear hsz hgt hnn hor n2 n1; omega)) (O.asym _ _ d1 d2 hlt) e0
    refine wpS_bind (zdn ?_)
    revert hT hF
    generalize (setArr st' (mirror (arrOf st') lo (lo+n) ((lo+n - lo) / 2)))=stA;intro hT hF;refine wpS_bind (wpS_lift (wpAny_rule ⟨rfl,?_⟩));refine wpS_bind (wpS_mono (wpS_forRange (a:=n+1)
     (I:=fun k c st'=>Tb kd D a₀ lo st0 st'/\∃ neq,c=(none,k,neq)/\Fg lt (arrOf st') lo (lo+k)/\neq+1<=k/\Eg lt (arrOf st') (lo+k - (neq+1)) (lo+k))
     (Q:=fun c st'=>Tb kd D a₀ lo st0 st'/\∃ m neq,c=(none,m,neq)/\1<=m/\m<=nrem/\Fg lt (arrOf st') lo (lo+m)/\neq+1<=m/\Eg lt (arrOf st') (lo+m - (neq+1)) (lo+m)) ?step2 ?fin2 ⟨hT,0,rfl,hF,by clear hsz hgt hnn hor n2 n1 h1 hn; omega,fun i j h1 h2 h3 h4=>by
      have e1:i=j:=by clear hsz hgt hnn hor n2 n1 hn; omega
      rw [e1];exact O.irr (hT.dd (by clear e1 h3 h2 h1 hsz hgt hor n1; omega))⟩) ?post2)
    case fin2 =>
     rintro c st2 ⟨hT2,neq,rfl,hF2,hq2,hE2⟩;rw [show max (n+1) nrem=nrem by clear hq2 hsz hgt hor n1 h1 hn; omega] at hF2 hq2 hE2 ⊢;exact⟨hT2,nrem,neq,rfl,by clear hq2 hsz hgt hnn hor n2 n1 hn; omega,Nat.le_refl _,hF2,hq2,hE2⟩
    case step2 =>
     rintro k c st2 hk1 hk2 ⟨hT2,neq,rfl,hF2,hq2,hE2⟩;refine wpS_bind (zcA O hT2 (i:=lo+k) (j:=lo+k - 1) (by clear hq2 hk1 hsz hgt hnn hor n2 n1 h1; omega) (by clear hq2 hk1 hsz hgt hnn hor n2 n1 h1; omega) ?_);have hsz:lo+k<=(arrOf st2).size:=by rw [hT2.size]; (clear hq2 hk1 hsz hgt hnn hor n2 n1 h1; omega)
     cases e:lt (G (arrOf st2) (lo+k)) (G (arrOf st2) (lo+k - 1)) with
     | true =>
      simp only [if_true];by_cases hq0:neq>0
      ·rw [if_pos hq0];have hT3:=hT2.mirror (i:=lo+k - (neq+1)) (j:=lo+k) (by clear hq0 hsz hk2 hk1 hgt hnn hor n2 n1 h1 hn; omega) (by clear hq0 hsz hq2 hk1 hgt hnn hor n2 n1 h1; omega);refine wpS_bind (zdn (wpS_pure ⟨hT3,0,rfl,?_,by clear hq0 hsz hq2 hk2 hk1 hgt hnn hor n2 n1 h1 hn; omega,fun i j h1 h2 h3 h4=>by
        have e1:i=j:=by clear hq0 hsz hq2 hk2 hk1 hgt hnn hor n2 n1 hn; omega
        rw [e1];exact O.irr (hT3.dd (by clear e1 h3 h2 h1 hq0 hsz hq2 hk1 hgt hnn hor n2 n1; omega))⟩))
       refine zec (n:=lo+k) O hT3 (by clear hq0 hsz hq2 hk1 hgt hnn hor n2 n1 h1; omega) (by clear hq0 hsz hq2 hk2 hgt hnn hor n2 n1 h1 hn; omega) (zi2 hsz (by clear hq0 hsz hk2 hk1 hgt hnn hor n2 n1 h1 hn; omega) hF2 hE2) ?_;show lt (G (mirror (arrOf st2) (lo+k - (neq+1)) (lo+k) _) (lo+k - 1)) (G (mirror (arrOf st2) (lo+k - (neq+1)) (lo+k) _) (lo+k))=false;rw [zd8 hsz (Nat.le_refl _),zdG hsz (by clear hq0 hsz hq2 hk2 hgt hnn hor n2 n1 h1 hn; omega)];have d1:=hT2.dd (i:=lo+k) (by clear hq0 hsz hq2 hk1 hgt hnn hor n2 n1 h1; omega);have d2:=hT2.dd (i:=lo+k - 1) (by clear hq0 hsz hq2 hk1 hgt hnn hor n2 n1 h1; omega);have d3:=hT2.dd (i:=lo+k - (neq+1)) (by clear hq0 hsz hq2 hk1 hgt hnn hor n2 n1 h1; omega);exact O.tr _ _ _ d1 d2 d3 (O.asym _ _ d1 d2 e) (hE2 _ _ (by clear hq0 hsz hq2 hk2 hk1 hgt hnn hor n2 n1 h1 hn; omega) (by clear hq0 hsz hq2 hk2 hgt hnn hor n2 n1 h1 hn; omega) (by clear hq0 hsz hq2 hk2 hk1 hgt hnn hor n2 n1 h1 hn; omega) (by clear hq0 hsz hq2 hk2 hgt hnn hor n2 n1 h1 hn; omega))
      ·rw [if_neg hq0];refine wpS_pure ⟨hT2,0,rfl,?_,by clear hq0 hsz hq2 hk2 hk1 hgt hnn hor n2 n1 h1 hn; omega,fun i j h1 h2 h3 h4=>by
        have e1:i=j:=by clear hq0 hsz hq2 hk2 hk1 hgt hnn hor n2 n1 hn; omega
        rw [e1];exact O.irr (hT2.dd (by clear e1 h3 h2 h1 hq0 hsz hq2 hk1 hgt hnn hor n2 n1; omega))⟩
       exact zec (n:=lo+k) O hT2 (by clear hq0 hsz hq2 hk1 hgt hnn hor n2 n1 h1; omega) (by clear hq0 hsz hq2 hk2 hgt hnn hor n2 n1 h1 hn; omega) hF2 (O.asym _ _ (hT2.dd (by clear hq0 hsz hq2 hk1 hgt hnn hor n2 n1 h1; omega)) (hT2.dd (by clear hq0 hsz hq2 hk1 hgt hnn hor n2 n1 h1; omega)) e)
     | false =>
      simp only [Bool.false_eq_true,if_false];refine wpS_bind (zcA O hT2 (i:=lo+k - 1) (j:=lo+k) (by clear hsz hq2 hk1 hgt hnn hor n2 n1 h1; omega) (by clear hsz hq2 hk1 hgt hnn hor n2 n1 h1; omega) ?_);cases e2:lt (G (arrOf st2) (lo+k - 1)) (G (arrOf st2) (lo+k)) with
      | true =>
       simp only [if_true];exact wpS_pure ⟨hT2,k,neq,rfl,by clear hsz hq2 hk2 hgt hnn hor n2 n1 h1 hn; omega,by clear hsz hq2 hk1 hgt hnn hor n2 n1 h1 hn; omega,hF2,hq2,hE2⟩
      | false =>
       simp only [Bool.false_eq_true,if_false];refine wpS_pure ⟨hT2,neq+1,rfl,zec (n:=lo+k) O hT2 (by clear hsz hq2 hk1 hgt hnn hor n2 n1 h1; omega) (by clear hsz hq2 hk2 hgt hnn hor n2 n1 h1 hn; omega) hF2 e2,by clear hsz hk2 hk1 hgt hnn hor n2 n1 h1 hn; omega,fun i j h1 h2 h3 h4=>?_⟩;have dk:=hT2.dd (i:=lo+k) (by clear h4 h3 h2 h1 hsz hq2 hk1 hgt hnn hor n2 n1; omega);have dl:=hT2.dd (i:=lo+k - 1) (by clear h4 h3 h2 h1 hsz hq2 hk1 hgt hnn hor n2 n1; omega);by_cases z1:i=lo+k
       ·rw [z1];by_cases z2:j=lo+k
        ·rw [z2]; exact O.irr dk
        ·exact O.tr _ _ _ (hT2.dd (by clear z2 z1 h3 h2 h1 hsz hq2 hk1 hgt hnn hor n2 n1; omega)) dl dk (hE2 _ _ (by clear z2 z1 h4 h3 h2 h1 hsz hq2 hk2 hk1 hgt hnn hor n2 n1 hn; omega) (by clear z2 z1 h4 h3 h2 h1 hsz hq2 hk2 hgt hnn hor n2 n1 hn; omega) (by clear z2 z1 h4 h2 h1 hsz hq2 hk2 hk1 hgt hnn hor n2 n1 hn; omega) (by clear z1 h3 h2 h1 hsz hq2 hk2 hk1 hgt hnn hor n2 n1 hn; omega)) e
       ·by_cases z2:j=lo+k
        ·rw [z2];exact O.tr _ _ _ dk dl (hT2.dd (by clear z2 z1 h4 h3 h1 hsz hq2 hk1 hgt hnn hor n2 n1; omega)) e2 (hE2 _ _ (by clear z2 z1 h4 h3 h2 hsz hq2 hk2 hk1 hgt hnn hor n2 n1 hn; omega) (by clear z2 h4 h3 h1 hsz hq2 hk2 hk1 hgt hnn hor n2 n1 hn; omega) (by clear z2 z1 h4 h3 h2 h1 hsz hq2 hk2 hk1 hgt hnn hor n2 n1 hn; omega) (by clear z2 z1 h4 h3 h2 h1 hsz hq2 hk2 hgt hnn hor n2 n1 hn; omega))
        ·exact hE2 i j (by clear z2 z1 h4 h3 h2 hsz hq2 hk2 hk1 hgt hnn hor n2 n1 hn; omega) (by clear z2 h4 h3 h1 hsz hq2 hk2 hk1 hgt hnn hor n2 n1 hn; omega) (by clear z2 z1 h4 h2 h1 hsz hq2 hk2 hk1 hgt hnn hor n2 n1 hn; omega) (by clear z1 h3 h2 h1 hsz hq2 hk2 hk1 hgt hnn hor n2 n1 hn; omega)
    case post2 =>
     rintro c st2 ⟨hT2,m,neq,rfl,m1,m2,hF2,hq2,hE2⟩;have hsz:lo+m<=(arrOf st2).size:=by rw [hT2.size]; (clear hq2 m1 hsz hgt hnn hor n2 n1 h1; omega)
     have hT3:=hT2.mirror (i:=lo+m - (neq+1)) (j:=lo+m) (by clear hsz m2 m1 hgt hnn hor n2 n1 h1 hn; omega) (by clear hsz hq2 m1 hgt hnn hor n2 n1 h1; omega);have hF3:=zi2 hsz (by clear hsz m2 m1 hgt hnn hor n2 n1 h1 hn; omega) hF2 hE2;by_cases hq0:neq>0
     ·rw [if_pos hq0];refine wpS_bind (zdn ?_);have hT4:=hT3.mirror (i:=lo) (j:=lo+m) (Nat.le_refl _) (by clear hq0 hsz hq2 m1 hgt hnn hor n2 n1 h1; omega);have hS4:Sg lt (arrOf (setArr (setArr st2 (mirror (arrOf st2) (lo+m - (neq+1)) (lo+m) ((lo+m - (lo+m - (neq+1))) / 2))) (mirror (mirror (arrOf st2) (lo+m - (neq+1)) (lo+m) ((lo+m - (lo+m - (neq+1))) / 2)) lo (lo+m) ((lo+m - lo) / 2)))) lo (lo+m):=ze6 (by rw [mirror_size]; exact hsz) hF3;refine wpS_bind (zdn ?_)
      revert hT4 hS4
      generalize (setArr (setArr st2 (mirror (arrOf st2) (lo+m - (neq+1)) (lo+m) ((lo+m - (lo+m - (neq+1))) / 2))) (mirror (mirror (arrOf st2) (lo+m - (neq+1)) (lo+m) ((lo+m - (lo+m - (neq+1))) / 2)) lo (lo+m) ((lo+m - lo) / 2)))=st4;intro hT4 hS4;refine wpS_bind (wpS_mono (wpS_forRange (a:=m)
       (I:=fun k c st'=>st'=st4/\c=(none,k)/\Sg lt (arrOf st4) lo (lo+k))
       (Q:=fun c st'=>st'=st4/\∃ n,c=(none,n)/\1<=n/\n<=nrem/\Sg lt (arrOf st4) lo (lo+n)) ?step3 ?fin3 ⟨rfl,rfl,hS4⟩) ?post3)
      case fin3 =>
       rintro c st5 ⟨rfl,rfl,hs⟩;rw [show max m nrem=nrem by clear hq0 hsz hq2 m1 hgt hnn hor n2 n1 h1 hn; omega] at hs ⊢;exact⟨rfl,nrem,rfl,by clear hq0 hsz hq2 m2 m1 hgt hnn hor n2 n1 hn; omega,Nat.le_refl _,hs⟩
      case step3 =>
       rintro k c st5 hk1 hk2 ⟨rfl,rfl,hs⟩;refine wpS_bind (zcA O hT4 (i:=lo+k) (j:=lo+k - 1) (by clear hk1 hq0 hsz hq2 m2 m1 hgt hnn hor n2 n1 h1; omega) (by clear hk1 hq0 hsz hq2 m2 m1 hgt hnn hor n2 n1 h1; omega) ?_);cases e:lt (G (arrOf st5) (lo+k)) (G (arrOf st5) (lo+k - 1)) with
       | true =>
        simp only [if_true];exact wpS_pure ⟨rfl,k,rfl,by clear hk2 hq0 hsz hq2 m2 hgt hnn hor n2 n1 h1 hn; omega,by clear hk1 hq0 hsz hq2 m2 m1 hgt hnn hor n2 n1 h1 hn; omega,hs⟩
       | false =>
        simp only [Bool.false_eq_true,if_false];exact wpS_pure ⟨rfl,rfl,Sg.more (n:=lo+k) O hT4 (by clear hk1 hq0 hsz hq2 m2 m1 hgt hnn hor n2 n1 h1; omega) (by clear hk2 hq0 hsz hq2 m2 hgt hnn hor n2 n1 h1 hn; omega) hs e⟩
      case post3 =>
       rintro c st5 ⟨rfl,n',rfl,p1,p2,hs⟩;exact wpS_pure (q n' st5 hT4 p1 p2 hs)
     ·rw [if_neg hq0];have hT4:=hT2.mirror (i:=lo) (j:=lo+m) (Nat.le_refl _) (by clear hq0 hsz hq2 m1 hgt hnn hor n2 n1 h1; omega);have hS4:Sg lt (arrOf (setArr st2 (mirror (arrOf st2) lo (lo+m) ((lo+m - lo) / 2)))) lo (lo+m):=ze6 hsz hF2;refine wpS_bind (zdn ?_)
      revert hT4 hS4
      generalize (setArr st2 (mirror (arrOf st2) lo (lo+m) ((lo+m - lo) / 2)))=st4;intro hT4 hS4;refine wpS_bind (wpS_mono (wpS_forRange (a:=m)
       (I:=fun k c st'=>st'=st4/\c=(none,k)/\Sg lt (arrOf st4) lo (lo+k))
       (Q:=fun c st'=>st'=st4/\∃ n,c=(none,n)/\1<=n/\n<=nrem/\Sg lt (arrOf st4) lo (lo+n)) ?step3 ?fin3 ⟨rfl,rfl,hS4⟩) ?post3)
      case fin3 =>
       rintro c st5 ⟨rfl,rfl,hs⟩;rw [show max m nrem=nrem by clear hq0 hsz hq2 m1 hgt hnn hor n2 n1 h1 hn; omega] at hs ⊢;exact⟨rfl,nrem,rfl,by clear hq0 hsz hq2 m2 m1 hgt hnn hor n2 n1 hn; omega,Nat.le_refl _,hs⟩
      case step3 =>
       rintro k c st5 hk1 hk2 ⟨rfl,rfl,hs⟩;refine wpS_bind (zcA O hT4 (i:=lo+k) (j:=lo+k - 1) (by clear hk1 hq0 hsz hq2 m2 m1 hgt hnn hor n2 n1 h1; omega) (by clear hk1 hq0 hsz hq2 m2 m1 hgt hnn hor n2 n1 h1; omega) ?_);cases e:lt (G (arrOf st5) (lo+k)) (G (arrOf st5) (lo+k - 1)) with
       | true =>
        simp only [if_true];exact wpS_pure ⟨rfl,k,rfl,by clear hk2 hq0 hsz hq2 m2 hgt hnn hor n2 n1 h1 hn; omega,by clear hk1 hq0 hsz hq2 m2 m1 hgt hnn hor n2 n1 h1 hn; omega,hs⟩
       | false =>
        simp only [Bool.false_eq_true,if_false];exact wpS_pure ⟨rfl,rfl,Sg.more (n:=lo+k) O hT4 (by clear hk1 hq0 hsz hq2 m2 m1 hgt hnn hor n2 n1 h1; omega) (by clear hk2 hq0 hsz hq2 m2 hgt hnn hor n2 n1 h1 hn; omega) hs e⟩
      case post3 =>
       rintro c st5 ⟨rfl,n',rfl,p1,p2,hs⟩;exact wpS_pure (q n' st5 hT4 p1 p2 hs)
  ·rw [if_neg hgt];have n1':n=1:=by clear hnn hor n2 h1 hn; omega
   have hT:=h;have hF:Fg lt (arrOf st') lo (lo+(n+1)):=by
    subst n1';refine zec (n:=lo+1) O h (by clear hgt hor n2 n1; omega) (by clear hgt hnn hor n2 n1 h1 hn; omega) (fun p q p1 pq q2=>?_) (O.asym _ _ (h.dd (by clear hgt hor n2 n1; omega)) (h.dd (by clear hgt hnn hor n2 n1; omega)) hlt);have e1:p=q:=by clear hgt hnn hor n2 n1 h1 hn; omega
    rw [e1];exact O.irr (h.dd (by clear e1 pq p1 hgt hnn hor n2 n1; omega))
   refine wpS_bind (wpS_lift (wpAny_rule ⟨rfl,?_⟩));refine wpS_bind (wpS_mono (wpS_forRange (a:=n+1)
    (I:=fun k c st'=>Tb kd D a₀ lo st0 st'/\∃ neq,c=(none,k,neq)/\Fg lt (arrOf st') lo (lo+k)/\neq+1<=k/\Eg lt (arrOf st') (lo+k - (neq+1)) (lo+k))
    (Q:=fun c st'=>Tb kd D a₀ lo st0 st'/\∃ m neq,c=(none,m,neq)/\1<=m/\m<=nrem/\Fg lt (arrOf st') lo (lo+m)/\neq+1<=m/\Eg lt (arrOf st') (lo+m - (neq+1)) (lo+m)) ?step2 ?fin2 ⟨hT,0,rfl,hF,by clear n1' hgt hnn hor n2 n1 h1 hn; omega,fun i j h1 h2 h3 h4=>by
     have e1:i=j:=by clear n1' hgt hnn hor n2 n1 hn; omega
     rw [e1];exact O.irr (hT.dd (by clear e1 h3 h2 h1 n1' hgt hor n1; omega))⟩) ?post2)
   case fin2 =>
    rintro c st2 ⟨hT2,neq,rfl,hF2,hq2,hE2⟩;rw [show max (n+1) nrem=nrem by clear hq2 n1' hgt hor n1 h1 hn; omega] at hF2 hq2 hE2 ⊢;exact⟨hT2,nrem,neq,rfl,by clear hq2 n1' hgt hnn hor n2 n1 hn; omega,Nat.le_refl _,hF2,hq2,hE2⟩
   case step2 =>
    rintro k c st2 hk1 hk2 ⟨hT2,neq,rfl,hF2,hq2,hE2⟩;refine wpS_bind (zcA O hT2 (i:=lo+k) (j:=lo+k - 1) (by clear hq2 hk1 n1' hgt hnn hor n2 n1 h1; omega) (by clear hq2 hk1 n1' hgt hnn hor n2 n1 h1; omega) ?_);have hsz:lo+k<=(arrOf st2).size:=by rw [hT2.size]; (clear hq2 hk1 n1' hgt hnn hor n2 n1 h1; omega)
    cases e:lt (G (arrOf st2) (lo+k)) (G (arrOf st2) (lo+k - 1)) with
    | true =>
     simp only [if_true];by_cases hq0:neq>0
     ·rw [if_pos hq0];have hT3:=hT2.mirror (i:=lo+k - (neq+1)) (j:=lo+k) (by clear hq0 hsz hk2 hk1 n1' hgt hnn hor n2 n1 h1 hn; omega) (by clear hq0 hsz hq2 hk1 n1' hgt hnn hor n2 n1 h1; omega);refine wpS_bind (zdn (wpS_pure ⟨hT3,0,rfl,?_,by clear hq0 hsz hq2 hk2 hk1 n1' hgt hnn hor n2 n1 h1 hn; omega,fun i j h1 h2 h3 h4=>by
       have e1:i=j:=by clear hq0 hsz hq2 hk2 hk1 n1' hgt hnn hor n2 n1 hn; omega
       rw [e1];exact O.irr (hT3.dd (by clear e1 h3 h2 h1 hq0 hsz hq2 hk1 n1' hgt hnn hor n2 n1; omega))⟩))
      refine zec (n:=lo+k) O hT3 (by clear hq0 hsz hq2 hk1 n1' hgt hnn hor n2 n1 h1; omega) (by clear hq0 hsz hq2 hk2 n1' hgt hnn hor n2 n1 h1 hn; omega) (zi2 hsz (by clear hq0 hsz hk2 hk1 n1' hgt hnn hor n2 n1 h1 hn; omega) hF2 hE2) ?_;show lt (G (mirror (arrOf st2) (lo+k - (neq+1)) (lo+k) _) (lo+k - 1)) (G (mirror (arrOf st2) (lo+k - (neq+1)) (lo+k) _) (lo+k))=false;rw [zd8 hsz (Nat.le_refl _),zdG hsz (by clear hq0 hsz hq2 hk2 n1' hgt hnn hor n2 n1 h1 hn; omega)];have d1:=hT2.dd (i:=lo+k) (by clear hq0 hsz hq2 hk1 n1' hgt hnn hor n2 n1 h1; omega);have d2:=hT2.dd (i:=lo+k - 1) (by clear hq0 hsz hq2 hk1 n1' hgt hnn hor n2 n1 h1; omega);have d3:=hT2.dd (i:=lo+k - (neq+1)) (by clear hq0 hsz hq2 hk1 n1' hgt hnn hor n2 n1 h1; omega);exact O.tr _ _ _ d1 d2 d3 (O.asym _ _ d1 d2 e) (hE2 _ _ (by clear hq0 hsz hq2 hk2 hk1 n1' hgt hnn hor n2 n1 h1 hn; omega) (by clear hq0 hsz hq2 hk2 n1' hgt hnn hor n2 n1 h1 hn; omega) (by clear hq0 hsz hq2 hk2 hk1 n1' hgt hnn hor n2 n1 h1 hn; omega) (by clear hq0 hsz hq2 hk2 n1' hgt hnn hor n2 n1 h1 hn; omega))
     ·rw [if_neg hq0];refine wpS_pure ⟨hT2,0,rfl,?_,by clear hq0 hsz hq2 hk2 hk1 n1' hgt hnn hor n2 n1 h1 hn; omega,fun i j h1 h2 h3 h4=>by
       have e1:i=j:=by clear hq0 hsz hq2 hk2 hk1 n1' hgt hnn hor n2 n1 hn; omega
       rw [e1];exact O.irr (hT2.dd (by clear e1 h3 h2 h1 hq0 hsz hq2 hk1 n1' hgt hnn hor n2 n1; omega))⟩
      exact zec (n:=lo+k) O hT2 (by clear hq0 hsz hq2 hk1 n1' hgt hnn hor n2 n1 h1; omega) (by clear hq0 hsz hq2 hk2 n1' hgt hnn hor n2 n1 h1 hn; omega) hF2 (O.asym _ _ (hT2.dd (by clear hq0 hsz hq2 hk1 n1' hgt hnn hor n2 n1 h1; omega)) (hT2.dd (by clear hq0 hsz hq2 hk1 n1' hgt hnn hor n2 n1 h1; omega)) e)
    | false =>
     simp only [Bool.false_eq_true,if_false];refine wpS_bind (zcA O hT2 (i:=lo+k - 1) (j:=lo+k) (by clear hsz hq2 hk1 n1' hgt hnn hor n2 n1 h1; omega) (by clear hsz hq2 hk1 n1' hgt hnn hor n2 n1 h1; omega) ?_);cases e2:lt (G (arrOf st2) (lo+k - 1)) (G (arrOf st2) (lo+k)) with
     | true =>
      simp only [if_true];exact wpS_pure ⟨hT2,k,neq,rfl,by clear hsz hq2 hk2 n1' hgt hnn hor n2 n1 h1 hn; omega,by clear hsz hq2 hk1 n1' hgt hnn hor n2 n1 h1 hn; omega,hF2,hq2,hE2⟩
     | false =>
      simp only [Bool.false_eq_true,if_false];refine wpS_pure ⟨hT2,neq+1,rfl,zec (n:=lo+k) O hT2 (by clear hsz hq2 hk1 n1' hgt hnn hor n2 n1 h1; omega) (by clear hsz hq2 hk2 n1' hgt hnn hor n2 n1 h1 hn; omega) hF2 e2,by clear hsz hk2 hk1 n1' hgt hnn hor n2 n1 h1 hn; omega,fun i j h1 h2 h3 h4=>?_⟩;have dk:=hT2.dd (i:=lo+k) (by clear h4 h3 h2 h1 hsz hq2 hk1 n1' hgt hnn hor n2 n1; omega);have dl:=hT2.dd (i:=lo+k - 1) (by clear h4 h3 h2 h1 hsz hq2 hk1 n1' hgt hnn hor n2 n1; omega);by_cases z1:i=lo+k
      ·rw [z1];by_cases z2:j=lo+k
       ·rw [z2]; exact O.irr dk
       ·exact O.tr _ _ _ (hT2.dd (by clear z2 z1 h3 h2 h1 hsz hq2 hk1 n1' hgt hnn hor n2 n1; omega)) dl dk (hE2 _ _ (by clear z2 z1 h4 h3 h2 h1 hsz hq2 hk2 hk1 n1' hgt hnn hor n2 n1 hn; omega) (by clear z2 z1 h4 h3 h2 h1 hsz hq2 hk2 n1' hgt hnn hor n2 n1 hn; omega) (by clear z2 z1 h4 h2 h1 hsz hq2 hk2 hk1 n1' hgt hnn hor n2 n1 hn; omega) (by clear z1 h3 h2 h1 hsz hq2 hk2 hk1 n1' hgt hnn hor n2 n1 hn; omega)) e
      ·by_cases z2:j=lo+k
       ·rw [z2];exact O.tr _ _ _ dk dl (hT2.dd (by clear z2 z1 h4 h3 h1 hsz hq2 hk1 n1' hgt hnn hor n2 n1; omega)) e2 (hE2 _ _ (by clear z2 z1 h4 h3 h2 hsz hq2 hk2 hk1 n1' hgt hnn hor n2 n1 hn; omega) (by clear z2 h4 h3 h1 hsz hq2 hk2 hk1 n1' hgt hnn hor n2 n1 hn; omega) (by clear z2 z1 h4 h3 h2 h1 hsz hq2 hk2 hk1 n1' hgt hnn hor n2 n1 hn; omega) (by clear z2 z1 h4 h3 h2 h1 hsz hq2 hk2 n1' hgt hnn hor n2 n1 hn; omega))
       ·exact hE2 i j (by clear z2 z1 h4 h3 h2 hsz hq2 hk2 hk1 n1' hgt hnn hor n2 n1 hn; omega) (by clear z2 h4 h3 h1 hsz hq2 hk2 hk1 n1' hgt hnn hor n2 n1 hn; omega) (by clear z2 z1 h4 h2 h1 hsz hq2 hk2 hk1 n1' hgt hnn hor n2 n1 hn; omega) (by clear z1 h3 h2 h1 hsz hq2 hk2 hk1 n1' hgt hnn hor n2 n1 hn; omega)
   case post2 =>
    rintro c st2 ⟨hT2,m,neq,rfl,m1,m2,hF2,hq2,hE2⟩;have hsz:lo+m<=(arrOf st2).size:=by rw [hT2.size]; (clear hq2 m1 n1' hgt hnn hor n2 n1 h1; omega)
    have hT3:=hT2.mirror (i:=lo+m - (neq+1)) (j:=lo+m) (by clear hsz m2 m1 n1' hgt hnn hor n2 n1 h1 hn; omega) (by clear hsz hq2 m1 n1' hgt hnn hor n2 n1 h1; omega);have hF3:=zi2 hsz (by clear hsz m2 m1 n1' hgt hnn hor n2 n1 h1 hn; omega) hF2 hE2;by_cases hq0:neq>0
    ·rw [if_pos hq0];refine wpS_bind (zdn ?_);have hT4:=hT3.mirror (i:=lo) (j:=lo+m) (Nat.le_refl _) (by clear hq0 hsz hq2 m1 n1' hgt hnn hor n2 n1 h1; omega);have hS4:Sg lt (arrOf (setArr (setArr st2 (mirror (arrOf st2) (lo+m - (neq+1)) (lo+m) ((lo+m - (lo+m - (neq+1))) / 2))) (mirror (mirror (arrOf st2) (lo+m - (neq+1)) (lo+m) ((lo+m - (lo+m - (neq+1))) / 2)) lo (lo+m) ((lo+m - lo) / 2)))) lo (lo+m):=ze6 (by rw [mirror_size]; exact hsz) hF3;refine wpS_bind (zdn ?_)
     revert hT4 hS4
     generalize (setArr (setArr st2 (mirror (arrOf st2) (lo+m - (neq+1)) (lo+m) ((lo+m - (lo+m - (neq+1))) / 2))) (mirror (mirror (arrOf st2) (lo+m - (neq+1)) (lo+m) ((lo+m - (lo+m - (neq+1))) / 2)) lo (lo+m) ((lo+m - lo) / 2)))=st4;intro hT4 hS4;refine wpS_bind (wpS_mono (wpS_forRange (a:=m)
      (I:=fun k c st'=>st'=st4/\c=(none,k)/\Sg lt (arrOf st4) lo (lo+k))
      (Q:=fun c st'=>st'=st4/\∃ n,c=(none,n)/\1<=n/\n<=nrem/\Sg lt (arrOf st4) lo (lo+n)) ?step3 ?fin3 ⟨rfl,rfl,hS4⟩) ?post3)
     case fin3 =>
      rintro c st5 ⟨rfl,rfl,hs⟩;rw [show max m nrem=nrem by clear hq0 hsz hq2 m1 n1' hgt hnn hor n2 n1 h1 hn; omega] at hs ⊢;exact⟨rfl,nrem,rfl,by clear hq0 hsz hq2 m2 m1 n1' hgt hnn hor n2 n1 hn; omega,Nat.le_refl _,hs⟩
     case step3 =>
      rintro k c st5 hk1 hk2 ⟨rfl,rfl,hs⟩;refine wpS_bind (zcA O hT4 (i:=lo+k) (j:=lo+k - 1) (by clear hk1 hq0 hsz hq2 m2 m1 n1' hgt hnn hor n2 n1 h1; omega) (by clear hk1 hq0 hsz hq2 m2 m1 n1' hgt hnn hor n2 n1 h1; omega) ?_);cases e:lt (G (arrOf st5) (lo+k)) (G (arrOf st5) (lo+k - 1)) with
      | true =>
       simp only [if_true];exact wpS_pure ⟨rfl,k,rfl,by clear hk2 hq0 hsz hq2 m2 n1' hgt hnn hor n2 n1 h1 hn; omega,by clear hk1 hq0 hsz hq2 m2 m1 n1' hgt hnn hor n2 n1 h1 hn; omega,hs⟩
      | false =>
       simp only [Bool.false_eq_true,if_false];exact wpS_pure ⟨rfl,rfl,Sg.more (n:=lo+k) O hT4 (by clear hk1 hq0 hsz hq2 m2 m1 n1' hgt hnn hor n2 n1 h1; omega) (by clear hk2 hq0 hsz hq2 m2 n1' hgt hnn hor n2 n1 h1 hn; omega) hs e⟩
     case post3 =>
      rintro c st5 ⟨rfl,n',rfl,p1,p2,hs⟩;exact wpS_pure (q n' st5 hT4 p1 p2 hs)
    ·rw [if_neg hq0];have hT4:=hT2.mirror (i:=lo) (j:=lo+m) (Nat.le_refl _) (by clear hq0 hsz hq2 m1 n1' hgt hnn hor n2 n1 h1; omega);have hS4:Sg lt (arrOf (setArr st2 (mirror (arrOf st2) lo (lo+m) ((lo+m - lo) / 2)))) lo (lo+m):=ze6 hsz hF2;refine wpS_bind (zdn ?_)
     revert hT4 hS4
     generalize (setArr st2 (mirror (arrOf st2) lo (lo+m) ((lo+m - lo) / 2)))=st4;intro hT4 hS4;refine wpS_bind (wpS_mono (wpS_forRange (a:=m)
      (I:=fun k c st'=>st'=st4/\c=(none,k)/\Sg lt (arrOf st4) lo (lo+k))
      (Q:=fun c st'=>st'=st4/\∃ n,c=(none,n)/\1<=n/\n<=nrem/\Sg lt (arrOf st4) lo (lo+n)) ?step3 ?fin3 ⟨rfl,rfl,hS4⟩) ?post3)
     case fin3 =>
      rintro c st5 ⟨rfl,rfl,hs⟩;rw [show max m nrem=nrem by clear hq0 hsz hq2 m1 n1' hgt hnn hor n2 n1 h1 hn; omega] at hs ⊢;exact⟨rfl,nrem,rfl,by clear hq0 hsz hq2 m2 m1 n1' hgt hnn hor n2 n1 hn; omega,Nat.le_refl _,hs⟩
     case step3 =>
      rintro k c st5 hk1 hk2 ⟨rfl,rfl,hs⟩;refine wpS_bind (zcA O hT4 (i:=lo+k) (j:=lo+k - 1) (by clear hk1 hq0 hsz hq2 m2 m1 n1' hgt hnn hor n2 n1 h1; omega) (by clear hk1 hq0 hsz hq2 m2 m1 n1' hgt hnn hor n2 n1 h1; omega) ?_);cases e:lt (G (arrOf st5) (lo+k)) (G (arrOf st5) (lo+k - 1)) with
      | true =>
       simp only [if_true];exact wpS_pure ⟨rfl,k,rfl,by clear hk2 hq0 hsz hq2 m2 n1' hgt hnn hor n2 n1 h1 hn; omega,by clear hk1 hq0 hsz hq2 m2 m1 n1' hgt hnn hor n2 n1 h1 hn; omega,hs⟩
      | false =>
       simp only [Bool.false_eq_true,if_false];exact wpS_pure ⟨rfl,rfl,Sg.more (n:=lo+k) O hT4 (by clear hk1 hq0 hsz hq2 m2 m1 n1' hgt hnn hor n2 n1 h1; omega) (by clear hk2 hq0 hsz hq2 m2 n1' hgt hnn hor n2 n1 h1 hn; omega) hs e⟩
     case post3 =>
      rintro c st5 ⟨rfl,n',rfl,p1,p2,hs⟩;exact wpS_pure (q n' st5 hT4 p1 p2 hs)
theorem znh(O:LtOk prog w A E s kd D lt){a₀:Array Keyed}{lo n ok:Nat}{st0 st:SortSt}{Q:Bool->SortSt->Prop}(h:Tb kd D a₀ lo st0 st)(hn:lo+n<=a₀.size)(h1:1<=ok)(hok:ok<=n)(hs:Sg lt (arrOf st) lo (lo+ok))
  (q:∀ st',Tb kd D a₀ lo st0 st'->Sg lt (arrOf st') lo (lo+n)->Q true st'):wpS (model prog w) A E s (binarySort' lo n ok) Q st:=by
 refine wpS_bind (wpS_mono (wpS_forRange (a:=max ok 1)
  (I:=fun k c st'=>c=(none,())/\Tb kd D a₀ lo st0 st'/\Sg lt (arrOf st') lo (lo+k))
  (Q:=fun c st'=>c=(none,())/\Tb kd D a₀ lo st0 st'/\Sg lt (arrOf st') lo (lo+n)) ?step ?fin ⟨rfl,h,by rw [show max ok 1=ok by omega]; exact hs⟩) ?post)
 case fin =>
  rintro c st' ⟨rfl,hT,hS⟩;rw [show max (max ok 1) n=n by omega] at hS;exact⟨rfl,hT,hS⟩
 case post =>
  rintro c st' ⟨rfl,hT,hS⟩;exact wpS_pure (q st' hT hS)
 case step =>
  rintro k c st' hk1 hk2 ⟨rfl,hT,hS⟩;have k1:1<=k:=by omega
  refine wpS_bind (wpS_mono (wpS_forRange (a:=0)
   (I:=fun j c st2=>st2=st'/\∃ l r,c=(none,l,r)/\l<=r/\r<=k/\r - l+j<=k/\(∀ i,i<l->lt (G (arrOf st') (lo+k)) (G (arrOf st') (lo+i))=false)/\∀ i,r<=i->i<k->lt (G (arrOf st') (lo+k)) (G (arrOf st') (lo+i))=true)
   (Q:=fun c st2=>st2=st'/\∃ l,c=(none,l,l)/\l<=k/\(∀ i,i<l->lt (G (arrOf st') (lo+k)) (G (arrOf st') (lo+i))=false)/\∀ i,l<=i->i<k->lt (G (arrOf st') (lo+k)) (G (arrOf st') (lo+i))=true) ?step2 ?fin2 ⟨rfl,0,k,rfl,by omega,by omega,by omega,fun i hi=>by omega,fun i h1 h2=>by omega⟩) ?post2)
  case fin2 =>
   rintro c st2 ⟨rfl,l,r,rfl,a1,a2,a3,a4,a5⟩;have:l=r:=by omega
   subst this;exact⟨rfl,l,rfl,a2,a4,a5⟩
  case step2 =>
   rintro j c st2 _ hj ⟨rfl,l,r,rfl,a1,a2,a3,a4,a5⟩;by_cases hlr:l≥r
   ·rw [if_pos hlr];have:l=r:=by omega
    subst this;exact wpS_pure ⟨rfl,l,rfl,a2,a4,a5⟩
   rw [if_neg hlr];have hm:(l+r) / 2<k:=by omega
   refine wpS_bind (zcA O hT (i:=lo+k) (j:=lo+(l+r) / 2) (by omega) (by omega) ?_);have dk:=hT.dd (i:=lo+k) (by omega);have dm:=hT.dd (i:=lo+(l+r) / 2) (by omega);cases e:lt (G (arrOf st2) (lo+k)) (G (arrOf st2) (lo+(l+r) / 2)) with
   | true =>
    simp only [if_true];refine wpS_pure ⟨rfl,l,(l+r) / 2,rfl,by omega,by omega,by omega,a4,fun i i1 i2=>?_⟩;have di:=hT.dd (i:=lo+i) (by omega);cases e2:lt (G (arrOf st2) (lo+k)) (G (arrOf st2) (lo+i)) with
    | true=>rfl
    | false =>
     have:=O.tr _ _ _ dm di dk (hS (lo+(l+r) / 2) (lo+i) (by omega) (by omega) (by omega)) e2;rw [this] at e;cases e
   | false =>
    simp only [Bool.false_eq_true,if_false];refine wpS_pure ⟨rfl,(l+r) / 2+1,r,rfl,by omega,by omega,by omega,fun i i1=>?_,a5⟩;exact O.tr _ _ _ (hT.dd (by omega)) dm dk (hS (lo+i) (lo+(l+r) / 2) (by omega) (by omega) (by omega)) e
  case post2 =>
   rintro c st2 ⟨rfl,l,rfl,l1,l2,l3⟩;have hks:lo+k<(arrOf st2).size:=by rw [hT.size]; omega
   have hd:lo+k - (lo+l)=k - l:=by omega
   refine wpS_bind (wpS_modify (wpS_pure ⟨rfl,hT.bubble (src:=lo+k) (d:=lo+k - (lo+l)) (by omega) (by omega) (by omega),?_⟩));intro i j hi hij hj;show lt (G (bubble (arrOf st2) (lo+k) (lo+k - (lo+l))) j) (G (bubble (arrOf st2) (lo+k) (lo+k - (lo+l))) i)=false;rw [ziL hks (by omega),ziL hks (by omega),show lo+k - (lo+k - (lo+l))=lo+l by omega];have dk:=hT.dd (i:=lo+k) (by omega);by_cases i1:i=lo+l
   ·rw [if_pos i1];by_cases j1:j=lo+l
    ·rw [if_pos j1]; exact O.irr dk
    ·rw [if_neg j1,if_pos (by omega)];have:=l3 (j - 1 - lo) (by omega) (by omega);rw [show lo+(j - 1 - lo)=j - 1 by omega] at this;exact O.asym _ _ dk (hT.dd (by omega)) this
   ·rw [if_neg i1];by_cases i2:lo+l<i/\i<=lo+k
    ·rw [if_pos i2,if_neg (by omega),if_pos (by omega)];exact hS _ _ (by omega) (by omega) (by omega)
    ·rw [if_neg i2];by_cases j1:j=lo+l
     ·rw [if_pos j1];have:=l2 (i - lo) (by omega);rw [show lo+(i - lo)=i by omega] at this;exact this
     ·rw [if_neg j1];by_cases j2:lo+l<j/\j<=lo+k
      ·rw [if_pos j2];exact hS _ _ (by omega) (by omega) (by omega)
      ·rw [if_neg j2];exact hS i j hi hij (by omega)
structure Ts(kd:SortKind)(D:Keyed->Prop)(a₀:Array Keyed)(st:SortSt):Prop where
 kd:kindOf st=kd
 fl:failedOf st=none
 pm:(arrOf st).Perm a₀
 d:∀ x∈a₀.toList,D x
section
variable {a₀:Array Keyed} {st:SortSt}
theorem Ts.size(h:Ts kd D a₀ st):(arrOf st).size=a₀.size:=h.pm.size_eq
theorem Ts.mem(h:Ts kd D a₀ st){x:Keyed}(m:x∈(arrOf st).toList):D x:=h.d x ((Array.perm_iff_toList_perm.mp h.pm).mem_iff.mp m)
theorem Ts.at(h:Ts kd D a₀ st){i:Nat}(hi:i<a₀.size):(arrOf st)[i]? = some (G (arrOf st) i):=zt5 (by rw [h.size]; exact hi)
theorem Ts.dd(h:Ts kd D a₀ st){i:Nat}(hi:i<a₀.size):D (G (arrOf st) i):=h.mem (List.mem_of_getElem? (by rw [<- zat]; exact h.at hi))
theorem Ts.tb(h:Ts kd D a₀ st)(lo:Nat):Tb kd D a₀ lo st st:=⟨h.kd,h.fl,h.pm,rfl,fun _ _=>rfl,h.d⟩
end
theorem zqd{xs:Array Keyed}{i:Nat}{x:Keyed}(h:xs.toList[i]? = some x):G xs i=x:=by
 unfold G;rw [zat.mpr h];rfl
theorem zhB(s:Nat):∀ (l:List Keyed) (k:Nat) (xs:Array Keyed),s+k+l.length<=xs.size->((l.zipIdx k).foldl (fun a p=>a.setIfInBounds (s+p.2) p.1) xs).toList=xs.toList.take (s+k)++l++xs.toList.drop (s+k+l.length)
 | [],k,xs,_=>by simp
 | x :: l,k,xs,h=>by
  rw [List.length_cons] at h;rw [List.zipIdx_cons,List.foldl_cons,zhB s l (k+1) _ (by rw [Array.size_setIfInBounds]; omega)];simp only [Array.toList_setIfInBounds];have hl:s+k<xs.toList.length:=by simp; omega
  have e1:(xs.toList.set (s+k) x).take (s+(k+1))=xs.toList.take (s+k)++[x]:=by
   rw [show s+(k+1)=s+k+1 by omega,List.take_add_one,List.getElem?_set_self hl,List.take_set_of_le (Nat.le_refl _)];rfl
  have e2:(xs.toList.set (s+k) x).drop (s+(k+1)+l.length)=xs.toList.drop (s+k+(x :: l).length):=by
   rw [List.drop_set_of_lt (by omega),List.length_cons];congr 1;omega
  rw [e1,e2];simp
theorem zrR{x:SortSt}{Q:PUnit->SortSt->Prop}{st:SortSt}(h:Q ⟨⟩ x):wpS (model prog w) A E s (set x:StateT SortSt Sem PUnit) Q st:=by
 unfold wpS;rw [StateT.run_set];exact wpAny_pure ⟨rfl,h⟩
theorem zfs{xs:Array Keyed}{lo hi:Nat}(hh:hi<=xs.size){x:Keyed}(m:x∈(xs.extract lo hi).toList):∃ r,lo<=r/\r<hi/\G xs r=x:=by
 rw [Array.toList_extract,List.extract_eq_take_drop] at m;obtain⟨j,hj⟩:=List.mem_iff_getElem?.mp m;rw [List.getElem?_take] at hj;split at hj
 ·rw [List.getElem?_drop] at hj;exact⟨lo+j,by clear hh; omega,by clear hh; omega,zqd hj⟩
 ·cases hj
theorem zmw{xs:Array Keyed}{lo hi j:Nat}(hh:hi<=xs.size)(hj:j<hi - lo):(xs.extract lo hi)[j]? = some (G xs (lo+j)):=by
 rw [zat,Array.toList_extract,List.extract_eq_take_drop,List.getElem?_take,if_pos (by omega),List.getElem?_drop,<- zat];exact zt5 (by omega)
theorem zon{xs:Array Keyed}{lo hi:Nat}(hh:hi<=xs.size)(h:Sg lt xs lo hi):SrtL lt (xs.extract lo hi).toList:=by
 unfold SrtL;rw [List.pairwise_iff_getElem];intro i j hi' hj' hij;have e1:=List.getElem?_eq_getElem hi';have e2:=List.getElem?_eq_getElem hj';have hl:(xs.extract lo hi).toList.length=hi - lo:=by simp; omega
 rw [<- zat,zmw hh (by omega)] at e1 e2;rw [<- Option.some.inj e1,<- Option.some.inj e2];exact h _ _ (by omega) (by omega) (by omega)
theorem zkg(O:LtOk prog w A E s kd D lt){a₀:Array Keyed}{i sa na pw sb nb pw2:Nat}{st:SortSt}{Q:Bool->SortSt->Prop}(h:Ts kd D a₀ st)(e1:(pendingOf st)[i]? = some (sa,na,pw))(e2:(pendingOf st)[i+1]? = some (sb,nb,pw2))(hsb:sb=sa+na)(na1:1<=na)(nb1:1<=nb)(hsz:sb+nb<=a₀.size)
  (sA:Sg lt (arrOf st) sa (sa+na)) (sB:Sg lt (arrOf st) sb (sb+nb))
  (q:∀ st',Ts kd D a₀ st'->pendingOf st'=((pendingOf st).setIfInBounds i (sa,na+nb,pw)).eraseIdxIfInBounds (i+1)->(∀ j,j<sa\/sa+na+nb<=j->G (arrOf st') j=G (arrOf st) j)->Sg lt (arrOf st') sa (sa+na+nb)->Q true st'):wpS (model prog w) A E s (mergeAt' i) Q st:=by
 refine wpS_bind (wpS_get ?_);simp only [e1,e2];have hsA:(arrOf st).size=a₀.size:=h.size;refine wpS_bind (zrR ?_);refine wpS_bind (zO (h.at (i:=sb) (by clear hsA na1 hsb; omega)) ?_);refine wpS_bind (gal O (key:=G (arrOf st) sb) (hint:=0) h.kd (h.dd (by clear hsA na1 hsb; omega)) (fun j h1 h2=>⟨_,h.at (by clear h1 hsA nb1 na1; omega),h.dd (by clear h1 hsA nb1 na1; omega)⟩) (fun i j x y h1 h2 h3 ex ey=>by
  rw [h.at (by clear h1 hsA nb1 na1; omega)] at ex ey;cases ex;cases ey;exact sA i j h1 h2 h3) (by clear hsA hsz nb1 hsb; omega) fun k hk g1 g2=>?_)
 dsimp only;have g1':∀ j,sa<=j->j<sa+k->lt (G (arrOf st) sb) (G (arrOf st) j)=false:=fun j h1 h2=>by
  have:=g1 j _ h1 h2 (h.at (by clear h1 hsA nb1 na1; omega));simpa [bey] using this
 have g2':∀ j,sa+k<=j->j<sa+na->lt (G (arrOf st) sb) (G (arrOf st) j)=true:=fun j h1 h2=>by
  have:=g2 j _ h1 h2 (h.at (by clear h1 hk hsA nb1 na1; omega));simpa [bey] using this
 by_cases c1:na - k=0
 ·rw [if_pos (by simpa using c1)];refine wpS_pure (q _ ⟨h.kd,h.fl,h.pm,h.d⟩ rfl (fun j _=>rfl) fun p r hp hpr hr=>?_);show lt (G (arrOf st) r) (G (arrOf st) p)=false;by_cases z1:r<sa+na
  ·exact sA p r hp hpr z1
  ·by_cases z2:p<sa+na
   ·exact O.tr _ _ _ (h.dd (by clear z2 z1 hp c1 hk hsA nb1 na1; omega)) (h.dd (i:=sb) (by clear z2 z1 hr hpr hp c1 hk hsA na1 hsb; omega)) (h.dd (by clear z2 z1 hpr hp c1 hk hsA nb1 na1; omega)) (g1' p hp (by clear z1 hr hpr hp hk hsA hsz nb1 na1 hsb; omega)) (sB sb r (Nat.le_refl _) (by clear z2 hr hpr hp c1 hk hsA hsz nb1 na1; omega) (by clear z2 z1 hpr hp c1 hk hsA hsz nb1 na1; omega))
   ·exact sB p r (by clear z1 hr hpr hp c1 hk hsA hsz nb1 na1; omega) hpr (by clear z2 z1 hpr hp c1 hk hsA hsz nb1 na1; omega)
 rw [if_neg (by simpa using c1)];have ei:sa+k+(na - k) - 1=sb - 1:=by clear c1 hsA hsz nb1 na1; omega
 rw [ei];refine wpS_bind (zO (h.at (i:=sb - 1) (by clear ei c1 hk hsA nb1; omega)) ?_);refine wpS_bind (gal O (key:=G (arrOf st) (sb - 1)) (hint:=nb - 1) h.kd (h.dd (by clear ei c1 hk hsA nb1; omega)) (fun j h1 h2=>⟨_,h.at (by clear h1 ei c1 hk hsA nb1 na1 hsb; omega),h.dd (by clear h1 ei c1 hk hsA nb1 na1 hsb; omega)⟩) (fun i j x y h1 h2 h3 ex ey=>by
  rw [h.at (by clear h1 ei c1 hk hsA nb1 na1 hsb; omega)] at ex ey;cases ex;cases ey;exact sB i j h1 h2 h3) (by clear ei c1 hk hsA hsz na1 hsb; omega) fun m hm f1 f2=>?_)
 dsimp only;have f1':∀ j,sb<=j->j<sb+m->lt (G (arrOf st) j) (G (arrOf st) (sb - 1))=true:=fun j h1 h2=>by
  have:=f1 j _ h1 h2 (h.at (by clear h1 ei c1 hk hsA nb1 na1 hsb; omega));simpa [bey] using this
 have f2':∀ j,sb+m<=j->j<sb+nb->lt (G (arrOf st) j) (G (arrOf st) (sb - 1))=false:=fun j h1 h2=>by
  have:=f2 j _ h1 h2 (h.at (by clear h1 hm ei c1 hk hsA nb1 na1 hsb; omega));simpa [bey] using this
 by_cases c2:m=0
 ·rw [if_pos (by simpa using c2)];refine wpS_pure (q _ ⟨h.kd,h.fl,h.pm,h.d⟩ rfl (fun j _=>rfl) fun p r hp hpr hr=>?_);show lt (G (arrOf st) r) (G (arrOf st) p)=false;by_cases z1:r<sa+na
  ·exact sA p r hp hpr z1
  ·by_cases z2:p<sa+na
   ·exact O.tr _ _ _ (h.dd (by clear z2 z1 hp c2 hm ei c1 hk hsA nb1 na1; omega)) (h.dd (i:=sb - 1) (by clear z2 z1 hr hpr hp c2 hm ei c1 hk hsA nb1; omega)) (h.dd (by clear z2 z1 hpr hp c2 hm ei c1 hk hsA nb1 na1; omega)) (sA p (sb - 1) hp (by clear z1 hr hpr hp c2 hm ei c1 hk hsA hsz nb1 na1; omega) (by clear z2 z1 hr hpr hp c2 hm ei c1 hk hsA hsz nb1; omega)) (f2' r (by clear z2 hr hpr hp hm ei c1 hk hsA hsz nb1 na1; omega) (by clear z2 z1 hpr hp c2 hm ei c1 hk hsA hsz nb1 na1; omega))
   ·exact sB p r (by clear z1 hr hpr hp c2 hm ei c1 hk hsA hsz nb1 na1; omega) hpr (by clear z2 z1 hpr hp c2 hm ei c1 hk hsA hsz nb1 na1; omega)
 rw [if_neg (by simpa using c2)];have xD:∀ x∈((arrOf st).extract (sa+k) sb).toList,D x:=fun x mx=>by
  obtain⟨r,r1,r2,rfl⟩:=zfs (by clear c2 hm ei c1 hk nb1 na1 hsb; omega) mx;exact h.dd (by clear r1 c2 hm ei c1 hk hsA nb1 na1 hsb; omega)
 have yD:∀ x∈((arrOf st).extract sb (sb+m)).toList,D x:=fun x mx=>by
  obtain⟨r,r1,r2,rfl⟩:=zfs (by clear c2 ei c1 hk nb1 na1 hsb; omega) mx;exact h.dd (by clear r1 c2 ei c1 hk hsA nb1 na1 hsb; omega)
 have xS:=zon (lt:=lt) (xs:=arrOf st) (lo:=sa+k) (hi:=sb) (by clear c2 hm ei c1 hk nb1 na1 hsb; omega) fun p r h1 h2 h3=>sA p r (by clear h3 h2 c2 hm ei c1 hk hsA hsz nb1 na1 hsb; omega) h2 (by clear h2 h1 c2 hm ei c1 hk hsA hsz nb1 na1; omega);have yS:=zon (lt:=lt) (xs:=arrOf st) (lo:=sb) (hi:=sb+m) (by clear c2 ei c1 hk nb1 na1 hsb; omega) fun p r h1 h2 h3=>sB p r (by clear h3 h2 c2 hm ei c1 hk hsA hsz nb1 na1 hsb; omega) h2 (by clear h2 h1 c2 ei c1 hk hsA hsz nb1 na1 hsb; omega);have xz:((arrOf st).extract (sa+k) sb).size=sb - (sa+k):=by simp; (clear c2 hm ei c1 hk nb1 na1 hsb; omega)
 have yz:((arrOf st).extract sb (sb+m)).size=m:=by simp; (clear xz c2 ei c1 hk nb1 na1 hsb; omega)
 have y0:∀ y,((arrOf st).extract sb (sb+m))[0]? = some y->∀ x∈((arrOf st).extract (sa+k) sb).toList,lt x y=false:=fun y ey x mx=>by
  rw [zmw (by clear yz xz c2 ei c1 hk nb1 na1 hsb; omega) (by clear yz xz hm ei c1 hk hsA hsz nb1 na1 hsb; omega)] at ey;cases ey;obtain⟨r,r1,r2,rfl⟩:=zfs (by clear yz xz c2 hm ei c1 hk nb1 na1 hsb; omega) mx;exact O.asym _ _ (h.dd (by clear r2 r1 yz xz c2 hm ei c1 hk hsA na1 hsb; omega)) (h.dd (by clear r1 yz xz c2 hm ei c1 hk hsA nb1 na1 hsb; omega)) (g2' r r1 (by clear r1 yz xz c2 hm ei c1 hk hsA hsz nb1 na1; omega))
 have xl:∀ x,((arrOf st).extract (sa+k) sb)[((arrOf st).extract (sa+k) sb).size - 1]? = some x->∀ y∈((arrOf st).extract sb (sb+m)).toList,lt x y=false:=fun x ex y my=>by
  rw [xz,zmw (by clear yz xz c2 hm ei c1 hk nb1 na1 hsb; omega) (by clear yz xz c2 hm ei hk hsA hsz nb1 na1; omega)] at ex;cases ex;obtain⟨r,r1,r2,rfl⟩:=zfs (by clear yz xz c2 ei c1 hk nb1 na1 hsb; omega) my;rw [show sa+k+(sb - (sa+k) - 1)=sb - 1 by clear r2 r1 yz xz c2 hm ei hk hsA hsz nb1 na1; omega];exact O.asym _ _ (h.dd (by clear r1 yz xz c2 ei c1 hk hsA nb1 na1 hsb; omega)) (h.dd (by clear r2 r1 yz xz c2 hm ei c1 hk hsA nb1; omega)) (f1' r r1 r2)
 have fin:∀ (out:Array Keyed) (st':SortSt) (st1:SortSt),MDone lt (((arrOf st).extract (sa+k) sb).toList++((arrOf st).extract sb (sb+m)).toList) out.toList->sameSt st1 st'->arrOf st1=arrOf st->kindOf st1=kindOf st->failedOf st1=failedOf st->pendingOf st1=((pendingOf st).setIfInBounds i (sa,na+nb,pw)).eraseIdxIfInBounds (i+1) ->
   ∀ st2:SortSt,kindOf st2=kindOf st'->failedOf st2=failedOf st'->pendingOf st2=pendingOf st'->arrOf st2=List.foldl (fun a x=>a.setIfInBounds (sa+k+x.snd) x.fst) (arrOf st') out.toList.zipIdx->Q true st2/\failedOf st2=none:=fun out st' st1 hd hss ea1 ek1 ef1 ep1 st2 ek ef ep ea=>by
  obtain⟨s1,s2,s3,s4⟩:=hss;have hol:out.toList.length=sb - (sa+k)+m:=by
   have:=hd.1.length_eq;rw [List.length_append] at this;simp only [Array.length_toList] at this ⊢
   (clear c2 hm ei c1 hk hsA hsz nb1 na1 hsb; omega)
  rw [s2,ea1] at ea;have hw:=zhB (sa+k) out.toList 0 (arrOf st) (by clear yz xz c2 ei c1 nb1 na1; omega);have ht:(arrOf st2).toList=(arrOf st).toList.take (sa+k)++out.toList++(arrOf st).toList.drop (sb+m):=by
   rw [ea];rw [Nat.add_zero] at hw;rw [hw];congr 2
   (clear yz xz c2 hm ei c1 hsA hsz nb1 na1; omega)
  have hpm:(arrOf st2).Perm (arrOf st):=by
   rw [Array.perm_iff_toList_perm,ht];have e0:(arrOf st).toList=(arrOf st).toList.take (sa+k)++(((arrOf st).extract (sa+k) sb).toList++((arrOf st).extract sb (sb+m)).toList)++(arrOf st).toList.drop (sb+m):=by
    rw [Array.toList_extract,Array.toList_extract,List.extract_eq_take_drop,List.extract_eq_take_drop,List.append_assoc,List.append_assoc,show sb+m - sb=m by clear hol yz xz c2 hm ei c1 hk hsA hsz nb1 na1 hsb; omega];have q1:(arrOf st).toList.drop (sb+m)=((arrOf st).toList.drop sb).drop m:=by rw [List.drop_drop]
    rw [q1,List.take_append_drop];have q2:(arrOf st).toList.drop sb=((arrOf st).toList.drop (sa+k)).drop (sb - (sa+k)):=by rw [List.drop_drop]; congr 1; (clear hol yz xz c2 hm ei c1 hsA hsz nb1 na1; omega)
    rw [q2,List.take_append_drop,List.take_append_drop]
   conv=>rhs; rw [e0]
   exact(hd.1.append_left _).append_right _
  have hTs:Ts kd D a₀ st2:=⟨ek.trans (s1.trans (ek1.trans h.kd)),ef.trans (s4.trans (ef1.trans h.fl)),hpm.trans h.pm,h.d⟩;have tl:((arrOf st).toList.take (sa+k)).length=sa+k:=by rw [List.length_take,Array.length_toList]; (clear hol yz xz c2 hm ei c1 nb1 na1; omega)
  have gout:∀ j,j<sa+k\/sb+m<=j->G (arrOf st2) j=G (arrOf st) j:=fun j hj=>by
   unfold G;congr 1;rw [<- Array.getElem?_toList,<- Array.getElem?_toList,ht];rcases hj with hj | hj
   ·rw [List.append_assoc,List.getElem?_append_left (by clear hol yz xz c2 hm ei c1 hk hsA hsz nb1 na1 hsb; omega),List.getElem?_take,if_pos hj]
   ·rw [List.getElem?_append_right (by rw [List.length_append,tl,hol]; (clear tl hol yz xz c2 hm ei c1 hsA hsz nb1 na1; omega)),List.length_append,tl,hol,List.getElem?_drop];congr 1
    (clear tl hol yz xz c2 hm ei c1 hsA hsz nb1 na1; omega)
  have gin:∀ j,sa+k<=j->j<sb+m->∃ z,out.toList[j - (sa+k)]? = some z/\G (arrOf st2) j=z/\∃ r,sa+k<=r/\r<sb+m/\G (arrOf st) r=z:=fun j h1 h2=>by
   have hj:j - (sa+k)<out.toList.length:=by clear h1 tl yz xz c2 hm ei hk hsA hsz nb1 na1; omega
   have ez:=List.getElem?_eq_getElem hj;refine⟨_,ez,zqd ?_,?_⟩
   ·rw [ht,List.append_assoc,List.getElem?_append_right (by clear h2 hol yz xz c2 hm ei c1 hk hsA hsz nb1 na1 hsb; omega),tl,List.getElem?_append_left hj];exact ez
   ·have mz:=hd.1.mem_iff.mp (List.mem_of_getElem? ez);rcases List.mem_append.mp mz with mz | mz
    ·obtain⟨r,r1,r2,r3⟩:=zfs (by clear h2 h1 tl hol yz xz c2 hm ei c1 hk nb1 na1 hsb; omega) mz;exact⟨r,r1,by clear r1 h2 h1 tl hol yz xz c2 hm ei c1 hk hsA hsz nb1 na1 hsb; omega,r3⟩
    ·obtain⟨r,r1,r2,r3⟩:=zfs (by clear h2 h1 tl hol yz xz c2 ei c1 hk nb1 na1 hsb; omega) mz;exact⟨r,by clear r2 h2 h1 tl hol yz xz c2 hm ei c1 hsA hsz nb1 na1; omega,r2,r3⟩
  refine⟨q st2 hTs (ep.trans (s3.trans ep1)) (fun j hj=>gout j (by clear tl hol yz xz c2 ei c1 hk hsA hsz nb1 na1; omega)) fun p r hp hpr hr=>?_,hTs.fl⟩;have up:∀ p q',sa<=p->p<sa+k->sb<=q'->q'<sb+nb->lt (G (arrOf st) q') (G (arrOf st) p)=false:=fun p q' p1 p2 q1 q2=>O.tr _ _ _ (h.dd (by clear q2 q1 p1 hr hpr hp tl hol yz xz c2 hm ei c1 hsA nb1 na1; omega)) (h.dd (i:=sb) (by clear q2 q1 p2 p1 hr hpr hp tl hol yz xz c2 hm ei c1 hk hsA na1 hsb; omega)) (h.dd (by clear q1 p2 p1 hr hpr hp tl hol yz xz c2 hm ei c1 hk hsA nb1 na1 hsb; omega)) (g1' p p1 p2) (sB sb q' (Nat.le_refl _) q1 q2);have dn:∀ p q',sa<=p->p<sb->sb+m<=q'->q'<sb+nb->lt (G (arrOf st) q') (G (arrOf st) p)=false:=fun p q' p1 p2 q1 q2=>O.tr _ _ _ (h.dd (by clear q2 q1 p1 hr hpr hp tl hol yz xz c2 hm ei c1 hk hsA nb1 na1 hsb; omega)) (h.dd (i:=sb - 1) (by clear q2 q1 p2 p1 hr hpr hp tl hol yz xz c2 hm ei c1 hk hsA nb1; omega)) (h.dd (by clear q1 p2 p1 hr hpr hp tl hol yz xz c2 hm ei c1 hk hsA nb1 na1 hsb; omega)) (sA p (sb - 1) p1 (by clear q2 q1 p1 hr hpr hp tl hol yz xz c2 hm ei c1 hk hsA hsz nb1 na1 hsb; omega) (by clear q2 q1 p2 p1 hr hpr hp tl hol yz xz c2 hm ei c1 hk hsA hsz nb1; omega)) (f2' q' q1 q2);by_cases p1:p<sa+k
  ·rw [gout p (.inl p1)];by_cases r1:r<sa+k
   ·rw [gout r (.inl r1)];exact sA p r hp hpr (by clear p1 hr hpr hp tl hol yz xz c2 hm ei c1 hsA hsz nb1 na1 hsb; omega)
   by_cases r2:sb+m<=r
   ·rw [gout r (.inr r2)];exact up p r hp p1 (by clear r1 p1 hr hpr hp tl hol yz xz c2 hm ei c1 hk hsA hsz nb1 na1 hsb; omega) (by clear r2 r1 p1 hpr hp tl hol yz xz c2 hm ei c1 hk hsA hsz nb1 na1; omega)
   ·obtain⟨z,_,ez,t,t1,t2,t3⟩:=gin r (by clear r2 p1 hr hpr hp tl hol yz xz c2 hm ei c1 hk hsA hsz nb1 na1 hsb; omega) (by clear r1 p1 hr hpr hp tl hol yz xz c2 hm ei c1 hk hsA hsz nb1 na1 hsb; omega);rw [ez,<- t3];by_cases tb:t<sb
    ·exact sA p t hp (by clear tb t2 r2 r1 hr hpr hp tl hol yz xz c2 hm ei c1 hk hsA hsz nb1 na1 hsb; omega) (by clear t2 t1 r2 r1 p1 hr hpr hp tl hol yz xz c2 hm ei c1 hk hsA hsz nb1 na1; omega)
    ·exact up p t hp p1 (by clear t2 t1 r2 r1 p1 hr hpr hp tl hol yz xz c2 hm ei c1 hk hsA hsz nb1 na1 hsb; omega) (by clear tb t1 r2 r1 p1 hr hpr hp tl hol yz xz c2 ei c1 hk hsA hsz nb1 na1 hsb; omega)
  by_cases p2:sb+m<=p
  ·rw [gout p (.inr p2),gout r (.inr (by clear p1 hr hp tl hol yz xz c2 hm ei c1 hk hsA hsz nb1 na1 hsb; omega))];exact sB p r (by clear p1 hr hpr hp tl hol yz xz c2 hm ei c1 hk hsA hsz nb1 na1 hsb; omega) hpr (by clear p2 p1 hpr hp tl hol yz xz c2 hm ei c1 hk hsA hsz nb1 na1; omega)
  obtain⟨z,oz,ez,t,t1,t2,t3⟩:=gin p (by clear p2 hr hpr hp tl hol yz xz c2 hm ei c1 hk hsA hsz nb1 na1 hsb; omega) (by clear p1 hr hpr hp tl hol yz xz c2 hm ei c1 hk hsA hsz nb1 na1 hsb; omega);by_cases r2:sb+m<=r
  ·rw [gout r (.inr r2),ez,<- t3];by_cases tb:t<sb
   ·exact dn t r (by clear tb r2 t2 p2 p1 hr hpr hp tl hol yz xz c2 hm ei c1 hk hsA hsz nb1 na1 hsb; omega) tb r2 (by clear tb r2 t2 t1 p2 p1 hpr hp tl hol yz xz c2 hm ei c1 hk hsA hsz nb1 na1; omega)
   ·exact sB t r (by clear r2 t2 t1 p2 p1 hr hpr hp tl hol yz xz c2 hm ei c1 hk hsA hsz nb1 na1 hsb; omega) (by clear tb t1 p2 p1 hr hpr hp tl hol yz xz c2 hm ei c1 hk hsA hsz nb1 na1 hsb; omega) (by clear tb r2 t2 t1 p2 p1 hpr hp tl hol yz xz c2 hm ei c1 hk hsA hsz nb1 na1; omega)
  ·obtain⟨z',oz',ez',_⟩:=gin r (by clear r2 t2 t1 p2 hr hp tl hol yz xz c2 hm ei c1 hk hsA hsz nb1 na1 hsb; omega) (by clear t2 t1 p2 p1 hr hpr hp tl hol yz xz c2 hm ei c1 hk hsA hsz nb1 na1 hsb; omega);rw [ez,ez'];exact za5 O hd.2 (fun x mx=>by
    rcases List.mem_append.mp (hd.1.mem_iff.mp mx) with mx | mx
    ·exact xD x mx
    ·exact yD x mx) (show p - (sa+k)<=r - (sa+k) by clear r2 t2 t1 p2 p1 hr hp tl hol yz xz c2 hm ei c1 hk hsA hsz nb1 na1 hsb; omega) oz oz'
 have xz1:1<=((arrOf st).extract (sa+k) sb).size:=by rw [xz]; (clear yz xz c2 hm ei hk hsA hsz nb1 na1; omega)
 have yz1:1<=((arrOf st).extract sb (sb+m)).size:=by rw [yz]; (clear xz1 yz xz hm ei c1 hk hsA hsz nb1 na1 hsb; omega)
 have xz1:1<=((arrOf st).extract (sa+k) sb).size:=by rw [xz]; (clear yz1 xz1 yz xz c2 hm ei hk hsA hsz nb1 na1; omega)
 have yz1:1<=((arrOf st).extract sb (sb+m)).size:=by rw [yz]; (clear xz1 yz1 yz xz hm ei c1 hk hsA hsz nb1 na1 hsb; omega)
 by_cases c3:na - k<=m
 ·rw [if_pos c3];refine wpS_bind (zj7 O h.kd xD yD xS yS xz1 yz1 y0 xl fun out st' hd hss=>?_);refine wpS_bind (wpS_modify (wpS_bind (wpS_get ?_)));obtain⟨z1,z2⟩:=fin out st' _ hd hss rfl rfl rfl rfl (setArr st' (List.foldl (fun a x=>a.setIfInBounds (sa+k+x.snd) x.fst) (arrOf st') out.toList.zipIdx)) rfl rfl rfl rfl;refine wpS_pure ?_;show Q (failedOf (setArr st' (List.foldl (fun a x=>a.setIfInBounds (sa+k+x.snd) x.fst) (arrOf st') out.toList.zipIdx))).isNone (setArr st' (List.foldl (fun a x=>a.setIfInBounds (sa+k+x.snd) x.fst) (arrOf st') out.toList.zipIdx));rw [z2];exact z1
 ·rw [if_neg c3];refine wpS_bind (zkb O h.kd xD yD xS yS xz1 yz1 y0 xl fun out st' hd hss=>?_);refine wpS_bind (wpS_modify (wpS_bind (wpS_get ?_)));obtain⟨z1,z2⟩:=fin out st' _ hd hss rfl rfl rfl rfl (setArr st' (List.foldl (fun a x=>a.setIfInBounds (sa+k+x.snd) x.fst) (arrOf st') out.toList.zipIdx)) rfl rfl rfl rfl;refine wpS_pure ?_;show Q (failedOf (setArr st' (List.foldl (fun a x=>a.setIfInBounds (sa+k+x.snd) x.fst) (arrOf st') out.toList.zipIdx))).isNone (setArr st' (List.foldl (fun a x=>a.setIfInBounds (sa+k+x.snd) x.fst) (arrOf st') out.toList.zipIdx));rw [z2];exact z1
def Stk(lt:Keyed->Keyed->Bool)(xs:Array Keyed):Nat->List (Nat×Nat×Nat)->Nat->Prop
 | s,[],e=>s=e
 | s,r :: p,e=>r.1=s/\1<=r.2.1/\Sg lt xs s (s+r.2.1)/\Stk lt xs (s+r.2.1) p e
theorem Stk.le{xs:Array Keyed}:∀ {p:List (Nat×Nat×Nat)} {s e:Nat},Stk lt xs s p e->s+p.length<=e
 | [],s,e,h=>by have:s=e:=h; simp; omega
 | r :: p,s,e,h=>by
  obtain⟨h1,h2,h3,h4⟩:=h;have:=Stk.le h4;rw [List.length_cons]
  (clear h1; omega)
theorem Stk.mono{xs ys:Array Keyed}:∀ {p:List (Nat×Nat×Nat)} {s e:Nat},Stk lt xs s p e->(∀ i,s<=i->i<e->G ys i=G xs i)->Stk lt ys s p e
 | [],s,e,h,_=>h
 | r :: p,s,e,h,k=>by
  obtain⟨h1,h2,h3,h4⟩:=h;have:=Stk.le h4;refine⟨h1,h2,fun i j hi hij hj=>?_,Stk.mono h4 fun i hi hj=>k i (by omega) hj⟩;rw [k i (by omega) (by omega),k j (by omega) (by omega)];exact h3 i j hi hij hj
theorem Stk.push{xs:Array Keyed}{n w':Nat}:∀ {p:List (Nat×Nat×Nat)} {s e:Nat},Stk lt xs s p e->1<=n->Sg lt xs e (e+n)->Stk lt xs s (p++[(e,n,w')]) (e+n)
 | [],s,e,h,h1,h2=>by
  have:s=e:=h;subst this;exact⟨rfl,h1,h2,rfl⟩
 | r :: p,s,e,h,k1,k2=>by
  obtain⟨h1,h2,h3,h4⟩:=h;exact⟨h1,h2,h3,Stk.push h4 k1 k2⟩
theorem Stk.modLast{xs:Array Keyed}{pw:Nat}:∀ {p:List (Nat×Nat×Nat)} {s e:Nat},Stk lt xs s p e->∀ k,Stk lt xs s (p.modify k fun x=>(x.1,x.2.1,pw)) e
 | [],s,e,h,k=>by simpa using h
 | r :: p,s,e,h,0=>by
  obtain⟨h1,h2,h3,h4⟩:=h;exact⟨h1,h2,h3,h4⟩
 | r :: p,s,e,h,k+1=>by
  obtain⟨h1,h2,h3,h4⟩:=h;exact⟨h1,h2,h3,Stk.modLast h4 k⟩
theorem Stk.at{xs:Array Keyed}{sa na pw sb nb pw2:Nat}:∀ {p:List (Nat×Nat×Nat)} {s e i:Nat},Stk lt xs s p e->p[i]? = some (sa,na,pw)->p[i+1]? = some (sb,nb,pw2) ->
  s<=sa/\sb=sa+na/\1<=na/\1<=nb/\sb+nb<=e/\Sg lt xs sa (sa+na)/\Sg lt xs sb (sb+nb)/\∀ ys:Array Keyed,(∀ j,j<sa\/sa+na+nb<=j->G ys j=G xs j)->Sg lt ys sa (sa+na+nb)->Stk lt ys s ((p.set i (sa,na+nb,pw)).eraseIdx (i+1)) e
 | [],s,e,i,_,h1,_=>by simp at h1
 | r :: p,s,e,0,h,e1,e2=>by
  have er:r=(sa,na,pw):=by simpa using e1
  subst er;cases p with
  | nil=>simp at e2
  | cons r2 p =>
   have er2:r2=(sb,nb,pw2):=by simpa using e2
   subst er2;obtain⟨h1,h2,h3,h5,h6,h7,h8⟩:=h;have h1':sa=s:=h1;have h5':sb=s+na:=h5;subst h1';have hle:=Stk.le h8;have h6':1<=nb:=h6;have h2':1<=na:=h2;subst h5';have h8':Stk lt xs (sa+na+nb) p e:=h8;refine⟨Nat.le_refl _,rfl,h2',h6',by have:sa+na+nb+p.length<=e:=hle; (clear hle h5 h6 h2' h6' h1 h2; omega),h3,h7,fun ys k1 k2=>?_⟩;refine⟨rfl,by show 1<=na+nb; (clear hle h5 h6 h2' h1 h2; omega),?_,?_⟩
   ·show Sg lt ys sa (sa+(na+nb));rw [<- Nat.add_assoc];exact k2
   ·show Stk lt ys (sa+(na+nb)) p e;rw [<- Nat.add_assoc];exact Stk.mono h8' fun i hi hj=>k1 i (.inr hi)
 | r :: p,s,e,i+1,h,e1,e2=>by
  obtain⟨h1,h2,h3,h4⟩:=h;obtain⟨q1,q2,q3,q4,q5,q6,q7,q8⟩:=Stk.at h4 (by simpa using e1) (by simpa using e2);refine⟨by clear q5 q4 q3 q2 h2 h1; omega,q2,q3,q4,q5,q6,q7,fun ys k1 k2=>?_⟩;refine⟨h1,h2,fun i j hi hij hj=>?_,q8 ys k1 k2⟩;rw [k1 i (.inl (by clear hi q5 q4 q3 q2 h2 h1; omega)),k1 j (.inl (by clear hij hi q5 q4 q3 q2 h2 h1; omega))];exact h3 i j hi hij hj
theorem zfH(O:LtOk prog w A E s kd D lt){a₀:Array Keyed}{i lo:Nat}{st:SortSt}{Q:Bool->SortSt->Prop}(h:Ts kd D a₀ st)(hs:Stk lt (arrOf st) 0 (pendingOf st).toList lo)(hlo:lo<=a₀.size)(hi:i+1<(pendingOf st).size)
  (q:∀ st',Ts kd D a₀ st'->Stk lt (arrOf st') 0 (pendingOf st').toList lo->(pendingOf st').size+1=(pendingOf st).size->(∀ j,lo<=j->G (arrOf st') j=G (arrOf st) j)->Q true st'):wpS (model prog w) A E s (mergeAt' i) Q st:=by
 obtain⟨⟨sa,na,pw⟩,g1⟩:∃ r,(pendingOf st)[i]? = some r:=⟨_,Array.getElem?_eq_getElem (by omega)⟩;obtain⟨⟨sb,nb,pw2⟩,g2⟩:∃ r,(pendingOf st)[i+1]? = some r:=⟨_,Array.getElem?_eq_getElem (by omega)⟩;obtain⟨q1,q2,q3,q4,q5,q6,q7,q8⟩:=Stk.at hs (i:=i) (by rw [<- Array.getElem?_toList] at g1; exact g1) (by rw [<- Array.getElem?_toList] at g2; exact g2);refine zkg O h g1 g2 q2 q3 q4 (by omega) q6 q7 fun st' hT hp hg hS=>?_;have hpl:(pendingOf st').toList=((pendingOf st).toList.set i (sa,na+nb,pw)).eraseIdx (i+1):=by
  rw [hp,Array.eraseIdxIfInBounds,dif_pos (by rw [Array.size_setIfInBounds]; exact hi),Array.toList_eraseIdx,Array.toList_setIfInBounds]
 refine q st' hT ?_ ?_ fun j hj=>hg j (.inr (by omega))
 ·rw [hpl];exact q8 _ hg hS
 ·have:=congrArg List.length hpl;rw [List.length_eraseIdx_of_lt (by simp; omega),List.length_set,Array.length_toList,Array.length_toList] at this;omega
theorem zpb(O:LtOk prog w A E s kd D lt){a₀:Array Keyed}{st:SortSt}{Q:Unit->SortSt->Prop}(h:Ts kd D a₀ st)(hp0:pendingOf st = #[])(h2:2<=a₀.size)
  (q:∀ st',Ts kd D a₀ st'->Sg lt (arrOf st') 0 a₀.size->Q () st'):wpS (model prog w) A E s sortRuns' Q st:=by
 rw [sortRuns'_eq];refine wpS_bind (wpS_get ?_);dsimp only;rw [h.size];generalize minRun' a₀.size a₀.size 0=mr;refine wpS_bind (wpS_mono (wpS_forRange (a:=0)
  (I:=fun k c st'=>∃ lo,c=(none,lo)/\k<=lo/\lo<=a₀.size/\Ts kd D a₀ st'/\Stk lt (arrOf st') 0 (pendingOf st').toList lo)
  (Q:=fun c st'=>∃ lo,c=(none,lo)/\lo=a₀.size/\Ts kd D a₀ st'/\Stk lt (arrOf st') 0 (pendingOf st').toList lo) ?step ?fin ⟨0,rfl,Nat.le_refl _,Nat.zero_le _,h,by rw [hp0]; rfl⟩) ?post)
 case fin =>
  rintro c st' ⟨lo,rfl,k1,k2,hT,hS⟩;exact⟨lo,rfl,by omega,hT,hS⟩
 case post =>
  rintro c st' ⟨lo,rfl,rfl,hT,hS⟩;dsimp only;have hz:=Stk.le hS;rw [Array.length_toList] at hz;refine wpS_bind (wpS_mono (wpS_forRange (a:=0)
   (I:=fun k c st2=>c=(none,())/\Ts kd D a₀ st2/\Stk lt (arrOf st2) 0 (pendingOf st2).toList a₀.size/\(pendingOf st2).size+k<=a₀.size+0\/c=(none,())/\Ts kd D a₀ st2/\Stk lt (arrOf st2) 0 (pendingOf st2).toList a₀.size/\(pendingOf st2).size<=1)
   (Q:=fun c st2=>c=(none,())/\Ts kd D a₀ st2/\Stk lt (arrOf st2) 0 (pendingOf st2).toList a₀.size/\(pendingOf st2).size<=1) ?stepF ?finF (.inl ⟨rfl,hT,hS,by omega⟩)) ?postF)
  case finF =>
   rintro c st2 (⟨rfl,h3,h4,h5⟩ | hh)
   ·exact⟨rfl,h3,h4,by omega⟩
   ·exact hh
  case stepF =>
   rintro k c st2 _ hk hh;have hh':c=(none,())/\Ts kd D a₀ st2/\Stk lt (arrOf st2) 0 (pendingOf st2).toList a₀.size/\((pendingOf st2).size+k<=a₀.size\/(pendingOf st2).size<=1):=by
    rcases hh with ⟨a1,a2,a3,a4⟩ | ⟨a1,a2,a3,a4⟩
    ·exact⟨a1,a2,a3,.inl (by omega)⟩
    ·exact⟨a1,a2,a3,.inr a4⟩
   obtain⟨rfl,h3,h4,h5⟩:=hh';refine wpS_bind (wpS_get ?_)
   try dsimp only
   by_cases d1:(pendingOf st2).size<=1
   ·rw [if_pos d1];exact wpS_pure ⟨rfl,h3,h4,d1⟩
   rw [if_neg d1];generalize hgen:(if (if (pendingOf st2).size - 2>0 then Option.map (fun x=>x.snd.fst) (pendingOf st2)[(pendingOf st2).size - 2 - 1]? else none).any (fun x=>decide (x<(pendingOf st2)[(pendingOf st2).size - 2+1]?.elim 0 fun x=>x.snd.fst))=true then (pendingOf st2).size - 2 - 1 else (pendingOf st2).size - 2)=ii;have hii:ii+1<(pendingOf st2).size:=by
    have hx:∀ (P:Prop) (_:Decidable P),(if P then (pendingOf st2).size - 2 - 1 else (pendingOf st2).size - 2)+1<(pendingOf st2).size:=fun P _=>by
     by_cases z:P
     ·rw [if_pos z]; omega
     ·rw [if_neg z]; omega
    rw [<- hgen];exact hx _ _
   refine wpS_bind (zfH O h3 h4 (Nat.le_refl _) hii fun st5 h6 s6 z6 g6=>?_);simp only [Bool.not_true,Bool.false_eq_true,if_false];exact wpS_pure (.inl ⟨rfl,h6,s6,by omega⟩)
  case postF =>
   rintro c st2 ⟨rfl,h3,h4,h5⟩;dsimp only;refine wpS_pure (q st2 h3 ?_);cases hl:(pendingOf st2).toList with
   | nil =>
    rw [hl] at h4;have:0=a₀.size:=h4;omega
   | cons r rest =>
    have hr:rest=[]:=by
     have:=congrArg List.length hl;rw [Array.length_toList,List.length_cons] at this;exact List.eq_nil_of_length_eq_zero (by omega)
    rw [hl,hr] at h4;obtain⟨e1,e2,e3,e4⟩:=h4;have e4':0+r.2.1=a₀.size:=e4;rw [<- e4'];exact e3
 case step =>
  rintro k c st' _ hk ⟨lo,rfl,k1,k2,hT,hS⟩;dsimp only;by_cases c1:lo≥a₀.size
  ·rw [if_pos c1];exact wpS_pure ⟨lo,rfl,by omega,hT,hS⟩
  rw [if_neg c1];refine wpS_bind (zoc O (hT.tb lo) (by omega) (by omega) fun m st2 hT2 m1 m2 hS2=>?_);dsimp only;by_cases c2:m<mr
  ·rw [if_pos c2];refine wpS_bind (wpS_lift (wpAny_rule ⟨rfl,?_⟩));refine wpS_bind (znh O hT2 (n:=min (a₀.size - lo) mr) (by omega) m1 (by omega) hS2 fun stN hTN hRun=>?_);simp only [Bool.not_true,Bool.false_eq_true,if_false];have n1:1<=min (a₀.size - lo) mr:=by omega
   have n2:lo+min (a₀.size - lo) mr<=a₀.size:=by omega
   generalize min (a₀.size - lo) mr=n at n1 n2 hRun;have hTs:Ts kd D a₀ stN:=⟨hTN.kd,hTN.fl,hTN.pm,hTN.d⟩;have hSN:Stk lt (arrOf stN) 0 (pendingOf stN).toList lo:=by
    rw [hTN.pe];exact Stk.mono hS fun i _ hi=>hTN.lo i hi
   refine wpS_bind (wpS_get ?_);have fin:∀ stM:SortSt,Ts kd D a₀ stM->Stk lt (arrOf stM) 0 (pendingOf stM).toList lo->(∀ j,lo<=j->G (arrOf stM) j=G (arrOf stN) j)->Stk lt (arrOf stM) 0 ((pendingOf stM).push (lo,n,0)).toList (lo+n):=fun stM hM hMS hMg=>by
    rw [Array.toList_push];refine Stk.push hMS n1 fun i j hi hij hj=>?_;rw [hMg i hi,hMg j (by omega)];exact hRun i j hi hij hj
   cases hbk:(pendingOf stN).back? with
   | none =>
    try dsimp only
    exact wpS_bind (wpS_modify (wpS_pure ⟨lo+n,rfl,by omega,by omega,⟨hTs.kd,hTs.fl,hTs.pm,hTs.d⟩,fin stN hTs hSN fun _ _=>rfl⟩))
   | some r =>
    obtain⟨s1,n1',w1⟩:=r
    try dsimp only
    generalize power' a₀.size (2*s1+n1') (2*s1+n1'+n1'+n) a₀.size=pw;refine wpS_bind (wpS_mono (wpS_forRange (a:=0)
     (I:=fun _ c stM=>c=(none,())/\Ts kd D a₀ stM/\Stk lt (arrOf stM) 0 (pendingOf stM).toList lo/\∀ j,lo<=j->G (arrOf stM) j=G (arrOf stN) j)
     (Q:=fun c stM=>c=(none,())/\Ts kd D a₀ stM/\Stk lt (arrOf stM) 0 (pendingOf stM).toList lo/\∀ j,lo<=j->G (arrOf stM) j=G (arrOf stN) j) ?stepM (fun _ _ hh=>hh) ⟨rfl,hTs,hSN,fun _ _=>rfl⟩) ?postM)
    case stepM =>
     rintro kk c stM _ _ ⟨rfl,hM,hMS,hMg⟩;refine wpS_bind (wpS_get ?_)
     try dsimp only
     by_cases d1:(pendingOf stM).size>1
     ·rw [if_pos d1];obtain⟨⟨oa,ob,oc⟩,og⟩:∃ r,(pendingOf stM)[(pendingOf stM).size - 2]? = some r:=⟨_,Array.getElem?_eq_getElem (by omega)⟩;rw [og];dsimp only;by_cases d2:oc<=pw
      ·rw [if_pos d2];exact wpS_pure ⟨rfl,hM,hMS,hMg⟩
      ·rw [if_neg d2];refine wpS_bind (zfH O hM hMS k2 (by omega) fun st5 h5 s5 z5 g5=>?_);simp only [Bool.not_true,Bool.false_eq_true,if_false];exact wpS_pure ⟨rfl,h5,s5,fun j hj=>(g5 j hj).trans (hMg j hj)⟩
     ·rw [if_neg d1];exact wpS_pure ⟨rfl,hM,hMS,hMg⟩
    case postM =>
     rintro c stM ⟨rfl,hM,hMS,hMg⟩;dsimp only;refine wpS_bind (wpS_modify (wpS_bind (wpS_modify (wpS_pure ⟨lo+n,rfl,by omega,by omega,⟨hM.kd,hM.fl,hM.pm,hM.d⟩,?_⟩))));refine fin (setPending stM ((pendingOf stM).modify ((pendingOf stM).size - 1) fun x=>(x.1,x.2.1,pw))) ⟨hM.kd,hM.fl,hM.pm,hM.d⟩ ?_ hMg;show Stk lt (arrOf stM) 0 ((pendingOf stM).modify ((pendingOf stM).size - 1) fun x=>(x.1,x.2.1,pw)).toList lo;rw [Array.toList_modify];exact Stk.modLast hMS _
  ·rw [if_neg c2];have n1:1<=m:=m1;have n2:lo+m<=a₀.size:=by omega
   have hRun:=hS2;have hTN:=hT2;generalize m=n at n1 n2 hRun
   revert hTN hRun
   generalize st2=stN;intro hTN hRun;have hTs:Ts kd D a₀ stN:=⟨hTN.kd,hTN.fl,hTN.pm,hTN.d⟩;have hSN:Stk lt (arrOf stN) 0 (pendingOf stN).toList lo:=by
    rw [hTN.pe];exact Stk.mono hS fun i _ hi=>hTN.lo i hi
   refine wpS_bind (wpS_get ?_);have fin:∀ stM:SortSt,Ts kd D a₀ stM->Stk lt (arrOf stM) 0 (pendingOf stM).toList lo->(∀ j,lo<=j->G (arrOf stM) j=G (arrOf stN) j)->Stk lt (arrOf stM) 0 ((pendingOf stM).push (lo,n,0)).toList (lo+n):=fun stM hM hMS hMg=>by
    rw [Array.toList_push];refine Stk.push hMS n1 fun i j hi hij hj=>?_;rw [hMg i hi,hMg j (by omega)];exact hRun i j hi hij hj
   cases hbk:(pendingOf stN).back? with
   | none =>
    try dsimp only
    exact wpS_bind (wpS_modify (wpS_pure ⟨lo+n,rfl,by omega,by omega,⟨hTs.kd,hTs.fl,hTs.pm,hTs.d⟩,fin stN hTs hSN fun _ _=>rfl⟩))
   | some r =>
    obtain⟨s1,n1',w1⟩:=r
    try dsimp only
    generalize power' a₀.size (2*s1+n1') (2*s1+n1'+n1'+n) a₀.size=pw;refine wpS_bind (wpS_mono (wpS_forRange (a:=0)
     (I:=fun _ c stM=>c=(none,())/\Ts kd D a₀ stM/\Stk lt (arrOf stM) 0 (pendingOf stM).toList lo/\∀ j,lo<=j->G (arrOf stM) j=G (arrOf stN) j)
     (Q:=fun c stM=>c=(none,())/\Ts kd D a₀ stM/\Stk lt (arrOf stM) 0 (pendingOf stM).toList lo/\∀ j,lo<=j->G (arrOf stM) j=G (arrOf stN) j) ?stepM (fun _ _ hh=>hh) ⟨rfl,hTs,hSN,fun _ _=>rfl⟩) ?postM)
    case stepM =>
     rintro kk c stM _ _ ⟨rfl,hM,hMS,hMg⟩;refine wpS_bind (wpS_get ?_)
     try dsimp only
     by_cases d1:(pendingOf stM).size>1
     ·rw [if_pos d1];obtain⟨⟨oa,ob,oc⟩,og⟩:∃ r,(pendingOf stM)[(pendingOf stM).size - 2]? = some r:=⟨_,Array.getElem?_eq_getElem (by omega)⟩;rw [og];dsimp only;by_cases d2:oc<=pw
      ·rw [if_pos d2];exact wpS_pure ⟨rfl,hM,hMS,hMg⟩
      ·rw [if_neg d2];refine wpS_bind (zfH O hM hMS k2 (by omega) fun st5 h5 s5 z5 g5=>?_);simp only [Bool.not_true,Bool.false_eq_true,if_false];exact wpS_pure ⟨rfl,h5,s5,fun j hj=>(g5 j hj).trans (hMg j hj)⟩
     ·rw [if_neg d1];exact wpS_pure ⟨rfl,hM,hMS,hMg⟩
    case postM =>
     rintro c stM ⟨rfl,hM,hMS,hMg⟩;refine wpS_bind (wpS_modify (wpS_bind (wpS_modify (wpS_pure ⟨lo+n,rfl,by omega,by omega,⟨hM.kd,hM.fl,hM.pm,hM.d⟩,?_⟩))));refine fin (setPending stM ((pendingOf stM).modify ((pendingOf stM).size - 1) fun x=>(x.1,x.2.1,pw))) ⟨hM.kd,hM.fl,hM.pm,hM.d⟩ ?_ hMg;show Stk lt (arrOf stM) 0 ((pendingOf stM).modify ((pendingOf stM).size - 1) fun x=>(x.1,x.2.1,pw)).toList lo;rw [Array.toList_modify];exact Stk.modLast hMS _
end
end L2
namespace L2
open PySem PySem.Spec PySem.Calls PyProof.Rows PySem.W
theorem lexLt_trans0:∀ {a b c:List Int},HT.lexLt a b=true->HT.lexLt b c=true->HT.lexLt a c=true
 | [],[],_,h,_=>by cases h
 | [],_ :: _,[],_,h=>by cases h
 | [],_ :: _,_ :: _,_,_=>rfl
 | _ :: _,[],_,h,_=>by cases h
 | _ :: _,_ :: _,[],_,h=>by cases h
 | x :: xs,y :: ys,z :: zs,h,k=>by
  rw [HT.lexLt_cons] at h k ⊢;split at h
  ·rename_i e;subst e;split at k
   ·rename_i e;subst e;rw [if_pos rfl];exact lexLt_trans0 h k
   ·rename_i e;rw [if_neg e];exact k
  ·rename_i e;have h':=of_decide_eq_true h;split at k
   ·rename_i e2;subst e2;rw [if_neg e];exact h
   ·have k':=of_decide_eq_true k;rw [if_neg (by omega)];exact decide_eq_true (by omega)
theorem zhv:∀ (a b:List Int),HT.lexLt a b=true\/a=b\/HT.lexLt b a=true
 | [],[]=>.inr (.inl rfl)
 | [],_ :: _=>.inl rfl
 | _ :: _,[]=>.inr (.inr rfl)
 | x :: xs,y :: ys=>by
  rw [HT.lexLt_cons,HT.lexLt_cons];by_cases e:x=y
  ·subst e;rw [if_pos rfl,if_pos rfl];rcases zhv xs ys with h | h | h
   ·exact .inl h
   ·exact .inr (.inl (by rw [h]))
   ·exact .inr (.inr h)
  ·rw [if_neg e,if_neg (Ne.symm e)];by_cases hl:x<y
   ·exact .inl (decide_eq_true hl)
   ·exact .inr (.inr (decide_eq_true (by omega)))
section
variable {prog:Program} {w:World} {A:Around} {E:Value->Shared->Prop} {s:Shared}
theorem zpN{α:Type}{r:α->α->Prop}{l:List α}(h:l.length<2):l.Pairwise r:=by
 cases l with
 | nil=>exact .nil
 | cons x l =>
  cases l with
  | nil=>exact List.pairwise_singleton _ _
  | cons y l=>exact absurd h (by simp)
theorem zit{a:Addr}{vs:List Value}{n:Nat}{kd:SortKind}{lt:Keyed->Keyed->Bool}{P:PySem.Fin->Shared->Prop}(ho:s.heap.get? a=some (seqObj "list" vs.toArray n))(hz:vs.length<=10000000)
  (hkd:∀ h3,KeptBut a s.heap h3->∀ (Q:SortKind->Shared->Prop),2<=vs.length->Q kd { s with heap:=h3 }->wpAny (model prog w) A (keyKind' vs.toArray) Q E { s with heap:=h3 })
  (hO:∀ h3,KeptBut a s.heap h3->LtOk prog w A E { s with heap:=h3 } kd (fun x=>x.1=x.2/\x.1∈vs) lt)
  (h:∀ h' c (out:List Value),KeptBut a s.heap h'->out.Perm vs->out.Pairwise (fun x y=>lt (y,y) (x,x)=false)->h'.get? a=some (seqObj "list" out.toArray c)->P (.done (.ret .none)) { s with heap:=h' }) :
  wpAny (model prog w) A (Builtin.«list.sort» ⟨[.ref a],[]⟩) P E s:=by
 have ha:a<s.heap.objs.size:=Heap.lt_size ho;have s1:=Heap.SameBut.update s.heap a (Obj.mapSeq fun _=>(#[]:Array Value));obtain⟨e1,ho1⟩:∃ e1,(s.heap.update a (Obj.mapSeq fun _=>(#[]:Array Value))).get? a=some (seqObj "list" #[] e1):=⟨_,get?_update_seq ho fun _=>#[]⟩;have keep:KeptBut a s.heap (((s.heap.update a (Obj.mapSeq fun _=>(#[]:Array Value))).push (seqObj "tuple" vs.toArray 0)).push (seqObj "list" #[] 0)):=fun b o nb e =>
  Heap.get?_push_of_some _ (Heap.get?_push_of_some _ ((s1.2 b nb).trans e))
 have ha3:(((s.heap.update a (Obj.mapSeq fun _=>(#[]:Array Value))).push (seqObj "tuple" vs.toArray 0)).push (seqObj "list" #[] 0)).get? a=some (seqObj "list" #[] e1):=Heap.get?_push_of_some _ (Heap.get?_push_of_some _ ho1);rw [list_sort_plain];refine wpAny_bind (listItems_at ho rfl ?_);refine wpAny_bind (listUpdate_at ho rfl ?_ (by rw [List.size_toArray,sizeLine_eq]; omega) (Nat.zero_le _));refine wpAny_bind (seqEpoch_at ho1 rfl ?_);refine wpAny_bind (wpAny_newTuple ?_ (by show vs.length<=_; rw [sizeLine_eq]; omega));refine wpAny_bind (wpAny_newList ?_ (Nat.zero_le _));refine wpAny_holding ?_;show wpAny (model prog w) A _ P E { s with heap:=((s.heap.update a (Obj.mapSeq fun _=>(#[]:Array Value))).push (seqObj "tuple" vs.toArray 0)).push (seqObj "list" #[] 0) };generalize ((s.heap.update a (Obj.mapSeq fun _=>(#[]:Array Value))).push (seqObj "tuple" vs.toArray 0)).push (seqObj "list" #[] 0)=h3 at keep ha3 ⊢;dsimp only;by_cases hn2:vs.toArray.size<2
 ·rw [if_pos hn2,if_pos hn2];refine wpAny_bind (wpAny_pure ?_);rw [StateT.run_pure];refine wpAny_bind (wpAny_pure ?_);dsimp only;have eo:(arrOf (SortSt.mk' general' (vs.toArray.zip vs.toArray) #[] 7 none)).map (·.2)=List.toArray vs:=by
   apply Array.toList_inj.mp;show ((vs.toArray.zip vs.toArray).map (·.2)).toList=vs;rw [Array.toList_map,Array.toList_zip,List.map_snd_zip (Nat.le_refl _)]
  rw [eo];have s2:=Heap.SameBut.update h3 a (Obj.mapSeq fun _=>List.toArray vs);obtain⟨c2,hc2⟩:∃ c2,(h3.update a (Obj.mapSeq fun _=>List.toArray vs)).get? a=some (seqObj "list" (List.toArray vs) c2):=⟨_,get?_update_seq ha3 fun _=>List.toArray vs⟩;refine wpAny_bind (seqEpoch_at ha3 rfl ?_);refine wpAny_bind (listUpdate_at ha3 rfl ?_ (Nat.zero_le _) (by show (List.toArray vs).size<=_; rw [List.size_toArray,sizeLine_eq]; omega));simp only [bne_self_eq_false,Bool.false_eq_true,if_false];refine wpAny_pure (h _ c2 vs (fun b o nb e=>(s2.2 b nb).trans (keep b o nb e)) (List.Perm.refl _) ?_ hc2);rw [List.size_toArray] at hn2;exact zpN hn2
 ·rw [if_neg hn2,if_neg hn2];rw [List.size_toArray] at hn2;refine wpAny_bind (hkd h3 keep _ (by omega) ?_);have O:=hO h3 keep;have hT:Ts kd (fun x:Keyed=>x.1=x.2/\x.1∈vs) (pairsOf vs) (SortSt.mk' kd (vs.toArray.zip vs.toArray) #[] 7 none):=⟨rfl,rfl,Array.Perm.refl _,fun x m=>by
   rw [pairsOf_toList] at m;exact mem_zip_self m⟩
  refine wpAny_bind (wpAny_mono (zpb O (Q:=fun _ st'=>Ts kd (fun x:Keyed=>x.1=x.2/\x.1∈vs) (pairsOf vs) st'/\Sg lt (arrOf st') 0 (pairsOf vs).size) hT rfl (by rw [pairsOf_size]; omega) fun st' a1 a2=>⟨a1,a2⟩) ?_ fun _ _ e=>e);rintro⟨⟨⟩,st'⟩ s' ⟨rfl,hT',hS'⟩;dsimp only;have hp:((arrOf st').toList.map (·.2)).Perm vs:=by
   have h1:=(Array.perm_iff_toList_perm.mp hT'.pm).map (·.2);rw [pairsOf_toList,List.map_snd_zip (Nat.le_refl _)] at h1;exact h1
  have hs:((arrOf st').toList.map (·.2)).Pairwise (fun x y=>lt (y,y) (x,x)=false):=by
   rw [List.pairwise_map,List.pairwise_iff_getElem];intro i j hi hj hij;have hi':i<(pairsOf vs).size:=by rw [<- hT'.size]; simpa using hi
   have hj':j<(pairsOf vs).size:=by rw [<- hT'.size]; simpa using hj
   have g1:=hT'.at hi';have g2:=hT'.at hj';rw [zat,List.getElem?_eq_getElem hi] at g1;rw [zat,List.getElem?_eq_getElem hj] at g2;have d1:=(hT'.dd hi').1;have d2:=(hT'.dd hj').1;rw [Option.some.inj g1,Option.some.inj g2];have z1:((G (arrOf st') i).2,(G (arrOf st') i).2)=G (arrOf st') i:=Prod.ext d1.symm rfl;have z2:((G (arrOf st') j).2,(G (arrOf st') j).2)=G (arrOf st') j:=Prod.ext d2.symm rfl;rw [z1,z2];exact hS' i j (Nat.zero_le _) (Nat.le_of_lt hij) hj'
  have eo:(arrOf st').map (·.2)=List.toArray ((arrOf st').toList.map (·.2)):=by
   apply Array.toList_inj.mp;rw [Array.toList_map]
  rw [eo];generalize (arrOf st').toList.map (·.2)=out at hp hs;have s2:=Heap.SameBut.update h3 a (Obj.mapSeq fun _=>List.toArray out);obtain⟨c2,hc2⟩:∃ c2,(h3.update a (Obj.mapSeq fun _=>List.toArray out)).get? a=some (seqObj "list" (List.toArray out) c2):=⟨_,get?_update_seq ha3 fun _=>List.toArray out⟩;refine wpAny_bind (seqEpoch_at ha3 rfl ?_);refine wpAny_bind (listUpdate_at ha3 rfl ?_ (Nat.zero_le _) (by show (List.toArray out).size<=_; rw [List.size_toArray,hp.length_eq,sizeLine_eq]; omega));rw [hT'.fl];simp only [bne_self_eq_false,Bool.false_eq_true,if_false];exact wpAny_pure (h _ c2 out (fun b o nb e=>(s2.2 b nb).trans (keep b o nb e)) hp hs hc2)
theorem ztR{kd:SortKind}{x y:Keyed}{b:Bool}{st:SortSt}{Q:Option Bool->SortSt->Prop}(hk:kindOf st=kd)(h:wpAny (model prog w) A (keyLt' kd x.1 y.1) (fun c s'=>s'=s/\c=b) (fun _ _=>False) s)(q:Q (some b) st):wpS (model prog w) A E s (lt' x y) Q st:=by
 rw [lt'_eq];refine wpS_bind (wpS_get ?_);rw [hk];refine wpS_bind (wpS_lift (wpAny_attempt (wpAny_mono h (fun c s' hc=>?_) fun _ _ e=>e.elim)));obtain⟨rfl,rfl⟩:=hc;exact⟨rfl,wpS_pure q⟩
theorem zkO{Q:Bool->Shared->Prop}:∀ {xs ys:List Value} {ns ms:List Int} (i k:Nat),IntsAre xs ns->IntsAre ys ms->Q (HT.lexLt ns ms) s->KatLex prog w A true (decide (k+xs.length<k+ys.length)) Q (xs.zip ys) i s
 | [],ys,ns,ms,i,k,h1,h2,q=>by
  cases h1;rw [List.zip_nil_left];refine kat_nil ?_;cases h2 with
  | nil =>
   rw [decide_eq_false (by simp)];exact q
  | cons n t h2 =>
   rw [decide_eq_true (by simp)];exact q
 | x :: xs,[],ns,ms,i,k,h1,h2,q=>by
  cases h2;cases h1 with
  | cons n t h1 =>
   rw [List.zip_nil_right];refine kat_nil ?_;rw [decide_eq_false (by simp)];exact q
 | x :: xs,y :: ys,ns,ms,i,k,h1,h2,q=>by
  cases h1 with
  | cons n t h1 =>
   cases h2 with
   | cons m u h2 =>
    rw [List.zip_cons_cons];refine kat_cons (wpAny_eqBool_int ?_);rw [HT.lexLt_cons] at q;refine kat_go (fun e=>?_) fun e=>?_
    ·have e1:n=m:=by simpa using e
     rw [if_pos e1] at q;refine kat_yes ?_;have:=zkO (Q:=Q) (i+1) (k+1) h1 h2 q;have ed:decide (k+((Value.int n t) :: xs).length<k+((Value.int m u) :: ys).length)=decide (k+1+xs.length<k+1+ys.length):=by
      rw [decide_eq_decide,List.length_cons,List.length_cons]; omega
     rw [ed];exact this
    ·have e1:n≠m:=by simpa using e
     rw [if_neg e1] at q;refine kat_no ?_;cases hb:(true && i == 0) with
     | true=>exact oneLt_int q
     | false=>exact kat_one _ _ (lt_int q)
def TupI(h:Heap)(v:Value)(ns:List Int):Prop:=ns≠[]/\∃ a o xs n,v=.ref a/\h.get? a=some o/\o.cls=.type "tuple"/\o.data=.seq xs n/\IntsAre xs.toList ns
theorem zmv{vs:List Value}(nums:Value->List Int)(hT:∀ v∈vs,TupI s.heap v (nums v)):LtOk prog w A E s (tuples' true) (fun x=>x.1=x.2/\x.1∈vs) (fun x y=>HT.lexLt (nums x.1) (nums y.1)) where
 ask:=fun x y st Q hx hy hk q=>by
  obtain⟨_,a,o,xs,n,ex,g1,c1,d1,i1⟩:=hT _ hx.2;obtain⟨_,b,o',ys,m,ey,g2,c2,d2,i2⟩:=hT _ hy.2;refine ztR hk ?_ q;rw [ex,ey];refine kat_lt g1 d1 g2 d2 ?_;have:=zkO (prog:=prog) (w:=w) (A:=A) (s:=s) (Q:=fun c s'=>s'=s/\c=HT.lexLt (nums (.ref a)) (nums (.ref b))) 0 0 (by rw [ex] at i1; exact i1) (by rw [ey] at i2; exact i2) ⟨rfl,rfl⟩;simpa using this
 asym:=fun x y _ _ h=>by
  cases e:HT.lexLt (nums y.1) (nums x.1) with
  | false=>rfl
  | true =>
   have:=lexLt_trans0 h e;rw [HT.lexLt_self] at this;cases this
 tr:=fun x y z _ _ _ h1 h2=>by
  cases e:HT.lexLt (nums z.1) (nums x.1) with
  | false=>rfl
  | true =>
   rcases zhv (nums y.1) (nums x.1) with h | h | h
   ·rw [h] at h1; cases h1
   ·rw [h] at h2; rw [h2] at e; cases e
   ·have:=lexLt_trans0 e h;rw [this] at h2;cases h2
theorem zmy{vs:List Value}(nums:Value->List Int)(hT:∀ v∈vs,TupI s.heap v (nums v))(h2:2<=vs.length){Q:SortKind->Shared->Prop}(h:Q (tuples' true) s):wpAny (model prog w) A (keyKind' vs.toArray) Q E s:=by
 have fs:∀ l:List Value,(∀ v∈l,TupI s.heap v (nums v))->∃ fs:List Value,KatTups s.heap l fs/\fs.length=l.length/\∀ f∈fs,∃ n t,f=Value.int n t:=by
  intro l;induction l with
  | nil=>intro _; exact⟨[],KatTups.nil,rfl,(fun f m=>by cases m)⟩
  | cons v l ih =>
   intro hl;obtain⟨fs,k,e,fi⟩:=ih fun x m=>hl x (List.mem_cons_of_mem _ m);obtain⟨hne,a,o,xs,n,ev,g1,c1,d1,i1⟩:=hl v List.mem_cons_self;subst ev;obtain⟨f,t,hf⟩:∃ n t,xs[0]? = some (Value.int n t):=by
    cases hx:xs.toList with
    | nil=>rw [hx] at i1; cases hn:nums (.ref a) with
     | nil=>exact absurd hn hne
     | cons x y=>rw [hn] at i1; cases i1
    | cons x r =>
     rw [hx] at i1;obtain⟨n,t,rfl⟩:=i1.all x List.mem_cons_self;exact⟨n,t,by rw [<- Array.getElem?_toList,hx]; rfl⟩
   refine⟨.int f t :: fs,KatTups.cons g1 c1 d1 hf k,by simp [e],fun z m=>?_⟩;rcases List.mem_cons.mp m with rfl | m
   ·exact⟨f,t,rfl⟩
   ·exact fi z m
 obtain⟨fs,k,e,fi⟩:=fs vs hT;refine kat_kind (T:=.type "int") k (by omega) (fun v m=>?_) rfl ?_
 ·obtain⟨n,t,rfl⟩:=fi v m;exact .now
 ·rw [show (Value.type "int" != Value.type "tuple")=true by decide];exact h
theorem znp{vs:List Value}{kd:SortKind}{lt:Keyed->Keyed->Bool}{P:PySem.Fin->Shared->Prop}(hz:vs.length<=10000000)
  (hkd:∀ (A':Around) (E':Value->Shared->Prop) h3,(∀ b o,s.heap.get? b=some o->h3.get? b=some o)->∀ (Q:SortKind->Shared->Prop),2<=vs.length->Q kd { s with heap:=h3 }->wpAny (model prog w) A' (keyKind' vs.toArray) Q E' { s with heap:=h3 })
  (hO:∀ (A':Around) (E':Value->Shared->Prop) h3,(∀ b o,s.heap.get? b=some o->h3.get? b=some o)->LtOk prog w A' E' { s with heap:=h3 } kd (fun x=>x.1=x.2/\x.1∈vs) lt)
  (h:∀ D h' c (out:List Value),s.heap.objs.size<=D->(∀ b o,s.heap.get? b=some o->h'.get? b=some o)->out.Perm vs->out.Pairwise (fun x y=>lt (y,y) (x,x)=false)->h'.get? D=some (seqObj "list" out.toArray c)->P (.done (.ret (.ref D))) { s with heap:=h' }) :
  wpAny (model prog w) A (newList vs >>= fun l=>holding [l] (call (.builtin "list.sort") [l] []) >>= fun _=>ret l) P E s:=by
 refine wpAny_bind (wpAny_newList ?_ (by show vs.length<=_; rw [sizeLine_eq]; omega));have hoL:(s.heap.push (seqObj "list" vs.toArray 0)).get? s.heap.objs.size=some (seqObj "list" vs.toArray 0):=Heap.get?_push_size _ rfl;have keep:∀ b o,s.heap.get? b=some o->(s.heap.push (seqObj "list" vs.toArray 0)).get? b=some o:=fun b o q=>Heap.get?_push_of_some _ q;show wpAny _ _ _ _ _ { s with heap:=s.heap.push (seqObj "list" vs.toArray 0) };refine wpAny_bind (wpAny_holding (wpAny_call_entry slot_list_sort ⟨_,hoL,rfl⟩ entry_list_sort ?body (args_list_sort _)))
 case body =>
  refine zit (s:={ s with heap:=s.heap.push (seqObj "list" vs.toArray 0) }) (kd:=kd) (lt:=lt) hoL hz (fun h3 k=>hkd _ _ h3 fun b o e=>k b o (Nat.ne_of_lt (Heap.lt_size e)) (keep b o e)) (fun h3 k=>hO _ _ h3 fun b o e=>k b o (Nat.ne_of_lt (Heap.lt_size e)) (keep b o e)) fun h' c out k1 hp hs k2=>?_;exact⟨_,rfl,wpAny_pure (h _ h' c out (Nat.le_refl _) (fun b o e=>k1 b o (Nat.ne_of_lt (Heap.lt_size e)) (keep b o e)) hp hs k2)⟩
end
section
variable {X:Cx} {zl:List (Addr×Obj)} {σ:St} {H H':Hp} {s:Shared} {h':Heap}
theorem Inv.laidAll{t':Nat}(I:Inv X zl σ H s)(k:∀ b u,s.heap.get? b=some u->h'.get? b=some u)(gr:Same H H')(new:∀ b u,H' b=some u->H b=some u\/(s.heap.objs.size<=b/\ObjOk X.prog X.w H' h' b u)):Inv X zl σ H' { s with heap:=h',toks:=t' }:=by
 refine I.un ⟨fun b u q _ _ _=>k b u q,fun b u q _ _ _=>⟨u.slots,k b u q⟩,fun b u q n _=>?_,fun b u q _=>⟨u,k b u q⟩,fun b xs q=>gr b _ q,fun b u xs q=>gr b _ q,fun b ps q=>⟨#[],by rw [gr b _ q]; simp⟩⟩ fun b u e=>?_
 ·cases e:H' b with
  | none=>rfl
  | some v =>
   rcases new b v e with z | ⟨z,_⟩
   ·rw [n] at z; cases z
   ·exact absurd (Nat.lt_of_lt_of_le (Heap.lt_size q) z) (Nat.lt_irrefl _)
 ·rcases new b u e with z | ⟨_,z⟩
  ·exact(I.hok b u z).stay (fun c v _ q=>k c v q) (fun c q=>gr c _ q) fun c xs q=>gr c _ q
  ·exact z
end
def zqp:List XV->Sto->RX->Prop:=fun xs S R=>arg1 xs fun x=>∃ m:List (Key×PyData),x=.d (.dict (DD.pairs (.k m)))/\∃ ns:List Int,m.map (·.1)=ns.map Sum.inl/\ns.length<=10000000/\∀ ms:List Int,ms.Perm ns->ms.Pairwise (· <= ·)->R (.d (.list (ms.map PyData.int))) S
def adr:Value->Addr
 | .ref a=>a
 | _=>0
theorem zhR{α:Type}:∀ zs:List (Addr×α),Vals (zs.map fun z=>V.ref z.1) (zs.map fun z=>Value.ref z.1)
 | []=>.nil
 | a :: r=>.cons rfl (zhR r)
theorem TupI.keep{h h':Heap}{v:Value}{ns:List Int}(x:TupI h v ns)(k:∀ b o,h.get? b=some o->h'.get? b=some o):TupI h' v ns:=by
 obtain⟨hn,a,o,xs,n,e,g,r⟩:=x;exact⟨hn,a,o,xs,n,e,k _ _ g,r⟩
def ikV(m:List (Int×Int)):List (Key×V):=m.map fun p=>(Sum.inl p.1,V.int p.2)
def ikD(m:List (Int×Int)):List (Key×PyData):=m.map fun p=>(Sum.inl p.1,PyData.int p.2)
def ik2(p:Int×Int):List Int:=[p.1,p.2]
def zp7(H:Hp)(l:Addr)(vs:List V)(zs:List (Addr×(Int×Int))):Hp:=fun b=>if b=l then some (.lst vs) else match zs.find? (fun z=>z.1 == b) with
 | some z=>some (.tup [.int z.2.1,.int z.2.2])
 | none=>H b
theorem zic{α:Type}:∀ {zs:List (Addr×α)} {z:Addr×α},(zs.map (·.1)).Nodup->z∈zs->zs.find? (fun y=>y.1 == z.1)=some z
 | [],_,_,m=>by cases m
 | y :: r,z,nd,m=>by
  rw [List.map_cons,List.nodup_cons] at nd;rw [List.find?_cons];rcases List.mem_cons.mp m with rfl | m
  ·rw [show (z.1 == z.1)=true from beq_self_eq_true _]
  ·have ne:y.1≠z.1:=fun e=>nd.1 (by rw [e]; exact List.mem_map_of_mem m);rw [show (y.1 == z.1)=false from beq_false_of_ne ne];exact zic nd.2 m
theorem znM{α:Type}{zs:List (Addr×α)}{z:Addr×α}{b:Addr}(h:zs.find? (fun y=>y.1 == b)=some z):z∈zs/\z.1=b:=⟨List.mem_of_find?_eq_some h,by simpa using List.find?_some h⟩
section
variable {X:Cx} {l:Expr} {te:TE} {p pos apos cpos:Pos}
def zhn(te:TE):TE:=fun σ H Q=>te σ H fun x H1=>∃ a ob m,x=.ref a/\H1 a=some (.frz ob (.dK (ikV m)))/\m.length<=10000000 /\
 ∀ (l:Addr) (H2:Hp) (zs:List (Addr×(Int×Int))),Same H1 H2->H1 l=none->(∀ z∈zs,H1 z.1=none)->H2 l=some (.lst (zs.map fun z=>V.ref z.1))->(∀ z∈zs,H2 z.1=some (.tup [.int z.2.1,.int z.2.2])) ->
  (zs.map (·.2)).Perm m->zs.Pairwise (fun x y=>HT.lexLt (ik2 y.2) (ik2 x.2)=false)->Q (.ref l) H2
theorem zjV(hc:X.calm=true)(hgs:Gl X "sorted")(hms:X.mg "sorted" = none)(hl:PE X l te)(hbase:attributeBase l "items" X.env (eval l X.env)=eval l X.env:=by rfl)(hline:(apos.endLine == cpos.line)=true:=by rfl)
  (he2:starEach [Expr.Call (.Attribute l "items" apos) [] [] cpos] X.env=(false,eval (Expr.Call (.Attribute l "items" apos) [] [] cpos) X.env) :: starEach [] X.env:=by rfl) (hpl2:(backTo pos (starEach [] X.env)).any (·.1)=false:=by rfl) :
  PE X (.Call (.Name "sorted" p) [.Call (.Attribute l "items" apos) [] [] cpos] [] pos) (zhn te):=by
 intro zl s σ H Q I h;refine wpAny_Call_Name_kw (zfU I hgs hms boot_sorted ?_);refine PyProof.Rows.callWith_builtin1 ?_ he2 hpl2;rw [he2];show wpAny _ _ (spliced [(false,eval (Expr.Call (.Attribute l "items" apos) [] [] cpos) X.env)]) _ _ s;refine Calls.spliced_cons ?_;refine wpAny_Call_method (T:="dict") (id:="dict.items") hbase rfl hline F.plainAttrs_dict F.slot_dict_items F.type_dict_items (thn (hl zl s σ H _ I h) fun v s1 ⟨x,H1,I1,r1,q1⟩=>?_);obtain⟨a,ob,m,e,ea,hn,q⟩:=q1;subst e;cases r1;obtain⟨hne,hz,es,ep,vs,eo,kv,da⟩:=zlq I1.hok ea;have hl':vs.length=m.length:=by rw [<- kv.length,ikV,List.length_map]
 have hm:=da.dictOf;refine⟨hm.typeIs,hm.mapOf.noDict,?_⟩;show wpAny _ _ (callWith cpos (.builtin "dict.items") [.ref a] [] []) _ _ s1;refine method_meetsIn F.slot_dict_items F.entry_dict_items rfl (PyProof.Rows.evalArgs_none ⟨rfl,hm.typeIs,F.args_dict_items_1 _,_,meets_dict_items (zah X.prog X.w) a hne,⟨vs,hm⟩,?_⟩);have da1:=da.push { cls:=.type "dict_items",data:=.fields #[.ref a] };have I2:Inv X zl σ H1 { s1 with heap:=s1.heap.push { cls:=.type "dict_items",data:=.fields #[.ref a] } }:=I1.kept (t':=s1.toks) fun b o e=>Heap.get?_push_of_some _ e;refine Calls.spliced_nil ?_;generalize hs2:({ s1 with heap:=s1.heap.push { cls:=.type "dict_items",data:=.fields #[.ref a] } }:Shared)=s2 at I2 ⊢;have hv:s2.heap.IsItemsView s1.heap.objs.size a:=by rw [<- hs2]; exact⟨_,Heap.get?_push_size _ rfl,rfl,rfl⟩
 have da2:s2.heap.DictAt (zah X.prog X.w) a vs ep:=by rw [<- hs2]; exact da1
 refine Calls.call_function_entry kind_sorted plain_sorted entry_sorted (args_sorted1 _) ?_;unfold Builtin.«sorted»;refine wpAny_bind (m:=checkCount "sorted" 1 1 _) (wpAny_pure ?_);refine wpAny_bind (PySem.W.kdx_collect (A:=X.A.in1) (I2.ok.hd hc) hv da2 (by rw [hl',sizeLine_eq]; omega) fun h1 tk as kp1 al G=>?_);have nd:as.Nodup:=G.rise.imp fun h=>Nat.ne_of_lt h;have asz:as.length=m.length:=al.trans hl';have e1:(as.zip m).map (·.1)=as:=List.map_fst_zip (by omega);have e2:(as.zip m).map (·.2)=m:=List.map_snd_zip (by omega);have nz:((as.zip m).map (·.1)).Nodup:=by rw [e1]; exact nd
 have at1:∀ z∈as.zip m,∃ key x,IntsAre [key,x] (ik2 z.2)/\h1.get? z.1=some { cls:=.type "tuple",data:=.seq #[key,x] }:=fun z mz=>by
  obtain⟨j,hj,ez⟩:=List.mem_iff_getElem.mp mz;have j1:j<as.length:=by rw [List.length_zip] at hj; omega
  have j2:j<m.length:=by omega
  rw [List.getElem_zip] at ez;subst ez;obtain⟨key,k,x,q1,q2,q3⟩:=G.pairs j as[j] (List.getElem?_eq_getElem j1);obtain⟨u,q4,q5⟩:=kv.get (i:=j) (p:=(Sum.inl m[j].1,V.int m[j].2)) (by rw [ikV,List.getElem?_map,List.getElem?_eq_getElem j2]; rfl);rw [q1] at q4;cases q4;obtain⟨t1,rfl⟩:=(show RelV (V.int m[j].1) key from ztI q2);obtain⟨t2,rfl⟩:=q5;exact⟨_,_,.cons _ _ (.cons _ _ .nil),q3⟩
 have eas:as.map Value.ref=(as.zip m).map fun z=>Value.ref z.1:=by
  conv=>lhs; rw [<- e1]
  rw [List.map_map];rfl
 rw [eas];generalize hzs:as.zip m=zs at e1 e2 nz at1 eas ⊢;have hzlen:zs.length=m.length:=by rw [<- e2,List.length_map]
 have zlo:∀ z∈zs,s2.heap.objs.size<z.1:=fun z mz=>G.above z.1 (by rw [<- e1]; exact List.mem_map_of_mem mz)
 let nm:Value->Int×Int:=fun v=>match zs.find? (fun z=>z.1 == adr v) with
  | some z=>z.2
  | none=>(0,0)
 have nm_eq:∀ z∈zs,nm (.ref z.1)=z.2:=fun z mz=>by
  show (match zs.find? (fun y=>y.1 == z.1) with | some z=>z.2 | none=>(0,0))=z.2;rw [zic nz mz]
 have hT:∀ v∈zs.map (fun z=>Value.ref z.1),TupI h1 v (ik2 (nm v)):=fun v mv=>by
  obtain⟨z,mz,rfl⟩:=List.mem_map.mp mv;rw [nm_eq z mz];obtain⟨key,x,q1,q2⟩:=at1 z mz;exact⟨by simp [ik2],z.1,_,_,_,rfl,q2,rfl,rfl,q1⟩
 refine znp (s:={ s2 with heap:=h1,toks:=tk }) (kd:=tuples' true) (lt:=fun x y=>HT.lexLt (ik2 (nm x.1)) (ik2 (nm y.1))) (by rw [List.length_map]; omega) (fun A' E' h3 k Q h2 z=>zmy (s:={ s2 with heap:=h3,toks:=tk }) (fun v=>ik2 (nm v)) (fun v m=>(hT v m).keep k) h2 z) (fun A' E' h3 k=>zmv (s:={ s2 with heap:=h3,toks:=tk }) (fun v=>ik2 (nm v)) fun v m=>(hT v m).keep k) fun D h' c out hD kp hp hs hg=>?_;have hD2:s2.heap.objs.size<=D:=by
  refine Nat.le_trans ?_ hD;have:s1.heap.objs.size<h1.objs.size:=by
   obtain⟨o,ho,_⟩:=hv;exact Heap.lt_size (kp1 _ _ ho)
  rw [<- hs2];show (s1.heap.push _).objs.size<=h1.objs.size;rw [size_push'];exact this
 have zhi:∀ z∈zs,z.1≠D:=fun z mz=>by
  obtain⟨_,_,_,q⟩:=at1 z mz;exact Nat.ne_of_lt (Nat.lt_of_lt_of_le (Heap.lt_size q) hD)
 have o1:(out.map fun v=>(adr v,nm v)).Perm zs:=by
  refine(hp.map fun v=>(adr v,nm v)).trans (List.Perm.of_eq ?_);rw [List.map_map]
  conv=>rhs; rw [<- List.map_id zs]
  exact List.map_congr_left fun z m=>Prod.ext rfl (nm_eq z m)
 have o3:out=(out.map fun v=>(adr v,nm v)).map fun z=>Value.ref z.1:=by
  rw [List.map_map]
  conv=>lhs; rw [<- List.map_id out]
  refine List.map_congr_left fun v m=>?_;obtain⟨z,_,rfl⟩:=List.mem_map.mp (hp.mem_iff.mp m);rfl
 have o2:(out.map fun v=>(adr v,nm v)).Pairwise (fun x y=>HT.lexLt (ik2 y.2) (ik2 x.2)=false):=by
  rw [List.pairwise_map];exact hs
 generalize hys:(out.map fun v=>(adr v,nm v))=ys at o1 o2 o3;have fr:∀ z∈zs,H1 z.1=none:=fun z mz=>I2.hok.fresh (Nat.le_of_lt (zlo z mz));have frD:H1 D=none:=I2.hok.fresh hD2;have lz:∀ z∈zs,zp7 H1 D (ys.map fun z=>V.ref z.1) zs z.1=some (.tup [.int z.2.1,.int z.2.2]):=fun z mz=>by
  unfold zp7;rw [if_neg (zhi z mz),zic nz mz]
 have lD:zp7 H1 D (ys.map fun z=>V.ref z.1) zs D=some (.lst (ys.map fun z=>V.ref z.1)):=by
  unfold zp7;rw [if_pos rfl]
 have gr:Same H1 (zp7 H1 D (ys.map fun z=>V.ref z.1) zs):=fun b u eb=>by
  unfold zp7;have nb:b≠D:=fun z=>by rw [z,frD] at eb; cases eb
  rw [if_neg nb];cases ef:zs.find? (fun z=>z.1 == b) with
  | none=>exact eb
  | some z =>
   obtain⟨mz,ez⟩:=znM ef;rw [<- ez,fr z mz] at eb;cases eb
 have I3:Inv X zl σ (zp7 H1 D (ys.map fun z=>V.ref z.1) zs) { s2 with heap:=h',toks:=tk }:=by
  refine I2.laidAll (t':=tk) (fun b o e=>kp b o (kp1 b o e)) gr fun b u eb=>?_;by_cases hb:b=D
  ·subst hb;rw [lD] at eb;cases eb;refine .inr ⟨hD2,?_,out,c,?_,hg⟩
   ·rw [List.length_map,o1.length_eq,sizeLine_eq]; omega
   ·have:=zhR ys;rw [<- o3] at this;exact this
  ·cases ef:zs.find? (fun z=>z.1 == b) with
   | none =>
    unfold zp7 at eb;rw [if_neg hb,ef] at eb;exact .inl eb
   | some z =>
    obtain⟨mz,ez⟩:=znM ef;subst ez;rw [lz z mz] at eb;cases eb;obtain⟨key,x,q1,q2⟩:=at1 z mz;exact .inr ⟨Nat.le_of_lt (zlo z mz),⟨by show 2<=sizeLine; decide,_,kp _ _ q2,rfl⟩,[key,x],zgM q1,⟨_,kp _ _ q2,rfl,_,rfl⟩⟩
 refine⟨_,rfl,.ref D,_,I3,rfl,q D _ ys gr frD (fun z mz=>fr z (o1.mem_iff.mp mz)) lD (fun z mz=>lz z (o1.mem_iff.mp mz)) ?_ o2⟩;have:=o1.map (·.2)
 rwa [e2] at this
end
theorem zm0{H:Hp}:∀ {m:List (Int×Int)} {m':List (Key×V)},HasM H (ikD m) m'->m'=ikV m
 | [],_,q=>q
 | p :: r,_,⟨v,t,e,q,l⟩=>by
  subst e;rw [zm0 (m:=r) l,zbr.mp q];rfl
theorem zhk{H:Hp}:∀ {zs:List (Addr×(Int×Int))},(∀ z∈zs,H z.1=some (.tup [.int z.2.1,.int z.2.2]))->HasL H ((zs.map (·.2)).map fun p=>zpB (ik2 p)) (zs.map fun z=>V.ref z.1)
 | [],_=>zS.mpr rfl
 | z :: r,h=>zH.mpr ⟨_,_,rfl,zaG.mpr ⟨z.1,_,rfl,h z List.mem_cons_self,zjq (ik2 z.2)⟩,zhk fun x m=>h x (List.mem_cons_of_mem _ m)⟩
end L2
namespace L2
open PySem PySem.Spec PyProof.Rows
end L2
namespace L2
open PySem PySem.Spec PySem.Calls PyProof.Rows
section
variable {h o:List Addr} {H H':Hp} {S:Sto} {p:Addr}
theorem Ex.snoc(r:RepS h o H S)(hp:H p=none)(s:Same H H'):Ex o H (o++[p]) H' :=
 ⟨⟨[p],rfl⟩,fun b u nb e=>by
  refine⟨fun m=>?_,s _ _ e⟩;rcases List.mem_append.mp m with m | m
  ·exact nb m
  ·rw [List.mem_singleton.mp m,hp] at e;cases e⟩
theorem RepS.snoc{ds:List PyData}{vs:List V}(r:RepS h o H S)(hp:H p=none)(s:Same H H')(e:H' p=some (.lst vs))(l:HasL (vx h (o++[p]) H') ds vs):RepS h (o++[p]) H' (S++[ds]) where
 len:=by rw [List.length_append,List.length_append,r.len]; rfl
 nd:=zcq r.nd (r.fresh hp).2
 dis:=fun a m=>by
  rcases List.mem_append.mp m with m | m
  ·exact r.dis a m
  ·rw [List.mem_singleton.mp m];exact(r.fresh hp).1
 hal:=fun b m=>let ⟨u,eu⟩:=r.hal b m; ⟨u,s _ _ eu⟩
 cont:=fun k a ds' e1 e2=>by
  by_cases hk:k<o.length
  ·rw [List.getElem?_append_left hk] at e1;rw [List.getElem?_append_left (by rw [r.len]; exact hk)] at e2;obtain⟨vs',z,l'⟩:=r.cont k a ds' e1 e2;exact⟨vs',s _ _ z,HasL.mono (Ex.snoc r hp s).vx _ _ l'⟩
  ·have hk':k<(o++[p]).length:=(List.getElem?_eq_some_iff.mp e1).1;rw [List.length_append,List.length_singleton] at hk';have ek:k=o.length:=by omega
   subst ek;rw [List.getElem?_concat_length] at e1;rw [<- r.len,List.getElem?_concat_length] at e2;cases e1;cases e2;exact⟨vs,e,l⟩
end
def zdp(e:DE):DE:=fun δ S R=>e δ S fun x S1=>∃ m:List (Int×Int),x=.d (.dict (DD.pairs (.k (ikD m))))/\m.length<=10000000/\∀ ms:List (Int×Int),ms.Perm m->ms.Pairwise (fun x y=>HT.lexLt (ik2 y) (ik2 x)=false)->R (.l S1.length) (S1++[ms.map fun p=>zpB (ik2 p)])
theorem zhU{te:TE}{de:DE}(he':RE te de):RE (zhn te) (zdp de):=fun h o H δ σ S R Q he hs q c =>
 he' h o H δ σ S _ _ he hs q fun o1 H1 S1 x v e1 s1 x1 ⟨m,ex,hn,d1⟩=>by
  subst ex;obtain⟨a,ob,m',rfl,ea,l⟩:=zgm.mp (show Has _ _ v from x1);obtain rfl:=zm0 l;refine⟨a,ob,m,rfl,zao _ _ ea,hn,fun l H2 zs gr fl fz hl hz pm pw=>?_⟩;have v1:∀ z∈zs,vx h (o1++[l]) H2 z.1=some (.tup [.int z.2.1,.int z.2.2]):=fun z mz=>by
   obtain⟨z1,z2⟩:=s1.fresh (fz z mz);refine zaq.mpr ⟨z1,fun m=>?_,hz z mz⟩;rcases List.mem_append.mp m with m | m
   ·exact z2 m
   ·have:=hz z mz;rw [List.mem_singleton.mp m,hl] at this;cases this
  exact c (o1++[l]) H2 (S1++[(zs.map (·.2)).map fun p=>zpB (ik2 p)]) (.l S1.length) _ (e1.trans (Ex.snoc s1 fl gr)) (s1.snoc fl gr hl (zhk v1)) ⟨l,by rw [s1.len,List.getElem?_concat_length],rfl⟩ (d1 _ pm (by rw [List.pairwise_map]; exact pw))
end L2
namespace L2
open PySem PySem.Spec PySem.Calls PyProof.Rows
def ztN(j:Nat)(dk dv:DM->DE):DSm:=fun En δ S M=>zo j δ S fun y S1=>∃ a m,y=.o (.ref a)/\(a,DD.k m)∈M/\dk M δ S1 fun z S2=>dv M δ S2 fun x S3=>asD z fun k=>asD x fun d=>∃ kk,zoz k=some kk/\m.length<1000/\if (lkA m kk).isSome=true then En.nx δ S3 M else En.nx δ S3 (zrr M a (.k (ptA m kk d)))
def zqm(k:Int)(e:DE):DE:=fun δ S R=>e δ S fun x S1=>asD x fun d=>R (.d (.dict [(.int k,d)])) S1
end L2
namespace L2
open PySem PySem.Spec PySem.Calls PyProof.Rows
theorem zm4{X:Cx}{es:List Expr}{k:Nat}{t:TGs}{n:Nat}{pos:Pos}{K:W.Frag}(hK:X.K=K)(hc:X.calm=true)(h:PGs X es t)
  (hn:(assignEach es X.env).length=n:=by rfl) (hst:(assignEach es X.env).findIdx? (·.1)=none:=by rfl):PG X (.Tuple es k pos) (zut K n t):=by
 subst hK;exact zbh hc h hn hst
end L2
namespace L2
open PySem PySem.Spec PyProof.Rows
end L2
namespace L2
theorem len0{α:Type}{l:List α}(h:l.length=0):l=[]:=List.eq_nil_of_length_eq_zero h
theorem len1{α:Type}{l:List α}(h:l.length=1):∃ a0,l=[a0]:=by
 cases l with
 | nil=>cases h
 | cons x r =>
  obtain rfl:=len0 (Nat.succ.inj h);exact⟨x,rfl⟩
theorem len2{α:Type}{l:List α}(h:l.length=2):∃ a0 a1,l=[a0,a1]:=by
 cases l with
 | nil=>cases h
 | cons x r =>
  obtain⟨a1,rfl⟩:=len1 (Nat.succ.inj h);exact⟨x,a1,rfl⟩
theorem len3{α:Type}{l:List α}(h:l.length=3):∃ a0 a1 a2,l=[a0,a1,a2]:=by
 cases l with
 | nil=>cases h
 | cons x r =>
  obtain⟨a1,a2,rfl⟩:=len2 (Nat.succ.inj h);exact⟨x,a1,a2,rfl⟩
theorem len4{α:Type}{l:List α}(h:l.length=4):∃ a0 a1 a2 a3,l=[a0,a1,a2,a3]:=by
 cases l with
 | nil=>cases h
 | cons x r =>
  obtain⟨a1,a2,a3,rfl⟩:=len3 (Nat.succ.inj h);exact⟨x,a1,a2,a3,rfl⟩
end L2
namespace L2
open PySem PySem.Spec PyProof.Rows
end L2
namespace L2
open PySem PySem.Spec PySem.Calls PyProof.Rows
open Sem (wp)
def ztQ(a:DA):DE:=fun δ S R=>a δ S fun xs S1=>arg2 xs fun x y=>∃ ds,zlm x=some ds/\∃ es,zlm y=some es/\min ds.length es.length<=1000/\R (.d (.list (zuq ds es))) S1
end L2
namespace L2
open PySem PySem.Spec PyProof.Rows
end L2
namespace My
open PySem L2
def zc3:PN:=fun xs S R=>(zba (zko (dCB zr9 (ze (zo 0) (ze (dO (.ty "int")) zE))) (zpp (dCB zr9 (ze (zo 0) (ze (dO (.ty "bool")) zE)))))) (zct S.length R) (xs.map some++List.replicate 0 none) S
def zc1:PN:=fun xs S R=>(zX (zan (dOp (dI (fun _ j=>0<j) fun i j=>i % j) (dOp zbJ (zo 0) (dC (.int 7919))) (dC (.int 2147483647))) (zn 0)) (zba (dOp (dI (fun _ j=>0<j) fun i j=>i % j) (dOp zbJ (dOp zbJ (dOp zdL (zo 0) (zo 0)) (dOp zdL (dC (.int 48271)) (zo 0))) (dC (.int 12345))) (dC (.int 2147483629))))) (zct S.length R) (xs.map some++List.replicate 0 none) S
def zfT:PN:=fun xs S R=>(zX (zan (dCB (dI2 fun i j=>if j>i then j else i) (ze (zo 0) (ze (dOp (dI0 fun i j=>i - j) (dC (.int 0)) (zo 0)) zE))) (zn 1)) (zba (zfw (ze (zo 1) (ze (dCB znB (ze (dOp (dIb fun i j=>decide (j<=i)) (zo 1) (dOp (dI CPow fun i j=>i ^ j.toNat) (dC (.int 10)) (dC (.int 18)))) zE)) (ze (dOp (dI (fun _ j=>0<j) fun i j=>i % j) (zo 1) (dC (.int 1000003))) zE)))))) (zct S.length R) (xs.map some++List.replicate 1 none) S
def ze9:PN:=fun xs S R=>(zX (zdu (dOr (zoE (zoB (dCB zr9 (ze (zo 0) (ze (dO (.ty "tuple")) zE))))) (dB (dOp zld (dCB zfz (ze (zo 0) zE)) (dC (.int 2))))) (zba (dC (.bool false))) zaN) (zba (zko (zaa 1 zc3 (ze (dOp dIx (zo 0) (dC (.int 0))) zE)) (zko (zaa 1 zc3 (ze (dOp dIx (zo 0) (dC (.int 1))) zE)) (dOp (dIb fun i j=>decide (i<=j)) (dOp dIx (zo 0) (dC (.int 0))) (dOp dIx (zo 0) (dC (.int 1)))))))) (zct S.length R) (xs.map some++List.replicate 0 none) S
def zz:PN:=fun xs S R=>(zX (zdu (dB (dOp zil (dOp dIx (zo 0) (dC (.int 1))) (dC (.int 1)))) (zX (zan (dOp (dI (fun _ j=>0<j) fun i j=>i % j) (dOp dIx (zo 0) (dC (.int 0))) (zo 1)) (zn 2)) (zX (zan (dOp dFd (dOp dIx (zo 0) (dC (.int 0))) (zo 1)) (zjY (zo 0) (dC (.int 0)))) (zba (zo 2)))) zaN) (zX (zan (zaa 1 zc1 (ze (dOp zbJ (zaa 1 zc1 (ze (dOp dIx (zo 0) (dC (.int 2))) zE)) (dC (.int 7))) zE)) (zjY (zo 0) (dC (.int 2)))) (zba (dOp (dI (fun _ j=>0<j) fun i j=>i % j) (dOp dFd (dOp dIx (zo 0) (dC (.int 2))) (dC (.int 64))) (zo 1))))) (zct S.length R) (xs.map some++List.replicate 1 none) S
def zdU:PN:=fun xs S R=>(zX (zan (zaf 0 2 zz (ze (zo 0) (ze (dC (.int 8)) zE))) (zn 1)) (zX (zdu (dB (dOp (dIb fun i j=>decide (i<j)) (zo 1) (dC (.int 5)))) (zba (dOp (dI0 fun i j=>i - j) (zaf 0 2 zz (ze (zo 0) (ze (dC (.int 13)) zE))) (dC (.int 6)))) zaN) (zX (zdu (dB (dOp (dIb fun i j=>decide (i<j)) (zo 1) (dC (.int 7)))) (zba (dOp (dI0 fun i j=>i - j) (zaf 0 2 zz (ze (zo 0) (ze (dC (.int 2001)) zE))) (dC (.int 1000)))) zaN) (zba (dOp zdL (dOp (dI0 fun i j=>i - j) (zaf 0 2 zz (ze (zo 0) (ze (dOp zdL (dC (.int 2)) (dOp (dI CPow fun i j=>i ^ j.toNat) (dC (.int 10)) (dC (.int 30)))) zE))) (dOp (dI CPow fun i j=>i ^ j.toNat) (dC (.int 10)) (dC (.int 30)))) (dOp (dI CPow fun i j=>i ^ j.toNat) (dC (.int 10)) (dC (.int 28)))))))) (zct S.length R) (xs.map some++List.replicate 1 none) S
def zkE:PN:=fun xs S R=>(zba (zfG (ze (dOp zbJ (dOp dIx (zo 0) (dC (.int 0))) (dOp dIx (zo 1) (dC (.int 0)))) (ze (dOp zbJ (dOp dIx (zo 0) (dC (.int 1))) (dOp dIx (zo 1) (dC (.int 1)))) zE)))) (zct S.length R) (xs.map some++List.replicate 0 none) S
def zcN:PN:=fun xs S R=>(zX (zan (zfG (ze (dOp zdL (dOp dIx (zo 0) (dC (.int 0))) (zo 1)) (ze (dOp zdL (dOp dIx (zo 0) (dC (.int 1))) (zo 1)) zE))) (zn 2)) (zba (zfG (ze (dCB zj2 (ze (zo 2) zE)) (ze (dCB zse (ze (zo 2) zE)) zE))))) (zct S.length R) (xs.map some++List.replicate 1 none) S
def zdR:PN:=fun xs S R=>(zX (zan (zaf 0 2 zz (ze (zo 0) (ze (dC (.int 8)) zE))) (zn 1)) (zX (zdu (dB (dOp (dIb fun i j=>decide (i<j)) (zo 1) (dC (.int 5)))) (zba (dOp (dI0 fun i j=>i - j) (zaf 0 2 zz (ze (zo 0) (ze (dC (.int 13)) zE))) (dC (.int 6)))) zaN) (zX (zdu (dB (dOp (dIb fun i j=>decide (i<j)) (zo 1) (dC (.int 7)))) (zba (dOp (dI0 fun i j=>i - j) (zaf 0 2 zz (ze (zo 0) (ze (dC (.int 2001)) zE))) (dC (.int 1000)))) zaN) (zba (dOp zdL (dOp (dI0 fun i j=>i - j) (zaf 0 2 zz (ze (zo 0) (ze (dOp zdL (dC (.int 2)) (dOp (dI CPow fun i j=>i ^ j.toNat) (dC (.int 10)) (dC (.int 30)))) zE))) (dOp (dI CPow fun i j=>i ^ j.toNat) (dC (.int 10)) (dC (.int 30)))) (dOp (dI CPow fun i j=>i ^ j.toNat) (dC (.int 10)) (dC (.int 28)))))))) (zct S.length R) (xs.map some++List.replicate 1 none) S
def zga:PN:=fun xs S R=>(zba (zko (dOp (dIb fun i j=>decide (i<=j)) (dOp dIx (zo 1) (dC (.int 0))) (dOp dIx (zo 0) (dC (.int 0)))) (dOp (dIb fun i j=>decide (i<=j)) (dOp dIx (zo 0) (dC (.int 1))) (dOp dIx (zo 1) (dC (.int 1)))))) (zct S.length R) (xs.map some++List.replicate 0 none) S
def zcM:PN:=fun xs S R=>(zba (dOp zbJ (dOp (dI0 fun i j=>i - j) (dOp dIx (zo 0) (dC (.int 1))) (dOp dIx (zo 0) (dC (.int 0)))) (dC (.int 1)))) (zct S.length R) (xs.map some++List.replicate 0 none) S
def zez:PN:=fun xs S R=>(zX (zan (dC (.str "abcdefghijklmnopqrstuvwxyz")) (zn 1)) (zX (zan (zaf 0 2 zz (ze (zo 0) (ze (dC (.int 3)) zE))) (zn 2)) (zX (zan (zaf 0 2 zz (ze (zo 0) (ze (dC (.int 26)) zE))) (zn 3)) (zX (zan (zgP [none,some 1,some 3] (zbU (ze (dC (.int 8)) zE)) (zn 0) zbd (dOp zdL (dOp dIx (zo 1) (dOp (dI (fun _ j=>0<j) fun i j=>i % j) (dOp zbJ (zo 2) (dOp zdL (dC (.int 5)) (zo 0))) (dC (.int 26)))) (dOp zbJ (dC (.int 1)) (dOp (dI (fun _ j=>0<j) fun i j=>i % j) (dOp zbJ (zo 2) (dOp zdL (dC (.int 3)) (zo 0))) (dC (.int 8)))))) (zn 4)) (zX (zdu (dB (dOp zil (zo 2) (dC (.int 0)))) (zX (zan (zsC zok (dC (.str "")) (ze (zeg [none,some 1,some 3] (zbU (ze (dC (.int 8)) zE)) (zn 0) zbd (dOp dIx (zo 1) (dOp (dI (fun _ j=>0<j) fun i j=>i % j) (dOp zbJ (zo 2) (dOp zdL (dC (.int 7)) (zo 0))) (dC (.int 26))))) zE)) (zn 5)) (zan (zgP [none,some 5] (zbU (ze (dC (.int 8)) zE)) (zn 0) zbd (dSl zji (zo 1) zbB (ze2 (dOp zbJ (zo 0) (dC (.int 1)))))) (zn 4))) zaN) (zX (zdu (dB (dOp zil (zo 2) (dC (.int 1)))) (zan (zfw (ze (dC (.str "part")) (ze (dC (.str "gap")) (ze (dC (.str "cut")) (ze (dC (.str "a")) (ze (dC (.str "aa")) (ze (dC (.str "dear")) (ze (dC (.str "b")) (ze (dC (.str "keeps")) zE))))))))) (zn 4)) zaN) (zX (zan (zaf 0 2 zz (ze (zo 0) (ze (dC (.int 8)) zE))) (zn 6)) (zX (zan (dOp znC (dSl zji (zo 4) (ze2 (zo 6)) zbB) (dSl zji (zo 4) zbB (ze2 (zo 6)))) (zn 4)) (zX (zdu (dB (dOp zil (zaf 0 2 zz (ze (zo 0) (ze (dC (.int 2)) zE))) (dC (.int 1)))) (zhg (zsc zeo (zo 4))) zaN) (zba (zo 4))))))))))) (zct S.length R) (xs.map some++List.replicate 6 none) S
def zdy:PN:=fun xs S R=>(zba (dCB zfk (ze (zeg [none] (zcX (zo 0)) (zn 0) zbd (dOp dIx (zo 0) (dC (.int 1)))) zE))) (zct S.length R) (xs.map some++List.replicate 0 none) S
def zbE:PN:=fun xs S R=>(zba (zfG (ze (dOp dIx (zo 0) (dC (.int 1))) (ze (dOp dIx (zo 0) (dC (.int 2))) zE)))) (zct S.length R) (xs.map some++List.replicate 0 none) S
def zcs:PN:=fun xs S R=>(zX (zan (dC (.int 1)) (zn 1)) (zX (ziN (zcX (zo 0)) (zn 2) (zan (dOp zdL (zo 1) (zaa 1 zcM (ze (zaa 1 zbE (ze (zo 2) zE)) zE))) (zn 1))) (zba (zo 1)))) (zct S.length R) (xs.map some++List.replicate 2 none) S
def zde:PN:=fun xs S R=>(zX (zdu (zoE (dB (zfS (dIb fun i j=>decide (i<=j)) (dIb fun i j=>decide (i<j)) (dC (.int 0)) (zo 1) (dCB zfz (ze (zo 0) zE))))) zhL zaN) (zX (zan (dOp dIx (zo 0) (zo 1)) (zn 3)) (zX (zdu (dOr (zoE (zoB (zaa 1 ze9 (ze (zo 2) zE)))) (zoE (zoB (zaa 2 zga (ze (zo 2) (ze (zaa 1 zbE (ze (zo 3) zE)) zE)))))) zhL zaN) (zba (dOp zbJ (dOp zbJ (dSl zji (zo 0) zbB (ze2 (zo 1))) (zfG (ze (zfG (ze (dOp dIx (zo 3) (dC (.int 0))) (ze (dOp dIx (zo 2) (dC (.int 0))) (ze (dOp dIx (zo 2) (dC (.int 1))) zE)))) zE))) (dSl zji (zo 0) (ze2 (dOp zbJ (zo 1) (dC (.int 1)))) zbB)))))) (zct S.length R) (xs.map some++List.replicate 1 none) S
def zgf:PN:=fun xs S R=>(zX (zan (dCB (dI2 fun i j=>if j>i then j else i) (ze (zo 0) (ze (dOp (dI0 fun i j=>i - j) (dC (.int 0)) (zo 0)) zE))) (zn 1)) (zba (zfw (ze (zo 1) (ze (dCB znB (ze (dOp (dIb fun i j=>decide (j<=i)) (zo 1) (dOp (dI CPow fun i j=>i ^ j.toNat) (dC (.int 10)) (dC (.int 18)))) zE)) (ze (dOp (dI (fun _ j=>0<j) fun i j=>i % j) (zo 1) (dC (.int 1000003))) zE)))))) (zct S.length R) (xs.map some++List.replicate 1 none) S
def zeq:PN:=fun xs S R=>(zX (zan (dC (.int 0)) (zn 2)) (zX (zan (dC (.int 0)) (zn 3)) (zX (ziN (zcX (zo 1)) (zbK 2 (zN (zn 4) (zN (zn 5) zbL))) (zX (zan (zgD (ze (dOp zdL (zo 5) (dOp dIx (dOp dIx (zo 0) (zo 4)) (dC (.int 1)))) (ze (dOp zdL (zo 5) (dOp dIx (dOp dIx (zo 0) (zo 4)) (dC (.int 2)))) zE))) (zn 6)) (zX (zan (dOp zbJ (zo 2) (dCB zj2 (ze (zo 6) zE))) (zn 2)) (zan (dOp zbJ (zo 3) (dCB zse (ze (zo 6) zE))) (zn 3))))) (zba (zfG (ze (zo 2) (ze (zo 3) zE))))))) (zct S.length R) (xs.map some++List.replicate 5 none) S
def zeO:PN:=fun xs S R=>(zX (zan (dC (.str "abcdefghijklmnopqrstuvwxyz")) (zn 1)) (zX (zan (zaf 0 2 zz (ze (zo 0) (ze (dC (.int 3)) zE))) (zn 2)) (zX (zan (zaf 0 2 zz (ze (zo 0) (ze (dC (.int 26)) zE))) (zn 3)) (zX (zan (zgP [none,some 1,some 3] (zbU (ze (dC (.int 8)) zE)) (zn 0) zbd (dOp zdL (dOp dIx (zo 1) (dOp (dI (fun _ j=>0<j) fun i j=>i % j) (dOp zbJ (zo 2) (dOp zdL (dC (.int 5)) (zo 0))) (dC (.int 26)))) (dOp zbJ (dC (.int 1)) (dOp (dI (fun _ j=>0<j) fun i j=>i % j) (dOp zbJ (zo 2) (dOp zdL (dC (.int 3)) (zo 0))) (dC (.int 8)))))) (zn 4)) (zX (zdu (dB (dOp zil (zo 2) (dC (.int 0)))) (zX (zan (zsC zok (dC (.str "")) (ze (zeg [none,some 1,some 3] (zbU (ze (dC (.int 8)) zE)) (zn 0) zbd (dOp dIx (zo 1) (dOp (dI (fun _ j=>0<j) fun i j=>i % j) (dOp zbJ (zo 2) (dOp zdL (dC (.int 7)) (zo 0))) (dC (.int 26))))) zE)) (zn 5)) (zan (zgP [none,some 5] (zbU (ze (dC (.int 8)) zE)) (zn 0) zbd (dSl zji (zo 1) zbB (ze2 (dOp zbJ (zo 0) (dC (.int 1)))))) (zn 4))) zaN) (zX (zdu (dB (dOp zil (zo 2) (dC (.int 1)))) (zan (zfw (ze (dC (.str "part")) (ze (dC (.str "gap")) (ze (dC (.str "cut")) (ze (dC (.str "a")) (ze (dC (.str "aa")) (ze (dC (.str "dear")) (ze (dC (.str "b")) (ze (dC (.str "keeps")) zE))))))))) (zn 4)) zaN) (zX (zan (zaf 0 2 zz (ze (zo 0) (ze (dC (.int 8)) zE))) (zn 6)) (zX (zan (dOp znC (dSl zji (zo 4) (ze2 (zo 6)) zbB) (dSl zji (zo 4) zbB (ze2 (zo 6)))) (zn 4)) (zX (zdu (dB (dOp zil (zaf 0 2 zz (ze (zo 0) (ze (dC (.int 2)) zE))) (dC (.int 1)))) (zhg (zsc zeo (zo 4))) zaN) (zba (zo 4))))))))))) (zct S.length R) (xs.map some++List.replicate 6 none) S
def zdq:PN:=fun xs S R=>(zX (zan (dOp dIx (zgD (ze (zgD (ze (dC (.int 1)) (ze (dUn (dUI fun i=>-i) (dC (.int 1))) (ze (dC (.int 2)) (ze (dUn (dUI fun i=>-i) (dC (.int 2))) (ze (dC (.int 3)) (ze (dUn (dUI fun i=>-i) (dC (.int 3))) zE))))))) (ze (zgD (ze (dC (.int 1)) (ze (dUn (dUI fun i=>-i) (dC (.int 1))) zE))) (ze (zgD (ze (dC (.int 2)) (ze (dUn (dUI fun i=>-i) (dC (.int 2))) zE))) (ze (zgD (ze (dC (.int 3)) (ze (dUn (dUI fun i=>-i) (dC (.int 3))) zE))) (ze (zgD (ze (dC (.int 2)) (ze (dC (.int 3)) (ze (dUn (dUI fun i=>-i) (dC (.int 2))) (ze (dUn (dUI fun i=>-i) (dC (.int 3))) zE))))) (ze (zgD (ze (dC (.int 1)) (ze (dC (.int 3)) (ze (dUn (dUI fun i=>-i) (dC (.int 1))) (ze (dUn (dUI fun i=>-i) (dC (.int 3))) zE))))) zE))))))) (zaf 0 2 zz (ze (zo 0) (ze (dC (.int 6)) zE)))) (zn 2)) (zX (zan (zfw zE) (zn 3)) (zX (ziN (zbU (ze (dCB zfz (ze (zo 1) zE)) zE)) (zn 4) (zdu (dB (dOp (dIb fun i j=>decide (j<i)) (zaf 0 2 zz (ze (zo 0) (ze (dC (.int 3)) zE))) (dC (.int 0)))) (zhg (dBM zeJ (zo 3) (ze (zfG (ze (zo 4) (ze (dOp dIx (zo 2) (zaf 0 2 zz (ze (zo 0) (ze (dCB zfz (ze (zo 2) zE)) zE)))) zE))) zE))) zaN)) (zX (zdu (dB (dOp zil (zo 3) (zgD zE))) (zan (zfw (ze (zfG (ze (zaf 0 2 zz (ze (zo 0) (ze (dCB zfz (ze (zo 1) zE)) zE))) (ze (dOp dIx (zo 2) (zaf 0 2 zz (ze (zo 0) (ze (dCB zfz (ze (zo 2) zE)) zE)))) zE))) zE)) (zn 3)) zaN) (zba (dCB zfk (ze (zo 3) zE))))))) (zct S.length R) (xs.map some++List.replicate 3 none) S
def zfg:PN:=fun xs S R=>(zX (zan (zaf 0 2 zdq (ze (zo 0) (ze (zo 1) zE))) (zn 2)) (zX (zan (zaa 2 zeq (ze (zo 1) (ze (zo 2) zE))) (zbK 2 (zN (zn 3) (zN (zn 4) zbL)))) (zX (zan (dOp (dI0 fun i j=>i - j) (zo 4) (zo 3)) (zn 5)) (zX (zan (dOp zbJ (zo 3) (dOp dIx (zgD (ze (dC (.int 0)) (ze (dC (.int 1)) (ze (dUn (dUI fun i=>-i) (dC (.int 1))) (ze (dOp dFd (zo 5) (dC (.int 2))) (ze (dOp dFd (zo 5) (dC (.int 3))) (ze (dOp zbJ (zo 5) (dC (.int 1))) (ze (zo 5) (ze (dOp (dI0 fun i j=>i - j) (zo 5) (dC (.int 1))) zE))))))))) (zaf 0 2 zz (ze (zo 0) (ze (dC (.int 8)) zE))))) (zn 6)) (zX (zan (dOp zbJ (zo 6) (dOp dIx (zgD (ze (dC (.int 0)) (ze (dC (.int 1)) (ze (dC (.int 2)) (ze (dOp dFd (zo 5) (dC (.int 2))) (ze (zo 5) (ze (dOp zbJ (zo 5) (dC (.int 2))) zE))))))) (zaf 0 2 zz (ze (zo 0) (ze (dC (.int 6)) zE))))) (zn 7)) (zba (zfG (ze (zo 2) (ze (zo 6) (ze (zo 7) zE)))))))))) (zct S.length R) (xs.map some++List.replicate 6 none) S
def zen:PN:=fun xs S R=>(zba (dCB zqK (ze (zeg [none,none,some 1] (zcX (dOp dIx (zo 0) (dC (.int 0)))) (zbK 2 (zN (zn 0) (zN (zn 1) zbL))) zbd (dOp zdL (zo 1) (dOp dIx (zo 2) (zo 0)))) zE))) (zct S.length R) (xs.map some++List.replicate 0 none) S
def ziz:PN:=fun xs S R=>(zba (zfS (dIb fun i j=>decide (i<=j)) (dIb fun i j=>decide (i<=j)) (dOp dIx (zo 0) (dC (.int 1))) (zaa 2 zen (ze (zo 0) (ze (zo 1) zE))) (dOp dIx (zo 0) (dC (.int 2))))) (zct S.length R) (xs.map some++List.replicate 0 none) S
def zei:PN:=fun xs S R=>(zX (zan (dOp zbJ (dOp dIx (zo 0) (dC (.int 1))) (dOp zdL (dC (.int 2)) (dOp dIx (zo 0) (dC (.int 2))))) (zn 2)) (zX (zan (dCB (dI2 fun i j=>if j>i then j else i) (ze (dC (.int 0)) (ze (dOp dFd (dOp zbJ (dOp (dI0 fun i j=>i - j) (zo 1) (zo 2)) (dC (.int 2))) (dC (.int 3))) zE))) (zn 3)) (zX (zdu (ztl (dB (dOp zil (dOp dIx (zo 0) (dC (.int 1))) (dC (.int 0)))) (dB (dOp zil (dOp (dI (fun _ j=>0<j) fun i j=>i % j) (dOp (dI0 fun i j=>i - j) (zo 1) (zo 3)) (dC (.int 2))) (dC (.int 1))))) (zan (dOp zbJ (zo 3) (dC (.int 1))) (zn 3)) zaN) (zba (dOp (dIb fun i j=>decide (i<=j)) (zo 3) (dCB (dI2 fun i j=>if j<i then j else i) (ze (dOp dIx (zo 0) (dC (.int 3))) (ze (dOp dFd (zo 1) (dC (.int 3))) zE)))))))) (zct S.length R) (xs.map some++List.replicate 2 none) S
def zbb:PN:=fun xs S R=>(zba (dUn (dUI fun i=>-i) (dOp dFd (dUn (dUI fun i=>-i) (zo 0)) (zo 1)))) (zct S.length R) (xs.map some++List.replicate 0 none) S
def zaP:PN:=fun xs S R=>(zX (zan (zfG (ze (dC (.int 0)) (ze (dC (.int 0)) zE))) (zn 2)) (zX (ziN (zcX (zo 1)) (zbK 2 (zN (zn 3) (zN (zn 4) zbL))) (zan (zaa 2 zkE (ze (zo 2) (ze (zaa 2 zcN (ze (zaa 1 zbE (ze (dOp dIx (zo 0) (zo 3)) zE)) (ze (zo 4) zE))) zE))) (zn 2))) (zba (zo 2)))) (zct S.length R) (xs.map some++List.replicate 3 none) S
def zer:PN:=fun xs S R=>(zX (zan (zfw (ze (dC (.int 0)) (ze (dC (.int 0)) (ze (dC (.int 0)) (ze (dC (.int 0)) zE))))) (zn 2)) (zX (ziN (zcX (zo 1)) (zbK 2 (zN (zn 3) (zN (zn 4) zbL))) (zan (dOp (dI0 fun i j=>i - j) (dOp zbJ (dOp dIx (zo 2) (dCB zsn (ze (zo 4) zE))) (zaa 1 zcM (ze (zaa 1 zbE (ze (dOp dIx (zo 0) (zo 3)) zE)) zE))) (dC (.int 1))) (zjY (zo 2) (dCB zsn (ze (zo 4) zE))))) (zba (zo 2)))) (zct S.length R) (xs.map some++List.replicate 3 none) S
def zim:PN:=fun xs S R=>(zba (zaa 2 zaP (ze (zo 0) (ze (dOp dIx (zo 1) (dC (.int 0))) zE)))) (zct S.length R) (xs.map some++List.replicate 0 none) S
def zb1:PN:=fun xs S R=>(zX (zan (zaa 2 zaP (ze (zo 0) (ze (zo 2) zE))) (zn 4)) (zX (zan (zaa 2 zer (ze (zo 0) (ze (zo 2) zE))) (zn 5)) (zX (zan (zaa 1 zbE (ze (dOp dIx (zo 0) (dOp dIx (zo 1) (dC (.int 0)))) zE)) (zn 6)) (zX (zan (dIf (dB (dOp (dIb fun i j=>decide (j<i)) (dOp dIx (zo 1) (dC (.int 1))) (dC (.int 0)))) (dOp (dI0 fun i j=>i - j) (zo 3) (dOp dIx (zo 4) (dC (.int 1)))) (dOp (dI0 fun i j=>i - j) (zo 3) (dOp dIx (zo 4) (dC (.int 0))))) (zn 7)) (zX (zan (dCB (dI2 fun i j=>if j>i then j else i) (ze (dOp dIx (zo 6) (dC (.int 0))) (ze (zaa 2 zbb (ze (zo 7) (ze (dOp dIx (zo 1) (dC (.int 1))) zE))) zE))) (zn 8)) (zX (ziN (zg4 (ze (zo 8) (ze (dCB (dI2 fun i j=>if j<i then j else i) (ze (dOp zbJ (zo 8) (dC (.int 5))) (ze (dOp zbJ (dOp dIx (zo 6) (dC (.int 1))) (dC (.int 1))) zE))) zE))) (zn 9) (zdu (zoB (zaa 2 zei (ze (zo 5) (ze (dOp (dI0 fun i j=>i - j) (dOp (dI0 fun i j=>i - j) (zo 3) (dOp zdL (dOp dIx (zo 1) (dC (.int 1))) (zo 9))) (dOp dIx (zo 4) (dC (.int 0)))) zE)))) (zba (zo 9)) zaN)) (zba (dC .none)))))))) (zct S.length R) (xs.map some++List.replicate 6 none) S
def zfi:PN:=fun xs S R=>(zX (zan (dCB zib (ze (zaa 1 zdy (ze (zo 0) zE)) zE)) (zn 3)) (zX (zan (zo 2) (zn 4)) (zX (ziN (ziJ (ze (dOp dIx (zo 1) (dC (.int 0))) zE)) (zbK 2 (zN (zn 5) (zN (zn 6) zbL))) (zX (zan (zaa 4 zb1 (ze (zo 0) (ze (zo 6) (ze (dSl zji (dOp dIx (zo 1) (dC (.int 0))) (ze2 (dOp zbJ (zo 5) (dC (.int 1)))) zbB) (ze (zo 4) zE))))) (zn 7)) (zX (zdu (dB (dOp zsk (zo 7) (dC .none))) (zba (dC .none)) zaN) (zX (zan (zo 7) (zjY (zo 3) (dOp dIx (zo 6) (dC (.int 0))))) (zan (dOp (dI0 fun i j=>i - j) (zo 4) (dOp zdL (dOp dIx (zo 6) (dC (.int 1))) (zo 7))) (zn 4)))))) (zba (dCB zfk (ze (zo 3) zE)))))) (zct S.length R) (xs.map some++List.replicate 5 none) S
def zeT:PN:=fun xs S R=>(zX (zan (dC (.int 0)) (zn 2)) (zX (ziN (zcX (dOp dIx (zo 0) (dC (.int 0)))) (zbK 2 (zN (zn 3) (zN (zn 4) zbL))) (zan (dOp zbJ (zo 2) (dOp zdL (zo 4) (dOp dIx (zo 1) (zo 3)))) (zn 2))) (zba (zo 2)))) (zct S.length R) (xs.map some++List.replicate 3 none) S
def zfl:PN:=fun xs S R=>(zX (zan (dC (.int 0)) (zn 2)) (zX (zan (dC (.int 0)) (zn 3)) (zX (ziN (zcX (zo 1)) (zbK 2 (zN (zn 4) (zN (zn 5) zbL))) (zX (zan (zgD (ze (dOp zdL (zo 5) (dOp dIx (dOp dIx (zo 0) (zo 4)) (dC (.int 1)))) (ze (dOp zdL (zo 5) (dOp dIx (dOp dIx (zo 0) (zo 4)) (dC (.int 2)))) zE))) (zn 6)) (zX (zan (dOp zbJ (zo 2) (dCB zj2 (ze (zo 6) zE))) (zn 2)) (zan (dOp zbJ (zo 3) (dCB zse (ze (zo 6) zE))) (zn 3))))) (zba (zfG (ze (zo 2) (ze (zo 3) zE))))))) (zct S.length R) (xs.map some++List.replicate 5 none) S
def zex:PN:=fun xs S R=>(zX (zan (dC (.int 0)) (zn 2)) (zX (ziN (zcX (dOp dIx (zo 0) (dC (.int 0)))) (zbK 2 (zN (zn 3) (zN (zn 4) zbL))) (zan (dOp zbJ (zo 2) (dOp zdL (zo 4) (dOp dIx (zo 1) (zo 3)))) (zn 2))) (zba (zo 2)))) (zct S.length R) (xs.map some++List.replicate 3 none) S
def zcl:PN:=fun xs S R=>(zba (dCB zqK (ze (zeg [none,none,some 1,some 2] (zfI (zo 0)) (zbK 2 (zN (zn 0) (zN (zn 1) zbL))) (dB (zfS (dIb fun i j=>decide (i<=j)) (dIb fun i j=>decide (i<=j)) (dOp dIx (zo 2) (dC (.int 1))) (dOp zbJ (zo 3) (zo 0)) (dOp dIx (zo 2) (dC (.int 2))))) (zo 1)) zE))) (zct S.length R) (xs.map some++List.replicate 0 none) S
def zdA:PN:=fun xs S R=>(zX (zdu (dB (dOp zil (zo 2) (dC (.int 0)))) (zba (zft (ze (zeg [none,none,some 1] (zfI (zo 0)) (zbK 2 (zN (zn 0) (zN (zn 1) zbL))) zbd (zfG (ze (zo 0) (ze (dOp zdL (zo 1) (zaa 1 zcM (ze (zo 2) zE))) zE)))) zE))) zaN) (zX (zsL (znU true 3 (.k []) (zot (fun M=>(zg4 (ze (dOp dIx (zo 1) (dC (.int 0))) (ze (dOp zbJ (dOp dIx (zo 1) (dC (.int 1))) (dC (.int 1))) zE)))) (zn 4) (zot (fun M=>(zfI (zo 0))) (zbK 2 (zN (zn 5) (zN (zn 6) zbL))) (zpk (zja (zan (dOp zbJ (zo 5) (dOp zdL (zo 2) (zo 4))) (zn 7))) (zpM 3 (fun M=>(zo 7)) (fun M=>(dOp zbJ (zgb M (zo 3) (zo 7) (dC (.int 0))) (zo 6))))))))) (zba (zo 3)))) (zct S.length R) (xs.map some++List.replicate 5 none) S
def zca:PN:=fun xs S R=>(zX (zan (zaa 1 zcM (ze (zaa 2 zim (ze (zo 0) (ze (zo 1) zE))) zE)) (zn 2)) (zX (zdu (dB (dOp (dIb fun i j=>decide (j<i)) (zo 2) (dC (.int 400)))) zhL zaN) (zX (zan (zlx (ze (dOp dIx (zo 1) (dC (.int 0))) zE)) (zn 3)) (zX (zan (zfw (ze (dC (.dict [(.int 0,.int 1)])) zE)) (zn 4)) (zX (ziN (zkY (ze (dOp (dI0 fun i j=>i - j) (dCB zfz (ze (zo 0) zE)) (dC (.int 1))) (ze (dUn (dUI fun i=>-i) (dC (.int 1))) (ze (dUn (dUI fun i=>-i) (dC (.int 1))) zE)))) (zn 5) (zhg (dBM zeJ (zo 4) (ze (zaa 3 zdA (ze (dOp dIx (zo 4) (dUn (dUI fun i=>-i) (dC (.int 1)))) (ze (zaa 1 zbE (ze (dOp dIx (zo 0) (zo 5)) zE)) (ze (zgb [] (zo 3) (zo 5) (dC (.int 0))) zE)))) zE)))) (zX (zhg (zsc zeo (zo 4))) (zba (zo 4)))))))) (zct S.length R) (xs.map some++List.replicate 4 none) S
def zck:PN:=fun xs S R=>(zba (zdp (dOp dIx (zaa 2 zca (ze (zo 0) (ze (zo 1) zE))) (dC (.int 0))))) (zct S.length R) (xs.map some++List.replicate 0 none) S
def zai:PN:=fun xs S R=>(zba (zaa 3 zcl (ze (dOp dIx (zaa 2 zca (ze (zo 0) (ze (zo 1) zE))) (dC (.int 0))) (ze (zo 1) (ze (dC (.int 0)) zE))))) (zct S.length R) (xs.map some++List.replicate 0 none) S
def zbp:PN:=fun xs S R=>(zX (zqy (dB (dOp zld (zo 0) (dC (.int 0)))) (zX (zan (dOp (dI (fun _ j=>0<j) fun i j=>i % j) (zo 1) (zo 0)) (zn 2)) (zX (zan (zo 0) (zn 1)) (zan (zo 2) (zn 0))))) (zba (zo 1))) (zct S.length R) (xs.map some++List.replicate 1 none) S
def zdo:PN:=fun xs S R=>(zX (zan (zeg [none,none] (zcX (dOp dIx (zo 2) (dC (.int 0)))) (zbK 2 (zN (zn 0) (zN (zn 1) zbL))) zbd (zo 0)) (zn 3)) (zX (zan (zfw zE) (zn 4)) (zX (ziN (zbU (ze (dCB zfz (ze (zo 1) zE)) zE)) (zn 5) (zX (zan (dOp dIx (zo 1) (zo 5)) (zbK 3 (zN (zn 6) (zN (zn 7) (zN (zn 8) zbL))))) (zX (zdu (ztl (dB (dOp zk1 (zo 5) (zo 3))) (dB (dOp zil (zaf 0 2 zz (ze (zo 0) (ze (dC (.int 2)) zE))) (dC (.int 0))))) (zan (dOp zbJ (zo 7) (zaf 0 2 zz (ze (zo 0) (ze (dOp (dI CPow fun i j=>i ^ j.toNat) (dC (.int 10)) (dC (.int 40))) zE)))) (zn 8)) zaN) (zhg (dBM zeJ (zo 4) (ze (zfG (ze (zo 6) (ze (zo 7) (ze (zo 8) zE)))) zE)))))) (zba (dCB zfk (ze (zo 4) zE)))))) (zct S.length R) (xs.map some++List.replicate 6 none) S
def zcn:PN:=fun xs S R=>(zX (zan (zaf 0 1 zeO (ze (zo 0) zE)) (zn 1)) (zX (zan (zeg [none,some 0] (zbU (ze (dOp zbJ (dC (.int 1)) (zaf 0 2 zz (ze (zo 0) (ze (dC (.int 8)) zE)))) zE)) (zn 0) zbd (dOp zbJ (dC (.int 1)) (zaf 0 2 zz (ze (zo 1) (ze (dC (.int 4)) zE))))) (zn 2)) (zX (zdu (dB (dOp zil (zaf 0 2 zz (ze (zo 0) (ze (dC (.int 6)) zE))) (dC (.int 0)))) (zan (dOp dIx (zgD (ze (zgD (ze (dC (.int 400)) zE)) (ze (zgD (ze (dC (.int 134)) zE)) (ze (zgD (ze (dC (.int 200)) zE)) (ze (zgD (ze (dC (.int 60)) (ze (dC (.int 7)) (ze (dC (.int 1)) zE)))) (ze (dOp zdL (zgD (ze (dC (.int 2)) zE)) (dC (.int 8))) (ze (zgD (ze (dC (.int 1)) (ze (dC (.int 100)) zE))) zE))))))) (zaf 0 2 zz (ze (zo 0) (ze (dC (.int 6)) zE)))) (zn 2)) zaN) (zX (zan (zfw zE) (zn 3)) (zX (ziN (zbU (ze (dCB zfz (ze (zo 2) zE)) zE)) (zn 4) (zX (zan (zaf 0 1 zdU (ze (zo 0) zE)) (zn 5)) (zhg (dBM zeJ (zo 3) (ze (zfG (ze (dOp dIx (zo 1) (zo 4)) (ze (zo 5) (ze (dOp (dI0 fun i j=>i - j) (dOp zbJ (zo 5) (dOp dIx (zo 2) (zo 4))) (dC (.int 1))) zE)))) zE))))) (zba (dCB zfk (ze (zo 3) zE)))))))) (zct S.length R) (xs.map some++List.replicate 5 none) S
def zfq:PN:=fun xs S R=>(zX (zan (zaa 2 zai (ze (zo 0) (ze (zo 1) zE))) (zn 2)) (zX (zan (zaa 1 zcs (ze (zo 0) zE)) (zn 3)) (zX (zan (zaa 2 zbp (ze (zo 2) (ze (zo 3) zE))) (zn 4)) (zba (zfG (ze (dOp dFd (zo 2) (zo 4)) (ze (dOp dFd (zo 3) (zo 4)) zE))))))) (zct S.length R) (xs.map some++List.replicate 3 none) S
def zaW:PN:=fun xs S R=>(zX (zan (dOp dIx (zo 0) (zo 2)) (zbK 3 (zN (zn 4) (zN (zn 5) (zN (zn 6) zbL))))) (zX (zdu (dB (dOp zil (zo 3) (zo 6))) (zba (dC (.bool true))) zaN) (zX (zan (zft (ze (zaa 2 zck (ze (zaa 3 zde (ze (zo 0) (ze (zo 2) (ze (zfG (ze (zo 5) (ze (zo 3) zE))) zE)))) (ze (zo 1) zE))) zE)) (zn 7)) (zX (zan (zft (ze (zaa 2 zck (ze (zaa 3 zde (ze (zo 0) (ze (zo 2) (ze (zfG (ze (dOp zbJ (zo 3) (dC (.int 1))) (ze (zo 6) zE))) zE)))) (ze (zo 1) zE))) zE)) (zn 8)) (zX (ziN (zcX (zaa 2 zck (ze (zo 0) (ze (zo 1) zE)))) (zbK 2 (zN (zn 9) (zN (zn 10) zbL))) (zdu (dB (dOp zld (dOp zbJ (zgb [] (zo 7) (zo 9) (dC (.int 0))) (zgb [] (zo 8) (zo 9) (dC (.int 0)))) (zo 10))) (zba (dC (.bool false))) zaN)) (zba (dC (.bool true)))))))) (zct S.length R) (xs.map some++List.replicate 7 none) S
def za9:PN:=fun xs S R=>(zX (zan (zo 1) (zbK 3 (zN (zn 3) (zN (zn 4) (zN (zn 5) zbL))))) (zX (zan (dOp zbJ (zo 4) (dOp dFd (dOp (dI0 fun i j=>i - j) (zo 5) (zo 4)) (dC (.int 2)))) (zn 6)) (zX (zdu (dB (dOp (dIb fun i j=>decide (i<j)) (zaa 2 zai (ze (zo 0) (ze (zfG (ze (zo 3) (ze (dOp (dI0 fun i j=>i - j) (zo 4) (zo 2)) (ze (dOp zbJ (zo 5) (zo 2)) zE)))) zE))) (zaa 2 zai (ze (zo 0) (ze (zo 1) zE))))) (zba (dC (.bool false))) zaN) (zX (zdu (dB (dOp zil (zo 6) (zo 5))) (zba (dC (.bool true))) zaN) (zX (zan (zgD (ze (zfG (ze (zo 3) (ze (zo 4) (ze (zo 6) zE)))) (ze (zfG (ze (zo 3) (ze (dOp zbJ (zo 6) (dC (.int 1))) (ze (zo 5) zE)))) zE))) (zn 7)) (zba (dOp zil (dCB zqK (ze (zeg [none,some 0] (zcX (zo 7)) (zn 0) zbd (zaa 2 zai (ze (zo 1) (ze (zo 0) zE)))) zE)) (zaa 2 zai (ze (zo 0) (ze (zo 1) zE)))))))))) (zct S.length R) (xs.map some++List.replicate 5 none) S
def zaX:PN:=fun xs S R=>(zX (zan (zaa 2 zck (ze (zo 0) (ze (zo 1) zE))) (zn 2)) (zX (zdu (dOr (dB (dOp zld (dCB zqK (ze (zeg [none,none] (zcX (zo 2)) (zbK 2 (zN (zn 0) (zN (zn 1) zbL))) zbd (zo 1)) zE)) (zaa 1 zcs (ze (zo 0) zE)))) (dB (dOp (dIb fun i j=>decide (i<j)) (dCB zj2 (ze (zeg [none,none] (zcX (zo 2)) (zbK 2 (zN (zn 0) (zN (zn 1) zbL))) zbd (zo 1)) zE)) (dC (.int 1))))) (zba (dC (.bool false))) zaN) (zX (zdu (dB (dOp zld (dCB zqK (ze (zeg [none,none,some 1] (zcX (zo 2)) (zbK 2 (zN (zn 0) (zN (zn 1) zbL))) (dB (zfS (dIb fun i j=>decide (i<=j)) (dIb fun i j=>decide (i<=j)) (dOp dIx (zo 2) (dC (.int 1))) (zo 0) (dOp dIx (zo 2) (dC (.int 2))))) (zo 1)) zE)) (zaa 2 zai (ze (zo 0) (ze (zo 1) zE))))) (zba (dC (.bool false))) zaN) (zX (zan (zaa 2 zfq (ze (zo 0) (ze (zo 1) zE))) (zbK 2 (zN (zn 3) (zN (zn 4) zbL)))) (zX (zdu (dB (dOp zld (dOp zdL (zo 3) (zaa 1 zcs (ze (zo 0) zE))) (dOp zdL (zaa 2 zai (ze (zo 0) (ze (zo 1) zE))) (zo 4)))) (zba (dC (.bool false))) zaN) (zX (ziN (zcX (dOp zbJ (dSl zji (zo 2) zbB (ze2 (dC (.int 6)))) (dSl zji (zo 2) (ze2 (dUn (dUI fun i=>-i) (dC (.int 6)))) zbB))) (zbK 2 (zN (zn 5) (zN (zn 6) zbL))) (zX (zan (zaa 3 zfi (ze (zo 0) (ze (zo 1) (ze (zo 5) zE)))) (zn 7)) (zdu (dOr (dB (dOp zsk (zo 7) (dC .none))) (dOr (dB (dOp zld (zaa 2 zeT (ze (zo 1) (ze (zo 7) zE))) (zo 5))) (dB (dOp zld (zaa 2 ziz (ze (zo 1) (ze (zo 7) zE))) (zfS (dIb fun i j=>decide (i<=j)) (dIb fun i j=>decide (i<=j)) (dOp dIx (zo 1) (dC (.int 1))) (zo 5) (dOp dIx (zo 1) (dC (.int 2)))))))) (zba (dC (.bool false))) zaN))) (zba (dC (.bool true))))))))) (zct S.length R) (xs.map some++List.replicate 6 none) S
def zrg:DS:=(zX (zan (zaa 1 zgf (ze (zo 1) zE)) (zn 2)) (zX (zan (zaf 0 1 zcn (ze (zo 2) zE)) (zn 3)) (zX (zan (zaf 0 2 zfg (ze (zo 2) (ze (zo 3) zE))) (zn 4)) (zX (zan (zaf 0 3 zdo (ze (zo 2) (ze (zo 3) (ze (zo 4) zE)))) (zn 3)) (zX (zan (zaa 2 zeq (ze (zo 3) (ze (dOp dIx (zo 4) (dC (.int 0))) zE))) (zbK 2 (zN (zn 5) (zN (zn 6) zbL)))) (zX (zan (zfG (ze (dCB zfk (ze (zeg [none,none] (zcX (dOp dIx (zo 4) (dC (.int 0)))) (zbK 2 (zN (zn 0) (zN (zn 1) zbL))) zbd (zfG (ze (zo 0) (ze (dOp (dI0 fun i j=>i - j) (dC (.int 0)) (zo 1)) zE)))) zE)) (ze (dOp (dI0 fun i j=>i - j) (dC (.int 0)) (dOp dIx (zo 4) (dC (.int 2)))) (ze (dOp (dI0 fun i j=>i - j) (dC (.int 0)) (dOp dIx (zo 4) (dC (.int 1)))) zE)))) (zn 7)) (zX (zan (zaf 0 2 zz (ze (zo 2) (ze (dCB zfz (ze (zo 3) zE)) zE))) (zn 8)) (zX (zan (dOp zbJ (dOp dIx (dOp dIx (zo 3) (zo 8)) (dC (.int 1))) (dOp (dI (fun _ j=>0<j) fun i j=>i % j) (zaf 0 2 zz (ze (zo 2) (ze (dOp (dI CPow fun i j=>i ^ j.toNat) (dC (.int 10)) (dC (.int 12))) zE))) (dOp zbJ (dOp (dI0 fun i j=>i - j) (dOp dIx (dOp dIx (zo 3) (zo 8)) (dC (.int 2))) (dOp dIx (dOp dIx (zo 3) (zo 8)) (dC (.int 1)))) (dC (.int 1))))) (zn 9)) (zdu (dB (dOp (dIb fun i j=>decide (i<j)) (dOp (dI0 fun i j=>i - j) (zo 6) (zo 5)) (dC (.int 400)))) (zX (zdu (dOr (zoE (zoB (zaa 2 zaX (ze (zo 3) (ze (zo 4) zE))))) (zoE (zoB (zaa 4 zaW (ze (zo 3) (ze (zo 4) (ze (zo 8) (ze (zo 9) zE)))))))) (zba (dC (.bool false))) zaN) (zX (zdu (zoE (zoB (zaa 3 za9 (ze (zo 3) (ze (zo 4) (ze (zaf 0 2 zz (ze (zo 2) (ze (dC (.int 9)) zE))) zE)))))) (zba (dC (.bool false))) zaN) (zX (zdu (dB (dOp zld (zt1 (zeg [none,none] (zcX (zaa 2 zck (ze (zo 3) (ze (zo 7) zE)))) (zbK 2 (zN (zn 0) (zN (zn 1) zbL))) zbd (zfG (ze (dOp (dI0 fun i j=>i - j) (dC (.int 0)) (zo 0)) (ze (zo 1) zE)))) (dUn (dUI fun i=>-i) (dC (.int 1)))) (zaa 2 zck (ze (zo 3) (ze (zo 4) zE))))) (zba (dC (.bool false))) zaN) (zdu (dOr (dB (dOp zld (zaa 2 zai (ze (zo 3) (ze (zo 7) zE))) (zaa 2 zai (ze (zo 3) (ze (zo 4) zE))))) (dB (dOp zld (zaa 2 zfq (ze (zo 3) (ze (zo 7) zE))) (zaa 2 zfq (ze (zo 3) (ze (zo 4) zE)))))) (zba (dC (.bool false))) zaN)))) zaN)))))))))
end My
namespace My
open PySem L2
theorem seq1{t u:DS}{E:DEnds}{δ:XE}{S:Sto}(h:t { E with nx:=u E } δ S):zX t u E δ S:=h
theorem seqm{t u:DSm}{E:DEndsM}{δ:XE}{S:Sto}{M:DM}(h:t { E with nx:=u E } δ S M):zpk t u E δ S M:=h
theorem cut{t u:DS}{E:DEnds}{δ:XE}{S:Sto}(I:XE->Sto->Prop)(h1:∀ N:XE->Sto->Prop,(∀ δ' S',I δ' S'->N δ' S')->t { E with nx:=N } δ S)(h2:∀ δ' S',I δ' S'->u E δ' S'):zX t u E δ S:=h1 _ h2
theorem zhT(i j:Int):PyData.eqv (.int i) (.int j)=decide (i=j):=rfl
theorem zk0(i j:Bool):PyData.eqv (.bool i) (.bool j)=decide (i=j):=by cases i <;> cases j <;> rfl
theorem zsi(i:Int):SeqAt.shaped (.int i)=true:=rfl
theorem zsK(i:Bool):SeqAt.shaped (.bool i)=true:=rfl
theorem zni:("int" ∈ zq2)=True:=eq_true (by decide)
theorem zlu:("bool" ∈ zq2)=True:=eq_true (by decide)
theorem zjj:("tuple" ∈ zq2)=True:=eq_true (by decide)
end My
namespace My
open PySem L2
local macro_rules | `(tactic| walk_at "d")=>`(tactic| (try simp only [zan,zft,zkY,zlx,ztQ,List.all_cons,List.all_nil,Bool.and_self,znu,zqv,zsL,znU,zja,zuD,zot,zpM,zgb,zfI,zqp,zdp,ztN,zqm,zuI,zuA,zn,zo,dC,dO,dOp,dUn,zE,ze,dCB,zfG,zgD,zfw,dB,zoE,ztl,dOr,zko,zuN,zpp,dIf,zfS,dI,dI0,dIb,dUI,zil,zld,zsk,ztA,ztK,zsw,zsm,zq3,zqc,zqr,zqj,zqq,zpT,znc,zqJ,zqW,zp3,dFd,zoB,zqt,zbB,ze2,dSl,zfz,znt,zp0,zr9,zsn,znB,dI2,zfk,zib,dBM,zsc,zsC,zeJ,zeo,zmn,zuH,zok,znC,zqK,zuB,zaa,zaf,zli,zs7,zsU,ztP,ztT,asL,zq5,zs3,zsO,zsM,ztG,znI,zm5,zqs,zqN,zp4,ztJ,ztC,zmo,zp2,zqe,zqL,zqn,zba,zdu,zhg,zaN,zhL,ziN,zcX,zqo,zqf,zbU,zg4,ziJ,zqV,zbK,zN,zto,zs9,ztu,zsl,zss,zbL,zjY,zeg,zgP,zbd,zp6,zuC,zgN,zkQ,zlt,zlj,ziR,zhC,List.replicate,List.map_cons,List.map_nil,Option.map_some,Option.bind_some,Option.bind_none,Option.join_some,List.getElem?_cons_zero,List.getElem?_cons_succ,List.set_cons_zero,List.set_cons_succ,List.take_succ_cons,List.take_zero,List.take_nil,List.length_cons,List.length_nil,List.nil_append,List.cons_append,Option.some.injEq,exists_eq_left',exists_eq_left,List.cons.injEq,XV.d.injEq,XV.l.injEq,XV.o.injEq,PyData.int.injEq,PyData.list.injEq,PyData.tuple.injEq,PyData.bool.injEq,PyData.str.injEq,and_true,true_and,decide_eq_true_eq,Bool.not_true,Bool.not_false,Bool.false_eq_true,Bool.true_eq_false,not_true_eq_false,not_false_eq_true,↓reduceIte,decide_true,decide_false,Bool.not_eq_true',zpG,decide_eq_false_iff_not,Nat.reduceAdd,Nat.reduceMul,Nat.zero_add,Nat.reduceLT,Nat.reduceLeDiff,Nat.reduceEqDiff,Int.reduceLT,Int.reduceLE,Int.reduceNeg,Int.reducePow,Int.reduceToNat,Int.reduceEq,Int.reduceAdd,Int.reduceSub,Int.reduceMul,Nat.le_refl,Nat.zero_le,List.length_append,List.length_map,zhT,zk0,zsi,zsK,List.isEmpty_nil,List.isEmpty_cons,Int.cast_ofNat_Int,Int.natCast_zero,Int.natCast_one,zni,zlu,zjj,zol,zkG,zjS,zt1,znl]))
local macro_rules | `(tactic| walk_at "dX")=>`(tactic| (try simp -implicitDefEqProofs only [zan,zft,zkY,zlx,ztQ,List.all_cons,List.all_nil,Bool.and_self,znu,zqv,zsL,znU,zja,zuD,zot,zpM,zgb,zfI,zqp,zdp,ztN,zqm,zuI,zuA,zn,zo,dC,dO,dOp,dUn,zE,ze,dCB,zfG,zgD,zfw,dB,zoE,ztl,dOr,zko,zuN,zpp,dIf,zfS,dI,dI0,dIb,dUI,zil,zld,zsk,ztA,ztK,zsw,zsm,zq3,zqc,zqr,zqj,zqq,zpT,znc,zqJ,zqW,zp3,dFd,zoB,zqt,zbB,ze2,dSl,zfz,znt,zp0,zr9,zsn,znB,dI2,zfk,zib,dBM,zsc,zsC,zeJ,zeo,zmn,zuH,zok,znC,zqK,zuB,zaa,zaf,zli,zs7,zsU,ztP,ztT,asL,zq5,zs3,zsO,zsM,ztG,znI,zm5,zqs,zqN,zp4,ztJ,ztC,zmo,zp2,zqe,zqL,zqn,zba,zdu,zhg,zaN,zhL,ziN,zcX,zqo,zqf,zbU,zg4,ziJ,zqV,zbK,zN,zto,zs9,ztu,zsl,zss,zbL,zjY,zeg,zgP,zbd,zp6,zuC,zgN,zkQ,zlt,zlj,ziR,zhC,List.replicate,List.map_cons,List.map_nil,Option.map_some,Option.bind_some,Option.bind_none,Option.join_some,List.getElem?_cons_zero,List.getElem?_cons_succ,List.set_cons_zero,List.set_cons_succ,List.take_succ_cons,List.take_zero,List.take_nil,List.length_cons,List.length_nil,List.nil_append,List.cons_append,Option.some.injEq,exists_eq_left',exists_eq_left,List.cons.injEq,XV.d.injEq,XV.l.injEq,XV.o.injEq,PyData.int.injEq,PyData.list.injEq,PyData.tuple.injEq,PyData.bool.injEq,PyData.str.injEq,and_true,true_and,decide_eq_true_eq,Bool.not_true,Bool.not_false,Bool.false_eq_true,Bool.true_eq_false,not_true_eq_false,not_false_eq_true,↓reduceIte,decide_true,decide_false,Bool.not_eq_true',zpG,decide_eq_false_iff_not,Nat.reduceAdd,Nat.reduceMul,Nat.zero_add,Nat.reduceLT,Nat.reduceLeDiff,Nat.reduceEqDiff,Int.reduceLT,Int.reduceLE,Int.reduceNeg,Int.reducePow,Int.reduceToNat,Int.reduceEq,Int.reduceAdd,Int.reduceSub,Int.reduceMul,Nat.le_refl,Nat.zero_le,List.length_append,List.length_map,zhT,zk0,zsi,zsK,List.isEmpty_nil,List.isEmpty_cons,Int.cast_ofNat_Int,Int.natCast_zero,Int.natCast_one,zni,zlu,zjj,zol,zkG,zjS,zt1,znl]))
local macro_rules | `(tactic| walk_at "e")=>`(tactic| (try simp only [zX,zan,zft,zkY,zlx,ztQ,List.all_cons,List.all_nil,Bool.and_self,znu,zqv,zsL,znU,zja,zpk,zuD,zot,zpM,zgb,zfI,zqp,zdp,ztN,zqm,zuI,zuA,zn,zo,dC,dO,dOp,dUn,zE,ze,dCB,zfG,zgD,zfw,dB,zoE,ztl,dOr,zko,zuN,zpp,dIf,zfS,dI,dI0,dIb,dUI,zil,zld,zsk,ztA,ztK,zsw,zsm,zq3,zqc,zqr,zqj,zqq,zpT,znc,zqJ,zqW,zp3,dFd,zoB,zqt,zbB,ze2,dSl,zfz,znt,zp0,zr9,zsn,znB,dI2,zfk,zib,dBM,zsc,zsC,zeJ,zeo,zmn,zuH,zok,znC,zqK,zuB,zaa,zaf,zli,zs7,zsU,ztP,ztT,asL,zq5,zs3,zsO,zsM,ztG,znI,zm5,zqs,zqN,zp4,ztJ,ztC,zmo,zp2,zqe,zqL,zqn,zba,zdu,zhg,zaN,zhL,ziN,zcX,zqo,zqf,zbU,zg4,ziJ,zqV,zbK,zN,zto,zs9,ztu,zsl,zss,zbL,zjY,zeg,zgP,zbd,zp6,zuC,zgN,zkQ,zlt,zlj,ziR,zhC,List.replicate,List.map_cons,List.map_nil,Option.map_some,Option.bind_some,Option.bind_none,Option.join_some,List.getElem?_cons_zero,List.getElem?_cons_succ,List.set_cons_zero,List.set_cons_succ,List.take_succ_cons,List.take_zero,List.take_nil,List.length_cons,List.length_nil,List.nil_append,List.cons_append,Option.some.injEq,exists_eq_left',exists_eq_left,List.cons.injEq,XV.d.injEq,XV.l.injEq,XV.o.injEq,PyData.int.injEq,PyData.list.injEq,PyData.tuple.injEq,PyData.bool.injEq,PyData.str.injEq,and_true,true_and,decide_eq_true_eq,Bool.not_true,Bool.not_false,Bool.false_eq_true,Bool.true_eq_false,not_true_eq_false,not_false_eq_true,↓reduceIte,decide_true,decide_false,Bool.not_eq_true',zpG,decide_eq_false_iff_not,Nat.reduceAdd,Nat.reduceMul,Nat.zero_add,Nat.reduceLT,Nat.reduceLeDiff,Nat.reduceEqDiff,Int.reduceLT,Int.reduceLE,Int.reduceNeg,Int.reducePow,Int.reduceToNat,Int.reduceEq,Int.reduceAdd,Int.reduceSub,Int.reduceMul,Nat.le_refl,Nat.zero_le,List.length_append,List.length_map,zhT,zk0,zsi,zsK,List.isEmpty_nil,List.isEmpty_cons,Int.cast_ofNat_Int,Int.natCast_zero,Int.natCast_one,zni,zlu,zjj,zol,zkG,zjS,zt1,znl]))
section
variable {R:RX}
theorem zgc{n:Int}(q:∀ m,0<=m->R (.d (.int m)) []):zc1 [.d (.int n)] [] R:=by
 unfold zc1;walk_at "e";have h1:=Int.emod_nonneg (n+7919) (show (2147483647:Int)≠0 by decide);have h2:=Int.emod_lt_of_pos (n+7919) (show (0:Int)<2147483647 by decide);exact⟨zcQ (by omega) (by omega),zcQ (by decide) (by decide),q _ (Int.emod_nonneg _ (by decide))⟩
theorem zG{p:List PyData}{n:Int}(hp:zbo p)(hn:0<n)(hb:n.natAbs.log2<9000)(q:∀ r p',0<=r->r<n->zbo p'->R (.d (.int r)) [p']):zz [.l 0,.d (.int n)] [p] R:=by
 obtain⟨l,g,sd,rfl,hl⟩:=hp;unfold zz;walk_at "e";split
 ·refine⟨hn,.inl ⟨⟨hn,hb⟩,0,rfl,?_⟩⟩;walk_at "e";exact q _ _ (Int.emod_nonneg _ (by omega)) (Int.emod_lt_of_pos _ hn) ⟨_,_,_,rfl,Int.ediv_nonneg hl (by omega)⟩
 ·refine zgc fun m _=>?_;walk_at "e";refine zgc fun m' h'=>?_;walk_at "e";refine⟨2,rfl,?_⟩;walk_at "e";exact .inl ⟨⟨by decide,by decide +kernel⟩,hn,q _ _ (Int.emod_nonneg _ (by omega)) (Int.emod_lt_of_pos _ hn) ⟨_,_,_,rfl,hl⟩⟩
theorem zia{n:Int}(q:∀ p,zbo p->R (.l 0) [p]):zfT [.d (.int n)] [] R:=by
 unfold zfT;walk_at "e";refine⟨⟨by decide,by decide,by decide⟩,?_⟩;refine .inr (q _ ⟨_,_,_,rfl,?_⟩);split <;> omega
theorem zlH{n:Int}(q:∀ p,zbo p->R (.l 0) [p]):zgf [.d (.int n)] [] R:=zia q
theorem zfY{p:List PyData}(hp:zbo p)(q:∀ r p',-10 ^ 58<=r->r<=10 ^ 58->zbo p'->R (.d (.int r)) [p']):zdR [.l 0] [p] R:=by
 unfold zdR;walk_at "e";refine zG hp (by decide) (by decide +kernel) fun r p1 r0 r1 hp1=>?_;walk_at "e";split
 ·refine zG hp1 (by decide) (by decide +kernel) fun r p2 r0 r1 hp2=>?_;walk_at "e";exact q _ _ (by omega) (by omega) hp2
 ·split
  ·refine zG hp1 (by decide) (by decide +kernel) fun r p2 r0 r1 hp2=>?_;walk_at "e";exact q _ _ (by omega) (by omega) hp2
  ·refine⟨⟨by decide,by decide,by decide⟩,zcQ (by decide) (by decide),?_⟩;have k1:(10:Int) ^ 30=1000000000000000000000000000000:=by decide +kernel
   have k2:(10:Int) ^ 28=10000000000000000000000000000:=by decide +kernel
   refine zG hp1 (by decide +kernel) (by decide +kernel) fun r p2 r0 r1 hp2=>?_;walk_at "e"
   try simp only [k1,k2] at r1 ⊢
   refine⟨⟨by decide,by decide,by decide⟩,⟨by decide,by decide,by decide⟩,zmE 128 128 (by omega) (by decide +kernel),q _ _ (by omega) (by omega) hp2⟩
theorem zhW{p:List PyData}(hp:zbo p)(q:∀ r p',-10 ^ 58<=r->r<=10 ^ 58->zbo p'->R (.d (.int r)) [p']):zdU [.l 0] [p] R:=zfY hp q
end
section
variable {R:RX}
theorem zs8{α:Type}[Inhabited α]{l:List α}{i:Int}(h0:0<=i)(h1:i<l.length)(d:α):atI l i=some (l.getD i.toNat d):=by
 obtain⟨k,rfl⟩:=Int.eq_ofNat_of_zero_le h0;have hk:k<l.length:=by omega
 rw [zcW (List.getElem?_eq_getElem hk)];simp [List.getD_eq_getElem?_getD,hk]
theorem zlp:("abcdefghijklmnopqrstuvwxyz":Str).length=26:=by decide
theorem zoG:("abcdefghijklmnopqrstuvwxyz":Str).cps.toList.length=26:=by rw [<- zlp]; simp [Str.length]
theorem ziP:("abcdefghijklmnopqrstuvwxyz":Str).length<=sizeLine:=Nat.le_of_lt (small1000 (by rw [zlp]; decide))
theorem len1(c:Nat):(⟨#[c]⟩:Str).length=1:=rfl
abbrev lsgn (i:Int):Str:=⟨#[("abcdefghijklmnopqrstuvwxyz":Str).cps.toList.getD i.toNat 0]⟩
theorem zmt{i:Int}(h0:0<=i)(h1:i<26):atI ("abcdefghijklmnopqrstuvwxyz":Str).cps.toList i=some (("abcdefghijklmnopqrstuvwxyz":Str).cps.toList.getD i.toNat 0):=zs8 h0 (by rw [zoG]; exact h1) 0
theorem znz{ds:List PyData}{a b:Option Int}{d:PyData}(m:d∈zdP ds a b):d∈ds:=by
 unfold zdP at m;exact List.mem_of_mem_drop (List.mem_of_mem_take m)
def zfQ(z:Str):Bool:=decide (z.length<=100) && PyData.strOk z && !decide (z = "zy")
theorem zsP:∀ f<26,∀ k<8,zfQ (PySem.Txt.mul (lsgn (((f:Nat)+5*(0+((k:Nat):Int))) % 26)) (1+((f:Nat)+3*(0+((k:Nat):Int))) % 8))=true:=by decide +kernel
theorem zsV:∀ f<26,∀ k<8,zfQ (PySem.Txt.slice (PySem.Txt.join "" ((List.range 8).map fun k:Nat=>lsgn (((f:Nat)+7*(0+(k:Int))) % 26))) none (some (0+((k:Nat):Int)+1)))=true:=by decide +kernel
theorem zra{ds:List PyData}(h:∀ d∈ds,∃ z:Str,d=.str z/\zfQ z=true):∃ zs:List Str,ds=zs.map PyData.str/\zs.length=ds.length/\∀ z∈zs,zfQ z=true:=by
 induction ds with
 | nil=>exact⟨[],rfl,rfl,by simp⟩
 | cons d ds ih =>
  obtain⟨z,rfl,hz⟩:=h d List.mem_cons_self;obtain⟨zs,rfl,hl,hzs⟩:=ih fun d m=>h d (List.mem_cons_of_mem _ m);refine⟨z :: zs,rfl,by simp,fun y m=>?_⟩;rcases List.mem_cons.mp m with rfl | m
  ·exact hz
  ·exact hzs y m
theorem zoh(a b:Str):(a++b).length=a.length+b.length:=strLen_append a b
theorem zjF:∀ zs:List Str,(∀ z∈zs,z.length<=1)->(Str.join "" zs).length<=zs.length
 | [],_=>Nat.le_refl 0
 | [a],h=>h a List.mem_cons_self
 | a :: b :: r,h=>by
  show (a ++ "" ++ Str.join "" (b :: r)).length<=_;rw [zoh,zoh];have e:("":Str).length=0:=rfl;have h1:=h a List.mem_cons_self;have h2:=zjF (b :: r) fun z m=>h z (List.mem_cons_of_mem _ m);rw [e];simp only [List.length_cons] at h2 ⊢;omega
def zjI(ds:List PyData):Prop:=∀ d∈ds,∃ z:Str,d=.str z/\zfQ z=true
theorem zkj{ds:List PyData}{a:Int}(h0:0<=a)(h1:a<=ds.length):(zdP ds (some a) none++zdP ds none (some a)).length=ds.length:=by
 obtain⟨k,rfl⟩:=Int.eq_ofNat_of_zero_le h0;have e1:HT.sIx ds.length 0 (some (k:Int))=k:=by rw [HT.sIx_nat]; omega
 have e2:HT.sIx ds.length ds.length (some (k:Int))=k:=by rw [HT.sIx_nat]; omega
 have e3:HT.sIx ds.length ds.length none=ds.length:=rfl;have e4:HT.sIx ds.length 0 none=0:=rfl;unfold zdP;rw [e1,e2,e3,e4,List.length_append,List.length_take,List.length_take,List.length_drop,List.length_drop];omega
def znb:List Str:=["part","gap","cut","a","aa","dear","b","keeps"]
set_option maxHeartbeats 8000000 in
theorem zgl{p:List PyData}(hp:zbo p)(q:∀ (ns:List Str) p',ns.length=8->(∀ z∈ns,zfQ z=true)->zbo p'->R (.d (.list (ns.map PyData.str))) [p']):zez [.l 0] [p] R:=by
 unfold zez;walk_at "dX"
 (refine seq1 ?_; walk_at "dX")
 (refine seq1 ?_; walk_at "dX")
 refine zG hp (by decide) (by decide +kernel) fun way p1 w0 w1 hp1=>?_;walk_at "dX"
 (refine seq1 ?_; walk_at "dX")
 refine zG hp1 (by decide) (by decide +kernel) fun fst p2 f0 f1 hp2=>?_;walk_at "dX";refine cut (fun δ' S'=>∃ (ds:List PyData),zjI ds/\ds.length=8/\S'=[p2,ds]/\δ'=[some (.l 0),some (.d (.str ("abcdefghijklmnopqrstuvwxyz":Str))),some (.d (.int way)),some (.d (.int fst)),some (.l 1),none,none]) (fun N hN=>?_) ?_
 ·walk_at "dX";refine cmp1 (S0:=[p2]) (fun k:Nat=>.str (PySem.Txt.mul (lsgn ((fst+5*(0+k)) % 26)) (1+(fst+3*(0+k)) % 8))) rfl (List.range 8) (by simp) ?_ ?_
  ·intro k mk u acc R' hk;have b1:=Int.emod_nonneg (fst+5*(0+(k:Int))) (show (26:Int)≠0 by decide);have b2:=Int.emod_lt_of_pos (fst+5*(0+(k:Int))) (show (0:Int)<26 by decide);have b3:=Int.emod_nonneg (fst+3*(0+(k:Int))) (show (8:Int)≠0 by decide);have b4:=Int.emod_lt_of_pos (fst+3*(0+(k:Int))) (show (0:Int)<8 by decide);walk_at "dX";refine⟨zcQ (by decide) (by decide),ziP,_,zmt b1 b2,?_⟩;walk_at "dX";refine⟨zcQ (by decide) (by decide),?_⟩;walk_at "dX";exact⟨by rw [len1]; decide,by omega,by omega,hk _⟩
  ·refine hN _ _ ⟨_,?_,by simp,rfl,rfl⟩;intro d m;obtain⟨k,mk,rfl⟩:=List.mem_map.mp m;obtain⟨f,rfl⟩:=Int.eq_ofNat_of_zero_le f0;exact⟨_,rfl,zsP f (by omega) k (List.mem_range.mp mk)⟩
 rintro _ _ ⟨ds,hds,hl,rfl,rfl⟩;refine cut (fun δ' S'=>∃ (ds:List PyData) (T:Sto) (k:Nat) (u:Option XV),zjI ds/\ds.length=8/\T[k]? = some ds/\S'=p2 :: T/\δ'=[some (.l 0),some (.d (.str ("abcdefghijklmnopqrstuvwxyz":Str))),some (.d (.int way)),some (.d (.int fst)),some (.l (k+1)),u,none]) (fun N hN=>?_) ?_
 ·walk_at "dX";split
  ·refine seq1 ?_;walk_at "dX";refine cmp1 (S0:=[p2,ds]) (fun k:Nat=>.str (lsgn ((fst+7*(0+k)) % 26))) rfl (List.range 8) (by simp) ?_ ?_
   ·intro k mk u acc R' hk;have b1:=Int.emod_nonneg (fst+7*(0+(k:Int))) (show (26:Int)≠0 by decide);have b2:=Int.emod_lt_of_pos (fst+7*(0+(k:Int))) (show (0:Int)<26 by decide);walk_at "dX";refine⟨zcQ (by decide) (by decide),ziP,_,zmt b1 b2,?_⟩;exact hk _
   ·walk_at "dX";refine⟨(List.range 8).map fun k:Nat=>lsgn ((fst+7*(0+k)) % 26),by rw [List.map_map]; rfl,by decide,by simp,fun y m=>?_,?_⟩
    ·obtain⟨k,_,rfl⟩:=List.mem_map.mp m;show 1<=1000;decide
    ·have wl:(PySem.Txt.join "" ((List.range 8).map fun k:Nat=>lsgn ((fst+7*(0+k)) % 26))).length<=8*1016:=by
      have:=zpD (y:=("":Str)) (zs:=(List.range 8).map fun k:Nat=>lsgn ((fst+7*(0+k)) % 26)) (by decide) (fun y m=>by
       obtain⟨k,_,rfl⟩:=List.mem_map.mp m;show 1<=1000;decide)
      simpa using this
     have wl':(PySem.Txt.join "" ((List.range 8).map fun k:Nat=>lsgn ((fst+7*(0+k)) % 26))).length<=8:=by
      show (Builtin.Str.glued _ _).length<=_;rw [StrLaws.glued_eq_join];have:=zjF ((List.range 8).map fun k:Nat=>lsgn ((fst+7*(0+k)) % 26)) (fun y m=>by
       obtain⟨k,_,rfl⟩:=List.mem_map.mp m;exact Nat.le_refl 1)
      simpa using this
     walk_at "dX";refine cmp1 (S0:=[p2,ds]) (fun k:Nat=>.str (PySem.Txt.slice (PySem.Txt.join "" ((List.range 8).map fun k:Nat=>lsgn ((fst+7*(0+k)) % 26))) none (some (0+k+1)))) rfl (List.range 8) (by simp) ?_ ?_
     ·intro k mk u acc R' hk;walk_at "dX";exact⟨Nat.le_trans wl (by rw [sizeLine_eq]; decide),hk _⟩
     ·refine hN _ _ ⟨_,[ds,_],1,_,?_,?_,rfl,rfl,rfl⟩
      ·intro d m;obtain⟨k,mk,rfl⟩:=List.mem_map.mp m;obtain⟨f,rfl⟩:=Int.eq_ofNat_of_zero_le f0;exact⟨_,rfl,zsV f (by omega) k (List.mem_range.mp mk)⟩
      ·simp
  ·exact hN _ _ ⟨ds,[ds],0,none,hds,hl,rfl,rfl,rfl⟩
 rintro _ _ ⟨ds,T,k,u,hds,hl,hk,rfl,rfl⟩;refine cut (fun δ' S'=>∃ (ds:List PyData) (T:Sto) (k:Nat),zjI ds/\ds.length=8/\T[k]? = some ds/\S'=p2 :: T/\δ'=[some (.l 0),some (.d (.str ("abcdefghijklmnopqrstuvwxyz":Str))),some (.d (.int way)),some (.d (.int fst)),some (.l (k+1)),u,none]) (fun N hN=>?_) ?_
 ·walk_at "dX";split
  ·refine hN _ _ ⟨znb.map PyData.str,T++[znb.map PyData.str],T.length,?_,rfl,by rw [List.getElem?_concat_length],rfl,rfl⟩;intro d m;obtain⟨z,hz,rfl⟩:=List.mem_map.mp m;refine⟨z,rfl,?_⟩;simp only [znb,List.mem_cons,List.not_mem_nil,or_false] at hz;rcases hz with rfl | rfl | rfl | rfl | rfl | rfl | rfl | rfl <;> decide +kernel
  ·exact hN _ _ ⟨ds,T,k,hds,hl,hk,rfl,rfl⟩
 rintro _ _ ⟨ds,T,k,hds,hl,hk,rfl,rfl⟩
 (refine seq1 ?_; walk_at "dX")
 refine zG hp2 (by decide) (by decide +kernel) fun at' p3 a0 a1 hp3=>?_;walk_at "dX"
 (refine seq1 ?_; walk_at "dX")
 refine⟨ds,hk,ds,hk,?_⟩;have hc:=zkj (ds:=ds) a0 (by omega);rw [List.length_append] at hc;refine⟨by omega,?_⟩;have hk2:(T++[zdP ds (some at') none++zdP ds none (some at')])[T.length]? = some (zdP ds (some at') none++zdP ds none (some at')):=by rw [List.getElem?_concat_length]
 have hs2:zjI (zdP ds (some at') none++zdP ds none (some at')):=fun d m=>(List.mem_append.mp m).elim (fun m=>hds d (znz m)) fun m=>hds d (znz m);have hl2:(zdP ds (some at') none++zdP ds none (some at')).length=8:=by rw [List.length_append]; omega
 generalize zdP ds (some at') none++zdP ds none (some at')=es at hk2 hs2 hl2 ⊢;refine seq1 ?_;walk_at "dX";refine zG hp3 (by decide) (by decide +kernel) fun r p4 r0 r1 hp4=>?_;walk_at "dX";have fin':∀ (fs:List PyData),zjI fs->fs.length=8->R (.d (.list fs)) [p4]:=by
  intro fs h1 h2;obtain⟨zs,rfl,z1,z2⟩:=zra h1;exact q zs p4 (by omega) z2 hp4
 split
 ·refine⟨by simp,es,hk2,?_⟩;walk_at "dX";rw [if_neg (by omega)];refine⟨es.reverse,by simp [zix],.inl (fin' _ (fun d m=>hs2 d (List.mem_reverse.mp m)) (by simpa using hl2))⟩
 ·rw [if_neg (by omega)];exact⟨es,hk2,.inl (fin' _ hs2 hl2)⟩
theorem zi6{p:List PyData}(hp:zbo p)(q:∀ (ns:List Str) p',ns.length=8->(∀ z∈ns,zfQ z=true)->zbo p'->R (.d (.list (ns.map PyData.str))) [p']):zeO [.l 0] [p] R:=zgl hp q
abbrev Part:=Str×Int×Int
def zdM(p:Part):PyData:=.tuple [.str p.1,.int p.2.1,.int p.2.2]
def zcf(ps:List Part):PyData:=.tuple (ps.map zdM)
structure Prt(p:Part):Prop where
 nm:zfQ p.1=true
 le:p.2.1<=p.2.2
 lo:-10 ^ 58<=p.2.1
 hi:p.2.2<=10 ^ 59
structure Drw(ps:List Part):Prop where
 l1:1<=ps.length
 l8:ps.length<=8
 all:∀ p∈ps,Prt p
theorem zcO{α:Type}{f:α->PyData}{l:List α}{k:Nat}{x:α}(e:l[k]? = some x):atI (l.map f) (k:Int)=some (f x):=zcW (by rw [List.getElem?_map,e]; rfl)
end
section
variable {R:RX} {S:Sto}
theorem zqO{a b m:Int}(h1:m∈[a,b])(h2:∀ x,x∈[a,b]->m<=x):m=min a b:=by
 have ha:=h2 a (by simp);have hb:=h2 b (by simp);simp only [List.mem_cons,List.not_mem_nil,or_false] at h1;omega
theorem zqa{a b m:Int}(h1:m∈[a,b])(h2:∀ x,x∈[a,b]->x<=m):m=max a b:=by
 have ha:=h2 a (by simp);have hb:=h2 b (by simp);simp only [List.mem_cons,List.not_mem_nil,or_false] at h1;omega
theorem zve{a b:Int}(q:R (.d (.int (min a b))) S):zj2 [.d (.list [.int a,.int b])] S R:=.inl ⟨_,rfl,[a,b],rfl,by simp,fun m h1 h2=>by rw [zqO h1 h2]; exact q⟩
theorem zu9{a b:Int}(q:R (.d (.int (min a b))) S):zj2 [.d (.tuple [.int a,.int b])] S R:=.inl ⟨_,rfl,[a,b],rfl,by simp,fun m h1 h2=>by rw [zqO h1 h2]; exact q⟩
theorem zvb{a b:Int}(q:R (.d (.int (max a b))) S):zse [.d (.list [.int a,.int b])] S R:=⟨_,rfl,[a,b],rfl,by simp,fun m h1 h2=>by rw [zqa h1 h2]; exact q⟩
theorem zva{a b:Int}(q:R (.d (.int (max a b))) S):zse [.d (.tuple [.int a,.int b])] S R:=⟨_,rfl,[a,b],rfl,by simp,fun m h1 h2=>by rw [zqa h1 h2]; exact q⟩
abbrev Term:=Nat×Int
def tmD(t:Term):PyData:=.tuple [.int t.1,.int t.2]
def zjr(ts:List Term):PyData:=.tuple (ts.map tmD)
structure Gap where
 ts:List Term
 lo:Int
 hi:Int
def zf2(g:Gap):PyData:=.tuple [zjr g.ts,.int g.lo,.int g.hi]
theorem zcG(g:Gap):zf2 g=.tuple [zjr g.ts,.int g.lo,.int g.hi]:=rfl
theorem zfN(t:Term):tmD t=.tuple [.int t.1,.int t.2]:=rfl
theorem zeK(p:Part):zdM p=.tuple [.str p.1,.int p.2.1,.int p.2.2]:=rfl
def zml(ns:List Int):PyData:=.tuple (ns.map PyData.int)
structure Tms(n:Nat)(ts:List Term):Prop where
 ne:ts≠[]
 len:ts.length<=n
 ok:∀ t∈ts,t.1<n/\t.2≠0/\-3<=t.2/\t.2<=3
 srt:ts.Pairwise fun t u=>t.1<u.1
structure Tm3(n:Nat)(ts:List Term):Prop where
 len:ts.length<=100
 ok:∀ t∈ts,t.1<n/\-3<=t.2/\t.2<=3
theorem Tms.tm3{n:Nat}{ts:List Term}(h:Tms n ts)(hn:n<=8):Tm3 n ts:=⟨by have:=h.len; omega,fun t m=>⟨(h.ok t m).1,(h.ok t m).2.2⟩⟩
def worth(ts:List Term)(ns:List Int):Int:=(ts.map fun t=>t.2*ns.getD t.1 0).sum
theorem zmT{ns:List Int}{k:Nat}(h:k<ns.length):ns[k]? = some (ns.getD k 0):=by
 rw [List.getElem?_eq_getElem h,List.getD_eq_getElem?_getD,List.getElem?_eq_getElem h];rfl
def part(ps:List Part)(k:Nat):Part:=ps.getD k ("",0,0)
theorem zbA{ps:List Part}{k:Nat}(h:k<ps.length):ps[k]? = some (part ps k):=by
 unfold part;rw [List.getElem?_eq_getElem h,List.getD_eq_getElem?_getD,List.getElem?_eq_getElem h];rfl
theorem zaZ{ps:List Part}{k:Nat}(h:k<ps.length):part ps k∈ps:=List.mem_of_getElem? (zbA h)
def plo(ps:List Part)(k:Nat):Int:=(part ps k).2.1
def phi(ps:List Part)(k:Nat):Int:=(part ps k).2.2
def tLo(ps:List Part)(t:Term):Int:=min (t.2*plo ps t.1) (t.2*phi ps t.1)
def tHi(ps:List Part)(t:Term):Int:=max (t.2*plo ps t.1) (t.2*phi ps t.1)
def zD(ps:List Part)(ts:List Term):Int:=(ts.map (tLo ps)).sum
def zak(ps:List Part)(ts:List Term):Int:=(ts.map (tHi ps)).sum
theorem zbs{ps:List Part}{t:Term}{ts:List Term}:zD ps (t :: ts)=tLo ps t+zD ps ts:=by simp [zD]
theorem zda{ps:List Part}{t:Term}{ts:List Term}:zak ps (t :: ts)=tHi ps t+zak ps ts:=by simp [zak]
theorem zbP{ns:List Int}{t:Term}{ts:List Term}:worth (t :: ts) ns=t.2*ns.getD t.1 0+worth ts ns:=by simp [worth]
theorem zg0{ps:List Part}{ts:List Term}{i:Nat}{t:Term}(h:ts[i]? = some t):zD ps (ts.take (i+1))=zD ps (ts.take i)+tLo ps t:=by
 unfold zD;rw [List.take_add_one,h];simp
theorem zhs{ps:List Part}{ts:List Term}{i:Nat}{t:Term}(h:ts[i]? = some t):zak ps (ts.take (i+1))=zak ps (ts.take i)+tHi ps t:=by
 unfold zak;rw [List.take_add_one,h];simp
theorem zmj{ns:List Int}{ts:List Term}{i:Nat}{t:Term}(h:ts[i]? = some t):worth (ts.take (i+1)) ns=worth (ts.take i) ns+t.2*ns.getD t.1 0:=by
 unfold worth;rw [List.take_add_one,h];simp
theorem zfa(ps:List Part):∀ ts:List Term,zD ps ts<=zak ps ts
 | []=>by simp [zD,zak]
 | t :: ts=>by
  have:=zfa ps ts;rw [zbs,zda];unfold tLo tHi;omega
theorem zdT{α:Type}{f:α->PyData}{l:List α}{i:Nat}{d:PyData}(h:(l.map f)[i]? = some d):∃ x,l[i]? = some x/\d=f x:=by
 rw [List.getElem?_map] at h;obtain⟨x,e,rfl⟩:=Option.map_eq_some_iff.mp h;exact⟨x,e,rfl⟩
theorem zg6{ps:List Part}{ts:List Term}{t:PyData}(ht:zlm (.d t)=some (ts.map tmD))(h3:Tm3 ps.length ts)(q:R (.d (spD (zD ps ts) (zak ps ts))) []):zfl [.d (zcf ps),.d t] [] R:=by
 unfold zfl zcf;walk_at "d"
 (refine seq1 ?_; walk_at "d")
 (refine seq1 ?_; walk_at "d")
 refine seq1 ?_;walk_at "d";refine⟨_,ht,?_⟩;refine zaY (fun i δ S=>∃ (u1 u2 u3:Option XV),S=[]/\δ=[some (.d (.tuple (ps.map zdM))),some (.d t),some (.d (.int (zD ps (ts.take i)))),some (.d (.int (zak ps (ts.take i)))),u1,u2,u3]) ⟨_,_,_,rfl,rfl⟩ ?_ ?_
 ·rintro i d _ _ N hi ⟨u1,u2,u3,rfl,rfl⟩ hN;obtain⟨t,ht,rfl⟩:=zdT hi;obtain⟨t1,t2,t3⟩:=h3.ok t (List.mem_of_getElem? ht);have ep:=zcO (f:=zdM) (zbA t1);unfold tmD;walk_at "d"
  (refine seq1 ?_; walk_at "d")
  refine⟨_,ep,?_⟩;unfold zdM;walk_at "d";refine⟨zcQ (by omega) (by omega),_,ep,?_⟩;unfold zdM;walk_at "d";refine⟨zcQ (by omega) (by omega),?_⟩
  (refine seq1 ?_; walk_at "d")
  refine zve ?_;walk_at "d";refine zvb ?_;walk_at "d";exact hN _ _ ⟨_,_,_,rfl,by rw [zg0 ht,zhs ht]; rfl⟩
 ·rintro _ _ ⟨u1,u2,u3,rfl,rfl⟩;rw [List.length_map,List.take_length];walk_at "d";exact q
theorem zgi{ps:List Part}{ts:List Term}{t:PyData}(ht:zlm (.d t)=some (ts.map tmD))(h3:Tm3 ps.length ts)(q:R (.d (spD (zD ps ts) (zak ps ts))) []):zeq [.d (zcf ps),.d t] [] R:=zg6 ht h3 q
theorem zoR{ds:List PyData}{r:Int}{P:PyData->Prop}(h0:0<=r)(h1:r<ds.length)(hP:∀ d∈ds,P d):∃ d,atI ds r=some d/\P d:=by
 obtain⟨k,rfl⟩:=Int.eq_ofNat_of_zero_le h0;have hk:k<ds.length:=by omega
 exact⟨ds[k],zcW (List.getElem?_eq_getElem hk),hP _ (List.getElem_mem hk)⟩
theorem zr0(ds:List PyData):PyData.eqv (.list ds) (.list [])=decide (ds=[]):=by
 cases ds with
 | nil=>rfl
 | cons d ds=>rfl
theorem zsh(t:Term):Shp 1 (tmD t):=zkw (zuo zgj zgj)
theorem zlU(ts:List Term):SeqAt.shaped (.list (ts.map tmD))=true:=(ziy (zkm fun t _=>zsh t)).ok
structure GapOk(n:Nat)(g:Gap):Prop where
 ts:Tms n g.ts
 le:g.lo<=g.hi
theorem zuz{g:DG}{te:DE}{fin:Sto->Prop}{α:Type}(F:α->Prop)(f:α->PyData)(P:XE->Prop):∀ (ds:List PyData) (acc:List α) (p:List PyData) (τ:XE),P τ->zbo p->acc.length+ds.length<=1000 ->
  (∀ d∈ds,∀ τ p acc (R:XE->RX),P τ->zbo p->(∀ τ' x p',P τ'->zbo p'->F x->R τ' (.d (f x)) [p',acc])->g (.d d) τ [p,acc] fun τ1 S1=>te τ1 S1 (R τ1)) ->
  (∀ xs p',zbo p'->(∀ x∈xs,F x)->xs.length=ds.length->fin [p',(acc++xs).map f])->zf5 1 g zbd te fin ds τ [p,acc.map f]
 | [],acc,p,τ,_,hp,_,_,h=>by
  have:=h [] p hp (by simp) rfl;rw [List.append_nil] at this;exact this
 | d :: ds,acc,p,τ,hP,hp,hl,el,h=>by
  show g (.d d) τ [p,acc.map f] fun τ1 S1=>zbd τ1 S1 fun b S2=>if b=true then te τ1 S2 fun x S3=>asD x fun e=>∃ acc,S3[1]? = some acc/\acc.length<1000/\zf5 1 g zbd te fin ds τ1 (S3.set 1 (acc++[e])) else zf5 1 g zbd te fin ds τ1 S2
  simp only [zbd,↓reduceIte];rw [List.length_cons] at hl;refine el d List.mem_cons_self τ p (acc.map f) (fun τ1 x S3=>asD x fun e=>∃ acc,S3[1]? = some acc/\acc.length<1000/\zf5 1 g zbd te fin ds τ1 (S3.set 1 (acc++[e]))) hP hp fun τ' x p' hP' hp' hF=>?_;refine⟨acc.map f,rfl,by rw [List.length_map]; omega,?_⟩;have e:([p',acc.map f]:Sto).set 1 (acc.map f++[f x])=[p',(acc++[x]).map f]:=by simp
  rw [e];refine zuz F f P ds (acc++[x]) p' τ' hP' hp' (by rw [List.length_append,List.length_singleton]; omega) (fun e m=>el e (List.mem_cons_of_mem _ m)) fun xs p'' hp'' fs hl=>?_;rw [List.append_assoc];exact h (x :: xs) p'' hp'' (fun y m=>(List.mem_cons.mp m).elim (fun e=>e▸hF) (fs y)) (by simp [hl])
end
section
variable {R:RX} {S:Sto}
theorem zr4{a b c d:Int}(q:R (.d (spD (a+c) (b+d))) []):zkE [.d (spD a b),.d (spD c d)] [] R:=by
 unfold zkE spD;walk_at "e";exact q
theorem ziu{a b n:Int}(h1:-3<=n)(h2:n<=3)(q:R (.d (spD (min (a*n) (b*n)) (max (a*n) (b*n)))) []):zcN [.d (spD a b),.d (.int n)] [] R:=by
 unfold zcN spD;walk_at "e";refine⟨zqF (by omega) (by omega),zqF (by omega) (by omega),?_⟩;refine zu9 ?_;walk_at "e";refine zva ?_;walk_at "e";exact q
theorem zbg{p:Part}(q:R (.d (spD p.2.1 p.2.2)) []):zbE [.d (zdM p)] [] R:=by
 unfold zbE zdM;walk_at "e";exact q
theorem zbX{a b:Int}(q:R (.d (.int (b - a+1))) []):zcM [.d (spD a b)] [] R:=by
 unfold zcM spD;walk_at "e";exact q
theorem zuu{ps:List Part}{t:Term}:min ((part ps t.1).2.1*t.2) ((part ps t.1).2.2*t.2)=tLo ps t:=by
 unfold tLo plo phi;rw [Int.mul_comm t.2,Int.mul_comm t.2]
theorem zuj{ps:List Part}{t:Term}:max ((part ps t.1).2.1*t.2) ((part ps t.1).2.2*t.2)=tHi ps t:=by
 unfold tHi plo phi;rw [Int.mul_comm t.2,Int.mul_comm t.2]
theorem zdc{ps:List Part}{ts:List Term}{t:PyData}(ht:zlm (.d t)=some (ts.map tmD))(h3:Tm3 ps.length ts)(q:R (.d (spD (zD ps ts) (zak ps ts))) []):zaP [.d (zcf ps),.d t] [] R:=by
 unfold zaP zcf;walk_at "d"
 (refine seq1 ?_; walk_at "d")
 refine seq1 ?_;walk_at "d";refine⟨_,ht,?_⟩;refine zaY (fun i δ S=>∃ (u1 u2:Option XV),S=[]/\δ=[some (.d (.tuple (ps.map zdM))),some (.d t),some (.d (spD (zD ps (ts.take i)) (zak ps (ts.take i)))),u1,u2]) ⟨_,_,rfl,rfl⟩ ?_ ?_
 ·rintro i d _ _ N hi ⟨u1,u2,rfl,rfl⟩ hN;obtain⟨t,ht,rfl⟩:=zdT hi;obtain⟨t1,t2,t3⟩:=h3.ok t (List.mem_of_getElem? ht);have ep:=zcO (f:=zdM) (zbA t1);rw [zfN];walk_at "d";refine⟨_,ep,?_⟩;refine zbg ?_;walk_at "d";refine ziu t2 t3 ?_;walk_at "d";refine zr4 ?_;walk_at "d";exact hN _ _ ⟨_,_,rfl,by rw [zg0 ht,zhs ht,<- zuu,<- zuj]⟩
 ·rintro _ _ ⟨u1,u2,rfl,rfl⟩;rw [List.length_map,List.take_length];walk_at "d";exact q
def zc2(ps:List Part):List Int:=ps.map fun p=>p.2.1
theorem zhG{ps:List Part}{k:Nat}(h:k<ps.length):(zc2 ps).getD k 0=plo ps k:=by
 unfold zc2 plo;rw [List.getD_eq_getElem?_getD,List.getElem?_map,zbA h];rfl
theorem zjm{ps:List Part}(hl:ps.length<=100)(q:R (.d (zml (zc2 ps))) []):zdy [.d (zcf ps)] [] R:=by
 unfold zdy zcf;walk_at "e";refine cmp1 (S0:=[]) (fun p:Part=>.int p.2.1) rfl ps (by omega) ?_ ?_
 ·intro p mp u acc R' hk;rw [zeK];walk_at "e";exact hk _
 ·walk_at "e";have e:zml (zc2 ps)=.tuple (ps.map fun p:Part=>PyData.int p.2.1):=by
   unfold zml zc2;rw [List.map_map];rfl
  rw [e] at q;exact q
theorem zkC{g:Gap}{ns:List Int}(h3:Tm3 ns.length g.ts)(q:R (.d (.int (worth g.ts ns))) []):zen [.d (zf2 g),.d (zml ns)] [] R:=by
 unfold zen zml;rw [zcG,zjr];walk_at "e";refine cmp2 (S0:=[]) (fun t:Term=>.int (t.2*ns.getD t.1 0)) rfl g.ts (by have:=h3.len; omega) ?_ ?_
 ·intro t mt u v acc R' hk;obtain⟨t1,t2,t3⟩:=h3.ok t mt;have e:=zcO (f:=PyData.int) (zmT t1);rw [zfN];walk_at "e";refine⟨_,e,?_⟩;walk_at "e";exact⟨zcQ (by omega) (by omega),hk _ _⟩
 ·walk_at "e";refine⟨g.ts.map fun t:Term=>t.2*ns.getD t.1 0,by rw [List.map_map]; rfl,q⟩
def zmY(g:Gap)(ns:List Int):Bool:=decide (g.lo<=worth g.ts ns/\worth g.ts ns<=g.hi)
theorem zoM{g:Gap}{ns:List Int}(h3:Tm3 ns.length g.ts)(q:R (.d (.bool (zmY g ns))) []):ziz [.d (zf2 g),.d (zml ns)] [] R:=by
 unfold ziz;walk_at "e";rw [zcG];walk_at "e";rw [<- zcG];refine zkC h3 ?_;walk_at "e";unfold zmY at q;by_cases h:g.lo<=worth g.ts ns
 ·simp only [h,true_and] at q;rw [if_pos h];exact q
 ·simp only [h,false_and,decide_false] at q;rw [if_neg h];exact q
def zt4(a t:Int):Int:=-(a / (-t))
theorem zhf{a t:Int}(h1:-3<=t)(h2:t<0)(q:R (.d (.int (zt4 a t))) []):zbb [.d (.int a),.d (.int t)] [] R:=by
 unfold zbb;walk_at "e";refine .inr ⟨⟨by omega,by omega⟩,?_⟩;have e:(-a).fdiv t=a / (-t):=by
  have h:=Int.neg_fdiv_neg a (-t);rw [Int.neg_neg] at h;rw [h,Int.fdiv_eq_ediv_of_nonneg _ (by omega)]
 rw [e];exact q
structure InBox(ps:List Part)(ns:List Int):Prop where
 len:ns.length=ps.length
 ok:∀ k,k<ps.length->plo ps k<=ns.getD k 0/\ns.getD k 0<=phi ps k
def Ord(ps:List Part):Prop:=∀ p∈ps,p.2.1<=p.2.2
theorem Drw.ord{ps:List Part}(h:Drw ps):Ord ps:=fun p m=>(h.all p m).le
theorem Ord.at{ps:List Part}(h:Ord ps){k:Nat}(hk:k<ps.length):plo ps k<=phi ps k:=h _ (zaZ hk)
theorem zrX{ps:List Part}{t:Term}(o:plo ps t.1<=phi ps t.1)(h1:-3<=t.2)(h2:t.2<0):tLo ps t=t.2*phi ps t.1:=by
 unfold tLo;have:t.2 = -3\/t.2 = -2\/t.2 = -1:=by omega
 rcases this with e | e | e <;> rw [e] <;> omega
theorem zrp{ps:List Part}{t:Term}(o:plo ps t.1<=phi ps t.1)(h1:t.2<=3)(h2:0<=t.2):tLo ps t=t.2*plo ps t.1:=by
 unfold tLo;have:t.2=0\/t.2=1\/t.2=2\/t.2=3:=by omega
 rcases this with e | e | e | e <;> rw [e] <;> omega
theorem zkI:∀ {a b:List Int},a.length=b.length->HT.lexLt a b=true->∃ k,k<a.length/\(∀ j,j<k->a.getD j 0=b.getD j 0)/\a.getD k 0<b.getD k 0
 | [],[],_,h=>by cases h
 | [],_ :: _,h,_=>by simp at h
 | _ :: _,[],h,_=>by simp at h
 | x :: xs,y :: ys,hl,h=>by
  rw [HT.lexLt_cons] at h;by_cases e:x=y
  ·subst e;rw [if_pos rfl] at h;obtain⟨k,h1,h2,h3⟩:=zkI (by simpa using hl) h;refine⟨k+1,by simp; omega,fun j hj=>?_,by simpa using h3⟩;cases j with
   | zero=>rfl
   | succ j=>simpa using h2 j (by omega)
  ·rw [if_neg e] at h;exact⟨0,by simp,fun j hj=>by omega,by simpa using h⟩
def zuE:Option (List Int)->PyData
 | none=>.none
 | some ns=>zml ns
theorem zrl{n k:Nat}(h:k<n):ixN n (k:Int)=some k:=by
 unfold ixN;rw [if_pos (by omega),if_pos (by omega)];simp
theorem zlz{α:Type}{f:α->PyData}{ts:List α}{i:Nat}(il:i<ts.length):zdP (ts.map f) (some ((i:Int)+1)) none=(ts.drop (i+1)).map f:=by
 have ei:(i:Int)+1=((i+1:Nat):Int):=by omega
 unfold zdP;have e1:HT.sIx ts.length ts.length none=ts.length:=rfl;rw [List.length_map,ei,e1,HT.sIx_nat,Nat.min_eq_left il,List.take_of_length_le (by simp),List.map_drop]
theorem zjN{n i:Nat}(il:i<n):¬ (HT.sIx n 0 (some ((i:Int)+1))=0/\HT.sIx n n none=n):=fun z=>by
 have ei:(i:Int)+1=((i+1:Nat):Int):=by omega
 have:=z.1;rw [ei,HT.sIx_nat] at this;omega
theorem zcm{l:List Int}{k:Nat}{x:Int}(h:k<l.length):(l.set k x).getD k 0=x:=by
 rw [List.getD_eq_getElem?_getD,List.getElem?_set_self h];rfl
theorem zeM{l:List Int}{k j:Nat}{x:Int}(h:k≠j):(l.set k x).getD j 0=l.getD j 0:=by
 rw [List.getD_eq_getElem?_getD,List.getD_eq_getElem?_getD,List.getElem?_set_ne h]
def opp(ts:List Term):List Term:=ts.map fun t=>(t.1,-t.2)
theorem zmV{n:Nat}{ts:List Term}(h:Tms n ts):Tms n (opp ts) where
 ne:=by unfold opp; simp [h.ne]
 len:=by unfold opp; rw [List.length_map]; exact h.len
 ok:=fun t m=>by
  obtain⟨u,mu,rfl⟩:=List.mem_map.mp m;obtain⟨a,b,c,d⟩:=h.ok u mu;exact⟨a,by simp only; omega,by simp only; omega,by simp only; omega⟩
 srt:=by
  unfold opp;rw [List.pairwise_map];exact h.srt
theorem zjh{ns:List Int}:∀ ts:List Term,worth (opp ts) ns = - worth ts ns
 | []=>rfl
 | t :: ts=>by
  have e:opp (t :: ts)=(t.1,-t.2) :: opp ts:=rfl;rw [e,zbP,zbP,zjh ts];simp only [Int.neg_mul];omega
end
section
variable {R:RX} {S:Sto}
theorem Tms.tm3'{n:Nat}{ts:List Term}(h:Tms n ts)(hn:n<=100):Tm3 n ts:=⟨by have:=h.len; omega,fun t m=>⟨(h.ok t m).1,(h.ok t m).2.2⟩⟩
end
section
variable {R:RX} {S:Sto}
def rng(lo:Int)(n:Nat):List Int:=(List.range n).map fun k:Nat=>lo+k
theorem zmJ{lo x:Int}{n:Nat}:x∈rng lo n↔lo<=x/\x<lo+n:=by
 unfold rng;rw [List.mem_map];constructor
 ·rintro⟨k,hk,rfl⟩;have:=List.mem_range.mp hk;omega
 ·rintro⟨h1,h2⟩;exact⟨(x - lo).toNat,List.mem_range.mpr (by omega),by omega⟩
theorem zl9(lo:Int)(n:Nat):(rng lo n).Pairwise (· < ·):=by
 unfold rng;rw [List.pairwise_map];exact List.pairwise_lt_range.imp fun h=>by omega
def ztm(p:Part):List Int:=rng p.2.1 (p.2.2 - p.2.1+1).toNat
def zj4:List Part->List (List Int)
 | []=>[[]]
 | p :: ps=>(ztm p).flatMap fun x=>(zj4 ps).map (x :: ·)
def ext(found:List (List Int))(p:Part):List (List Int):=found.flatMap fun a=>(ztm p).map fun x=>a++[x]
theorem znL{ms:List Int}:InBox [] ms↔ms=[]:=⟨fun h=>List.eq_nil_of_length_eq_zero h.len,fun h=>by subst h; exact⟨rfl,fun k hk=>by simp at hk⟩⟩
theorem zjB{p:Part}{ps:List Part}{k:Nat}:part (p :: ps) (k+1)=part ps k:=by simp [part]
theorem zlY{p:Part}{ps:List Part}{ms:List Int}:InBox (p :: ps) ms↔∃ x t,ms=x :: t/\p.2.1<=x/\x<=p.2.2/\InBox ps t:=by
 constructor
 ·intro h;cases ms with
  | nil=>have:=h.len; simp at this
  | cons x t =>
   have h0:=h.ok 0 (by simp);refine⟨x,t,rfl,h0.1,h0.2,by have:=h.len; simpa using this,fun k hk=>?_⟩;have:=h.ok (k+1) (by simpa using hk);unfold plo phi at this ⊢;rw [zjB] at this;simpa using this
 ·rintro⟨x,t,rfl,h1,h2,h3⟩;refine⟨by simp [h3.len],fun k hk=>?_⟩;cases k with
  | zero=>exact⟨h1,h2⟩
  | succ k =>
   have:=h3.ok k (by simpa using hk);unfold plo phi at this ⊢;rw [zjB];simpa using this
theorem zcR:∀ {ps:List Part} {ms:List Int},ms∈zj4 ps↔InBox ps ms
 | [],ms=>by rw [znL]; simp [zj4]
 | p :: ps,ms=>by
  rw [zlY,zj4,List.mem_flatMap];constructor
  ·rintro⟨x,hx,h⟩;obtain⟨t,ht,rfl⟩:=List.mem_map.mp h;unfold ztm at hx;rw [zmJ] at hx;exact⟨x,t,rfl,by omega,by omega,zcR.mp ht⟩
  ·rintro⟨x,t,rfl,h1,h2,h3⟩;exact⟨x,by unfold ztm; rw [zmJ]; omega,List.mem_map.mpr ⟨t,zcR.mpr h3,rfl⟩⟩
theorem zcH:∀ ps:List Part,(zj4 ps).Pairwise fun a b=>HT.lexLt a b=true
 | []=>by simp [zj4]
 | p :: ps=>by
  rw [zj4,List.pairwise_flatMap];refine⟨fun x _=>?_,?_⟩
  ·rw [List.pairwise_map];refine(zcH ps).imp fun {a b} h=>?_;rw [HT.lexLt_cons,if_pos rfl];exact h
  ·refine(zl9 _ _).imp fun {x y} h a ha b hb=>?_;obtain⟨t,_,rfl⟩:=List.mem_map.mp ha;obtain⟨u,_,rfl⟩:=List.mem_map.mp hb;rw [HT.lexLt_cons,if_neg (by omega)];simpa using h
def zgY:List Nat->Nat
 | []=>1
 | x :: xs=>x*zgY xs
def zbn(ps:List Part):Nat:=zgY (ps.map fun p=>(p.2.2 - p.2.1+1).toNat)
theorem ziQ:∀ {l:List Nat},(∀ x∈l,1<=x)->1<=zgY l
 | [],_=>Nat.le_refl _
 | x :: l,h=>Nat.mul_le_mul (h x List.mem_cons_self) (ziQ fun y m=>h y (List.mem_cons_of_mem _ m))
theorem zjK{ps:List Part}(ho:Ord ps):1<=zbn ps:=ziQ fun x m=>by
 obtain⟨p,mp,rfl⟩:=List.mem_map.mp m;have:=ho p mp;omega
theorem zfL:∀ (a b:List Nat),zgY (a++b)=zgY a*zgY b
 | [],b=>by simp [zgY]
 | x :: a,b=>by simp [zgY,zfL a b,Nat.mul_assoc]
theorem zir{α:Type}{l:List α}{i:Nat}{x:α}(h:l[i]? = some x):l.take (i+1)=l.take i++[x]:=by rw [List.take_add_one,h]; rfl
end
section
variable {R:RX} {S:Sto}
theorem zgx{g:Gap}{ns:List Int}(h3:Tm3 ns.length g.ts)(q:R (.d (.int (worth g.ts ns))) []):zex [.d (zf2 g),.d (zml ns)] [] R:=by
 unfold zex zml;rw [zcG,zjr];walk_at "d"
 (refine seq1 ?_; walk_at "d")
 refine seq1 ?_;walk_at "d";refine zaY (fun i δ S=>∃ (u1 u2:Option XV),S=[]/\δ=[some (.d (.tuple [.tuple (g.ts.map tmD),.int g.lo,.int g.hi])),some (.d (.tuple (ns.map PyData.int))),some (.d (.int (worth (g.ts.take i) ns))),u1,u2]) ⟨_,_,rfl,rfl⟩ ?_ ?_
 ·rintro i d _ _ N hi ⟨u1,u2,rfl,rfl⟩ hN;obtain⟨t,ht,rfl⟩:=zdT hi;obtain⟨t1,t2,t3⟩:=h3.ok t (List.mem_of_getElem? ht);have e:=zcO (f:=PyData.int) (zmT t1);rw [zfN];walk_at "d";refine⟨_,e,?_⟩;walk_at "d";exact⟨zcQ (by omega) (by omega),hN _ _ ⟨_,_,rfl,by rw [zmj ht]⟩⟩
 ·rintro _ _ ⟨u1,u2,rfl,rfl⟩;rw [List.length_map,List.take_length];walk_at "d";exact q
theorem zje{g:Gap}{ns:List Int}(h3:Tm3 ns.length g.ts)(q:R (.d (.int (worth g.ts ns))) []):zeT [.d (zf2 g),.d (zml ns)] [] R:=zgx h3 q
end
section
variable {R:RX} {S:Sto}
def room(ps:List Part)(ts:List Term)(k:Nat):Int:=(ts.map fun t=>if t.2.natAbs=k then (part ps t.1).2.2 - (part ps t.1).2.1 else 0).sum
def zor(ps:List Part)(ts:List Term):PyData:=.list [.int (room ps ts 0),.int (room ps ts 1),.int (room ps ts 2),.int (room ps ts 3)]
theorem zbR{ps:List Part}(ho:Ord ps)(k:Nat):∀ {ts:List Term},(∀ t∈ts,t.1<ps.length)->0<=room ps ts k
 | [],_=>by simp [room]
 | t :: ts,h=>by
  have ih:=zbR ho k (ts:=ts) fun u m=>h u (List.mem_cons_of_mem _ m);have:=ho _ (zaZ (h t List.mem_cons_self));simp only [room,List.map_cons,List.sum_cons] at ih ⊢;split <;> omega
def Can(s1 s2 s3 r:Int):Prop:=∃ a b c,0<=a/\a<=s1/\0<=b/\b<=s2/\0<=c/\c<=s3/\r=a+2*b+3*c
def few0(s1 s2 r:Int):Int:=if (r - (s1+2*s2)+2) / 3>0 then (r - (s1+2*s2)+2) / 3 else 0
def few(s1 s2 r:Int):Int:=if s1=0/\(r - few0 s1 s2 r) % 2=1 then few0 s1 s2 r+1 else few0 s1 s2 r
def zsf(s1 s2 s3 r:Int):Bool:=decide (few s1 s2 r<=if r / 3<s3 then r / 3 else s3)
theorem zgr{s1 s2 s3 r:Int}(h1:0<=s1)(h2:0<=s2)(h3:0<=s3):zsf s1 s2 s3 r=true↔Can s1 s2 s3 r:=by
 unfold zsf;rw [decide_eq_true_eq];have e0:few0 s1 s2 r=max 0 ((r - (s1+2*s2)+2) / 3):=by unfold few0; split <;> (clear h3 h2 h1; omega)
 have em:(if r / 3<s3 then r / 3 else s3)=min (r / 3) s3:=by split <;> (clear e0 h3 h2 h1; omega)
 rw [em];constructor
 ·intro h;by_cases hs:s1=0
  ·have hp:(r - few s1 s2 r) % 2=0/\few0 s1 s2 r<=few s1 s2 r:=by
    unfold few;split <;> (clear h em e0 h3 h2 h1; omega)
   refine⟨0,(r - 3*few s1 s2 r) / 2,few s1 s2 r,by clear hp hs h em e0 h3 h2 h1; omega,by clear hp hs h em e0 h3 h2; omega,by clear hp hs em e0 h3 h2 h1; omega,by clear h em h3 h2 h1; omega,by clear hs h em h3 h2 h1; omega,by clear hp hs em e0 h3 h2 h1; omega,by clear hs h em e0 h3 h2 h1; omega⟩
  ·have hf:few s1 s2 r=few0 s1 s2 r:=by
    unfold few;rw [if_neg (fun z=>hs z.1)]
   rw [hf] at h;refine⟨(r - 3*few0 s1 s2 r) - 2*min s2 ((r - 3*few0 s1 s2 r) / 2),min s2 ((r - 3*few0 s1 s2 r) / 2),few0 s1 s2 r,by clear hf hs h em e0 h3 h2 h1; omega,by clear hf h em h3 h2; omega,by clear hf hs em e0 h3 h1; omega,by clear hf hs h em e0 h3 h2 h1; omega,by clear hf hs h em h3 h2 h1; omega,by clear hf hs em e0 h3 h2 h1; omega,by clear hf hs h em e0 h3 h2 h1; omega⟩
 ·rintro⟨a,b,c,ha,ha',hb,hb',hc,hc',e⟩;unfold few;split
  ·rename_i z
   (clear em h3 h2 h1; omega)
  ·(clear em h3 h2 h1; omega)
theorem Can.flip{s1 s2 s3 r:Int}(h:Can s1 s2 s3 r):Can s1 s2 s3 (s1+2*s2+3*s3 - r):=by
 obtain⟨a,b,c,ha,ha',hb,hb',hc,hc',e⟩:=h;exact⟨s1 - a,s2 - b,s3 - c,by omega,by omega,by omega,by omega,by omega,by omega,by omega⟩
theorem zij{ps:List Part}(ho:Ord ps):∀ {ts:List Term},(∀ t∈ts,t.1<ps.length/\-3<=t.2/\t.2<=3)->zak ps ts - zD ps ts=room ps ts 1+2*room ps ts 2+3*room ps ts 3
 | [],_=>by simp [room,zD,zak]
 | t :: ts,h=>by
  have ih:=zij ho (ts:=ts) fun u m=>h u (List.mem_cons_of_mem _ m);obtain⟨t1,t2,t3⟩:=h t List.mem_cons_self;have o:=ho _ (zaZ t1);simp only [room,zD,zak,List.map_cons,List.sum_cons] at ih ⊢;have e:tHi ps t - tLo ps t=(if t.2.natAbs=1 then (part ps t.1).2.2 - (part ps t.1).2.1 else 0)+2*(if t.2.natAbs=2 then (part ps t.1).2.2 - (part ps t.1).2.1 else 0)+3*(if t.2.natAbs=3 then (part ps t.1).2.2 - (part ps t.1).2.1 else 0):=by
   unfold tHi tLo plo phi;generalize (part ps t.1).2.1=lo at o ⊢;generalize (part ps t.1).2.2=hi at o ⊢;have:t.2 = -3\/t.2 = -2\/t.2 = -1\/t.2=0\/t.2=1\/t.2=2\/t.2=3:=by clear o t1 ih; omega
   rcases this with e | e | e | e | e | e | e <;> rw [e] <;> simp <;> (clear e t3 t2 t1 ih; omega)
  (clear o t3 t2 t1; omega)
theorem zjp{ps:List Part}{ns:List Int}(hb:∀ j,j<ps.length->(part ps j).2.1<=ns.getD j 0/\ns.getD j 0<=(part ps j).2.2):∀ {ts:List Term},(∀ t∈ts,t.1<ps.length/\-3<=t.2/\t.2<=3)->Can (room ps ts 1) (room ps ts 2) (room ps ts 3) (worth ts ns - zD ps ts)
 | [],_=>⟨0,0,0,by simp [room,worth,zD]⟩
 | t :: ts,h=>by
  obtain⟨a,b,c,ha,ha',hb',hb'',hc,hc',e⟩:=zjp hb (ts:=ts) fun u m=>h u (List.mem_cons_of_mem _ m);obtain⟨t1,t2,t3⟩:=h t List.mem_cons_self;obtain⟨o1,o2⟩:=hb _ t1;simp only [room,worth,zD,List.map_cons,List.sum_cons] at ha' hb'' hc' e ⊢;have et:∃ y,t.2*ns.getD t.1 0 - tLo ps t=t.2.natAbs*y/\0<=y/\y<=(part ps t.1).2.2 - (part ps t.1).2.1:=by
   unfold tLo plo phi;generalize (part ps t.1).2.1=lo at o1 o2 ⊢;generalize (part ps t.1).2.2=hi at o1 o2 ⊢;generalize ns.getD t.1 0=x at o1 o2 ⊢;by_cases hs:t.2<0
   ·refine⟨hi - x,?_,by omega,by omega⟩;have:t.2 = -3\/t.2 = -2\/t.2 = -1:=by omega
    rcases this with e | e | e <;> rw [e] <;> simp <;> omega
   ·refine⟨x - lo,?_,by omega,by omega⟩;have:t.2=0\/t.2=1\/t.2=2\/t.2=3:=by omega
    rcases this with e | e | e | e <;> rw [e] <;> simp <;> omega
  obtain⟨y,ey,y0,y1⟩:=et;have:t.2.natAbs=0\/t.2.natAbs=1\/t.2.natAbs=2\/t.2.natAbs=3:=by omega
  rcases this with z | z | z | z <;> simp only [z,↓reduceIte,Nat.reduceEqDiff,Int.natCast_zero,Int.natCast_one,reduceCtorEq] at ey ⊢
  ·exact⟨a,b,c,by omega,by first | omega | (simp; omega),by omega,by first | omega | (simp; omega),by omega,by first | omega | (simp; omega),by omega⟩
  ·exact⟨a+y,b,c,by omega,by first | omega | (simp; omega),by omega,by first | omega | (simp; omega),by omega,by first | omega | (simp; omega),by omega⟩
  ·exact⟨a,b+y,c,by omega,by first | omega | (simp; omega),by omega,by first | omega | (simp; omega),by omega,by first | omega | (simp; omega),by omega⟩
  ·exact⟨a,b,c+y,by omega,by first | omega | (simp; omega),by omega,by first | omega | (simp; omega),by omega,by first | omega | (simp; omega),by omega⟩
theorem znX{ps:List Part}{ts:List Term}{i:Nat}{t:Term}(ht:ts[i]? = some t)(k:Nat):room ps (ts.take (i+1)) k=room ps (ts.take i) k+if t.2.natAbs=k then (part ps t.1).2.2 - (part ps t.1).2.1 else 0:=by
 unfold room;rw [List.take_add_one,ht];simp
theorem Tm3.in{n:Nat}{ts:List Term}(h:Tm3 n ts):∀ t∈ts,t.1<n:=fun t m=>(h.2 t m).1
theorem zpr{ps:List Part}{g:Gap}(h3:Tm3 ps.length g.ts)(q:R (.d (spD (zD ps g.ts) (zak ps g.ts))) []):zim [.d (zcf ps),.d (zf2 g)] [] R:=by
 unfold zim;rw [zcG];walk_at "d";refine zdc rfl h3 ?_;walk_at "d";exact q
theorem zj0{ps:List Part}{ts:List Term}{t:PyData}(ht:zlm (.d t)=some (ts.map tmD))(h3:Tm3 ps.length ts)(q:R (.d (zor ps ts)) []):zer [.d (zcf ps),.d t] [] R:=by
 unfold zer;rw [zcf];walk_at "d"
 (refine seq1 ?_; walk_at "d")
 refine seq1 ?_;walk_at "d";refine⟨_,ht,?_⟩;refine zaY (fun i δ S=>∃ (u1 u2:Option XV),S=[[.int (room ps (ts.take i) 0),.int (room ps (ts.take i) 1),.int (room ps (ts.take i) 2),.int (room ps (ts.take i) 3)]]/\δ=[some (.d (.tuple (ps.map zdM))),some (.d t),some (.l 0),u1,u2]) ⟨_,_,rfl,rfl⟩ ?_ ?_
 ·rintro i d _ _ N hi ⟨u1,u2,rfl,rfl⟩ hN;obtain⟨t,ht,rfl⟩:=zdT hi;obtain⟨t1,t2,t3⟩:=h3.ok t (List.mem_of_getElem? ht);have ep:=zcO (f:=zdM) (zbA t1);rw [zfN];walk_at "d";have ea:(if t.2<0 then -t.2 else t.2)=(t.2.natAbs:Int):=by split <;> (clear t3 t2 t1; omega)
  try rw [ea]
  have hN':=fun S' e=>hN [some (.d (.tuple (ps.map zdM))),_,some (.l 0),some (.d (.int t.1)),some (.d (.int t.2))] S' ⟨_,_,e,rfl⟩;simp only [znX ht] at hN';have fin':∀ (k:Nat),t.2.natAbs=k->k<=3->∀ (N2:RX),(∀ v:Int,[PyData.int (room ps (ts.take i) 0),PyData.int (room ps (ts.take i) 1),PyData.int (room ps (ts.take i) 2),PyData.int (room ps (ts.take i) 3)][k]? = some (.int v)->True)->True:=fun _ _ _ _ _=>trivial;have:t.2.natAbs=0\/t.2.natAbs=1\/t.2.natAbs=2\/t.2.natAbs=3:=by clear ea t1; omega
  rcases this with z | z | z | z <;> rw [z] at hN' ⊢
  ·refine⟨_,rfl,_,ep,zbg ?_⟩;walk_at "d";refine zbX ?_;walk_at "d";refine⟨0,rfl,hN' _ ?_⟩;simp
   (clear z ea t3 t2 t1; omega)
  ·refine⟨_,rfl,_,ep,zbg ?_⟩;walk_at "d";refine zbX ?_;walk_at "d";refine⟨1,rfl,hN' _ ?_⟩;simp
   (clear z ea t3 t2 t1; omega)
  ·refine⟨_,rfl,_,ep,zbg ?_⟩;walk_at "d";refine zbX ?_;walk_at "d";refine⟨2,rfl,hN' _ ?_⟩;simp
   (clear z ea t3 t2 t1; omega)
  ·refine⟨_,rfl,_,ep,zbg ?_⟩;walk_at "d";refine zbX ?_;walk_at "d";refine⟨3,rfl,hN' _ ?_⟩;simp
   (clear z ea t3 t2 t1; omega)
 ·rintro _ _ ⟨u1,u2,rfl,rfl⟩;rw [List.length_map,List.take_length];walk_at "d";exact .inl q
theorem zkB{s0 s1 s2 s3 r:Int}(q:R (.d (.bool (zsf s1 s2 s3 r))) []):zei [.d (.list [.int s0,.int s1,.int s2,.int s3]),.d (.int r)] [] R:=by
 unfold zei;walk_at "e";refine⟨zcQ (by decide) (by decide),.inl ⟨⟨by decide,by decide +kernel⟩,?_⟩⟩;unfold zsf few few0 at q;by_cases h1:s1=0
 ·by_cases h2:(r - if (r - (s1+2*s2)+2) / 3>0 then (r - (s1+2*s2)+2) / 3 else 0) % 2=1
  ·rw [if_pos ⟨h1,h2⟩] at q;rw [if_pos h1,if_pos h2];exact .inl ⟨⟨by decide,by decide +kernel⟩,q⟩
  ·rw [if_neg (fun z=>h2 z.2)] at q;rw [if_pos h1,if_neg h2];exact .inl ⟨⟨by decide,by decide +kernel⟩,q⟩
 ·rw [if_neg (fun z=>h1 z.1)] at q;rw [if_neg h1];exact .inl ⟨⟨by decide,by decide +kernel⟩,q⟩
theorem zjv{ps:List Part}(ho:Ord ps):∀ {ts:List Term} {r:Int},Tm3 ps.length ts->(ts.Pairwise fun t u=>t.1<u.1)->Can (room ps ts 1) (room ps ts 2) (room ps ts 3) r->∃ ms,InBox ps ms/\worth ts ms=zD ps ts+r
 | [],r,_,_,⟨a,b,c,ha,ha',hb,hb',hc,hc',e⟩=>by
  simp [room] at ha' hb' hc';refine⟨zc2 ps,⟨by simp [zc2],fun k hk=>?_⟩,by simp [worth,zD]; omega⟩;rw [zhG hk];exact⟨Int.le_refl _,ho.at hk⟩
 | t :: ts,r,h3,hs,⟨a,b,c,ha,ha',hb,hb',hc,hc',e⟩=>by
  obtain⟨t1,t2,t3⟩:=h3.ok t List.mem_cons_self;have o:=ho.at t1;have h3':Tm3 ps.length ts:=⟨by have:=h3.len; simp at this; omega,fun u m=>h3.ok u (List.mem_cons_of_mem _ m)⟩;have n1:=zbR ho 1 h3'.in;have n2:=zbR ho 2 h3'.in;have n3:=zbR ho 3 h3'.in;have key:∃ y,0<=y/\y<=phi ps t.1 - plo ps t.1/\Can (room ps ts 1) (room ps ts 2) (room ps ts 3) (r - t.2.natAbs*y):=by
   simp only [room,List.map_cons,List.sum_cons] at ha' hb' hc' n1 n2 n3 ⊢;unfold plo phi at o ⊢;generalize (part ps t.1).2.2=hi at *;generalize (part ps t.1).2.1=lo at *;have:t.2.natAbs=0\/t.2.natAbs=1\/t.2.natAbs=2\/t.2.natAbs=3:=by omega
   rcases this with z | z | z | z <;> simp only [z,↓reduceIte,Nat.reduceEqDiff,Int.natCast_zero,Int.natCast_one,reduceCtorEq] at ha' hb' hc' ⊢
   ·exact⟨0,by omega,by omega,a,b,c,ha,by omega,hb,by omega,hc,by omega,by omega⟩
   ·exact⟨min a (hi - lo),by omega,by omega,a - min a (hi - lo),b,c,by omega,by omega,hb,by omega,hc,by omega,by omega⟩
   ·exact⟨min b (hi - lo),by omega,by omega,a,b - min b (hi - lo),c,ha,by omega,by omega,by omega,hc,by omega,by omega⟩
   ·exact⟨min c (hi - lo),by omega,by omega,a,b,c - min c (hi - lo),ha,by omega,hb,by omega,by omega,by omega,by omega⟩
  obtain⟨y,y0,y1,hcan⟩:=key;obtain⟨ms,hb,hw⟩:=zjv ho (ts:=ts) h3' (List.pairwise_cons.mp hs).2 hcan;have hl:=hb.len;have wx:∀ x,worth ts (ms.set t.1 x)=worth ts ms:=by
   intro x;unfold worth;congr 1;refine List.map_congr_left fun u mu=>?_;have:=(List.pairwise_cons.mp hs).1 u mu;rw [zeM (by omega)]
  have ix:∀ x,plo ps t.1<=x->x<=phi ps t.1->InBox ps (ms.set t.1 x):=fun x x1 x2=>⟨by simpa using hl,fun k hk=>by
   by_cases e:t.1=k
   ·subst e;rw [zcm (by omega)];exact⟨x1,x2⟩
   ·rw [zeM e];exact hb.ok k hk⟩
  by_cases hneg:t.2<0
  ·refine⟨ms.set t.1 (phi ps t.1 - y),ix _ (by omega) (by omega),?_⟩;rw [zbP,wx,zbs,zcm (by omega),hw,zrX o t2 hneg];have:(t.2.natAbs:Int) = -t.2:=by omega
   rw [this,Int.mul_sub,Int.neg_mul];omega
  ·refine⟨ms.set t.1 (plo ps t.1+y),ix _ (by omega) (by omega),?_⟩;rw [zbP,wx,zbs,zcm (by omega),hw,zrp o t3 (by omega)];have:(t.2.natAbs:Int)=t.2:=by omega
   rw [this,Int.mul_add];omega
end
section
variable {R:RX} {S:Sto}
structure TimesL(l:List Int):Prop where
 l1:1<=l.length
 l6:l.length<=6
 ok:∀ x∈l,x≠0/\-3<=x/\x<=3
theorem zes{l:List Int}(h:(decide (1<=l.length) && decide (l.length<=6) && l.all fun x=>decide (x≠0/\-3<=x/\x<=3))=true):TimesL l:=by
 simp only [Bool.and_eq_true,decide_eq_true_eq,List.all_eq_true] at h;exact⟨h.1.1,h.1.2,h.2⟩
theorem TimesL.at{l:List Int}(h:TimesL l){r:Int}(r0:0<=r)(r1:r<l.length):∃ n,atI (l.map PyData.int) r=some (.int n)/\n≠0/\-3<=n/\n<=3:=by
 obtain⟨k,rfl⟩:=Int.eq_ofNat_of_zero_le r0;have hk:k<l.length:=by omega
 exact⟨l[k],zcO (List.getElem?_eq_getElem hk),h.ok _ (List.getElem_mem hk)⟩
theorem zi8{p:List PyData}{ps:List Part}(hp:zbo p)(hd:Drw ps)(q:∀ ts p',Tms ps.length ts->zbo p'->R (.d (zjr ts)) [p']):zdq [.l 0,.d (zcf ps)] [p] R:=by
 have h8:=hd.l8;have h1:=hd.l1;unfold zdq;walk_at "d"
 (refine seq1 ?_; walk_at "d")
 refine zG hp (by decide) (by decide +kernel) fun r p1 r0 r1 hp1=>?_;obtain⟨d,ed,l,rfl,hl⟩:=zoR (P:=fun d=>∃ l:List Int,d=.list (l.map PyData.int)/\TimesL l) (ds:=[PyData.list [.int 1,.int (-1),.int 2,.int (-2),.int 3,.int (-3)],.list [.int 1,.int (-1)],.list [.int 2,.int (-2)],.list [.int 3,.int (-3)],.list [.int 2,.int 3,.int (-2),.int (-3)],.list [.int 1,.int 3,.int (-1),.int (-3)]]) r0 r1 (by
  intro d m;simp only [List.mem_cons,List.not_mem_nil,or_false] at m;rcases m with rfl | rfl | rfl | rfl | rfl | rfl
  ·exact⟨[1,-1,2,-2,3,-3],rfl,zes (by decide)⟩
  ·exact⟨[1,-1],rfl,zes (by decide)⟩
  ·exact⟨[2,-2],rfl,zes (by decide)⟩
  ·exact⟨[3,-3],rfl,zes (by decide)⟩
  ·exact⟨[2,3,-2,-3],rfl,zes (by decide)⟩
  ·exact⟨[1,3,-1,-3],rfl,zes (by decide)⟩)
 have l1:=hl.l1;have l6:=hl.l6;walk_at "d";refine⟨_,ed,?_⟩;walk_at "d"
 (refine seq1 ?_; walk_at "d")
 refine cut (fun δ S=>∃ (p:List PyData) (ts:List Term) (u1:Option XV),zbo p/\ts.length<=ps.length/\(∀ t∈ts,t.1<ps.length/\t.2≠0/\-3<=t.2/\t.2<=3)/\(ts.Pairwise fun t u=>t.1<u.1)/\S=[p,ts.map tmD]/\δ=[some (.l 0),some (.d (zcf ps)),some (.d (.list (l.map PyData.int))),some (.l 1),u1]) (fun N hN=>?_) ?_
 ·walk_at "d";refine⟨ps.length,by unfold zcf; walk_at "d",?_⟩;refine zaY (fun i δ S=>∃ (p:List PyData) (ts:List Term) (u1:Option XV),zbo p/\ts.length<=i/\(∀ t∈ts,t.1<i/\t.2≠0/\-3<=t.2/\t.2<=3)/\(ts.Pairwise fun t u=>t.1<u.1)/\S=[p,ts.map tmD]/\δ=[some (.l 0),some (.d (zcf ps)),some (.d (.list (l.map PyData.int))),some (.l 1),u1]) ⟨p1,[],_,hp1,Nat.le_refl _,by simp,.nil,rfl,rfl⟩ ?_ ?_
  ·rintro i d _ _ N hi ⟨p,ts,u1,hp,hl',ht,hw,rfl,rfl⟩ hN;obtain⟨hi',rfl⟩:=zcC hi;have hi8:i<ps.length:=by simpa using hi'
   walk_at "d";refine zG hp (by decide) (by decide +kernel) fun r p2 r0 r1 hp2=>?_;walk_at "d";split
   ·refine zG hp2 (by omega) (zc0 (by omega) (by omega)) fun r3 p3 r30 r31 hp3=>?_;obtain⟨n,en,hn⟩:=hl.at r30 r31;walk_at "d";refine⟨_,en,?_⟩;walk_at "d";refine⟨by omega,hN _ _ ⟨p3,ts++[(i,n)],_,hp3,by simp; omega,fun t m=>?_,?_,by simp [tmD],rfl⟩⟩
    ·rcases List.mem_append.mp m with m | m
     ·exact⟨by have:=(ht t m).1; omega,(ht t m).2⟩
     ·rw [List.mem_singleton.mp m];exact⟨by simp,hn⟩
    ·rw [List.pairwise_append];exact⟨hw,by simp,fun t m u m'=>by rw [List.mem_singleton.mp m']; exact(ht t m).1⟩
   ·exact hN _ _ ⟨p2,ts,_,hp2,by omega,fun t m=>⟨by have:=(ht t m).1; omega,(ht t m).2⟩,hw,rfl,rfl⟩
  ·rintro _ _ ⟨p,ts,u1,hp,hl',ht,hw,rfl,rfl⟩;rw [zaC] at hl' ht;have hz:(ps.length:Int).toNat=ps.length:=by simp
   rw [hz] at hl' ht;exact hN _ _ ⟨p,ts,u1,hp,hl',ht,hw,rfl,rfl⟩
 rintro _ _ ⟨p,ts,u1,hp,hl',ht,hw,rfl,rfl⟩;refine cut (fun δ S=>∃ (p:List PyData) (ts:List Term) (T:Sto) (k:Nat),zbo p/\Tms ps.length ts/\T[k]? = some (ts.map tmD)/\S=p :: T/\δ=[some (.l 0),some (.d (zcf ps)),some (.d (.list (l.map PyData.int))),some (.l (k+1)),u1]) (fun N hN=>?_) ?_
 ·walk_at "d";refine⟨zlU ts,rfl,?_⟩;rw [zr0];walk_at "d";split
  ·refine⟨ps.length,by unfold zcf; walk_at "d",?_⟩;refine zG hp (by omega) (zc0 (by omega) (by omega)) fun r p2 r0 r1 hp2=>?_;walk_at "d";refine zG hp2 (by omega) (zc0 (by omega) (by omega)) fun r3 p3 r30 r31 hp3=>?_;obtain⟨n,en,hn⟩:=hl.at r30 r31;obtain⟨k,rfl⟩:=Int.eq_ofNat_of_zero_le r0;walk_at "d";refine⟨_,en,?_⟩;walk_at "d";refine hN _ _ ⟨p3,[(k,n)],[ts.map tmD,[tmD (k,n)]],1,hp3,⟨by simp,by simpa using h1,fun t m=>by rw [List.mem_singleton.mp m]; exact⟨by simp only; omega,hn⟩,by simp⟩,rfl,rfl,rfl⟩
  ·rename_i hne;exact hN _ _ ⟨p,ts,[ts.map tmD],0,hp,⟨fun z=>hne (by rw [z]; rfl),hl',ht,hw⟩,rfl,rfl,rfl⟩
 rintro _ _ ⟨p,ts,T,k,hp,hts,hk,rfl,rfl⟩;walk_at "d";exact⟨_,hk,q ts p hts hp⟩
theorem zlW{p:List PyData}{ps:List Part}(hp:zbo p)(hd:Drw ps)(q:∀ g p',GapOk ps.length g->zbo p'->R (.d (zf2 g)) [p']):zfg [.l 0,.d (zcf ps)] [p] R:=by
 have h8:=hd.l8;unfold zfg;walk_at "d"
 (refine seq1 ?_; walk_at "d")
 refine zi8 hp hd fun ts p1 hts hp1=>?_;walk_at "d"
 (refine seq1 ?_; walk_at "d")
 refine zgi rfl (hts.tm3 h8) ?_;have lm:=zfa ps ts;unfold spD;walk_at "d"
 (refine seq1 ?_; walk_at "d")
 (refine seq1 ?_; walk_at "d")
 refine .inl ⟨⟨by decide,by decide +kernel⟩,.inl ⟨⟨by decide,by decide +kernel⟩,?_⟩⟩;walk_at "d";refine zG hp1 (by decide) (by decide +kernel) fun r p2 r0 r1 hp2=>?_;obtain⟨d,ed,n,rfl⟩:=zoR (P:=fun d=>∃ n,d=.int n) (ds:=[PyData.int 0,PyData.int 1,PyData.int (-1),PyData.int ((zak ps ts - zD ps ts) / 2),PyData.int ((zak ps ts - zD ps ts) / 3),PyData.int (zak ps ts - zD ps ts+1),PyData.int (zak ps ts - zD ps ts),PyData.int (zak ps ts - zD ps ts - 1)]) r0 r1 (by simp);walk_at "d";refine⟨_,ed,?_⟩;walk_at "d"
 (refine seq1 ?_; walk_at "d")
 refine .inl ⟨⟨by decide,by decide +kernel⟩,?_⟩;walk_at "d";refine zG hp2 (by decide) (by decide +kernel) fun r' p3 r2 r3 hp3=>?_;obtain⟨d,ed,n',rfl,h0⟩:=zoR (P:=fun d=>∃ n,d=.int n/\0<=n) (ds:=[PyData.int 0,PyData.int 1,PyData.int 2,PyData.int ((zak ps ts - zD ps ts) / 2),PyData.int (zak ps ts - zD ps ts),PyData.int (zak ps ts - zD ps ts+2)]) r2 r3 (by simp; omega);walk_at "d";refine⟨_,ed,?_⟩;walk_at "d";exact q ⟨ts,_,_⟩ p3 ⟨hts,by simp only; omega⟩ hp3
end
section
variable {R:RX} {S:Sto}
theorem zm8{a b c d:Int}(q:R (.d (.bool (decide (c<=a/\b<=d)))) []):zga [.d (spD a b),.d (spD c d)] [] R:=by
 unfold zga spD;walk_at "d";by_cases h1:c<=a
 ·simp only [h1,true_and,decide_true,↓reduceIte] at q ⊢;exact q
 ·simp only [h1,false_and,decide_false,↓reduceIte,Bool.false_eq_true] at q ⊢;exact q
end
section
variable {R:RX} {S:Sto}
theorem zjL{s1 s2 s3 r m:Int}(hm:m=1\/m=2\/m=3)(r0:0<=r):∀ (n:Nat) (k:Int),0<=k->k<=n->Can s1 s2 s3 (r+m*k)->∃ j,0<=j/\j<=k/\j<=4/\Can s1 s2 s3 (r+m*j)
 | 0,k,k0,kn,h=>⟨k,k0,Int.le_refl _,by omega,h⟩
 | n+1,k,k0,kn,h=>by
  by_cases hk:k<=4
  ·exact⟨k,k0,Int.le_refl _,hk,h⟩
  ·obtain⟨a,b,c,ha,ha',hb,hb',hc,hc',e⟩:=h;have m0:0<=m:=by omega
   have step:∃ d,1<=d/\d<=3/\Can s1 s2 s3 (r+m*(k - d)):=by
    by_cases h3:m<=c
    ·exact⟨3,by omega,by omega,a,b,c - m,ha,ha',hb,hb',by omega,by omega,by rw [Int.mul_sub]; omega⟩
    ·by_cases h2:m<=b
     ·exact⟨2,by omega,by omega,a,b - m,c,ha,ha',by omega,by omega,hc,hc',by rw [Int.mul_sub]; omega⟩
     ·by_cases h1:m<=a
      ·exact⟨1,by omega,by omega,a - m,b,c,by omega,by omega,hb,hb',hc,hc',by rw [Int.mul_sub]; omega⟩
      ·exfalso;rcases hm with rfl | rfl | rfl <;> omega
   obtain⟨d,d1,d3,hd⟩:=step;obtain⟨j,j0,j1,j2,hj⟩:=zjL hm r0 n (k - d) (by omega) (by omega) hd;exact⟨j,j0,by omega,j2,hj⟩
theorem zlf{s1 s2 s3 r m k:Int}(h1:0<=s1)(h2:0<=s2)(h3:0<=s3)(hm:m=1\/m=2\/m=3)(r0:0<=r)(k0:0<=k)(h:Can s1 s2 s3 (r+m*k)):∃ j,0<=j/\j<=k/\j<=4/\Can s1 s2 s3 (r+m*j):=zjL hm r0 k.toNat k k0 (by omega) h
theorem zmf{s1 s2 s3 r m k:Int}(h1:0<=s1)(h2:0<=s2)(h3:0<=s3)(hm:m=1\/m=2\/m=3)(rt:r<=s1+2*s2+3*s3)(k0:0<=k)(h:Can s1 s2 s3 (r - m*k)):∃ j,0<=j/\j<=k/\j<=4/\Can s1 s2 s3 (r - m*j):=by
 have h':=h.flip;rw [show s1+2*s2+3*s3 - (r - m*k)=s1+2*s2+3*s3 - r+m*k by omega] at h';obtain⟨j,j0,j1,j2,hj⟩:=zlf h1 h2 h3 hm (by omega) k0 h';have:=hj.flip;exact⟨j,j0,j1,j2,by rwa [show s1+2*s2+3*s3 - (s1+2*s2+3*s3 - r+m*j)=r - m*j by omega] at this⟩
def quo(n t:Int):Int:=if t<0 then zt4 n t else -((-n) / t)
theorem zmr{n t:Int}(h:t=1\/t=2\/t=3):n<=t*quo n t/\t*(quo n t - 1)<n:=by
 unfold quo;rcases h with rfl | rfl | rfl <;> rw [if_neg (by decide)] <;> omega
theorem zns{n t:Int}(h:t = -1\/t = -2\/t = -3):t*quo n t<=n/\n<t*(quo n t - 1):=by
 unfold quo zt4;rcases h with rfl | rfl | rfl <;> rw [if_pos (by decide)] <;> simp only [Int.neg_neg] <;> omega
def zeu(ps:List Part)(ts:List Term)(t left n:Int):Bool:=zsf (room ps ts 1) (room ps ts 2) (room ps ts 3) (left - t*n - zD ps ts)
structure IsFirst(ps:List Part)(ts:List Term)(lo hi t left n:Int):Prop where
 ge:lo<=n
 le:n<=hi
 can:zeu ps ts t left n=true
 no:∀ v,lo<=v->v<n->zeu ps ts t left v=false
theorem zm9{ps:List Part}{ts:List Term}(ho:Ord ps)(h3:Tm3 ps.length ts){t left v:Int}(t0:t≠0)(t1:-3<=t)(t2:t<=3)(hv:v<quo (if 0<t then left - zak ps ts else left - zD ps ts) t):zeu ps ts t left v=false:=by
 have n1:=zbR ho 1 h3.in;have n2:=zbR ho 2 h3.in;have n3:=zbR ho 3 h3.in;have tt:=zij ho h3.2;unfold zeu;rw [Bool.eq_false_iff];intro h;rw [zgr n1 n2 n3] at h;obtain⟨a,b,c,ha,ha',hb,hb',hc,hc',e⟩:=h;by_cases hp:0<t
 ·rw [if_pos hp] at hv;have ht:t=1\/t=2\/t=3:=by clear e hc' hc hb' hb ha' ha tt n3 n2 n1 hv t1 t0; omega
  have q:=(zmr (n:=left - zak ps ts) ht).2;rcases ht with rfl | rfl | rfl <;> (clear hp t2 t1 t0 hc hb ha n3 n2 n1; omega)
 ·rw [if_neg hp] at hv;have ht:t = -1\/t = -2\/t = -3:=by clear e hc' hc hb' hb ha' ha tt n3 n2 n1 hv t2; omega
  have q:=(zns (n:=left - zD ps ts) ht).2;rcases ht with rfl | rfl | rfl <;> (clear hp t2 t1 t0 hc' hb' ha' tt n3 n2 n1; omega)
theorem zkl{ps:List Part}{ts:List Term}(ho:Ord ps)(h3:Tm3 ps.length ts){t left f v:Int}(t0:t≠0)(t1:-3<=t)(t2:t<=3)(hf:quo (if 0<t then left - zak ps ts else left - zD ps ts) t<=f)
  (fv:f<=v) (h:zeu ps ts t left v=true):∃ j,0<=j/\j<=4/\f+j<=v/\zeu ps ts t left (f+j)=true:=by
 have n1:=zbR ho 1 h3.in;have n2:=zbR ho 2 h3.in;have n3:=zbR ho 3 h3.in;have tt:=zij ho h3.2;unfold zeu at h ⊢;rw [zgr n1 n2 n3] at h;by_cases hp:0<t
 ·rw [if_pos hp] at hf;have ht:t=1\/t=2\/t=3:=by clear tt n3 n2 n1 fv hf t1 t0; omega
  have q:=(zmr (n:=left - zak ps ts) ht).1;have e:left - t*v - zD ps ts=left - t*f - zD ps ts - t*(v - f):=by rw [Int.mul_sub]; (clear q ht hp tt n3 n2 n1 fv hf t2 t1 t0; omega)
  rw [e] at h;obtain⟨j,j0,j1,j2,hj⟩:=zmf n1 n2 n3 ht (by rcases ht with rfl | rfl | rfl <;> (clear e hp t2 t1 t0 n3 n2 n1 fv; omega)) (by clear e q ht hp tt n3 n2 n1 hf t2 t1 t0; omega) h;refine⟨j,j0,j2,by clear j2 j0 e q ht hp tt n3 n2 n1 fv hf t2 t1 t0; omega,(zgr n1 n2 n3).mpr ?_⟩
  rwa [show left - t*(f+j) - zD ps ts=left - t*f - zD ps ts - t*j by rw [Int.mul_add]; (clear j2 j1 j0 e q ht hp tt n3 n2 n1 fv hf t2 t1 t0; omega)]
 ·rw [if_neg hp] at hf;have ht:t = -1\/t = -2\/t = -3:=by clear tt n3 n2 n1 fv hf t2; omega
  have q:=(zns (n:=left - zD ps ts) ht).1;have e:left - t*v - zD ps ts=left - t*f - zD ps ts+(-t)*(v - f):=by rw [Int.neg_mul,Int.mul_sub]; (clear q ht hp tt n3 n2 n1 fv hf t2 t1 t0; omega)
  rw [e] at h;obtain⟨j,j0,j1,j2,hj⟩:=zlf n1 n2 n3 (m:=-t) (by clear e q ht tt n3 n2 n1 fv hf t2; omega) (by rcases ht with rfl | rfl | rfl <;> (clear e hp t2 t1 t0 tt n3 n2 n1 fv; omega)) (by clear e q ht hp tt n3 n2 n1 hf t2 t1 t0; omega) h;refine⟨j,j0,j2,by clear j2 j0 e q ht hp tt n3 n2 n1 fv hf t2 t1 t0; omega,(zgr n1 n2 n3).mpr ?_⟩
  rwa [show left - t*(f+j) - zD ps ts=left - t*f - zD ps ts+(-t)*j by rw [Int.neg_mul,Int.mul_add]; (clear j2 j1 j0 e q ht hp tt n3 n2 n1 fv hf t2 t1 t0; omega)]
theorem zgZ{a t:Int}(h0:t≠0)(h1:-3<=t)(h2:t<=3)(q:R (.d (.int (quo a t))) []):zbb [.d (.int a),.d (.int t)] [] R:=by
 unfold quo at q;by_cases h:t<0
 ·rw [if_pos h] at q;exact zhf h1 h q
 ·rw [if_neg h] at q;unfold zbb;walk_at "e";refine .inl ⟨⟨by clear h2 h1; omega,?_⟩,q⟩;have:t=1\/t=2\/t=3:=by clear h1; omega
  rcases this with rfl | rfl | rfl <;> decide +kernel
theorem zgq{ps:List Part}{t:Term}{ts:List Term}{left:Int}(ho:Ord ps)(hk:t.1<ps.length)(t0:t.2≠0)(t1:-3<=t.2)(t2:t.2<=3)(h3:Tm3 ps.length ts)
  (q1:∀ n,IsFirst ps ts (plo ps t.1) (phi ps t.1) t.2 left n->R (.d (.int n)) []) (q2:(∀ v,plo ps t.1<=v->v<=phi ps t.1->zeu ps ts t.2 left v=false)->R (.d .none) []):zb1 [.d (zcf ps),.d (tmD t),.d (zjr ts),.d (.int left)] [] R:=by
 have ep:=zcO (f:=zdM) (zbA hk);unfold zb1;rw [zfN,zcf];walk_at "d"
 (refine seq1 ?_; walk_at "d")
 rw [<- zcf];refine zdc rfl h3 ?_;walk_at "d"
 (refine seq1 ?_; walk_at "d")
 refine zj0 rfl h3 ?_;walk_at "d"
 (refine seq1 ?_; walk_at "d")
 rw [zcf];walk_at "d";refine⟨_,ep,zbg ?_⟩;rw [<- zcf];walk_at "d";have low:=fun v=>zm9 (left:=left) (v:=v) ho h3 t0 t1 t2;have tri:=fun f v=>zkl (left:=left) (f:=f) (v:=v) ho h3 t0 t1 t2;refine cut (fun δ S=>S=[]/\δ=[some (.d (zcf ps)),some (.d (.tuple [.int t.1,.int t.2])),some (.d (zjr ts)),some (.d (.int left)),some (.d (spD (zD ps ts) (zak ps ts))),some (.d (zor ps ts)),some (.d (spD (plo ps t.1) (phi ps t.1))),some (.d (.int (if 0<t.2 then left - zak ps ts else left - zD ps ts))),none,none]) (fun N hN=>?_) ?_
 ·rw [spD];walk_at "d";split
  ·rename_i hp;exact hN _ _ ⟨rfl,by rw [if_pos hp]; rfl⟩
  ·rename_i hp;exact hN _ _ ⟨rfl,by rw [if_neg hp]; rfl⟩
 ·rintro _ _ ⟨rfl,rfl⟩;have es:spD (plo ps t.1) (phi ps t.1)=.tuple [.int (plo ps t.1),.int (phi ps t.1)]:=rfl;have el:spD (zD ps ts) (zak ps ts)=.tuple [.int (zD ps ts),.int (zak ps ts)]:=rfl;refine seq1 ?_;rw [es,el];walk_at "d";refine zgZ t0 t1 t2 ?_;walk_at "d";generalize quo (if 0<t.2 then left - zak ps ts else left - zD ps ts) t.2=Qv at low tri ⊢;have e1:(if Qv>plo ps t.1 then Qv else plo ps t.1)=max (plo ps t.1) Qv:=by split <;> omega
  rw [e1];have low':∀ v,plo ps t.1<=v->v<max (plo ps t.1) Qv->zeu ps ts t.2 left v=false:=fun v v1 v2=>low v (by omega);have tri':=tri (max (plo ps t.1) Qv);have f1:plo ps t.1<=max (plo ps t.1) Qv:=by omega
  have f2:Qv<=max (plo ps t.1) Qv:=by omega
  generalize max (plo ps t.1) Qv=f at f1 f2 low' tri' ⊢;refine seq1 ?_;walk_at "d";have e2:((if phi ps t.1+1<f+5 then phi ps t.1+1 else f+5) - f).toNat=min 5 (phi ps t.1+1 - f).toNat:=by split <;> omega
  rw [e2];refine zaY (fun i δ S=>∃ (u:Option XV),S=[]/\δ=[some (.d (zcf ps)),some (.d (.tuple [.int t.1,.int t.2])),some (.d (zjr ts)),some (.d (.int left)),some (.d (.tuple [.int (zD ps ts),.int (zak ps ts)])),some (.d (zor ps ts)),some (.d (.tuple [.int (plo ps t.1),.int (phi ps t.1)])),some (.d (.int (if 0<t.2 then left - zak ps ts else left - zD ps ts))),some (.d (.int f)),u]/\∀ j:Nat,j<i->zeu ps ts t.2 left (f+j)=false) ⟨_,rfl,rfl,fun j hj=>by omega⟩ ?_ ?_
  ·rintro i d _ _ N hi ⟨u,rfl,rfl,hg⟩ hN;obtain⟨hi',rfl⟩:=zcC hi;walk_at "d";refine⟨zcQ (by omega) (by omega),?_⟩;rw [zor];refine zkB ?_;rw [<- zor];walk_at "d";have eb:zsf (room ps ts 1) (room ps ts 2) (room ps ts 3) (left - t.2*(f+i) - zD ps ts)=zeu ps ts t.2 left (f+i):=rfl;rw [eb];cases hb:zeu ps ts t.2 left (f+i) with
   | true =>
    walk_at "d";refine q1 _ ⟨by omega,by omega,hb,fun v v1 v2=>?_⟩;by_cases hv:v<f
    ·exact low' v v1 hv
    ·have:=hg (v - f).toNat (by omega)
     rwa [show f+((v - f).toNat:Int)=v by omega] at this
   | false =>
    walk_at "d";refine hN _ _ ⟨_,rfl,rfl,fun j hj=>?_⟩;by_cases hji:j=i
    ·rw [hji]; exact hb
    ·exact hg j (by omega)
  ·rintro _ _ ⟨u,rfl,rfl,hg⟩;rw [zaC] at hg;walk_at "d";refine q2 fun v v1 v2=>?_;by_cases hv:v<f
   ·exact low' v v1 hv
   ·cases hb:zeu ps ts t.2 left v with
    | false=>rfl
    | true =>
     obtain⟨j,j0,j4,jv,hj⟩:=tri' v f2 (by omega) hb;have:=hg j.toNat (by omega);rw [show f+(j.toNat:Int)=f+j by omega,hj] at this;cases this
def Rch(ps:List Part):List Term->Int->List Int->Option (List Int)->Prop
 | [],_,ns,res=>res=some ns
 | t :: ts,left,ns,res=>(∃ n,IsFirst ps ts (plo ps t.1) (phi ps t.1) t.2 left n/\Rch ps ts (left - t.2*n) (ns.set t.1 n) res)\/((∀ v,plo ps t.1<=v->v<=phi ps t.1->zeu ps ts t.2 left v=false)/\res=none)
theorem zlF{ps:List Part}{g:Gap}{n:Int}(ho:Ord ps)(hn:ps.length<=100)(ht:Tms ps.length g.ts)(q:∀ res,Rch ps g.ts n (zc2 ps) res->R (.d (zuE res)) []):zfi [.d (zcf ps),.d (zf2 g),.d (.int n)] [] R:=by
 have h3:∀ i,Tm3 ps.length (g.ts.drop i):=fun i=>⟨by have:=ht.len; rw [List.length_drop]; omega,fun t m=>⟨(ht.ok t (List.mem_of_mem_drop m)).1,(ht.ok t (List.mem_of_mem_drop m)).2.2⟩⟩;unfold zfi;walk_at "d"
 (refine seq1 ?_; walk_at "d")
 refine zjm hn ?_;rw [zml];walk_at "d"
 (refine seq1 ?_; walk_at "d")
 refine seq1 ?_;rw [zcG,zjr];walk_at "d";refine zaY (fun i δ S=>∃ (ns:List Int) (left:Int) (u1 u2 u3:Option XV),S=[ns.map PyData.int]/\ns.length=ps.length/\δ=[some (.d (zcf ps)),some (.d (.tuple [.tuple (g.ts.map tmD),.int g.lo,.int g.hi])),some (.d (.int n)),some (.l 0),some (.d (.int left)),u1,u2,u3]/\∀ res,Rch ps (g.ts.drop i) left ns res->Rch ps g.ts n (zc2 ps) res) ⟨zc2 ps,n,_,_,_,rfl,by simp [zc2],rfl,fun res h=>h⟩ ?_ ?_
 ·rintro i d _ _ N hi ⟨ns,left,u1,u2,u3,rfl,hn',rfl,hr⟩ hN;obtain⟨e,he,rfl⟩:=zfb _ 0 i d hi;obtain⟨t,ht',rfl⟩:=zdT he;have mt:=List.mem_of_getElem? ht';have il:i<g.ts.length:=(List.getElem?_eq_some_iff.mp ht').1;obtain⟨t1,t2,t3,t4⟩:=ht.ok t mt;have ed:g.ts.drop i=t :: g.ts.drop (i+1):=by
   rw [List.drop_eq_getElem_cons il];rw [List.getElem?_eq_getElem il] at ht';rw [Option.some.inj ht']
  rw [ed] at hr;rw [zfN];walk_at "d";refine seq1 ?_;walk_at "d";rw [zlz il];refine⟨zjN (by simpa using il),?_⟩;refine zgq (t:=t) (ts:=g.ts.drop (i+1)) ho t1 t2 t3 t4 (h3 (i+1)) (fun m hm=>?_) fun hno=>?_
  ·walk_at "d";refine seq1 ?_;walk_at "d";refine seq1 ?_;walk_at "d";refine⟨t.1,zrl (by simpa [hn'] using t1),?_⟩;walk_at "d";refine⟨zcQ (by clear t4 t2 t1 il hn' hn; omega) (by clear t3 t2 t1 il hn' hn; omega),hN _ _ ⟨ns.set t.1 m,left - t.2*m,_,_,_,by rw [List.map_set],by simp [hn'],rfl,fun res h=>hr res (.inl ⟨m,hm,h⟩)⟩⟩
  ·walk_at "d";refine seq1 ?_;walk_at "d";exact q none (hr none (.inr ⟨hno,rfl⟩))
 ·rintro _ _ ⟨ns,left,u1,u2,u3,rfl,hn',rfl,hr⟩;rw [zd9,List.length_map,List.drop_length] at hr;walk_at "d";exact q (some ns) (hr (some ns) rfl)
end
section
variable {R:RX} {S:Sto}
theorem zih{ps:List Part}{ts:List Term}(ho:Ord ps)(h3:Tm3 ps.length ts){t left n:Int}:zeu ps ts t left n=true↔Can (room ps ts 1) (room ps ts 2) (room ps ts 3) (left - t*n - zD ps ts) :=
 zgr (zbR ho 1 h3.in) (zbR ho 2 h3.in) (zbR ho 3 h3.in)
theorem zkH{n:Nat}{t:Term}{ts:List Term}(h:Tm3 n (t :: ts)):Tm3 n ts:=⟨by have:=h.len; simp at this; omega,fun u m=>h.ok u (List.mem_cons_of_mem _ m)⟩
theorem zfd{ps:List Part}{ts:List Term}{t:Term}{ms:List Int}{left:Int}(ho:Ord ps)(h3:Tm3 ps.length ts)(hb:InBox ps ms)(hw:worth (t :: ts) ms=left):zeu ps ts t.2 left (ms.getD t.1 0)=true:=by
 rw [zih ho h3];rw [zbP] at hw;have:=zjp (fun j hj=>hb.ok j hj) h3.ok
 rwa [show left - t.2*ms.getD t.1 0 - zD ps ts=worth ts ms - zD ps ts by omega]
structure RchOk(ps:List Part)(ts:List Term)(left:Int)(ns one:List Int):Prop where
 len:one.length=ps.length
 out:∀ j,(∀ t∈ts,t.1≠j)->one.getD j 0=ns.getD j 0
 box:∀ t∈ts,plo ps t.1<=one.getD t.1 0/\one.getD t.1 0<=phi ps t.1
 wor:worth ts one=left
 fst:∀ ms k,InBox ps ms->(∀ j,j<k->ms.getD j 0=one.getD j 0)->ms.getD k 0<one.getD k 0->(∃ t∈ts,t.1=k)->worth ts ms≠left
theorem Rch.some_ok{ps:List Part}(ho:Ord ps):∀ {ts:List Term} {left:Int} {ns one:List Int},Tm3 ps.length ts->(ts.Pairwise fun t u=>t.1<u.1)->ns.length=ps.length->(ts=[]->left=0)->Rch ps ts left ns (some one)->RchOk ps ts left ns one
 | [],left,ns,one,_,_,hl,h0,h=>by
  cases h;exact⟨hl,fun _ _=>rfl,by simp,by rw [h0 rfl]; rfl,fun ms k _ _ _ ⟨t,m,_⟩=>by simp at m⟩
 | t :: ts,left,ns,one,h3,hs,hl,_,h=>by
  have h3':=zkH h3;obtain⟨t1,t2,t3⟩:=h3.ok t List.mem_cons_self;obtain⟨hs1,hs2⟩:=List.pairwise_cons.mp hs;rcases h with ⟨n,hf,h⟩ | ⟨_,h⟩
  ·have c0:ts=[]->left - t.2*n=0:=fun z=>by
    have:=(zih ho h3').mp hf.can;subst z;obtain⟨a,b,c,ha,ha',hb,hb',hc,hc',e⟩:=this;simp [room,zD] at ha' hb' hc' e;omega
   have ih:=Rch.some_ok ho (ts:=ts) h3' hs2 (by simpa using hl) c0 h;have et:one.getD t.1 0=n:=by
    rw [ih.out t.1 fun u m=>by have:=hs1 u m; omega,zcm (by omega)]
   refine⟨ih.len,fun j hj=>?_,fun u m=>?_,?_,fun ms k hb hj hk ⟨u,mu,hu⟩ hw=>?_⟩
   ·rw [ih.out j fun u m=>hj u (List.mem_cons_of_mem _ m),zeM (hj t List.mem_cons_self)]
   ·rcases List.mem_cons.mp m with rfl | m
    ·rw [et];exact⟨hf.ge,hf.le⟩
    ·exact ih.box u m
   ·rw [zbP,et,ih.wor];omega
   ·rcases List.mem_cons.mp mu with rfl | mu
    ·subst hu;have:=zfd ho h3' hb hw;rw [et] at hk;rw [hf.no _ (hb.ok _ t1).1 hk] at this;cases this
    ·have lt:=hs1 u mu;have em:=hj t.1 (by omega);rw [et] at em;refine ih.fst ms k hb hj hk ⟨u,mu,hu⟩ ?_;rw [zbP,em] at hw;omega
  ·cases h
theorem Rch.none_ok{ps:List Part}(ho:Ord ps):∀ {ts:List Term} {left:Int} {ns:List Int},Tm3 ps.length ts->(ts.Pairwise fun t u=>t.1<u.1)->Rch ps ts left ns none->∀ ms,InBox ps ms->worth ts ms≠left
 | [],_,_,_,_,h,_,_=>by cases h
 | t :: ts,left,ns,h3,hs,h,ms,hb=>by
  have h3':=zkH h3;obtain⟨t1,t2,t3⟩:=h3.ok t List.mem_cons_self;obtain⟨hs1,hs2⟩:=List.pairwise_cons.mp hs;rcases h with ⟨n,hf,h⟩ | ⟨h,_⟩
  ·obtain⟨ms',hb',hw'⟩:=zjv ho h3' hs2 ((zih ho h3').mp hf.can);exact absurd (by clear t3 t2 t1; omega) (Rch.none_ok ho h3' hs2 h ms' hb')
  ·intro hw;have:=zfd ho h3' hb hw;rw [h _ (hb.ok _ t1).1 (hb.ok _ t1).2] at this;cases this
def FirstAt(ps:List Part)(ts:List Term)(n:Int):Option (List Int)->Prop
 | none=>∀ ms,InBox ps ms->worth ts ms≠n
 | some one=>InBox ps one/\worth ts one=n/\∀ ms,InBox ps ms->worth ts ms=n->HT.lexLt ms one=false
theorem zmd{ps:List Part}{ts:List Term}{n:Int}{res:Option (List Int)}(ho:Ord ps)(hn:ps.length<=100)(ht:Tms ps.length ts)(h:Rch ps ts n (zc2 ps) res):FirstAt ps ts n res:=by
 have h3:=ht.tm3' hn;cases res with
 | none=>exact Rch.none_ok ho h3 ht.srt h
 | some one =>
  have ok:=Rch.some_ok ho h3 ht.srt (by simp [zc2]) (fun z=>absurd z ht.ne) h;have out:∀ j,j<ps.length->(∀ t∈ts,t.1≠j)->one.getD j 0=plo ps j:=fun j hj hh=>by rw [ok.out j hh,zhG hj]
  have bx:InBox ps one:=⟨ok.len,fun j hj=>by
   by_cases hx:∃ t∈ts,t.1=j
   ·obtain⟨t,m,rfl⟩:=hx;exact ok.box t m
   ·rw [out j hj fun t m e=>hx ⟨t,m,e⟩];exact⟨Int.le_refl _,ho.at hj⟩⟩
  refine⟨bx,ok.wor,fun ms hb hw=>?_⟩;rw [Bool.eq_false_iff];intro hlt;obtain⟨k,hk,heq,hd⟩:=zkI (by rw [hb.len,ok.len]) hlt;rw [hb.len] at hk;by_cases hx:∃ t∈ts,t.1=k
  ·exact ok.fst ms k hb heq hd hx hw
  ·rw [out k hk fun t m e=>hx ⟨t,m,e⟩] at hd;have:=(hb.ok k hk).1
   (clear hx hk hw hn; omega)
end
section
variable {R:RX} {S:Sto}
def zds(g:Gap):Gap:=⟨opp g.ts,-g.hi,-g.lo⟩
theorem zme{a b:Int}(h:a<=b)(q:R (.d (.bool true)) []):ze9 [.d (spD a b)] [] R:=by
 have wh:∀ (n:Int) {R:RX},R (.d (.bool true)) []->zc3 [.d (.int n)] [] R:=by
  intro n R q;unfold zc3;walk_at "d";exact q
 unfold ze9 spD;walk_at "d";refine seq1 ?_;walk_at "d";refine wh _ ?_;walk_at "d";refine wh _ ?_;walk_at "d";rw [decide_eq_true h];exact q
def zaF(ps:List Part)(k:Nat)(a b:Int):List Part:=ps.take k++((part ps k).1,a,b) :: ps.drop (k+1)
theorem zoS{α:Type}{f:α->PyData}{ts:List α}{i:Nat}(il:i<=ts.length):zdP (ts.map f) none (some (i:Int))=(ts.take i).map f:=by
 unfold zdP;have e1:HT.sIx (ts.map f).length 0 none=0:=rfl;rw [e1,HT.sIx_nat,List.length_map,Nat.min_eq_left il,List.drop_zero,Nat.sub_zero,List.map_take]
theorem zgX{ps:List Part}{k:Nat}{a b:Int}(hn:ps.length<=100)(hk:k<ps.length)(h1:plo ps k<=a)(h2:a<=b)(h3:b<=phi ps k)(q:R (.d (zcf (zaF ps k a b))) []):zde [.d (zcf ps),.d (.int (k:Nat)),.d (spD a b)] [] R:=by
 have ep:=zcO (f:=zdM) (zbA hk);unfold zde;rw [zcf];walk_at "d";refine seq1 ?_;walk_at "d";simp only [show (0:Int)<=(k:Int) by omega,show (k:Int)<(ps.length:Int) by omega,decide_true,↓reduceIte];walk_at "d";refine seq1 ?_;walk_at "d";refine⟨_,ep,?_⟩;walk_at "d";refine seq1 ?_;walk_at "d";refine zme h2 ?_;walk_at "d";refine zbg ?_;walk_at "d";refine zm8 ?_;rw [decide_eq_true (show (part ps k).2.1<=a/\b<=(part ps k).2.2 from⟨h1,h3⟩)];walk_at "d";rw [zeK,spD];walk_at "d";rw [zoS (by omega),zlz hk];refine⟨fun z=>?_,?_⟩
 ·have:=z.2;rw [HT.sIx_nat] at this;omega
 ·refine⟨by simp; omega,zjN hk,by simp; omega,?_⟩;have e:PyData.tuple ((ps.take k).map zdM++[.tuple [.str (part ps k).1,.int a,.int b]]++(ps.drop (k+1)).map zdM)=zcf (zaF ps k a b):=by
   unfold zcf zaF;rw [List.map_append,List.append_assoc];rfl
  rw [e];exact q
theorem zaA{ps:List Part}{k:Nat}{a b:Int}(hk:k<ps.length):(zaF ps k a b).length=ps.length:=by
 unfold zaF;simp;omega
theorem zgu{ps:List Part}{k j:Nat}{a b:Int}(hk:k<ps.length)(hj:j<ps.length):part (zaF ps k a b) j=if j=k then ((part ps k).1,a,b) else part ps j:=by
 have e:(zaF ps k a b)[j]? = some (part (zaF ps k a b) j):=zbA (by rw [zaA hk]; exact hj);have lt:(ps.take k).length=k:=by simp; omega
 unfold zaF at e ⊢;by_cases h1:j<k
 ·rw [List.getElem?_append_left (by omega),List.getElem?_take,if_pos h1,zbA hj] at e;rw [if_neg (by omega)];exact(Option.some.inj e).symm
 ·rw [List.getElem?_append_right (by omega),lt] at e;by_cases h2:j=k
  ·subst h2;rw [Nat.sub_self] at e;rw [if_pos rfl];exact(Option.some.inj e).symm
  ·obtain⟨m,hm⟩:∃ m,j - k=m+1:=⟨j - k - 1,by omega⟩;rw [hm,List.getElem?_cons_succ,List.getElem?_drop,show k+1+m=j by omega,zbA hj] at e;rw [if_neg h2];exact(Option.some.inj e).symm
theorem zl5{ps:List Part}{k:Nat}{a b:Int}{ms:List Int}(hk:k<ps.length)(h1:plo ps k<=a)(h3:b<=phi ps k)(h:InBox (zaF ps k a b) ms):InBox ps ms:=by
 refine⟨by rw [h.len,zaA hk],fun j hj=>?_⟩;have:=h.ok j (by rw [zaA hk]; exact hj);unfold plo phi at this ⊢;unfold plo at h1;unfold phi at h3;rw [zgu hk hj] at this;by_cases e:j=k
 ·subst e;rw [if_pos rfl] at this;simp only at this;omega
 ·rw [if_neg e] at this;exact this
theorem zhE{ps:List Part}{k:Nat}{a b:Int}(hd:Drw ps)(hk:k<ps.length)(h1:plo ps k<=a)(h2:a<=b)(h3:b<=phi ps k):Drw (zaF ps k a b):=by
 refine⟨by rw [zaA hk]; exact hd.l1,by rw [zaA hk]; exact hd.l8,fun p m=>?_⟩;unfold zaF at m;rcases List.mem_append.mp m with m | m
 ·exact hd.all p (List.mem_of_mem_take m)
 ·rcases List.mem_cons.mp m with rfl | m
  ·have:=hd.all _ (zaZ hk);have l:=this.lo;have h:=this.hi;unfold plo at h1;unfold phi at h3;exact⟨this.nm,h2,by simp only; omega,by simp only; omega⟩
  ·exact hd.all p (List.mem_of_mem_drop m)
end
section
variable {R:RX}
theorem zlZ{ps:List Part}{i:Nat}{p:Part}(e:ps[i]? = some p):zbn (ps.take (i+1))=zbn (ps.take i)*(p.2.2 - p.2.1+1).toNat:=by
 unfold zbn;rw [zir e,List.map_append,zfL];simp [zgY]
end
section
variable {R:RX} {S:Sto}
theorem zsr{κ α:Type}[DecidableEq κ]{p:κ×α}{r:List (κ×α)}{k:κ}{v:α}(h:p.1≠k):ptA (p :: r) k v=p :: ptA r k v:=by
 unfold ptA;simp only [List.any_cons,decide_eq_false h,Bool.false_or];split
 ·simp [h]
 ·simp
theorem zsp{κ α:Type}[DecidableEq κ]{p:κ×α}{r:List (κ×α)}{k:κ}{v:α}(h:p.1=k)(hn:∀ q∈r,q.1≠k):ptA (p :: r) k v=(k,v) :: r:=by
 unfold ptA;rw [if_pos (by simp [h]),List.map_cons,if_pos h,h];congr 1;have e:List.map (fun p:κ×α=>if p.1=k then (p.1,v) else p) r=List.map id r:=List.map_congr_left fun q m=>if_neg (hn q m);rw [e,List.map_id]
abbrev Tal:=List (Int×Int)
def zb8(t:Tal):List (Key×PyData):=t.map fun p=>((Sum.inl p.1:Key),PyData.int p.2)
def zl6(t:Tal):PyData:=.dict (DD.pairs (.k (zb8 t)))
def tsum(t:Tal)(f:Int->Int):Int:=(t.map fun p=>p.2*f p.1).sum
def ind(k:Int):Int->Int:=fun w=>if w=k then 1 else 0
def tget(t:Tal)(k:Int):Int:=tsum t (ind k)
def tadd:Tal->Int->Int->Tal
 | [],k,n=>[(k,n)]
 | p :: r,k,n=>if p.1=k then (k,p.2+n) :: r else p :: tadd r k n
def kys(t:Tal):List Int:=t.map (·.1)
theorem zkU(f:Int->Int):tsum [] f=0:=rfl
theorem zP(p:Int×Int)(t:Tal)(f:Int->Int):tsum (p :: t) f=p.2*f p.1+tsum t f:=by simp [tsum]
theorem zpw(t u:Tal)(f:Int->Int):tsum (t++u) f=tsum t f+tsum u f:=by simp [tsum]
theorem zbH(p:Int×Int)(t:Tal):kys (p :: t)=p.1 :: kys t:=rfl
theorem zh9{p:Int×Int}{t:Tal}(h:p∈t):p.1∈kys t:=List.mem_map.mpr ⟨p,h,rfl⟩
theorem zcx:∀ {t:Tal} {k:Int},k∉kys t->tget t k=0
 | [],_,_=>rfl
 | p :: t,k,h=>by
  rw [zbH,List.mem_cons,not_or] at h;unfold tget;rw [zP,ind,if_neg (Ne.symm h.1)];have:=zcx h.2;unfold tget at this;omega
theorem zk2:∀ {t:Tal} {k:Int},(kys t).Nodup->(lkA (zb8 t) (Sum.inl k)).getD (.int 0)=.int (tget t k)
 | [],_,_=>rfl
 | p :: t,k,h=>by
  rw [zbH,List.nodup_cons] at h;by_cases e:p.1=k
  ·subst e;have h0:=zcx h.1;unfold tget at h0 ⊢;rw [zP,h0,ind,if_pos rfl];simp [zb8,lkA]
  ·have e2:lkA (zb8 (p :: t)) (Sum.inl k)=lkA (zb8 t) (Sum.inl k):=by simp [zb8,lkA,e]
   rw [e2,zk2 h.2];unfold tget;rw [zP,ind,if_neg e,Int.mul_zero,Int.zero_add]
theorem zq0:∀ {t:Tal} {k n:Int},(kys t).Nodup->ptA (zb8 t) (Sum.inl k) (.int (tget t k+n))=zb8 (tadd t k n)
 | [],k,n,_=>by
  have:tget [] k=0:=rfl;rw [this,Int.zero_add];rfl
 | p :: t,k,n,h=>by
  rw [zbH,List.nodup_cons] at h;unfold tadd;by_cases e:p.1=k
  ·rw [if_pos e];subst e;have h0:=zcx h.1;have hg:tget (p :: t) p.1=p.2:=by
    unfold tget at h0 ⊢;rw [zP,h0,ind,if_pos rfl];omega
   rw [hg];refine zsp rfl fun q m z=>?_;obtain⟨x,mx,rfl⟩:=List.mem_map.mp m;have z':x.1=p.1:=by simpa using z
   exact h.1 (z'▸zh9 mx)
  ·rw [if_neg e];have hg:tget (p :: t) k=tget t k:=by
    unfold tget;rw [zP,ind,if_neg e,Int.mul_zero,Int.zero_add]
   rw [hg];show ptA (((Sum.inl p.1:Key),PyData.int p.2) :: zb8 t) _ _=((Sum.inl p.1:Key),PyData.int p.2) :: zb8 (tadd t k n);rw [zsr (by simpa using e),zq0 h.2]
theorem zlh:∀ (t:Tal) (k n:Int) (f:Int->Int),tsum (tadd t k n) f=tsum t f+n*f k
 | [],k,n,f=>by simp [tadd,tsum]
 | p :: t,k,n,f=>by
  unfold tadd;split
  ·rename_i e;rw [zP,zP,e];show (p.2+n)*f k+tsum t f=p.2*f k+tsum t f+n*f k;rw [Int.add_mul]
   (clear e; omega)
  ·rw [zP,zP,zlh t k n f];omega
theorem zj1:∀ {t:Tal} {k n x:Int},x∈kys (tadd t k n)↔x∈kys t\/x=k
 | [],k,n,x=>by simp [tadd,kys]
 | p :: t,k,n,x=>by
  unfold tadd;split
  ·rename_i e;rw [zbH,zbH,List.mem_cons,List.mem_cons,e];constructor
   ·rintro(h | h)
    ·exact .inr h
    ·exact .inl (.inr h)
   ·rintro((h | h) | h)
    ·exact .inl h
    ·exact .inr h
    ·exact .inl h
  ·rw [zbH,zbH,List.mem_cons,List.mem_cons,zj1];exact or_assoc.symm
theorem zpV:∀ {t:Tal} {k n:Int},(kys t).Nodup->(kys (tadd t k n)).Nodup
 | [],k,n,_=>by simp [tadd,kys]
 | p :: t,k,n,h=>by
  rw [zbH,List.nodup_cons] at h;unfold tadd;split
  ·rename_i e;rw [zbH,List.nodup_cons];exact⟨e▸h.1,h.2⟩
  ·rename_i e;rw [zbH,List.nodup_cons];refine⟨fun m=>?_,zpV h.2⟩;rcases zj1.mp m with m | m
   ·exact h.1 m
   ·exact e m
theorem zmI:∀ {t:Tal} {k n:Int},(∀ p∈t,0<p.2)->0<n->∀ p∈tadd t k n,0<p.2
 | [],k,n,_,hn,p,m=>by
  rw [tadd,List.mem_singleton] at m;rw [m];exact hn
 | x :: t,k,n,h,hn,p,m=>by
  unfold tadd at m;split at m
  ·rcases List.mem_cons.mp m with rfl | m
   ·have:=h x List.mem_cons_self;show 0<x.2+n;omega
   ·exact h p (List.mem_cons_of_mem _ m)
  ·rcases List.mem_cons.mp m with rfl | m
   ·exact h _ List.mem_cons_self
   ·exact zmI (fun q mq=>h q (List.mem_cons_of_mem _ mq)) hn p m
theorem zpU:∀ (n:Nat) (lo:Int) (l:List Int),l.Nodup->(∀ x∈l,lo<=x/\x<lo+n)->l.length<=n
 | 0,lo,l,_,h=>by
  cases l with
  | nil=>exact Nat.le_refl _
  | cons x l=>have:=h x List.mem_cons_self; omega
 | n+1,lo,l,hn,h=>by
  have ih:=zpU n lo (l.erase (lo+n)) (hn.erase _) fun x m=>by
   rw [hn.mem_erase_iff] at m;have:=h x m.2;omega
  have:=List.length_erase (a:=lo+(n:Int)) (l:=l);split at this <;> omega
structure Tl(t:Tal)(lo hi:Int):Prop where
 nd:(kys t).Nodup
 bd:∀ x∈kys t,lo<=x/\x<=hi
 pos:∀ p∈t,0<p.2
theorem Tl.len{t:Tal}{lo hi:Int}(h:Tl t lo hi):t.length<=(hi - lo+1).toNat:=by
 have:=zpU (hi - lo+1).toNat lo (kys t) h.nd fun x m=>by
  have:=h.bd x m;omega
 simpa [kys] using this
theorem Tl.add{t:Tal}{lo hi k n:Int}(h:Tl t lo hi)(h1:lo<=k)(h2:k<=hi)(hn:0<n):Tl (tadd t k n) lo hi:=⟨zpV h.nd,fun x m=>by
 rcases zj1.mp m with m | m
 ·exact h.bd x m
 ·rw [m]; exact⟨h1,h2⟩,zmI h.pos hn⟩
theorem Tl.one:Tl [(0,1)] 0 0:=⟨by simp [kys],by simp [kys],by simp⟩
theorem Tl.nil{lo hi:Int}:Tl [] lo hi:=⟨by simp [kys],by simp [kys],by simp⟩
def rsum(a:Int)(n:Nat)(f:Int->Int):Int:=((List.range n).map fun k:Nat=>f (a+k)).sum
theorem zjW(a:Int)(f:Int->Int):rsum a 0 f=0:=rfl
theorem za2(a:Int)(n:Nat)(f:Int->Int):rsum a (n+1) f=rsum a n f+f (a+n):=by
 unfold rsum;rw [List.range_succ,List.map_append,List.sum_append];simp
theorem zfE{a:Int}:∀ {n:Nat} {f g:Int->Int},(∀ x,a<=x->x<a+n->f x=g x)->rsum a n f=rsum a n g
 | 0,f,g,_=>rfl
 | n+1,f,g,h=>by
  rw [za2,za2,zfE (n:=n) fun x h1 h2=>h x h1 (by omega),h (a+n) (by omega) (by omega)]
theorem zkN(a:Int)(f g:Int->Int):∀ n:Nat,rsum a n (fun x=>f x+g x)=rsum a n f+rsum a n g
 | 0=>rfl
 | n+1=>by rw [za2,za2,za2,zkN a f g n]; omega
theorem zk6(a c:Int)(f:Int->Int):∀ n:Nat,rsum a n (fun x=>c*f x)=c*rsum a n f
 | 0=>by simp [zjW]
 | n+1=>by rw [za2,za2,zk6 a c f n,Int.mul_add]
theorem zfD(a c:Int):∀ n:Nat,rsum a n (fun _=>c)=n*c
 | 0=>by simp [zjW]
 | n+1=>by
  rw [za2,zfD a c n,Int.natCast_add,Int.add_mul];simp
theorem zjA{a:Int}{f g:Int->Int}:∀ {n:Nat},(∀ x,a<=x->x<a+n->f x<=g x)->rsum a n f<=rsum a n g
 | 0,_=>Int.le_refl _
 | n+1,h=>by
  rw [za2,za2];have h1:=zjA (n:=n) fun x h1 h2=>h x h1 (by clear h1; omega);have h2:=h (a+n) (by clear h1; omega) (by clear h1; omega);omega
theorem zgp{f:Int->Int}(hf:∀ x,0<=f x):∀ {t:Tal},(∀ p∈t,0<p.2)->0<=tsum t f
 | [],_=>Int.le_refl _
 | p :: t,h=>by
  rw [zP];have h1:=zgp hf fun q m=>h q (List.mem_cons_of_mem _ m);have h2:=Int.mul_nonneg (Int.le_of_lt (h p List.mem_cons_self)) (hf p.1);omega
theorem zqU{f:Int->Int}(hf:∀ x,0<=f x):∀ {t:Tal} {p:Int×Int},(∀ p∈t,0<p.2)->p∈t->p.2*f p.1<=tsum t f
 | q :: t,p,h,m=>by
  rw [zP];have h1:=zgp hf fun q m=>h q (List.mem_cons_of_mem _ m);have h2:=Int.mul_nonneg (Int.le_of_lt (h q List.mem_cons_self)) (hf q.1);rcases List.mem_cons.mp m with rfl | m
  ·omega
  ·have:=zqU hf (fun q m=>h q (List.mem_cons_of_mem _ m)) m;omega
theorem zfj{t:Tal}(nd:(kys t).Nodup){p:Int×Int}(m:p∈t):tget t p.1=p.2:=by
 induction t with
 | nil=>cases m
 | cons q t ih =>
  rw [zbH,List.nodup_cons] at nd;unfold tget at ih ⊢;rw [zP];rcases List.mem_cons.mp m with rfl | m
  ·have:=zcx nd.1;unfold tget at this;rw [this,ind,if_pos rfl];omega
  ·have ne:q.1≠p.1:=fun z=>nd.1 (z▸zh9 m);rw [ih nd.2 m,ind,if_neg ne];omega
abbrev Row:=Int×Nat×Int
def fw:List Row->(Int->Int)->Int
 | [],f=>f 0
 | r :: rs,f=>rsum r.1 r.2.1 fun x=>fw rs fun w=>f (w+r.2.2*x)
theorem zqS(c:Int):∀ (rs:List Row) (f:Int->Int),fw rs (fun w=>c*f w)=c*fw rs f
 | [],f=>rfl
 | r :: rs,f=>by
  unfold fw;rw [<- zk6];exact zfE fun x _ _=>zqS c rs _
theorem zis:∀ (rs:List Row) {f g:Int->Int},(∀ w,f w<=g w)->fw rs f<=fw rs g
 | [],f,g,h=>h 0
 | r :: rs,f,g,h=>by
  unfold fw;exact zjA fun x _ _=>zis rs fun w=>h _
def busy(rs:List Row):List Row:=rs.filter fun r=>r.2.2 != 0
theorem znP:∀ rs:List Row,fw rs (fun _=>1)=(rs.map fun r=>(r.2.1:Int)).prod
 | []=>rfl
 | r :: rs=>by
  show (rsum r.1 r.2.1 fun x=>fw rs fun _=>1)=_;rw [znP rs,zfD,List.map_cons,List.prod_cons]
def rLo(r:Row):Int:=min (r.2.2*r.1) (r.2.2*(r.1+r.2.1 - 1))
def rHi(r:Row):Int:=max (r.2.2*r.1) (r.2.2*(r.1+r.2.1 - 1))
def zl1(rs:List Row):Int:=(rs.map rLo).sum
def zlT(rs:List Row):Int:=(rs.map rHi).sum
theorem zsS(r:Row):rLo r<=rHi r:=by unfold rLo rHi; omega
theorem ztg{r:Row}{x:Int}(h1:r.1<=x)(h2:x<r.1+r.2.1):rLo r<=r.2.2*x/\r.2.2*x<=rHi r:=by
 unfold rLo rHi;have h3:x<=r.1+r.2.1 - 1:=by omega
 rcases Int.le_total 0 r.2.2 with h | h
 ·have a1:=Int.mul_le_mul_of_nonneg_left h1 h;have a2:=Int.mul_le_mul_of_nonneg_left h3 h;omega
 ·have a1:=Int.mul_le_mul_of_nonpos_left h h1;have a2:=Int.mul_le_mul_of_nonpos_left h h3;omega
theorem zfx(t:Tal):DD.itemsD (zb8 t)=t.map fun p=>PyData.tuple [.int p.1,.int p.2]:=by
 unfold DD.itemsD zb8;rw [List.map_map];rfl
theorem zgH{g:DG}{b:DSm}{E:DEndsM}:∀ {ds:List PyData} {δ:XE} {S:Sto} {M:DM} (I:Nat->XE->Sto->DM->Prop),I 0 δ S M ->
  (∀ i d δ S M (N:XE->Sto->DM->Prop),ds[i]? = some d->I i δ S M->(∀ δ' S' M',I (i+1) δ' S' M'->N δ' S' M')->g (.d d) δ S fun δ1 S1=>b { nx:=N,ct:=N,bk:=E.nx,rt:=E.rt } δ1 S1 M) ->
  (∀ δ S M,I ds.length δ S M->E.nx δ S M)->zfX g b ds E δ S M
 | [],δ,S,M,I,h0,_,fin=>fin δ S M h0
 | d :: ds,δ,S,M,I,h0,step,fin=>by
  show g (.d d) δ S fun δ1 S1=>b _ δ1 S1 M;refine step 0 d δ S M _ rfl h0 fun δ' S' M' h1=>?_;exact zgH (ds:=ds) (fun i=>I (i+1)) h1 (fun i e δ S M N hi=>step (i+1) e δ S M N (by simpa using hi)) fin
theorem zj5(g:Gap)(w:Int):∀ t:Tal,((t.filter fun p=>decide (g.lo<=w+p.1) && decide (w+p.1<=g.hi)).map (·.2)).sum=tsum t fun x=>if g.lo<=w+x/\w+x<=g.hi then 1 else 0
 | []=>rfl
 | p :: t=>by
  rw [zP,<- zj5 g w t];by_cases h1:g.lo<=w+p.1 <;> by_cases h2:w+p.1<=g.hi <;> simp [h1,h2]
def inG(g:Gap)(w:Int):Int->Int:=fun x=>if g.lo<=w+x/\w+x<=g.hi then 1 else 0
theorem zg8{t:Tal}{g:Gap}{w:Int}(hl:t.length<=1000)(q:R (.d (.int (tsum t (inG g w)))) []):zcl [.d (zl6 t),.d (zf2 g),.d (.int w)] [] R:=by
 unfold zcl;rw [zl6,zcG];walk_at "d";refine⟨_,rfl,?_⟩;rw [zfx];refine cmf2 (S0:=[]) (fun p:Int×Int=>PyData.int p.2) (fun p=>decide (g.lo<=w+p.1) && decide (w+p.1<=g.hi)) rfl t hl ?_ ?_
 ·intro p m u v acc R' hk;walk_at "d";by_cases h1:g.lo<=w+p.1
  ·simp only [h1,decide_true,↓reduceIte,Bool.true_and] at hk ⊢;walk_at "d";refine hk _ _ fun _ T hT=>?_;walk_at "d";exact hT
  ·simp only [h1,decide_false,Bool.false_and,Bool.false_eq_true,↓reduceIte] at hk ⊢;walk_at "d";exact hk _ _ fun z=>by cases z
 ·refine⟨[],_,rfl,rfl,?_⟩;walk_at "d";refine⟨(t.filter fun p=>decide (g.lo<=w+p.1) && decide (w+p.1<=g.hi)).map (·.2),by rw [List.map_map]; rfl,?_⟩;rw [zj5 g w t];exact q
theorem zlv:∀ (kvs acc:List (Key×PyData)),((acc++kvs).map (·.1)).Nodup->kvs.foldl (fun m p=>ptA m p.1 p.2) acc=acc++kvs
 | [],acc,_=>by simp
 | p :: r,acc,h=>by
  have e:ptA acc p.1 p.2=acc++[p]:=by
   unfold ptA;rw [if_neg];rw [List.any_eq_true];rintro⟨x,m,e⟩;rw [List.map_append,List.nodup_append] at h;exact h.2.2 x.1 (List.mem_map.mpr ⟨x,m,rfl⟩) p.1 (List.mem_map.mpr ⟨p,List.mem_cons_self,rfl⟩) (of_decide_eq_true e)
  rw [List.foldl_cons,e,zlv r (acc++[p]) (by rw [List.append_assoc]; exact h),List.append_assoc];rfl
theorem zii{kvs:List (Key×PyData)}(h:(kvs.map (·.1)).Nodup):zjZ kvs=kvs:=by
 unfold zjZ;rw [zlv kvs [] (by simpa using h)];rfl
theorem zpR(t:Tal):(zb8 t).map (·.1)=(kys t).map fun x=>(Sum.inl x:Key):=by
 unfold zb8 kys;rw [List.map_map,List.map_map];rfl
theorem zka{t:Tal}(h:(kys t).Nodup):((zb8 t).map (·.1)).Nodup:=by
 rw [zpR];exact List.Pairwise.map _ (fun a b ne e=>ne (by injection e)) h
def cnt(a b:Int):Nat:=(b - a+1).toNat
theorem zhN(c:Int)(f:Int->Int):∀ t:Tal,tsum (t.map fun p=>(p.1,p.2*c)) f=c*tsum t f
 | []=>by simp [tsum]
 | p :: t=>by
  rw [List.map_cons,zP,zP,zhN c f t,Int.mul_add];simp only;rw [Int.mul_assoc,Int.mul_left_comm]
theorem zrW{α:Type}{l:List α}{i:Nat}{x:α}(h:l[i]? = some x):l.take (i+1)=l.take i++[x]:=by
 rw [List.take_add_one,h];rfl
theorem ziZ{t:Tal}{a b m lo hi:Int}(ht:Tl t lo hi)(hab:a<=b)(hl:t.length<=900)(hv:m=0->(∀ p∈t,p.2<2 ^ 1700)/\b - a+1<2 ^ 1700)
  (hm:m≠0->-3<=m/\m<=3) (hw:m≠0->hi+rHi (a,cnt a b,m) - (lo+rLo (a,cnt a b,m))<900)
  (q:∀ t',Tl t' (lo+rLo (a,cnt a b,m)) (hi+rHi (a,cnt a b,m))->(∀ f,tsum t' f=rsum a (cnt a b) fun x=>tsum t fun w=>f (w+m*x))->R (.d (zl6 t')) []):zdA [.d (zl6 t),.d (spD a b),.d (.int m)] [] R:=by
 unfold zdA;rw [zl6];walk_at "d";refine seq1 ?_;walk_at "d";by_cases h0:m=0
 ·subst h0;obtain⟨hv1,hv2⟩:=hv rfl;walk_at "d";refine⟨_,rfl,?_⟩;rw [zfx];refine cmp2 (S0:=[]) (fun p:Int×Int=>PyData.tuple [.int p.1,.int (p.2*(b - a+1))]) rfl t (by omega) ?_ ?_
  ·intro p mp u v acc R' hk;walk_at "d";refine zbX ?_;walk_at "d";have hp:=ht.pos p mp;have hb:=hv1 p mp;exact⟨zmE 1700 1700 (by omega) (by omega),hk _ _⟩
  ·refine⟨[],_,rfl,rfl,?_⟩;walk_at "d";refine⟨zb8 (t.map fun p=>(p.1,p.2*(b - a+1))),by unfold zb8; rw [List.map_map,List.map_map]; rfl,by simp [zb8]; omega,?_⟩;have nk:(kys (t.map fun p=>(p.1,p.2*(b - a+1))))=kys t:=by unfold kys; rw [List.map_map]; rfl
   rw [zii (zka (by rw [nk]; exact ht.nd))];have z0:rLo (a,cnt a b,0)=0:=by simp [rLo]
   have z1:rHi (a,cnt a b,0)=0:=by simp [rHi]
   refine q _ ⟨by rw [nk]; exact ht.nd,by rw [nk,z0,z1]; simpa using ht.bd,fun p mp=>?_⟩ fun f=>?_
   ·obtain⟨x,mx,rfl⟩:=List.mem_map.mp mp;exact Int.mul_pos (ht.pos x mx) (by omega)
   ·have e:(fun x:Int=>tsum t fun w=>f (w+0*x))=fun _=>tsum t f:=by
     funext x;congr 1;funext w;simp
    rw [zhN,e,zfD];congr 1;unfold cnt;omega
 ·obtain⟨m1,m2⟩:=hm h0;have hw':=hw h0;rw [if_neg h0];refine seq1 ?_;walk_at "d";intro ad _;unfold spD;walk_at "d";have ec:(b+1 - a).toNat=cnt a b:=by unfold cnt; congr 1; omega
  rw [ec];refine zgH (fun i δ S M=>∃ (t':Tal) (u4 u5 u6 u7:Option XV),S=[]/\M=[(ad,.k (zb8 t'))]/\Tl t' (lo+rLo (a,cnt a b,m)) (hi+rHi (a,cnt a b,m))/\(∀ f,tsum t' f=rsum a i fun x=>tsum t fun w=>f (w+m*x))/\δ=[some (.d (.dict (DD.pairs (.k (zb8 t))))),some (.d (.tuple [.int a,.int b])),some (.d (.int m)),some (.o (.ref ad)),u4,u5,u6,u7]) ⟨[],_,_,_,_,rfl,rfl,Tl.nil,fun f=>rfl,rfl⟩ ?_ ?_
  ·rintro i d _ _ _ N hii ⟨t1,u4,u5,u6,u7,rfl,rfl,ht1,hs1,rfl⟩ hN;obtain⟨hi',rfl⟩:=zcC hii;walk_at "d";refine⟨_,rfl,?_⟩;rw [zfx];refine zgH (fun j δ S M=>∃ (t':Tal) (u5 u6 u7:Option XV),S=[]/\M=[(ad,.k (zb8 t'))]/\Tl t' (lo+rLo (a,cnt a b,m)) (hi+rHi (a,cnt a b,m))/\(∀ f,tsum t' f=tsum t1 f+tsum (t.take j) fun w=>f (w+m*(a+i)))/\δ=[some (.d (.dict (DD.pairs (.k (zb8 t))))),some (.d (.tuple [.int a,.int b])),some (.d (.int m)),some (.o (.ref ad)),some (.d (.int (a+i))),u5,u6,u7]) ⟨t1,_,_,_,rfl,rfl,ht1,fun f=>by simp [tsum],rfl⟩ ?_ ?_
   ·rintro j d _ _ _ N2 hj ⟨t2,v5,v6,v7,rfl,rfl,ht2,hs2,rfl⟩ hN2;obtain⟨p,ep,rfl⟩:=zdT hj;have mp:=List.mem_of_getElem? ep;have hpos:=ht.pos p mp;have hbd:=ht.bd p.1 (zh9 mp);have hr:=ztg (r:=(a,cnt a b,m)) (x:=a+i) (by show a<=a+i; omega) (by show a+(i:Int)<a+(cnt a b:Nat); omega);have hr1:rLo (a,cnt a b,m)<=m*(a+i):=hr.1;have hr2:m*(a+i)<=rHi (a,cnt a b,m):=hr.2;have h3:=ht2.add (k:=p.1+m*(a+i)) (n:=p.2) (by omega) (by omega) hpos;have hlen:=ht2.len;walk_at "d";refine seqm ?_;walk_at "d";refine⟨zcQ (by omega) (by omega),?_⟩;walk_at "d";refine⟨.k (zb8 t2),.inl ⟨ad,rfl,by simp⟩,?_⟩;walk_at "d";refine⟨lkA (zb8 t2) (Sum.inl (p.1+m*(a+i))),rfl,?_⟩;rw [zk2 ht2.nd];walk_at "d";refine⟨ad,rfl,?_⟩;walk_at "d";refine⟨.k (zb8 t2),.k (zb8 (tadd t2 (p.1+m*(a+i)) p.2)),by simp,?_,?_,hN2 _ _ _ ⟨tadd t2 (p.1+m*(a+i)) p.2,_,_,_,rfl,?_,h3,fun f=>?_,rfl⟩⟩
    ·show some (DD.k (ptA (zb8 t2) (Sum.inl (p.1+m*(a+i))) (.int (tget t2 (p.1+m*(a+i))+p.2))))=_;rw [zq0 ht2.nd]
    ·show (zb8 t2).length<1000;unfold zb8;rw [List.length_map];omega
    ·simp [zrr]
    ·rw [zlh,hs2 f,zrW ep,zpw,zP,zkU];omega
   ·rintro _ _ _ ⟨t2,v5,v6,v7,rfl,rfl,ht2,hs2,rfl⟩;refine hN _ _ _ ⟨t2,_,_,_,_,rfl,rfl,ht2,fun f=>?_,rfl⟩;rw [List.length_map,List.take_length] at hs2;rw [hs2 f,hs1 f,za2]
  ·rintro _ _ _ ⟨t2,u4,u5,u6,u7,rfl,rfl,ht2,hs2,rfl⟩;rw [zaC] at hs2;refine⟨[],zb8 t2,rfl,rfl,_,rfl,?_⟩;have e:zq7 ad (zb8 t2) (XV.o (V.ref ad))=.d (zl6 t2):=by simp [zq7,zl6]
   rw [e];walk_at "d";exact q t2 ht2 hs2
def tmT(ts:List Term):Tal:=ts.map fun t:Term=>((t.1:Int),t.2)
def ziM(ts:List Term)(k:Nat):Int:=tget (tmT ts) k
theorem zki(ts:List Term):kys (tmT ts)=ts.map fun t:Term=>(t.1:Int):=by
 unfold kys tmT;rw [List.map_map];rfl
theorem zn9{ts:List Term}(h:ts.Pairwise fun t u=>t.1<u.1):(kys (tmT ts)).Nodup:=by
 rw [zki];exact List.Pairwise.map _ (fun a b l e=>by omega) h
def zdK(ps:List Part)(ts:List Term)(k:Nat):Row:=(plo ps k,cnt (plo ps k) (phi ps k),ziM ts k)
def zoC(ps:List Part)(t:Term):Row:=(plo ps t.1,cnt (plo ps t.1) (phi ps t.1),t.2)
def zdi(ps:List Part)(ts:List Term)(s n:Nat):List Row:=(List.range' s n).map (zdK ps ts)
def zU(ps:List Part)(ts:List Term):List Row:=zdi ps ts 0 ps.length
theorem zgT(t:Term)(ts:List Term)(k:Nat):ziM (t :: ts) k=(if t.1=k then t.2 else 0)+ziM ts k:=by
 unfold ziM tget tmT;rw [List.map_cons,zP];unfold ind;by_cases h:t.1=k
 ·simp [h]
 ·have:¬ ((t.1:Int)=(k:Int)):=by omega
  simp [h,this]
theorem zjJ{ts:List Term}{k:Nat}(h:∀ t∈ts,t.1≠k):ziM ts k=0:=by
 refine zcx fun m=>?_;rw [zki] at m;obtain⟨t,mt,e⟩:=List.mem_map.mp m;exact h t mt (by omega)
theorem zgw(ps:List Part):∀ (n s:Nat) (ts:List Term),(∀ t∈ts,s<=t.1/\t.1<s+n/\t.2≠0)->(ts.Pairwise fun t u=>t.1<u.1)->busy (zdi ps ts s n)=ts.map (zoC ps)
 | 0,s,ts,h,_=>by
  cases ts with
  | nil=>rfl
  | cons t ts=>have:=h t List.mem_cons_self; omega
 | n+1,s,ts,h,hp=>by
  have hc:∀ ts':List Term,(∀ k,s+1<=k->ziM ts k=ziM ts' k)->zdi ps ts (s+1) n=zdi ps ts' (s+1) n:=fun ts' e=>by
   unfold zdi;refine List.map_congr_left fun k m=>?_;rw [List.mem_range'] at m;obtain⟨i,_,e'⟩:=m;unfold zdK;rw [e k (by omega)]
  have er:zdi ps ts s (n+1)=zdK ps ts s :: zdi ps ts (s+1) n:=by
   unfold zdi;rw [List.range'_succ,List.map_cons]
  rw [er];have skip:(∀ t∈ts,s+1<=t.1)->busy (zdK ps ts s :: zdi ps ts (s+1) n)=ts.map (zoC ps):=fun h1=>by
   have e0:ziM ts s=0:=zjJ fun t m=>by have:=h1 t m; omega
   have eb:busy (zdK ps ts s :: zdi ps ts (s+1) n)=busy (zdi ps ts (s+1) n):=by simp [busy,zdK,e0]
   rw [eb];exact zgw ps n (s+1) ts (fun t m=>⟨h1 t m,by have:=h t m; (clear e0; omega),(h t m).2.2⟩) hp
  cases ts with
  | nil=>exact skip fun t m=>by cases m
  | cons t ts =>
   rw [List.pairwise_cons] at hp;have ht:=h t List.mem_cons_self;by_cases e:t.1=s
   ·have e0:ziM (t :: ts) s=t.2:=by
     rw [zgT,if_pos e,zjJ fun u m=>by have:=hp.1 u m; (clear e hp; omega)]
     (clear e ht hp; omega)
    have eb:busy (zdK ps (t :: ts) s :: zdi ps (t :: ts) (s+1) n)=zoC ps t :: busy (zdi ps (t :: ts) (s+1) n):=by
     have:zdK ps (t :: ts) s=zoC ps t:=by unfold zdK zoC; rw [e0,e]
     rw [this];simp [busy,zoC,ht.2.2]
    rw [eb,hc ts fun k hk=>by rw [zgT,if_neg (by clear e0 ht hp; omega),Int.zero_add],zgw ps n (s+1) ts (fun u m=>⟨by have:=hp.1 u m; (clear e0 e hp; omega),by have:=h u (List.mem_cons_of_mem _ m); (clear e0 e ht hp; omega),(h u (List.mem_cons_of_mem _ m)).2.2⟩) hp.2];rfl
   ·exact skip fun u m=>by
     rcases List.mem_cons.mp m with rfl | m
     ·(clear hp; omega)
     ·have:=hp.1 u m; (clear e hp; omega)
theorem zkh{ps:List Part}{ts:List Term}(h:Tms ps.length ts):busy (zU ps ts)=ts.map (zoC ps) :=
 zgw ps ps.length 0 ts (fun t m=>⟨Nat.zero_le _,by have:=(h.ok t m).1; omega,(h.ok t m).2.1⟩) h.srt
theorem zoK{r:Row}(h:r.2.2=0):rLo r=0:=by unfold rLo; rw [h]; simp
theorem zo7{r:Row}(h:r.2.2=0):rHi r=0:=by unfold rHi; rw [h]; simp
theorem zla:∀ rs:List Row,zl1 rs=zl1 (busy rs)/\zlT rs=zlT (busy rs)
 | []=>⟨rfl,rfl⟩
 | r :: rs=>by
  have ih:=zla rs;unfold zl1 zlT at *;by_cases h:r.2.2=0
  ·have eb:busy (r :: rs)=busy rs:=by simp [busy,h]
   rw [eb,List.map_cons,List.map_cons,List.sum_cons,List.sum_cons,zoK h,zo7 h,Int.zero_add,Int.zero_add];exact ih
  ·have eb:busy (r :: rs)=r :: busy rs:=by simp [busy,h]
   rw [eb,List.map_cons,List.map_cons,List.map_cons,List.map_cons,List.sum_cons,List.sum_cons,List.sum_cons,List.sum_cons,ih.1,ih.2];exact⟨rfl,rfl⟩
theorem zjP{ps:List Part}{t:Term}(h:plo ps t.1<=phi ps t.1):rLo (zoC ps t)=tLo ps t/\rHi (zoC ps t)=tHi ps t:=by
 unfold rLo rHi zoC tLo tHi cnt;have e:plo ps t.1+((phi ps t.1 - plo ps t.1+1).toNat:Int) - 1=phi ps t.1:=by omega
 simp only;rw [e];exact⟨rfl,rfl⟩
theorem zkK{ps:List Part}{ts:List Term}(ho:Ord ps)(h:Tms ps.length ts):zl1 (zU ps ts)=zD ps ts/\zlT (zU ps ts)=zak ps ts:=by
 have hb:=zla (zU ps ts);rw [zkh h] at hb;rw [hb.1,hb.2];unfold zl1 zlT zD zak;rw [List.map_map,List.map_map];constructor
 ·congr 1;exact List.map_congr_left fun t m=>(zjP (ho _ (zaZ (h.ok t m).1))).1
 ·congr 1;exact List.map_congr_left fun t m=>(zjP (ho _ (zaZ (h.ok t m).1))).2
theorem zcv(ps:List Part)(ts:List Term):(zU ps ts).length=ps.length:=by simp [zU,zdi]
theorem zkz{ps:List Part}{ts:List Term}{k:Nat}(h:k<ps.length):(zU ps ts).drop k=zdK ps ts k :: (zU ps ts).drop (k+1):=by
 rw [List.drop_eq_getElem_cons (by rw [zcv]; exact h)];congr 1;simp [zU,zdi]
theorem ziq(rs:List Row):∀ k,zlT (rs.drop k) - zl1 (rs.drop k)<=zlT rs - zl1 rs
 | 0=>by simp
 | k+1=>by
  cases rs with
  | nil=>simp
  | cons r rs =>
   have:=ziq rs k;have h2:=zsS r;rw [List.drop_succ_cons];unfold zlT zl1 at *;rw [List.map_cons,List.map_cons,List.sum_cons,List.sum_cons];omega
structure Gd(ps:List Part)(ts:List Term)(k:Nat)(t:Tal):Prop where
 tl:Tl t (zl1 ((zU ps ts).drop k)) (zlT ((zU ps ts).drop k))
 fw:∀ f,tsum t f=My.fw ((zU ps ts).drop k) f
def Bnd(ps:List Part):Prop:=∀ p∈ps,p.2.2 - p.2.1+1<2 ^ 200
theorem zom{B:Int}(hB:1<=B):∀ l:List Int,(∀ x∈l,0<=x/\x<=B)->0<=l.prod/\l.prod<=B ^ l.length
 | [],_=>by simp
 | x :: l,h=>by
  have ih:=zom hB l fun y m=>h y (List.mem_cons_of_mem _ m);have hx:=h x List.mem_cons_self;rw [List.prod_cons,List.length_cons,Int.pow_succ,Int.mul_comm _ B];exact⟨Int.mul_nonneg hx.1 ih.1,Int.mul_le_mul hx.2 ih.2 ih.1 (by clear hx ih; omega)⟩
theorem zpA{B:Int}(hB:1<=B){n m:Nat}(h:n<=m):B ^ n<=B ^ m:=by
 obtain⟨k,rfl⟩:=Nat.exists_eq_add_of_le h;rw [Int.pow_add];have h1:1<=B ^ k:=by
  have:0<B ^ k:=Int.pow_pos (by omega);omega
 have h2:0<B ^ n:=Int.pow_pos (by omega);have:=Int.mul_le_mul_of_nonneg_left h1 (Int.le_of_lt h2);omega
theorem zqE{ps:List Part}{ts:List Term}(ho:Ord ps)(hb:Bnd ps)(h8:ps.length<=8)(k:Nat):fw ((zU ps ts).drop k) (fun _=>1)<2 ^ 1700:=by
 rw [znP];have h:=zom (B:=2 ^ 200) (by decide) (((zU ps ts).drop k).map fun r=>(r.2.1:Int)) fun x m=>by
  obtain⟨r,mr,rfl⟩:=List.mem_map.mp m;have mr:=List.mem_of_mem_drop mr;unfold zU zdi at mr;obtain⟨j,mj,rfl⟩:=List.mem_map.mp mr;have hj:j<ps.length:=by rw [List.mem_range'] at mj; omega
  have h1:=ho _ (zaZ hj);have h2:=hb _ (zaZ hj);unfold zdK cnt plo phi;simp only;omega
 have hl:(((zU ps ts).drop k).map fun r=>(r.2.1:Int)).length<=8:=by rw [List.length_map,List.length_drop,zcv]; omega
 have:=zpA (B:=2 ^ 200) (by decide) hl;have e:((2:Int) ^ 140) ^ 8<2 ^ 1700:=by decide +kernel
 omega
theorem Gd.val{ps:List Part}{ts:List Term}{k:Nat}{t:Tal}(g:Gd ps ts k t)(ho:Ord ps)(hb:Bnd ps)(h8:ps.length<=8):∀ p∈t,p.2<2 ^ 1700:=fun p m=>by
 have h:=zqU (f:=fun _=>1) (fun _=>by decide) g.tl.pos m;have h2:=zqE (ts:=ts) ho hb h8 k;rw [<- g.fw] at h2;omega
theorem Gd.len{ps:List Part}{ts:List Term}{k:Nat}{t:Tal}(g:Gd ps ts k t)(ho:Ord ps)(ht:Tms ps.length ts)(hr:zak ps ts - zD ps ts<400):t.length<=400:=by
 have h1:=g.tl.len;have h2:=ziq (zU ps ts) k;have h3:=zkK ho ht;rw [h3.1,h3.2] at h2
 (clear h3; omega)
theorem zrw{n:Nat}{ts:List Term}(h:Tms n ts)(k:Nat):ziM ts k=0\/∃ t∈ts,t.1=k/\ziM ts k=t.2:=by
 by_cases hk:(k:Int)∈kys (tmT ts)
 ·rw [zki] at hk;obtain⟨t,mt,e⟩:=List.mem_map.mp hk;refine .inr ⟨t,mt,by omega,?_⟩;have:=zfj (zn9 h.srt) (p:=((t.1:Int),t.2)) (List.mem_map.mpr ⟨t,mt,rfl⟩);unfold ziM;rw [<- e];exact this
 ·exact .inl (zcx hk)
theorem zfn{ps:List Part}{g:Gap}(ho:Ord ps)(hb:Bnd ps)(h8:ps.length<=8)(ht:Tms ps.length g.ts)(hr:zak ps g.ts - zD ps g.ts<400)
  (q:∀ T:List Tal,T.length=ps.length+1->(∀ k t,T[k]? = some t->Gd ps g.ts k t)->R (.d (.list (T.map zl6))) []):zca [.d (zcf ps),.d (zf2 g)] [] R:=by
 unfold zca;rw [zcG,zcf];walk_at "d"
 (refine seq1 ?_; walk_at "d")
 refine zpr (ps:=ps) (g:=g) (ht.tm3 h8) ?_;walk_at "d";refine zbX ?_;walk_at "d";refine seq1 ?_;walk_at "d";rw [if_neg (by omega)];refine seq1 ?_;unfold zjr;walk_at "d";refine⟨zb8 (tmT g.ts),by unfold zb8 tmT; rw [List.map_map,List.map_map]; rfl,by have:=ht.len; simp [zb8,tmT]; omega,?_⟩;rw [zii (zka (zn9 ht.srt))]
 (refine seq1 ?_; walk_at "d")
 refine cut (fun δ S=>∃ (L:List Tal) (u5:Option XV),L.length=ps.length+1/\(∀ j t,L[j]? = some t->Gd ps g.ts (ps.length - j) t)/\S=[L.map zl6]/\δ=[some (.d (.tuple (ps.map zdM))),some (.d (.tuple [.tuple (g.ts.map tmD),.int g.lo,.int g.hi])),some (.d (.int (zak ps g.ts - zD ps g.ts+1))),some (.d (.dict (DD.pairs (.k (zb8 (tmT g.ts)))))),some (.l 0),u5]) (fun N hN=>?_) ?_
 ·walk_at "d";refine⟨_,_,⟨rfl,rfl⟩,⟨by omega,by omega⟩,by decide,?_⟩;have en:((ps.length:Int) - 1 - -1).toNat=ps.length:=by omega
  rw [en];have er:zl1 ([]:List Row)=0/\zlT ([]:List Row)=0:=⟨rfl,rfl⟩;refine zaY (fun i δ S=>∃ (L:List Tal) (u5:Option XV),L.length=i+1/\(∀ j t,L[j]? = some t->Gd ps g.ts (ps.length - j) t)/\S=[L.map zl6]/\δ=[some (.d (.tuple (ps.map zdM))),some (.d (.tuple [.tuple (g.ts.map tmD),.int g.lo,.int g.hi])),some (.d (.int (zak ps g.ts - zD ps g.ts+1))),some (.d (.dict (DD.pairs (.k (zb8 (tmT g.ts)))))),some (.l 0),u5]) ⟨[[(0,1)]],_,rfl,fun j t e=>?_,rfl,rfl⟩ ?_ ?_
  ·cases j with
   | succ j=>cases e
   | zero =>
    cases e;have ed:(zU ps g.ts).drop (ps.length - 0)=[]:=List.drop_of_length_le (by rw [zcv]; omega);refine⟨by rw [ed]; exact Tl.one,fun f=>?_⟩;rw [ed];show 1*f 0+0=f 0;omega
  ·rintro i d _ _ N hii ⟨L,u5,hl,hL,rfl,rfl⟩ hN;obtain⟨hi',rfl⟩:=zgR hii;have hk:ps.length - 1 - i<ps.length:=by omega
   have ek:((ps.length:Int) - 1 - i)=((ps.length - 1 - i:Nat):Int):=by omega
   rw [ek];have hli:i<L.length:=by omega
   have el:=List.getElem?_eq_getElem hli;have gd:=hL i _ el;have e1:ps.length - i=ps.length - 1 - i+1:=by omega
   rw [e1] at gd;generalize L[i]=t at el gd;generalize hkk:ps.length - 1 - i=k at *;have edr:=zkz (ts:=g.ts) hk;walk_at "d";refine⟨zl6 t,?_,?_⟩
   ·obtain⟨r,er⟩:=List.getLast?_eq_some_iff.mp (show (L.map zl6).getLast? = some (zl6 t) by
     rw [List.getLast?_eq_getElem?,List.length_map,hl,Nat.add_sub_cancel,List.getElem?_map,el];rfl)
    rw [er];exact zpH _ _
   ·walk_at "d";refine⟨_,zcO (zbA hk),?_⟩;walk_at "d";refine zbg ?_;walk_at "d";refine⟨.k (zb8 (tmT g.ts)),.inr ⟨_,rfl,rfl⟩,?_⟩;walk_at "d";refine⟨lkA (zb8 (tmT g.ts)) (Sum.inl (k:Int)),rfl,?_⟩;rw [zk2 (zn9 ht.srt)];walk_at "d";have hbd:ziM g.ts k=0\/∃ t∈g.ts,t.1=k/\ziM g.ts k=t.2:=zrw ht k;have hcons:zl1 ((zU ps g.ts).drop k)=rLo (zdK ps g.ts k)+zl1 ((zU ps g.ts).drop (k+1))/\zlT ((zU ps g.ts).drop k)=rHi (zdK ps g.ts k)+zlT ((zU ps g.ts).drop (k+1)):=by
     rw [edr];unfold zl1 zlT;simp
    have hdr:=ziq (zU ps g.ts) k;have hen:=zkK ho ht;rw [hen.1,hen.2] at hdr;refine ziZ (t:=t) (a:=plo ps k) (b:=phi ps k) (m:=ziM g.ts k) gd.tl (ho _ (zaZ hk)) (by have:=gd.len ho ht hr; omega) (fun _=>⟨gd.val ho hb h8,by have:=hb _ (zaZ hk); unfold phi plo; omega⟩) (fun h0=>?_) (fun h0=>?_) fun t' ht' hs'=>?_
    ·rcases hbd with h | ⟨u,mu,_,e⟩
     ·exact absurd h h0
     ·rw [e];exact(ht.ok u mu).2.2
    ·show _+rHi (zdK ps g.ts k) - (_+rLo (zdK ps g.ts k))<900;omega
    ·walk_at "d";refine⟨by first | omega | (simp; omega),hN _ _ ⟨L++[t'],_,by simp [hl],fun j u ej=>?_,by simp,rfl⟩⟩;by_cases hj:j<L.length
     ·rw [List.getElem?_append_left hj] at ej;exact hL j u ej
     ·have hj2:j=L.length:=by
       have:=(List.getElem?_eq_some_iff.mp ej).1;simp at this;omega
      subst hj2;rw [List.getElem?_concat_length] at ej;cases ej;have e4:ps.length - L.length=k:=by omega
      rw [e4];refine⟨?_,fun f=>?_⟩
      ·rw [hcons.1,hcons.2,Int.add_comm (rLo _),Int.add_comm (rHi _)];exact ht'
      ·rw [hs' f,edr];show _=rsum (plo ps k) (cnt (plo ps k) (phi ps k)) fun x=>fw ((zU ps g.ts).drop (k+1)) fun w=>f (w+ziM g.ts k*x);exact zfE fun x _ _=>gd.fw _
  ·rintro _ _ ⟨L,u5,hl,hL,rfl,rfl⟩;refine hN _ _ ⟨L,u5,?_,hL,rfl,rfl⟩;simpa [zlP] using hl
 rintro _ _ ⟨L,u5,hl,hL,rfl,rfl⟩;refine seq1 ?_;walk_at "d";refine .inl ?_;rw [<- List.map_reverse];refine q L.reverse (by simpa using hl) fun k t ek=>?_;have hk:k<L.length:=by simpa using (List.getElem?_eq_some_iff.mp ek).1
 rw [List.getElem?_reverse hk] at ek;have:=hL _ t ek
 rwa [show ps.length - (L.length - 1 - k)=k by omega] at this
theorem zhl:∀ l:List Nat,((zgY l:Nat):Int)=(l.map fun n:Nat=>(n:Int)).prod
 | []=>rfl
 | n :: l=>by
  rw [List.map_cons,List.prod_cons,<- zhl l];show ((n*zgY l:Nat):Int)=_;rw [Int.natCast_mul]
theorem zo4(ps:List Part)(ts:List Term):(zU ps ts).map (fun r=>r.2.1)=ps.map fun p=>(p.2.2 - p.2.1+1).toNat:=by
 apply List.ext_getElem
 ·simp [zcv]
 ·intro i h1 h2;have hi:i<ps.length:=by simpa using h2
  simp [zU,zdi,zdK,cnt,plo,phi,part,hi]
theorem zkf(ps:List Part)(ts:List Term):fw (zU ps ts) (fun _=>1)=(zbn ps:Nat):=by
 rw [znP];unfold zbn;rw [zhl,<- zo4 ps ts,List.map_map];rfl
theorem zh4{ps:List Part}(ho:Ord ps)(hb:Bnd ps)(h8:ps.length<=8):((zbn ps:Nat):Int)<2 ^ 1700:=by
 have:=zqE (ts:=[]) ho hb h8 0;rw [List.drop_zero,zkf] at this;exact this
theorem zd5{ps:List Part}(ho:Ord ps)(hb:Bnd ps)(h8:ps.length<=8)(q:R (.d (.int (zbn ps))) []):zcs [.d (zcf ps)] [] R:=by
 unfold zcs;rw [zcf];walk_at "d"
 (refine seq1 ?_; walk_at "d")
 refine seq1 ?_;walk_at "d";refine zaY (fun i δ S=>∃ (u:Option XV),S=[]/\δ=[some (.d (.tuple (ps.map zdM))),some (.d (.int (zbn (ps.take i)))),u]) ⟨_,rfl,rfl⟩ ?_ ?_
 ·rintro i d _ _ N hi ⟨u,rfl,rfl⟩ hN;obtain⟨p,e,rfl⟩:=zdT hi;have mp:=List.mem_of_getElem? e;have op:=ho p mp;have bp:=hb p mp;have l1:=zh4 (ps:=ps.take i) (fun x m=>ho x (List.mem_of_mem_take m)) (fun x m=>hb x (List.mem_of_mem_take m)) (by rw [List.length_take]; (clear bp op; omega));walk_at "d";refine zbg ?_;walk_at "d";refine zbX ?_;walk_at "d";refine⟨zmE 1700 200 (by clear bp op h8; omega) (by clear l1 h8; omega),hN _ _ ⟨some (.d (zdM p)),rfl,?_⟩⟩;rw [zlZ e,Int.natCast_mul,Int.toNat_of_nonneg (by clear l1 bp h8; omega)]
 ·rintro _ _ ⟨u,rfl,rfl⟩;rw [List.length_map,List.take_length];walk_at "d";exact q
theorem zfK{a b:Nat}(q:R (.d (.int (Nat.gcd a b))) []):zbp [.d (.int a),.d (.int b)] [] R:=by
 unfold zbp;walk_at "d";refine seq1 ?_;refine⟨fun m δ S=>∃ (x y:Nat) (u:Option XV),m=x/\Nat.gcd x y=Nat.gcd a b/\S=[]/\δ=[some (.d (.int x)),some (.d (.int y)),u],⟨a,a,b,_,rfl,rfl,rfl,rfl⟩,?_⟩;rintro m _ _ ⟨x,y,u,rfl,hg,rfl,rfl⟩;walk_at "d";by_cases h0:m=0
 ·subst h0;rw [Nat.gcd_zero_left] at hg;subst hg;walk_at "d";exact q
 ·have h1:¬ ((m:Int)=0):=by omega
  rw [if_pos h1];refine⟨fun δ S=>∃ (x y:Nat) (u:Option XV),x<m/\Nat.gcd x y=Nat.gcd a b/\S=[]/\δ=[some (.d (.int x)),some (.d (.int y)),u],fun δ' S' ⟨x,y,u,hx,e1,e2,e3⟩=>⟨x,hx,x,y,u,rfl,e1,e2,e3⟩,?_⟩;refine seq1 ?_;walk_at "d";refine⟨by omega,?_⟩;refine seq1 ?_;walk_at "d";exact⟨y % m,m,some (.d (.int ((y:Int) % m))),Nat.mod_lt _ (by omega),by rw [<- Nat.gcd_rec]; exact hg,rfl,rfl,rfl⟩
theorem zqx(g:Gap)(w x:Int):0<=inG g w x/\inG g w x<=1:=by
 unfold inG;split <;> omega
def zaQ(ps:List Part)(g:Gap):Int:=fw (zU ps g.ts) (inG g 0)
theorem zmR(ps:List Part)(g:Gap):0<=zaQ ps g:=by
 have:=zis (zU ps g.ts) (f:=fun w=>0*inG g 0 w) (g:=inG g 0) fun w=>by have:=zqx g 0 w; omega
 rw [zqS] at this;unfold zaQ;omega
theorem zoZ(ps:List Part)(g:Gap):zaQ ps g<=(zbn ps:Nat):=by
 rw [<- zkf ps g.ts];exact zis _ fun w=>(zqx g 0 w).2
theorem zar{ps:List Part}{g:Gap}(ho:Ord ps)(hb:Bnd ps)(h8:ps.length<=8)(ht:Tms ps.length g.ts)(hr:zak ps g.ts - zD ps g.ts<400)(q:R (.d (.int (zaQ ps g))) []):zai [.d (zcf ps),.d (zf2 g)] [] R:=by
 unfold zai;walk_at "d";refine zfn ho hb h8 ht hr fun T hl hT=>?_;have e0:=List.getElem?_eq_getElem (l:=T) (i:=0) (by clear hr h8; omega);have gd:=hT 0 _ e0;walk_at "d";refine⟨_,zcW (j:=0) (by rw [List.getElem?_map,e0]; rfl),?_⟩;walk_at "d";refine zg8 (by have:=gd.len ho ht hr; (clear hr h8; omega)) ?_;walk_at "d";rw [gd.fw];exact q
theorem zh8{ps:List Part}{g:Gap}(ho:Ord ps)(hb:Bnd ps)(h8:ps.length<=8)(ht:Tms ps.length g.ts)(hr:zak ps g.ts - zD ps g.ts<400)(h0:0<zbn ps)(q:R (.d (.tuple [.int ((zaQ ps g).toNat / Nat.gcd (zaQ ps g).toNat (zbn ps):Nat),.int (zbn ps / Nat.gcd (zaQ ps g).toNat (zbn ps):Nat)])) []):zfq [.d (zcf ps),.d (zf2 g)] [] R:=by
 unfold zfq;walk_at "d"
 (refine seq1 ?_; walk_at "d")
 refine zar ho hb h8 ht hr ?_;walk_at "d"
 (refine seq1 ?_; walk_at "d")
 refine zd5 ho hb h8 ?_;walk_at "d"
 (refine seq1 ?_; walk_at "d")
 have hk:=zmR ps g;obtain⟨a,ha⟩:=Int.eq_ofNat_of_zero_le hk;rw [ha] at q ⊢;refine zfK ?_;walk_at "d";have hg:0<Nat.gcd a (zbn ps):=Nat.gcd_pos_of_pos_right _ h0;have hz:((Nat.gcd a (zbn ps):Nat):Int).natAbs.log2<9000:=by
  have h1:=Nat.gcd_le_right a h0;have h2:=zh4 ho hb h8;have h3:((Nat.gcd a (zbn ps):Nat):Int)<2 ^ 1700:=by omega
  have:=zc0 (n:=((Nat.gcd a (zbn ps):Nat):Int)) (by omega) h3;omega
 refine .inl ⟨⟨by omega,hz⟩,.inl ⟨⟨by omega,hz⟩,?_⟩⟩;walk_at "d";rw [Int.toNat_natCast,Int.natCast_ediv,Int.natCast_ediv] at q;exact q
end
section
variable {R:RX} {S:Sto}
def wR:List Row->List Int->Int
 | r :: rs,x :: xs=>r.2.2*x+wR rs xs
 | _,_=>0
theorem zmX:∀ (rs:List Row) (b:List Int) (v:Int) (r:Row),rs[b.length]? = some r->wR rs (b++[v])=wR rs b+r.2.2*v
 | [],b,v,r,h=>by simp at h
 | x :: rs,[],v,r,h=>by
  have:x=r:=by simpa using h
  subst this;show x.2.2*v+wR rs []=0+x.2.2*v;have:wR rs []=0:=by cases rs <;> rfl
  omega
 | x :: rs,y :: b,v,r,h=>by
  have ih:=zmX rs b v r (by simpa using h);show x.2.2*y+wR rs (b++[v])=x.2.2*y+wR rs b+r.2.2*v;omega
def zrv:List Row->List (List Int)
 | []=>[[]]
 | r :: rs=>((List.range r.2.1).map fun k:Nat=>r.1+k).flatMap fun x=>(zrv rs).map (x :: ·)
theorem zgJ{α:Type}(f:α->List Int):∀ l:List α,(l.flatMap f).sum=(l.map fun x=>(f x).sum).sum
 | []=>rfl
 | a :: l=>by rw [List.flatMap_cons,List.sum_append,zgJ f l,List.map_cons,List.sum_cons]
theorem zqb:∀ (rs:List Row) (f:Int->Int),fw rs f=((zrv rs).map fun xs=>f (wR rs xs)).sum
 | [],f=>by simp [fw,zrv,wR]
 | r :: rs,f=>by
  unfold fw zrv rsum;rw [List.map_flatMap,zgJ,List.map_map];congr 1;refine List.map_congr_left fun k _=>?_;simp only [Function.comp,List.map_map];rw [zqb rs];congr 1;refine List.map_congr_left fun xs _=>?_;show f (wR rs xs+r.2.2*(r.1+k))=f (r.2.2*(r.1+k)+wR rs xs);rw [Int.add_comm]
theorem zmS:∀ (ps:List Part) (rs:List Row),rs.map (fun r=>(r.1,r.2.1))=ps.map (fun p=>(p.2.1,(p.2.2 - p.2.1+1).toNat))->zrv rs=zj4 ps
 | [],[],_=>rfl
 | [],_ :: _,h=>by cases h
 | _ :: _,[],h=>by cases h
 | p :: ps,r :: rs,h=>by
  rw [List.map_cons,List.map_cons] at h;injection h with h1 h2
  injection h1 with h3 h4
  unfold zrv zj4 ztm rng;rw [zmS ps rs h2,h3,h4]
theorem zpS(ps:List Part)(ts:List Term):zrv (zU ps ts)=zj4 ps:=by
 refine zmS ps _ ?_;apply List.ext_getElem
 ·simp [zcv]
 ·intro i h1 h2;have hi:i<ps.length:=by simpa using h2
  simp [zU,zdi,zdK,cnt,plo,phi,part,hi]
def wB(ts:List Term)(b:List Int):Int:=((ts.filter fun t:Term=>decide (t.1<b.length)).map fun t:Term=>t.2*b.getD t.1 0).sum
theorem zn1(t:Term)(ts:List Term)(b:List Int):wB (t :: ts) b=(if t.1<b.length then t.2*b.getD t.1 0 else 0)+wB ts b:=by
 unfold wB;by_cases h:t.1<b.length
 ·rw [List.filter_cons_of_pos (by simpa using h),List.map_cons,List.sum_cons,if_pos h]
 ·rw [List.filter_cons_of_neg (by simpa using h),if_neg h,Int.zero_add]
theorem znx(b:List Int)(v:Int):∀ ts:List Term,wB ts (b++[v])=wB ts b+ziM ts b.length*v
 | []=>by
  have:ziM [] b.length=0:=rfl;rw [this];simp [wB]
 | t :: ts=>by
  rw [zn1,zn1,znx b v ts,zgT,Int.add_mul];have e:(if t.1<(b++[v]).length then t.2*(b++[v]).getD t.1 0 else 0)=(if t.1<b.length then t.2*b.getD t.1 0 else 0)+(if t.1=b.length then t.2 else 0)*v:=by
   rw [List.length_append,List.length_singleton];by_cases h1:t.1<b.length
   ·rw [if_pos (by omega),if_pos h1,if_neg (by omega),Int.zero_mul,Int.add_zero];congr 1;simp [List.getD_eq_getElem?_getD,List.getElem?_append_left h1]
   ·by_cases h2:t.1=b.length
    ·rw [if_pos (by omega),if_neg h1,if_pos h2,Int.zero_add];congr 1;rw [h2];simp [List.getD_eq_getElem?_getD]
    ·rw [if_neg (by omega),if_neg h1,if_neg h2];simp
  omega
theorem zre{ps:List Part}{ts:List Term}{k:Nat}(h:k<ps.length):(zU ps ts)[k]? = some (zdK ps ts k):=by
 rw [List.getElem?_eq_getElem (by rw [zcv]; exact h)];simp [zU,zdi]
theorem zpE{α:Type}{P:List α->Prop}(h0:P [])(h1:∀ l a,P l->P (l++[a]))(l:List α):P l:=by
 have:∀ l:List α,P l.reverse:=by
  intro l;induction l with
  | nil=>exact h0
  | cons a l ih=>rw [List.reverse_cons]; exact h1 _ _ ih
 rw [<- List.reverse_reverse l];exact this _
theorem zum{ps:List Part}{ts:List Term}(b:List Int):b.length<=ps.length->wR (zU ps ts) b=wB ts b:=by
 refine zpE (P:=fun b=>b.length<=ps.length->wR (zU ps ts) b=wB ts b) (fun _=>?_) (fun b v ih h=>?_) b
 ·have:wR (zU ps ts) []=0:=by cases zU ps ts <;> rfl
  rw [this];unfold wB;rw [List.filter_eq_nil_iff.mpr (fun t m=>by simp)];rfl
 ·rw [List.length_append,List.length_singleton] at h;rw [zmX _ b v _ (zre (by omega)),znx,ih (by omega)];rfl
theorem zoI{n:Nat}{ts:List Term}{one:List Int}(h:∀ t∈ts,t.1<n)(hl:one.length=n):worth ts one=wB ts one:=by
 unfold worth wB;rw [List.filter_eq_self.mpr fun t m=>by simpa [hl] using h t m]
theorem zpK{ps:List Part}{ts:List Term}{one:List Int}(ht:Tms ps.length ts)(hl:one.length=ps.length):wR (zU ps ts) one=worth ts one:=by
 rw [zum one (by omega),zoI (fun t m=>(ht.ok t m).1) hl]
end
section
variable {R:RX} {S:Sto}
theorem Drw.bnd{ps:List Part}(h:Drw ps):Bnd ps:=fun p m=>by
 have:=h.all p m;have h1:=this.lo;have h2:=this.hi;have e1:(10:Int) ^ 58<2 ^ 195:=by decide +kernel
 have e2:(10:Int) ^ 59<2 ^ 197:=by decide +kernel
 have e3:(2:Int) ^ 195+2 ^ 197+1<2 ^ 200:=by decide +kernel
 omega
structure Wid(ws:List Int):Prop where
 l1:1<=ws.length
 l8:ws.length<=8
 ok:∀ x∈ws,1<=x/\x<=400
theorem zhw{ws:List Int}(h:(decide (1<=ws.length) && decide (ws.length<=8) && ws.all fun x=>decide (1<=x/\x<=400))=true):Wid ws:=by
 simp only [Bool.and_eq_true,decide_eq_true_eq,List.all_eq_true] at h;exact⟨h.1.1,h.1.2,h.2⟩
theorem zhb{p:List PyData}(hp:zbo p)(q:∀ (ps:List Part) p',Drw ps->(∀ p∈ps,p.2.1<=10 ^ 58)->zbo p'->R (.d (zcf ps)) [p']):zcn [.l 0] [p] R:=by
 unfold zcn;walk_at "d"
 (refine seq1 ?_; walk_at "d")
 refine zi6 hp fun ns p1 hn hz hp1=>?_;walk_at "d"
 (refine seq1 ?_; walk_at "d")
 refine zG hp1 (by decide) (by decide +kernel) fun r p2 r0 r1 hp2=>?_;walk_at "d";refine zuz (α:=Int) (fun x=>1<=x/\x<=4) PyData.int (fun τ=>∃ u,τ=[u,some (.l 0)]) _ [] p2 _ ⟨_,rfl⟩ hp2 (by rw [zaC]; simp; omega) ?_ ?_
 ·rintro d md _ p acc R' ⟨u,rfl⟩ hp hk;walk_at "d";refine zG hp (by decide) (by decide +kernel) fun r p' r0 r1 hp'=>?_;walk_at "d";exact hk _ _ p' ⟨_,rfl⟩ hp' ⟨by omega,by omega⟩
 ·intro ws p3 hp3 hw hl;rw [zaC] at hl;have hws:Wid ws:=⟨by omega,by omega,fun x m=>by have:=hw x m; omega⟩;rw [List.nil_append];walk_at "d";refine cut (fun δ S=>∃ (p:List PyData) (ws:List Int),zbo p/\Wid ws/\S=[p]/\δ=[some (.l 0),some (.d (.list (ns.map PyData.str))),some (.d (.list (ws.map PyData.int))),none,none,none]) (fun N hN=>?_) ?_
  ·walk_at "d";refine zG hp3 (by decide) (by decide +kernel) fun r4 p4 r40 r41 hp4=>?_;walk_at "d";split
   ·walk_at "d";refine zG hp4 (by decide) (by decide +kernel) fun r5 p5 r6 r7 hp5=>?_;obtain⟨d,ed,ws',rfl,hw'⟩:=zoR (P:=fun d=>∃ ws:List Int,d=.list (ws.map PyData.int)/\Wid ws) (ds:=[PyData.list [.int 400],.list [.int 134],.list [.int 200],.list [.int 60,.int 7,.int 1],.list (List.replicate 8 [PyData.int 2]).flatten,.list [.int 1,.int 100]]) r6 r7 (by
     intro d m;simp only [List.mem_cons,List.not_mem_nil,or_false] at m;rcases m with rfl | rfl | rfl | rfl | rfl | rfl
     ·exact⟨[400],rfl,zhw (by decide)⟩
     ·exact⟨[134],rfl,zhw (by decide)⟩
     ·exact⟨[200],rfl,zhw (by decide)⟩
     ·exact⟨[60,7,1],rfl,zhw (by decide)⟩
     ·exact⟨[2,2,2,2,2,2,2,2],rfl,zhw (by decide)⟩
     ·exact⟨[1,100],rfl,zhw (by decide)⟩)
    walk_at "d";refine⟨_,ed,hN _ _ ⟨p5,ws',hp5,hw',rfl,rfl⟩⟩
   ·exact hN _ _ ⟨p4,ws,hp4,hws,rfl,rfl⟩
  rintro _ _ ⟨p,ws,hp,hws,rfl,rfl⟩;have w8:=hws.l8;have w1:=hws.l1
  (refine seq1 ?_; walk_at "d")
  refine seq1 ?_;walk_at "d";refine zaY (fun i δ S=>∃ (p:List PyData) (ps:List Part) (u1 u2:Option XV),zbo p/\ps.length=i/\(∀ p∈ps,Prt p/\p.2.1<=10 ^ 58)/\S=[p,ps.map zdM]/\δ=[some (.l 0),some (.d (.list (ns.map PyData.str))),some (.d (.list (ws.map PyData.int))),some (.l 1),u1,u2]) ⟨p,[],_,_,hp,rfl,by simp,rfl,rfl⟩ ?_ ?_
  ·rintro i d _ _ N hi ⟨p,ps,u1,u2,hp,hl,ha,rfl,rfl⟩ hN;obtain⟨hi',rfl⟩:=zcC hi;have iw:i<ws.length:=by simpa using hi'
   have i8:i<ns.length:=by omega
   have e:=zcO (f:=PyData.str) (List.getElem?_eq_getElem i8);have ew:=zcO (f:=PyData.int) (List.getElem?_eq_getElem iw);have wb:=hws.ok _ (List.getElem_mem iw);have e0:(0:Int)+(i:Int)=(i:Int):=by omega
   walk_at "d"
   (refine seq1 ?_; walk_at "d")
   refine zhW hp fun lo p3 h1 h2 hp3=>?_;walk_at "d";rw [e0];refine⟨_,e,?_⟩;walk_at "d";refine⟨_,ew,?_⟩;walk_at "d";refine⟨by omega,hN _ _ ⟨p3,ps++[(ns[i],lo,lo+ws[i] - 1)],_,_,hp3,by simp [hl],fun x hx=>?_,by simp [zdM],rfl⟩⟩;rcases List.mem_append.mp hx with hx | hx
   ·exact ha x hx
   ·rw [List.mem_singleton.mp hx];exact⟨⟨hz _ (List.getElem_mem i8),by simp only; omega,h1,by simp only; omega⟩,h2⟩
  ·rintro _ _ ⟨p,ps,u1,u2,hp,hl,ha,rfl,rfl⟩;rw [zaC] at hl;walk_at "d";exact q ps p ⟨by omega,by omega,fun x m=>(ha x m).1⟩ (fun x m=>(ha x m).2) hp
def znE(ts:List Term):PyData:=.list (ts.map fun t:Term=>PyData.int t.1)
theorem zpd{ts:List Term}{k:Nat}:((ts.map fun t:Term=>PyData.int t.1).any fun y=>PyData.eqv y (.int (k:Int)))=decide (∃ t∈ts,t.1=k):=by
 rw [Bool.eq_iff_iff];simp only [List.any_map,List.any_eq_true,Function.comp,decide_eq_true_eq];constructor
 ·rintro⟨t,m,e⟩;rw [zhT] at e;exact⟨t,m,by have:=of_decide_eq_true e; omega⟩
 ·rintro⟨t,m,e⟩;exact⟨t,m,by rw [zhT,e]; exact decide_eq_true rfl⟩
theorem znK(ts:List Term):SeqAt.shaped (.list (ts.map fun t:Term=>PyData.int t.1))=true:=(ziy (n:=0) (zkm fun k m=>zgj)).ok
theorem zjo{p:List PyData}{ps:List Part}{g:Gap}(hp:zbo p)(hd:Drw ps)(h58:∀ p∈ps,p.2.1<=10 ^ 58)(ht:Tms ps.length g.ts)(q:∀ (ps':List Part) p',Drw ps'->ps'.length=ps.length->zbo p'->R (.d (zcf ps')) [p']):zdo [.l 0,.d (zcf ps),.d (zf2 g)] [p] R:=by
 have h8:=hd.l8;have h1:=hd.l1;have l1:=ht.len;unfold zdo;rw [zcG,zcf,zjr];walk_at "d"
 (refine seq1 ?_; walk_at "d")
 refine cmp2 (S0:=[p]) (fun t:Term=>PyData.int t.1) rfl g.ts (by omega) ?_ ?_
 ·intro t m u v acc R' hk;rw [zfN];walk_at "d";exact hk _ _
 refine⟨[p],_,rfl,rfl,?_⟩
 (refine seq1 ?_; walk_at "d")
 refine seq1 ?_;walk_at "d";refine zaY (fun i δ S=>∃ (p:List PyData) (qs:List Part) (u1 u2 u3 u4:Option XV),zbo p/\qs.length=i/\(∀ p∈qs,Prt p)/\S=[p,qs.map zdM]/\δ=[some (.l 0),some (.d (.tuple (ps.map zdM))),some (.d (.tuple [.tuple (g.ts.map tmD),.int g.lo,.int g.hi])),some (.d (znE g.ts)),some (.l 1),u1,u2,u3,u4]) ⟨p,[],_,_,_,_,hp,rfl,by simp,rfl,rfl⟩ ?_ ?_
 ·rintro i d _ _ N hi ⟨p,qs,u1,u2,u3,u4,hp,hl,ha,rfl,rfl⟩ hN;obtain⟨hi',rfl⟩:=zcC hi;have ip:i<ps.length:=by simpa using hi'
  have e:=zcO (f:=zdM) (zbA ip);have e0:(0:Int)+(i:Int)=(i:Int):=by omega
  have pk:=hd.all _ (zaZ ip);have k2:=h58 _ (zaZ ip);generalize part ps i=pt at e pk k2;have hle:=pk.le;walk_at "d"
  (refine seq1 ?_; walk_at "d")
  rw [e0];refine⟨_,e,?_⟩;rw [zeK];walk_at "d";have fin:∀ (hi2:Int) p',zbo p'->pt.2.1<=hi2->hi2<=10 ^ 59->∃ qs':List Part,qs'.length=i+1/\(∀ p∈qs',Prt p)/\qs'.map zdM=qs.map zdM++[.tuple [.str pt.1,.int pt.2.1,.int hi2]]:=fun hi2 p' hp' h2 h3=>⟨qs++[(pt.1,pt.2.1,hi2)],by simp [hl],fun x hx=>by
   rcases List.mem_append.mp hx with hx | hx
   ·exact ha x hx
   ·rw [List.mem_singleton.mp hx];exact⟨pk.nm,h2,pk.lo,h3⟩,by simp [zdM]⟩
  refine cut (fun δ S=>∃ (p:List PyData) (hi2:Int),zbo p/\pt.2.1<=hi2/\hi2<=10 ^ 59/\S=[p,qs.map zdM]/\δ=[some (.l 0),some (.d (.tuple (ps.map zdM))),some (.d (.tuple [.tuple (g.ts.map tmD),.int g.lo,.int g.hi])),some (.d (znE g.ts)),some (.l 1),some (.d (.int i)),some (.d (.str pt.1)),some (.d (.int pt.2.1)),some (.d (.int hi2))]) (fun N2 hN2=>?_) ?_
  ·unfold znE at hN2 ⊢;walk_at "d";refine⟨znK g.ts,?_⟩;rw [zpd];split
   ·walk_at "d";refine zG hp (by decide) (by decide +kernel) fun r p3 r0 r1 hp3=>?_;walk_at "d";split
    ·walk_at "d";refine⟨⟨by decide,by decide,by decide⟩,?_⟩;walk_at "d";refine zG hp3 (by decide +kernel) (by decide +kernel) fun r4 p4 r40 r41 hp4=>?_;walk_at "d";have k1:(10:Int) ^ 40+10 ^ 58<=10 ^ 59:=by decide +kernel
     exact hN2 _ _ ⟨p4,pt.2.1+r4,hp4,by omega,by omega,rfl,rfl⟩
    ·exact hN2 _ _ ⟨p3,pt.2.2,hp3,hle,pk.hi,rfl,rfl⟩
   ·exact hN2 _ _ ⟨p,pt.2.2,hp,hle,pk.hi,rfl,rfl⟩
  rintro _ _ ⟨p',hi2,hp',h2,h3,rfl,rfl⟩;obtain⟨qs',a1,a2,a3⟩:=fin hi2 p' hp' h2 h3;walk_at "d";refine⟨by omega,hN _ _ ⟨p',qs',_,_,_,_,hp',a1,a2,by rw [a3],rfl⟩⟩
 ·rintro _ _ ⟨p,qs,u1,u2,u3,u4,hp,hl,ha,rfl,rfl⟩;rw [zaC] at hl;walk_at "d";exact q qs p ⟨by omega,by omega,ha⟩ (by omega) hp
end
section
variable {R:RX} {S:Sto}
theorem zh0{α:Type}{r:α->α->Prop}(as:∀ {a b},r a b->r b a->False):∀ {l m:List α},l.Pairwise r->m.Pairwise r->(∀ x,x∈l↔x∈m)->l=m
 | [],[],_,_,_=>rfl
 | [],y :: m,_,_,h=>by have:=(h y).mpr List.mem_cons_self; simp at this
 | x :: l,[],_,_,h=>by have:=(h x).mp List.mem_cons_self; simp at this
 | x :: l,y :: m,hl,hm,h=>by
  rw [List.pairwise_cons] at hl hm;have e:x=y:=by
   rcases List.mem_cons.mp ((h x).mp List.mem_cons_self) with e | e
   ·exact e
   ·rcases List.mem_cons.mp ((h y).mpr List.mem_cons_self) with e' | e'
    ·exact e'.symm
    ·exact(as (hm.1 _ e) (hl.1 _ e')).elim
  subst e;congr 1;refine zh0 as hl.2 hm.2 fun z=>⟨fun mz=>?_,fun mz=>?_⟩
  ·rcases List.mem_cons.mp ((h z).mp (List.mem_cons_of_mem _ mz)) with e | e
   ·subst e;exact(as (hl.1 _ mz) (hl.1 _ mz)).elim
   ·exact e
  ·rcases List.mem_cons.mp ((h z).mpr (List.mem_cons_of_mem _ mz)) with e | e
   ·subst e;exact(as (hm.1 _ mz) (hm.1 _ mz)).elim
   ·exact e
theorem zsx{a b:List Int}(h:HT.lexLt a b=true)(k:HT.lexLt b a=true):False:=by
 have:=L2.lexLt_trans0 h k;rw [HT.lexLt_self] at this;cases this
end
section
variable {R:RX} {S:Sto}
theorem zjH{t u:Tal}(h:t.Perm u)(f:Int->Int):tsum t f=tsum u f:=by
 induction h with
 | nil=>rfl
 | cons x _ ih=>rw [zP,zP,ih]
 | swap x y l=>rw [zP,zP,zP,zP]; omega
 | trans _ _ h1 h2=>exact h1.trans h2
theorem ziG{t u:Tal}(h:t.Perm u):(kys t).Perm (kys u):=h.map _
def Srt(t:Tal):Prop:=t.Pairwise fun a b=>a.1<b.1
theorem Gd.perm{ps:List Part}{ts:List Term}{k:Nat}{t u:Tal}(g:Gd ps ts k t)(h:u.Perm t):Gd ps ts k u :=
 ⟨⟨(ziG h).nodup_iff.mpr g.tl.nd,fun x m=>g.tl.bd x ((ziG h).mem_iff.mp m),fun p m=>g.tl.pos p (h.mem_iff.mp m)⟩,fun f=>(zjH h f).trans (g.fw f)⟩
def itm(p:Int×Int):PyData:=.tuple [.int p.1,.int p.2]
theorem zhS(p:Int×Int):itm p=.tuple [.int p.1,.int p.2]:=rfl
theorem zsH{t u:Tal}(nd:(kys t).Nodup)(h:u.Perm t)(hs:u.Pairwise fun x y=>HT.lexLt (ik2 y) (ik2 x)=false):Srt u:=by
 have n2:(kys u).Nodup:=(ziG h).nodup_iff.mpr nd;unfold kys at n2;have n3:u.Pairwise fun a b=>a.1≠b.1:=by
  have:=List.pairwise_map.mp n2;exact this
 refine(List.Pairwise.and hs n3).imp fun {a b} ⟨h1,h2⟩=>?_;unfold ik2 at h1;rw [HT.lexLt_cons,if_neg (fun e=>h2 e.symm)] at h1;have:=of_decide_eq_false h1;omega
theorem zcZ{ps:List Part}{g:Gap}(ho:Ord ps)(hb:Bnd ps)(h8:ps.length<=8)(ht:Tms ps.length g.ts)(hr:zak ps g.ts - zD ps g.ts<400)(q:∀ t:Tal,Srt t->Gd ps g.ts 0 t->t.length<=400->R (.d (.list (t.map itm))) []):zck [.d (zcf ps),.d (zf2 g)] [] R:=by
 unfold zck;walk_at "d";refine zfn ho hb h8 ht hr fun T hl hT=>?_;have e0:=List.getElem?_eq_getElem (l:=T) (i:=0) (by omega);have gd:=hT 0 _ e0;have gl:=gd.len ho ht hr;walk_at "d";refine⟨_,zcW (j:=0) (by rw [List.getElem?_map,e0]; rfl),?_⟩;refine⟨T[0],rfl,by omega,fun ms pm pw=>?_⟩;walk_at "d";exact .inl (q ms (zsH gd.tl.nd pm pw) (gd.perm pm) (by rw [pm.length_eq]; exact gl))
theorem zle{t:Tal}(nd:(kys t).Nodup)(pos:∀ p∈t,0<p.2){k:Int}:0<tsum t (ind k)↔k∈kys t:=by
 constructor
 ·intro h;by_cases hk:k∈kys t
  ·exact hk
  ·have:tget t k=0:=zcx hk;unfold tget at this;omega
 ·intro hk;obtain⟨p,mp,rfl⟩:=List.mem_map.mp hk;have:tget t p.1=p.2:=zfj nd mp;unfold tget at this;rw [this];exact pos p mp
theorem ziX{f:Int->Int}:∀ {t:Tal},(∀ p∈t,f p.1=1)->tsum t f=(t.map (·.2)).sum
 | [],_=>rfl
 | p :: r,h=>by
  rw [zP,ziX fun q m=>h q (List.mem_cons_of_mem _ m),h p List.mem_cons_self,List.map_cons,List.sum_cons,Int.mul_one]
end
section
variable {R:RX} {S:Sto}
theorem zhD{ps:List Part}{ts:List Term}(ht:Tms ps.length ts)(f:Int->Int):fw (zU ps ts) f=((zj4 ps).map fun one=>f (worth ts one)).sum:=by
 rw [zqb,zpS];congr 1;exact List.map_congr_left fun one m=>by rw [zpK ht (zcR.mp m).len]
theorem zqD{ps:List Part}{ts:List Term}(ht:Tms ps.length ts)(f:Int->Int):fw (zU ps (opp ts)) f=fw (zU ps ts) fun w=>f (-w):=by
 rw [zhD (zmV ht),zhD ht];congr 1;exact List.map_congr_left fun one m=>by rw [zjh]
theorem zhr{α:Type}(p:α->Bool)(f:α->Int):∀ l:List α,(l.map f).sum=((l.filter p).map f).sum+((l.filter fun x=>!p x).map f).sum
 | []=>rfl
 | x :: l=>by
  rw [List.map_cons,List.sum_cons,zhr p f l,List.filter_cons,List.filter_cons];cases p x <;> simp <;> omega
theorem zho{ps:List Part}{k:Nat}{a b:Int}{ms:List Int}(hk:k<ps.length)(h1:plo ps k<=a)(h3:b<=phi ps k):InBox (zaF ps k a b) ms↔InBox ps ms/\a<=ms.getD k 0/\ms.getD k 0<=b:=by
 have e:∀ j,j<ps.length->plo (zaF ps k a b) j=(if j=k then a else plo ps j)/\phi (zaF ps k a b) j=(if j=k then b else phi ps j):=fun j hj=>by
  unfold plo phi;rw [zgu hk hj];split <;> exact⟨rfl,rfl⟩
 constructor
 ·intro h;refine⟨zl5 hk h1 h3 h,?_⟩;have:=h.ok k (by rw [zaA hk]; exact hk);rw [(e k hk).1,(e k hk).2,if_pos rfl,if_pos rfl] at this;exact this
 ·rintro⟨h,h4,h5⟩;refine⟨by rw [h.len,zaA hk],fun j hj=>?_⟩;rw [zaA hk] at hj;rw [(e j hj).1,(e j hj).2];by_cases z:j=k
  ·subst z;rw [if_pos rfl,if_pos rfl];exact⟨h4,h5⟩
  ·rw [if_neg z,if_neg z];exact h.ok j hj
theorem zmz{a b:List Int}(h:HT.lexLt a b=true)(k:HT.lexLt b a=true):False:=zsx h k
theorem ztb{ps:List Part}{k:Nat}{at':Int}(hk:k<ps.length)(h2:at'<=phi ps k):(zj4 ps).filter (fun one=>decide (one.getD k 0<=at'))=zj4 (zaF ps k (plo ps k) at'):=by
 refine zh0 (r:=fun a b=>HT.lexLt a b=true) zmz ((zcH ps).filter _) (zcH _) fun ms=>?_;rw [List.mem_filter,zcR,zcR,zho hk (Int.le_refl _) h2,decide_eq_true_eq];constructor
 ·rintro⟨h,h'⟩;exact⟨h,(h.ok k hk).1,h'⟩
 ·rintro⟨h,_,h'⟩;exact⟨h,h'⟩
theorem zsY{ps:List Part}{k:Nat}{at':Int}(hk:k<ps.length)(h1:plo ps k<=at'+1):(zj4 ps).filter (fun one=>!decide (one.getD k 0<=at'))=zj4 (zaF ps k (at'+1) (phi ps k)):=by
 refine zh0 (r:=fun a b=>HT.lexLt a b=true) zmz ((zcH ps).filter _) (zcH _) fun ms=>?_;rw [List.mem_filter,zcR,zcR,zho hk h1 (Int.le_refl _),Bool.not_eq_true',decide_eq_false_iff_not];constructor
 ·rintro⟨h,h'⟩;exact⟨h,by omega,(h.ok k hk).2⟩
 ·rintro⟨h,h',_⟩;exact⟨h,by omega⟩
theorem znH{ps:List Part}{ts:List Term}{k:Nat}{at':Int}(ht:Tms ps.length ts)(hk:k<ps.length)(h1:plo ps k<=at')(h2:at'<=phi ps k)(f:Int->Int):fw (zU ps ts) f=fw (zU (zaF ps k (plo ps k) at') ts) f+fw (zU (zaF ps k (at'+1) (phi ps k)) ts) f:=by
 rw [zhD ht,zhD (by rw [zaA hk]; exact ht),zhD (by rw [zaA hk]; exact ht),<- ztb hk h2,<- zsY hk (by omega)];exact zhr _ _ _
theorem zpc{t u:Tal}(hs:Srt t)(hu:Srt u)(nt:(kys t).Nodup)(nu:(kys u).Nodup)(pt:∀ p∈t,0<p.2)(pu:∀ p∈u,0<p.2)(e:∀ f,tsum t f=tsum u f):t=u:=by
 refine zh0 (r:=fun a b:Int×Int=>a.1<b.1) (fun h k=>by omega) hs hu fun p=>?_;have key:∀ {a b:Tal},(kys a).Nodup->(kys b).Nodup->(∀ p∈a,0<p.2)->(∀ p∈b,0<p.2)->(∀ f,tsum a f=tsum b f)->p∈a->p∈b:=fun {a b} na nb pa pb e m=>by
  have h1:tsum a (ind p.1)=p.2:=zfj na m;have h2:=pa p m;have h3:p.1∈kys b:=(zle nb pb).mp (by rw [<- e,h1]; exact h2);obtain⟨q,mq,eq⟩:=List.mem_map.mp h3;have h4:tsum b (ind q.1)=q.2:=zfj nb mq;have:q=p:=Prod.ext eq (by rw [<- h4,eq,<- e,h1]);rw [<- this];exact mq
 exact⟨key nt nu pt pu e,key nu nt pu pt fun f=>(e f).symm⟩
theorem zpl{ps:List Part}{ts:List Term}(ht:Tms ps.length ts){k:Int}(h:0<fw (zU ps ts) (ind k)):∃ one,InBox ps one/\worth ts one=k:=by
 rw [zhD ht] at h;have go:∀ l:List (List Int),0<(l.map fun one=>ind k (worth ts one)).sum->∃ one∈l,worth ts one=k:=fun l=>by
  induction l with
  | nil=>intro h; simp at h
  | cons x l ih =>
   intro h;rw [List.map_cons,List.sum_cons] at h;by_cases z:worth ts x=k
   ·exact⟨x,List.mem_cons_self,z⟩
   ·unfold ind at h ih;rw [if_neg z] at h;obtain⟨one,m,e⟩:=ih (by omega);exact⟨one,List.mem_cons_of_mem _ m,e⟩
 obtain⟨one,m,e⟩:=go _ h;exact⟨one,zcR.mp m,e⟩
theorem zkF{ps:List Part}{ts:List Term}{k:Nat}{a b:Int}(ho:Ord ps)(ht:Tms ps.length ts)(hk:k<ps.length)(h1:plo ps k<=a)(h2:a<=b)(h3:b<=phi ps k):zak (zaF ps k a b) ts - zD (zaF ps k a b) ts<=zak ps ts - zD ps ts:=by
 have e:∀ j,j<ps.length->plo (zaF ps k a b) j=(if j=k then a else plo ps j)/\phi (zaF ps k a b) j=(if j=k then b else phi ps j):=fun j hj=>by
  unfold plo phi;rw [zgu hk hj];split <;> exact⟨rfl,rfl⟩
 have one:∀ t:Term,t.1<ps.length->-3<=t.2->t.2<=3->tHi (zaF ps k a b) t - tLo (zaF ps k a b) t<=tHi ps t - tLo ps t:=fun t h l3 h3'=>by
  have hp:=ho _ (zaZ h);have hp':plo ps t.1<=phi ps t.1:=hp;unfold tHi tLo;rw [(e _ h).1,(e _ h).2];by_cases z:t.1=k
  ·rw [if_pos z,if_pos z,z];have:t.2 = -3\/t.2 = -2\/t.2 = -1\/t.2=0\/t.2=1\/t.2=2\/t.2=3:=by clear z hp' hp h h3 h2 h1 hk; omega
   rcases this with h | h | h | h | h | h | h <;> rw [h] <;> (clear h z hp' hp h3' l3 hk; omega)
  ·rw [if_neg z,if_neg z];exact Int.le_refl _
 have go:∀ ts:List Term,(∀ t∈ts,t.1<ps.length/\t.2≠0/\-3<=t.2/\t.2<=3)->zak (zaF ps k a b) ts - zD (zaF ps k a b) ts<=zak ps ts - zD ps ts:=fun ts=>by
  induction ts with
  | nil=>intro _; simp [zak,zD]
  | cons t ts ih =>
   intro h;have h1:=h t List.mem_cons_self;have h2:=one t h1.1 h1.2.2.1 h1.2.2.2;have h3:=ih fun u m=>h u (List.mem_cons_of_mem _ m);rw [zda,zbs,zda,zbs]
   (clear h1 hk; omega)
 exact go ts ht.ok
theorem znS(k s:Nat):((k / Nat.gcd k s:Nat):Int)*(s:Int)=(k:Int)*((s / Nat.gcd k s:Nat):Int):=by
 have h1:=Nat.gcd_dvd_left k s;have h2:=Nat.gcd_dvd_right k s;have:k / Nat.gcd k s*s=k*(s / Nat.gcd k s):=by
  rw [Nat.div_mul_right_comm h1,Nat.mul_div_assoc k h2]
 exact_mod_cast this
theorem zeN{ps:List Part}{g:Gap}(ho:Ord ps)(hb:Bnd ps)(h8:ps.length<=8)(ht:Tms ps.length g.ts)(hr:zak ps g.ts - zD ps g.ts<400)(q:R (.d (.bool true)) []):zaX [.d (zcf ps),.d (zf2 g)] [] R:=by
 have h0:0<zbn ps:=zjK ho;have eg:zf2 g=.tuple [zjr g.ts,.int g.lo,.int g.hi]:=rfl;unfold zaX;walk_at "d"
 (refine seq1 ?_; walk_at "d")
 refine zcZ ho hb h8 ht hr fun t hs gd hl=>?_;have ef:tsum t=fw (zU ps g.ts):=funext fun f=>gd.fw f;have en:((zbn ps:Nat):Int)=tsum t fun _=>1:=by rw [ef]; exact(zkf ps g.ts).symm
 have s1:(t.map (·.2)).sum=tsum t fun _=>1:=(ziX fun _ _=>rfl).symm;walk_at "d";refine seq1 ?_;walk_at "d";refine cmp2 (S0:=[]) (h:=itm) (fun p=>PyData.int p.2) rfl t (by clear s1 en h0 hr h8; omega) ?_ ?_
 ·intro p mp u v acc R' hk;rw [zhS];walk_at "d";exact hk _ _
 walk_at "d";refine⟨t.map (·.2),by rw [List.map_map]; rfl,?_⟩;rw [s1];refine zd5 ho hb h8 ?_;walk_at "d";rw [if_neg (by rw [en]; simp)];refine cmp2 (S0:=[]) (h:=itm) (fun p=>PyData.int p.2) rfl t (by clear s1 en h0 hr h8; omega) ?_ ?_
 ·intro p mp u v acc R' hk;rw [zhS];walk_at "d";exact hk _ _
 have tl:t≠[]:=fun e=>by
  rw [e,zkU] at en
  (clear s1 hl hr h8; omega)
 refine⟨[],_,rfl,rfl,.inl ⟨_,rfl,t.map (·.2),by rw [List.map_map]; rfl,by simpa using tl,fun m mm _=>?_⟩⟩;obtain⟨pm,mpm,rfl⟩:=List.mem_map.mp mm;have pos:=gd.tl.pos pm mpm;walk_at "d";rw [if_neg (by clear s1 en hl h0 hr h8; omega)];refine seq1 ?_;rw [eg];walk_at "d";refine cmf2 (S0:=[]) (h:=itm) (fun p=>PyData.int p.2) (fun p=>decide (g.lo<=p.1) && decide (p.1<=g.hi)) rfl t (by clear pos s1 en h0 hr h8; omega) ?_ ?_
 ·intro p mp u v acc R' hk;rw [zhS];walk_at "d";by_cases h1:g.lo<=p.1
  ·rw [if_pos h1];rw [decide_eq_true h1,Bool.true_and] at hk;walk_at "d";refine hk _ _ fun _ T hT=>?_;walk_at "d";exact hT
  ·rw [if_neg h1];rw [decide_eq_false h1,Bool.false_and] at hk;walk_at "d";exact hk _ _ fun h=>by cases h
 walk_at "d";refine⟨(t.filter fun p=>decide (g.lo<=p.1) && decide (p.1<=g.hi)).map (·.2),by rw [List.map_map]; rfl,?_⟩;have hg:=zj5 g 0 t;simp only [Int.zero_add] at hg;have hk:(tsum t fun x=>if g.lo<=x/\x<=g.hi then 1 else 0)=zaQ ps g:=by
  unfold zaQ;rw [<- ef];congr 1;funext x;unfold inG;rw [Int.zero_add]
 rw [hg,hk,<- eg];refine zar ho hb h8 ht hr ?_;walk_at "d"
 (refine seq1 ?_; walk_at "d")
 refine zh8 ho hb h8 ht hr h0 ?_;walk_at "d";refine seq1 ?_;walk_at "d";refine zd5 ho hb h8 ?_;walk_at "d";have k0:=zmR ps g;have k1:=zoZ ps g;have sb:=zh4 ho hb h8;have d1:(zaQ ps g).toNat / Nat.gcd (zaQ ps g).toNat (zbn ps)<=(zaQ ps g).toNat:=Nat.div_le_self _ _;have d2:zbn ps / Nat.gcd (zaQ ps g).toNat (zbn ps)<=zbn ps:=Nat.div_le_self _ _;refine⟨zmE 1700 1700 (by rw [Int.natAbs_natCast]; (clear d2 k0 hk hg pos s1 en hl h0 hr h8; omega)) (by rw [Int.natAbs_natCast]; (clear d2 d1 k1 k0 hk hg pos s1 en hl h0 hr h8; omega)),?_⟩;refine zar ho hb h8 ht hr ?_;walk_at "d";refine⟨zmE 1700 1700 (by clear d2 d1 hk hg pos s1 en hl h0 hr h8; omega) (by rw [Int.natAbs_natCast]; (clear d1 k1 k0 hk hg pos s1 en hl h0 hr h8; omega)),?_⟩;have cr:=znS (zaQ ps g).toNat (zbn ps);rw [show (((zaQ ps g).toNat:Nat):Int)=zaQ ps g by clear cr d2 d1 sb k1 hk hg pos s1 en hl h0 hr h8; omega] at cr;rw [if_neg (by rw [cr]; simp)];refine seq1 ?_;walk_at "d";have cl:∀ a b,(zdP (t.map itm) a b).length<=400:=fun a b=>by
  have h:(zdP (t.map itm) a b).length<=(t.map itm).length:=by
   unfold zdP;rw [List.length_take,List.length_drop]
   (clear cr d2 d1 sb k1 k0 hk hg pos s1 en hl h0 hr h8; omega)
  rw [List.length_map] at h
  (clear cr d2 d1 sb k1 k0 hk hg pos s1 en h0 hr h8; omega)
 have cm:∀ a b d,d∈zdP (t.map itm) a b->∃ p∈t,d=itm p:=fun a b d m=>by
  unfold zdP at m;obtain⟨p,mp,e⟩:=List.mem_map.mp (List.mem_of_mem_drop (List.mem_of_mem_take m));exact⟨p,mp,e.symm⟩
 have c1:=cl none (some 6);have c2:=cl (some (-6)) none;refine⟨by clear cr d2 d1 sb k1 k0 hk hg pos s1 en hl h0 hr h8; omega,?_⟩;refine zaY (fun i δ S=>∃ (u v w:Option XV),S=[]/\δ=[some (.d (zcf ps)),some (.d (zf2 g)),some (.d (.list (t.map itm))),some (.d (.int ((zaQ ps g).toNat / Nat.gcd (zaQ ps g).toNat (zbn ps):Nat))),some (.d (.int (zbn ps / Nat.gcd (zaQ ps g).toNat (zbn ps):Nat))),u,v,w]) ⟨_,_,_,rfl,rfl⟩ ?_ ?_
 ·rintro i d _ _ N hi ⟨u,v,w,rfl,rfl⟩ hN;obtain⟨p,mp,rfl⟩:∃ p∈t,d=itm p:=by
   rcases List.mem_append.mp (List.mem_of_getElem? hi) with m | m
   ·exact cm _ _ d m
   ·exact cm _ _ d m
  obtain⟨ms,hms,wms⟩:=zpl ht (k:=p.1) (by rw [<- ef]; exact(zle gd.tl.nd gd.tl.pos).mpr (zh9 mp));rw [zhS];walk_at "d"
  (refine seq1 ?_; walk_at "d")
  refine zlF ho (by clear wms c2 c1 cr d2 d1 sb k1 k0 hk hg pos s1 en hl h0 hr; omega) ht fun res hres=>?_;have fa:=zmd ho (by clear wms c2 c1 cr d2 d1 sb k1 k0 hk hg pos s1 en hl h0 hr; omega) ht hres;cases res with
  | none=>exact absurd wms (fa ms hms)
  | some one =>
   obtain⟨ob,ow,_⟩:=fa;have h3:Tm3 one.length g.ts:=by rw [ob.len]; exact ht.tm3 h8
   walk_at "d";rw [if_neg (fun h=>by cases h)];rw [show zuE (some one)=zml one from rfl];refine zje h3 ?_;rw [ow];walk_at "d";refine zoM h3 ?_;unfold zmY;rw [ow,eg];walk_at "d";by_cases z:g.lo<=p.1
   ·rw [if_pos z,if_neg (by simp [z])];exact hN _ _ ⟨_,_,_,rfl,rfl⟩
   ·rw [if_neg z,if_neg (by simp [z])];exact hN _ _ ⟨_,_,_,rfl,rfl⟩
 ·rintro _ _ ⟨u,v,w,rfl,rfl⟩;walk_at "d";exact q
theorem ziU{t:Tal}(nd:(kys t).Nodup):zjZ (zb8 t)=zb8 t:=zii (zka nd)
theorem zjO{t:Tal}{k:Int}(nd:(kys t).Nodup):(lkA (zb8 t) (Sum.inl k)).getD (.int 0)=.int (tget t k):=zk2 nd
theorem zeD{ps:List Part}{g:Gap}{k:Nat}{at':Int}(hd:Drw ps)(ht:Tms ps.length g.ts)(hr:zak ps g.ts - zD ps g.ts<400)(hk:k<ps.length)(h1:plo ps k<=at')(h2:at'<=phi ps k)(q:R (.d (.bool true)) []):zaW [.d (zcf ps),.d (zf2 g),.d (.int k),.d (.int at')] [] R:=by
 have h8:=hd.l8;have ep:=zcO (f:=zdM) (zbA hk);unfold zaW;rw [zcf];walk_at "d"
 (refine seq1 ?_; walk_at "d")
 refine⟨_,ep,?_⟩;rw [zeK];walk_at "d";refine seq1 ?_;walk_at "d";have ephi:(part ps k).2.2=phi ps k:=rfl;have eplo:(part ps k).2.1=plo ps k:=rfl;rw [ephi,eplo];by_cases ha:at'=phi ps k
 ·rw [if_pos ha];exact q
 rw [if_neg ha];have da:=zhE hd hk (Int.le_refl _) h1 h2;have db:=zhE hd hk (show plo ps k<=at'+1 by clear ha eplo ephi h8 h2 hk hr; omega) (show at'+1<=phi ps k by clear eplo ephi h8 h1 hk hr; omega) (Int.le_refl _);have wa:=zkF hd.ord ht hk (Int.le_refl _) h1 h2;have wb:=zkF hd.ord ht hk (show plo ps k<=at'+1 by clear wa ha eplo ephi h8 h2 hk hr; omega) (show at'+1<=phi ps k by clear wa eplo ephi h8 h1 hk hr; omega) (Int.le_refl _)
 (refine seq1 ?_; walk_at "d")
 refine zgX (ps:=ps) (a:=plo ps k) (b:=at') (by clear wb wa ha eplo ephi h2 h1 hk hr; omega) hk (Int.le_refl _) h1 h2 ?_;walk_at "d";refine zcZ da.ord da.bnd da.l8 (by rw [zaA hk]; exact ht) (by clear wb ha eplo ephi h8 h2 h1 hk; omega) fun ta sa ga la=>?_;walk_at "d";refine⟨zb8 ta,?_,by unfold zb8; rw [List.length_map]; (clear wb wa ha eplo ephi h8 h2 h1 hk hr; omega),?_⟩
 ·unfold zb8;rw [List.map_map];rfl
 rw [ziU ga.tl.nd]
 (refine seq1 ?_; walk_at "d")
 refine zgX (ps:=ps) (a:=at'+1) (b:=phi ps k) (by clear la wb wa ha eplo ephi h2 h1 hk hr; omega) hk (by clear la wb wa ha eplo ephi h8 h2 hk hr; omega) (by clear la wb wa eplo ephi h8 h1 hk hr; omega) (Int.le_refl _) ?_;walk_at "d";refine zcZ db.ord db.bnd db.l8 (by rw [zaA hk]; exact ht) (by clear la wa ha eplo ephi h8 h2 h1 hk; omega) fun tb sb gb lb=>?_;walk_at "d";refine⟨zb8 tb,?_,by unfold zb8; rw [List.length_map]; (clear la wb wa ha eplo ephi h8 h2 h1 hk hr; omega),?_⟩
 ·unfold zb8;rw [List.map_map];rfl
 rw [ziU gb.tl.nd];refine seq1 ?_;walk_at "d";refine zcZ hd.ord hd.bnd hd.l8 ht hr fun t hs gd hl=>?_;walk_at "d";refine zaY (fun i δ S=>∃ (u v:Option XV),S=[]/\δ=[some (.d (.tuple (ps.map zdM))),some (.d (zf2 g)),some (.d (.int k)),some (.d (.int at')),some (.d (.str (part ps k).1)),some (.d (.int (plo ps k))),some (.d (.int (phi ps k))),some (.d (.dict (DD.pairs (.k (zb8 ta))))),some (.d (.dict (DD.pairs (.k (zb8 tb))))),u,v]) ⟨_,_,rfl,rfl⟩ ?_ ?_
 ·rintro i d _ _ N hi ⟨u,v,rfl,rfl⟩ hN;obtain⟨p,e,rfl⟩:=zdT hi;have mp:=List.mem_of_getElem? e;have ev:tget ta p.1+tget tb p.1=p.2:=by
   have hz:tget t p.1=p.2:=zfj gd.tl.nd mp;unfold tget at hz ⊢;rw [ga.fw,gb.fw,<- hz,gd.fw];exact(znH ht hk h1 h2 _).symm
  rw [zhS];walk_at "d";refine⟨.k (zb8 ta),.inr ⟨_,rfl,rfl⟩,lkA (zb8 ta) (Sum.inl p.1),rfl,.k (zb8 tb),.inr ⟨_,rfl,rfl⟩,lkA (zb8 tb) (Sum.inl p.1),rfl,?_⟩;rw [zjO ga.tl.nd,zjO gb.tl.nd];walk_at "d";rw [ev,if_neg (by simp)];exact hN _ _ ⟨_,_,rfl,rfl⟩
 ·rintro _ _ ⟨u,v,rfl,rfl⟩;walk_at "d";exact q
theorem zou{ps:List Part}{g g':Gap}(e:g'.ts=g.ts)(h1:g'.lo<=g.lo)(h2:g.hi<=g'.hi):zaQ ps g<=zaQ ps g':=by
 unfold zaQ;rw [e];refine zis _ fun w=>?_;unfold inG;by_cases h:g.lo<=0+w/\0+w<=g.hi
 ·rw [if_pos h,if_pos (by omega)];exact Int.le_refl _
 ·rw [if_neg h];split <;> decide
theorem zp1:∀ (rs:List Row) (f g:Int->Int),fw rs (fun w=>f w+g w)=fw rs f+fw rs g
 | [],f,g=>rfl
 | r :: rs,f,g=>by
  show rsum _ _ _=rsum _ _ _+rsum _ _ _;rw [<- zkN];congr 1;funext x;exact zp1 rs _ _
theorem zkA{ps:List Part}{g a b:Gap}(ea:a.ts=g.ts)(eb:b.ts=g.ts)(h1:a.lo=g.lo)(h2:b.hi=g.hi)(h3:b.lo=a.hi+1)(h4:g.lo<=a.hi+1)(h5:a.hi<=g.hi):zaQ ps a+zaQ ps b=zaQ ps g:=by
 unfold zaQ;rw [ea,eb,<- zp1];congr 1;funext w;unfold inG;rw [h1,h2,h3];by_cases z1:g.lo<=0+w/\0+w<=a.hi
 ·rw [if_pos z1,if_neg (by omega),if_pos (by omega)]; rfl
 ·rw [if_neg z1];by_cases z2:a.hi+1<=0+w/\0+w<=g.hi
  ·rw [if_pos z2,if_pos (by omega)]; rfl
  ·rw [if_neg z2,if_neg (by omega)]; rfl
theorem ze8{ps:List Part}{g:Gap}{more:Int}(ho:Ord ps)(hb:Bnd ps)(h8:ps.length<=8)(ht:Tms ps.length g.ts)(hr:zak ps g.ts - zD ps g.ts<400)(hle:g.lo<=g.hi)(m0:0<=more)(q:R (.d (.bool true)) []):za9 [.d (zcf ps),.d (zf2 g),.d (.int more)] [] R:=by
 have eg:zf2 g=.tuple [zjr g.ts,.int g.lo,.int g.hi]:=rfl;have hm:=zou (ps:=ps) (g:=g) (g':=⟨g.ts,g.lo - more,g.hi+more⟩) rfl (by simp only; omega) (by simp only; omega);unfold za9;rw [eg];walk_at "d"
 (refine seq1 ?_; walk_at "d")
 (refine seq1 ?_; walk_at "d")
 refine .inl ⟨⟨by decide,by decide +kernel⟩,?_⟩;refine seq1 ?_;walk_at "d";refine zar (g:=⟨g.ts,g.lo - more,g.hi+more⟩) ho hb h8 ht hr ?_;walk_at "d";refine zar (g:=g) ho hb h8 ht hr ?_;walk_at "d";rw [if_neg (by omega)];refine seq1 ?_;walk_at "d";by_cases z:g.lo+(g.hi - g.lo) / 2=g.hi
 ·rw [if_pos z];exact q
 rw [if_neg z]
 (refine seq1 ?_; walk_at "d")
 refine cmp1 (S0:=[]) (h:=zf2) (fun g':Gap=>PyData.int (zaQ ps g')) rfl [⟨g.ts,g.lo,g.lo+(g.hi - g.lo) / 2⟩,⟨g.ts,g.lo+(g.hi - g.lo) / 2+1,g.hi⟩] (by simp) ?_ ?_
 ·intro g' mg u acc R' hk;have e:g'.ts=g.ts:=by
   simp only [List.mem_cons,List.not_mem_nil,or_false] at mg;rcases mg with rfl | rfl <;> rfl
  walk_at "d";refine zar (g:=g') ho hb h8 (by rw [e]; exact ht) (by rw [e]; exact hr) ?_;walk_at "d";exact hk _
 ·walk_at "d";refine⟨[zaQ ps ⟨g.ts,g.lo,g.lo+(g.hi - g.lo) / 2⟩,zaQ ps ⟨g.ts,g.lo+(g.hi - g.lo) / 2+1,g.hi⟩],rfl,?_⟩;refine zar (g:=g) ho hb h8 ht hr ?_;walk_at "d";have:=zkA (ps:=ps) (g:=g) (a:=⟨g.ts,g.lo,g.lo+(g.hi - g.lo) / 2⟩) (b:=⟨g.ts,g.lo+(g.hi - g.lo) / 2+1,g.hi⟩) rfl rfl rfl rfl rfl (by simp only; omega) (by simp only; omega);rw [show [zaQ ps { ts:=g.ts,lo:=g.lo,hi:=g.lo+(g.hi - g.lo) / 2 },zaQ ps { ts:=g.ts,lo:=g.lo+(g.hi - g.lo) / 2+1,hi:=g.hi }].sum=zaQ ps g by rw [<- this]; simp,decide_eq_true rfl];exact q
def zri(t:Tal):Tal:=(t.map fun p=>(0 - p.1,p.2)).reverse
theorem zk9(f:Int->Int):∀ t:Tal,tsum (t.map fun p=>(0 - p.1,p.2)) f=tsum t fun w=>f (0 - w)
 | []=>rfl
 | p :: r=>by rw [List.map_cons,zP,zP,zk9 f r]
theorem zsu{t u:Tal}(hs:Srt t)(hu:Srt u)(nt:(kys t).Nodup)(nu:(kys u).Nodup)(pt:∀ p∈t,0<p.2)(pu:∀ p∈u,0<p.2)(e:∀ f,tsum t f=tsum u fun w=>f (0 - w)):zri u=t:=by
 have pm:(zri u).Perm (u.map fun p=>(0 - p.1,p.2)):=List.reverse_perm _;have sv:Srt (zri u):=by
  unfold Srt zri;rw [List.pairwise_reverse,List.pairwise_map];exact hu.imp fun h=>by
   show _<_;simp only;omega
 refine zpc sv hs ?_ nt (fun p m=>?_) pt fun f=>?_
 ·have:(zri u).Pairwise fun a b=>a.1≠b.1:=sv.imp fun h=>by omega
  unfold kys;exact List.pairwise_map.mpr this
 ·obtain⟨p',mp',rfl⟩:=List.mem_map.mp (pm.mem_iff.mp m);exact pu p' mp'
 ·rw [zjH pm,zk9,e]
theorem zgB{ps:List Part}{g:Gap}(ht:Tms ps.length g.ts):zaQ ps (zds g)=zaQ ps g:=by
 unfold zaQ;show fw (zU ps (opp g.ts)) _=_;rw [zqD ht];congr 1;funext w;unfold inG;show (if -g.hi<=0 + -w/\0 + -w <= -g.lo then (1:Int) else 0)=_;by_cases h:g.lo<=0+w/\0+w<=g.hi
 ·rw [if_pos h,if_pos (by omega)]
 ·rw [if_neg h,if_neg (by omega)]
theorem zgd(ps:List Part):∀ ts:List Term,zak ps (opp ts) = - zD ps ts/\zD ps (opp ts) = - zak ps ts
 | []=>⟨rfl,rfl⟩
 | t :: ts=>by
  have ih:=zgd ps ts;have e:opp (t :: ts)=(t.1,-t.2) :: opp ts:=rfl;rw [e,zda,zbs,zda,zbs,ih.1,ih.2];unfold tHi tLo;simp only [Int.neg_mul]
  (clear ih; omega)
theorem zin{g:Gap}:PyData.tuple [PyData.tuple (g.ts.map fun t:Term=>tmD (t.1,0 - t.2)),.int (0 - g.hi),.int (0 - g.lo)]=zf2 (zds g):=by
 unfold zf2 zds zjr opp;rw [List.map_map,Int.zero_sub,Int.zero_sub];congr 2;refine congrArg _ ?_;exact List.map_congr_left fun t _=>by rw [Int.zero_sub]; rfl
theorem zoL{c:Prop}[Decidable c]{p q:Prop}(h1:c->p)(h2:¬ c->q):if c then p else q:=by
 split
 ·exact h1 (by assumption)
 ·exact h2 (by assumption)
theorem zkx(a:Addr)(n:Int):zrg (zu3 a 9) ((some (.o (.ref a)) :: List.replicate 9 none).set 1 (some (.d (.int n)))) []:=by
 unfold zrg;walk_at "d"
 (refine seq1 ?_; walk_at "d")
 refine zlH fun p hp=>?_;walk_at "d"
 (refine seq1 ?_; walk_at "d")
 refine zhb hp fun ps0 p1 hd0 h58 hp1=>?_;walk_at "d"
 (refine seq1 ?_; walk_at "d")
 refine zlW hp1 hd0 fun g p2 hg hp2=>?_;walk_at "d"
 (refine seq1 ?_; walk_at "d")
 refine zjo (g:=g) hp2 hd0 h58 hg.ts fun ps p3 hd hlq hp3=>?_;have ht:Tms ps.length g.ts:=by rw [hlq]; exact hg.ts
 have h8:=hd.l8;have h1:=hd.l1;rw [zcG];walk_at "d"
 (refine seq1 ?_; walk_at "d")
 refine zgi (ts:=g.ts) (t:=zjr g.ts) rfl (ht.tm3 h8) ?_;unfold spD;walk_at "d";refine seq1 ?_;rw [show zjr g.ts=.tuple (g.ts.map tmD) from rfl];walk_at "d";refine cmp2 (S0:=[p3]) (h:=tmD) (fun t:Term=>tmD (t.1,0 - t.2)) rfl g.ts (by have:=ht.len; omega) ?_ ?_
 ·intro t mt u v acc R' hk;rw [zfN];walk_at "d";exact hk _ _
 walk_at "d";rw [zin,show PyData.tuple (g.ts.map tmD)=zjr g.ts from rfl]
 (refine seq1 ?_; walk_at "d")
 refine⟨ps.length,by unfold zcf; rw [znt,List.length_map],?_⟩;refine zG hp3 (by omega) (zc0 (by omega) (by omega)) fun r p4 r0 r1 hp4=>?_;obtain⟨k,rfl⟩:∃ k:Nat,r=k:=⟨r.toNat,by omega⟩;have hk:k<ps.length:=by omega
 have ep:=zcO (f:=zdM) (zbA hk);have ord:plo ps k<=phi ps k:=hd.ord _ (zaZ hk);have ephi:(part ps k).2.2=phi ps k:=rfl;have eplo:(part ps k).2.1=plo ps k:=rfl;walk_at "d";refine seq1 ?_;rw [show zcf ps=.tuple (ps.map zdM) from rfl];walk_at "d";refine⟨_,ep,?_⟩;rw [zeK,ephi,eplo];walk_at "d";refine⟨⟨by decide,by decide,by decide⟩,?_⟩;refine zG hp4 (by decide) (by decide +kernel) fun r p5 q0 q1 hp5=>?_;walk_at "d";refine⟨_,ep,?_⟩;rw [zeK,ephi,eplo];walk_at "d";refine⟨_,ep,?_⟩;rw [zeK,ephi,eplo];walk_at "d";have em1:=Int.emod_nonneg r (show phi ps k - plo ps k+1≠0 by omega);have em2:=Int.emod_lt_of_pos r (show 0<phi ps k - plo ps k+1 by omega);refine⟨by omega,?_⟩;generalize hat:plo ps k+r % (phi ps k - plo ps k+1)=at';refine zoL (fun hr=>?_) fun hr=>trivial;have h0:0<zbn ps:=zjK hd.ord;have tt:Tms ps.length (zds g).ts:=zmV ht;have wt:=zgd ps g.ts;have tr:zak ps (zds g).ts - zD ps (zds g).ts<400:=by
  show zak ps (opp g.ts) - zD ps (opp g.ts)<400;rw [wt.1,wt.2];omega
 refine seq1 ?_;walk_at "d";rw [show PyData.tuple (ps.map zdM)=zcf ps from rfl,<- zcG];refine zeN hd.ord hd.bnd h8 ht hr ?_;walk_at "d";refine zeD hd ht hr hk (by omega) (by omega) ?_;walk_at "d";refine seq1 ?_;walk_at "d";refine zG hp5 (by decide) (by decide +kernel) fun m p6 m0 m1 hp6=>?_;walk_at "d";refine ze8 hd.ord hd.bnd h8 ht hr hg.le m0 ?_;walk_at "d";refine seq1 ?_;walk_at "d";refine zcZ (g:=zds g) hd.ord hd.bnd h8 tt tr fun u su gu lu=>?_;walk_at "d";refine cmp2 (S0:=[p6]) (h:=itm) (fun p=>itm (0 - p.1,p.2)) rfl u (by omega) ?_ ?_
 ·intro p mp x y acc R' hk';rw [zhS];walk_at "d";exact hk' _ _
 walk_at "d";refine zcZ (g:=g) hd.ord hd.bnd h8 ht hr fun v sv gv lv=>?_;have en:zri u=v:=zsu sv su gv.tl.nd gu.tl.nd gv.tl.pos gu.tl.pos fun f=>by
  rw [gv.fw,gu.fw];show fw (zU ps g.ts) f=fw (zU ps (opp g.ts)) _;rw [zqD ht];congr 1;funext w;rw [Int.zero_sub,Int.neg_neg]
 have el:(u.map fun p:Int×Int=>itm (0 - p.1,p.2)).reverse=v.map itm:=by
  rw [<- en];unfold zri;rw [List.map_reverse,List.map_map];rfl
 have sh:SeqAt.shaped (.list (v.map itm))=true:=(ziy (n:=1) (zkm fun p _=>zkw (n:=0) fun d m=>by
  simp only [List.mem_cons,List.not_mem_nil,or_false] at m;rcases m with rfl | rfl <;> exact zgj)).ok
 have er:=SeqAt.eqv_refl _ (SeqAt.canLay_of_shaped sh);walk_at "d";rw [el];refine⟨sh,sh,?_⟩;rw [if_neg (by rw [er]; decide)];refine zar (g:=zds g) hd.ord hd.bnd h8 tt tr ?_;walk_at "d";refine zar (g:=g) hd.ord hd.bnd h8 ht hr ?_;rw [zgB ht];walk_at "d";refine zh8 (g:=zds g) hd.ord hd.bnd h8 tt tr h0 ?_;walk_at "d";refine zh8 (g:=g) hd.ord hd.bnd h8 ht hr h0 ?_;rw [zgB ht];walk_at "d";generalize (((zaQ ps g).toNat / (zaQ ps g).toNat.gcd (zbn ps):Nat):Int)=x;generalize ((zbn ps / (zaQ ps g).toNat.gcd (zbn ps):Nat):Int)=y;have sh2:SeqAt.shaped (.tuple [.int x,.int y])=true:=(zkw (n:=0) fun d m=>by
  simp only [List.mem_cons,List.not_mem_nil,or_false] at m;rcases m with rfl | rfl <;> exact zgj:Shp 1 _).ok
 refine⟨sh2,sh2,?_⟩;rw [if_neg (by rw [SeqAt.eqv_refl _ (SeqAt.canLay_of_shaped sh2)]; decide)];trivial
end
end My
namespace My
open PySem L2
def top (i : Nat) : Stmt := PySem.Challenge.pw_gaugewright_k33_whole_all_are_counted.main.body.getD i (.Pass ⟨0, 0, 0, 0⟩)
abbrev s_law_cell_at:Stmt:=top 40
theorem zg9:FnScope ["script","k"] ["script","k"] (zp s_law_cell_at):=fsc (by decide +kernel)
abbrev s_law_pen:Stmt:=top 42
theorem zhx:FnScope ["cell","left"] ["cell"] (zp s_law_pen):=fsc (by decide +kernel)
abbrev s_law_next:Stmt:=top 41
theorem zgL:FnScope ["seed"] ["seed"] (zp s_law_next):=fsc (by decide +kernel)
abbrev s_law_draw:Stmt:=top 43
theorem zgy:FnScope ["pen","many","found"] ["pen","many"] (zp s_law_draw):=fsc (by decide +kernel)
abbrev s_law_names:Stmt:=top 45
theorem zas:FnScope ["pen","letters","way","first","names","word","at"] ["pen"] (zp s_law_names):=fsc (by decide +kernel)
abbrev s_law_number:Stmt:=top 44
theorem ze5:FnScope ["pen","way"] ["pen"] (zp s_law_number):=fsc (by decide +kernel)
abbrev s_law_counted:Stmt:=top 46
theorem zaD:FnScope ["pen","names","wides","drawing","k","low"] ["pen"] (zp s_law_counted):=fsc (by decide +kernel)
abbrev s_law_terms:Stmt:=top 48
theorem zb6:FnScope ["pen","drawing","some","terms","part"] ["pen","drawing"] (zp s_law_terms):=fsc (by decide +kernel)
abbrev s_law_ends:Stmt:=top 47
theorem za7:FnScope ["drawing","terms","least","most","part","times","ends"] ["drawing","terms"] (zp s_law_ends):=fsc (by decide +kernel)
abbrev s_law_gap:Stmt:=top 49
theorem zbV:FnScope ["pen","drawing","terms","least","most","wide","low","high"] ["pen","drawing"] (zp s_law_gap):=fsc (by decide +kernel)
abbrev s_law_idled:Stmt:=top 50
theorem zaI:FnScope ["pen","drawing","gap","there","found","k","name","low","high"] ["pen","drawing","gap"] (zp s_law_idled):=fsc (by decide +kernel)
abbrev s_kept_behind:Stmt:=top 38
theorem zha:FnScope ["tally","gap","worth"] ["tally","gap","worth"] (zp s_kept_behind):=fsc (by decide +kernel)
abbrev s_size_of:Stmt:=top 12
theorem zmh:FnScope ["one"] ["one"] (zp s_size_of):=fsc (by decide +kernel)
abbrev s_plus:Stmt:=top 9
theorem zrG:FnScope ["one","other"] ["one","other"] (zp s_plus):=fsc (by decide +kernel)
abbrev s_multiplied:Stmt:=top 11
theorem zff:FnScope ["one","by","ends"] ["one","by"] (zp s_multiplied):=fsc (by decide +kernel)
abbrev s_span_of:Stmt:=top 14
theorem zlS:FnScope ["part"] ["part"] (zp s_span_of):=fsc (by decide +kernel)
abbrev s_reach_of_terms:Stmt:=top 24
theorem zaE:FnScope ["drawing","terms","ends","part","times"] ["drawing","terms"] (zp s_reach_of_terms):=fsc (by decide +kernel)
abbrev s_reach:Stmt:=top 23
theorem zo2:FnScope ["drawing","gap"] ["drawing","gap"] (zp s_reach):=fsc (by decide +kernel)
abbrev s_with_part:Stmt:=top 37
theorem zbv:FnScope ["tally","span","times","longer","number","worth","many","total"] ["tally","span","times"] (zp s_with_part):=fsc (by decide +kernel)
abbrev s_tallies_of:Stmt:=top 36
theorem zbC:FnScope ["drawing","gap","many","times","tallies","part"] ["drawing","gap"] (zp s_tallies_of):=fsc (by decide +kernel)
abbrev s_kept_count:Stmt:=top 33
theorem zif:FnScope ["drawing","gap"] ["drawing","gap"] (zp s_kept_count):=fsc (by decide +kernel)
abbrev s_law_spans_right:Stmt:=top 54
theorem zap:FnScope ["drawing","gap","more","terms","low","high","middle","pieces"] ["drawing","gap","more"] (zp s_law_spans_right):=fsc (by decide +kernel)
abbrev s_spread:Stmt:=top 32
theorem zmZ:FnScope ["drawing","gap"] ["drawing","gap"] (zp s_spread):=fsc (by decide +kernel)
abbrev s_how_many:Stmt:=top 17
theorem zdh:FnScope ["drawing","many","part"] ["drawing"] (zp s_how_many):=fsc (by decide +kernel)
abbrev s_common_divisor:Stmt:=top 35
theorem zbc:FnScope ["one","other","rest"] ["one","other"] (zp s_common_divisor):=fsc (by decide +kernel)
abbrev s_share:Stmt:=top 34
theorem zf7:FnScope ["drawing","gap","top","bottom","common"] ["drawing","gap"] (zp s_share):=fsc (by decide +kernel)
abbrev s_first_set:Stmt:=top 15
theorem zjT:FnScope ["drawing"] ["drawing"] (zp s_first_set):=fsc (by decide +kernel)
abbrev s_steps_of:Stmt:=top 25
theorem zdk:FnScope ["drawing","terms","steps","part","times"] ["drawing","terms"] (zp s_steps_of):=fsc (by decide +kernel)
abbrev s_quotient_up:Stmt:=top 29
theorem zg7:FnScope ["number","by"] ["number","by"] (zp s_quotient_up):=fsc (by decide +kernel)
abbrev s_can_rise:Stmt:=top 26
theorem zdE:FnScope ["steps","rise","short","fewest"] ["steps","rise"] (zp s_can_rise):=fsc (by decide +kernel)
abbrev s_first_number:Stmt:=top 28
theorem zax:FnScope ["drawing","term","further","left","ends","steps","span","bound","first","number"] ["drawing","term","further","left"] (zp s_first_number):=fsc (by decide +kernel)
abbrev s_reached:Stmt:=top 27
theorem zbT:FnScope ["drawing","gap","number","one","left","place","term","first"] ["drawing","gap","number"] (zp s_reached):=fsc (by decide +kernel)
abbrev s_law_worth:Stmt:=top 51
theorem zb5:FnScope ["gap","one","total","part","times"] ["gap","one"] (zp s_law_worth):=fsc (by decide +kernel)
abbrev s_worth_of:Stmt:=top 19
theorem zj6:FnScope ["gap","one"] ["gap","one"] (zp s_worth_of):=fsc (by decide +kernel)
abbrev s_keeps:Stmt:=top 20
theorem zpe:FnScope ["gap","one"] ["gap","one"] (zp s_keeps):=fsc (by decide +kernel)
abbrev s_law_spread_right:Stmt:=top 52
theorem zae:FnScope ["drawing","gap","found","top","bottom","here","ways","one"] ["drawing","gap"] (zp s_law_spread_right):=fsc (by decide +kernel)
abbrev s_is_whole:Stmt:=top 6
theorem zkn:FnScope ["thing"] ["thing"] (zp s_is_whole):=fsc (by decide +kernel)
abbrev s_is_span:Stmt:=top 8
theorem zmi:FnScope ["thing"] ["thing"] (zp s_is_span):=fsc (by decide +kernel)
abbrev s_inside:Stmt:=top 10
theorem zov:FnScope ["one","other"] ["one","other"] (zp s_inside):=fsc (by decide +kernel)
abbrev s_narrowed:Stmt:=top 16
theorem zgh:FnScope ["drawing","part","span","old"] ["drawing","part","span"] (zp s_narrowed):=fsc (by decide +kernel)
abbrev s_law_halves_right:Stmt:=top 53
theorem zV:FnScope ["drawing","gap","part","at","name","low","high","below","above","here","ways"] ["drawing","gap","part","at"] (zp s_law_halves_right):=fsc (by decide +kernel)
abbrev s_law:Stmt:=top 55
theorem zdN:FnScope ["script","cell","pen","drawing","gap","least","most","turned","part","at"] ["script"] (zp s_law):=fsc (by decide +kernel)
structure Txt(mg:Str->Option Value):Prop where
 n_tuple:mg "tuple" = none
 n_len:mg "len" = none
 n_max:mg "max" = none
 n_int:mg "int" = none
 n_range:mg "range" = none
 n_min:mg "min" = none
 n_sum:mg "sum" = none
 n_dict:mg "dict" = none
 n_sorted:mg "sorted" = none
 n_abs:mg "abs" = none
 n_list:mg "list" = none
 n_enumerate:mg "enumerate" = none
 n_isinstance:mg "isinstance" = none
 n_bool:mg "bool" = none
 g_MOST_WORTHS:∃ t,mg "MOST_WORTHS" = some (.int 400 t)
 g_MOST_TRIES:∃ t,mg "MOST_TRIES" = some (.int 5 t)
structure Dds(K:W.Frag)(mg:Str->Option Value):Prop where
 d_law_cell_at:Dd K mg "_law_cell_at" s_law_cell_at ["script","k"]
 d_law_pen:Dd K mg "_law_pen" s_law_pen ["cell"]
 d_law_next:Dd K mg "_law_next" s_law_next ["seed"]
 d_law_draw:Dd K mg "_law_draw" s_law_draw ["pen","many"]
 d_law_names:Dd K mg "_law_names" s_law_names ["pen"]
 d_law_number:Dd K mg "_law_number" s_law_number ["pen"]
 d_law_counted:Dd K mg "_law_counted" s_law_counted ["pen"]
 d_law_terms:Dd K mg "_law_terms" s_law_terms ["pen","drawing"]
 d_law_ends:Dd K mg "_law_ends" s_law_ends ["drawing","terms"]
 d_law_gap:Dd K mg "_law_gap" s_law_gap ["pen","drawing"]
 d_law_idled:Dd K mg "_law_idled" s_law_idled ["pen","drawing","gap"]
 d_kept_behind:Dd K mg "kept_behind" s_kept_behind ["tally","gap","worth"]
 d_size_of:Dd K mg "size_of" s_size_of ["one"]
 d_plus:Dd K mg "plus" s_plus ["one","other"]
 d_multiplied:Dd K mg "multiplied" s_multiplied ["one","by"]
 d_span_of:Dd K mg "span_of" s_span_of ["part"]
 d_reach_of_terms:Dd K mg "reach_of_terms" s_reach_of_terms ["drawing","terms"]
 d_reach:Dd K mg "reach" s_reach ["drawing","gap"]
 d_with_part:Dd K mg "with_part" s_with_part ["tally","span","times"]
 d_tallies_of:Dd K mg "tallies_of" s_tallies_of ["drawing","gap"]
 d_kept_count:Dd K mg "kept_count" s_kept_count ["drawing","gap"]
 d_law_spans_right:Dd K mg "_law_spans_right" s_law_spans_right ["drawing","gap","more"]
 d_spread:Dd K mg "spread" s_spread ["drawing","gap"]
 d_how_many:Dd K mg "how_many" s_how_many ["drawing"]
 d_common_divisor:Dd K mg "common_divisor" s_common_divisor ["one","other"]
 d_share:Dd K mg "share" s_share ["drawing","gap"]
 d_first_set:Dd K mg "first_set" s_first_set ["drawing"]
 d_steps_of:Dd K mg "steps_of" s_steps_of ["drawing","terms"]
 d_quotient_up:Dd K mg "quotient_up" s_quotient_up ["number","by"]
 d_can_rise:Dd K mg "can_rise" s_can_rise ["steps","rise"]
 d_first_number:Dd K mg "first_number" s_first_number ["drawing","term","further","left"]
 d_reached:Dd K mg "reached" s_reached ["drawing","gap","number"]
 d_law_worth:Dd K mg "_law_worth" s_law_worth ["gap","one"]
 d_worth_of:Dd K mg "worth_of" s_worth_of ["gap","one"]
 d_keeps:Dd K mg "keeps" s_keeps ["gap","one"]
 d_law_spread_right:Dd K mg "_law_spread_right" s_law_spread_right ["drawing","gap"]
 d_is_whole:Dd K mg "is_whole" s_is_whole ["thing"]
 d_is_span:Dd K mg "is_span" s_is_span ["thing"]
 d_inside:Dd K mg "inside" s_inside ["one","other"]
 d_narrowed:Dd K mg "narrowed" s_narrowed ["drawing","part","span"]
 d_law_halves_right:Dd K mg "_law_halves_right" s_law_halves_right ["drawing","gap","part","at"]
section
variable {P:Program} {w:World} {K:W.Frag} {mg:Str->Option Value} {base:Heap}
abbrev zhq (P:Program) (w:World) (K:W.Frag) (mg:Str->Option Value) (base:Heap):Prop:=Df P w K mg base "_law_pen" ["cell"] 1 (spN ["cell"] zgf)
abbrev zeY (P:Program) (w:World) (K:W.Frag) (mg:Str->Option Value) (base:Heap):Prop:=Df P w K mg base "_law_next" ["seed"] 1 (spN ["seed"] zc1)
abbrev za6 (P:Program) (w:World) (K:W.Frag) (mg:Str->Option Value) (base:Heap):Prop:=Df P w K mg base "_law_draw" ["pen","many"] 2 (spN ["pen","many"] zz)
abbrev zdW (P:Program) (w:World) (K:W.Frag) (mg:Str->Option Value) (base:Heap):Prop:=Df P w K mg base "_law_names" ["pen"] 3 (spN ["pen"] zeO)
abbrev zdF (P:Program) (w:World) (K:W.Frag) (mg:Str->Option Value) (base:Heap):Prop:=Df P w K mg base "_law_number" ["pen"] 3 (spN ["pen"] zdU)
abbrev zeB (P:Program) (w:World) (K:W.Frag) (mg:Str->Option Value) (base:Heap):Prop:=Df P w K mg base "_law_counted" ["pen"] 4 (spN ["pen"] zcn)
abbrev zd3 (P:Program) (w:World) (K:W.Frag) (mg:Str->Option Value) (base:Heap):Prop:=Df P w K mg base "_law_terms" ["pen","drawing"] 3 (spN ["pen","drawing"] zdq)
abbrev zeL (P:Program) (w:World) (K:W.Frag) (mg:Str->Option Value) (base:Heap):Prop:=Df P w K mg base "_law_ends" ["drawing","terms"] 1 (spN ["drawing","terms"] zeq)
abbrev zhH (P:Program) (w:World) (K:W.Frag) (mg:Str->Option Value) (base:Heap):Prop:=Df P w K mg base "_law_gap" ["pen","drawing"] 4 (spN ["pen","drawing"] zfg)
abbrev zfV (P:Program) (w:World) (K:W.Frag) (mg:Str->Option Value) (base:Heap):Prop:=Df P w K mg base "_law_idled" ["pen","drawing","gap"] 3 (spN ["pen","drawing","gap"] zdo)
abbrev zcT (P:Program) (w:World) (K:W.Frag) (mg:Str->Option Value) (base:Heap):Prop:=Df P w K mg base "kept_behind" ["tally","gap","worth"] 1 (spN ["tally","gap","worth"] zcl)
abbrev zcr (P:Program) (w:World) (K:W.Frag) (mg:Str->Option Value) (base:Heap):Prop:=Df P w K mg base "size_of" ["one"] 1 (spN ["one"] zcM)
abbrev zj8 (P:Program) (w:World) (K:W.Frag) (mg:Str->Option Value) (base:Heap):Prop:=Df P w K mg base "plus" ["one","other"] 1 (spN ["one","other"] zkE)
abbrev zdf (P:Program) (w:World) (K:W.Frag) (mg:Str->Option Value) (base:Heap):Prop:=Df P w K mg base "multiplied" ["one","by"] 1 (spN ["one","by"] zcN)
abbrev zbu (P:Program) (w:World) (K:W.Frag) (mg:Str->Option Value) (base:Heap):Prop:=Df P w K mg base "span_of" ["part"] 1 (spN ["part"] zbE)
abbrev za8 (P:Program) (w:World) (K:W.Frag) (mg:Str->Option Value) (base:Heap):Prop:=Df P w K mg base "reach_of_terms" ["drawing","terms"] 2 (spN ["drawing","terms"] zaP)
abbrev ziI (P:Program) (w:World) (K:W.Frag) (mg:Str->Option Value) (base:Heap):Prop:=Df P w K mg base "reach" ["drawing","gap"] 3 (spN ["drawing","gap"] zim)
abbrev zd0 (P:Program) (w:World) (K:W.Frag) (mg:Str->Option Value) (base:Heap):Prop:=Df P w K mg base "with_part" ["tally","span","times"] 2 (spN ["tally","span","times"] zdA)
abbrev zcj (P:Program) (w:World) (K:W.Frag) (mg:Str->Option Value) (base:Heap):Prop:=Df P w K mg base "tallies_of" ["drawing","gap"] 4 (spN ["drawing","gap"] zca)
abbrev zbG (P:Program) (w:World) (K:W.Frag) (mg:Str->Option Value) (base:Heap):Prop:=Df P w K mg base "kept_count" ["drawing","gap"] 5 (spN ["drawing","gap"] zai)
abbrev zcP (P:Program) (w:World) (K:W.Frag) (mg:Str->Option Value) (base:Heap):Prop:=Df P w K mg base "_law_spans_right" ["drawing","gap","more"] 6 (spN ["drawing","gap","more"] za9)
abbrev zfc (P:Program) (w:World) (K:W.Frag) (mg:Str->Option Value) (base:Heap):Prop:=Df P w K mg base "spread" ["drawing","gap"] 5 (spN ["drawing","gap"] zck)
abbrev zdt (P:Program) (w:World) (K:W.Frag) (mg:Str->Option Value) (base:Heap):Prop:=Df P w K mg base "how_many" ["drawing"] 2 (spN ["drawing"] zcs)
abbrev zb0 (P:Program) (w:World) (K:W.Frag) (mg:Str->Option Value) (base:Heap):Prop:=Df P w K mg base "common_divisor" ["one","other"] 1 (spN ["one","other"] zbp)
abbrev ziw (P:Program) (w:World) (K:W.Frag) (mg:Str->Option Value) (base:Heap):Prop:=Df P w K mg base "share" ["drawing","gap"] 6 (spN ["drawing","gap"] zfq)
abbrev zed (P:Program) (w:World) (K:W.Frag) (mg:Str->Option Value) (base:Heap):Prop:=Df P w K mg base "first_set" ["drawing"] 1 (spN ["drawing"] zdy)
abbrev zeV (P:Program) (w:World) (K:W.Frag) (mg:Str->Option Value) (base:Heap):Prop:=Df P w K mg base "steps_of" ["drawing","terms"] 2 (spN ["drawing","terms"] zer)
abbrev zcV (P:Program) (w:World) (K:W.Frag) (mg:Str->Option Value) (base:Heap):Prop:=Df P w K mg base "quotient_up" ["number","by"] 1 (spN ["number","by"] zbb)
abbrev zeP (P:Program) (w:World) (K:W.Frag) (mg:Str->Option Value) (base:Heap):Prop:=Df P w K mg base "can_rise" ["steps","rise"] 1 (spN ["steps","rise"] zei)
abbrev zcE (P:Program) (w:World) (K:W.Frag) (mg:Str->Option Value) (base:Heap):Prop:=Df P w K mg base "first_number" ["drawing","term","further","left"] 3 (spN ["drawing","term","further","left"] zb1)
abbrev zfy (P:Program) (w:World) (K:W.Frag) (mg:Str->Option Value) (base:Heap):Prop:=Df P w K mg base "reached" ["drawing","gap","number"] 4 (spN ["drawing","gap","number"] zfi)
abbrev zef (P:Program) (w:World) (K:W.Frag) (mg:Str->Option Value) (base:Heap):Prop:=Df P w K mg base "_law_worth" ["gap","one"] 1 (spN ["gap","one"] zeT)
abbrev zeW (P:Program) (w:World) (K:W.Frag) (mg:Str->Option Value) (base:Heap):Prop:=Df P w K mg base "worth_of" ["gap","one"] 1 (spN ["gap","one"] zen)
abbrev zh5 (P:Program) (w:World) (K:W.Frag) (mg:Str->Option Value) (base:Heap):Prop:=Df P w K mg base "keeps" ["gap","one"] 2 (spN ["gap","one"] ziz)
abbrev zcJ (P:Program) (w:World) (K:W.Frag) (mg:Str->Option Value) (base:Heap):Prop:=Df P w K mg base "_law_spread_right" ["drawing","gap"] 7 (spN ["drawing","gap"] zaX)
abbrev zeG (P:Program) (w:World) (K:W.Frag) (mg:Str->Option Value) (base:Heap):Prop:=Df P w K mg base "is_whole" ["thing"] 1 (spN ["thing"] zc3)
abbrev zfr (P:Program) (w:World) (K:W.Frag) (mg:Str->Option Value) (base:Heap):Prop:=Df P w K mg base "is_span" ["thing"] 2 (spN ["thing"] ze9)
abbrev zg3 (P:Program) (w:World) (K:W.Frag) (mg:Str->Option Value) (base:Heap):Prop:=Df P w K mg base "inside" ["one","other"] 1 (spN ["one","other"] zga)
abbrev zeI (P:Program) (w:World) (K:W.Frag) (mg:Str->Option Value) (base:Heap):Prop:=Df P w K mg base "narrowed" ["drawing","part","span"] 3 (spN ["drawing","part","span"] zde)
abbrev zcB (P:Program) (w:World) (K:W.Frag) (mg:Str->Option Value) (base:Heap):Prop:=Df P w K mg base "_law_halves_right" ["drawing","gap","part","at"] 6 (spN ["drawing","gap","part","at"] zaW)
theorem zdm(T:Txt mg)(dd:Dds K mg):Df P w K mg base "_law_cell_at" ["script","k"] 1 (sp2 (zrK K)):=by
 refine Df.of2 dd.d_law_cell_at zg9 (fun v u=>[some v,some u]) (fun _ _=>rfl) fun f cdv A outer s H v u Q E hr h=>?_;obtain⟨a,ns,i,rfl,rfl,hS,h0,q⟩:=h;refine⟨_,(zj (zbk (zW zku (pv 1) (zR zmK (by rfl) T.n_len zd1 (zc (pv 0) zi)) (nomark _)) (zq (zK (zI zna (pv 0) (pv 1) (fun _ _=>rfl)))) zac) (zq (zK zf))),?_⟩;simp only [zoA,ztZ,zpC,tOp,zpy,tCB,zlE,zsa,zt3,tC,zr3,zoi,List.getElem?_cons_zero,List.getElem?_cons_succ];refine⟨a,_,rfl,.inl hS,?_⟩;simp only [zoi,zud,decide_eq_true_eq];refine ite2 (fun hi=>?_) (fun _=>q 0);obtain⟨n,e⟩:=zq9 h0 hi;exact⟨a,_,i,_,rfl,rfl,hS,e,q n⟩
theorem zgG(T:Txt mg)(dd:Dds K mg):zhq P w K mg base:=by
 exact Df.dN dd.d_law_pen zhx 1 rfl fun f cdv A outer s H E hr=>⟨_,_,(zj (zF (i:=1) zhx.nd rfl (Or.inl rfl) (zR (zgK rfl) (by rfl) T.n_max zjd (zc (pv 0) (zc (zC zaS zf (pv 0)) zi)))) (zq (zK (zaO (zc (pv 1) (zc (zaR zmM (by rfl) T.n_int zql (zc (zfF zt8 (pv 1) (zC zhF zf zf) (nomark _)) zi)) (zc (zC zd4 (pv 1) zf) zi))))))),(zr (zw (zaU znZ (za zd (za (zm zb9 zg zd) zh))) zk) (zM (zd6 (za zd (za (zaU zrE (za (zm zcI zd (zm zhI zg zg)) zh)) (za (zm zhI zd zg) zh)))))),fun xs S R q=>q⟩
theorem zcu(T:Txt mg)(dd:Dds K mg):zeY P w K mg base:=by
 exact Df.dN dd.d_law_next zgL 0 rfl fun f cdv A outer s H E hr=>⟨_,_,(zj (zF (i:=0) zgL.nd rfl (Or.inl rfl) (zC zd4 (zC zL (pv 0) zf) zf)) (zq (zK (zC zd4 (zC zL (zC zL (zC zaw (pv 0) (pv 0)) (zC zaw zf (pv 0))) zf) zf)))),(zr (zw (zm zhI (zm zY zd zg) zg) zk) (zM (zm zhI (zm zY (zm zY (zm za4 zd zd) (zm za4 zg zd)) zg) zg))),fun xs S R q=>q⟩
theorem zv(T:Txt mg)(dd:Dds K mg)(zcu:zeY P w K mg base):za6 P w K mg base:=by
 exact Df.dN dd.d_law_draw zgy 1 rfl fun f cdv A outer s H E hr=>⟨_,_,(zj (zbk (zW (zc7 hr.units) (zI zt (pv 0) zf (fun _ _=>rfl)) zf (nomark _)) (zj (zF (i:=2) zgy.nd rfl (Or.inl rfl) (zC zd4 (zI zt (pv 0) zf (fun _ _=>rfl)) (pv 1))) (zj (zey (zC zdX (zI zt (pv 0) zf (fun _ _=>rfl)) (pv 1)) (zkM (pv 0) zf zf0)) (zq (zK (pv 2))))) zac) (zj (zey (zu zcu hr (by decide) (zc (zC zL (zu zcu hr (by decide) (zc (zI zt (pv 0) zf (fun _ _=>rfl)) zi)) zf) zi)) (zkM (pv 0) zf zf0)) (zq (zK (zC zd4 (zC zdX (zI zt (pv 0) zf (fun _ _=>rfl)) zf) (pv 1)))))),(zr (zbt (zdJ (zm zc8 (zm zJ zd zg) zg)) (zr (zw (zm zhI (zm zJ zd zg) zd) zk) (zr (zw (zm zgo (zm zJ zd zg) zd) (zk3 zd zg)) (zM zd))) zad) (zr (zw (zx (za (zm zY (zx (za (zm zJ zd zg) zh)) zg) zh)) (zk3 zd zg)) (zM (zm zhI (zm zgo (zm zJ zd zg) zg) zd)))),fun xs S R q=>q⟩
theorem zcF(T:Txt mg)(dd:Dds K mg)(zv:za6 P w K mg base):zdW P w K mg base:=by
 exact Df.dN dd.d_law_names zas 6 rfl fun f cdv A outer s H E hr=>⟨_,_,(zj (zF (i:=1) zas.nd rfl (Or.inr rfl) zew) (zj (zF (i:=2) zas.nd rfl (Or.inl rfl) (zu zv hr (by decide) (zc (pv 0) (zc zf zi)))) (zj (zF (i:=3) zas.nd rfl (Or.inr rfl) (zu zv hr (by decide) (zc (pv 0) (zc zf zi)))) (zj (zhY (i:=4) (fun _ _ h=>h) rfl (zay rfl rfl rfl rfl (N:=["k","letters","first"]) (caps:=[none,some 1,some 3]) (by show zb4 ["pen","letters","way","first","names","word","at"] (zp s_law_names).names _ _ _=true; decide +kernel)) zas.nd rfl rfl (zbZ rfl T.n_range (zc zf zi)) (fun _ _ _ _=>(zy (i:=0) (by show List.Nodup (["k","letters","first"]:List Str); decide) rfl (Or.inl rfl))) (fun _ _ _ _=>zbS) (fun _ _ _ _=>(zC zaw (zI zt (pv 1) (zC zd4 (zC zL (pv 2) (zC zaw zf (pv 0))) zf) (fun _ _=>rfl)) (zC zL zf (zC zd4 (zC zL (pv 2) (zC zaw zf (pv 0))) zf))))) (zj (zbk (zW (zc7 hr.units) (pv 2) zf (nomark _)) (zj (zF (i:=5) zas.nd rfl (Or.inr rfl) (znN PySem.F.plainAttrs_str PySem.F.slot_str_join PySem.F.type_str_join zrq zew (zc (zcz (fun _ _ h=>h) rfl (zay rfl rfl rfl rfl (N:=["k","letters","first"]) (caps:=[none,some 1,some 3]) (by show zb4 ["pen","letters","way","first","names","word","at"] (zp s_law_names).names _ _ _=true; decide +kernel)) (zbZ rfl T.n_range (zc zf zi)) (fun _ _ _ _=>(zy (i:=0) (by show List.Nodup (["k","letters","first"]:List Str); decide) rfl (Or.inl rfl))) (fun _ _ _ _=>zbS) (fun _ _ _ _=>(zI zt (pv 1) (zC zd4 (zC zL (pv 2) (zC zaw zf (pv 0))) zf) (fun _ _=>rfl)))) zi))) (zq (zhY (i:=4) (fun _ _ h=>h) rfl (zay rfl rfl rfl rfl (N:=["k","word"]) (caps:=[none,some 5]) (by show zb4 ["pen","letters","way","first","names","word","at"] (zp s_law_names).names _ _ _=true; decide +kernel)) zas.nd rfl rfl (zbZ rfl T.n_range (zc zf zi)) (fun _ _ _ _=>(zy (i:=0) (by show List.Nodup (["k","word"]:List Str); decide) rfl (Or.inl rfl))) (fun _ _ _ _=>zbS) (fun _ _ _ _=>(zci zfW (pv 1) zdY (zcS (zC zL (pv 0) zf))))))) zac) (zj (zbk (zW (zc7 hr.units) (pv 2) zf (nomark _)) (zq (zF (i:=4) zas.nd rfl (Or.inl rfl) (zaO (zc zew (zc zew (zc zew (zc zew (zc zew (zc zew (zc zew (zc zew zi))))))))))) zac) (zj (zF (i:=6) zas.nd rfl (Or.inl rfl) (zu zv hr (by decide) (zc (pv 0) (zc zf zi)))) (zj (zF (i:=4) zas.nd rfl (Or.inl rfl) (zC zog (zci zfW (pv 4) (zcS (pv 6)) zdY) (zci zfW (pv 4) zdY (zcS (pv 6))))) (zj (zbk (zW (zc7 hr.units) (zu zv hr (by decide) (zc (pv 0) (zc zf zi))) zf (nomark _)) (zq (zfC (zqH PySem.F.plainAttrs_list PySem.F.slot_list_reverse PySem.F.type_list_reverse zhO (pv 4)))) zac) (zq (zK (pv 4)))))))))))),(zr (zw zeA zk) (zr (zw (zT (i:=0) (za zd (za zg zh))) zk) (zr (zw (zT (i:=0) (za zd (za zg zh))) zk) (zr (zw (zkZ (zdC (za zg zh)) zk zbW (zm za4 (zm zJ zd (zm zhI (zm zY zd (zm za4 zg zd)) zg)) (zm zY zg (zm zhI (zm zY zd (zm za4 zg zd)) zg)))) zk) (zr (zbt (zdJ (zm zc8 zd zg)) (zr (zw (zsG zpF zeA (za (zbO (zdC (za zg zh)) zk zbW (zm zJ zd (zm zhI (zm zY zd (zm za4 zg zd)) zg))) zh)) zk) (zw (zkZ (zdC (za zg zh)) zk zbW (zjG zfM zd zeh (zdO (zm zY zd zg)))) zk)) zad) (zr (zbt (zdJ (zm zc8 zd zg)) (zw (zd6 (za zeA (za zeA (za zeA (za zeA (za zeA (za zeA (za zeA (za zeA zh))))))))) zk) zad) (zr (zw (zT (i:=0) (za zd (za zg zh))) zk) (zr (zw (zm zrP (zjG zfM zd (zdO zd) zeh) (zjG zfM zd zeh (zdO zd))) zk) (zr (zbt (zdJ (zm zc8 (zT (i:=0) (za zd (za zg zh))) zg)) (zfJ (zq1 zhp zd)) zad) (zM zd)))))))))),fun xs S R q=>q⟩
theorem zb3(T:Txt mg)(dd:Dds K mg)(zv:za6 P w K mg base):zdF P w K mg base:=by
 exact Df.dN dd.d_law_number ze5 1 rfl fun f cdv A outer s H E hr=>⟨_,_,(zj (zF (i:=1) ze5.nd rfl (Or.inl rfl) (zu zv hr (by decide) (zc (pv 0) (zc zf zi)))) (zj (zbk (zW zku (pv 1) zf (nomark _)) (zq (zK (zC zaS (zu zv hr (by decide) (zc (pv 0) (zc zf zi))) zf))) zac) (zj (zbk (zW zku (pv 1) zf (nomark _)) (zq (zK (zC zaS (zu zv hr (by decide) (zc (pv 0) (zc zf zi))) zf))) zac) (zq (zK (zC zaw (zC zaS (zu zv hr (by decide) (zc (pv 0) (zc (zC zaw zf (zC zhF zf zf)) zi))) (zC zhF zf zf)) (zC zhF zf zf))))))),(zr (zw (zT (i:=0) (za zd (za zg zh))) zk) (zr (zbt (zdJ (zm zcI zd zg)) (zM (zm zb9 (zT (i:=0) (za zd (za zg zh))) zg)) zad) (zr (zbt (zdJ (zm zcI zd zg)) (zM (zm zb9 (zT (i:=0) (za zd (za zg zh))) zg)) zad) (zM (zm za4 (zm zb9 (zT (i:=0) (za zd (za (zm za4 zg (zm zhI zg zg)) zh))) (zm zhI zg zg)) (zm zhI zg zg)))))),fun xs S R q=>q⟩
theorem zdx(T:Txt mg)(dd:Dds K mg)(zcF:zdW P w K mg base)(zv:za6 P w K mg base)(zb3:zdF P w K mg base):zeB P w K mg base:=by
 exact Df.dN dd.d_law_counted zaD 5 rfl fun f cdv A outer s H E hr=>⟨_,_,(zj (zF (i:=1) zaD.nd rfl (Or.inl rfl) (zu zcF hr (by decide) (zc (pv 0) zi))) (znn (zhY (i:=2) (fun _ _ h=>h) rfl (zay rfl rfl rfl rfl (N:=["k","pen"]) (caps:=[none,some 0]) (by show zb4 ["pen","names","wides","drawing","k","low"] (zp s_law_counted).names _ _ _=true; decide +kernel)) zaD.nd rfl rfl (zbZ rfl T.n_range (zc (zC zL zf (zu zv hr (by decide) (zc (pv 0) (zc zf zi)))) zi)) (fun _ _ _ _=>(zy (i:=0) (by show List.Nodup (["k","pen"]:List Str); decide) rfl (Or.inl rfl))) (fun _ _ _ _=>zbS) (fun _ _ _ _=>(zC zL zf (zu zv hr (by decide) (zc (pv 1) (zc zf zi)))))) (zm6 (ztd (zW (zc7 hr.units) (zu zv hr (by decide) (zc (pv 0) (zc zf zi))) zf (nomark _)) (zo3 (zoX (i:=2) zaD.nd rfl (Or.inl rfl) (zab (zaO (zc zf zi)) (zab (zaO (zc zf zi)) (zab (zaO (zc zf zi)) (zab (zaO (zc zf (zc zf (zc zf zi)))) (zab (zC zaw (zaO (zc zf zi)) zf) (zab (zaO (zc zf (zc zf zi))) zjw)))))) (zu zv hr (by decide) (zc (pv 0) (zc zf zi))) (fun _ _=>rfl))) (QSs.mk zac)) (QSs.mk (zj (zF (i:=3) zaD.nd rfl (Or.inl rfl) (zaO zi)) (zj (zcd PassesOwn.never rfl (zbZ rfl T.n_range (zc (zR zbm (by rfl) T.n_len zd1 (zc (pv 2) zi)) zi)) (zy (i:=4) zaD.nd rfl (Or.inl rfl)) (zj (zF (i:=5) zaD.nd rfl (Or.inl rfl) (zu zb3 hr (by decide) (zc (pv 0) zi))) (zq (zfC (znN PySem.F.plainAttrs_list PySem.F.slot_list_append PySem.F.type_list_append zdV (pv 3) (zc (za1 (zc (zI zt (pv 1) (pv 4) (fun _ _=>rfl)) (zc (pv 5) (zc (zC zaS (zC zL (pv 5) (zI zt (pv 2) (pv 4) (fun _ _=>rfl))) zf) zi)))) zi)))))) (zq (zK (zaR zbf (by rfl) T.n_tuple zdB (zc (pv 3) zi)))))))))),(zr (zw (zT (i:=0) (za zd zh)) zk) (zr (zw (zbO (zdC (za (zm zY zg (zT (i:=0) (za zd (za zg zh)))) zh)) zk zbW (zm zY zg (zT (i:=0) (za zd (za zg zh))))) zk) (zr (zbt (zdJ (zm zc8 (zT (i:=0) (za zd (za zg zh))) zg)) (zw (zm zJ (zbI (za (zbI (za zg zh)) (za (zbI (za zg zh)) (za (zbI (za zg zh)) (za (zbI (za zg (za zg (za zg zh)))) (za (zm za4 (zbI (za zg zh)) zg) (za (zbI (za zg (za zg zh))) zh))))))) (zT (i:=0) (za zd (za zg zh)))) zk) zad) (zr (zw (zd6 zh) zk) (zr (zcY (zdC (za (zaU zcU (za zd zh)) zh)) zk (zr (zw (zT (i:=0) (za zd zh)) zk) (zfJ (zph ze3 zd (za (za0 (za (zm zJ zd zd) (za zd (za (zm zb9 (zm zY zd (zm zJ zd zd)) zg) zh)))) zh))))) (zM (zaU zek (za zd zh)))))))),fun xs S R q=>q⟩
theorem zcK(T:Txt mg)(dd:Dds K mg)(zv:za6 P w K mg base):zd3 P w K mg base:=by
 exact Df.dN dd.d_law_terms zb6 3 rfl fun f cdv A outer s H E hr=>⟨_,_,(zj (zF (i:=2) zb6.nd rfl (Or.inl rfl) (zI zt (zh1 (zab (zh1 (zab zf (zab (zdH zbM zf) (zab zf (zab (zdH zbM zf) (zab zf (zab (zdH zbM zf) zjw))))))) (zab (zaO (zc zf (zc (zdH zbM zf) zi))) (zab (zaO (zc zf (zc (zdH zbM zf) zi))) (zab (zaO (zc zf (zc (zdH zbM zf) zi))) (zab (zaO (zc zf (zc zf (zc (zdH zbM zf) (zc (zdH zbM zf) zi))))) (zab (zaO (zc zf (zc zf (zc (zdH zbM zf) (zc (zdH zbM zf) zi))))) zjw))))))) (zu zv hr (by decide) (zc (pv 0) (zc zf zi))) (fun _ _=>rfl))) (zj (zF (i:=3) zb6.nd rfl (Or.inl rfl) (zaO zi)) (zj (zcd PassesOwn.never rfl (zbZ rfl T.n_range (zc (zR zbm (by rfl) T.n_len zd1 (zc (pv 1) zi)) zi)) (zy (i:=4) zb6.nd rfl (Or.inl rfl)) (zq (zbk (zW zrD (zu zv hr (by decide) (zc (pv 0) (zc zf zi))) zf (nomark _)) (zq (zfC (znN PySem.F.plainAttrs_list PySem.F.slot_list_append PySem.F.type_list_append zdV (pv 3) (zc (za1 (zc (pv 4) (zc (zI zt (pv 2) (zu zv hr (by decide) (zc (pv 0) (zc (zR zbm (by rfl) T.n_len zd1 (zc (pv 2) zi)) zi))) (fun _ _=>rfl)) zi))) zi)))) zac))) (zj (zbk (zW (zc7 hr.units) (pv 3) (zaO zi) (nomark _)) (zq (zF (i:=3) zb6.nd rfl (Or.inl rfl) (zaO (zc (za1 (zc (zu zv hr (by decide) (zc (pv 0) (zc (zR zbm (by rfl) T.n_len zd1 (zc (pv 1) zi)) zi))) (zc (zI zt (pv 2) (zu zv hr (by decide) (zc (pv 0) (zc (zR zbm (by rfl) T.n_len zd1 (zc (pv 2) zi)) zi))) (fun _ _=>rfl)) zi))) zi)))) zac) (zq (zK (zaR zbf (by rfl) T.n_tuple zdB (zc (pv 3) zi)))))))),(zr (zw (zm zJ (zbI (za (zbI (za zg (za (zdI ziO zg) (za zg (za (zdI ziO zg) (za zg (za (zdI ziO zg) zh))))))) (za (zbI (za zg (za (zdI ziO zg) zh))) (za (zbI (za zg (za (zdI ziO zg) zh))) (za (zbI (za zg (za (zdI ziO zg) zh))) (za (zbI (za zg (za zg (za (zdI ziO zg) (za (zdI ziO zg) zh))))) (za (zbI (za zg (za zg (za (zdI ziO zg) (za (zdI ziO zg) zh))))) zh))))))) (zT (i:=0) (za zd (za zg zh)))) zk) (zr (zw (zd6 zh) zk) (zr (zcY (zdC (za (zaU zcU (za zd zh)) zh)) zk (zbt (zdJ (zm zcI (zT (i:=0) (za zd (za zg zh))) zg)) (zfJ (zph ze3 zd (za (za0 (za zd (za (zm zJ zd (zT (i:=0) (za zd (za (zaU zcU (za zd zh)) zh)))) zh))) zh))) zad)) (zr (zbt (zdJ (zm zc8 zd (zbI zh))) (zw (zd6 (za (za0 (za (zT (i:=0) (za zd (za (zaU zcU (za zd zh)) zh))) (za (zm zJ zd (zT (i:=0) (za zd (za (zaU zcU (za zd zh)) zh)))) zh))) zh)) zk) zad) (zM (zaU zek (za zd zh))))))),fun xs S R q=>q⟩
theorem zcp(T:Txt mg)(dd:Dds K mg):zeL P w K mg base:=by
 exact Df.dN dd.d_law_ends za7 5 rfl fun f cdv A outer s H E hr=>⟨_,_,(zj (zF (i:=2) za7.nd rfl (Or.inl rfl) zf) (zj (zF (i:=3) za7.nd rfl (Or.inl rfl) zf) (zj (zcd PassesOwn.never rfl (zcg (pv 1)) (zbh (n:=2) rfl (zB (zy (i:=4) za7.nd rfl (Or.inl rfl)) (zB (zy (i:=5) za7.nd rfl (Or.inl rfl)) zau))) (zj (zF (i:=6) za7.nd rfl (Or.inl rfl) (zaO (zc (zC zaw (pv 5) (zI zt (zI zt (pv 0) (pv 4) (fun _ _=>rfl)) zf (fun _ _=>rfl))) (zc (zC zaw (pv 5) (zI zt (zI zt (pv 0) (pv 4) (fun _ _=>rfl)) zf (fun _ _=>rfl))) zi)))) (zj (zF (i:=2) za7.nd rfl (Or.inl rfl) (zC zL (pv 2) (zR (zgz rfl hr.units) (by rfl) T.n_min zjM (zc (pv 6) zi)))) (zq (zF (i:=3) za7.nd rfl (Or.inl rfl) (zC zL (pv 3) (zR (ziT rfl) (by rfl) T.n_max zjd (zc (pv 6) zi)))))))) (zq (zK (za1 (zc (pv 2) (zc (pv 3) zi)))))))),(zr (zw zg zk) (zr (zw zg zk) (zr (zcY (zce zd) (za3 (zA zk (zA zk zav))) (zr (zw (zbI (za (zm za4 zd (zm zJ (zm zJ zd zd) zg)) (za (zm za4 zd (zm zJ (zm zJ zd zd) zg)) zh))) zk) (zr (zw (zm zY zd (zaU zke (za zd zh))) zk) (zw (zm zY zd (zaU zqG (za zd zh))) zk)))) (zM (za0 (za zd (za zd zh))))))),fun xs S R q=>q⟩
theorem zgQ(T:Txt mg)(dd:Dds K mg)(zcK:zd3 P w K mg base)(zcp:zeL P w K mg base)(zv:za6 P w K mg base):zhH P w K mg base:=by
 exact Df.dN dd.d_law_gap zbV 6 rfl fun f cdv A outer s H E hr=>⟨_,_,(zj (zF (i:=2) zbV.nd rfl (Or.inl rfl) (zu zcK hr (by decide) (zc (pv 0) (zc (pv 1) zi)))) (zj (zey (zu zcp hr (by decide) (zc (pv 1) (zc (pv 2) zi))) (zbh (n:=2) rfl (zB (zy (i:=3) zbV.nd rfl (Or.inl rfl)) (zB (zy (i:=4) zbV.nd rfl (Or.inl rfl)) zau)))) (zj (zF (i:=5) zbV.nd rfl (Or.inl rfl) (zC zaS (pv 4) (pv 3))) (zj (zF (i:=6) zbV.nd rfl (Or.inl rfl) (zC zL (pv 3) (zI zt (zh1 (zab zf (zab zf (zab (zdH zbM zf) (zab (zC zdX (pv 5) zf) (zab (zC zdX (pv 5) zf) (zab (zC zL (pv 5) zf) (zab (pv 5) (zab (zC zaS (pv 5) zf) zjw))))))))) (zu zv hr (by decide) (zc (pv 0) (zc zf zi))) (fun _ _=>rfl)))) (zj (zF (i:=7) zbV.nd rfl (Or.inl rfl) (zC zL (pv 6) (zI zt (zh1 (zab zf (zab zf (zab zf (zab (zC zdX (pv 5) zf) (zab (pv 5) (zab (zC zL (pv 5) zf) zjw))))))) (zu zv hr (by decide) (zc (pv 0) (zc zf zi))) (fun _ _=>rfl)))) (zq (zK (za1 (zc (pv 2) (zc (pv 6) (zc (pv 7) zi))))))))))),(zr (zw (zT (i:=0) (za zd (za zd zh))) zk) (zr (zw (zx (za zd (za zd zh))) (za3 (zA zk (zA zk zav)))) (zr (zw (zm zb9 zd zd) zk) (zr (zw (zm zY zd (zm zJ (zbI (za zg (za zg (za (zdI ziO zg) (za (zm zgo zd zg) (za (zm zgo zd zg) (za (zm zY zd zg) (za zd (za (zm zb9 zd zg) zh))))))))) (zT (i:=0) (za zd (za zg zh))))) zk) (zr (zw (zm zY zd (zm zJ (zbI (za zg (za zg (za zg (za (zm zgo zd zg) (za zd (za (zm zY zd zg) zh))))))) (zT (i:=0) (za zd (za zg zh))))) zk) (zM (za0 (za zd (za zd (za zd zh)))))))))),fun xs S R q=>q⟩
theorem zeX(T:Txt mg)(dd:Dds K mg)(zv:za6 P w K mg base):zfV P w K mg base:=by
 exact Df.dN dd.d_law_idled zaI 6 rfl fun f cdv A outer s H E hr=>⟨_,_,(zj (zhY (i:=3) (fun _ _ h=>h) rfl (zay (L:=0) rfl rfl rfl rfl (N:=["part","times"]) (caps:=[none,none]) (by show zb4 ["pen","drawing","gap","there","found","k","name","low","high"] (zp s_law_idled).names _ _ _=true; decide +kernel)) zaI.nd rfl rfl (zcg (zI zt (pv 2) zf (fun _ _=>rfl))) (fun _ _ _ _=>(zbh (n:=2) rfl (zB (zy (i:=0) (by show List.Nodup (["part","times"]:List Str); decide) rfl (Or.inl rfl)) (zB (zy (i:=1) (by show List.Nodup (["part","times"]:List Str); decide) rfl (Or.inl rfl)) zau)))) (fun _ _ _ _=>zbS) (fun _ _ _ _=>(pv 0))) (zj (zF (i:=4) zaI.nd rfl (Or.inl rfl) (zaO zi)) (zj (zcd PassesOwn.never rfl (zbZ rfl T.n_range (zc (zR zbm (by rfl) T.n_len zd1 (zc (pv 1) zi)) zi)) (zy (i:=5) zaI.nd rfl (Or.inl rfl)) (zj (zey (zI zt (pv 1) (pv 5) (fun _ _=>rfl)) (zbh (n:=3) rfl (zB (zy (i:=6) zaI.nd rfl (Or.inl rfl)) (zB (zy (i:=7) zaI.nd rfl (Or.inl rfl)) (zB (zy (i:=8) zaI.nd rfl (Or.inl rfl)) zau))))) (zj (zbk (PW.pt (zqu (zW (zny hr.units) (pv 5) (pv 3) (by rfl)) (zos (zW (zc7 hr.units) (zu zv hr (by decide) (zc (pv 0) (zc zf zi))) zf (nomark _))))) (zq (zF (i:=8) zaI.nd rfl (Or.inl rfl) (zC zL (pv 7) (zu zv hr (by decide) (zc (pv 0) (zc (zC zhF zf zf) zi)))))) zac) (zq (zfC (znN PySem.F.plainAttrs_list PySem.F.slot_list_append PySem.F.type_list_append zdV (pv 4) (zc (za1 (zc (pv 6) (zc (pv 7) (zc (pv 8) zi)))) zi))))))) (zq (zK (zaR zbf (by rfl) T.n_tuple zdB (zc (pv 4) zi))))))),(zr (zw (zbO (zce (zm zJ zd zg)) (za3 (zA zk (zA zk zav))) zbW zd) zk) (zr (zw (zd6 zh) zk) (zr (zcY (zdC (za (zaU zcU (za zd zh)) zh)) zk (zr (zw (zm zJ zd zd) (za3 (zA zk (zA zk (zA zk zav))))) (zr (zbt (zqk (zdJ (zm zpu zd zd)) (zdJ (zm zc8 (zT (i:=0) (za zd (za zg zh))) zg))) (zw (zm zY zd (zT (i:=0) (za zd (za (zm zhI zg zg) zh)))) zk) zad) (zfJ (zph ze3 zd (za (za0 (za zd (za zd (za zd zh)))) zh)))))) (zM (zaU zek (za zd zh)))))),fun xs S R q=>q⟩
theorem zbF(T:Txt mg)(dd:Dds K mg):zcT P w K mg base:=by
 exact Df.dN dd.d_kept_behind zha 0 rfl fun f cdv A outer s H E hr=>⟨_,_,(zq (zK (zR (zd7 rfl) (by rfl) T.n_sum zjf (zc (zcz (fun _ _ h=>h) rfl (zay rfl rfl rfl rfl (N:=["more","many","gap","worth"]) (caps:=[none,none,some 1,some 2]) (by show zb4 ["tally","gap","worth"] (zp s_kept_behind).names _ _ _=true; decide +kernel)) (zhZ (pv 0) rfl rfl) (fun _ _ _ _=>(zbh (n:=2) rfl (zB (zy (i:=0) (by show List.Nodup (["more","many","gap","worth"]:List Str); decide) rfl (Or.inl rfl)) (zB (zy (i:=1) (by show List.Nodup (["more","many","gap","worth"]:List Str); decide) rfl (Or.inl rfl)) zau)))) (fun _ _ _ _=>(zoq (ziF zfA zfA (zI zt (pv 2) zf (fun _ _=>rfl)) (zC zL (pv 3) (pv 0)) (zI zt (pv 2) zf (fun _ _=>rfl))))) (fun _ _ _ _=>(pv 1))) zi)))),(zM (zaU zjg (za (zbO (ziD zd) (za3 (zA zk (zA zk zav))) (zdJ (ze1 zcI zcI (zm zJ zd zg) (zm zY zd zd) (zm zJ zd zg))) zd) zh))),fun xs S R q=>q⟩
theorem zaB(T:Txt mg)(dd:Dds K mg):zcr P w K mg base:=by
 exact Df.dN dd.d_size_of zmh 0 rfl fun f cdv A outer s H E hr=>⟨_,_,(zq (zK (zC zL (zC zaS (zI zt (pv 0) zf (fun _ _=>rfl)) (zI zt (pv 0) zf (fun _ _=>rfl))) zf))),(zM (zm zY (zm zb9 (zm zJ zd zg) (zm zJ zd zg)) zg)),fun xs S R q=>q⟩
theorem zjD(T:Txt mg)(dd:Dds K mg):zj8 P w K mg base:=by
 exact Df.dN dd.d_plus zrG 0 rfl fun f cdv A outer s H E hr=>⟨_,_,(zq (zK (za1 (zc (zC zL (zI zt (pv 0) zf (fun _ _=>rfl)) (zI zt (pv 1) zf (fun _ _=>rfl))) (zc (zC zL (zI zt (pv 0) zf (fun _ _=>rfl)) (zI zt (pv 1) zf (fun _ _=>rfl))) zi))))),(zM (za0 (za (zm zY (zm zJ zd zg) (zm zJ zd zg)) (za (zm zY (zm zJ zd zg) (zm zJ zd zg)) zh)))),fun xs S R q=>q⟩
theorem zb2(T:Txt mg)(dd:Dds K mg):zdf P w K mg base:=by
 exact Df.dN dd.d_multiplied zff 1 rfl fun f cdv A outer s H E hr=>⟨_,_,(zj (zF (i:=2) zff.nd rfl (Or.inl rfl) (za1 (zc (zC zaw (zI zt (pv 0) zf (fun _ _=>rfl)) (pv 1)) (zc (zC zaw (zI zt (pv 0) zf (fun _ _=>rfl)) (pv 1)) zi)))) (zq (zK (za1 (zc (zR (zgz rfl hr.units) (by rfl) T.n_min zjM (zc (pv 2) zi)) (zc (zR (ziT rfl) (by rfl) T.n_max zjd (zc (pv 2) zi)) zi)))))),(zr (zw (za0 (za (zm za4 (zm zJ zd zg) zd) (za (zm za4 (zm zJ zd zg) zd) zh))) zk) (zM (za0 (za (zaU zke (za zd zh)) (za (zaU zqG (za zd zh)) zh))))),fun xs S R q=>q⟩
theorem zag(T:Txt mg)(dd:Dds K mg):zbu P w K mg base:=by
 exact Df.dN dd.d_span_of zlS 0 rfl fun f cdv A outer s H E hr=>⟨_,_,(zq (zK (za1 (zc (zI zt (pv 0) zf (fun _ _=>rfl)) (zc (zI zt (pv 0) zf (fun _ _=>rfl)) zi))))),(zM (za0 (za (zm zJ zd zg) (za (zm zJ zd zg) zh)))),fun xs S R q=>q⟩
theorem zaj(T:Txt mg)(dd:Dds K mg)(zjD:zj8 P w K mg base)(zb2:zdf P w K mg base)(zag:zbu P w K mg base):za8 P w K mg base:=by
 exact Df.dN dd.d_reach_of_terms zaE 3 rfl fun f cdv A outer s H E hr=>⟨_,_,(zj (zF (i:=2) zaE.nd rfl (Or.inl rfl) (za1 (zc zf (zc zf zi)))) (zj (zcd PassesOwn.never rfl (zcg (pv 1)) (zbh (n:=2) rfl (zB (zy (i:=3) zaE.nd rfl (Or.inl rfl)) (zB (zy (i:=4) zaE.nd rfl (Or.inl rfl)) zau))) (zq (zF (i:=2) zaE.nd rfl (Or.inl rfl) (zu zjD hr (by decide) (zc (pv 2) (zc (zu zb2 hr (by decide) (zc (zu zag hr (by decide) (zc (zI zt (pv 0) (pv 3) (fun _ _=>rfl)) zi)) (zc (pv 4) zi))) zi)))))) (zq (zK (pv 2))))),(zr (zw (za0 (za zg (za zg zh))) zk) (zr (zcY (zce zd) (za3 (zA zk (zA zk zav))) (zw (zx (za zd (za (zx (za (zx (za (zm zJ zd zd) zh)) (za zd zh))) zh))) zk)) (zM zd))),fun xs S R q=>q⟩
theorem zge(T:Txt mg)(dd:Dds K mg)(zaj:za8 P w K mg base):ziI P w K mg base:=by
 exact Df.dN dd.d_reach zo2 0 rfl fun f cdv A outer s H E hr=>⟨_,_,(zq (zK (zu zaj hr (by decide) (zc (pv 0) (zc (zI zt (pv 1) zf (fun _ _=>rfl)) zi))))),(zM (zx (za zd (za (zm zJ zd zg) zh)))),fun xs S R q=>q⟩
theorem zcL(T:Txt mg)(dd:Dds K mg)(zaB:zcr P w K mg base):zd0 P w K mg base:=by
 exact Df.dN dd.d_with_part zbv 5 rfl fun f cdv A outer s H E hr=>⟨_,_,(zj (zbk (zW (zc7 hr.units) (pv 2) zf (nomark _)) (zq (zK (zmL (zaR (zcc rfl) (by rfl) T.n_dict zid (zc (zcz (fun _ _ h=>h) rfl (zay rfl rfl rfl rfl (N:=["worth","many","span"]) (caps:=[none,none,some 1]) (by show zb4 ["tally","span","times","longer","number","worth","many","total"] (zp s_with_part).names _ _ _=true; decide +kernel)) (zhZ (pv 0) rfl rfl) (fun _ _ _ _=>(zbh (n:=2) rfl (zB (zy (i:=0) (by show List.Nodup (["worth","many","span"]:List Str); decide) rfl (Or.inl rfl)) (zB (zy (i:=1) (by show List.Nodup (["worth","many","span"]:List Str); decide) rfl (Or.inl rfl)) zau)))) (fun _ _ _ _=>zbS) (fun _ _ _ _=>(za1 (zc (pv 0) (zc (zC zaw (pv 1) (zu zaB hr (by decide) (zc (pv 2) zi))) zi))))) zi))))) zac) (zj (zF (i:=3) zbv.nd rfl (Or.inl rfl) zoV) (zj (zun (i:=3) (zcd PassesOwn.never rfl (zhu rfl T.n_range (zc (zI zt (pv 1) zf (fun _ _=>rfl)) (zc (zC zL (zI zt (pv 1) zf (fun _ _=>rfl)) zf) zi))) (zy (i:=4) zbv.nd rfl (Or.inl rfl)) (zq (zcd PassesOwn.never rfl (zhZ (pv 0) rfl rfl) (zbh (n:=2) rfl (zB (zy (i:=5) zbv.nd rfl (Or.inl rfl)) (zB (zy (i:=6) zbv.nd rfl (Or.inl rfl)) zau))) (zj (zF (i:=7) zbv.nd rfl (Or.inl rfl) (zC zL (pv 5) (zC zaw (pv 2) (pv 4)))) (zq (zrU (zoe hr) (pv 3) (pv 7) (zC zL (zf6 (zoe hr) (pv 3) (pv 7) zf ⟨rfl,rfl,rfl,rfl⟩) (pv 6)) rfl))))))) (zq (zK (pv 3)))))),(zr (zbt (zdJ (zm zc8 zd zg)) (zM (zgt (za (zbO (ziD zd) (za3 (zA zk (zA zk zav))) zbW (za0 (za zd (za (zm za4 zd (zx (za zd zh))) zh)))) zh))) zad) (zrb (zrV (zr2 (zpZ (fun M=>znr (zlw (za (zm zJ zd zg) (za (zm zY (zm zJ zd zg) zg) zh)))) zk (zpZ (fun M=>znr (ziD zd)) (za3 (zA zk (zA zk zav))) (ztv (zrN (zw (zm zY zd (zm za4 zd zd)) zk)) (zte (fun M=>(zbw zd)) (fun M=>(zuf zY (zf1 (zbw zd) (zbw zd) (zbw zg)) (zbw zd))))))))) (zM zd))),fun xs S R q=>q⟩
theorem zaL(T:Txt mg)(dd:Dds K mg)(zaB:zcr P w K mg base)(zge:ziI P w K mg base)(zcL:zd0 P w K mg base)(zag:zbu P w K mg base):zcj P w K mg base:=by
 exact Df.dN dd.d_tallies_of zbC 4 rfl fun f cdv A outer s H E hr=>⟨_,_,(zj (zF (i:=2) zbC.nd rfl (Or.inl rfl) (zu zaB hr (by decide) (zc (zu zge hr (by decide) (zc (pv 0) (zc (pv 1) zi))) zi))) (zj (zbk (zW zrD (pv 2) (zkS rfl T.g_MOST_WORTHS) (nomark _)) (zq ziE) zac) (zj (zF (i:=3) zbC.nd rfl (Or.inl rfl) (zmL (zaR (zgv rfl) (by rfl) T.n_dict zid (zc (zI zt (pv 1) zf (fun _ _=>rfl)) zi)))) (zj (zF (i:=4) zbC.nd rfl (Or.inl rfl) (zaO (zc (zmL (zrk (zoP zf zf zq8) rfl rfl (by simp) (by decide))) zi))) (zj (zcd PassesOwn.never rfl (zmF rfl T.n_range (zc (zC zaS (zR zbm (by rfl) T.n_len zd1 (zc (pv 0) zi)) zf) (zc (zdH zbM zf) (zc (zdH zbM zf) zi)))) (zy (i:=5) zbC.nd rfl (Or.inl rfl)) (zq (zfC (znN PySem.F.plainAttrs_list PySem.F.slot_list_append PySem.F.type_list_append zdV (pv 4) (zc (zu zcL hr (by decide) (zc (zI zt (pv 4) (zdH zbM zf) (fun _ _=>rfl)) (zc (zu zag hr (by decide) (zc (zI zt (pv 0) (pv 5) (fun _ _=>rfl)) zi)) (zc (zf6 (zoe hr) (pv 3) (pv 5) zf ⟨rfl,rfl,rfl,rfl⟩) zi)))) zi))))) (zj (zfC (zqH PySem.F.plainAttrs_list PySem.F.slot_list_reverse PySem.F.type_list_reverse zhO (pv 4))) (zq (zK (pv 4))))))))),(zr (zw (zx (za (zx (za zd (za zd zh))) zh)) zk) (zr (zbt (zdJ (zm zcI zd zg)) zik zad) (zr (zw (zoY (za (zm zJ zd zg) zh)) zk) (zr (zw (zd6 (za zoO zh)) zk) (zr (zcY (zrx (za (zm zb9 (zaU zcU (za zd zh)) zg) (za (zdI ziO zg) (za (zdI ziO zg) zh)))) zk (zfJ (zph ze3 zd (za (zx (za (zm zJ zd (zdI ziO zg)) (za (zx (za (zm zJ zd zd) zh)) (za (zrj (zf1 (zbw zd) (zbw zd) (zbw zg))) zh)))) zh)))) (zr (zfJ (zq1 zhp zd)) (zM zd))))))),fun xs S R q=>q⟩
theorem zQ(T:Txt mg)(dd:Dds K mg)(zbF:zcT P w K mg base)(zaL:zcj P w K mg base):zbG P w K mg base:=by
 exact Df.dN dd.d_kept_count zif 0 rfl fun f cdv A outer s H E hr=>⟨_,_,(zq (zK (zu zbF hr (by decide) (zc (zI zt (zu zaL hr (by decide) (zc (pv 0) (zc (pv 1) zi))) zf (fun _ _=>rfl)) (zc (pv 1) (zc zf zi)))))),(zM (zx (za (zm zJ (zx (za zd (za zd zh))) zg) (za zd (za zg zh))))),fun xs S R q=>q⟩
theorem zbQ(T:Txt mg)(dd:Dds K mg)(zQ:zbG P w K mg base):zcP P w K mg base:=by
 exact Df.dN dd.d_law_spans_right zap 5 rfl fun f cdv A outer s H E hr=>⟨_,_,(zj (zey (pv 1) (zbh (n:=3) rfl (zB (zy (i:=3) zap.nd rfl (Or.inl rfl)) (zB (zy (i:=4) zap.nd rfl (Or.inl rfl)) (zB (zy (i:=5) zap.nd rfl (Or.inl rfl)) zau))))) (zj (zF (i:=6) zap.nd rfl (Or.inl rfl) (zC zL (pv 4) (zC zdX (zC zaS (pv 5) (pv 4)) zf))) (zj (zbk (zW zku (zu zQ hr (by decide) (zc (pv 0) (zc (za1 (zc (pv 3) (zc (zC zaS (pv 4) (pv 2)) (zc (zC zL (pv 5) (pv 2)) zi)))) zi))) (zu zQ hr (by decide) (zc (pv 0) (zc (pv 1) zi))) (nomark _)) (zq (zK zet)) zac) (zj (zbk (zW (zc7 hr.units) (pv 6) (pv 5) (nomark _)) (zq (zK zet)) zac) (zj (zF (i:=7) zap.nd rfl (Or.inl rfl) (zaO (zc (za1 (zc (pv 3) (zc (pv 4) (zc (pv 6) zi)))) (zc (za1 (zc (pv 3) (zc (zC zL (pv 6) zf) (zc (pv 5) zi)))) zi)))) (zq (zK (zfF (zc7 hr.units) (zR (zd7 rfl) (by rfl) T.n_sum zjf (zc (zcz (fun _ _ h=>h) rfl (zay rfl rfl rfl rfl (N:=["piece","drawing"]) (caps:=[none,some 0]) (by show zb4 ["drawing","gap","more","terms","low","high","middle","pieces"] (zp s_law_spans_right).names _ _ _=true; decide +kernel)) (zcg (pv 7)) (fun _ _ _ _=>(zy (i:=0) (by show List.Nodup (["piece","drawing"]:List Str); decide) rfl (Or.inl rfl))) (fun _ _ _ _=>zbS) (fun _ _ _ _=>(zu zQ hr (by decide) (zc (pv 1) (zc (pv 0) zi))))) zi)) (zu zQ hr (by decide) (zc (pv 0) (zc (pv 1) zi))) (nomark _))))))))),(zr (zw zd (za3 (zA zk (zA zk (zA zk zav))))) (zr (zw (zm zY zd (zm zgo (zm zb9 zd zd) zg)) zk) (zr (zbt (zdJ (zm zcI (zx (za zd (za (za0 (za zd (za (zm zb9 zd zd) (za (zm zY zd zd) zh)))) zh))) (zx (za zd (za zd zh))))) (zM zeU) zad) (zr (zbt (zdJ (zm zc8 zd zd)) (zM zeU) zad) (zr (zw (zbI (za (za0 (za zd (za zd (za zd zh)))) (za (za0 (za zd (za (zm zY zd zg) (za zd zh)))) zh))) zk) (zM (zm zc8 (zaU zjg (za (zbO (zce zd) zk zbW (zx (za zd (za zd zh)))) zh)) (zx (za zd (za zd zh)))))))))),fun xs S R q=>q⟩
theorem zbq(T:Txt mg)(dd:Dds K mg)(zaL:zcj P w K mg base):zfc P w K mg base:=by
 exact Df.dN dd.d_spread zmZ 0 rfl fun f cdv A outer s H E hr=>⟨_,_,(zq (zK (zjV rfl rfl T.n_sorted (zI zt (zu zaL hr (by decide) (zc (pv 0) (zc (pv 1) zi))) zf (fun _ _=>rfl))))),(zM (zhU (zm zJ (zx (za zd (za zd zh))) zg))),fun xs S R q=>q⟩
theorem zbe(T:Txt mg)(dd:Dds K mg)(zaB:zcr P w K mg base)(zag:zbu P w K mg base):zdt P w K mg base:=by
 exact Df.dN dd.d_how_many zdh 2 rfl fun f cdv A outer s H E hr=>⟨_,_,(zj (zF (i:=1) zdh.nd rfl (Or.inl rfl) zf) (zj (zcd PassesOwn.never rfl (zcg (pv 0)) (zy (i:=2) zdh.nd rfl (Or.inl rfl)) (zq (zF (i:=1) zdh.nd rfl (Or.inl rfl) (zC zaw (pv 1) (zu zaB hr (by decide) (zc (zu zag hr (by decide) (zc (pv 2) zi)) zi)))))) (zq (zK (pv 1))))),(zr (zw zg zk) (zr (zcY (zce zd) zk (zw (zm za4 zd (zx (za (zx (za zd zh)) zh))) zk)) (zM zd))),fun xs S R q=>q⟩
theorem zaT(T:Txt mg)(dd:Dds K mg):zb0 P w K mg base:=by
 exact Df.dN dd.d_common_divisor zbc 1 rfl fun f cdv A outer s H E hr=>⟨_,_,(zj (zpv PassesOwn.never (zW (zeb hr.units) (pv 0) zf (nomark _)) (zj (zF (i:=2) zbc.nd rfl (Or.inl rfl) (zC zd4 (pv 1) (pv 0))) (zj (zF (i:=1) zbc.nd rfl (Or.inl rfl) (pv 0)) (zq (zF (i:=0) zbc.nd rfl (Or.inl rfl) (pv 2)))))) (zq (zK (pv 1)))),(zr (zo8 (zdJ (zm zee zd zg)) (zr (zw (zm zhI zd zd) zk) (zr (zw zd zk) (zw zd zk)))) (zM zd)),fun xs S R q=>q⟩
theorem zeR(T:Txt mg)(dd:Dds K mg)(zQ:zbG P w K mg base)(zbe:zdt P w K mg base)(zaT:zb0 P w K mg base):ziw P w K mg base:=by
 exact Df.dN dd.d_share zf7 3 rfl fun f cdv A outer s H E hr=>⟨_,_,(zj (zF (i:=2) zf7.nd rfl (Or.inl rfl) (zu zQ hr (by decide) (zc (pv 0) (zc (pv 1) zi)))) (zj (zF (i:=3) zf7.nd rfl (Or.inl rfl) (zu zbe hr (by decide) (zc (pv 0) zi))) (zj (zF (i:=4) zf7.nd rfl (Or.inl rfl) (zu zaT hr (by decide) (zc (pv 2) (zc (pv 3) zi)))) (zq (zK (za1 (zc (zC zdX (pv 2) (pv 4)) (zc (zC zdX (pv 3) (pv 4)) zi)))))))),(zr (zw (zx (za zd (za zd zh))) zk) (zr (zw (zx (za zd zh)) zk) (zr (zw (zx (za zd (za zd zh))) zk) (zM (za0 (za (zm zgo zd zd) (za (zm zgo zd zd) zh))))))),fun xs S R q=>q⟩
theorem zcD(T:Txt mg)(dd:Dds K mg):zed P w K mg base:=by
 exact Df.dN dd.d_first_set zjT 0 rfl fun f cdv A outer s H E hr=>⟨_,_,(zq (zK (zaR zbf (by rfl) T.n_tuple zdB (zc (zcz (fun _ _ h=>h) rfl (zay (L:=0) rfl rfl rfl rfl (N:=["part"]) (caps:=[none]) (by show zb4 ["drawing"] (zp s_first_set).names _ _ _=true; decide +kernel)) (zcg (pv 0)) (fun _ _ _ _=>(zy (i:=0) (by show List.Nodup (["part"]:List Str); decide) rfl (Or.inl rfl))) (fun _ _ _ _=>zbS) (fun _ _ _ _=>(zI zt (pv 0) zf (fun _ _=>rfl)))) zi)))),(zM (zaU zek (za (zbO (zce zd) zk zbW (zm zJ zd zg)) zh))),fun xs S R q=>q⟩
theorem zc5(T:Txt mg)(dd:Dds K mg)(zaB:zcr P w K mg base)(zag:zbu P w K mg base):zeV P w K mg base:=by
 exact Df.dN dd.d_steps_of zdk 3 rfl fun f cdv A outer s H E hr=>⟨_,_,(zj (zF (i:=2) zdk.nd rfl (Or.inl rfl) (zaO (zc zf (zc zf (zc zf (zc zf zi)))))) (zj (zcd PassesOwn.never rfl (zcg (pv 1)) (zbh (n:=2) rfl (zB (zy (i:=3) zdk.nd rfl (Or.inl rfl)) (zB (zy (i:=4) zdk.nd rfl (Or.inl rfl)) zau))) (zq (zey (zC zaS (zC zL (zI zt (pv 2) (zR zk7 (by rfl) T.n_abs zqR (zc (pv 4) zi)) (fun _ _=>rfl)) (zu zaB hr (by decide) (zc (zu zag hr (by decide) (zc (zI zt (pv 0) (pv 3) (fun _ _=>rfl)) zi)) zi))) zf) (zkM (pv 2) (zR zk7 (by rfl) T.n_abs zqR (zc (pv 4) zi)) zf0)))) (zq (zK (pv 2))))),(zr (zw (zd6 (za zg (za zg (za zg (za zg zh))))) zk) (zr (zcY (zce zd) (za3 (zA zk (zA zk zav))) (zw (zm zb9 (zm zY (zm zJ zd (zaU zpW (za zd zh))) (zx (za (zx (za (zm zJ zd zd) zh)) zh))) zg) (zk3 zd (zaU zpW (za zd zh))))) (zM zd))),fun xs S R q=>q⟩
theorem zbD(T:Txt mg)(dd:Dds K mg):zcV P w K mg base:=by
 exact Df.dN dd.d_quotient_up zg7 0 rfl fun f cdv A outer s H E hr=>⟨_,_,(zq (zK (zdH zbM (zC zdX (zdH zbM (pv 0)) (pv 1))))),(zM (zdI ziO (zm zgo (zdI ziO zd) zd))),fun xs S R q=>q⟩
theorem zc9(T:Txt mg)(dd:Dds K mg):zeP P w K mg base:=by
 exact Df.dN dd.d_can_rise zdE 2 rfl fun f cdv A outer s H E hr=>⟨_,_,(zj (zF (i:=2) zdE.nd rfl (Or.inl rfl) (zC zL (zI zt (pv 0) zf (fun _ _=>rfl)) (zC zaw zf (zI zt (pv 0) zf (fun _ _=>rfl))))) (zj (zF (i:=3) zdE.nd rfl (Or.inl rfl) (zR (zgK rfl) (by rfl) T.n_max zjd (zc zf (zc (zC zdX (zC zL (zC zaS (pv 1) (pv 2)) zf) zf) zi)))) (zj (zbk (PW.pt (zqu (zW (zc7 hr.units) (zI zt (pv 0) zf (fun _ _=>rfl)) zf (nomark _)) (zos (zW (zc7 hr.units) (zC zd4 (zC zaS (pv 1) (pv 3)) zf) zf (nomark _))))) (zq (zF (i:=3) zdE.nd rfl (Or.inl rfl) (zC zL (pv 3) zf))) zac) (zq (zK (zfF zfA (pv 3) (zR (zi5 rfl) (by rfl) T.n_min zjM (zc (zI zt (pv 0) zf (fun _ _=>rfl)) (zc (zC zdX (pv 1) zf) zi))) (nomark _))))))),(zr (zw (zm zY (zm zJ zd zg) (zm za4 zg (zm zJ zd zg))) zk) (zr (zw (zaU znZ (za zg (za (zm zgo (zm zY (zm zb9 zd zd) zg) zg) zh))) zk) (zr (zbt (zqk (zdJ (zm zc8 (zm zJ zd zg) zg)) (zdJ (zm zc8 (zm zhI (zm zb9 zd zd) zg) zg))) (zw (zm zY zd zg) zk) zad) (zM (zm zcI zd (zaU znZ (za (zm zJ zd zg) (za (zm zgo zd zg) zh)))))))),fun xs S R q=>q⟩
theorem zbl(T:Txt mg)(dd:Dds K mg)(zaj:za8 P w K mg base)(zc5:zeV P w K mg base)(zag:zbu P w K mg base)(zbD:zcV P w K mg base)(zc9:zeP P w K mg base):zcE P w K mg base:=by
 exact Df.dN dd.d_first_number zax 6 rfl fun f cdv A outer s H E hr=>⟨_,_,(zj (zF (i:=4) zax.nd rfl (Or.inl rfl) (zu zaj hr (by decide) (zc (pv 0) (zc (pv 2) zi)))) (zj (zF (i:=5) zax.nd rfl (Or.inl rfl) (zu zc5 hr (by decide) (zc (pv 0) (zc (pv 2) zi)))) (zj (zF (i:=6) zax.nd rfl (Or.inl rfl) (zu zag hr (by decide) (zc (zI zt (pv 0) (zI zt (pv 1) zf (fun _ _=>rfl)) (fun _ _=>rfl)) zi))) (zj (zF (i:=7) zax.nd rfl (Or.inl rfl) (zpn (zW zrD (zI zt (pv 1) zf (fun _ _=>rfl)) zf (nomark _)) (zC zaS (pv 3) (zI zt (pv 4) zf (fun _ _=>rfl))) (zC zaS (pv 3) (zI zt (pv 4) zf (fun _ _=>rfl))))) (zj (zF (i:=8) zax.nd rfl (Or.inl rfl) (zR (zgK rfl) (by rfl) T.n_max zjd (zc (zI zt (pv 6) zf (fun _ _=>rfl)) (zc (zu zbD hr (by decide) (zc (pv 7) (zc (zI zt (pv 1) zf (fun _ _=>rfl)) zi))) zi)))) (zj (zcd PassesOwn.never rfl (zhu rfl T.n_range (zc (pv 8) (zc (zR (zi5 rfl) (by rfl) T.n_min zjM (zc (zC zL (pv 8) (zkS rfl T.g_MOST_TRIES)) (zc (zC zL (zI zt (pv 6) zf (fun _ _=>rfl)) zf) zi))) zi))) (zy (i:=9) zax.nd rfl (Or.inl rfl)) (zq (zbk (zdl (zu zc9 hr (by decide) (zc (pv 5) (zc (zC zaS (zC zaS (pv 3) (zC zaw (zI zt (pv 1) zf (fun _ _=>rfl)) (pv 9))) (zI zt (pv 4) zf (fun _ _=>rfl))) zi))) (fun _=>rfl)) (zq (zK (pv 9))) zac))) (zq (zK zly)))))))),(zr (zw (zx (za zd (za zd zh))) zk) (zr (zw (zx (za zd (za zd zh))) zk) (zr (zw (zx (za (zm zJ zd (zm zJ zd zg)) zh)) zk) (zr (zw (zup (zdJ (zm zcI (zm zJ zd zg) zg)) (zm zb9 zd (zm zJ zd zg)) (zm zb9 zd (zm zJ zd zg))) zk) (zr (zw (zaU znZ (za (zm zJ zd zg) (za (zx (za zd (za (zm zJ zd zg) zh))) zh))) zk) (zr (zcY (zlw (za zd (za (zaU znZ (za (zm zY zd zg) (za (zm zY (zm zJ zd zg) zg) zh))) zh))) zk (zbt (zgW (zx (za zd (za (zm zb9 (zm zb9 zd (zm za4 (zm zJ zd zg) zd)) (zm zJ zd zg)) zh)))) (zM zd) zad)) (zM zqZ))))))),fun xs S R q=>q⟩
theorem zdQ(T:Txt mg)(dd:Dds K mg)(zcD:zed P w K mg base)(zbl:zcE P w K mg base):zfy P w K mg base:=by
 exact Df.dN dd.d_reached zbT 5 rfl fun f cdv A outer s H E hr=>⟨_,_,(zj (zF (i:=3) zbT.nd rfl (Or.inl rfl) (zaR ziY (by rfl) T.n_list zrc (zc (zu zcD hr (by decide) (zc (pv 0) zi)) zi))) (zj (zF (i:=4) zbT.nd rfl (Or.inl rfl) (pv 2)) (zj (zcd PassesOwn.never rfl (zpo rfl T.n_enumerate (zc (zI zt (pv 1) zf (fun _ _=>rfl)) zi)) (zbh (n:=2) rfl (zB (zy (i:=5) zbT.nd rfl (Or.inl rfl)) (zB (zy (i:=6) zbT.nd rfl (Or.inl rfl)) zau))) (zj (zF (i:=7) zbT.nd rfl (Or.inl rfl) (zu zbl hr (by decide) (zc (pv 0) (zc (pv 6) (zc (zci zfW (zI zt (pv 1) zf (fun _ _=>rfl)) (zcS (zC zL (pv 5) zf)) zdY) (zc (pv 4) zi)))))) (zj (zbk (zW zn3 (pv 7) zly (nomark _)) (zq (zK zly)) zac) (zj (zey (pv 7) (zkM (pv 3) (zI zt (pv 6) zf (fun _ _=>rfl)) zf0)) (zq (zF (i:=4) zbT.nd rfl (Or.inl rfl) (zC zaS (pv 4) (zC zaw (zI zt (pv 6) zf (fun _ _=>rfl)) (pv 7))))))))) (zq (zK (zaR zbf (by rfl) T.n_tuple zdB (zc (pv 3) zi))))))),(zr (zw (zaU znw (za (zx (za zd zh)) zh)) zk) (zr (zw zd zk) (zr (zcY (zo0 (za (zm zJ zd zg) zh)) (za3 (zA zk (zA zk zav))) (zr (zw (zx (za zd (za zd (za (zjG zfM (zm zJ zd zg) (zdO (zm zY zd zg)) zeh) (za zd zh))))) zk) (zr (zbt (zdJ (zqI zd)) (zM zqZ) zad) (zr (zw zd (zk3 zd (zm zJ zd zg))) (zw (zm zb9 zd (zm za4 (zm zJ zd zg) zd)) zk))))) (zM (zaU zek (za zd zh)))))),fun xs S R q=>q⟩
theorem zcy(T:Txt mg)(dd:Dds K mg):zef P w K mg base:=by
 exact Df.dN dd.d_law_worth zb5 3 rfl fun f cdv A outer s H E hr=>⟨_,_,(zj (zF (i:=2) zb5.nd rfl (Or.inl rfl) zf) (zj (zcd PassesOwn.never rfl (zcg (zI zt (pv 0) zf (fun _ _=>rfl))) (zbh (n:=2) rfl (zB (zy (i:=3) zb5.nd rfl (Or.inl rfl)) (zB (zy (i:=4) zb5.nd rfl (Or.inl rfl)) zau))) (zq (zF (i:=2) zb5.nd rfl (Or.inl rfl) (zC zL (pv 2) (zC zaw (pv 4) (zI zt (pv 1) (pv 3) (fun _ _=>rfl))))))) (zq (zK (pv 2))))),(zr (zw zg zk) (zr (zcY (zce (zm zJ zd zg)) (za3 (zA zk (zA zk zav))) (zw (zm zY zd (zm za4 zd (zm zJ zd zd))) zk)) (zM zd))),fun xs S R q=>q⟩
theorem zc6(T:Txt mg)(dd:Dds K mg):zeW P w K mg base:=by
 exact Df.dN dd.d_worth_of zj6 0 rfl fun f cdv A outer s H E hr=>⟨_,_,(zq (zK (zR (zd7 rfl) (by rfl) T.n_sum zjf (zc (zcz (fun _ _ h=>h) rfl (zay rfl rfl rfl rfl (N:=["part","times","one"]) (caps:=[none,none,some 1]) (by show zb4 ["gap","one"] (zp s_worth_of).names _ _ _=true; decide +kernel)) (zcg (zI zt (pv 0) zf (fun _ _=>rfl))) (fun _ _ _ _=>(zbh (n:=2) rfl (zB (zy (i:=0) (by show List.Nodup (["part","times","one"]:List Str); decide) rfl (Or.inl rfl)) (zB (zy (i:=1) (by show List.Nodup (["part","times","one"]:List Str); decide) rfl (Or.inl rfl)) zau)))) (fun _ _ _ _=>zbS) (fun _ _ _ _=>(zC zaw (pv 1) (zI zt (pv 2) (pv 0) (fun _ _=>rfl))))) zi)))),(zM (zaU zjg (za (zbO (zce (zm zJ zd zg)) (za3 (zA zk (zA zk zav))) zbW (zm za4 zd (zm zJ zd zd))) zh))),fun xs S R q=>q⟩
theorem zgs(T:Txt mg)(dd:Dds K mg)(zc6:zeW P w K mg base):zh5 P w K mg base:=by
 exact Df.dN dd.d_keeps zpe 0 rfl fun f cdv A outer s H E hr=>⟨_,_,(zq (zK (zls zfA zfA (zI zt (pv 0) zf (fun _ _=>rfl)) (zu zc6 hr (by decide) (zc (pv 0) (zc (pv 1) zi))) (zI zt (pv 0) zf (fun _ _=>rfl))))),(zM (ze1 zcI zcI (zm zJ zd zg) (zx (za zd (za zd zh))) (zm zJ zd zg))),fun xs S R q=>q⟩
theorem zbz(T:Txt mg)(dd:Dds K mg)(zbq:zfc P w K mg base)(zbe:zdt P w K mg base)(zQ:zbG P w K mg base)(zeR:ziw P w K mg base)(zdQ:zfy P w K mg base)(zgs:zh5 P w K mg base)(zcy:zef P w K mg base):zcJ P w K mg base:=by
 exact Df.dN dd.d_law_spread_right zae 6 rfl fun f cdv A outer s H E hr=>⟨_,_,(zj (zF (i:=2) zae.nd rfl (Or.inl rfl) (zu zbq hr (by decide) (zc (pv 0) (zc (pv 1) zi)))) (zj (zbk (PW.pt (zkv (zW (zeb hr.units) (zR (zd7 rfl) (by rfl) T.n_sum zjf (zc (zcz (fun _ _ h=>h) rfl (zay rfl rfl rfl rfl (N:=["here","ways"]) (caps:=[none,none]) (by show zb4 ["drawing","gap","found","top","bottom","here","ways","one"] (zp s_law_spread_right).names _ _ _=true; decide +kernel)) (zcg (pv 2)) (fun _ _ _ _=>(zbh (n:=2) rfl (zB (zy (i:=0) (by show List.Nodup (["here","ways"]:List Str); decide) rfl (Or.inl rfl)) (zB (zy (i:=1) (by show List.Nodup (["here","ways"]:List Str); decide) rfl (Or.inl rfl)) zau)))) (fun _ _ _ _=>zbS) (fun _ _ _ _=>(pv 1))) zi)) (zu zbe hr (by decide) (zc (pv 0) zi)) (nomark _)) (zhj (zW zku (zR (zgz rfl hr.units) (by rfl) T.n_min zjM (zc (zcz (fun _ _ h=>h) rfl (zay rfl rfl rfl rfl (N:=["here","ways"]) (caps:=[none,none]) (by show zb4 ["drawing","gap","found","top","bottom","here","ways","one"] (zp s_law_spread_right).names _ _ _=true; decide +kernel)) (zcg (pv 2)) (fun _ _ _ _=>(zbh (n:=2) rfl (zB (zy (i:=0) (by show List.Nodup (["here","ways"]:List Str); decide) rfl (Or.inl rfl)) (zB (zy (i:=1) (by show List.Nodup (["here","ways"]:List Str); decide) rfl (Or.inl rfl)) zau)))) (fun _ _ _ _=>zbS) (fun _ _ _ _=>(pv 1))) zi)) zf (nomark _))))) (zq (zK zet)) zac) (zj (zbk (zW (zeb hr.units) (zR (zd7 rfl) (by rfl) T.n_sum zjf (zc (zcz (fun _ _ h=>h) rfl (zay rfl rfl rfl rfl (N:=["here","ways","gap"]) (caps:=[none,none,some 1]) (by show zb4 ["drawing","gap","found","top","bottom","here","ways","one"] (zp s_law_spread_right).names _ _ _=true; decide +kernel)) (zcg (pv 2)) (fun _ _ _ _=>(zbh (n:=2) rfl (zB (zy (i:=0) (by show List.Nodup (["here","ways","gap"]:List Str); decide) rfl (Or.inl rfl)) (zB (zy (i:=1) (by show List.Nodup (["here","ways","gap"]:List Str); decide) rfl (Or.inl rfl)) zau)))) (fun _ _ _ _=>(zoq (ziF zfA zfA (zI zt (pv 2) zf (fun _ _=>rfl)) (pv 0) (zI zt (pv 2) zf (fun _ _=>rfl))))) (fun _ _ _ _=>(pv 1))) zi)) (zu zQ hr (by decide) (zc (pv 0) (zc (pv 1) zi))) (nomark _)) (zq (zK zet)) zac) (zj (zey (zu zeR hr (by decide) (zc (pv 0) (zc (pv 1) zi))) (zbh (n:=2) rfl (zB (zy (i:=3) zae.nd rfl (Or.inl rfl)) (zB (zy (i:=4) zae.nd rfl (Or.inl rfl)) zau)))) (zj (zbk (zW (zeb hr.units) (zC zaw (pv 3) (zu zbe hr (by decide) (zc (pv 0) zi))) (zC zaw (zu zQ hr (by decide) (zc (pv 0) (zc (pv 1) zi))) (pv 4)) (nomark _)) (zq (zK zet)) zac) (zj (zcd PassesOwn.never rfl (zcg (zC zL (zci zfW (pv 2) zdY (zcS zf)) (zci zfW (pv 2) (zcS (zdH zbM zf)) zdY))) (zbh (n:=2) rfl (zB (zy (i:=5) zae.nd rfl (Or.inl rfl)) (zB (zy (i:=6) zae.nd rfl (Or.inl rfl)) zau))) (zj (zF (i:=7) zae.nd rfl (Or.inl rfl) (zu zdQ hr (by decide) (zc (pv 0) (zc (pv 1) (zc (pv 5) zi))))) (zq (zbk (PW.pt (zkv (zW zn3 (pv 7) zly (nomark _)) (zkv (zW (zeb hr.units) (zu zcy hr (by decide) (zc (pv 1) (zc (pv 7) zi))) (pv 5) (nomark _)) (zhj (zW (zeb hr.units) (zu zgs hr (by decide) (zc (pv 1) (zc (pv 7) zi))) (zls zfA zfA (zI zt (pv 1) zf (fun _ _=>rfl)) (pv 5) (zI zt (pv 1) zf (fun _ _=>rfl))) (nomark _)))))) (zq (zK zet)) zac)))) (zq (zK zet)))))))),(zr (zw (zx (za zd (za zd zh))) zk) (zr (zbt (zkp (zdJ (zm zee (zaU zjg (za (zbO (zce zd) (za3 (zA zk (zA zk zav))) zbW zd) zh)) (zx (za zd zh)))) (zdJ (zm zcI (zaU zke (za (zbO (zce zd) (za3 (zA zk (zA zk zav))) zbW zd) zh)) zg))) (zM zeU) zad) (zr (zbt (zdJ (zm zee (zaU zjg (za (zbO (zce zd) (za3 (zA zk (zA zk zav))) (zdJ (ze1 zcI zcI (zm zJ zd zg) zd (zm zJ zd zg))) zd) zh)) (zx (za zd (za zd zh))))) (zM zeU) zad) (zr (zw (zx (za zd (za zd zh))) (za3 (zA zk (zA zk zav)))) (zr (zbt (zdJ (zm zee (zm za4 zd (zx (za zd zh))) (zm za4 (zx (za zd (za zd zh))) zd))) (zM zeU) zad) (zr (zcY (zce (zm zY (zjG zfM zd zeh (zdO zg)) (zjG zfM zd (zdO (zdI ziO zg)) zeh))) (za3 (zA zk (zA zk zav))) (zr (zw (zx (za zd (za zd (za zd zh)))) zk) (zbt (zkp (zdJ (zqI zd)) (zkp (zdJ (zm zee (zx (za zd (za zd zh))) zd)) (zdJ (zm zee (zx (za zd (za zd zh))) (ze1 zcI zcI (zm zJ zd zg) zd (zm zJ zd zg)))))) (zM zeU) zad))) (zM zeU))))))),fun xs S R q=>q⟩
theorem zco(T:Txt mg)(dd:Dds K mg):zeG P w K mg base:=by
 exact Df.dN dd.d_is_whole zkn 0 rfl fun f cdv A outer s H E hr=>⟨_,_,(zq (zK (zkV (zR ziv (by rfl) T.n_isinstance zdw (zc (pv 0) (zc (zkr rfl T.n_int zql (v:=.ty "int") rfl) zi))) (znk (zsz (zR ziv (by rfl) T.n_isinstance zdw (zc (pv 0) (zc (zkr rfl T.n_bool zrI (v:=.ty "bool") rfl) zi)))))))),(zM (zkD (zaU zms (za zd (za zux zh))) (ztx (zaU zms (za zd (za zux zh)))))),fun xs S R q=>q⟩
theorem zdS(T:Txt mg)(dd:Dds K mg)(zco:zeG P w K mg base):zfr P w K mg base:=by
 exact Df.dN dd.d_is_span zmi 0 rfl fun f cdv A outer s H E hr=>⟨_,_,(zj (zbk (PW.pt (zkv (zgk (zdl (zR ziv (by rfl) T.n_isinstance zdw (zc (pv 0) (zc (zkr rfl T.n_tuple zdB (v:=.ty "tuple") rfl) zi))) (fun _=>rfl))) (zhj (zW (zeb hr.units) (zR zbm (by rfl) T.n_len zd1 (zc (pv 0) zi)) zf (nomark _))))) (zq (zK zet)) zac) (zq (zK (zkV (zu zco hr (by decide) (zc (zI zt (pv 0) zf (fun _ _=>rfl)) zi)) (zkV (zu zco hr (by decide) (zc (zI zt (pv 0) zf (fun _ _=>rfl)) zi)) (znk (zfF zfA (zI zt (pv 0) zf (fun _ _=>rfl)) (zI zt (pv 0) zf (fun _ _=>rfl)) (nomark _)))))))),(zr (zbt (zkp (zgI (zgW (zaU zms (za zd (za zux zh))))) (zdJ (zm zee (zaU zcU (za zd zh)) zg))) (zM zeU) zad) (zM (zkD (zx (za (zm zJ zd zg) zh)) (zkD (zx (za (zm zJ zd zg) zh)) (zm zcI (zm zJ zd zg) (zm zJ zd zg)))))),fun xs S R q=>q⟩
theorem ze4(T:Txt mg)(dd:Dds K mg):zg3 P w K mg base:=by
 exact Df.dN dd.d_inside zov 0 rfl fun f cdv A outer s H E hr=>⟨_,_,(zq (zK (zkV (zfF zfA (zI zt (pv 1) zf (fun _ _=>rfl)) (zI zt (pv 0) zf (fun _ _=>rfl)) (nomark _)) (znk (zfF zfA (zI zt (pv 0) zf (fun _ _=>rfl)) (zI zt (pv 1) zf (fun _ _=>rfl)) (nomark _)))))),(zM (zkD (zm zcI (zm zJ zd zg) (zm zJ zd zg)) (zm zcI (zm zJ zd zg) (zm zJ zd zg)))),fun xs S R q=>q⟩
theorem zcw(T:Txt mg)(dd:Dds K mg)(ze4:zg3 P w K mg base)(zag:zbu P w K mg base)(zdS:zfr P w K mg base):zeI P w K mg base:=by
 exact Df.dN dd.d_narrowed zgh 1 rfl fun f cdv A outer s H E hr=>⟨_,_,(zj (zbk (zgk (ziF zfA zku zf (pv 1) (zR zbm (by rfl) T.n_len zd1 (zc (pv 0) zi)))) (zq ziE) zac) (zj (zF (i:=3) zgh.nd rfl (Or.inl rfl) (zI zt (pv 0) (pv 1) (fun _ _=>rfl))) (zj (zbk (PW.pt (zkv (zgk (zdl (zu zdS hr (by decide) (zc (pv 2) zi)) (fun _=>rfl))) (zhj (zgk (zdl (zu ze4 hr (by decide) (zc (pv 2) (zc (zu zag hr (by decide) (zc (pv 3) zi)) zi))) (fun _=>rfl)))))) (zq ziE) zac) (zq (zK (zC zL (zC zL (zci zfW (pv 0) zdY (zcS (pv 1))) (za1 (zc (za1 (zc (zI zt (pv 3) zf (fun _ _=>rfl)) (zc (zI zt (pv 2) zf (fun _ _=>rfl)) (zc (zI zt (pv 2) zf (fun _ _=>rfl)) zi)))) zi))) (zci zfW (pv 0) (zcS (zC zL (pv 1) zf)) zdY))))))),(zr (zbt (zgI (zdJ (ze1 zcI zcI zg zd (zaU zcU (za zd zh))))) zik zad) (zr (zw (zm zJ zd zd) zk) (zr (zbt (zkp (zgI (zgW (zx (za zd zh)))) (zgI (zgW (zx (za zd (za (zx (za zd zh)) zh)))))) zik zad) (zM (zm zY (zm zY (zjG zfM zd zeh (zdO zd)) (za0 (za (za0 (za (zm zJ zd zg) (za (zm zJ zd zg) (za (zm zJ zd zg) zh)))) zh))) (zjG zfM zd (zdO (zm zY zd zg)) zeh)))))),fun xs S R q=>q⟩
theorem zby(T:Txt mg)(dd:Dds K mg)(zbq:zfc P w K mg base)(zcw:zeI P w K mg base):zcB P w K mg base:=by
 exact Df.dN dd.d_law_halves_right zV 7 rfl fun f cdv A outer s H E hr=>⟨_,_,(zj (zey (zI zt (pv 0) (pv 2) (fun _ _=>rfl)) (zbh (n:=3) rfl (zB (zy (i:=4) zV.nd rfl (Or.inl rfl)) (zB (zy (i:=5) zV.nd rfl (Or.inl rfl)) (zB (zy (i:=6) zV.nd rfl (Or.inl rfl)) zau))))) (zj (zbk (zW (zc7 hr.units) (pv 3) (pv 6) (nomark _)) (zq (zK zet)) zac) (zj (zF (i:=7) zV.nd rfl (Or.inl rfl) (zmL (zaR (zcc rfl) (by rfl) T.n_dict zid (zc (zu zbq hr (by decide) (zc (zu zcw hr (by decide) (zc (pv 0) (zc (pv 2) (zc (za1 (zc (pv 5) (zc (pv 3) zi))) zi)))) (zc (pv 1) zi))) zi)))) (zj (zF (i:=8) zV.nd rfl (Or.inl rfl) (zmL (zaR (zcc rfl) (by rfl) T.n_dict zid (zc (zu zbq hr (by decide) (zc (zu zcw hr (by decide) (zc (pv 0) (zc (pv 2) (zc (za1 (zc (zC zL (pv 3) zf) (zc (pv 6) zi))) zi)))) (zc (pv 1) zi))) zi)))) (zj (zcd PassesOwn.never rfl (zcg (zu zbq hr (by decide) (zc (pv 0) (zc (pv 1) zi)))) (zbh (n:=2) rfl (zB (zy (i:=9) zV.nd rfl (Or.inl rfl)) (zB (zy (i:=10) zV.nd rfl (Or.inl rfl)) zau))) (zq (zbk (zW (zeb hr.units) (zC zL (zf6 (zoe hr) (pv 7) (pv 9) zf ⟨rfl,rfl,rfl,rfl⟩) (zf6 (zoe hr) (pv 8) (pv 9) zf ⟨rfl,rfl,rfl,rfl⟩)) (pv 10) (nomark _)) (zq (zK zet)) zac))) (zq (zK zet))))))),(zr (zw (zm zJ zd zd) (za3 (zA zk (zA zk (zA zk zav))))) (zr (zbt (zdJ (zm zc8 zd zd)) (zM zeU) zad) (zr (zw (zgt (za (zx (za (zx (za zd (za zd (za (za0 (za zd (za zd zh))) zh)))) (za zd zh))) zh)) zk) (zr (zw (zgt (za (zx (za (zx (za zd (za zd (za (za0 (za (zm zY zd zg) (za zd zh))) zh)))) (za zd zh))) zh)) zk) (zr (zcY (zce (zx (za zd (za zd zh)))) (za3 (zA zk (zA zk zav))) (zbt (zdJ (zm zee (zm zY (zrj (zf1 (zbw zd) (zbw zd) (zbw zg))) (zrj (zf1 (zbw zd) (zbw zd) (zbw zg)))) zd)) (zM zeU) zad)) (zM zeU)))))),fun xs S R q=>q⟩
theorem ok_law{f:Addr}{fd:FuncData}(F:Fun K "law" "law" s_law f fd)(T:Txt mg)(dd:Dds K mg):FnOk P w K mg base CX0 8 f fd ["script"] (sp1 (zur K)):=by
 have zdm:=zdm (P:=P) (w:=w) (base:=base) T dd;have zgG:zhq P w K mg base:=zgG T dd ;have zcu:zeY P w K mg base:=zcu T dd ;have zv:za6 P w K mg base:=zv T dd zcu;have zcF:zdW P w K mg base:=zcF T dd zv;have zb3:zdF P w K mg base:=zb3 T dd zv;have zdx:zeB P w K mg base:=zdx T dd zcF zv zb3;have zcK:zd3 P w K mg base:=zcK T dd zv;have zcp:zeL P w K mg base:=zcp T dd ;have zgQ:zhH P w K mg base:=zgQ T dd zcK zcp zv;have zeX:zfV P w K mg base:=zeX T dd zv;have zbF:zcT P w K mg base:=zbF T dd ;have zaB:zcr P w K mg base:=zaB T dd ;have zjD:zj8 P w K mg base:=zjD T dd ;have zb2:zdf P w K mg base:=zb2 T dd ;have zag:zbu P w K mg base:=zag T dd ;have zaj:za8 P w K mg base:=zaj T dd zjD zb2 zag;have zge:ziI P w K mg base:=zge T dd zaj;have zcL:zd0 P w K mg base:=zcL T dd zaB;have zaL:zcj P w K mg base:=zaL T dd zaB zge zcL zag;have zQ:zbG P w K mg base:=zQ T dd zbF zaL;have zbQ:zcP P w K mg base:=zbQ T dd zQ;have zbq:zfc P w K mg base:=zbq T dd zaL;have zbe:zdt P w K mg base:=zbe T dd zaB zag;have zaT:zb0 P w K mg base:=zaT T dd ;have zeR:ziw P w K mg base:=zeR T dd zQ zbe zaT;have zcD:zed P w K mg base:=zcD T dd ;have zc5:zeV P w K mg base:=zc5 T dd zaB zag;have zbD:zcV P w K mg base:=zbD T dd ;have zc9:zeP P w K mg base:=zc9 T dd ;have zbl:zcE P w K mg base:=zbl T dd zaj zc5 zag zbD zc9;have zdQ:zfy P w K mg base:=zdQ T dd zcD zbl;have zcy:zef P w K mg base:=zcy T dd ;have zc6:zeW P w K mg base:=zc6 T dd ;have zgs:zh5 P w K mg base:=zgs T dd zc6;have zbz:zcJ P w K mg base:=zbz T dd zbq zbe zQ zeR zdQ zgs zcy;have zco:zeG P w K mg base:=zco T dd ;have zdS:zfr P w K mg base:=zdS T dd zco;have ze4:zg3 P w K mg base:=ze4 T dd ;have zcw:zeI P w K mg base:=zcw T dd ze4 zag zdS;have zby:zcB P w K mg base:=zby T dd zbq zcw;refine F.ok1 zdN (fun v=>[some v,none,none,none,none,none,none,none,none,none]) (fun _=>rfl) fun cdv A outer s H v Q E hr h=>?_;obtain⟨a,ns,rfl,hS,hlen,q⟩:=h;refine⟨_,(zj (zcd PassesOwn.never rfl (zrd (zC zog (zaO (zc (zsA zdm hr (by decide) (pv 0) zf) zi)) (zci zow (pv 0) (zcS zf) (zcS zf)))) (zy (i:=1) zdN.nd rfl (Or.inl rfl)) (zj (zF (i:=2) zdN.nd rfl (Or.inl rfl) (zu zgG hr (by decide) (zc (pv 1) zi))) (zj (zF (i:=3) zdN.nd rfl (Or.inl rfl) (zu zdx hr (by decide) (zc (pv 2) zi))) (zj (zF (i:=4) zdN.nd rfl (Or.inl rfl) (zu zgQ hr (by decide) (zc (pv 2) (zc (pv 3) zi)))) (zj (zF (i:=3) zdN.nd rfl (Or.inl rfl) (zu zeX hr (by decide) (zc (pv 2) (zc (pv 3) (zc (pv 4) zi))))) (zj (zey (zu zcp hr (by decide) (zc (pv 3) (zc (zI zt (pv 4) zf (fun _ _=>rfl)) zi))) (zbh (n:=2) rfl (zB (zy (i:=5) zdN.nd rfl (Or.inl rfl)) (zB (zy (i:=6) zdN.nd rfl (Or.inl rfl)) zau)))) (zj (zF (i:=7) zdN.nd rfl (Or.inl rfl) (za1 (zc (zaR zbf (by rfl) T.n_tuple zdB (zc (zcz (fun _ _ h=>h) rfl (zay (L:=0) rfl rfl rfl rfl (N:=["part","times"]) (caps:=[none,none]) (by show zb4 ["script","cell","pen","drawing","gap","least","most","turned","part","at"] (zp s_law).names _ _ _=true; decide +kernel)) (zcg (zI zt (pv 4) zf (fun _ _=>rfl))) (fun _ _ _ _=>(zm4 (K:=K) rfl (n:=2) rfl (zB (zy (i:=0) (by show List.Nodup (["part","times"]:List Str); decide) rfl (Or.inl rfl)) (zB (zy (i:=1) (by show List.Nodup (["part","times"]:List Str); decide) rfl (Or.inl rfl)) zau)))) (fun _ _ _ _=>zbS) (fun _ _ _ _=>(za1 (zc (pv 0) (zc (zC zaS zf (pv 1)) zi))))) zi)) (zc (zC zaS zf (zI zt (pv 4) zf (fun _ _=>rfl))) (zc (zC zaS zf (zI zt (pv 4) zf (fun _ _=>rfl))) zi))))) (zj (zF (i:=8) zdN.nd rfl (Or.inl rfl) (zu zv hr (by decide) (zc (pv 2) (zc (zR zbm (by rfl) T.n_len zd1 (zc (pv 3) zi)) zi)))) (zj (zF (i:=9) zdN.nd rfl (Or.inl rfl) (zC zL (zI zt (zI zt (pv 3) (pv 8) (fun _ _=>rfl)) zf (fun _ _=>rfl)) (zC zd4 (zu zv hr (by decide) (zc (pv 2) (zc (zC zhF zf zf) zi))) (zC zL (zC zaS (zI zt (zI zt (pv 3) (pv 8) (fun _ _=>rfl)) zf (fun _ _=>rfl)) (zI zt (zI zt (pv 3) (pv 8) (fun _ _=>rfl)) zf (fun _ _=>rfl))) zf)))) (zq (zbk (zW zku (zC zaS (pv 6) (pv 5)) zf (nomark _)) (zj (zbk (PW.pt (zkv (zgk (zdl (zu zbz hr (by decide) (zc (pv 3) (zc (pv 4) zi))) (fun _=>rfl))) (zhj (zgk (zdl (zu zby hr (by decide) (zc (pv 3) (zc (pv 4) (zc (pv 8) (zc (pv 9) zi))))) (fun _=>rfl)))))) (zq (zK zet)) zac) (zj (zbk (zgk (zdl (zu zbQ hr (by decide) (zc (pv 3) (zc (pv 4) (zc (zu zv hr (by decide) (zc (pv 2) (zc zf zi))) zi)))) (fun _=>rfl))) (zq (zK zet)) zac) (zj (zbk (zW (zeb hr.units) (zsI (zcz (fun _ _ h=>h) rfl (zay (L:=0) rfl rfl rfl rfl (N:=["here","ways"]) (caps:=[none,none]) (by show zb4 ["script","cell","pen","drawing","gap","least","most","turned","part","at"] (zp s_law).names _ _ _=true; decide +kernel)) (zcg (zu zbq hr (by decide) (zc (pv 3) (zc (pv 7) zi)))) (fun _ _ _ _=>(zm4 (K:=K) rfl (n:=2) rfl (zB (zy (i:=0) (by show List.Nodup (["here","ways"]:List Str); decide) rfl (Or.inl rfl)) (zB (zy (i:=1) (by show List.Nodup (["here","ways"]:List Str); decide) rfl (Or.inl rfl)) zau)))) (fun _ _ _ _=>zbS) (fun _ _ _ _=>(za1 (zc (zC zaS zf (pv 0)) (zc (pv 1) zi))))) (zdH zbM zf)) (zu zbq hr (by decide) (zc (pv 3) (zc (pv 4) zi))) (nomark _)) (zq (zK zet)) zac) (zq (zbk (PW.pt (zkv (zW (zeb hr.units) (zu zQ hr (by decide) (zc (pv 3) (zc (pv 7) zi))) (zu zQ hr (by decide) (zc (pv 3) (zc (pv 4) zi))) (nomark _)) (zhj (zW (zeb hr.units) (zu zeR hr (by decide) (zc (pv 3) (zc (pv 7) zi))) (zu zeR hr (by decide) (zc (pv 3) (zc (pv 4) zi))) (nomark _))))) (zq (zK zet)) zac))))) zac))))))))))) (zq (zK zet))),?_⟩;exact zrt (m:=9) (db:=zrg) (zr (zw (zx (za zd zh)) zk) (zr (zw (zT (i:=0) (za zd zh)) zk) (zr (zw (zT (i:=0) (za zd (za zd zh))) zk) (zr (zw (zT (i:=0) (za zd (za zd (za zd zh)))) zk) (zr (zw (zx (za zd (za (zm zJ zd zg) zh))) (za3 (zA zk (zA zk zav)))) (zr (zw (za0 (za (zaU zek (za (zbO (zce (zm zJ zd zg)) (za3 (zA zk (zA zk zav))) zbW (za0 (za zd (za (zm zb9 zg zd) zh)))) zh)) (za (zm zb9 zg (zm zJ zd zg)) (za (zm zb9 zg (zm zJ zd zg)) zh)))) zk) (zr (zw (zT (i:=0) (za zd (za (zaU zcU (za zd zh)) zh))) zk) (zr (zw (zm zY (zm zJ (zm zJ zd zd) zg) (zm zhI (zT (i:=0) (za zd (za (zm zhI zg zg) zh))) (zm zY (zm zb9 (zm zJ (zm zJ zd zd) zg) (zm zJ (zm zJ zd zd) zg)) zg))) zk) (zbt (zdJ (zm zcI (zm zb9 zd zd) zg)) (zr (zbt (zkp (zgI (zgW (zx (za zd (za zd zh))))) (zgI (zgW (zx (za zd (za zd (za zd (za zd zh)))))))) (zM zeU) zad) (zr (zbt (zgI (zgW (zx (za zd (za zd (za (zT (i:=0) (za zd (za zg zh))) zh)))))) (zM zeU) zad) (zr (zbt (zdJ (zm zee (ztS (zbO (zce (zx (za zd (za zd zh)))) (za3 (zA zk (zA zk zav))) zbW (za0 (za (zm zb9 zg zd) (za zd zh)))) (zdI ziO zg)) (zx (za zd (za zd zh))))) (zM zeU) zad) (zbt (zkp (zdJ (zm zee (zx (za zd (za zd zh))) (zx (za zd (za zd zh))))) (zdJ (zm zee (zx (za zd (za zd zh))) (zx (za zd (za zd zh)))))) (zM zeU) zad)))) zad))))))))) rfl rfl hS hlen (fun n=>zkx a n) (by decide) fun _ H2 _=>q H2
end
end My
namespace PySem.W.Fast
def tw4401508710639284553:Unit:=()
def tw16993638921674887492:Unit:=()
def tw6529572527506951984:Unit:=()
def tw3015793481519426615:Unit:=()
def tw11712862335291401193:Unit:=()
def tw17706594690496074485:Unit:=()
def tw10695981405531201590:Unit:=()
def tw15703023616107158725:Unit:=()
def tw11201874886195260763:Unit:=()
def tw11931785839076758167:Unit:=()
def tw5031478660944535742:Unit:=()
def tw6323775231103356796:Unit:=()
def tw17155714820996859329:Unit:=()
def tw9645286132052615646:Unit:=()
def tw11413117583116916063:Unit:=()
def tw7522524175301117253:Unit:=()
def tw6002905820003446647:Unit:=()
def tw9963364659745281733:Unit:=()
def tw17568183739911792638:Unit:=()
def tw6265080526570372959:Unit:=()
def tw15807397009437339365:Unit:=()
def tw12021396586039350469:Unit:=()
def tw14288157932738575632:Unit:=()
def tw5167283714871820795:Unit:=()
def tw10474547128028839464:Unit:=()
def tw18424376565471331705:Unit:=()
def tw11120623456628142754:Unit:=()
def tw16172330021316316079:Unit:=()
def tw10169229991028654655:Unit:=()
def tw10553886722007707881:Unit:=()
def tw2035972495566482956:Unit:=()
def tw8005837961679236268:Unit:=()
def tw2273814773075834484:Unit:=()
def tw3793446500569239280:Unit:=()
def tw4173481037302346155:Unit:=()
def tw5245404071187416713:Unit:=()
def tw16893305376378237471:Unit:=()
def tw16024734689519209135:Unit:=()
def tw12188185124894285700:Unit:=()
def tw11914057114231327901:Unit:=()
def tw18442172228557187445:Unit:=()
def tw1813357341732381099:Unit:=()
def tw6999449957690684002:Unit:=()
def tw12262870465613096224:Unit:=()
def tw8266300555637027253:Unit:=()
def tw7866370715754095847:Unit:=()
def tw7588873282071570354:Unit:=()
def tw313020167769988037:Unit:=()
def tw9338470995472316673:Unit:=()
def tw8337237258528568645:Unit:=()
def tw9338556206675093912:Unit:=()
def tw7474882057246516782:Unit:=()
def tw9133098563887143064:Unit:=()
def tw873022748077094313:Unit:=()
def tw1984523005955492188:Unit:=()
def tw887952482795248541:Unit:=()
def tw2382573578452026020:Unit:=()
def tw16494049288269412616:Unit:=()
def tw16556038891246895648:Unit:=()
def tw16332214183330543694:Unit:=()
def tw534640832310727675:Unit:=()
def tw15391417393245169155:Unit:=()
def tw7596544834732732831:Unit:=()
def tw8335576793159263518:Unit:=()
def tw10459757066297669368:Unit:=()
def tw16879782947296567583:Unit:=()
def tw12098438252163300921:Unit:=()
def tw7817674875415674307:Unit:=()
def tw7214600072959552288:Unit:=()
def tw5576509622509315546:Unit:=()
def tw18403884937699582241:Unit:=()
def tw17290225150570334632:Unit:=()
def tw1296162854011328896:Unit:=()
def tw13780900733805085633:Unit:=()
def tw16719425197405782609:Unit:=()
def tw5538564391294563432:Unit:=()
def tw8135852461625363531:Unit:=()
def tw15635372705720829817:Unit:=()
def tw1844210759944957763:Unit:=()
def tw12739686433540107632:Unit:=()
def tw11749226040545750575:Unit:=()
def tw10313528728299956276:Unit:=()
def tw16896321808372038293:Unit:=()
def tw17079247161959778266:Unit:=()
def tw4050731076235799068:Unit:=()
def tw9313991830261773272:Unit:=()
def tw7151408702054363410:Unit:=()
def tw17462491846409874711:Unit:=()
def tw13095183550173484341:Unit:=()
def tw16732678980361270673:Unit:=()
def tw16622813862853701111:Unit:=()
def tw17290929587205408904:Unit:=()
def tw18158518728174409179:Unit:=()
def tw17868829545602328922:Unit:=()
def tw15743283670621035352:Unit:=()
def tw911324750373317560:Unit:=()
def tw13746679422358170489:Unit:=()
def tw12746008337225484094:Unit:=()
def tw17184860367611234489:Unit:=()
def tw5792065078975849816:Unit:=()
def tw18308403648826138139:Unit:=()
def tw209590955028505640:Unit:=()
def tw17595519369307629524:Unit:=()
def tw18226021474195485355:Unit:=()
def tw13118926378330958757:Unit:=()
def tw13157827069345634195:Unit:=()
def tw13263448015822717521:Unit:=()
def tw12953081446944962080:Unit:=()
def tw10309298858073294765:Unit:=()
def tw4773477225975888339:Unit:=()
def tw4906400194862472596:Unit:=()
def tw5750240253331504639:Unit:=()
def tw15693381666659726090:Unit:=()
def tw15615275641383708281:Unit:=()
def tw6969640071103003888:Unit:=()
def tw15037692929628995637:Unit:=()
def tw1298885099053058990:Unit:=()
def tw5983653762887389657:Unit:=()
def tw2783241060476128513:Unit:=()
def tw14810121938227312721:Unit:=()
def tw17609041392095597633:Unit:=()
def tw2119532293297784242:Unit:=()
def tw12822998873272434860:Unit:=()
def tw10075995571976364656:Unit:=()
def tw17170023207880008175:Unit:=()
def tw16581412044772404765:Unit:=()
def tw11306722099627110793:Unit:=()
def tw6638352173378112536:Unit:=()
def tw4569895032741102239:Unit:=()
def tw7846648536963306575:Unit:=()
def tw4088613411729759577:Unit:=()
def tw3269878944729104634:Unit:=()
end PySem.W.Fast
open PySem PySem.W PyProof.Rows L2
set_option maxRecDepth 100000 in
set_option maxHeartbeats 0 in
theorem PySem.Challenge.cw_gaugewright_k33_whole_all_are_counted_holds : PySem.Challenge.rw_gaugewright_k33_whole_all_are_counted.Holds := by
 w_on; o_law; k_head; (case hw=>w_witness2)
 k_fill
 refine L2.walk_law (l := PySem.Challenge.rw_gaugewright_k33_whole_all_are_counted) (k := 8) rfl rfl ⟨rfl, by decide, by decide⟩ (fun w h Y => PySem.W.kIn_of Y) ?F
 case F =>
  intro w mg fa h KX G hmg;have d_law_cell_at:Dd (L2.KOf KX) mg "_law_cell_at" My.s_law_cell_at ["script","k"]:=by
   dsimp only [L2.KOf];refine' Dd.mk' KX G ?a ?l ?c ?k ?b
   (case a=>k_is); (case l=>k_is); (case c=>k_is); (case k=>k_is); (case b=>intro _ _ _ _ _ _ us hl; obtain⟨_,_,rfl⟩:=L2.len2 hl; rfl)
  have d_law_pen:Dd (L2.KOf KX) mg "_law_pen" My.s_law_pen ["cell"]:=by
   dsimp only [L2.KOf];refine' Dd.mk' KX G ?a ?l ?c ?k ?b
   (case a=>k_is); (case l=>k_is); (case c=>k_is); (case k=>k_is); (case b=>intro _ _ _ _ _ _ us hl; obtain⟨_,rfl⟩:=L2.len1 hl; rfl)
  have d_law_next:Dd (L2.KOf KX) mg "_law_next" My.s_law_next ["seed"]:=by
   dsimp only [L2.KOf];refine' Dd.mk' KX G ?a ?l ?c ?k ?b
   (case a=>k_is); (case l=>k_is); (case c=>k_is); (case k=>k_is); (case b=>intro _ _ _ _ _ _ us hl; obtain⟨_,rfl⟩:=L2.len1 hl; rfl)
  have d_law_draw:Dd (L2.KOf KX) mg "_law_draw" My.s_law_draw ["pen","many"]:=by
   dsimp only [L2.KOf];refine' Dd.mk' KX G ?a ?l ?c ?k ?b
   (case a=>k_is); (case l=>k_is); (case c=>k_is); (case k=>k_is); (case b=>intro _ _ _ _ _ _ us hl; obtain⟨_,_,rfl⟩:=L2.len2 hl; rfl)
  have d_law_names:Dd (L2.KOf KX) mg "_law_names" My.s_law_names ["pen"]:=by
   dsimp only [L2.KOf];refine' Dd.mk' KX G ?a ?l ?c ?k ?b
   (case a=>k_is); (case l=>k_is); (case c=>k_is); (case k=>k_is); (case b=>intro _ _ _ _ _ _ us hl; obtain⟨_,rfl⟩:=L2.len1 hl; rfl)
  have d_law_number:Dd (L2.KOf KX) mg "_law_number" My.s_law_number ["pen"]:=by
   dsimp only [L2.KOf];refine' Dd.mk' KX G ?a ?l ?c ?k ?b
   (case a=>k_is); (case l=>k_is); (case c=>k_is); (case k=>k_is); (case b=>intro _ _ _ _ _ _ us hl; obtain⟨_,rfl⟩:=L2.len1 hl; rfl)
  have d_law_counted:Dd (L2.KOf KX) mg "_law_counted" My.s_law_counted ["pen"]:=by
   dsimp only [L2.KOf];refine' Dd.mk' KX G ?a ?l ?c ?k ?b
   (case a=>k_is); (case l=>k_is); (case c=>k_is); (case k=>k_is); (case b=>intro _ _ _ _ _ _ us hl; obtain⟨_,rfl⟩:=L2.len1 hl; rfl)
  have d_law_terms:Dd (L2.KOf KX) mg "_law_terms" My.s_law_terms ["pen","drawing"]:=by
   dsimp only [L2.KOf];refine' Dd.mk' KX G ?a ?l ?c ?k ?b
   (case a=>k_is); (case l=>k_is); (case c=>k_is); (case k=>k_is); (case b=>intro _ _ _ _ _ _ us hl; obtain⟨_,_,rfl⟩:=L2.len2 hl; rfl)
  have d_law_ends:Dd (L2.KOf KX) mg "_law_ends" My.s_law_ends ["drawing","terms"]:=by
   dsimp only [L2.KOf];refine' Dd.mk' KX G ?a ?l ?c ?k ?b
   (case a=>k_is); (case l=>k_is); (case c=>k_is); (case k=>k_is); (case b=>intro _ _ _ _ _ _ us hl; obtain⟨_,_,rfl⟩:=L2.len2 hl; rfl)
  have d_law_gap:Dd (L2.KOf KX) mg "_law_gap" My.s_law_gap ["pen","drawing"]:=by
   dsimp only [L2.KOf];refine' Dd.mk' KX G ?a ?l ?c ?k ?b
   (case a=>k_is); (case l=>k_is); (case c=>k_is); (case k=>k_is); (case b=>intro _ _ _ _ _ _ us hl; obtain⟨_,_,rfl⟩:=L2.len2 hl; rfl)
  have d_law_idled:Dd (L2.KOf KX) mg "_law_idled" My.s_law_idled ["pen","drawing","gap"]:=by
   dsimp only [L2.KOf];refine' Dd.mk' KX G ?a ?l ?c ?k ?b
   (case a=>k_is); (case l=>k_is); (case c=>k_is); (case k=>k_is); (case b=>intro _ _ _ _ _ _ us hl; obtain⟨_,_,_,rfl⟩:=L2.len3 hl; rfl)
  have d_kept_behind:Dd (L2.KOf KX) mg "kept_behind" My.s_kept_behind ["tally","gap","worth"]:=by
   dsimp only [L2.KOf];refine' Dd.mk' KX G ?a ?l ?c ?k ?b
   (case a=>k_is); (case l=>k_is); (case c=>k_is); (case k=>k_is); (case b=>intro _ _ _ _ _ _ us hl; obtain⟨_,_,_,rfl⟩:=L2.len3 hl; rfl)
  have d_size_of:Dd (L2.KOf KX) mg "size_of" My.s_size_of ["one"]:=by
   dsimp only [L2.KOf];refine' Dd.mk' KX G ?a ?l ?c ?k ?b
   (case a=>k_is); (case l=>k_is); (case c=>k_is); (case k=>k_is); (case b=>intro _ _ _ _ _ _ us hl; obtain⟨_,rfl⟩:=L2.len1 hl; rfl)
  have d_plus:Dd (L2.KOf KX) mg "plus" My.s_plus ["one","other"]:=by
   dsimp only [L2.KOf];refine' Dd.mk' KX G ?a ?l ?c ?k ?b
   (case a=>k_is); (case l=>k_is); (case c=>k_is); (case k=>k_is); (case b=>intro _ _ _ _ _ _ us hl; obtain⟨_,_,rfl⟩:=L2.len2 hl; rfl)
  have d_multiplied:Dd (L2.KOf KX) mg "multiplied" My.s_multiplied ["one","by"]:=by
   dsimp only [L2.KOf];refine' Dd.mk' KX G ?a ?l ?c ?k ?b
   (case a=>k_is); (case l=>k_is); (case c=>k_is); (case k=>k_is); (case b=>intro _ _ _ _ _ _ us hl; obtain⟨_,_,rfl⟩:=L2.len2 hl; rfl)
  have d_span_of:Dd (L2.KOf KX) mg "span_of" My.s_span_of ["part"]:=by
   dsimp only [L2.KOf];refine' Dd.mk' KX G ?a ?l ?c ?k ?b
   (case a=>k_is); (case l=>k_is); (case c=>k_is); (case k=>k_is); (case b=>intro _ _ _ _ _ _ us hl; obtain⟨_,rfl⟩:=L2.len1 hl; rfl)
  have d_reach_of_terms:Dd (L2.KOf KX) mg "reach_of_terms" My.s_reach_of_terms ["drawing","terms"]:=by
   dsimp only [L2.KOf];refine' Dd.mk' KX G ?a ?l ?c ?k ?b
   (case a=>k_is); (case l=>k_is); (case c=>k_is); (case k=>k_is); (case b=>intro _ _ _ _ _ _ us hl; obtain⟨_,_,rfl⟩:=L2.len2 hl; rfl)
  have d_reach:Dd (L2.KOf KX) mg "reach" My.s_reach ["drawing","gap"]:=by
   dsimp only [L2.KOf];refine' Dd.mk' KX G ?a ?l ?c ?k ?b
   (case a=>k_is); (case l=>k_is); (case c=>k_is); (case k=>k_is); (case b=>intro _ _ _ _ _ _ us hl; obtain⟨_,_,rfl⟩:=L2.len2 hl; rfl)
  have d_with_part:Dd (L2.KOf KX) mg "with_part" My.s_with_part ["tally","span","times"]:=by
   dsimp only [L2.KOf];refine' Dd.mk' KX G ?a ?l ?c ?k ?b
   (case a=>k_is); (case l=>k_is); (case c=>k_is); (case k=>k_is); (case b=>intro _ _ _ _ _ _ us hl; obtain⟨_,_,_,rfl⟩:=L2.len3 hl; rfl)
  have d_tallies_of:Dd (L2.KOf KX) mg "tallies_of" My.s_tallies_of ["drawing","gap"]:=by
   dsimp only [L2.KOf];refine' Dd.mk' KX G ?a ?l ?c ?k ?b
   (case a=>k_is); (case l=>k_is); (case c=>k_is); (case k=>k_is); (case b=>intro _ _ _ _ _ _ us hl; obtain⟨_,_,rfl⟩:=L2.len2 hl; rfl)
  have d_kept_count:Dd (L2.KOf KX) mg "kept_count" My.s_kept_count ["drawing","gap"]:=by
   dsimp only [L2.KOf];refine' Dd.mk' KX G ?a ?l ?c ?k ?b
   (case a=>k_is); (case l=>k_is); (case c=>k_is); (case k=>k_is); (case b=>intro _ _ _ _ _ _ us hl; obtain⟨_,_,rfl⟩:=L2.len2 hl; rfl)
  have d_law_spans_right:Dd (L2.KOf KX) mg "_law_spans_right" My.s_law_spans_right ["drawing","gap","more"]:=by
   dsimp only [L2.KOf];refine' Dd.mk' KX G ?a ?l ?c ?k ?b
   (case a=>k_is); (case l=>k_is); (case c=>k_is); (case k=>k_is); (case b=>intro _ _ _ _ _ _ us hl; obtain⟨_,_,_,rfl⟩:=L2.len3 hl; rfl)
  have d_spread:Dd (L2.KOf KX) mg "spread" My.s_spread ["drawing","gap"]:=by
   dsimp only [L2.KOf];refine' Dd.mk' KX G ?a ?l ?c ?k ?b
   (case a=>k_is); (case l=>k_is); (case c=>k_is); (case k=>k_is); (case b=>intro _ _ _ _ _ _ us hl; obtain⟨_,_,rfl⟩:=L2.len2 hl; rfl)
  have d_how_many:Dd (L2.KOf KX) mg "how_many" My.s_how_many ["drawing"]:=by
   dsimp only [L2.KOf];refine' Dd.mk' KX G ?a ?l ?c ?k ?b
   (case a=>k_is); (case l=>k_is); (case c=>k_is); (case k=>k_is); (case b=>intro _ _ _ _ _ _ us hl; obtain⟨_,rfl⟩:=L2.len1 hl; rfl)
  have d_common_divisor:Dd (L2.KOf KX) mg "common_divisor" My.s_common_divisor ["one","other"]:=by
   dsimp only [L2.KOf];refine' Dd.mk' KX G ?a ?l ?c ?k ?b
   (case a=>k_is); (case l=>k_is); (case c=>k_is); (case k=>k_is); (case b=>intro _ _ _ _ _ _ us hl; obtain⟨_,_,rfl⟩:=L2.len2 hl; rfl)
  have d_share:Dd (L2.KOf KX) mg "share" My.s_share ["drawing","gap"]:=by
   dsimp only [L2.KOf];refine' Dd.mk' KX G ?a ?l ?c ?k ?b
   (case a=>k_is); (case l=>k_is); (case c=>k_is); (case k=>k_is); (case b=>intro _ _ _ _ _ _ us hl; obtain⟨_,_,rfl⟩:=L2.len2 hl; rfl)
  have d_first_set:Dd (L2.KOf KX) mg "first_set" My.s_first_set ["drawing"]:=by
   dsimp only [L2.KOf];refine' Dd.mk' KX G ?a ?l ?c ?k ?b
   (case a=>k_is); (case l=>k_is); (case c=>k_is); (case k=>k_is); (case b=>intro _ _ _ _ _ _ us hl; obtain⟨_,rfl⟩:=L2.len1 hl; rfl)
  have d_steps_of:Dd (L2.KOf KX) mg "steps_of" My.s_steps_of ["drawing","terms"]:=by
   dsimp only [L2.KOf];refine' Dd.mk' KX G ?a ?l ?c ?k ?b
   (case a=>k_is); (case l=>k_is); (case c=>k_is); (case k=>k_is); (case b=>intro _ _ _ _ _ _ us hl; obtain⟨_,_,rfl⟩:=L2.len2 hl; rfl)
  have d_quotient_up:Dd (L2.KOf KX) mg "quotient_up" My.s_quotient_up ["number","by"]:=by
   dsimp only [L2.KOf];refine' Dd.mk' KX G ?a ?l ?c ?k ?b
   (case a=>k_is); (case l=>k_is); (case c=>k_is); (case k=>k_is); (case b=>intro _ _ _ _ _ _ us hl; obtain⟨_,_,rfl⟩:=L2.len2 hl; rfl)
  have d_can_rise:Dd (L2.KOf KX) mg "can_rise" My.s_can_rise ["steps","rise"]:=by
   dsimp only [L2.KOf];refine' Dd.mk' KX G ?a ?l ?c ?k ?b
   (case a=>k_is); (case l=>k_is); (case c=>k_is); (case k=>k_is); (case b=>intro _ _ _ _ _ _ us hl; obtain⟨_,_,rfl⟩:=L2.len2 hl; rfl)
  have d_first_number:Dd (L2.KOf KX) mg "first_number" My.s_first_number ["drawing","term","further","left"]:=by
   dsimp only [L2.KOf];refine' Dd.mk' KX G ?a ?l ?c ?k ?b
   (case a=>k_is); (case l=>k_is); (case c=>k_is); (case k=>k_is); (case b=>intro _ _ _ _ _ _ us hl; obtain⟨_,_,_,_,rfl⟩:=L2.len4 hl; rfl)
  have d_reached:Dd (L2.KOf KX) mg "reached" My.s_reached ["drawing","gap","number"]:=by
   dsimp only [L2.KOf];refine' Dd.mk' KX G ?a ?l ?c ?k ?b
   (case a=>k_is); (case l=>k_is); (case c=>k_is); (case k=>k_is); (case b=>intro _ _ _ _ _ _ us hl; obtain⟨_,_,_,rfl⟩:=L2.len3 hl; rfl)
  have d_law_worth:Dd (L2.KOf KX) mg "_law_worth" My.s_law_worth ["gap","one"]:=by
   dsimp only [L2.KOf];refine' Dd.mk' KX G ?a ?l ?c ?k ?b
   (case a=>k_is); (case l=>k_is); (case c=>k_is); (case k=>k_is); (case b=>intro _ _ _ _ _ _ us hl; obtain⟨_,_,rfl⟩:=L2.len2 hl; rfl)
  have d_worth_of:Dd (L2.KOf KX) mg "worth_of" My.s_worth_of ["gap","one"]:=by
   dsimp only [L2.KOf];refine' Dd.mk' KX G ?a ?l ?c ?k ?b
   (case a=>k_is); (case l=>k_is); (case c=>k_is); (case k=>k_is); (case b=>intro _ _ _ _ _ _ us hl; obtain⟨_,_,rfl⟩:=L2.len2 hl; rfl)
  have d_keeps:Dd (L2.KOf KX) mg "keeps" My.s_keeps ["gap","one"]:=by
   dsimp only [L2.KOf];refine' Dd.mk' KX G ?a ?l ?c ?k ?b
   (case a=>k_is); (case l=>k_is); (case c=>k_is); (case k=>k_is); (case b=>intro _ _ _ _ _ _ us hl; obtain⟨_,_,rfl⟩:=L2.len2 hl; rfl)
  have d_law_spread_right:Dd (L2.KOf KX) mg "_law_spread_right" My.s_law_spread_right ["drawing","gap"]:=by
   dsimp only [L2.KOf];refine' Dd.mk' KX G ?a ?l ?c ?k ?b
   (case a=>k_is); (case l=>k_is); (case c=>k_is); (case k=>k_is); (case b=>intro _ _ _ _ _ _ us hl; obtain⟨_,_,rfl⟩:=L2.len2 hl; rfl)
  have d_is_whole:Dd (L2.KOf KX) mg "is_whole" My.s_is_whole ["thing"]:=by
   dsimp only [L2.KOf];refine' Dd.mk' KX G ?a ?l ?c ?k ?b
   (case a=>k_is); (case l=>k_is); (case c=>k_is); (case k=>k_is); (case b=>intro _ _ _ _ _ _ us hl; obtain⟨_,rfl⟩:=L2.len1 hl; rfl)
  have d_is_span:Dd (L2.KOf KX) mg "is_span" My.s_is_span ["thing"]:=by
   dsimp only [L2.KOf];refine' Dd.mk' KX G ?a ?l ?c ?k ?b
   (case a=>k_is); (case l=>k_is); (case c=>k_is); (case k=>k_is); (case b=>intro _ _ _ _ _ _ us hl; obtain⟨_,rfl⟩:=L2.len1 hl; rfl)
  have d_inside:Dd (L2.KOf KX) mg "inside" My.s_inside ["one","other"]:=by
   dsimp only [L2.KOf];refine' Dd.mk' KX G ?a ?l ?c ?k ?b
   (case a=>k_is); (case l=>k_is); (case c=>k_is); (case k=>k_is); (case b=>intro _ _ _ _ _ _ us hl; obtain⟨_,_,rfl⟩:=L2.len2 hl; rfl)
  have d_narrowed:Dd (L2.KOf KX) mg "narrowed" My.s_narrowed ["drawing","part","span"]:=by
   dsimp only [L2.KOf];refine' Dd.mk' KX G ?a ?l ?c ?k ?b
   (case a=>k_is); (case l=>k_is); (case c=>k_is); (case k=>k_is); (case b=>intro _ _ _ _ _ _ us hl; obtain⟨_,_,_,rfl⟩:=L2.len3 hl; rfl)
  have d_law_halves_right:Dd (L2.KOf KX) mg "_law_halves_right" My.s_law_halves_right ["drawing","gap","part","at"]:=by
   dsimp only [L2.KOf];refine' Dd.mk' KX G ?a ?l ?c ?k ?b
   (case a=>k_is); (case l=>k_is); (case c=>k_is); (case k=>k_is); (case b=>intro _ _ _ _ _ _ us hl; obtain⟨_,_,_,_,rfl⟩:=L2.len4 hl; rfl)
  have d_law:Dd (L2.KOf KX) mg "law" My.s_law ["script"]:=by
   dsimp only [L2.KOf];refine' Dd.mk' KX G ?a ?l ?c ?k ?b
   (case a=>k_is); (case l=>k_is); (case c=>k_is); (case k=>k_is); (case b=>intro _ _ _ _ _ _ us hl; obtain⟨_,rfl⟩:=L2.len1 hl; rfl)
  have g14:∃ t,mg "MOST_WORTHS" = some (.int 400 t):=by
   apply Exists.intro;apply PySem.W.mg_of KX G
   k_is
  have g15:∃ t,mg "MOST_TRIES" = some (.int 5 t):=by
   apply Exists.intro;apply PySem.W.mg_of KX G
   k_is
  have T:My.Txt mg:=by
   refine' ⟨PySem.W.mg_none_of KX G ?z0,PySem.W.mg_none_of KX G ?z1,PySem.W.mg_none_of KX G ?z2,PySem.W.mg_none_of KX G ?z3,PySem.W.mg_none_of KX G ?z4,PySem.W.mg_none_of KX G ?z5,PySem.W.mg_none_of KX G ?z6,PySem.W.mg_none_of KX G ?z7,PySem.W.mg_none_of KX G ?z8,PySem.W.mg_none_of KX G ?z9,PySem.W.mg_none_of KX G ?z10,PySem.W.mg_none_of KX G ?z11,PySem.W.mg_none_of KX G ?z12,PySem.W.mg_none_of KX G ?z13,g14,g15⟩
   (case z0=>k_is); (case z1=>k_is); (case z2=>k_is); (case z3=>k_is); (case z4=>k_is); (case z5=>k_is); (case z6=>k_is); (case z7=>k_is); (case z8=>k_is); (case z9=>k_is); (case z10=>k_is); (case z11=>k_is); (case z12=>k_is); (case z13=>k_is)
  have dd:My.Dds (L2.KOf KX) mg:=⟨d_law_cell_at,d_law_pen,d_law_next,d_law_draw,d_law_names,d_law_number,d_law_counted,d_law_terms,d_law_ends,d_law_gap,d_law_idled,d_kept_behind,d_size_of,d_plus,d_multiplied,d_span_of,d_reach_of_terms,d_reach,d_with_part,d_tallies_of,d_kept_count,d_law_spans_right,d_spread,d_how_many,d_common_divisor,d_share,d_first_set,d_steps_of,d_quotient_up,d_can_rise,d_first_number,d_reached,d_law_worth,d_worth_of,d_keeps,d_law_spread_right,d_is_whole,d_is_span,d_inside,d_narrowed,d_law_halves_right⟩;obtain⟨f,fd,F,hm,_⟩:=d_law.ex;have e0:=hmg.symm.trans hm;cases e0;exact⟨fd,F.bind1 fun _ _ _ _ _ _ _=>rfl,fun base _ _=>My.ok_law F T dd⟩
#print axioms PySem.Challenge.cw_gaugewright_k33_whole_all_are_counted_holds
end