import PyProof.Rows.All
import Wide.All
import OpenK.AllK
import Wide.FinOn
import Lean
import PyProof.EqAt
import PyProof.EqKinds
import PyProof.TupleCall
import KE.KTupSum
import KE.KSortTup
import PyProof.SetKind
import PyProof.SetRoads
import PyProof.SetNew
import PyProof.DictKinds
import PyProof.NsDelKeeps
import PyProof.StrWalks
import KE.KEqDict
import KE.KDictList
import PyProof.AttrMissSeq
import PyProof.WalksMore
import KE.KDictOf
import PyProof.Rows.Range3
import KE.KItemsList
import PyProof.FactsAll.dict_3
import KE.KMinKey
import PyProof.Rows.CallKwBuiltin
import PyProof.TupleOfSeq
import PySem.Challenge.RW_gaugewright_k65_whole_fewest_shims
set_option Elab.async false
set_option linter.all false
set_option maxRecDepth 100000
set_option maxHeartbeats 8000000
noncomputable section
namespace L2
open PySem PySem.Spec PyProof.Rows
section
abbrev Key:=Sum Int Str
def zhO:Key->Value->Bool
 | .inl k,v=>Value.isInt k v
 | .inr x,v=>Value.isStrOf x v
def zsA(w:World):Key->Int
 | .inl k=>hashInt k
 | .inr x=>hashStr w x
theorem zaz:∀ {k:Key} {v:Value},zhO k v=true->(∃ i t,k=Sum.inl i/\v=Value.int i t)\/(∃ x t,k=Sum.inr x/\v=Value.str x t)
 | .inl i,v,h=>by
  obtain⟨t,e⟩:=Value.isInt_shape (k:=i) (v:=v) h;exact .inl ⟨i,t,rfl,e⟩
 | .inr x,v,h=>by
  obtain⟨t,e⟩:=Value.isStrOf_shape (x:=x) (v:=v) h;exact .inr ⟨x,t,rfl,e⟩
theorem zlX(i:Int)(t:Tok):zhO (.inl i) (.int i t)=true:=by simp [zhO,Value.isInt]
theorem zkS(x:Str)(t:Tok):zhO (.inr x) (.str x t)=true:=by simp [zhO,Value.isStrOf]
theorem zpV(a b:Int):decide ((Sum.inl a:Key)=Sum.inl b)=(a == b):=by
 by_cases e:a=b
 ·subst e; simp
 ·have h:¬ (Sum.inl a:Key)=Sum.inl b:=fun q=>e (Sum.inl.inj q);rw [decide_eq_false h];exact(beq_eq_false_iff_ne.mpr e).symm
theorem zqD(a b:Str):decide ((Sum.inr a:Key)=Sum.inr b)=decide (a=b):=by
 by_cases e:a=b
 ·subst e; simp
 ·have h:¬ (Sum.inr a:Key)=Sum.inr b:=fun q=>e (Sum.inr.inj q);rw [decide_eq_false h,decide_eq_false e]
theorem zrf(a:Int)(b:Str):decide ((Sum.inl a:Key)=Sum.inr b)=false:=decide_eq_false (fun q=>nomatch q)
theorem zpO(a:Str)(b:Int):decide ((Sum.inr a:Key)=Sum.inl b)=false:=decide_eq_false (fun q=>nomatch q)
def zaj(prog:Program)(w:World):PySem.KeyKind prog w Key where
 is:=zhO
 hash:=zsA w
 inj:=fun v a b ha hb=>by
  rcases zaz ha with ⟨i,t,rfl,rfl⟩ | ⟨x,t,rfl,rfl⟩
  ·rcases zaz hb with ⟨j,u,rfl,e⟩ | ⟨y,u,rfl,e⟩
   ·injection e with e1 _; rw [e1]
   ·exact nomatch e
  ·rcases zaz hb with ⟨j,u,rfl,e⟩ | ⟨y,u,rfl,e⟩
   ·exact nomatch e
   ·injection e with e1 _; rw [e1]
 byValue:=fun k v h=>by
  rcases zaz h with ⟨i,t,rfl,rfl⟩ | ⟨x,t,rfl,rfl⟩ <;> rfl
 pyHash:=fun hv h=>by
  rcases zaz hv with ⟨i,t,rfl,rfl⟩ | ⟨x,t,rfl,rfl⟩
  ·exact wpAny_pyHash_int h
  ·exact wpAny_pyHash_str h
 eqBool:=fun hu hv h=>by
  rcases zaz hu with ⟨i,t,rfl,rfl⟩ | ⟨x,t,rfl,rfl⟩
  ·rcases zaz hv with ⟨j,u,rfl,rfl⟩ | ⟨y,u,rfl,rfl⟩
   ·rw [zpV] at h; exact wpAny_eqBool_int h
   ·rw [zrf] at h; exact SeqAt.EqAt.int_str i t y u _ _ _ _ h
  ·rcases zaz hv with ⟨j,u,rfl,rfl⟩ | ⟨y,u,rfl,rfl⟩
   ·rw [zpO] at h; exact SeqAt.EqAt.str_int x t j u _ _ _ _ h
   ·rw [zqD] at h; exact wpAny_eqBool_str h
 «strs»:=fun k x t v h=>by
  rcases zaz h with ⟨i,u,rfl,e⟩ | ⟨y,u,rfl,e⟩
  ·exact nomatch e
  ·injection e with e1 _
   subst e1;cases v <;> rfl
theorem zhP(prog:Program)(w:World)(i:Int)(t:Tok):(zaj prog w).is (.inl i) (.int i t)=true:=zlX i t
theorem zic(prog:Program)(w:World)(x:Str)(t:Tok):(zaj prog w).is (.inr x) (.str x t)=true:=zkS x t
end
section
inductive V where
 | non | bl (b:Bool) | int (i:Int) | str (x:Str) | byt (b:Array UInt8) | flt (b:UInt64) | ref (a:Addr) | ty (n:String)
 deriving DecidableEq
def RelV:V->Value->Prop
 | .non,u=>u=Value.none
 | .bl b,u=>u=Value.bool b
 | .int i,u=>∃ t,u=Value.int i t
 | .str x,u=>∃ t,u=Value.str x t
 | .byt b,u=>∃ t,u=Value.bytes b t
 | .flt b,u=>∃ t,u=Value.float b t
 | .ref a,u=>u=Value.ref a
 | .ty n,u=>u=Value.type n
abbrev Vals:List V->List Value->Prop:=Paired RelV
theorem Vals.length{xs:List V}{us:List Value}(r:Vals xs us):xs.length=us.length:=Paired.length r
theorem Vals.get:∀ {xs:List V} {us:List Value} {i:Nat} {x:V},Vals xs us->xs[i]? = some x->∃ u,us[i]? = some u/\RelV x u
 | _,_,_,_,.nil,e=>by simp at e
 | _,_,0,_,.cons r _,e=>by simp at e; subst e; exact⟨_,rfl,r⟩
 | _,_,i+1,x,.cons _ t,e=>by
  obtain⟨u,h1,h2⟩:=Vals.get (i:=i) (x:=x) t (by simpa using e);exact⟨u,by simpa using h1,h2⟩
theorem Vals.set{x:V}{u:Value}(r:RelV x u):∀ {xs:List V} {us:List Value} (i:Nat),Vals xs us->Vals (xs.set i x) (us.set i u)
 | _,_,_,.nil=>.nil
 | _,_,0,.cons _ t=>.cons r t
 | _,_,i+1,.cons q t=>.cons q (Vals.set r i t)
theorem Vals.append:∀ {xs ys:List V} {us ws:List Value},Vals xs us->Vals ys ws->Vals (xs++ys) (us++ws)
 | _,_,_,_,.nil,s=>s
 | _,_,_,_,.cons r t,s=>.cons r (Vals.append t s)
theorem Vals.take:∀ {xs:List V} {us:List Value} (n:Nat),Vals xs us->Vals (xs.take n) (us.take n)
 | _,_,0,_=>.nil
 | _,_,_+1,.nil=>.nil
 | _,_,n+1,.cons r t=>.cons r (Vals.take n t)
theorem Vals.drop:∀ {xs:List V} {us:List Value} (n:Nat),Vals xs us->Vals (xs.drop n) (us.drop n)
 | _,_,0,r=>r
 | _,_,_+1,.nil=>.nil
 | _,_,n+1,.cons _ t=>Vals.drop n t
def RelO:Option V->Option Value->Prop
 | some v,some u=>RelV v u
 | none,none=>True
 | _,_=>False
def KV{κ:Type}:List (κ×V)->List (κ×Value)->Prop:=Paired fun(p:κ×V) (q:κ×Value)=>p.1=q.1/\RelV p.2 q.2
def kV:Key->V
 | .inl i=>.int i
 | .inr x=>.str x
inductive HO where
 | lst (xs:List V)
 | tup (xs:List V)
 | dK (kvs:List (Key×V)) | dT (kvs:List (List Key×V))
 | set (S:Int->Bool) (n:Nat)
 | ins (C dx:Addr) (fs:List (Str×V))
 | own (x:Addr)
 | xd (fs:List (Str×V))
 | met (f x:Addr)
 | rng (lo hi:Int)
 | frz (o:Obj) (u:HO)
 | tbl (ps:Array Value)
 | ext (φ:Heap->Prop)
abbrev Hp:=Addr->Option HO
def upd(H:Hp)(a:Addr)(o:HO):Hp:=fun b=>if b=a then some o else H b
theorem zH{H:Hp}{a:Addr}{o:HO}:upd H a o a=some o:=by unfold upd; rw [if_pos rfl]
theorem zw{H:Hp}{a b:Addr}{o:HO}(h:b≠a):upd H a o b=H b:=by unfold upd; rw [if_neg h]
theorem zia{H:Hp}{a:Addr}{o u:HO}:upd (upd H a o) a u=upd H a u:=by
 funext b; unfold upd; split <;> rfl
theorem zG{H:Hp}{a b:Addr}{o:HO}(h:H a=some o)(h':H b=none):a≠b:=by
 intro e; subst e; rw [h] at h'; cases h'
section
variable (P:Program) (w:World)
def ObjOk(H:Hp)(h:Heap)(a:Addr):HO->Prop
 | .lst xs=>xs.length<=sizeLine/\∃ (its:List Value) (n:Nat),Vals xs its/\h.get? a=some { cls:=.type "list",data:=.seq its.toArray n }
 | .tup xs=>(xs.length<=sizeLine/\∃ o:Obj,h.get? a=some o/\o.dict=none)/\∃ its:List Value,Vals xs its/\IsTup h a its.toArray
 | .dK kvs=>kvs.length<=sizeLine/\(a == sysModules)=false/\∃ vs,KV kvs vs/\h.DictOf (zaj P w) a vs
 | .dT kvs=>kvs.length<=sizeLine/\(a == sysModules)=false/\∃ xs:List (List Key×Addr×Value),
   Paired (fun(p:List Key×V) (q:List Key×Addr×Value)=>p.1=q.1/\H q.2.1=some (.tup (p.1.map kV))/\RelV p.2 q.2.2) kvs xs /\
   ∃ o es ep,h.get? a=some o/\o.ExactDict/\o.data=.dict es ep/\es.toList=xs.map (entryOfKey (tupleKind (zaj P w)))/\(xs.map (·.1)).Nodup
 | .set S n=>h.SetOf (intKind P w) a S n
 | .ins C dx fs=>H dx=some (.own a)/\fs.length<=1000/\dx≠a/\h.get? a=some (PySem.W.instObj C dx) /\
   ∃ mA,h.Ns1 dx mA/\(∀ f,RelO (fs.lookup f) (mA f))/\PySem.Within mA (fs.map (·.1))
 | .own _=>∃ o,h.get? a=some o
 | .xd fs=>∃ mA,h.Ns1 a mA/\∀ f,RelO (fs.lookup f) (mA f)
 | .rng lo hi=>∃ t u v,h.get? a=some { cls:=.type "range",data:=.fields #[.int lo t,.int hi u,.int 1 v] }
 | .frz o u=>h.get? a=some o/\ObjOk H h a u
 | .tbl ps=>h.get? a=some { cls:=.none,data:=.fields ps }
 | .met f x=>h.get? a=some (PySem.W.methodObj (.ref f) (.ref x))
 | .ext φ=>φ h/\(∃ o,h.get? a=some o)/\∀ h1 h2:Heap,φ h1->(∀ o,h1.get? a=some o->h2.get? a=some o)->φ h2
def HOk(H:Hp)(h:Heap):Prop:=∀ a o,H a=some o->ObjOk P w H h a o
end
section
variable {P:Program} {w:World} {H H':Hp} {h h':Heap} {a:Addr} {o:HO}
theorem ObjOk.lt(x:ObjOk P w H h a o):a<h.objs.size:=by
 cases o with
 | lst xs=>obtain⟨_,_,_,_,e⟩:=x; exact Heap.lt_size e
 | tup xs=>obtain⟨_,_,_,p⟩:=x; exact p.lt
 | dK kvs=>obtain⟨_,_,_,_,o,_,_,e,_⟩:=x; exact Heap.lt_size e
 | dT kvs=>obtain⟨_,_,_,_,o,_,_,e,_⟩:=x; exact Heap.lt_size e
 | set S n=>obtain⟨o,_,_,_,e,_⟩:=x; exact Heap.lt_size e
 | ins C dx fs=>obtain⟨_,_,_,e,_⟩:=x; exact Heap.lt_size e
 | own y=>obtain⟨_,e⟩:=x; exact Heap.lt_size e
 | xd fs=>obtain⟨_,⟨_,_,_,e,_⟩,_⟩:=x; exact Heap.lt_size e
 | rng lo hi=>obtain⟨_,_,_,e⟩:=x; exact Heap.lt_size e
 | frz ob u=>obtain⟨e,_⟩:=x; exact Heap.lt_size e
 | tbl ps=>exact Heap.lt_size (show h.get? a=some _ from x)
 | met f y=>exact Heap.lt_size (show h.get? a=some _ from x)
 | ext φ=>obtain⟨_,⟨_,e⟩,_⟩:=x; exact Heap.lt_size e
theorem Paired.mapP{α β:Type}{F G:α->β->Prop}:∀ {l₁:List α} {l₂:List β},Paired F l₁ l₂->(∀ a b,F a b->G a b)->Paired G l₁ l₂
 | _,_,.nil,_=>.nil
 | _,_,.cons r t,f=>.cons (f _ _ r) (Paired.mapP t f)
theorem ObjOk.stay(x:ObjOk P w H h a o)(k:∀ b u,(b=a\/H b=some (.own a))->h.get? b=some u->h'.get? b=some u)
  (ho:∀ b,H b=some (.own a)->H' b=some (.own a)) (ht:∀ b xs,H b=some (.tup xs)->H' b=some (.tup xs)):ObjOk P w H' h' a o:=by
 induction o with
 | lst xs=>obtain⟨z,its,n,r,e⟩:=x; exact⟨z,its,n,r,k _ _ (.inl rfl) e⟩
 | tup xs=>obtain⟨⟨z,o2,e2,d2⟩,its,r,ob,e,c⟩:=x; exact⟨⟨z,o2,k _ _ (.inl rfl) e2,d2⟩,its,r,ob,k _ _ (.inl rfl) e,c⟩
 | dK kvs=>obtain⟨z,y,vs,r,ob,es,ep,e,c⟩:=x; exact⟨z,y,vs,r,ob,es,ep,k _ _ (.inl rfl) e,c⟩
 | dT kvs =>
  obtain⟨z,y,xs,r,ob,es,ep,e,c⟩:=x;exact⟨z,y,xs,Paired.mapP r fun p q z=>⟨z.1,ht _ _ z.2.1,z.2.2⟩,ob,es,ep,k _ _ (.inl rfl) e,c⟩
 | set S n=>obtain⟨ob,es,ep,t,e,c⟩:=x; exact⟨ob,es,ep,t,k _ _ (.inl rfl) e,c⟩
 | ins C dx fs =>
  obtain⟨d,z,ne,e,mA,⟨od,es,ep,e2,c⟩,r⟩:=x;exact⟨ho _ d,z,ne,k _ _ (.inl rfl) e,mA,⟨od,es,ep,k _ _ (.inr d) e2,c⟩,r⟩
 | own y=>obtain⟨ob,e⟩:=x; exact⟨ob,k _ _ (.inl rfl) e⟩
 | xd fs=>obtain⟨mA,⟨od,es,ep,e,c⟩,r⟩:=x; exact⟨mA,⟨od,es,ep,k _ _ (.inl rfl) e,c⟩,r⟩
 | rng lo hi=>obtain⟨t,u,v,e⟩:=x; exact⟨t,u,v,k _ _ (.inl rfl) e⟩
 | frz ob u ih=>obtain⟨e,q⟩:=x; exact⟨k _ _ (.inl rfl) e,ih q⟩
 | tbl ps =>
  have e:h.get? a=some { cls:=.none,data:=.fields ps }:=x;show h'.get? a=some { cls:=.none,data:=.fields ps };exact k a _ (.inl rfl) e
 | met f y =>
  have e:h.get? a=some (PySem.W.methodObj (.ref f) (.ref y)):=x;show h'.get? a=some (PySem.W.methodObj (.ref f) (.ref y));exact k a _ (.inl rfl) e
 | ext φ=>obtain⟨p,⟨o,e⟩,st⟩:=x; exact⟨st _ _ p fun o q=>k _ _ (.inl rfl) q,⟨o,k _ _ (.inl rfl) e⟩,st⟩
theorem HOk.lt(x:HOk P w H h)(e:H a=some o):a<h.objs.size:=(x a o e).lt
theorem HOk.fresh(x:HOk P w H h)(e:h.objs.size<=a):H a=none:=by
 cases q:H a with
 | none=>rfl
 | some u=>exact absurd (Nat.lt_of_lt_of_le (x.lt q) e) (Nat.lt_irrefl _)
theorem HOk.kept(x:HOk P w H h)(k:∀ b u,h.get? b=some u->h'.get? b=some u):HOk P w H h':=fun a o e =>
 (x a o e).stay (fun b u _ q=>k b u q) (fun _ q=>q) fun _ _ q=>q
theorem HOk.laid(x:HOk P w H h)(k:∀ b u,h.get? b=some u->h'.get? b=some u)(hp:h.objs.size<=a)(new:ObjOk P w (upd H a o) h' a o):HOk P w (upd H a o) h':=fun b u e=>by
 have hn:=x.fresh hp;by_cases hb:b=a
 ·subst hb; rw [zH] at e; cases e; exact new
 ·rw [zw hb] at e;exact(x b u e).stay (fun c v _ q=>k c v q) (fun c q=>by rw [zw (zG q hn)]; exact q) fun c xs q=>by rw [zw (zG q hn)]; exact q
end
def Rd(H:Hp)(a:Addr)(u:HO):Prop:=H a=some u\/∃ o,H a=some (.frz o u)
theorem Rd.ok{P:Program}{w:World}{H:Hp}{h:Heap}{a:Addr}{u:HO}(r:Rd H a u)(x:HOk P w H h):ObjOk P w H h a u:=by
 rcases r with r | ⟨o,r⟩
 ·exact x a u r
 ·obtain⟨_,q⟩:=x a _ r;exact q
def Mut:Option HO->Prop
 | some (.lst _)=>True
 | some (.dK _)=>True
 | some (.dT _)=>True
 | some (.set _ _)=>True
 | some (.ins _ _ _)=>True
 | some (.ext _)=>True
 | _=>False
section
variable {P:Program} {w:World} {H:Hp} {h h':Heap} {x e:Addr} {o':HO}
theorem HOk.write(ok:HOk P w H h)(mu:Mut (H x))(he:e=x\/H e=some (.own x))(k:∀ b u,b≠e->h.get? b=some u->h'.get? b=some u)(heo:∃ u,h'.get? e=some u)
  (new:ObjOk P w (upd H x o') h' x o'):HOk P w (upd H x o') h':=fun b u q=>by
 have nown:∀ c y,H c=some (.own y)->c≠x:=fun c y r z=>by subst z; rw [r] at mu; exact mu
 have ntup:∀ c xs,H c=some (.tup xs)->c≠x:=fun c xs r z=>by subst z; rw [r] at mu; exact mu
 by_cases hb:b=x
 ·subst hb; rw [zH] at q; cases q; exact new
 ·rw [zw hb] at q;by_cases hbe:b=e
  ·have q':H b=some (.own x):=by
    rcases he with z | z
    ·exact absurd (hbe.trans z) hb
    ·rw [hbe]; exact z
   rw [q] at q'; cases q';obtain⟨v,hv⟩:=heo;exact⟨v,by rw [hbe]; exact hv⟩
  ·refine(ok b u q).stay (fun c v hc r=>k c v ?_ r) (fun c r=>by rw [zw (nown c b r)]; exact r) fun c xs r=>by rw [zw (ntup c xs r)]; exact r
   rcases hc with rfl | hc
   ·exact hbe
   ·rintro rfl;rcases he with z | z
    ·exact nown c b hc z
    ·rw [hc] at z; cases z; exact hb rfl
end
structure Un(fs ex:List Addr)(H H':Hp)(h h':Heap):Prop where
 keep:∀ b o,h.get? b=some o->H b=none->b∉fs->b∉ex->h'.get? b=some o
 slot:∀ b o,h.get? b=some o->H b=none->b∈fs->b∉ex->∃ sl,h'.get? b=some { o with slots:=sl }
 free:∀ b o,h.get? b=some o->H b=none->b∉ex->H' b=none
 there:∀ b o,h.get? b=some o->b∉ex->∃ o',h'.get? b=some o'
 tups:∀ b xs,H b=some (.tup xs)->H' b=some (.tup xs)
 frzs:∀ b o u,H b=some (.frz o u)->H' b=some (.frz o u)
 tbls:∀ b ps,H b=some (.tbl ps)->∃ more,H' b=some (.tbl (ps++more))
section
variable {fs fs' ex ex':List Addr} {H H1 H2:Hp} {h h1 h2 h':Heap} {a x e:Addr} {o:HO}
theorem Un.any(u:Un fs ex H H1 h h1){b:Addr}{ob:Obj}(q:h.get? b=some ob)(n:H b=none)(hx:b∉ex):∃ sl,h1.get? b=some { ob with slots:=sl }:=by
 by_cases hb:b∈fs
 ·exact u.slot b ob q n hb hx
 ·exact⟨ob.slots,u.keep b ob q n hb hx⟩
theorem Un.trans(a:Un fs ex H H1 h h1)(b:Un fs ex H1 H2 h1 h2):Un fs ex H H2 h h2 where
 keep:=fun c ob q n hc hx=>b.keep c ob (a.keep c ob q n hc hx) (a.free c ob q n hx) hc hx
 slot:=fun c ob q n hc hx=>by
  obtain⟨sl,e1⟩:=a.slot c ob q n hc hx;obtain⟨sl',e2⟩:=b.slot c _ e1 (a.free c ob q n hx) hc hx;exact⟨sl',e2⟩
 free:=fun c ob q n hx=>by
  obtain⟨o',e1⟩:=a.there c ob q hx;exact b.free c o' e1 (a.free c ob q n hx) hx
 there:=fun c ob q hx=>by
  obtain⟨o',e1⟩:=a.there c ob q hx;exact b.there c o' e1 hx
 tups:=fun c xs q=>b.tups c xs (a.tups c xs q)
 frzs:=fun c ob xs q=>b.frzs c ob xs (a.frzs c ob xs q)
 tbls:=fun c ps q=>by
  obtain⟨m1,e1⟩:=a.tbls c ps q;obtain⟨m2,e2⟩:=b.tbls c _ e1;exact⟨m1++m2,by rw [e2,Array.append_assoc]⟩
theorem Un.kept(k:∀ b u,h.get? b=some u->h'.get? b=some u):Un fs ex H H h h' :=
 ⟨fun b ob q _ _ _=>k b ob q,fun b ob q _ _ _=>⟨ob.slots,k b ob q⟩,fun _ _ _ n _=>n,fun b ob q _=>⟨ob,k b ob q⟩,fun _ _ q=>q,fun _ _ _ q=>q,fun _ ps q=>⟨#[],by rw [q]; simp⟩⟩
theorem Un.refl:Un fs ex H H h h:=Un.kept fun _ _ q=>q
theorem Un.laid(k:∀ b u,h.get? b=some u->h'.get? b=some u)(hp:h.objs.size<=a)(hn:H a=none):Un fs ex H (upd H a o) h h' where
 keep:=fun b u q _ _ _=>k b u q
 slot:=fun b u q _ _ _=>⟨u.slots,k b u q⟩
 free:=fun b u q n _=>by rw [zw (Nat.ne_of_lt (Nat.lt_of_lt_of_le (Heap.lt_size q) hp))]; exact n
 there:=fun b u q _=>⟨u,k b u q⟩
 tups:=fun b xs q=>by rw [zw (zG q hn)]; exact q
 frzs:=fun b u xs q=>by rw [zw (zG q hn)]; exact q
 tbls:=fun b ps q=>⟨#[],by rw [zw (zG q hn),q]; simp⟩
theorem Un.write(mu:Mut (H x))(he:e=x\/H e=some (.own x))(k:∀ b u,b≠e->h.get? b=some u->h'.get? b=some u)(heo:∃ u,h'.get? e=some u):Un fs ex H (upd H x o) h h':=by
 have hx:∀ b,H b=none->b≠x:=fun b n z=>by subst z; rw [n] at mu; exact mu
 have hb:∀ b,H b=none->b≠e:=fun b n z=>by
  subst z;rcases he with r | r
  ·exact hx b n r
  ·rw [n] at r; cases r
 have hm:∀ b u,H b=some u->¬ Mut (some u)->b≠x:=fun b u q nm z=>by subst z; rw [q] at mu; exact nm mu
 refine⟨fun b u q n _ _=>k b u (hb b n) q,fun b u q n _ _=>⟨u.slots,k b u (hb b n) q⟩,fun b u q n _=>by rw [zw (hx b n)]; exact n,fun b u q _=>?_,
  fun b xs q=>by rw [zw (hm b _ q fun z=>z)]; exact q,fun b u xs q=>by rw [zw (hm b _ q fun z=>z)]; exact q,fun b ps q=>⟨#[],by rw [zw (hm b _ q fun z=>z),q]; simp⟩⟩
 by_cases hbe:b=e
 ·subst hbe; exact heo
 ·exact⟨u,k b u hbe q⟩
theorem Un.mono(u:Un fs ex H H1 h h1)(hs:∀ b∈fs,b∈fs')(hx:∀ b∈ex,b∈ex'):Un fs' ex' H H1 h h1 :=
 ⟨fun b ob q n hb he=>u.keep b ob q n (fun z=>hb (hs b z)) fun z=>he (hx b z),fun _ _ q n _ he=>u.any q n fun z=>he (hx _ z),fun b ob q n he=>u.free b ob q n fun z=>he (hx b z),fun b ob q he=>u.there b ob q fun z=>he (hx b z),u.tups,u.frzs,u.tbls⟩
end
def trk(h:Heap)(H:Hp):List Addr:=(List.range h.objs.size).filter fun a=>(H a).isSome
def znL(h:Heap)(H:Hp):Heap:=PySem.W.hideAll h (trk h H)
theorem zkI(h:Heap)(H:Hp):(znL h H).objs.size=h.objs.size:=PySem.W.hideAll_size _ _
theorem zm0{h:Heap}{H:Hp}{b:Addr}{o:Obj}(e:h.get? b=some o)(n:H b=none):(znL h H).get? b=some o :=
 PySem.W.hideAll_get _ e fun hm=>by
  have q:(H b).isSome=true:=(List.mem_filter.mp hm).2;rw [n] at q; simp at q
theorem zoD{h:Heap}{H:Hp}{b:Addr}{o:Obj}(e:(znL h H).get? b=some o):h.get? b=some o/\H b=none:=by
 have e':h.get? b=some o:=PySem.W.of_hideAll (trk h H) e;refine⟨e',?_⟩;cases q:H b with
 | none=>rfl
 | some x =>
  have hm:b∈trk h H:=List.mem_filter.mpr ⟨List.mem_range.mpr (Heap.lt_size e'),by simp [q]⟩;have z:(znL h H).get? b=none:=PySem.W.hideAll_none (trk h H) hm;rw [z] at e; cases e
def zo5(g h:Heap)(L:Addr):List (Addr×Obj):=(List.range h.objs.size).filterMap fun a=>if a=L\/(g.get? a).isSome=true then none else (h.get? a).map fun o=>(a,o)
def rest(g h:Heap)(L d:Addr):List (Addr×Obj):=(zo5 g h L).filter fun p=>decide (p.1≠d)
end
section
structure Mod(K:W.Frag)(mg:Str->Option Value)(base:Heap):Prop where
 kin:K.In base
 glob:base.Ns mainGlobals mg
 blt:∃ mb,base.Ns builtinsNs mb/\∀ x:Str,x ≠ "__name__"->mb x=bootBuiltins x
 nolimit:base.NoLimit
structure Cx where
 prog:Program
 w:World
 K:W.Frag
 mg:Str->Option Value
 base:Heap
 A:Around
 N:List Str
 s₀:Shared
 H₀:Hp
 env:Env
 outer:List Env
 stack:List Env
 ex:List Addr
 fn:Str->Bool
 calm:Bool
 pn:List (Addr×Obj)
 xe:Value->Shared->Prop
def frs(l:List Env):List Addr:=l.filterMap (·.frame)
abbrev Cx.fs (X:Cx):List Addr:=frs X.outer
def Vis(sc:Scope)(x:Str):Prop:=sc.names.lookup x=some .local\/sc.names.lookup x=some .cell\/sc.names.lookup x=some .free
def Loc(sc:Scope)(x:Str):Prop:=sc.names.lookup x=some .local\/sc.names.lookup x=some .cell
def Look(env:Env)(h:Heap)(m:Str->Option Value)(x:Str)(u:Value):Prop :=
 (env.kindOf x=some .local/\m x=some u)\/((env.kindOf x=some .cell\/env.kindOf x=some .free)/\∃ c,env.cells.lookup x=some c/\h.IsCell c (some u))
structure Cx.Ok(X:Cx):Prop where
 mod:Mod X.K X.mg X.base
 kind:X.env.scope.kind=.function
 glob:X.env.globals=mainGlobals
 blt:X.env.builtins=builtinsNs
 above:X.s₀.heap.objs.size<=X.env.locals
 inj:∀ x y c,X.env.cells.lookup x=some c->X.env.cells.lookup y=some c->x=y
 has:∀ x,(X.env.kindOf x=some .cell\/X.env.kindOf x=some .free)->∃ c,X.env.cells.lookup x=some c
 cab:∀ x c,X.fn x=true->X.env.cells.lookup x=some c->X.s₀.heap.objs.size<=c
 hd:X.calm=true->X.A.handled=none
 frames:X.A.frames=some X.stack
 stk:X.stack=X.outer\/(X.stack=X.env :: X.outer/\X.env.frame=some X.env.locals)
 exf:∀ b∈X.ex,b≠X.env.locals/\∀ x c,X.env.cells.lookup x=some c->c≠b
 bs:∀ b o,X.base.get? b=some o->X.s₀.heap.get? b=some o/\X.H₀ b=none
 bsz:X.base.objs.size<=X.s₀.heap.objs.size
 noex:∀ b o,X.base.get? b=some o->b∉X.ex
 exfs:∀ b∈X.ex,b∉X.fs
 funs:X.s₀.heap.FunFrames X.base X.outer
 frf:∀ b∈X.fs,X.H₀ b=none
structure Inv(X:Cx)(zf:List (Addr×Obj))(σ:List (Option V))(H:Hp)(s:Shared):Prop where
 ok:X.Ok
 os:s.os=X.s₀.os
 bare:AllBare s.gens
 base:Un X.fs X.ex X.H₀ H X.s₀.heap s.heap
 loc:∃ m,s.heap.Ns X.env.locals m/\∀ (i:Nat) (x:Str) (v:V),X.N[i]? = some x->σ[i]? = some (some v)->Vis X.env.scope x->∃ u,RelV v u/\Look X.env s.heap m x u
 cell:∀ x c,X.env.cells.lookup x=some c->∃ v,s.heap.IsCell c v
 free:H X.env.locals=none
 freeC:∀ x c,X.env.cells.lookup x=some c->H c=none
 pin:∀ p∈X.pn++zf,s.heap.get? p.1=some p.2/\H p.1=none/\p.1≠X.env.locals/\p.1∉X.fs/\∀ v,p.2.data≠.cell v
 hok:HOk X.prog X.w H s.heap
 len:σ.length=X.N.length
section
variable {X:Cx} {zf:List (Addr×Obj)} {σ:List (Option V)} {H H':Hp} {s:Shared} {h':Heap}
theorem Cx.Ok.nofr(ok:X.Ok){b:Addr}{o:Obj}(e:X.base.get? b=some o):b∉X.fs:=fun hb=>by
 have:=(ok.funs.mem hb).1;rw [e] at this; cases this
theorem Inv.bs(I:Inv X zf σ H s):∀ b o,X.base.get? b=some o->s.heap.get? b=some o/\H b=none:=fun b o e =>
 ⟨I.base.keep b o (I.ok.bs b o e).1 (I.ok.bs b o e).2 (I.ok.nofr e) (I.ok.noex b o e),I.base.free b o (I.ok.bs b o e).1 (I.ok.bs b o e).2 (I.ok.noex b o e)⟩
theorem Inv.bk(I:Inv X zf σ H s):∀ b o,X.base.get? b=some o->s.heap.get? b=some o:=fun b o e=>(I.bs b o e).1
theorem Inv.mod(I:Inv X zf σ H s):Mod X.K X.mg X.base:=I.ok.mod
theorem Inv.kIn(I:Inv X zf σ H s):X.K.In s.heap:=I.ok.mod.kin.keeps I.bk
theorem Inv.lt(I:Inv X zf σ H s):X.env.locals<s.heap.objs.size:=let ⟨_,hn,_⟩:=I.loc; hn.lt
theorem Inv.sz(I:Inv X zf σ H s):X.s₀.heap.objs.size<=s.heap.objs.size:=Nat.le_trans I.ok.above (Nat.le_of_lt I.lt)
theorem Inv.nofs(I:Inv X zf σ H s){a:Addr}(h:s.heap.objs.size<=a):a∉X.fs:=fun hb=>by
 obtain⟨_,o,ho,_⟩:=I.ok.funs.mem hb;exact absurd (Nat.lt_of_lt_of_le (Heap.lt_size ho) (Nat.le_trans I.sz h)) (Nat.lt_irrefl _)
theorem Inv.cne(I:Inv X zf σ H s):∀ x c,X.env.cells.lookup x=some c->c≠X.env.locals:=fun x c e z=>by
 obtain⟨v,o,ho,hd⟩:=I.cell x c e;obtain⟨m,⟨o',es,ep,ho',hd',_⟩,_⟩:=I.loc;rw [z,ho'] at ho; cases ho; rw [hd'] at hd; cases hd
theorem Inv.funs(I:Inv X zf σ H s):s.heap.FunFrames X.base X.outer:=by
 have all:∀ (l:List Env),(∀ b∈frs l,b∈X.fs)->X.s₀.heap.FunFrames X.base l->s.heap.FunFrames X.base l:=by
  intro l;induction l with
  | nil=>intro _ _; trivial
  | cons env r ih =>
   intro hs hl;obtain⟨hk,⟨L,o,hf,hn,ho,hd⟩,hr⟩:=hl;have hL:L∈X.fs:=hs L (by unfold frs; rw [List.filterMap_cons,hf]; exact List.mem_cons_self);obtain⟨sl,e⟩:=I.base.slot L o ho (I.ok.frf L hL) hL fun z=>I.ok.exfs L z hL;exact⟨hk,⟨L,_,hf,hn,e,hd⟩,ih (fun b hb=>hs b (by unfold frs; rw [List.filterMap_cons,hf]; exact List.mem_cons_of_mem _ hb)) hr⟩
 exact all X.outer (fun _ hb=>hb) I.ok.funs
theorem Inv.stack(I:Inv X zf σ H s):s.heap.FunFrames X.base X.stack:=by
 rcases I.ok.stk with e | ⟨e,hf⟩
 ·rw [e]; exact I.funs
 ·rw [e];obtain⟨m,hn,_⟩:=I.loc;refine .cons (by rw [I.ok.kind]; decide) hf hn ?_ I.funs;exact Heap.get?_none_of_le (Nat.le_trans I.ok.bsz I.ok.above)
theorem Inv.stkSub(I:Inv X zf σ H s):∀ b∈frs X.stack,b∈X.env.locals :: X.fs:=fun b hb=>by
 rcases I.ok.stk with e | ⟨e,hf⟩
 ·rw [e] at hb; exact List.mem_cons_of_mem _ hb
 ·rw [e] at hb;unfold frs at hb;rw [List.filterMap_cons,hf] at hb;exact hb
theorem Inv.stkFree(I:Inv X zf σ H s):∀ b∈frs X.stack,H b=none:=fun b hb=>by
 rcases List.mem_cons.mp (I.stkSub b hb) with e | hb
 ·rw [e]; exact I.free
 ·obtain⟨_,o,ho,_⟩:=I.ok.funs.mem hb;exact I.base.free b o ho (I.ok.frf b hb) fun z=>I.ok.exfs b z hb
theorem Inv.step{g':Array GenState}{t':Nat}{d':Drawn}{ch:List Addr}(I:Inv X zf σ H s)
  (hch:∀ b∈ch,(b∈X.ex\/X.s₀.heap.objs.size<=b)/\b≠X.env.locals/\(∀ x c,X.env.cells.lookup x=some c->c≠b)/\∀ p∈X.pn++zf,p.1≠b)
  (keep:∀ b o,b≠X.env.locals->b∉X.fs->b∉ch->s.heap.get? b=some o->H b=none->h'.get? b=some o)
  (slot:∀ b o,b≠X.env.locals->b∈X.fs->b∉ch->s.heap.get? b=some o->H b=none->∃ sl,h'.get? b=some { o with slots:=sl }) (free:∀ b o,b∉ch->s.heap.get? b=some o->H b=none->H' b=none)
  (there:∀ b o,b∉ch->s.heap.get? b=some o->∃ o',h'.get? b=some o')
  (tups:∀ b xs,H b=some (.tup xs)->H' b=some (.tup xs)) (frzs:∀ b o u,H b=some (.frz o u)->H' b=some (.frz o u)) (tbls:∀ b ps,H b=some (.tbl ps)->∃ more,H' b=some (.tbl (ps++more)))
  (ns:∀ m,s.heap.Ns X.env.locals m->h'.Ns X.env.locals m) (hok:HOk X.prog X.w H' h') (hg:AllBare g') :
  Inv X zf σ H' { s with heap:=h',gens:=g',drawn:=d',toks:=t' }:=by
 have neL:∀ b o,X.s₀.heap.get? b=some o->b≠X.env.locals:=fun b o e=>Nat.ne_of_lt (Nat.lt_of_lt_of_le (Heap.lt_size e) I.ok.above);have neC:∀ b o,X.s₀.heap.get? b=some o->b∉X.ex->b∉ch:=fun b o e hx hb=>by
  rcases(hch b hb).1 with z | z
  ·exact hx z
  ·exact absurd (Nat.lt_of_lt_of_le (Heap.lt_size e) z) (Nat.lt_irrefl _)
 have cellK:∀ x c,X.env.cells.lookup x=some c->∀ v,s.heap.IsCell c v->h'.IsCell c v:=fun x c e v ⟨o,ho,hd⟩=>by
  have nch:c∉ch:=fun z=>(hch c z).2.2.1 x c e rfl;by_cases hc:c∈X.fs
  ·obtain⟨sl,q⟩:=slot c o (I.cne x c e) hc nch ho (I.freeC x c e);exact⟨_,q,hd⟩
  ·exact⟨o,keep c o (I.cne x c e) hc nch ho (I.freeC x c e),hd⟩
 refine⟨I.ok,I.os,hg,⟨fun b o e n hb hx=>?_,fun b o e n hb hx=>?_,fun b o e n hx=>?_,fun b o e hx=>?_,fun b xs e=>tups b xs (I.base.tups b xs e),fun b o xs e=>frzs b o xs (I.base.frzs b o xs e),fun b ps e=>?_⟩,?_,fun x c e=>?_,?_,fun x c e=>?_,fun p hp=>?_,hok,I.len⟩
 ·exact keep b o (neL b o e) hb (neC b o e hx) (I.base.keep b o e n hb hx) (I.base.free b o e n hx)
 ·obtain⟨sl,e1⟩:=I.base.slot b o e n hb hx;obtain⟨sl',e2⟩:=slot b _ (neL b o e) hb (neC b o e hx) e1 (I.base.free b o e n hx);exact⟨sl',e2⟩
 ·obtain⟨o',e1⟩:=I.base.there b o e hx;exact free b o' (neC b o e hx) e1 (I.base.free b o e n hx)
 ·obtain⟨o',e1⟩:=I.base.there b o e hx;exact there b o' (neC b o e hx) e1
 ·obtain⟨m1,e1⟩:=I.base.tbls b ps e;obtain⟨m2,e2⟩:=tbls b _ e1;exact⟨m1++m2,by rw [e2,Array.append_assoc]⟩
 ·obtain⟨m,hn,hl⟩:=I.loc;refine⟨m,ns m hn,fun i x v e1 e2 e3=>?_⟩;obtain⟨u,r,l⟩:=hl i x v e1 e2 e3;refine⟨u,r,?_⟩;rcases l with l | ⟨k,c,e,z⟩
  ·exact .inl l
  ·exact .inr ⟨k,c,e,cellK x c e _ z⟩
 ·obtain⟨v,z⟩:=I.cell x c e;exact⟨v,cellK x c e v z⟩
 ·obtain⟨m,⟨o,_,_,ho,_⟩,_⟩:=I.loc;exact free _ o (fun z=>(hch _ z).2.1 rfl) ho I.free
 ·obtain⟨v,o,ho,hd⟩:=I.cell x c e;exact free c o (fun z=>(hch c z).2.2.1 x c e rfl) ho (I.freeC x c e)
 ·obtain⟨e,n,ne,nf,d⟩:=I.pin p hp;have nch:p.1∉ch:=fun z=>(hch p.1 z).2.2.2 p hp rfl;exact⟨keep p.1 p.2 ne nf nch e n,free p.1 p.2 nch e n,ne,nf,d⟩
theorem Inv.un{t':Nat}(I:Inv X zf σ H s)(u:Un X.fs [] H H' s.heap h')(hok:HOk X.prog X.w H' h'):Inv X zf σ H' { s with heap:=h',toks:=t' }:=by
 obtain⟨m,⟨o,es,ep,ho,r⟩,_⟩:=id I.loc;obtain⟨sl,hL⟩:=u.any ho I.free (by simp);exact I.step (g':=s.gens) (d':=s.drawn) (ch:=[]) (fun _ z=>nomatch z) (fun b o _ hb _ e n=>u.keep b o e n hb (by simp)) (fun b o _ hb _ e n=>u.slot b o e n hb (by simp)) (fun b o _ e n=>u.free b o e n (by simp)) (fun b o _ e=>u.there b o e (by simp)) u.tups u.frzs u.tbls (fun m' hm=>by
  obtain⟨o',es',ep',ho',r'⟩:=hm;rw [ho] at ho'; cases ho';exact⟨_,es',ep',hL,r'⟩) hok I.bare
theorem Inv.call{g':Array GenState}{t':Nat}{d':Drawn}{ch:List Addr}(I:Inv X zf σ H s)(u:Un (frs X.stack) ch H H' s.heap h')(hok:HOk X.prog X.w H' h')(hg:AllBare g')
  (hch:∀ b∈ch,(b∈X.ex\/X.s₀.heap.objs.size<=b)/\b≠X.env.locals/\(∀ x c,X.env.cells.lookup x=some c->c≠b)/\∀ p∈X.pn++zf,p.1≠b) :
  Inv X zf σ H' { s with heap:=h',gens:=g',drawn:=d',toks:=t' }:=by
 obtain⟨m,⟨o,es,ep,ho,r⟩,_⟩:=id I.loc;obtain⟨sl,hL⟩:=u.any ho I.free fun z=>(hch _ z).2.1 rfl;exact I.step (ch:=ch) hch (fun b o hL hb hc e n=>u.keep b o e n (fun z=>(List.mem_cons.mp (I.stkSub b z)).elim hL hb) hc) (fun b o _ _ hc e n=>u.any e n hc) (fun b o hc e n=>u.free b o e n hc) (fun b o hc e=>u.there b o e hc) u.tups u.frzs u.tbls (fun m' hm=>by
  obtain⟨o',es',ep',ho',r'⟩:=hm;rw [ho] at ho'; cases ho';exact⟨_,es',ep',hL,r'⟩) hok hg
theorem Inv.turned{t':Nat}{it:Addr}(I:Inv X zf σ H s)(k:∀ b o,b≠it->s.heap.get? b=some o->h'.get? b=some o)(hn:H it=none)(hL:it≠X.env.locals)
  (h1:it∈X.ex\/X.s₀.heap.objs.size<=it) (h2:∀ x c,X.env.cells.lookup x=some c->c≠it) (h3:∀ p∈X.pn++zf,p.1≠it):Inv X zf σ H { s with heap:=h',toks:=t' }:=by
 have nit:∀ b u,H b=some u->b≠it:=fun b u e z=>by rw [z,hn] at e; cases e
 refine I.step (g':=s.gens) (d':=s.drawn) (ch:=[it]) (fun b hb=>?_) (fun b o _ _ hc e _=>k b o (fun z=>hc (by simp [z])) e) (fun b o _ _ hc e _=>⟨o.slots,k b o (fun z=>hc (by simp [z])) e⟩) (fun _ _ _ _ n=>n)
  (fun b o hc e=>⟨o,k b o (fun z=>hc (by simp [z])) e⟩) (fun _ _ e=>e) (fun _ _ _ e=>e) (fun b ps e=>⟨#[],by rw [e]; simp⟩) (fun m hm=>?_) (fun b u e=>?_) I.bare
 ·have e:b=it:=by simpa using hb
  subst e;exact⟨h1,hL,h2,h3⟩
 ·obtain⟨o,es,ep,ho,r⟩:=hm;exact⟨o,es,ep,k _ o (Ne.symm hL) ho,r⟩
 ·refine(I.hok b u e).stay (fun c v hc q=>k c v ?_ q) (fun _ q=>q) fun _ _ q=>q;rcases hc with z | z
  ·rw [z]; exact nit b u e
  ·exact nit c _ z
theorem Inv.tok(I:Inv X zf σ H s)(t:Nat):Inv X zf σ H { s with toks:=t }:=I.un (h':=s.heap) (t':=t) Un.refl I.hok
theorem Inv.kept{t':Nat}(I:Inv X zf σ H s)(k:∀ b u,s.heap.get? b=some u->h'.get? b=some u):Inv X zf σ H { s with heap:=h',toks:=t' }:=I.un (Un.kept k) (I.hok.kept k)
theorem Inv.laid{a:Addr}{o:HO}{t':Nat}(I:Inv X zf σ H s)(k:∀ b u,s.heap.get? b=some u->h'.get? b=some u)(hp:s.heap.objs.size<=a)(new:ObjOk X.prog X.w (upd H a o) h' a o):
  Inv X zf σ (upd H a o) { s with heap:=h',toks:=t' }:=I.un (Un.laid k hp (I.hok.fresh hp)) (I.hok.laid k hp new)
theorem Inv.write{x e:Addr}{o:HO}{t':Nat}(I:Inv X zf σ H s)(mu:Mut (H x))(he:e=x\/H e=some (.own x))(k:∀ b u,b≠e->s.heap.get? b=some u->h'.get? b=some u)(heo:∃ u,h'.get? e=some u)
  (new:ObjOk X.prog X.w (upd H x o) h' x o):Inv X zf σ (upd H x o) { s with heap:=h',toks:=t' }:=I.un (Un.write mu he k heo) (I.hok.write mu he k heo new)
theorem Inv.pins_of{pins':List (Addr×Obj)}(I:Inv X zf σ H s)(h:∀ p∈pins',s.heap.get? p.1=some p.2/\H p.1=none/\p.1≠X.env.locals/\p.1∉X.fs/\∀ v,p.2.data≠.cell v):Inv X pins' σ H s :=
 ⟨I.ok,I.os,I.bare,I.base,I.loc,I.cell,I.free,I.freeC,fun p hp=>(List.mem_append.mp hp).elim (fun z=>I.pin p (List.mem_append_left _ z)) (h p),I.hok,I.len⟩
theorem ziE{N:List Str}(hN:N.Nodup){i j:Nat}{x:Str}(a:N[i]? = some x)(b:N[j]? = some x):i=j:=by
 obtain⟨h1,e1⟩:=List.getElem?_eq_some_iff.mp a;obtain⟨h2,e2⟩:=List.getElem?_eq_some_iff.mp b;exact(List.getElem_inj hN).mp (e1.trans e2.symm)
theorem zmp{M:Model}{A:Around}{E:Value->Shared->Prop}{i:Nat}{x:Str}{v:V}{u:Value}{Q:Unit->Shared->Prop}(I:Inv X zf σ H s)(hN:X.N.Nodup)(hi:X.N[i]? = some x)(hx:Loc X.env.scope x)(r:RelV v u)
  (h:∀ s',Inv X zf (σ.set i (some v)) H s'->(∃ a,Heap.SameBut a s.heap s'.heap/\(a=X.env.locals\/X.env.cells.lookup x=some a))->Q () s') (hf:X.fn x=true\/X.env.scope.names.lookup x=some .local:=by first | exact .inl rfl | exact .inr rfl | assumption):wpAny M A (storeName X.env x u) Q E s:=by
 obtain⟨m,hn,hl⟩:=id I.loc;have hcls:(X.env.scope.kind == .class || (X.env.scope.kind == .module && X.env.locals != X.env.globals))=false:=by rw [I.ok.kind]; rfl
 have hiσ:i<σ.length:=by rw [I.len]; exact(List.getElem?_eq_some_iff.mp hi).1
 have cne:=I.cne;have tracked:∀ {a:Addr} {h':Heap},(∃ o,s.heap.get? a=some o/\H a=none)->Heap.SameBut a s.heap h'->HOk X.prog X.w H h':=fun {a h'} ha hs b ob e=>by
  obtain⟨_,_,hfree⟩:=ha;refine(I.hok b ob e).stay (fun c w' hc q=>(hs.2 c ?_).trans q) (fun _ q=>q) fun _ _ q=>q;rintro rfl;rcases hc with rfl | hc
  ·rw [hfree] at e; cases e
  ·rw [hfree] at hc; cases hc
 rcases hx with hk | hk
 ·refine wpAny_storeName_local hk hn (fun h' hn' hs=>?_) hcls;obtain⟨oL,_,_,hoL,_⟩:=id hn;refine h _ ⟨I.ok,I.os,I.bare,⟨fun b o e n hb hx=>?_,fun b o e n hb hx=>?_,I.base.free,fun b o e hx=>?_,I.base.tups,I.base.frzs,I.base.tbls⟩,⟨_,hn',fun j y v' e1 e2 e3=>?_⟩,fun y c e=>?_,I.free,I.freeC,fun p hp=>?_,tracked ⟨oL,hoL,I.free⟩ hs,by simpa using I.len⟩ ⟨_,hs,.inl rfl⟩
  ·exact(hs.2 b (Nat.ne_of_lt (Nat.lt_of_lt_of_le (Heap.lt_size e) I.ok.above))).trans (I.base.keep b o e n hb hx)
  ·obtain⟨sl,e1⟩:=I.base.slot b o e n hb hx;exact⟨sl,(hs.2 b (Nat.ne_of_lt (Nat.lt_of_lt_of_le (Heap.lt_size e) I.ok.above))).trans e1⟩
  ·obtain⟨o',e1⟩:=I.base.there b o e hx;exact⟨o',(hs.2 b (Nat.ne_of_lt (Nat.lt_of_lt_of_le (Heap.lt_size e) I.ok.above))).trans e1⟩
  ·by_cases hj:j=i
   ·subst hj;rw [hi] at e1; cases e1;rw [List.getElem?_set_self hiσ] at e2;cases e2;exact⟨u,r,.inl ⟨hk,by simp⟩⟩
   ·rw [List.getElem?_set_ne (Ne.symm hj)] at e2;obtain⟨u',r',q⟩:=hl j y v' e1 e2 e3;refine⟨u',r',?_⟩;rcases q with ⟨k,e⟩ | ⟨k,c,e,z⟩
    ·refine .inl ⟨k,?_⟩;have:y≠x:=fun e=>hj (ziE hN e1 (e▸hi));simp [this,e]
    ·exact .inr ⟨k,c,e,z.sameBut hs (cne y c e)⟩
  ·obtain⟨w',z⟩:=I.cell y c e;exact⟨w',z.sameBut hs (cne y c e)⟩
  ·obtain⟨e,n,ne,nf,d⟩:=I.pin p hp;exact⟨(hs.2 p.1 ne).trans e,n,ne,nf,d⟩
 ·have hfn:X.fn x=true:=by
   rcases hf with z | z
   ·exact z
   ·rw [z] at hk; cases hk
  obtain⟨c,hc⟩:=I.ok.has x (.inl hk);obtain⟨w',z⟩:=I.cell x c hc;refine wpAny_storeName_cell I.ok.kind hk hc z (fun h' hc' hs=>?_);obtain⟨oc,hoc,hocd⟩:=id z;refine h { s with heap:=h' } ⟨I.ok,I.os,I.bare,⟨fun b o e n hb hx=>?_,fun b o e n hb hx=>?_,I.base.free,fun b o e hx=>?_,I.base.tups,I.base.frzs,I.base.tbls⟩,⟨m,hn.sameBut hs (Ne.symm (cne x c hc)),fun j y v' e1 e2 e3=>?_⟩,fun y c' e=>?_,I.free,I.freeC,fun p hp=>?_,tracked ⟨oc,hoc,I.freeC x c hc⟩ hs,by simpa using I.len⟩ ⟨c,hs,.inr hc⟩
  ·exact(hs.2 b (Nat.ne_of_lt (Nat.lt_of_lt_of_le (Heap.lt_size e) (I.ok.cab x c hfn hc)))).trans (I.base.keep b o e n hb hx)
  ·obtain⟨sl,e1⟩:=I.base.slot b o e n hb hx;exact⟨sl,(hs.2 b (Nat.ne_of_lt (Nat.lt_of_lt_of_le (Heap.lt_size e) (I.ok.cab x c hfn hc)))).trans e1⟩
  ·obtain⟨o',e1⟩:=I.base.there b o e hx;exact⟨o',(hs.2 b (Nat.ne_of_lt (Nat.lt_of_lt_of_le (Heap.lt_size e) (I.ok.cab x c hfn hc)))).trans e1⟩
  ·by_cases hj:j=i
   ·subst hj;rw [hi] at e1; cases e1;rw [List.getElem?_set_self hiσ] at e2;cases e2;exact⟨u,r,.inr ⟨.inl hk,c,hc,hc'⟩⟩
   ·rw [List.getElem?_set_ne (Ne.symm hj)] at e2;obtain⟨u',r',q⟩:=hl j y v' e1 e2 e3;refine⟨u',r',?_⟩;rcases q with q | ⟨k,c',e,z'⟩
    ·exact .inl q
    ·refine .inr ⟨k,c',e,z'.sameBut hs ?_⟩;rintro rfl;exact hj (ziE hN e1 (I.ok.inj _ _ _ e hc▸hi))
  ·by_cases hcc:c'=c
   ·subst hcc; exact⟨_,hc'⟩
   ·obtain⟨w2,z2⟩:=I.cell y c' e;exact⟨w2,z2.sameBut hs hcc⟩
  ·obtain⟨e,n,ne,nf,d⟩:=I.pin p hp;refine⟨(hs.2 p.1 ?_).trans e,n,ne,nf,d⟩;intro q;rw [q,hoc] at e;have q':oc=p.2:=Option.some.inj e;exact d w' (by rw [<- q']; exact hocd)
theorem zgA{M:Model}{A:Around}{E:Value->Shared->Prop}{i:Nat}{x:Str}{v:V}{u:Value}{Q:Unit->Shared->Prop}(I:Inv X zf σ H s)(hN:X.N.Nodup)(hi:X.N[i]? = some x)(hx:Loc X.env.scope x)(r:RelV v u)
  (h:∀ s',Inv X zf (σ.set i (some v)) H s'->Q () s') (hf:X.fn x=true\/X.env.scope.names.lookup x=some .local:=by first | exact .inl rfl | exact .inr rfl | assumption):wpAny M A (storeName X.env x u) Q E s :=
 zmp I hN hi hx r (fun s' I' _=>h s' I') hf
theorem Inv.call'{s':Shared}{ch:List Addr}(I:Inv X zf σ H s)(ho:s'.os=s.os)(u:Un (frs X.stack) ch H H' s.heap s'.heap)(hok:HOk X.prog X.w H' s'.heap)(hg:AllBare s'.gens)
  (hch:∀ b∈ch,(b∈X.ex\/X.s₀.heap.objs.size<=b)/\b≠X.env.locals/\(∀ x c,X.env.cells.lookup x=some c->c≠b)/\∀ p∈X.pn++zf,p.1≠b):Inv X zf σ H' s':=by
 obtain⟨h',g',d',t',o'⟩:=s';have e:o'=s.os:=ho;subst e;exact I.call (g':=g') (t':=t') (d':=d') u hok hg hch
end
abbrev XK:=Value->Option Addr->Hp->Prop
abbrev St:=List (Option V)
abbrev VK:=V->Hp->Prop
abbrev TE:=St->Hp->VK->Prop
abbrev TT:=St->Hp->(Bool->Hp->Prop)->Prop
abbrev TA:=St->Hp->(List V->Hp->Prop)->Prop
structure Ends where
 nx:St->Hp->Prop
 rt:VK
 bk:St->Hp->Prop:=fun _ _=>False
 ct:St->Hp->Prop:=fun _ _=>False
abbrev TS:=Ends->St->Hp->Prop
def EP(X:Cx)(zf:List (Addr×Obj))(σ:St)(Q:VK)(u:Value)(s':Shared):Prop:=∃ v H',Inv X zf σ H' s'/\RelV v u/\Q v H'
def TP(X:Cx)(zf:List (Addr×Obj))(σ:St)(Q:Bool->Hp->Prop)(b:Bool)(s':Shared):Prop:=∃ H',Inv X zf σ H' s'/\Q b H'
def AP(X:Cx)(zf:List (Addr×Obj))(σ:St)(Q:List V->Hp->Prop)(us:List Value)(s':Shared):Prop:=∃ vs H',Inv X zf σ H' s'/\Vals vs us/\Q vs H'
def SP(X:Cx)(zf:List (Addr×Obj))(D:Ends)(f:Flow)(s':Shared):Prop :=
 match f with
 | .next=>∃ σ' H',Inv X zf σ' H' s'/\D.nx σ' H'
 | .brk=>∃ σ' H',Inv X zf σ' H' s'/\D.bk σ' H'
 | .cont=>∃ σ' H',Inv X zf σ' H' s'/\D.ct σ' H'
 | .ret u=>∃ v σ' H',Inv X zf σ' H' s'/\RelV v u/\D.rt v H'
def PE(X:Cx)(e:Expr)(t:TE):Prop :=
 ∀ (zf:List (Addr×Obj)) (s:Shared) (σ:St) (H:Hp) (Q:VK),Inv X zf σ H s->t σ H Q->wpAny (model X.prog X.w) X.A (eval e X.env) (EP X zf σ Q) X.xe s
def PT(X:Cx)(e:Expr)(t:TT):Prop :=
 ∀ (zf:List (Addr×Obj)) (s:Shared) (σ:St) (H:Hp) (Q:Bool->Hp->Prop),Inv X zf σ H s->t σ H Q->wpAny (model X.prog X.w) X.A (isTrue e X.env (eval e X.env)) (TP X zf σ Q) X.xe s
def PW(X:Cx)(e:Expr)(t:TT):Prop :=
 ∀ (whole:Sem Value) (zf:List (Addr×Obj)) (s:Shared) (σ:St) (H:Hp) (Q:Bool->Hp->Prop),Inv X zf σ H s->t σ H Q->wpAny (model X.prog X.w) X.A (isTrue e X.env whole) (TP X zf σ Q) X.xe s
theorem PW.pt{X:Cx}{e:Expr}{t:TT}(h:PW X e t):PT X e t:=h _
def PA(X:Cx)(es:List Expr)(t:TA):Prop :=
 ∀ (pos:Pos) (zf:List (Addr×Obj)) (s:Shared) (σ:St) (H:Hp) (Q:List V->Hp->Prop),Inv X zf σ H s->t σ H Q->wpAny (model X.prog X.w) X.A (spliced (backTo pos (starEach es X.env))) (AP X zf σ Q) X.xe s
def PS(X:Cx)(st:Stmt)(t:TS):Prop :=
 ∀ (zf:List (Addr×Obj)) (s:Shared) (σ:St) (H:Hp) (D:Ends),Inv X zf σ H s->t D σ H->wpAny (model X.prog X.w) X.A (exec st X.env) (SP X zf D) X.xe s
def PSs(X:Cx)(st:List Stmt)(t:TS):Prop :=
 ∀ (zf:List (Addr×Obj)) (s:Shared) (σ:St) (H:Hp) (D:Ends),Inv X zf σ H s->t D σ H->wpAny (model X.prog X.w) X.A (execs st X.env) (SP X zf D) X.xe s
theorem thn{α:Type}{t:Sem α}{Q Q':α->Shared->Prop}{M:Model}{A:Around}{E:Value->Shared->Prop}{s:Shared}(h:wpAny M A t Q E s)(hQ:∀ a s,Q a s->Q' a s):wpAny M A t Q' E s:=wpAny_mono h hQ fun _ _ x=>x
end
section
section
variable {X:Cx}
def zjx(i:Nat):TE:=fun σ H Q=>∃ v,σ[i]? = some (some v)/\Q v H
def tC(v:V):TE:=fun _ H Q=>Q v H
theorem zre{i:Nat}{x:Str}{pos:Pos}(hN:X.N[i]? = some x)(hv:Vis X.env.scope x)(hd:(x == ("__debug__":Str))=false:=by decide)(hcd:(x == ("__classdict__":Str))=false:=by decide):PE X (.Name x pos) (zjx i):=by
 intro zf s σ H Q I h;obtain⟨v,e,h⟩:=h;obtain⟨m,hn,hl⟩:=I.loc;obtain⟨u,r,l⟩:=hl i x v hN e hv;have fin:EP X zf σ Q u s:=⟨v,H,I,r,h⟩;rcases l with ⟨hk,hm⟩ | ⟨hk,c,hc,hcell⟩
 ·exact wpAny_Name (wpAny_loadName_local I.ok.kind hk hn hm fin) hd
 ·rcases hk with hk | hk
  ·exact wpAny_Name (wpAny_loadName_cell I.ok.kind hk hc hcell fin) hd
  ·exact wpAny_Name (wpAny_loadName_free I.ok.kind hk hc hcell fin hcd) hd
theorem zl{i j pos}:PE X (.Constant (.int i) j pos) (tC (.int i)):=fun _ _ _ H _ I h=>wpAny_Constant_int ⟨.int i,H,I.tok _,⟨_,rfl⟩,h⟩
theorem zbU{b j pos}:PE X (.Constant (.bool b) j pos) (tC (.bl b)):=fun _ _ _ H _ I h=>Constant_bool ⟨.bl b,H,I,rfl,h⟩
theorem zjz{j pos}:PE X (.Constant .none j pos) (tC .non):=fun _ _ _ H _ I h=>Constant_none ⟨.non,H,I,rfl,h⟩
theorem zcB{x j pos}:PE X (.Constant (.str x) j pos) (tC (.str x)):=fun _ _ _ H _ I h=>Calls.Constant_str ⟨.str x,H,I.tok _,⟨_,rfl⟩,h⟩
def Gl(X:Cx)(x:Str):Prop:=X.env.kindOf x=some .globalImplicit
theorem zeW{E:Value->Shared->Prop}{zf:List (Addr×Obj)}{s:Shared}{σ:St}{H:Hp}{x:Str}{u:Value}{pos:Pos}{Q:Value->Shared->Prop}(I:Inv X zf σ H s)(hg:Gl X x)(hm:X.mg x=some u)(h:Q u s)
  (hd:(x == ("__debug__":Str))=false:=by decide):wpAny (model X.prog X.w) X.A (eval (.Name x pos) X.env) Q E s :=
 Calls.Name_function_global I.ok.kind hg (Calls.loadGlobal_global (by rw [I.ok.glob]; exact I.mod.glob.keeps I.bk) hm h) hd
theorem zcC{E:Value->Shared->Prop}{zf:List (Addr×Obj)}{s:Shared}{σ:St}{H:Hp}{x:Str}{u:Value}{pos:Pos}{Q:Value->Shared->Prop}(I:Inv X zf σ H s)(hg:Gl X x)(hm:X.mg x=none)(hv:bootBuiltins x=some u)(h:Q u s)
  (hn:x ≠ "__name__":=by decide) (hd:(x == ("__debug__":Str))=false:=by decide):wpAny (model X.prog X.w) X.A (eval (.Name x pos) X.env) Q E s:=by
 obtain⟨mb,h1,h2⟩:=I.mod.blt;exact Calls.Name_function_global I.ok.kind hg (Calls.loadGlobal_builtin (by rw [I.ok.glob]; exact I.mod.glob.keeps I.bk) hm (by rw [I.ok.blt]; exact h1.keeps I.bk) ((h2 x hn).trans hv) h) hd
theorem zbQ{x:Str}{v:V}{u:Value}{pos:Pos}(hg:Gl X x)(hm:X.mg x=some u)(r:RelV v u)(hd:(x == ("__debug__":Str))=false:=by decide):PE X (.Name x pos) (tC v) :=
 fun _ _ _ H _ I h=>zeW I hg hm ⟨v,H,I,r,h⟩ hd
theorem zbO{x:Str}{v:V}{u:Value}{pos:Pos}(hg:Gl X x)(hm:X.mg x=none)(hv:bootBuiltins x=some u)(r:RelV v u)(hn:x ≠ "__name__":=by decide)(hd:(x == ("__debug__":Str))=false:=by decide):PE X (.Name x pos) (tC v) :=
 fun _ _ _ H _ I h=>zcC I hg hm hv ⟨v,H,I,r,h⟩ hn hd
variable {a b:Expr} {ta tb:TE} {pos:Pos}
def tB(t:TE):TT:=fun σ H Q=>t σ H fun x H1=>∃ c,x=.bl c/\Q c H1
variable {tA tB':TT} {rest:List Expr}
def zr8(t u:TT):TT:=fun σ H Q=>t σ H fun c H1=>if c=true then u σ H1 Q else Q false H1
def tOr(t u:TT):TT:=fun σ H Q=>t σ H fun c H1=>if c=true then Q true H1 else u σ H1 Q
def zr7(t:TT):TT:=fun σ H Q=>t σ H fun c H1=>Q (!c) H1
theorem ziq(ha:PT X a tA):PW X (.BoolOp .And [a] pos) tA:=by
 intro wh zf s σ H Q I h;refine isTrue_and (thn (ha zf s σ H Q I h) fun c s1 e=>?_);cases c with
 | true=>exact isTrue_and_nil e
 | false=>exact e
theorem zdg(ha:PT X a tA):PW X (.BoolOp .Or [a] pos) tA:=by
 intro wh zf s σ H Q I h;refine isTrue_or (thn (ha zf s σ H Q I h) fun c s1 e=>?_);cases c with
 | false=>exact isTrue_or_nil e
 | true=>exact e
theorem zjn(ha:PT X a tA)(hb:PW X (.BoolOp .And (b :: rest) pos) tB'):PW X (.BoolOp .And (a :: b :: rest) pos) (zr8 tA tB'):=by
 intro wh zf s σ H Q I h;refine isTrue_and (thn (ha zf s σ H _ I h) fun c s1 ⟨H1,I1,q1⟩=>?_);cases c with
 | true=>exact hb wh zf s1 σ H1 Q I1 q1
 | false=>exact⟨H1,I1,q1⟩
theorem zez(ha:PT X a tA)(hb:PW X (.BoolOp .Or (b :: rest) pos) tB'):PW X (.BoolOp .Or (a :: b :: rest) pos) (tOr tA tB'):=by
 intro wh zf s σ H Q I h;refine isTrue_or (thn (ha zf s σ H _ I h) fun c s1 ⟨H1,I1,q1⟩=>?_);cases c with
 | true=>exact⟨H1,I1,q1⟩
 | false=>exact hb wh zf s1 σ H1 Q I1 q1
theorem zaZ(ha:PT X a tA):PT X (.UnaryOp .Not a pos) (zr7 tA):=by
 intro zf s σ H Q I h;exact isTrue_not (ha zf s σ H (fun c H1=>Q (!c) H1) I h)
def zp0(ta tb:TE):TE:=fun σ H Q=>ta σ H fun x H1=>∃ c,x=.bl c/\if c=true then tb σ H1 Q else Q (.bl false) H1
def zp2(ta:TE):TE:=fun σ H Q=>ta σ H fun x H1=>∃ c,x=.bl c/\Q (.bl (!c)) H1
theorem zjy{op}{t:TE}(h:PE X a t):PE X (.BoolOp op [a] pos) t:=fun zf s σ H Q I hw=>BoolOp_one (h zf s σ H Q I hw)
theorem zg9(ha:PE X a ta)(hb:PE X (.BoolOp .And (b :: rest) pos) tb):PE X (.BoolOp .And (a :: b :: rest) pos) (zp0 ta tb):=by
 intro zf s σ H Q I h;refine BoolOp_and (thn (ha zf s σ H _ I h) fun v s1 ⟨x,H1,I1,r1,q1⟩=>?_);obtain⟨c,rfl,q1⟩:=q1;cases r1;refine wpAny_truthy_bool ?_;cases c with
 | true=>exact hb zf s1 σ H1 Q I1 q1
 | false=>exact⟨.bl false,H1,I1,rfl,q1⟩
theorem zlV(ha:PE X a ta):PE X (.UnaryOp .Not a pos) (zp2 ta):=by
 intro zf s σ H Q I h;refine UnaryOp_ (thn (ha zf s σ H _ I h) fun v s1 ⟨x,H1,I1,r1,q1⟩=>?_);obtain⟨c,rfl,q1⟩:=q1;cases r1;exact not_of (wpAny_truthy_bool ⟨.bl (!c),H1,I1,rfl,q1⟩)
def tIf(t:TT)(ta tb:TE):TE:=fun σ H Q=>t σ H fun c H1=>if c=true then ta σ H1 Q else tb σ H1 Q
theorem znD{c:Expr}(hc:PT X c tA)(ha:PE X a ta)(hb:PE X b tb):PE X (.IfExp c a b pos) (tIf tA ta tb):=by
 intro zf s σ H Q I h;refine wpAny_IfExp (thn (hc zf s σ H _ I h) fun d s1 ⟨H1,I1,q1⟩=>?_);cases d with
 | true=>exact ha zf s1 σ H1 Q I1 q1
 | false=>exact hb zf s1 σ H1 Q I1 q1
end
end
section
def SqL(K:W.Frag)(H:Hp)(a:Addr)(xs:List V):Prop :=
 Rd H a (.lst xs) \/
  ∃ (o:Obj) (its:Array Value) (n:Nat),K.lookup a=some o/\o.cls=.type "list"/\o.dict=none/\o.data=.seq its n/\its.size<=sizeLine/\Vals xs its.toList
def SqT(K:W.Frag)(H:Hp)(a:Addr)(xs:List V):Prop :=
 Rd H a (.tup xs) \/
  ∃ (o:Obj) (its:Array Value) (n:Nat),K.lookup a=some o/\o.cls=.type "tuple"/\o.data=.seq its n/\its.size<=sizeLine/\Vals xs its.toList
def zsC:Value->Option V
 | .none=>some .non
 | .bool b=>some (.bl b)
 | .int i _=>some (.int i)
 | .str x _=>some (.str x)
 | .bytes b _=>some (.byt b)
 | .float b _=>some (.flt b)
 | .ref a=>some (.ref a)
 | .type n=>some (.ty n)
 | _=>none
theorem RelV.abs{x:V}{u:Value}(r:RelV x u):zsC u=some x:=by
 cases x with
 | non=>cases r; rfl
 | bl _=>cases r; rfl
 | int _=>obtain⟨t,rfl⟩:=r; rfl
 | str _=>obtain⟨t,rfl⟩:=r; rfl
 | byt _=>obtain⟨t,rfl⟩:=r; rfl
 | flt _=>obtain⟨t,rfl⟩:=r; rfl
 | ref _=>cases r; rfl
 | ty _=>cases r; rfl
theorem RelV.inj{x y:V}{u:Value}(r:RelV x u)(q:RelV y u):x=y:=Option.some.inj (r.abs.symm.trans q.abs)
theorem Vals.inj:∀ {xs ys:List V} {us:List Value},Vals xs us->Vals ys us->xs=ys
 | _,_,_,.nil,.nil=>rfl
 | _,_,_,.cons r t,.cons r' t'=>by rw [r.inj r',Vals.inj t t']
section
variable {X:Cx} {zf:List (Addr×Obj)} {σ:St} {H:Hp} {s:Shared} {a:Addr} {xs ys:List V}
theorem SqL.of{K:W.Frag}(h:H a=some (.lst xs)):SqL K H a xs:=.inl (.inl h)
theorem SqT.of{K:W.Frag}(h:H a=some (.tup xs)):SqT K H a xs:=.inl (.inl h)
theorem Inv.list(I:Inv X zf σ H s)(h:SqL X.K H a xs):∃ its:List Value,Vals xs its/\PlainL s.heap a its.toArray/\xs.length<=sizeLine:=by
 rcases h with h | ⟨o,its,n,hk,hc,hd,hs,hz,r⟩
 ·obtain⟨z,its,n,r,e⟩:=h.ok I.hok;exact⟨its,r,⟨_,n,e,rfl,rfl,rfl⟩,z⟩
 ·refine⟨its.toList,r,⟨o,n,I.kIn a o hk,hc,hd,by simpa using hs⟩,?_⟩;have e:=r.length;simp only [Array.length_toList] at e;omega
theorem Inv.tuple(I:Inv X zf σ H s)(h:SqT X.K H a xs):∃ its:List Value,Vals xs its/\IsTup s.heap a its.toArray/\xs.length<=sizeLine:=by
 rcases h with h | ⟨o,its,n,hk,hc,hs,hz,r⟩
 ·obtain⟨z,its,r,p⟩:=h.ok I.hok;exact⟨its,r,p,z.1⟩
 ·refine⟨its.toList,r,⟨o,I.kIn a o hk,hc,n,by simpa using hs⟩,?_⟩;have e:=r.length;simp only [Array.length_toList] at e;omega
theorem Inv.list_inj(I:Inv X zf σ H s)(h:SqL X.K H a xs)(h':SqL X.K H a ys):xs=ys:=by
 obtain⟨its,r,⟨o,n,e,_,_,d⟩,_⟩:=I.list h;obtain⟨its',r',⟨o',n',e',_,_,d'⟩,_⟩:=I.list h';rw [e] at e'; cases e';rw [d] at d';injection d' with d1 _
 have:its=its':=by simpa using congrArg Array.toList d1
 subst this;exact r.inj r'
theorem Inv.tuple_inj(I:Inv X zf σ H s)(h:SqT X.K H a xs)(h':SqT X.K H a ys):xs=ys:=by
 obtain⟨its,r,⟨o,e,_,n,d⟩,_⟩:=I.tuple h;obtain⟨its',r',⟨o',e',_,n',d'⟩,_⟩:=I.tuple h';rw [e] at e'; cases e';rw [d] at d';injection d' with d1 _
 have:its=its':=by simpa using congrArg Array.toList d1
 subst this;exact r.inj r'
end
abbrev Cx.wish (X:Cx) (E:Value->Shared->Prop):Cx:={ X with xe:=E }
abbrev Cx.nox (X:Cx):Cx:=X.wish fun _ _=>False
theorem Cx.Ok.wish{X:Cx}(ok:X.Ok)(E:Value->Shared->Prop):(X.wish E).Ok :=
 ⟨ok.mod,ok.kind,ok.glob,ok.blt,ok.above,ok.inj,ok.has,ok.cab,ok.hd,ok.frames,ok.stk,ok.exf,ok.bs,ok.bsz,ok.noex,ok.exfs,ok.funs,ok.frf⟩
theorem Cx.Ok.unwish{X:Cx}{E:Value->Shared->Prop}(ok:(X.wish E).Ok):X.Ok :=
 ⟨ok.mod,ok.kind,ok.glob,ok.blt,ok.above,ok.inj,ok.has,ok.cab,ok.hd,ok.frames,ok.stk,ok.exf,ok.bs,ok.bsz,ok.noex,ok.exfs,ok.funs,ok.frf⟩
section
variable {X:Cx} {zf:List (Addr×Obj)} {σ:St} {H:Hp} {s:Shared} {E:Value->Shared->Prop}
theorem Inv.wish(I:Inv X zf σ H s)(E:Value->Shared->Prop):Inv (X.wish E) zf σ H s:=⟨I.ok.wish E,I.os,I.bare,I.base,I.loc,I.cell,I.free,I.freeC,I.pin,I.hok,I.len⟩
theorem Inv.unwish(I:Inv (X.wish E) zf σ H s):Inv X zf σ H s:=⟨I.ok.unwish,I.os,I.bare,I.base,I.loc,I.cell,I.free,I.freeC,I.pin,I.hok,I.len⟩
theorem SP.unwish{D:Ends}{f:Flow}{s':Shared}(h:SP (X.wish E) zf D f s'):SP X zf D f s':=by
 cases f with
 | next=>obtain⟨σ',H',I,q⟩:=h; exact⟨σ',H',I.unwish,q⟩
 | brk=>obtain⟨σ',H',I,q⟩:=h; exact⟨σ',H',I.unwish,q⟩
 | cont=>obtain⟨σ',H',I,q⟩:=h; exact⟨σ',H',I.unwish,q⟩
 | ret u=>obtain⟨v,σ',H',I,r,q⟩:=h; exact⟨v,σ',H',I.unwish,r,q⟩
theorem PE.nox{e:Expr}{t:TE}(h:PE X.nox e t):PE X e t:=fun zf s σ H Q I hw =>
 wpAny_mono (h zf s σ H Q (I.wish _) hw) (fun _ _ ⟨v,H',I',r,q⟩=>⟨v,H',I'.unwish,r,q⟩) fun _ _ z=>False.elim z
theorem PT.nox{e:Expr}{t:TT}(h:PT X.nox e t):PT X e t:=fun zf s σ H Q I hw =>
 wpAny_mono (h zf s σ H Q (I.wish _) hw) (fun _ _ ⟨H',I',q⟩=>⟨H',I'.unwish,q⟩) fun _ _ z=>False.elim z
theorem PSs.nox{st:List Stmt}{t:TS}(h:PSs X.nox st t):PSs X st t:=fun zf s σ H D I hw =>
 wpAny_mono (h zf s σ H D (I.wish _) hw) (fun _ _ q=>q.unwish) fun _ _ z=>False.elim z
end
section
variable {X:Cx} {st:Stmt} {rest:List Stmt} {t u:TS} {e:Expr} {te:TE} {pos:Pos}
def zpp:TS:=fun D σ H=>D.nx σ H
def ziz(t u:TS):TS:=fun D σ H=>t { D with nx:=u D } σ H
theorem zac:PSs X [] zpp:=fun _ _ σ H _ I h=>wpAny_execs_nil ⟨σ,H,I,h⟩
theorem zi(h1:PS X st t)(h2:PSs X rest u):PSs X (st :: rest) (ziz t u):=by
 intro zf s σ H D I h;refine wpAny_execs_cons (thn (h1 zf s σ H { D with nx:=u D } I h) fun f s1 q=>?_);cases f with
 | next =>
  obtain⟨σ',H',I',q⟩:=q;exact h2 zf s1 σ' H' D I' q
 | ret v=>exact q
 | brk=>exact q
 | cont=>exact q
theorem zo(h1:PS X st t):PSs X [st] t:=by
 intro zf s σ H D I h;refine wpAny_execs_cons (thn (h1 zf s σ H D I h) fun f s1 q=>?_);cases f with
 | next=>exact wpAny_execs_nil q
 | ret v=>exact q
 | brk=>exact q
 | cont=>exact q
theorem Inv.quiet{zf:List (Addr×Obj)}{σ:St}{H:Hp}{s:Shared}(I:Inv X zf σ H s):interactive X.env=false:=by simp [interactive,I.ok.kind]
def znG(te:TE):TS:=fun D σ H=>te σ H fun _ H1=>D.nx σ H1
theorem zio(he:PE X e te)(hs:swapsWith e none pos.line X.env=pure false:=by rfl):PS X (.Expr e pos) (znG te):=by
 intro zf s σ H D I h;exact wpAny_Expr_any (thn (he zf s σ H _ I h) fun v s1 ⟨x,H1,I1,r1,q1⟩=>⟨σ,H1,I1,q1⟩) I.quiet hs
def zrW(te:TE):TS:=fun D σ H=>te σ H D.rt
theorem zF(he:PE X e te):PS X (.Return (some e) pos) (zrW te):=by
 intro zf s σ H D I h;exact wpAny_Return_some (thn (he zf s σ H _ I h) fun v s1 ⟨x,H1,I1,r1,q1⟩=>⟨x,σ,H1,I1,r1,q1⟩)
def znZ(c:TT)(t u:TS):TS:=fun D σ H=>c σ H fun b H1=>if b=true then t D σ H1 else u D σ H1
theorem zbo{c:Expr}{a b:List Stmt}{tc:TT}(hc:PT X c tc)(ha:PSs X a t)(hb:PSs X b u):PS X (.If c a b pos) (znZ tc t u):=by
 intro zf s σ H D I h;refine wpAny_If (thn (hc zf s σ H _ I h) fun d s1 ⟨H1,I1,q1⟩=>?_);cases d with
 | true=>exact ha zf s1 σ H1 D I1 q1
 | false=>exact hb zf s1 σ H1 D I1 q1
def zod:TS:=fun _ _ _=>False
theorem zmJ:PS X st zod:=fun _ _ _ _ _ _ h=>h.elim
end
abbrev TG:=V->St->Hp->(St->Hp->Prop)->Prop
abbrev TGs:=List V->St->Hp->(St->Hp->Prop)->Prop
def PG(X:Cx)(target:Expr)(t:TG):Prop :=
 ∀ (zf:List (Addr×Obj)) (s:Shared) (σ:St) (H:Hp) (v:V) (u:Value) (Q:St->Hp->Prop),Inv X zf σ H s->RelV v u->t v σ H Q ->
  wpAny (model X.prog X.w) X.A (assign target X.env u) (fun _ s'=>∃ σ' H',Inv X zf σ' H' s'/\Q σ' H') X.xe s
def PGs(X:Cx)(ts:List Expr)(t:TGs):Prop :=
 ∀ (zf:List (Addr×Obj)) (s:Shared) (σ:St) (H:Hp) (vs:List V) (us:List Value) (Q:St->Hp->Prop),Inv X zf σ H s->Vals vs us->t vs σ H Q ->
  wpAny (model X.prog X.w) X.A (assignInOrder ((assignEach ts X.env).map (·.2)) us) (fun _ s'=>∃ σ' H',Inv X zf σ' H' s'/\Q σ' H') X.xe s
abbrev TSet:=V->V->V->Hp->(Hp->Prop)->Prop
def PSet(X:Cx)(t:TSet):Prop :=
 ∀ (zf:List (Addr×Obj)) (s:Shared) (σ:St) (H:Hp) (o i v:V) (ov iv u:Value) (Q:Hp->Prop),Inv X zf σ H s->RelV o ov->RelV i iv->RelV v u->t o i v H Q ->
  wpAny (model X.prog X.w) X.A (setItem ov iv u) (fun _ s'=>∃ H',Inv X zf σ H' s'/\Q H') X.xe s
section
variable {X:Cx} {pos:Pos}
def zjZ(i:Nat):TG:=fun v σ H Q=>Q (σ.set i (some v)) H
theorem zau{i:Nat}{x:Str}(hN:X.N.Nodup)(hi:X.N[i]? = some x)(hx:Loc X.env.scope x)(hf:X.fn x=true\/X.env.scope.names.lookup x=some .local:=by first | exact .inl rfl | exact .inr rfl | assumption):PG X (.Name x pos) (zjZ i):=by
 intro zf s σ H v u Q I r h;exact wpAny_assign_Name (zgA I hN hi hx r (fun s' I'=>⟨_,H,I',h⟩) hf)
def zr0:TGs:=fun vs σ H Q=>vs=[]/\Q σ H
def zp4(t:TG)(u:TGs):TGs:=fun vs σ H Q=>∃ v r,vs=v :: r/\t v σ H fun σ' H'=>u r σ' H' Q
theorem zga:PGs X [] zr0:=by
 intro zf s σ H vs us Q I r h;obtain⟨e,h⟩:=h;subst e;cases r;exact assignInOrder_nil ⟨σ,H,I,h⟩
theorem zbV{e:Expr}{es:List Expr}{t:TG}{u:TGs}(h1:PG X e t)(h2:PGs X es u)
  (hs:(assignEach (e :: es) X.env).map (·.2)=assign e X.env :: (assignEach es X.env).map (·.2):=by rfl):PGs X (e :: es) (zp4 t u):=by
 intro zf s σ H vs us Q I r h;obtain⟨v,vr,e1,h⟩:=h;subst e1;cases r with
 | cons r rr =>
  rw [hs];refine assignInOrder_cons (thn (h1 zf s σ H _ _ _ I r h) fun _ s1 ⟨σ1,H1,I1,q1⟩=>?_);exact h2 zf s1 σ1 H1 _ _ Q I1 rr q1
def zr2(K:W.Frag)(n:Nat)(t:TGs):TG:=fun v σ H Q=>∃ a xs,v=.ref a/\SqT K H a xs/\xs.length=n/\t xs σ H Q
theorem ziI{es:List Expr}{k:Nat}{t:TGs}{n:Nat}(hc:X.calm=true)(h:PGs X es t)
  (hn:(assignEach es X.env).length=n:=by rfl) (hst:(assignEach es X.env).findIdx? (·.1)=none:=by rfl):PG X (.Tuple es k pos) (zr2 X.K n t):=by
 intro zf s σ H v u Q I r hw;obtain⟨a,xs,e1,hq,hl,hw⟩:=hw;subst e1;cases r;obtain⟨its,rv,ht,hz⟩:=I.tuple hq;refine assign_Tuple_tuple (I.ok.hd hc) ht (by simp [hn,<- hl,rv.length]) hst fun h' hx=>?_;have I1:Inv X zf σ H { s with heap:=h' }:=I.kept (t':=s.toks) fun b o e=>hx b o (Nat.ne_of_lt (Heap.lt_size e)) e;exact h zf _ σ H xs _ Q I1 (by simpa using rv) hw
def zsn(to ti:TE)(t:TSet):TG:=fun v σ H Q=>to σ H fun o H1=>ti σ H1 fun i H2=>t o i v H2 fun H3=>Q σ H3
theorem zn8{o i:Expr}{to ti:TE}{t:TSet}(ho:PE X o to)(hi:PE X i ti)(hs:PSet X t)
  (ha:∀ v,assign (.Subscript o i pos) X.env v=(do
   let ov <- holding [v] (eval o X.env)
   let iv <- holding [v,ov] (eval i X.env)
   standAt pos
   holding [v,ov,iv] (setItem ov iv v)
   release [v,ov,iv] []):=by intro _; rfl):PG X (.Subscript o i pos) (zsn to ti t):=by
 intro zf s σ H v u Q I r h;rw [ha];refine wpAny_bind (wpAny_holding (thn (ho zf s σ H _ I h) fun ov s1 ⟨x,H1,I1,r1,q1⟩=>?_));refine wpAny_bind (wpAny_holding (thn (hi zf s1 σ H1 _ I1 q1) fun iv s2 ⟨y,H2,I2,r2,q2⟩=>?_));refine wpAny_bind (wpAny_standAt (wpAny_bind (wpAny_holding (thn (hs zf s2 σ H2 x y v ov iv u _ I2 r1 r2 r q2) fun _ s3 ⟨H3,I3,q3⟩=>?_))));exact wpAny_release ⟨σ,H3,I3,q3⟩
def zp5(te:TE)(g:TG):TS:=fun D σ H=>te σ H fun x H1=>g x σ H1 D.nx
theorem zlO{tg e:Expr}{te:TE}{g:TG}(he:PE X e te)(hg:PG X tg g)(hs:swapsWithSole [tg] e pos.line X.env=pure false:=by rfl)(hw:swappedStores [tg] e X.env=pure none:=by rfl)
  (h1:(assignEach [tg] X.env).map (·.2)=[assign tg X.env]:=by rfl):PS X (.Assign [tg] e pos) (zp5 te g):=by
 intro zf s σ H D I h;refine wpAny_Assign_stores (thn (he zf s σ H _ I h) fun v s1 ⟨x,H1,I1,r1,q1⟩=>?_) hs hw;rw [h1];exact thn (hg zf s1 σ H1 x v _ I1 r1 q1) fun _ s2 q=>q
theorem zU{i:Nat}{x:Str}{e:Expr}{te:TE}{pos':Pos}(hN:X.N.Nodup)(hi:X.N[i]? = some x)(hx:Loc X.env.scope x)(he:PE X e te)(hs:swapsWith e (some (.Name x pos')) pos.line X.env=pure false:=by rfl)(hf:X.fn x=true\/X.env.scope.names.lookup x=some .local:=by first | exact .inl rfl | exact .inr rfl | assumption):
  PS X (.Assign [.Name x pos'] e pos) (zp5 te (zjZ i)):=by
 intro zf s σ H D I h;refine wpAny_Assign_Name (thn (he zf s σ H _ I h) fun v s1 ⟨y,H1,I1,r1,q1⟩=>?_) hs;exact zgA I1 hN hi hx r1 (fun s2 I2=>⟨_,H1,I2,q1⟩) hf
end
section
variable {X:Cx} {pos:Pos}
def zn4(c:TT)(tb:TS):TS:=fun D σ H=>∃ W:Nat->St->Hp->Prop,(∃ m,W m σ H)/\∀ m σ H,W m σ H ->
 c σ H fun b H1=>if b=true then ∃ N:St->Hp->Prop,(∀ σ' H',N σ' H'->∃ m',m'<m/\W m' σ' H')/\tb { D with nx:=N,ct:=N,bk:=D.nx } σ H1 else D.nx σ H1
theorem ziZ{c:Expr}{body:List Stmt}{tc:TT}{tb:TS}(hp:PassesOwn (model X.prog X.w) X.A X.env X.xe)(hc:PT X c tc)(hb:PSs X body tb):PS X (.While c body [] pos) (zn4 tc tb):=by
 intro zf s σ H D I h;obtain⟨W,⟨m0,w0⟩,turn⟩:=h;refine wpAny_While (codeAny_whileLoop (fun n s'=>∃ σ' H',Inv X zf σ' H' s'/\W n σ' H') ?_ m0 ⟨σ,H,I,w0⟩);rintro n s1 ⟨σ1,H1,I1,w1⟩;refine wpAny_passesOwn hp (thn (hc zf s1 σ1 H1 _ I1 (turn n σ1 H1 w1)) fun b s2 ⟨H2,I2,q2⟩=>?_);cases b with
 | true =>
  obtain⟨N,hN,q2⟩:=q2;rw [if_pos rfl];refine wpAny_passesOwn hp (thn (hb zf s2 σ1 H2 _ I2 q2) fun f s3 q3=>?_);cases f with
  | next =>
   obtain⟨σ3,H3,I3,n3⟩:=q3;obtain⟨m',hm,w3⟩:=hN σ3 H3 n3;exact⟨m',hm,σ3,H3,I3,w3⟩
  | cont =>
   obtain⟨σ3,H3,I3,n3⟩:=q3;obtain⟨m',hm,w3⟩:=hN σ3 H3 n3;exact⟨m',hm,σ3,H3,I3,w3⟩
  | brk=>exact q3
  | ret v=>exact q3
 | false =>
  rw [if_neg Bool.false_ne_true];exact wpAny_execs_nil ⟨σ1,H2,I2,q2⟩
end
structure It where
 go:Nat->Hp->Prop
 yld:Nat->Hp->V->Hp->Prop
 stop:Nat->Hp->Prop
def FpOk(X:Cx)(zf:List (Addr×Obj))(H:Hp)(b:Addr):Prop :=
 H b=none/\b≠X.env.locals/\b∉X.fs/\(b∈X.ex\/X.s₀.heap.objs.size<=b)/\(∀ x c,X.env.cells.lookup x=some c->c≠b)/\∀ p∈X.pn++zf,p.1≠b
theorem Inv.fpOk{X:Cx}{zf:List (Addr×Obj)}{σ:St}{H H':Hp}{s:Shared}{b:Addr}(I:Inv X zf σ H s)(hb:s.heap.objs.size<=b)(hn:H' b=none):FpOk X zf H' b:=by
 refine⟨hn,Nat.ne_of_gt (Nat.lt_of_lt_of_le I.lt hb),I.nofs hb,.inr (Nat.le_trans I.sz hb),fun x c e z=>?_,fun p hp z=>?_⟩
 ·obtain⟨v,q⟩:=I.cell x c e;exact absurd (Nat.lt_of_lt_of_le q.lt (by rw [z]; exact hb)) (Nat.lt_irrefl _)
 ·exact absurd (Nat.lt_of_lt_of_le (Heap.lt_size (I.pin p hp).1) (by rw [z]; exact hb)) (Nat.lt_irrefl _)
structure Turn(P:Program)(w:World)(K:W.Frag)(tg:Expr)(J:It)(fp:List Addr)(it:Addr)(tn:Nat->Heap->Prop):Prop where
 mem:it∈fp
 obj:∀ i h,tn i h->∀ b∈fp,∃ o,h.get? b=some o/\∀ v,o.data≠.cell v
 keep:∀ i h h',tn i h->(∀ b∈fp,∀ o,h.get? b=some o->h'.get? b=some o)->tn i h'
 item:∀ (X:Cx),X.prog=P->X.w=w->X.K=K->X.calm=true->∀ (i:Nat) (zf:List (Addr×Obj)) (s:Shared) (σ:St) (H:Hp) (E:Value->Shared->Prop),Inv X zf σ H s->(∀ b∈fp,FpOk X zf H b)->tn i s.heap->J.go i H ->
  wpAny (model P w) X.A (pyNext (.ref it)) (fun r s1=>∃ u,r=some u /\
   wpAny (model P w) X.A (letOwnedTupleGo tg (.ref it) u) (fun _ s2=>∃ x H',Inv X zf σ H' s2/\RelV x u/\J.yld i H x H'/\tn (i+1) s2.heap/\∀ b∈fp,H' b=none) E s1) E s
 done:∀ (X:Cx),X.prog=P->X.w=w->X.K=K->X.calm=true->∀ (i:Nat) (zf:List (Addr×Obj)) (s:Shared) (σ:St) (H:Hp) (E:Value->Shared->Prop),Inv X zf σ H s->(∀ b∈fp,FpOk X zf H b)->tn i s.heap->J.stop i H ->
  wpAny (model P w) X.A (pyNext (.ref it)) (fun r s1=>r=none/\Inv X zf σ H s1) E s
 self:∀ (A:Around) (i:Nat) (s:Shared) (Q:Value->Shared->Prop) (E:Value->Shared->Prop),tn i s.heap->Q (.ref it) s->wpAny (model P w) A (pyIter (.ref it)) Q E s
abbrev TI:=St->Hp->(It->Hp->Prop)->Prop
def PIE(X:Cx)(zf:List (Addr×Obj))(σ:St)(tg:Expr)(R:It->Hp->Prop)(itv:Value)(s2:Shared):Prop :=
 ∃ (it:Addr) (fp:List Addr) (tn:Nat->Heap->Prop) (J:It) (H':Hp),itv=.ref it/\Inv X zf σ H' s2/\Turn X.prog X.w X.K tg J fp it tn/\tn 0 s2.heap/\(∀ b∈fp,FpOk X zf H' b)/\R J H'
def PI(X:Cx)(tg iter:Expr)(wi:TI):Prop :=
 ∀ (zf:List (Addr×Obj)) (s:Shared) (σ:St) (H:Hp) (R:It->Hp->Prop),Inv X zf σ H s->wi σ H R ->
  wpAny (model X.prog X.w) X.A (eval iter X.env) (fun v s1=>wpAny (model X.prog X.w) X.A (pyIter v) (PIE X zf σ tg R) X.xe s1) X.xe s
theorem zm9{M:Model}{A:Around}{E:Value->Shared->Prop}{s:Shared}{tg:Expr}{it:Addr}{u:Value}{o:Obj}{n:String}{vs:Array Value}{Q:Unit->Shared->Prop}(ho:s.heap.get? it=some o)(hc:o.cls=.type n)(hd:o.data=.fields vs)
    (hn:["enumerate","zip","dict_itemiterator","dict_reverseitemiterator","odict_iterator","itertools.zip_longest","itertools.pairwise"].contains n=false) (hQ:Q () s):wpAny M A (letOwnedTupleGo tg (.ref it) u) Q E s:=by
  unfold letOwnedTupleGo;cases tg <;> first
    | exact wpAny_pure hQ
    | (cases u <;> first
        | exact wpAny_pure hQ
        | (refine wpAny_bind (wpAny_load ho ?_)
           rw [hc,hd];show wpAny M A (if (["enumerate","zip","dict_itemiterator","dict_reverseitemiterator","odict_iterator","itertools.zip_longest","itertools.pairwise"].contains n && vs[0]? == some (rawInt _))=true then _ else _) Q E s;rw [if_neg (by intro h; rw [hn,Bool.false_and] at h; cases h)];exact wpAny_pure hQ))
def Itl(K:W.Frag)(a:Addr):It :=
 ⟨fun i H=>∃ xs x,SqL K H a xs/\xs[i]? = some x,fun i H x H'=>H'=H/\∀ xs,SqL K H a xs->xs[i]? = some x,fun i H=>∃ xs,SqL K H a xs/\xs.length<=i⟩
def Itt(K:W.Frag)(a:Addr):It :=
 ⟨fun i H=>∃ xs x,SqT K H a xs/\xs[i]? = some x,fun i H x H'=>H'=H/\∀ xs,SqT K H a xs->xs[i]? = some x,fun i H=>∃ xs,SqT K H a xs/\xs.length<=i⟩
def Itr(lo:Int)(n:Nat):It:=⟨fun i _=>i<n,fun i H x H'=>H'=H/\x=.int (lo+i),fun i _=>n<=i⟩
theorem zgV{P:Program}{w:World}{K:W.Frag}{tg:Expr}(a it:Addr):Turn P w K tg (Itl K a) [it] it (fun i h=>h.IsListIter it a i) where
 mem:=by simp
 obj:=fun i h st b hb=>by
  have e:b=it:=by simpa using hb
  subst e;obtain⟨o,e,c,d⟩:=st;exact⟨o,e,fun v z=>by rw [d] at z; cases z⟩
 keep:=fun i h h' st k=>st.at fun o e=>k it (by simp) o e
 item:=by
  intro X hP hw hK hc i zf s σ H E I hf st hg;subst hP hw hK;obtain⟨xs,x,hq,hx⟩:=hg;obtain⟨its,rv,p,hz⟩:=I.list hq;obtain⟨u,hu,ru⟩:=rv.get hx;obtain⟨f0,f1,f2,f3,f4,f5⟩:=hf it (by simp);refine wpAny_pyNext_list_item st p.isList (x:=u) (by simpa using hu) fun h' st' sb=>?_;have I1:Inv X zf σ H { s with heap:=h' }:=I.turned (t':=s.toks) (fun b o hb e=>(sb.2 b hb).trans e) f0 f1 f3 f4 f5;obtain⟨o,e,c,d⟩:=id st';exact⟨u,rfl,zm9 (s:={ s with heap:=h' }) e c d (by decide) ⟨x,H,I1,ru,⟨rfl,fun ys hy=>by rw [I.list_inj hy hq]; exact hx⟩,st',fun b hb=>(hf b hb).1⟩⟩
 done:=by
  intro X hP hw hK hc i zf s σ H E I hf st hg;subst hP hw hK;obtain⟨xs,hq,hx⟩:=hg;obtain⟨its,rv,p,hz⟩:=I.list hq;obtain⟨f0,f1,f2,f3,f4,f5⟩:=hf it (by simp);have hl:=rv.length;exact wpAny_pyNext_list_end (I.ok.hd hc) st p.isList (by simp; omega) fun h' eb=>⟨rfl,I.turned (t':=s.toks) (fun b o hb e=>eb b o hb e) f0 f1 f3 f4 f5⟩
 self:=fun _ _ _ _ _ st h=>wpAny_pyIter_listiter st h
theorem zjV{P:Program}{w:World}{K:W.Frag}{tg:Expr}(a it:Addr):Turn P w K tg (Itt K a) [it] it (fun i h=>h.IsTupleIter it a i) where
 mem:=by simp
 obj:=fun i h st b hb=>by
  have e:b=it:=by simpa using hb
  subst e;obtain⟨o,e,c,d⟩:=st;exact⟨o,e,fun v z=>by rw [d] at z; cases z⟩
 keep:=fun i h h' st k=>st.at fun o e=>k it (by simp) o e
 item:=by
  intro X hP hw hK hc i zf s σ H E I hf st hg;subst hP hw hK;obtain⟨xs,x,hq,hx⟩:=hg;obtain⟨its,rv,p,hz⟩:=I.tuple hq;obtain⟨u,hu,ru⟩:=rv.get hx;obtain⟨f0,f1,f2,f3,f4,f5⟩:=hf it (by simp);refine wpAny_pyNext_tuple_item st (show s.heap.IsTuple a its.toArray from p) (x:=u) (by simpa using hu) fun h' st' sb=>?_;have I1:Inv X zf σ H { s with heap:=h' }:=I.turned (t':=s.toks) (fun b o hb e=>(sb.2 b hb).trans e) f0 f1 f3 f4 f5;obtain⟨o,e,c,d⟩:=id st';exact⟨u,rfl,zm9 (s:={ s with heap:=h' }) e c d (by decide) ⟨x,H,I1,ru,⟨rfl,fun ys hy=>by rw [I.tuple_inj hy hq]; exact hx⟩,st',fun b hb=>(hf b hb).1⟩⟩
 done:=by
  intro X hP hw hK hc i zf s σ H E I hf st hg;subst hP hw hK;obtain⟨xs,hq,hx⟩:=hg;obtain⟨its,rv,p,hz⟩:=I.tuple hq;obtain⟨f0,f1,f2,f3,f4,f5⟩:=hf it (by simp);have hl:=rv.length;exact wpAny_pyNext_tuple_end (I.ok.hd hc) st (show s.heap.IsTuple a its.toArray from p) (by simp; omega) fun h' eb=>⟨rfl,I.turned (t':=s.toks) (fun b o hb e=>eb b o hb e) f0 f1 f3 f4 f5⟩
 self:=fun _ _ _ _ _ st h=>wpAny_pyIter_tupleiter st h
theorem zj2{P:Program}{w:World}{K:W.Frag}{tg:Expr}(it:Addr)(lo:Int)(n:Nat):Turn P w K tg (Itr lo n) [it] it (fun i h=>IsRangeIter h it (lo+(i:Nat)*1) ((n:Int) - (i:Nat)) 1) where
 mem:=by simp
 obj:=fun i h st b hb=>by
  have e:b=it:=by simpa using hb
  subst e;exact⟨_,st,fun v z=>by
   have z':Data.fields _=Data.cell v:=z;cases z'⟩
 keep:=fun i h h' st k=>k it (by simp) _ st
 item:=by
  intro X hP hw hK hc i zf s σ H E I hf st hg;subst hP hw hK;obtain⟨f0,f1,f2,f3,f4,f5⟩:=hf it (by simp);have W:=Walks.range (prog:=X.prog) (w:=X.w) (I.ok.hd hc) it lo 1 n;refine W.item i s _ _ hg st fun v h' tk hv st' kk=>?_;obtain⟨t,rfl⟩:=hv;have I1:Inv X zf σ H { s with heap:=h',toks:=tk }:=I.turned (fun b o hb e=>kk b o (by simpa using hb) e) f0 f1 f3 f4 f5;refine⟨_,rfl,zm9 (s:={ s with heap:=h',toks:=tk }) (n:="range_iterator") st' rfl rfl (by decide) ⟨.int (lo+i),H,I1,⟨t,?_⟩,⟨rfl,rfl⟩,st',fun b hb=>(hf b hb).1⟩⟩;rw [Int.mul_one]
 done:=by
  intro X hP hw hK hc i zf s σ H E I hf st hg;subst hP hw hK;obtain⟨f0,f1,f2,f3,f4,f5⟩:=hf it (by simp);exact wpAny_pyNext_range_end (I.ok.hd hc) st (by have:n<=i:=hg; omega) fun h' eb=>⟨rfl,I.turned (t':=s.toks) (fun b o hb e=>eb b o hb e) f0 f1 f3 f4 f5⟩
 self:=fun _ _ _ _ _ st h=>wpAny_pyIter_rangeiter st h
end
section
section
variable {X:Cx} {tg:Expr}
def zo7(K:W.Frag)(tl:TE):TI:=fun σ H R=>tl σ H fun x H1=>∃ a,x=.ref a/\(∃ xs,SqL K H1 a xs)/\R (Itl K a) H1
theorem zpD{l:Expr}{tl:TE}(hl:PE X l tl):PI X tg l (zo7 X.K tl):=by
 intro zf s σ H R I h;refine thn (hl zf s σ H _ I h) fun v s1 ⟨x,H1,I1,r1,q1⟩=>?_;obtain⟨a,e,⟨xs,hq⟩,q⟩:=q1;subst e;cases r1;obtain⟨its,rv,p,hz⟩:=I1.list hq;refine wpAny_pyIter_list p.isList ?_;refine⟨s1.heap.objs.size,[s1.heap.objs.size],_,_,H1,rfl,I1.kept (t':=s1.toks) fun b o e=>Heap.get?_push_of_some _ e,zgV a _,⟨_,Heap.get?_push_size _ rfl,rfl,rfl⟩,fun b hb=>?_,q⟩;have e:b=s1.heap.objs.size:=by simpa using hb
 subst e;exact I1.fpOk (Nat.le_refl _) (I1.hok.fresh (Nat.le_refl _))
def zqw(wi:TI)(g:TG)(tb:TS):TS:=fun D σ H=>wi σ H fun J H1=>∃ W:Nat->Nat->St->Hp->Prop,(∃ m,W 0 m σ H1)/\∀ i m σ H,W i m σ H ->
 (J.stop i H/\D.nx σ H)\/(J.go i H/\∃ N:St->Hp->Prop,(∀ σ' H',N σ' H'->∃ m',m'<m/\W (i+1) m' σ' H')/\∀ x H',J.yld i H x H'->g x σ H' fun σ2 H2=>tb { D with nx:=N,ct:=N,bk:=D.nx } σ2 H2)
def zgL(fp:List Addr)(h:Heap):List (Addr×Obj):=fp.filterMap fun b=>(h.get? b).map fun o=>(b,o)
theorem zda{fp:List Addr}{h:Heap}{b:Addr}{o:Obj}(hb:b∈fp)(e:h.get? b=some o):(b,o)∈zgL fp h:=List.mem_filterMap.mpr ⟨b,hb,by rw [e]; rfl⟩
theorem zkD{fp:List Addr}{h:Heap}{p:Addr×Obj}(hp:p∈zgL fp h):p.1∈fp/\h.get? p.1=some p.2:=by
 obtain⟨b,hb,e⟩:=List.mem_filterMap.mp hp;cases q:h.get? b with
 | none=>rw [q] at e; cases e
 | some o =>
  rw [q] at e;have e':(b,o)=p:=Option.some.inj e;subst e';exact⟨hb,q⟩
theorem Inv.pinned{zf:List (Addr×Obj)}{σ:St}{H:Hp}{s:Shared}{fp:List Addr}(I:Inv X zf σ H s)(hf:∀ b∈fp,FpOk X zf H b)(ho:∀ b∈fp,∃ o,s.heap.get? b=some o/\∀ v,o.data≠.cell v):Inv X (zf++zgL fp s.heap) σ H s :=
 I.pins_of fun p hp=>(List.mem_append.mp hp).elim (fun z=>I.pin p (List.mem_append_right _ z)) fun z=>by
  obtain⟨hb,e⟩:=zkD z;obtain⟨f0,f1,f2,_⟩:=hf p.1 hb;obtain⟨o,e',d⟩:=ho p.1 hb;rw [e] at e'; cases e';exact⟨e,f0,f1,f2,d⟩
theorem Inv.unpinned{zf pl:List (Addr×Obj)}{σ:St}{H:Hp}{s:Shared}(I:Inv X (zf++pl) σ H s):Inv X zf σ H s:=I.pins_of fun p hp=>I.pin p (List.mem_append_right _ (List.mem_append_left _ hp))
theorem zfH{iter:Expr}{body:List Stmt}{wi:TI}{g:TG}{tb:TS}{pos:Pos}(hp:PassesOwn (model X.prog X.w) X.A X.env X.xe)(hc:X.calm=true)(hi:PI X tg iter wi)(hg:PG X tg g)(hb:PSs X body tb)
  (hs:∀ x,foldedSetIterable iter X.env x=pure x:=by intro _; rfl):PS X (.For tg iter body [] pos) (zqw wi g tb):=by
 intro zf s σ H D I h;refine wpAny_For (thn (hi zf s σ H _ I h) fun v s1 h1=>thn h1 fun itv s2 h2=>?_) hs;obtain⟨it,fp,tn,J,H2,e,I2,T,st2,f2,W,⟨m0,w0⟩,turn⟩:=h2;subst e
 -- what stays true of the iterator's objects through the loop
 have stat:∀ {H':Hp},(∀ b∈fp,H' b=none)->∀ b∈fp,FpOk X zf H' b:=fun hn b hb=>⟨hn b hb,(f2 b hb).2⟩;refine codeAny_forLoop_any (fun n s'=>∃ i σ' H',Inv X zf σ' H' s'/\tn i s'.heap/\(∀ b∈fp,H' b=none)/\W i n σ' H') ?_ m0 ⟨0,σ,H2,I2,st2,fun b hb=>(f2 b hb).1,w0⟩;rintro n s3 ⟨i,σ3,H3,I3,st3,fr3,w3⟩;rcases turn i n σ3 H3 w3 with ⟨stop,qn⟩ | ⟨go,N,hN,step⟩
 ·refine wpAny_passesOwn hp (thn (T.done X rfl rfl rfl hc i zf s3 σ3 H3 X.xe I3 (stat fr3) st3 stop) fun r s4 ⟨hr,I4⟩=>?_);subst hr;exact wpAny_execs_nil ⟨σ3,H3,I4,qn⟩
 ·refine wpAny_passesOwn hp (thn (T.item X rfl rfl rfl hc i zf s3 σ3 H3 X.xe I3 (stat fr3) st3 go) fun r s4 ⟨u,hr,h4⟩=>?_);subst hr;refine wpAny_passesOwn hp (thn h4 fun _ s5 ⟨x,H5,I5,r5,y5,st5,fr5⟩=>?_);have I5':=I5.pinned (stat fr5) (T.obj _ _ st5);refine wpAny_passesOwn hp (thn (hg _ s5 σ3 H5 x u _ I5' r5 (step x H5 y5)) fun _ s6 ⟨σ6,H6,I6,q6⟩=>?_);refine wpAny_passesOwn hp (thn (hb _ s6 σ6 H6 _ I6 q6) fun f s7 q7=>?_);have again:∀ {σ7:St} {H7:Hp},Inv X (zf++zgL fp s5.heap) σ7 H7 s7->N σ7 H7->∃ m,m<n/\∃ i σ' H',Inv X zf σ' H' s7/\tn i s7.heap/\(∀ b∈fp,H' b=none)/\W i m σ' H':=fun {σ7 H7} I7 n7=>by
   obtain⟨m',hm,w7⟩:=hN σ7 H7 n7;refine⟨m',hm,i+1,σ7,H7,I7.unpinned,T.keep _ _ _ st5 fun b hb o e=>(I7.pin (b,o) (List.mem_append_right _ (List.mem_append_right _ (zda hb e)))).1,fun b hb=>?_,w7⟩;obtain⟨o,e,d⟩:=T.obj _ _ st5 b hb;exact(I7.pin (b,o) (List.mem_append_right _ (List.mem_append_right _ (zda hb e)))).2.1
  cases f with
  | next=>obtain⟨σ7,H7,I7,n7⟩:=q7; exact again I7 n7
  | cont=>obtain⟨σ7,H7,I7,n7⟩:=q7; exact again I7 n7
  | brk=>obtain⟨σ7,H7,I7,q7⟩:=q7; exact⟨σ7,H7,I7.unpinned,q7⟩
  | ret v=>obtain⟨x7,σ7,H7,I7,r7,q7⟩:=q7; exact⟨x7,σ7,H7,I7.unpinned,r7,q7⟩
end
theorem zmG{K:W.Frag}{a:Addr}{xs:List V}{g:TG}{tb:TS}{D:Ends}{σ:St}{H:Hp}(Pv:Nat->St->Hp->Prop)(h0:Pv 0 σ H)(hl:∀ i σ H,i<=xs.length->Pv i σ H->SqL K H a xs)
  (hs:∀ i x σ H,xs[i]? = some x->Pv i σ H->g x σ H fun σ2 H2=>tb { D with nx:=Pv (i+1),ct:=Pv (i+1),bk:=D.nx } σ2 H2) (hd:∀ σ H,Pv xs.length σ H->D.nx σ H) :
  ∃ W:Nat->Nat->St->Hp->Prop,(∃ m,W 0 m σ H)/\∀ i m σ H,W i m σ H ->
   ((Itl K a).stop i H/\D.nx σ H)\/((Itl K a).go i H/\∃ N:St->Hp->Prop,(∀ σ' H',N σ' H'->∃ m',m'<m/\W (i+1) m' σ' H')/\∀ x H',(Itl K a).yld i H x H'->g x σ H' fun σ2 H2=>tb { D with nx:=N,ct:=N,bk:=D.nx } σ2 H2):=by
 refine⟨fun i m σ H=>m=xs.length - i/\i<=xs.length/\Pv i σ H,⟨xs.length,by simp,Nat.zero_le _,h0⟩,?_⟩;rintro i m σ H ⟨rfl,hi,p⟩;have q:=hl i σ H hi p;by_cases hlt:i<xs.length
 ·refine .inr ⟨⟨xs,xs[i],q,by simp [hlt]⟩,Pv (i+1),fun σ' H' p'=>⟨xs.length - (i+1),by omega,rfl,hlt,p'⟩,fun x H' y=>?_⟩;obtain⟨e,y⟩:=y;subst e;exact hs i x σ _ (y xs q) p
 ·have e:i=xs.length:=by omega
  subst e;exact .inl ⟨⟨xs,q,Nat.le_refl _⟩,hd σ H p⟩
end
section
abbrev R2:=V->V->Hp->VK->Prop
def OpR(X:Cx)(f:Value->Value->Sem Value)(r:R2):Prop :=
 ∀ (zf:List (Addr×Obj)) (s:Shared) (σ:St) (H:Hp) (x y:V) (v u:Value) (Q:VK),Inv X zf σ H s->RelV x v->RelV y u->r x y H Q ->
  wpAny (model X.prog X.w) X.A (f v u) (EP X zf σ Q) X.xe s
def UnR(X:Cx)(f:Value->Sem Value)(r:V->Hp->VK->Prop):Prop :=
 ∀ (zf:List (Addr×Obj)) (s:Shared) (σ:St) (H:Hp) (x:V) (v:Value) (Q:VK),Inv X zf σ H s->RelV x v->r x H Q ->
  wpAny (model X.prog X.w) X.A (f v) (EP X zf σ Q) X.xe s
def CallR(X:Cx)(f:Value)(r:List V->Hp->VK->Prop):Prop :=
 ∀ (zf:List (Addr×Obj)) (s:Shared) (σ:St) (H:Hp) (xs:List V) (us:List Value) (Q:VK),Inv X zf σ H s->Vals xs us->r xs H Q ->
  wpAny (model X.prog X.w) X.A (call f us) (EP X zf σ Q) X.xe s
def TruR(X:Cx)(r:V->Hp->(Bool->Hp->Prop)->Prop):Prop :=
 ∀ (zf:List (Addr×Obj)) (s:Shared) (σ:St) (H:Hp) (x:V) (v:Value) (Q:Bool->Hp->Prop),Inv X zf σ H s->RelV x v->r x H Q ->
  wpAny (model X.prog X.w) X.A (truthy v) (TP X zf σ Q) X.xe s
def tOp(r:R2)(ta tb:TE):TE:=fun σ H Q=>ta σ H fun x H1=>tb σ H1 fun y H2=>r x y H2 Q
def tUn(r:V->Hp->VK->Prop)(ta:TE):TE:=fun σ H Q=>ta σ H fun x H1=>r x H1 Q
def rI(C:Int->Int->Prop)(g:Int->Int->V):R2:=fun x y H Q=>∃ i j,x=.int i/\y=.int j/\C i j/\Q (g i j) H
def rI0(g:Int->Int->V):R2:=fun x y H Q=>∃ i j,x=.int i/\y=.int j/\Q (g i j) H
def rU(g:Int->V):V->Hp->VK->Prop:=fun x H Q=>∃ i,x=.int i/\Q (g i) H
section
variable {X:Cx} {a b c:Expr} {ta tb tc:TE} {pos:Pos}
theorem zrP(ha:PE X a ta)(hb:PE X b tb){zf:List (Addr×Obj)}{s:Shared}{σ:St}{H:Hp}{R:V->V->Hp->Prop}(I:Inv X zf σ H s)
  (h:ta σ H fun x H1=>tb σ H1 fun y H2=>R x y H2) {Q:Value->Shared->Prop} {f:Value->Value->Sem Value}
  (hf:∀ v u s2 x y H2,Inv X zf σ H2 s2->RelV x v->RelV y u->R x y H2->wpAny (model X.prog X.w) X.A (f v u) Q X.xe s2) :
  wpAny (model X.prog X.w) X.A (eval a X.env) (fun v s₁=>wpAny (model X.prog X.w) X.A (eval b X.env) (fun u s₂=>wpAny (model X.prog X.w) X.A (f v u) Q X.xe s₂) X.xe s₁) X.xe s:=by
 refine thn (ha zf s σ H _ I h) fun v s1 ⟨x,H1,I1,r1,q1⟩=>?_;refine thn (hb zf s1 σ H1 _ I1 q1) fun u s2 ⟨y,H2,I2,r2,q2⟩=>?_;exact hf v u s2 x y H2 I2 r1 r2 q2
theorem zaf{op:Operator}{r:R2}(ho:OpR X (binaryOp op) r)(ha:PE X a ta)(hb:PE X b tb):PE X (.BinOp a op b pos) (tOp r ta tb):=by
 intro zf s σ H Q I h;exact wpAny_BinOp (zrP ha hb I h fun v u s2 x y H2 I2 rx ry q=>ho zf s2 σ H2 x y v u Q I2 rx ry q)
theorem zgc{op:UnaryOp}{r:V->Hp->VK->Prop}(ho:UnR X (unaryOp op) r)(ha:PE X a ta):PE X (.UnaryOp op a pos) (tUn r ta):=by
 intro zf s σ H Q I h;exact UnaryOp_ (thn (ha zf s σ H _ I h) fun v s1 ⟨x,H1,I1,r1,q1⟩=>ho zf s1 σ H1 x v Q I1 r1 q1)
theorem opI{f:Value->Value->Sem Value}{C:Int->Int->Prop}{g:Int->Int->Int}
  (rule:∀ (i j:Int) (t u:Tok) (s:Shared) (Q:Value->Shared->Prop) (E:Value->Shared->Prop),C i j->Q (.int (g i j) s.toks) { s with toks:=s.toks+1 }->wpAny (model X.prog X.w) X.A (f (.int i t) (.int j u)) Q E s) :
  OpR X f (rI C fun i j=>.int (g i j)):=by
 intro zf s σ H x y v u Q I rx ry h;obtain⟨i,j,rfl,rfl,hc,q⟩:=h;obtain⟨t,rfl⟩:=rx;obtain⟨t',rfl⟩:=ry;exact rule i j t t' s _ _ hc ⟨.int (g i j),H,I.tok _,⟨_,rfl⟩,q⟩
theorem zsh{f:Value->Value->Sem Value}{g:Int->Int->Int}
  (rule:∀ (i j:Int) (t u:Tok) (s:Shared) (Q:Value->Shared->Prop) (E:Value->Shared->Prop),Q (.int (g i j) s.toks) { s with toks:=s.toks+1 }->wpAny (model X.prog X.w) X.A (f (.int i t) (.int j u)) Q E s) :
  OpR X f (rI0 fun i j=>.int (g i j)):=by
 intro zf s σ H x y v u Q I rx ry h;obtain⟨i,j,rfl,rfl,q⟩:=h;obtain⟨t,rfl⟩:=rx;obtain⟨t',rfl⟩:=ry;exact rule i j t t' s _ _ ⟨.int (g i j),H,I.tok _,⟨_,rfl⟩,q⟩
theorem zrt{f:Value->Value->Sem Value}{g:Int->Int->Bool}
  (rule:∀ (i j:Int) (t u:Tok) (s:Shared) (Q:Value->Shared->Prop) (E:Value->Shared->Prop),Q (.bool (g i j)) s->wpAny (model X.prog X.w) X.A (f (.int i t) (.int j u)) Q E s) :
  OpR X f (rI0 fun i j=>.bl (g i j)):=by
 intro zf s σ H x y v u Q I rx ry h;obtain⟨i,j,rfl,rfl,q⟩:=h;obtain⟨t,rfl⟩:=rx;obtain⟨t',rfl⟩:=ry;exact rule i j t t' s _ _ ⟨.bl (g i j),H,I,rfl,q⟩
def CDivN(i j:Int):Prop:=j≠0/\j.natAbs<1073741824
def CPow(i j:Int):Prop:=0<=j/\j<=1000000/\i.natAbs<2 ^ 64
theorem zqm:OpR X (binaryOp .Add) (rI0 fun i j=>.int (i+j)):=zsh fun _ _ _ _ _ _ _ q=>add_int q
theorem zcV:OpR X (binaryOp .Sub) (rI0 fun i j=>.int (i - j)):=zsh fun _ _ _ _ _ _ _ q=>sub_int q
theorem znz:OpR X (binaryOp .FloorDiv) (rI CDivN fun i j=>.int (i.fdiv j)):=opI fun _ _ _ _ _ _ _ hc q=>floordiv_int hc.1 q (.inl (PyProof.noPylong_small hc.2))
theorem zhz:OpR X (binaryOp .Mod) (rI (fun _ j=>0<j) fun i j=>.int (i % j)):=opI fun i j _ _ _ _ _ hc q=>by
 have h1:(0:Int)<j:=hc;exact mod_int' (by omega) (by rw [Int.fmod_eq_emod_of_nonneg i (by omega)]; exact q)
theorem zhq:OpR X (binaryOp .Pow) (rI CPow fun i j=>.int (i ^ j.toNat)):=opI fun _ _ _ _ _ _ _ hc q=>pow_int_small hc.1 hc.2.1 hc.2.2 q
theorem unI{f:Value->Sem Value}{g:Int->Int}
  (rule:∀ (i:Int) (t:Tok) (s:Shared) (Q:Value->Shared->Prop) (E:Value->Shared->Prop),Q (.int (g i) s.toks) { s with toks:=s.toks+1 }->wpAny (model X.prog X.w) X.A (f (.int i t)) Q E s) :
  UnR X f (rU fun i=>.int (g i)):=by
 intro zf s σ H x v Q I rx h;obtain⟨i,rfl,q⟩:=h;obtain⟨t,rfl⟩:=rx;exact rule i t s _ _ ⟨.int (g i),H,I.tok _,⟨_,rfl⟩,q⟩
theorem zdK:UnR X (unaryOp .USub) (rU fun i=>.int (-i)):=unI fun _ _ _ _ _ q=>neg_int q
end
section
variable {X:Cx} {a b c:Expr} {ta tb tc:TE} {pos:Pos}
theorem zju{zf:List (Addr×Obj)}{σ:St}{H:Hp}{s:Shared}{Q:VK}{k k':Bool}(I:Inv X zf σ H s)(q:Q (.bl k) H)(e:k=k'):EP X zf σ Q (.bool k') s:=by
 subst e;exact⟨.bl k,H,I,rfl,q⟩
theorem zkP:OpR X (compareOp .Lt) (rI0 fun i j=>.bl (decide (i<j))):=zrt fun _ _ _ _ _ _ _ q=>lt_int q
theorem zjL:OpR X (compareOp .LtE) (rI0 fun i j=>.bl (decide (i<=j))):=zrt fun _ _ _ _ _ _ _ q=>le_int q
theorem zmL:OpR X (compareOp .Gt) (rI0 fun i j=>.bl (decide (j<i))):=zrt fun _ _ _ _ _ _ _ q=>gt_int q
theorem zp8:OpR X (compareOp .GtE) (rI0 fun i j=>.bl (decide (j<=i))):=zrt fun _ _ _ _ _ _ _ q=>ge_int q
theorem zkJ:OpR X (compareOp .In) (fun x y H Q=>∃ i j,x=.str i/\y=.str j/\Q (.bl (!(Builtin.Str.occurrences j i 0 j.length 1).isEmpty)) H):=by
 intro zf s σ H x y v u Q I rx ry h;obtain⟨i,j,rfl,rfl,q⟩:=h;obtain⟨t,rfl⟩:=rx;obtain⟨t',rfl⟩:=ry;exact in_str (zju I q rfl)
theorem zqK:OpR X (compareOp .Is) (fun x y H Q=>y=.non/\Q (.bl (decide (x=.non))) H):=by
 intro zf s σ H x y v u Q I rx ry h;obtain⟨rfl,q⟩:=h;cases ry;refine is_none_gen (zju I q ?_);cases x <;> first
  | (cases rx; rfl)
  | (obtain⟨t,rfl⟩:=rx; rfl)
theorem zoZ:OpR X (compareOp .IsNot) (fun x y H Q=>y=.non/\Q (.bl (!decide (x=.non))) H):=by
 intro zf s σ H x y v u Q I rx ry h;obtain⟨rfl,q⟩:=h;cases ry;refine isnot_none_gen (zju I q ?_);cases x <;> first
  | (cases rx; rfl)
  | (obtain⟨t,rfl⟩:=rx; rfl)
theorem OpR.or{f:Value->Value->Sem Value}{r r':R2}(h:OpR X f r)(h':OpR X f r'):OpR X f (fun x y H Q=>r x y H Q\/r' x y H Q):=by
 intro zf s σ H x y v u Q I rx ry q;rcases q with q | q
 ·exact h zf s σ H x y v u Q I rx ry q
 ·exact h' zf s σ H x y v u Q I rx ry q
theorem nomark(b:Expr){op:CmpOp}(h:op≠.In:=by decide)(h2:op≠.NotIn:=by decide):behindInMarks op b=false:=by
 have e1:(op == CmpOp.In)=false:=by cases op <;> first | rfl | exact absurd rfl h
 have e2:(op == CmpOp.NotIn)=false:=by cases op <;> first | rfl | exact absurd rfl h2
 cases b <;> simp [behindInMarks,e1,e2]
theorem zf1{op:CmpOp}{r:R2}(ho:OpR X (compareOp op) r)(ha:PE X a ta)(hb:PE X b tb)(hm:behindInMarks op b=false):PE X (.Compare a [op] [b] pos) (tOp r ta tb):=by
 intro zf s σ H Q I h;exact wpAny_Compare1 (zrP ha hb I h fun v u s2 x y H2 I2 rx ry q=>ho zf s2 σ H2 x y v u Q I2 rx ry q) hm
def zna(t:TE):TT:=fun σ H Q=>t σ H fun x H'=>∃ k,x=.bl k/\Q k H'
theorem zag{op:CmpOp}{r:R2}(ho:OpR X (compareOp op) r)(ha:PE X a ta)(hb:PE X b tb)(hm:behindInMarks op b=false):PT X (.Compare a [op] [b] pos) (zna (tOp r ta tb)):=by
 intro zf s σ H Q I h;refine wpAny_isTrue_Compare1 (thn (ha zf s σ H _ I h) fun v s1 ⟨x,H1,I1,r1,q1⟩=>thn (hb zf s1 σ H1 _ I1 q1) fun u s2 ⟨y,H2,I2,r2,q2⟩ =>
  thn (ho zf s2 σ H2 x y v u _ I2 r1 r2 q2) fun c s3 ⟨z,H3,I3,r3,k,e,q3⟩=>?_) hm
 subst e;cases r3;exact wpAny_truthy_bool ⟨H3,I3,q3⟩
def zk7(r r':R2)(ta tb tc:TE):TE:=fun σ H Q=>ta σ H fun x H1=>tb σ H1 fun y H2=>r x y H2 fun z H3=>∃ k,z=.bl k /\
 (if k=true then tc σ H3 fun w' H4=>r' y w' H4 Q else Q (.bl false) H3)
theorem ziN{op op':CmpOp}{r r':R2}(ho:OpR X (compareOp op) r)(ho':OpR X (compareOp op') r')(ha:PE X a ta)(hb:PE X b tb)(hc:PE X c tc)
  (hm:lastMarks [op,op'] [b,c]=false:=by with_unfolding_all rfl):PE X (.Compare a [op,op'] [b,c] pos) (zk7 r r' ta tb tc):=by
 intro zf s σ H Q I h;refine Compare_chain (thn (ha zf s σ H _ I h) fun v s1 ⟨x,H1,I1,r1,q1⟩=>chain_link (thn (hb zf s1 σ H1 _ I1 q1) fun u s2 ⟨y,H2,I2,r2,q2⟩ =>
  thn (ho zf s2 σ H2 x y v u _ I2 r1 r2 q2) fun d s3 ⟨z,H3,I3,r3,k,e,q3⟩=>?_)) hm
 subst e;cases r3;refine wpAny_truthy_bool ?_;cases k with
 | false=>exact ite_ff ⟨.bl false,H3,I3,rfl,q3⟩
 | true=>exact ite_tt (chain_last (thn (hc zf s3 σ H3 _ I3 q3) fun w' s4 ⟨z',H4,I4,r4,q4⟩=>ho' zf s4 σ H4 y z' u w' Q I4 r2 r4 q4))
theorem zm1{op op':CmpOp}{r r':R2}(ho:OpR X (compareOp op) r)(ho':OpR X (compareOp op') r')(ha:PE X a ta)(hb:PE X b tb)(hc:PE X c tc)
  (hm:lastMarks [op,op'] [b,c]=false:=by with_unfolding_all rfl):PT X (.Compare a [op,op'] [b,c] pos) (zna (zk7 r r' ta tb tc)):=by
 intro zf s σ H Q I h;refine isTrue_chain (thn (ha zf s σ H _ I h) fun v s1 ⟨x,H1,I1,r1,q1⟩=>test_link (thn (hb zf s1 σ H1 _ I1 q1) fun u s2 ⟨y,H2,I2,r2,q2⟩ =>
  thn (ho zf s2 σ H2 x y v u _ I2 r1 r2 q2) fun d s3 ⟨z,H3,I3,r3,k,e,q3⟩=>?_)) hm
 subst e;cases r3;refine wpAny_truthy_bool ?_;cases k with
 | false =>
  obtain⟨k',e',q'⟩:=q3;cases e';exact ite_ff ⟨H3,I3,q'⟩
 | true =>
  refine ite_tt (test_last (thn (hc zf s3 σ H3 _ I3 q3) fun w' s4 ⟨z',H4,I4,r4,q4⟩=>thn (ho' zf s4 σ H4 y z' u w' _ I4 r2 r4 q4) fun d' s5 ⟨z2,H5,I5,r5,k2,e2,q5⟩=>?_));subst e2;cases r5;exact wpAny_truthy_bool ⟨H5,I5,q5⟩
def TruV(K:W.Frag)(x:V)(H:Hp)(k:Bool):Prop :=
 match x with
 | .non=>k=false
 | .bl b=>k=b
 | .int i=>k=(i != 0)
 | .str y=>y.length<=sizeLine/\k=((y.length:Int) != 0)
 | .byt y=>y.size<=sizeLine/\k=((y.size:Int) != 0)
 | .ref p=>(∃ xs,SqL K H p xs/\k = !xs.isEmpty)\/(∃ xs,SqT K H p xs/\k = !xs.isEmpty)\/∃ kvs,H p=some (.dK kvs)/\k = !kvs.isEmpty
 | _=>False
theorem zfC{κ:Type}{kvs:List (κ×V)}{vs:List (κ×Value)}(r:KV kvs vs):(!vs.isEmpty) = !kvs.isEmpty:=by
 cases r <;> rfl
theorem zfs{xs:List V}{its:List Value}(r:Vals xs its):(!its.toArray.isEmpty) = !xs.isEmpty:=by
 cases r <;> simp
theorem line63:(sizeLine:Nat)<2 ^ 63:=by rw [sizeLine_eq]; decide
theorem zqf:TruR X (fun x H Q=>∃ k,TruV X.K x H k/\Q k H):=by
 intro zf s σ H x v Q I rx h;obtain⟨k,e,q⟩:=h;have hl:=line63;have hs:sizeLine=16777216:=sizeLine_eq;cases x with
 | non =>
  cases rx;have e':k=false:=e;subst e';exact truthy_none ⟨H,I,q⟩
 | bl b =>
  cases rx;have e':k=b:=e;subst e';exact wpAny_truthy_bool ⟨H,I,q⟩
 | int i =>
  obtain⟨t,rfl⟩:=rx;have e':k=(i != 0):=e;subst e';exact PySem.P.truthy_int ⟨H,I,q⟩
 | str y =>
  obtain⟨t,rfl⟩:=rx;obtain⟨hy,e'⟩:y.length<=sizeLine/\k=((y.length:Int) != 0):=e;subst e';exact PySem.P.truthy_str (by omega) ⟨H,I.tok _,q⟩
 | byt y =>
  obtain⟨t,rfl⟩:=rx;obtain⟨hy,e'⟩:y.size<=sizeLine/\k=((y.size:Int) != 0):=e;subst e';exact PySem.W.truthy_bytes (by omega) ⟨H,I.tok _,q⟩
 | ref p =>
  cases rx;have e':(∃ xs,SqL X.K H p xs/\k = !xs.isEmpty)\/(∃ xs,SqT X.K H p xs/\k = !xs.isEmpty)\/∃ kvs,H p=some (.dK kvs)/\k = !kvs.isEmpty:=e;rcases e' with ⟨xs,hx,e'⟩ | ⟨xs,hx,e'⟩ | ⟨kvs,hx,e'⟩
  ·subst e';obtain⟨its,r,pl,hz⟩:=I.list hx;have hlen:=r.length;exact wpAny_truthy_list pl.isList (by simp only [List.size_toArray]; omega) ⟨H,I.tok _,by rw [zfs r]; exact q⟩
  ·subst e';obtain⟨its,r,pl,hz⟩:=I.tuple hx;have hlen:=r.length;exact truthy_tuple pl (by simp only [List.size_toArray]; omega) ⟨H,I.tok _,by rw [zfs r]; exact q⟩
  ·subst e';obtain⟨hz,hS,vs,r,m⟩:kvs.length<=sizeLine/\(p == sysModules)=false/\∃ vs,KV kvs vs/\s.heap.DictOf (zaj X.prog X.w) p vs:=I.hok p _ hx;have hlen:kvs.length=vs.length:=Paired.length r;exact wpAny_truthy_dict hS m (by omega) ⟨H,I.tok _,by rw [zfC r]; exact q⟩
 | _=>exact(show False from e).elim
theorem zV(ha:PE X a ta)(he:∀ whole,isTrue a X.env whole=(do let v <- whole; standAt a.pos; holding [v] (truthy v))):
  PT X a (fun σ H Q=>ta σ H fun x H'=>∃ k,TruV X.K x H' k/\Q k H'):=by
 intro zf s σ H Q I h;exact isTrue_plain (thn (ha zf s σ H _ I h) fun v s1 ⟨x,H1,I1,r1,q1⟩=>zqf zf s1 σ H1 x v Q I1 r1 q1) (he _)
theorem zkd:OpR X (binaryOp .Add) (fun x y H Q=>∃ i j,x=.str i/\y=.str j/\i.length+j.length<=sizeLine/\Q (.str (i++j)) H):=by
 intro zf s σ H x y v u Q I rx ry h;obtain⟨i,j,rfl,rfl,hz,q⟩:=h;obtain⟨t,rfl⟩:=rx;obtain⟨t',rfl⟩:=ry;exact add_str (fun t' tk=>⟨.str (i++j),H,I.tok _,⟨_,rfl⟩,q⟩) hz
theorem vals1{x:V}{us:List Value}(r:Vals [x] us):∃ u,us=[u]/\RelV x u:=by
 cases r with
 | cons r1 r2=>cases r2; exact⟨_,rfl,r1⟩
theorem vals2{x y:V}{us:List Value}(r:Vals [x,y] us):∃ u w',us=[u,w']/\RelV x u/\RelV y w':=by
 cases r with
 | cons r1 r2 =>
  cases r2 with
  | cons r3 r4=>cases r4; exact⟨_,_,rfl,r1,r3⟩
theorem zmc(hc:X.calm=true):CallR X (.builtin "max") (fun xs H Q=>∃ i j,xs=[.int i,.int j]/\Q (.int (if j>i then j else i)) H):=by
 intro zf s σ H xs us Q I r h;obtain⟨i,j,rfl,q⟩:=h;obtain⟨u,w',rfl,⟨t,rfl⟩,⟨t',rfl⟩⟩:=vals2 r;refine max_two_ints (I.ok.hd hc) fun h' tk k=>⟨_,H,I.kept k,?_,q⟩;by_cases hj:j>i
 ·rw [if_pos hj,if_pos hj]; exact⟨_,rfl⟩
 ·rw [if_neg hj,if_neg hj]; exact⟨_,rfl⟩
theorem zmf:CallR X (.type "int") (fun xs H Q=>(∃ i,xs=[.int i]/\Q (.int i) H)\/∃ k,xs=[.bl k]/\Q (.int (if k then 1 else 0)) H):=by
 intro zf s σ H xs us Q I r h;rcases h with ⟨i,rfl,q⟩ | ⟨k,rfl,q⟩
 ·obtain⟨u,rfl,t,rfl⟩:=vals1 r;exact call_int_int ⟨.int i,H,I,⟨_,rfl⟩,q⟩
 ·obtain⟨u,rfl,r1⟩:=vals1 r;cases r1;exact call_int_bool ⟨.int (if k then 1 else 0),H,I.tok _,⟨_,rfl⟩,q⟩
end
end
section
structure ObjM(h:Heap)(x dx C:Addr)(mA:Str->Option Value):Prop where
 obj:h.get? x=some (PySem.W.instObj C dx)
 ns:h.Ns1 dx mA
 ne:dx≠x
theorem zgR{h:Heap}{dx:Addr}{mA:Str->Option Value}(n:h.Ns1 dx mA):∃ od,h.get? dx=some od/\∀ name,PySem.W.lookIn name od=some (mA name):=by
 obtain⟨o,es,ep,ho,hd,hk,_,hm⟩:=n;refine⟨o,ho,fun name=>?_⟩;have e:=hm name;unfold nsFind findBy at e;rw [<- Array.find?_toList] at e;unfold PySem.W.lookIn;rw [hd];dsimp only;split
 ·rename_i y q;rw [q] at e;exact congrArg some e
 ·rename_i q;rw [q] at e;have a:es.toList.any (·.refKey)=false:=by
   rw [List.any_eq_false];intro y hy;obtain⟨z,t,hkey⟩:=hk y (Array.mem_toList_iff.mp hy);simp [DictEntry.refKey,hkey]
  have a':¬ es.toList.any (·.refKey)=true:=by rw [a]; exact Bool.false_ne_true
  rw [if_neg a'];exact congrArg some e
theorem ObjM.look{h:Heap}{x dx C:Addr}{mA:Str->Option Value}(I:ObjM h x dx C mA):∃ od,PySem.W.InstAt h x (PySem.W.instObj C dx) C (some od)/\∀ name,PySem.W.lookIn name od=some (mA name) :=
 let ⟨od,ho,hl⟩:=zgR I.ns
 ⟨od,⟨I.obj,rfl,rfl,ho⟩,hl⟩
def zhQ(f:Str)(v:V):List (Str×V)->List (Str×V)
 | []=>[(f,v)]
 | (g,x) :: r=>if g=f then (g,v) :: r else (g,x) :: zhQ f v r
theorem zdl(f g:Str)(v:V):∀ fs:List (Str×V),(zhQ f v fs).lookup g=if g=f then some v else fs.lookup g
 | []=>by
  show List.lookup g [(f,v)]=_;by_cases h:g=f
  ·have hb:(g == f)=true:=beq_iff_eq.mpr h;simp only [List.lookup,hb,if_pos h]
  ·have hb:(g == f)=false:=beq_eq_false_iff_ne.mpr h;simp only [List.lookup,hb,if_neg h]
 | (k,x) :: r=>by
  have ih:=zdl f g v r;rw [show zhQ f v ((k,x) :: r)=(if k=f then (k,v) :: r else (k,x) :: zhQ f v r) from rfl];by_cases hk:k=f
  ·rw [if_pos hk];by_cases h:g=k
   ·have hb:(g == k)=true:=beq_iff_eq.mpr h;simp only [List.lookup,hb,if_pos (h.trans hk)]
   ·have hb:(g == k)=false:=beq_eq_false_iff_ne.mpr h;simp only [List.lookup,hb,if_neg (fun e:g=f=>h (e.trans hk.symm))]
  ·rw [if_neg hk];by_cases h:g=k
   ·have hb:(g == k)=true:=beq_iff_eq.mpr h;simp only [List.lookup,hb,if_neg (fun e:g=f=>hk (h.symm.trans e))]
   ·have hb:(g == k)=false:=beq_eq_false_iff_ne.mpr h;simp only [List.lookup,hb];exact ih
theorem zeP(f:Str)(v:V):∀ fs:List (Str×V),f∈(zhQ f v fs).map (·.1)/\∀ g,g∈fs.map (·.1)->g∈(zhQ f v fs).map (·.1)
 | []=>⟨by simp [zhQ],fun g h=>by simp at h⟩
 | (k,x) :: r=>by
  obtain⟨i1,i2⟩:=zeP f v r;rw [show zhQ f v ((k,x) :: r)=(if k=f then (k,v) :: r else (k,x) :: zhQ f v r) from rfl];by_cases hk:k=f
  ·rw [if_pos hk];subst hk;exact⟨by simp,fun g h=>by simpa using h⟩
  ·rw [if_neg hk];refine⟨?_,fun g h=>?_⟩
   ·rw [List.map_cons];exact List.mem_cons_of_mem _ i1
   ·rw [List.map_cons] at h ⊢;rcases List.mem_cons.mp h with e | e
    ·exact List.mem_cons.mpr (.inl e)
    ·exact List.mem_cons_of_mem _ (i2 g e)
theorem zla{v:V}{u:Value}(r:RelV v u):PySem.W.handedIn u=true:=by
 cases v with
 | non=>cases (show u=Value.none from r); rfl
 | bl b=>cases (show u=Value.bool b from r); rfl
 | int i=>obtain⟨t,e⟩:=(show ∃ t,u=Value.int i t from r); cases e; rfl
 | str x=>obtain⟨t,e⟩:=(show ∃ t,u=Value.str x t from r); cases e; rfl
 | byt b=>obtain⟨t,e⟩:=(show ∃ t,u=Value.bytes b t from r); cases e; rfl
 | flt b=>obtain⟨t,e⟩:=(show ∃ t,u=Value.float b t from r); cases e; rfl
 | ref a=>cases (show u=Value.ref a from r); rfl
 | ty n=>cases (show u=Value.type n from r); rfl
section
variable {P:Program} {w:World} {H H':Hp} {h h':Heap} {a C dx:Addr} {fs fs':List (Str×V)}
theorem zoP(hok:HOk P w H h)(e:H a=some (.ins C dx fs)):∃ mA,ObjM h a dx C mA/\(∀ f,RelO (fs.lookup f) (mA f))/\PySem.Within mA (fs.map (·.1))/\fs.length<=1000/\H dx=some (.own a):=by
 obtain⟨d,z,ne,ob,mA,n,r,q⟩:=(show ObjOk P w H h a (.ins C dx fs) from hok a _ e);exact⟨mA,⟨ob,n,ne⟩,r,q,z,d⟩
end
structure Cls(K:W.Frag)(C:Addr):Prop where
 pg:PySem.W.plainGet K C Str.empty=true
 hd:PySem.W.hasDictIn K C=true
 po:PySem.W.plainOver K C=true
 sa:PySem.W.findIn K (.ref C) "__setattr__" = some (some (.builtin "object.__setattr__"))
theorem Cls.get{K:W.Frag}{C:Addr}(c:Cls K C)(f:Str):PySem.W.plainGet K C f=true:=c.pg
def NoAttr(K:W.Frag)(C:Addr)(f:Str):Prop:=PySem.W.findIn K (.ref C) f=some none
section
variable {X:Cx} {zf:List (Addr×Obj)} {σ:St} {H:Hp} {s:Shared} {a C dx:Addr} {fs:List (Str×V)} {f:Str} {v:V} {A:Around} {E:Value->Shared->Prop}
theorem zoE{prog:Program}{w:World}{env:Env}{e:Expr}{f:Str}{pos:Pos}{s:Shared}{Q:Value->Shared->Prop}(hb:attributeBase e f env (eval e env)=eval e env)
  (h:wpAny (model prog w) A (eval e env) (fun o s₁=>wpAny (model prog w) A (getAttr o f true) Q E s₁) E s):wpAny (model prog w) A (eval (.Attribute e f pos) env) Q E s :=
 Attribute_any_ h (by rw [arm_eval_Attribute,hb])
end
section
variable {X:Cx} {zf:List (Addr×Obj)} {σ:St} {H:Hp} {s:Shared} {A:Around} {E:Value->Shared->Prop} {Q:Value->Shared->Prop} {c:Value} {b:Bool}
inductive TyOf (K:W.Frag) (H:Hp):V->Value->Prop where
 | non:TyOf K H .non (.type "NoneType")
 | bl (x:Bool):TyOf K H (.bl x) (.type "bool")
 | int (i:Int):TyOf K H (.int i) (.type "int")
 | str (x:Str):TyOf K H (.str x) (.type "str")
 | flt (x:UInt64):TyOf K H (.flt x) (.type "float")
 | lst {a:Addr} {xs:List V} (e:H a=some (.lst xs)):TyOf K H (.ref a) (.type "list")
 | frz {a:Addr} {o:Obj} {xs:List V} (e:H a=some (.frz o (.lst xs))):TyOf K H (.ref a) (.type "list")
 | tup {a:Addr} {xs:List V} (e:H a=some (.tup xs)):TyOf K H (.ref a) (.type "tuple")
 | dK {a:Addr} {kvs:List (Key×V)} (e:Rd H a (.dK kvs)):TyOf K H (.ref a) (.type "dict")
 | dT {a:Addr} {kvs:List (List Key×V)} (e:H a=some (.dT kvs)):TyOf K H (.ref a) (.type "dict")
 | ins {a C dx:Addr} {fs:List (Str×V)} (e:H a=some (.ins C dx fs)) (cl:Cls K C) (ha:PySem.W.findIn K (.ref C) "__class__" = some (some (.builtin "object.__class__")))
   (hn:PySem.W.specialIn K (.builtin "object.__class__") "__get__" = some (some (.builtin "getset_descriptor.__get__"))) (htk:PySem.W.takesIn K (.builtin "object.__class__")=some true)
   (hm:PySem.W.mroIn K C (.type "object")=some true):TyOf K H (.ref a) (.ref C)
theorem zmd{x:V}{u t:Value}(I:Inv X zf σ H s)(rx:RelV x u)(ty:TyOf X.K H x t)(e:PySem.W.kitOne X.K t c=some b)(h:∀ tk,Q (.bool b) { s with toks:=tk }):
  wpAny (model X.prog X.w) A (call (.builtin "isinstance") [u,c]) Q E s:=by
 cases ty with
 | non=>cases (show u=Value.none from rx); exact PySem.W.kia_one PySem.W.kitx_none I.kIn True.intro e (fun z=>nomatch z) h
 | bl y=>cases (show u=Value.bool y from rx); exact PySem.W.kia_one PySem.W.kitx_bool I.kIn True.intro e (fun z=>nomatch z) h
 | int i=>obtain⟨t,q⟩:=(show ∃ t,u=Value.int i t from rx); cases q; exact PySem.W.kia_one PySem.W.kitx_int I.kIn True.intro e (fun z=>nomatch z) h
 | str y=>obtain⟨t,q⟩:=(show ∃ t,u=Value.str y t from rx); cases q; exact PySem.W.kia_one PySem.W.kitx_str I.kIn True.intro e (fun z=>nomatch z) h
 | flt y=>obtain⟨t,q⟩:=(show ∃ t,u=Value.float y t from rx); cases q; exact PySem.W.kia_one PySem.W.kitx_float I.kIn True.intro e (fun z=>nomatch z) h
 | @lst a xs ea =>
  cases (show u=Value.ref a from rx);obtain⟨_,_,n,_,h1⟩:=(show ObjOk X.prog X.w H s.heap a (.lst xs) from I.hok a _ ea);exact PySem.W.kia_one PySem.W.kitx_list I.kIn ⟨_,h1,rfl⟩ e (fun z=>nomatch z) h
 | @frz a ob xs ea =>
  cases (show u=Value.ref a from rx);obtain⟨_,_,_,n,_,h1⟩:=(show ObjOk X.prog X.w H s.heap a (.frz ob (.lst xs)) from I.hok a _ ea);exact PySem.W.kia_one PySem.W.kitx_list I.kIn ⟨_,h1,rfl⟩ e (fun z=>nomatch z) h
 | @tup a xs ea =>
  cases (show u=Value.ref a from rx);obtain⟨_,_,_,p⟩:=(show ObjOk X.prog X.w H s.heap a (.tup xs) from I.hok a _ ea);obtain⟨o,h1,h2,_⟩:=p;exact PySem.W.kia_one PySem.W.kitx_tuple I.kIn ⟨o,h1,h2⟩ e (fun z=>nomatch z) h
 | @dK a kvs ea =>
  cases (show u=Value.ref a from rx);obtain⟨_,_,vs,_,p⟩:=(show ObjOk X.prog X.w H s.heap a (.dK kvs) from ea.ok I.hok);obtain⟨o,es,ep,h1,h2,_⟩:=p;exact PySem.W.kia_one PySem.W.kitx_dict I.kIn ⟨o,h1,h2.1⟩ e (fun z=>nomatch z) h
 | @dT a kvs ea =>
  cases (show u=Value.ref a from rx);obtain⟨_,_,xs,_,o,es,ep,h1,h2,_⟩:=(show ObjOk X.prog X.w H s.heap a (.dT kvs) from I.hok a _ ea);exact PySem.W.kia_one PySem.W.kitx_dict I.kIn ⟨o,h1,h2.1⟩ e (fun z=>nomatch z) h
 | @ins a C dx fs ea cl ha hn htk hm =>
  cases (show u=Value.ref a from rx);obtain⟨mA,O,_⟩:=zoP I.hok ea;obtain⟨od,J,_⟩:=O.look;exact PySem.W.kia_one (PySem.W.kitx_own (cl.get _) cl.hd ha hn htk hm) I.kIn J e (fun z=>nomatch z) h
end
end
section
structure Room(k:Nat)(A:Around):Prop where
 hd:A.handled=none
 dp:A.depth+3*k+5<recursionLimit
 un:A.units+16*k+200<cLine
theorem Room.mono{j k:Nat}{A:Around}(r:Room k A)(h:j<=k):Room j A:=⟨r.hd,by have:=r.dp; omega,by have:=r.un; omega⟩
theorem Room.deeper{k:Nat}{A:Around}(r:Room (k+1) A)(env:Env):Room k (A.deeper env) :=
 ⟨r.hd,by have:=r.dp; show A.depth+1+3*k+5<_; omega,by have:=r.un; show A.units+3+16*k+200<_; omega⟩
theorem zj7{A:Around}{C:Addr}{us:List Value}{kw:List (Str×Value)}:(A.under (.builtin "type.__call__" ⟨.ref C :: us,kw⟩)).depth=A.depth+1:=by
 first | rfl | simp [Around.under,Code.weight,Code.isCreation,Code.isGuard,Code.isCaller,Code.frames,Code.isFrame,guardIds]
theorem zjW{A:Around}{C:Addr}{us:List Value}{kw:List (Str×Value)}:(A.under (.builtin "type.__call__" ⟨.ref C :: us,kw⟩)).units=A.units+1:=by
 first | rfl | simp [Around.under,Code.cUnits,Code.frames,Code.isFrame]
theorem Room.make{k:Nat}{A:Around}(r:Room (k+1) A)(C:Addr)(us:List Value)(kw:List (Str×Value)):Room k (A.under (.builtin "type.__call__" ⟨.ref C :: us,kw⟩)) :=
 ⟨r.hd,by have:=r.dp; rw [zj7]; omega,by have:=r.un; rw [zjW]; omega⟩
theorem Room.depth{k:Nat}{A:Around}(r:Room k A):A.depth<recursionLimit:=by have:=r.dp; omega
theorem Room.units{k:Nat}{A:Around}(r:Room k A):A.units+64<cLine:=by have:=r.un; omega
def zpF:TA:=fun _ H Q=>Q [] H
def zjF(ta:TE)(tr:TA):TA:=fun σ H Q=>ta σ H fun x H1=>tr σ H1 fun xs H2=>Q (x :: xs) H2
section
variable {X:Cx} {e:Expr} {es:List Expr} {te:TE} {t:TA} {pos:Pos}
theorem zh:PA X [] zpF:=fun _ _ _ _ H Q I h=>Calls.spliced_nil ⟨[],H,I,.nil,h⟩
theorem zc(ha:PE X e te)(hr:PA X es t)(hs:starEach (e :: es) X.env=(false,eval e X.env) :: starEach es X.env:=by rfl):PA X (e :: es) (zjF te t):=by
 intro pos zf s σ H Q I h;rw [hs];show wpAny _ _ (spliced ((false,eval e X.env) :: backTo pos (starEach es X.env))) _ _ s;refine Calls.spliced_cons (thn (ha zf s σ H _ I h) fun u s1 ⟨x,H1,I1,r1,q1⟩=>?_);exact thn (hr pos zf s1 σ H1 _ I1 q1) fun us s2 ⟨xs,H2,I2,r2,q2⟩=>⟨x :: xs,H2,I2,.cons r1 r2,q2⟩
def zsb(t:TA):TE:=fun σ H Q=>t σ H fun xs H1=>xs.length<=sizeLine/\∀ p,H1 p=none->Q (.ref p) (upd H1 p (.tup xs))
def zpH(t:TA):TE:=fun σ H Q=>t σ H fun xs H1=>xs.length<=sizeLine/\∀ p,H1 p=none->Q (.ref p) (upd H1 p (.lst xs))
theorem za5{x1}(h:PA X es t):PE X (.Tuple es x1 pos) (zsb t):=by
 intro zf s σ H Q I hq;refine wpAny_Tuple_spliced (thn (h pos zf s σ H _ I hq) fun us s1 ⟨xs,H1,I1,r,z,q⟩=>⟨by rw [<- r.length]; exact z,?_⟩);have hf:H1 s1.heap.objs.size=none:=I1.hok.fresh (Nat.le_refl _);refine⟨.ref s1.heap.objs.size,upd H1 s1.heap.objs.size (.tup xs),I1.laid (t':=s1.toks) (fun b u e=>Heap.get?_push_of_some _ e) (Nat.le_refl _) ?_,rfl,q _ hf⟩;exact⟨⟨z,_,Heap.get?_push_size _ rfl,rfl⟩,us,r,⟨_,Heap.get?_push_size _ rfl,rfl,_,rfl⟩⟩
theorem zcN(h:PA X es t):PE X (.List es pos) (zpH t):=by
 intro zf s σ H Q I hq;refine wpAny_List_spliced (thn (h pos zf s σ H _ I hq) fun us s1 ⟨xs,H1,I1,r,z,q⟩=>⟨by rw [<- r.length]; exact z,?_⟩);have hf:H1 s1.heap.objs.size=none:=I1.hok.fresh (Nat.le_refl _);refine⟨.ref s1.heap.objs.size,upd H1 s1.heap.objs.size (.lst xs),I1.laid (t':=s1.toks) (fun b u e=>Heap.get?_push_of_some _ e) (Nat.le_refl _) ?_,rfl,q _ hf⟩;exact⟨z,us,0,r,Heap.get?_push_size _ rfl⟩
end
abbrev Sp:=List V->Hp->VK->XK->Prop
abbrev CXT:=List Env->Hp->Shared->XK->Value->Shared->Prop
structure Env0(P:Program)(w:World)(K:W.Frag)(mg:Str->Option Value)(base:Heap)(A:Around)(outer:List Env)(s:Shared)(H:Hp):Prop where
 frames:A.frames=some outer
 mod:Mod K mg base
 bs:∀ b o,base.get? b=some o->s.heap.get? b=some o/\H b=none
 bsz:base.objs.size<=s.heap.objs.size
 funs:s.heap.FunFrames base outer
 frf:∀ b∈frs outer,H b=none
 hok:HOk P w H s.heap
 bare:AllBare s.gens
def CE(outer:List Env)(P:Program)(w:World)(H:Hp)(s:Shared)(Q:VK)(u:Value)(s':Shared):Prop :=
 ∃ v H',s'.os=s.os/\AllBare s'.gens/\Un (frs outer) [] H H' s.heap s'.heap/\HOk P w H' s'.heap/\RelV v u/\Q v H'
def CR(CX:CXT)(outer:List Env)(P:Program)(w:World)(H:Hp)(s:Shared)(Q:VK)(E:XK)(r:Result)(s':Shared):Prop :=
 match r with
 | .ok (.ret u)=>CE outer P w H s Q u s'
 | .ok _=>False
 | .error e=>CX outer H s E e s'
structure FnOk(P:Program)(w:World)(K:W.Frag)(mg:Str->Option Value)(base:Heap)(CX:CXT)(k:Nat)(f:Addr)(fd:FuncData)(ps:List Str)(sp:Sp):Prop where
 len:∀ vs H Q E,sp vs H Q E->vs.length=ps.length
 run:∀ (A:Around) (outer:List Env) (s:Shared) (H:Hp) (args:Args) (us:List Value) (vs:List V) (Q:VK) (E:XK),Room k A->Env0 P w K mg base A outer s H->BindsTo s fd args (ps.zip us)->Vals vs us->sp vs H Q E ->
  codeAny (model P w) A (.call (.ref f) args) (CR CX outer P w H s Q E) s
theorem Env0.make{P:Program}{w:World}{K:W.Frag}{mg:Str->Option Value}{base:Heap}{A:Around}{outer:List Env}{s:Shared}{H:Hp}(e:Env0 P w K mg base A outer s H)(C:Addr)(us:List Value)(kw:List (Str×Value)):
  Env0 P w K mg base (A.under (.builtin "type.__call__" ⟨.ref C :: us,kw⟩)) outer s H:=⟨by first | exact e.frames | (simpa [Around.under,Code.envs,Code.isFrame,pushEnvs] using e.frames),e.mod,e.bs,e.bsz,e.funs,e.frf,e.hok,e.bare⟩
section
variable {X:Cx} {zf:List (Addr×Obj)} {σ:St} {H:Hp} {s s':Shared}
theorem Inv.env0(I:Inv X zf σ H s):Env0 X.prog X.w X.K X.mg X.base X.A X.stack s H :=
 ⟨I.ok.frames,I.ok.mod,I.bs,Nat.le_trans I.ok.bsz I.sz,I.stack,I.stkFree,I.hok,I.bare⟩
theorem Inv.after{Q:VK}{u:Value}(I:Inv X zf σ H s)(h:CE X.stack X.prog X.w H s Q u s'):EP X zf σ Q u s':=by
 obtain⟨v,H',os,bare,un,hok,r,q⟩:=h;obtain⟨hh,g,d,t,os'⟩:=s';obtain rfl:os'=s.os:=os;exact⟨v,H',I.call (h':=hh) (g':=g) (d':=d) (t':=t) (ch:=[]) un hok bare (fun b z=>absurd z (by simp)),r,q⟩
end
def zgT(sp:Sp)(dvs:List V)(E:XK)(t:TA):TE:=fun σ H Q=>t σ H fun vs H1=>sp (vs++dvs) H1 Q E
def Binds(K:W.Frag)(fd:FuncData)(ps:List Str)(ds:List Value):Prop :=
 ∀ (s:Shared) (us:List Value),K.In s.heap->(us++ds).length=ps.length->BindsTo s fd ⟨us,[]⟩ (ps.zip (us++ds))
theorem Binds.all{K:W.Frag}{fd:FuncData}{ps:List Str}(h:∀ us:List Value,us.length=ps.length->bindArgs fd ⟨us,[]⟩=pure (ps.zip us)):Binds K fd ps []:=fun s us _ hl=>by
 rw [List.append_nil] at hl ⊢;exact .of_eq (h us hl)
def Passes(CX:CXT)(X:Cx)(E:XK):Prop:=∀ (zf:List (Addr×Obj)) (σ:St) (H:Hp) (s:Shared) (e:Value) (s':Shared),Inv X zf σ H s->CX X.stack H s E e s'->X.xe e s'
section
variable {X:Cx} {CX:CXT} {k:Nat} {f C:Addr} {fd:FuncData} {ps:List Str} {sp:Sp} {dvs:List V} {ds:List Value} {E:XK} {x m:Str} {p pos apos:Pos} {e o:Expr} {es:List Expr} {ta:TE} {t:TA}
theorem zqY{zf:List (Addr×Obj)}{σ:St}{H:Hp}{s:Shared}{Q:VK}{us:List Value}{vs:List V}(F:FnOk X.prog X.w X.K X.mg X.base CX k f fd ps sp)(hr:Room k X.A)(hb:Binds X.K fd ps ds)(hd:Vals dvs ds)(hx:Passes CX X E)
  (I:Inv X zf σ H s) (r:Vals vs us) (h:sp (vs++dvs) H Q E):wpAny (model X.prog X.w) X.A (call (.ref f) us) (EP X zf σ Q) X.xe s:=by
 have r2:Vals (vs++dvs) (us++ds):=r.append hd;have hl:(us++ds).length=ps.length:=by rw [<- r2.length]; exact F.len _ _ _ _ h
 refine wpAny_call (codeAny_mono (F.run X.A X.stack s H ⟨us,[]⟩ (us++ds) (vs++dvs) Q E hr I.env0 (hb s us I.kIn hl) r2 h) fun r s' hq=>?_);cases r with
 | error e=>exact hx zf σ H s e s' I hq
 | ok fl =>
  cases fl with
  | ret u=>exact I.after hq
  | next=>exact False.elim hq
  | brk=>exact False.elim hq
  | cont=>exact False.elim hq
theorem zit(F:FnOk X.prog X.w X.K X.mg X.base CX k f fd ps sp)(hr:Room k X.A)(hg:Gl X x)(hm:X.mg x=some (.ref f))(hk:PySem.W.keepIn X.K (.ref f)=true)(hb:Binds X.K fd ps ds)(hd:Vals dvs ds)(hx:Passes CX X E)
  (ha:PA X (e :: es) t) (hdb:(x == ("__debug__":Str))=false:=by decide) (he:starEach (e :: es) X.env=(false,eval e X.env) :: starEach es X.env:=by rfl) (hpl:(backTo pos (starEach es X.env)).any (·.1)=false:=by rfl) :
  PE X (.Call (.Name x p) (e :: es) [] pos) (zgT sp dvs E t):=by
 intro zf s σ H Q I h;refine wpAny_Call_Name_kw (zeW I hg hm ?_ hdb);refine PySem.W.callWith_K (h₀:=X.base) I.ok.mod.kin hk (thn (ha pos zf s σ H _ I h) fun us s1 ⟨vs,H1,I1,r,q⟩=>⟨I1.kIn,?_⟩) he hpl;exact zqY F hr hb hd hx I1 r q
end
structure FnScope(N P:List Str)(sc:Scope):Prop where
 kind:sc.kind=.function
 co:sc.isCoroutine=false
 gen:sc.isGenerator=false
 nd:N.Nodup
 pre:N.take P.length=P
 par:∀ x∈P,sc.names.lookup x=some .local\/sc.names.lookup x=some .cell
 nofree:∀ y∈sc.names,y.2≠.free
theorem zg4{kindOf:Str->Option NameKind}{x:Str}:∀ {binds:List (Str×Value)} {m:Str->Option Value},(∀ v,(x,v)∉binds)->bindL kindOf binds m x=m x
 | [],_,_=>rfl
 | (n,v) :: r,m,h=>by
  unfold bindL;rw [zg4 fun w hw=>h w (List.mem_cons_of_mem _ hw)];split
  ·have:x≠n:=by rintro rfl; exact h v List.mem_cons_self
   simp [this]
  ·rfl
theorem zhc{kindOf:Str->Option NameKind}{x:Str}:∀ {binds:List (Str×Value)} {m:Str->Option Value},(∀ v,(x,v)∉binds)->bindC kindOf binds m x=m x
 | [],_,_=>rfl
 | (n,v) :: r,m,h=>by
  unfold bindC;rw [zhc fun w hw=>h w (List.mem_cons_of_mem _ hw)];split
  ·rfl
  ·have:x≠n:=by rintro rfl; exact h v List.mem_cons_self
   simp [this]
theorem zgU{kindOf:Str->Option NameKind}{x:Str}{v:Value}:∀ {P:List Str} {vs:List Value} {i:Nat} {m:Str->Option Value},P.Nodup->P[i]? = some x->vs[i]? = some v->kindOf x=some .local ->
  bindL kindOf (P.zip vs) m x=some v
 | [],_,_,_,_,h,_,_=>by simp at h
 | _ :: _,[],_,_,_,_,h,_=>by simp at h
 | p :: P,w :: vs,0,m,nd,h1,h2,hk=>by
  simp at h1 h2; subst h1; subst h2;show bindL kindOf ((p,w) :: P.zip vs) m p=_;unfold bindL;rw [zg4 fun v hv=>(List.nodup_cons.mp nd).1 (List.of_mem_zip hv).1,if_pos hk];simp
 | p :: P,w :: vs,i+1,m,nd,h1,h2,hk=>by
  show bindL kindOf ((p,w) :: P.zip vs) m x=_;unfold bindL;exact zgU (i:=i) (List.nodup_cons.mp nd).2 (by simpa using h1) (by simpa using h2) hk
theorem zgZ{kindOf:Str->Option NameKind}{x:Str}{v:Value}:∀ {P:List Str} {vs:List Value} {i:Nat} {m:Str->Option Value},P.Nodup->P[i]? = some x->vs[i]? = some v->kindOf x≠some .local ->
  bindC kindOf (P.zip vs) m x=some v
 | [],_,_,_,_,h,_,_=>by simp at h
 | _ :: _,[],_,_,_,_,h,_=>by simp at h
 | p :: P,w :: vs,0,m,nd,h1,h2,hk=>by
  simp at h1 h2; subst h1; subst h2;show bindC kindOf ((p,w) :: P.zip vs) m p=_;unfold bindC;rw [zhc fun v hv=>(List.nodup_cons.mp nd).1 (List.of_mem_zip hv).1,if_neg hk];simp
 | p :: P,w :: vs,i+1,m,nd,h1,h2,hk=>by
  show bindC kindOf ((p,w) :: P.zip vs) m x=_;unfold bindC;exact zgZ (i:=i) (List.nodup_cons.mp nd).2 (by simpa using h1) (by simpa using h2) hk
def start(N:List Str)(vs:List V):St:=vs.map some++List.replicate (N.length - vs.length) none
def zhk(CX:CXT)(P:Program)(w:World)(K:W.Frag)(mg:Str->Option Value)(base:Heap)(N:List Str)(qual:Str)(scope:Scope)(f:Addr)(cd:Value)(A:Around)(outer:List Env)(s:Shared)(H:Hp)(E:XK):Cx where
 prog:=P
 w:=w
 K:=K
 mg:=mg
 base:=base
 A:=A.deeper (envOfC qual scope s.heap.objs.size f cd)
 N:=N
 s₀:=s
 H₀:=H
 env:=envOfC qual scope s.heap.objs.size f cd
 outer:=outer
 stack:=envOfC qual scope s.heap.objs.size f cd :: outer
 ex:=[]
 calm:=true
 fn:=fun _=>true
 pn:=[]
 xe:=fun e s'=>wpAny (model P w) (A.deeper (envOfC qual scope s.heap.objs.size f cd)) (leaving (envOfC qual scope s.heap.objs.size f cd) e) (fun _ s''=>CX outer H s E e s'') (fun e' s''=>CX outer H s E e' s'') s'
theorem zi3{sc:Scope}{n:Nat}{x:Str}(h:sc.names.lookup x=some .cell):∃ c,(cellsFrom n sc.names []).lookup x=some c:=by
 have q:=PySem.W.cellsFrom_some sc.names n [] (.inl h);exact Option.isSome_iff_exists.mp q
theorem zgW{CX:CXT}{P:Program}{w:World}{K:W.Frag}{mg:Str->Option Value}{base:Heap}{N ps:List Str}{qual:Str}{scope:Scope}{f:Addr}{cd:Value}{A:Around}{outer:List Env}{s s1:Shared}{H:Hp}{E:XK}{us:List Value}{vs:List V}
  (S:FnScope N ps scope) (hd:A.handled=none) (e0:Env0 P w K mg base A outer s H) (hl:vs.length=ps.length) (r:Vals vs us)
  (x:InCallC s s.heap.objs.size (bindL (envOfC qual scope s.heap.objs.size f cd).kindOf (ps.zip us) fun _=>none) (cellsFrom (s.heap.objs.size+1) scope.names []) (bindC (envOfC qual scope s.heap.objs.size f cd).kindOf (ps.zip us) fun _=>none) s1) :
  Inv (zhk CX P w K mg base N qual scope f cd A outer s H E) [] (start N vs) H s1:=by
 have hpl:ps.length<=N.length:=by have:=congrArg List.length S.pre; rw [List.length_take] at this; omega
 obtain⟨h1,tk,rfl,hk⟩:=x.done;have noA:∀ b:Addr,b∉(zhk CX P w K mg base N qual scope f cd A outer s H E).ex:=fun b z=>absurd (show b∈([]:List Addr) from z) (by simp);refine⟨⟨e0.mod,S.kind,rfl,rfl,Nat.le_refl _,fun y z c h1 h2=>?_,fun y hy=>?_,fun y c _ h=>?_,fun _=>hd,Around.frames_deeper e0.frames,.inr ⟨rfl,rfl⟩,fun b z=>absurd z (noA b),e0.bs,e0.bsz,fun b _ _=>noA b,fun b z=>absurd z (noA b),e0.funs,e0.frf⟩,
  rfl,e0.bare,Un.kept hk,⟨_,x.toInCall.ns,fun i y v h1 h2 h3=>?_⟩,fun y c h=>⟨_,x.cell y c h⟩,e0.hok.fresh (Nat.le_refl _),fun y c h=>?_,fun p hp=>absurd (show p∈([]:List (Addr×Obj)) from hp) (by simp),e0.hok.kept hk,?_⟩
 ·exact name_of_addr x.apart (PySem.mem_of_lookup h1) (PySem.mem_of_lookup h2)
 ·have hy:scope.names.lookup y=some .cell\/scope.names.lookup y=some .free:=hy;rcases hy with hy | hy
  ·exact zi3 hy
  ·exact absurd rfl (S.nofree _ (PySem.mem_of_lookup hy))
 ·exact Nat.le_of_lt (x.above y c (PySem.mem_of_lookup h))
 ·have hi:i<vs.length:=by
   unfold start at h2;by_cases hi:i<vs.length
   ·exact hi
   ·rw [List.getElem?_append_right (by simpa using hi)] at h2;rw [List.getElem?_replicate] at h2;split at h2 <;> cases h2
  have ha:vs[i]? = some v:=by
   unfold start at h2;rw [List.getElem?_append_left (by simpa using hi),List.getElem?_map] at h2;cases e:vs[i]? with
   | none=>rw [e] at h2; cases h2
   | some a=>rw [e] at h2; cases h2; rfl
  obtain⟨u,hu,rv⟩:=r.get ha;have hp:ps[i]? = some y:=by
   rw [<- S.pre,List.getElem?_take_of_lt (by omega)]; exact h1
  have ndP:ps.Nodup:=by rw [<- S.pre]; exact S.nd.sublist (List.take_sublist _ _)
  refine⟨u,rv,?_⟩;rcases S.par y (List.mem_of_getElem? hp) with k | k
  ·exact .inl ⟨k,zgU ndP hp hu k⟩
  ·obtain⟨c,e⟩:=zi3 (n:=s.heap.objs.size+1) k;refine .inr ⟨.inl k,c,e,?_⟩;have q:=x.cell y c e;rw [zgZ ndP hp hu (by show scope.names.lookup y≠_; rw [k]; decide)] at q;exact q
 ·exact e0.hok.fresh (Nat.le_of_lt (x.above y c (PySem.mem_of_lookup h)))
 ·unfold start;show _=N.length;rw [List.length_append,List.length_map,List.length_replicate];omega
theorem zpX{CX:CXT}{P:Program}{w:World}{K:W.Frag}{mg:Str->Option Value}{base:Heap}{k:Nat}{f:Addr}{name qual:Str}{params:Arguments}{body:List Stmt}{scope:Scope}{dV kV doc pm cdv ct oc:Value}{an od:Option Addr}
  {osl:Array (Option Value)} {N ps:List Str} {sp:Sp} (lk:K.lookup f=some ⟨oc,od,.func (PySem.W.fnOf name qual params body scope dV kV doc pm an cdv ct),osl⟩) (hcd:PySem.W.codeIn K cdv qual=true) (S:FnScope N ps scope)
  (len:∀ vs H Q E,sp vs H Q E->vs.length=ps.length)
  (hbody:∀ (A:Around) (outer:List Env) (s:Shared) (H:Hp) (vs:List V) (Q:VK) (E:XK),Room k (A.deeper (envOfC qual scope s.heap.objs.size f cdv))->sp vs H Q E ->
   ∃ t,PSs (zhk CX P w K mg base N qual scope f cdv A outer s H E) body t/\t { nx:=fun _ H'=>Q .non H',rt:=Q } (start N vs) H) :
  FnOk P w K mg base CX (k+1) f (PySem.W.fnOf name qual params body scope dV kV doc pm an cdv ct) ps sp:=by
 refine⟨len,fun A outer s H args us vs Q E hr e0 hb r hsp=>?_⟩;have hl:=len _ _ _ _ hsp;have KX:K.In s.heap:=e0.mod.kin.keeps fun b o e=>(e0.bs b o e).1;have lim:s.heap.NoLimit:=e0.mod.nolimit.keeps fun b o e=>(e0.bs b o e).1;have hkind:∀ y∈ps.zip us,scope.names.lookup y.1=some .local\/(scope.names.lookup y.1=some .cell/\((cellsFrom (s.heap.objs.size+1) scope.names []).lookup y.1).isSome=true):=fun⟨n,v⟩ hy=>by
  rcases S.par n (List.of_mem_zip hy).1 with q | q
  ·exact .inl q
  ·exact .inr ⟨q,PySem.W.cellsFrom_some _ _ _ (.inl q)⟩
 refine codeAny_call_function hr.depth (KX _ _ lk) rfl S.co S.gen rfl (PySem.W.codeRec_of KX hcd) (hb _ _ _ _ ?_);refine wpAny_newFunctionEnv_cells S.kind hkind fun env he s1 x=>?_;subst he;refine⟨lim.keeps x.toInCall.keep,codeAny_func ?_⟩;obtain⟨t,ht,hq⟩:=hbody A outer s H vs Q E (hr.deeper _) hsp;have I:Inv (zhk CX P w K mg base N qual scope f cdv A outer s H E) [] (start N vs) H s1:=zgW S hr.hd e0 hl r x;refine wpAny_mono (ht [] s1 (start N vs) H _ I hq) (fun fl s' hs=>?_) fun e s' hs=>hs;have fin:∀ {σ':St} {H':Hp} {v:V} {u:Value},Inv (zhk CX P w K mg base N qual scope f cdv A outer s H E) [] σ' H' s'->RelV v u->Q v H'->CE outer P w H s Q u s' :=
  fun {σ' H' v u} J rv q=>⟨v,H',J.os,J.bare,J.base,J.hok,rv,q⟩
 cases fl with
 | ret u =>
  obtain⟨v,σ',H',J,rv,q⟩:=hs;exact fin J rv q
 | next =>
  obtain⟨σ',H',J,q⟩:=hs;exact fin (v:=V.non) (u:=Value.none) J rfl q
 | brk =>
  obtain⟨_,_,_,q⟩:=hs;exact False.elim q
 | cont =>
  obtain⟨_,_,_,q⟩:=hs;exact False.elim q
end
section
section
variable {X:Cx} {x:Str} {p pos:Pos} {e:Expr} {es:List Expr} {t:TA} {id T:String} {r:List V->Hp->VK->Prop}
def tCB(r:List V->Hp->VK->Prop)(t:TA):TE:=fun σ H Q=>t σ H fun vs H1=>r vs H1 Q
theorem zt(hc:CallR X (.builtin id) r)(hg:Gl X x)(hm:X.mg x=none)(hv:bootBuiltins x=some (.builtin id))(ha:PA X (e :: es) t)(hn:x ≠ "__name__":=by decide)(hdb:(x == ("__debug__":Str))=false:=by decide)
  (he:starEach (e :: es) X.env=(false,eval e X.env) :: starEach es X.env:=by rfl) (hpl:(backTo pos (starEach es X.env)).any (·.1)=false:=by rfl):PE X (.Call (.Name x p) (e :: es) [] pos) (tCB r t):=by
 intro zf s σ H Q I h;refine wpAny_Call_Name_kw (zcC I hg hm hv ?_ hn hdb);exact PyProof.Rows.callWith_builtin1 (thn (ha pos zf s σ H _ I h) fun us s1 ⟨vs,H1,I1,r1,q1⟩=>hc zf s1 σ H1 vs us Q I1 r1 q1) he hpl
theorem zcO(hc:CallR X (.type T) r)(hg:Gl X x)(hm:X.mg x=none)(hv:bootBuiltins x=some (.type T))(ha:PA X (e :: es) t)(hn:x ≠ "__name__":=by decide)(hdb:(x == ("__debug__":Str))=false:=by decide)
  (he:starEach (e :: es) X.env=(false,eval e X.env) :: starEach es X.env:=by rfl) (hpl:(backTo pos (starEach es X.env)).any (·.1)=false:=by rfl):PE X (.Call (.Name x p) (e :: es) [] pos) (tCB r t):=by
 intro zf s σ H Q I h;refine wpAny_Call_Name_kw (zcC I hg hm hv ?_ hn hdb);exact PyProof.Rows.callWith_type1 (thn (ha pos zf s σ H _ I h) fun us s1 ⟨vs,H1,I1,r1,q1⟩=>hc zf s1 σ H1 vs us Q I1 r1 q1) he hpl
end
end
end L2
namespace HT
open PySem PyProof.Rows
def lexLt:List Int->List Int->Bool
 | [],[]=>false
 | [],_ :: _=>true
 | _ :: _,[]=>false
 | x :: xs,y :: ys=>if x=y then lexLt xs ys else decide (x<y)
theorem lexLt_cons(x y:Int)(xs ys:List Int):lexLt (x :: xs) (y :: ys)=if x=y then lexLt xs ys else decide (x<y):=rfl
theorem zf5:lexLt [] []=false:=rfl
theorem zfj(y:Int)(ys:List Int):lexLt [] (y :: ys)=true:=rfl
theorem zfc(x:Int)(xs:List Int):lexLt (x :: xs) []=false:=rfl
theorem zmP(A:Around)(s:Shared)(a:Int)(t:Tok)(c:Int)(u:Tok):∃ e,SeqAt.EqAt A s (.int a t) (.int c u) e/\(e=true↔a=c) :=
 ⟨(a == c),SeqAt.EqAt.int_int a t c u,by simp⟩
theorem zm5(A:Around)(s:Shared)(a:Int)(t:Tok)(c:Int)(u:Tok)(prog:Program)(w:World)(E:Value->Shared->Prop)(Q:Value->Shared->Prop)(h:Q (.bool (decide (a<c))) s):
  wpAny (model prog w) A (richCompare .Lt (.int a t) (.int c u)) Q E s :=
 (PyProof.Rows.lt_int h:wpAny (model prog w) A (compareOp .Lt (.int a t) (.int c u)) Q E s)
section
open PySem.SeqAt
open PySem.AutoSeq1 (wpAny_loadPart')
open PySem.MeetsSeq PySem.MeetsSeq2 PySem.MeetsSeq3
theorem zgs(l b:Addr)(items items2:Array Value)(n n2:Nat)(dd dd2:Option Addr)(sl sl2:Array (Option Value))(ns ms:List Int)(hi:IntsAre items.toList ns)(hj:IntsAre items2.toList ms):
  Meets (Builtin.«tuple.__lt__» ⟨[.ref l,.ref b],[]⟩)
   (fun _ R s=>s.heap.get? l=some { cls:=.type "tuple",dict:=dd,data:=.seq items n,slots:=sl }/\s.heap.get? b=some { cls:=.type "tuple",dict:=dd2,data:=.seq items2 n2,slots:=sl2 } /\
    R (.ok (.ret (.bool (lexLt ns ms)))) s) :=
 .of_wp fun prog w A R s h=>by
  obtain⟨hp,g,d,tk,os⟩:=s; obtain⟨hl,hb,h⟩:=h;have f2:=AutoSeq1.sub_tuple_tuple;have z1:items.size=ns.length:=by rw [<- hi.length]; simp
  have z2:items2.size=ms.length:=by rw [<- hj.length]; simp
  wp_walk using wpAny_loadPart' hl,wpAny_loadPart' hb,wpAny_forIn_list _ (fun rest b s'=>b.1=none/\s'=⟨hp,g,d,tk,os⟩/\∃ (vs ws:List Value) (ns' ms':List Int),rest=vs.zip ws /\
   IntsAre vs ns'/\IntsAre ws ms'/\ns'.length+items2.size=ms'.length+items.size/\R (.ok (.ret (.bool (lexLt ns' ms')))) ⟨hp,g,d,tk,os⟩) _
  case turn =>
   rintro⟨y,x⟩ rest b s' ⟨hb',rfl,vs,ws,ns',ms',hz,hvi,hwi,hlen,hR⟩;cases hvi with
   | nil=>rw [List.zip_nil_left] at hz; cases hz
   | cons a t hvi' =>
    cases hwi with
    | nil=>rw [List.zip_nil_right] at hz; cases hz
    | cons c u hwi' =>
     rw [List.zip_cons_cons] at hz;injection hz with hyx hrest
     injection hyx with hy hx
     subst hy hx;rw [lexLt_cons] at hR;simp only [List.length_cons] at hlen;obtain⟨e,he,hiff⟩:=zmP A.in1 ⟨hp,g,d,tk,os⟩ a t c u;refine wpAny_bind (he prog w _ _ ?_);cases e with
     | true =>
      rw [if_pos (hiff.mp rfl)] at hR
      wp_walk
      exact⟨rfl,rfl,_,_,_,_,hrest,hvi',hwi',by omega,hR⟩
     | false =>
      rw [if_neg (fun q=>absurd (hiff.mpr q) Bool.false_ne_true)] at hR;have hri:=zm5 A.in1 ⟨hp,g,d,tk,os⟩ a t c u prog w
      wp_walk using hri
      exact⟨_,rfl,by simpa using hR⟩
  case fin =>
   rintro⟨b1,b2⟩ s' ⟨hb',rfl,vs,ws,ns',ms',hz,hvi,hwi,hlen,hR⟩;simp only at hb';subst hb';have hv:lexLt ns' ms'=decide (items.size<items2.size):=by
    cases hvi with
    | nil =>
     cases hwi with
     | nil =>
      simp only [List.length_nil] at hlen;rw [zf5];exact(decide_eq_false (by omega)).symm
     | cons c u hw =>
      simp only [List.length_nil,List.length_cons] at hlen;rw [zfj];exact(decide_eq_true (by omega)).symm
    | cons a t hv =>
     cases hwi with
     | nil =>
      simp only [List.length_nil,List.length_cons] at hlen;rw [zfc];exact(decide_eq_false (by omega)).symm
     | cons c u hw =>
      rw [List.zip_cons_cons] at hz;cases hz
   rw [hv] at hR
   wp_walk
   exact⟨_,rfl,by simpa [Builtin.Tuple.tupleCompareSizes] using hR⟩
  case h =>
   exact⟨rfl,rfl,items.toList,items2.toList,ns,ms,rfl,hi,hj,by omega,h⟩
end
section
variable {prog:Program} {w:World} {A:Around} {E:Value->Shared->Prop} {s:Shared}
theorem lt_tupInts{l b:Addr}{items items2:Array Value}{ns ms:List Int}{Q:Value->Shared->Prop}(hl:IsTup s.heap l items)(hb:IsTup s.heap b items2)(hi:IntsAre items.toList ns)(hj:IntsAre items2.toList ms)
  (hu:A.units<cLine) (h:Q (.bool (lexLt ns ms)) s):wpAny (model prog w) A (compareOp .Lt (.ref l) (.ref b)) Q E s:=by
 obtain⟨⟨cls,dd,data,sl⟩,ho,hc,n,hd⟩:=id hl;obtain⟨⟨cls2,dd2,data2,sl2⟩,ho2,hc2,n2,hd2⟩:=id hb;simp only at hc hd hc2 hd2;subst hc hd hc2 hd2;exact richCompare_meets_room (op:=.Lt) ⟨_,ho,rfl⟩ ⟨_,ho2,rfl⟩ PySem.F.slot_tuple_lt PySem.F.entry_tuple_lt (PySem.F.args_tuple_lt_2 _ _) (zgs l b items items2 n n2 dd dd2 sl sl2 ns ms hi hj)
  ⟨ho,ho2,show Value.bool (lexLt ns ms)≠Value.notImplemented/\Q (.bool (lexLt ns ms)) s from⟨(fun x=>nomatch x),h⟩⟩ hu
theorem cat_tup{t b:Addr}{vs ws:List Value}{Q:Value->Shared->Prop}(ht:IsTup s.heap t vs.toArray)(hb:IsTup s.heap b ws.toArray)(hv:vs≠[])
  (h1:ws=[]->Q (.ref t) s) (h2:ws≠[]->Q (.ref s.heap.objs.size) { s with heap:=s.heap.push { cls:=.type "tuple",data:=.seq (vs++ws).toArray } })
  (hsz:vs.length+ws.length<=sizeLine):wpAny (model prog w) A (binaryOp .Add (.ref t) (.ref b)) Q E s:=by
 obtain⟨⟨cls,dd,data,sl⟩,ho,hc,n,hd⟩:=id ht;obtain⟨⟨cls2,dd2,data2,sl2⟩,ho2,hc2,n2,hd2⟩:=id hb;simp only at hc hd hc2 hd2;subst hc hd hc2 hd2;have e:vs.toArray++ws.toArray=(vs++ws).toArray:=by simp
 by_cases hw:ws=[]
 ·exact concat_meets ⟨_,ho,rfl⟩ ⟨_,ho2,rfl⟩ noFill_tuple_add seq_tuple_add PySem.F.slot_tuple_add PySem.F.entry_tuple_add (PySem.F.args_tuple_add_2 _ _)
   (tuple_addW1 t b vs.toArray ws.toArray n n2 dd dd2 sl sl2 (by simpa using hv) (by simp [hw])) ⟨ho,ho2,h1 hw⟩
 ·refine concat_meets ⟨_,ho,rfl⟩ ⟨_,ho2,rfl⟩ noFill_tuple_add seq_tuple_add PySem.F.slot_tuple_add PySem.F.entry_tuple_add (PySem.F.args_tuple_add_2 _ _)
   (tuple_addW2 t b vs.toArray ws.toArray n n2 dd dd2 sl sl2 (by simpa using hv) (by simpa using hw) (by rw [List.size_toArray,List.size_toArray]; exact hsz)) ⟨ho,ho2,?_⟩
  rw [e];exact h2 hw
def sIx(n d:Nat):Option Int->Nat
 | none=>d
 | some v=>if v<0 then (v+(n:Int)).toNat else min v.toNat n
end
end HT
namespace L2
open PySem PySem.Spec PyProof.Rows
section
abbrev TO:=St->Hp->(Option Int->Hp->Prop)->Prop
def PO(X:Cx)(e:Option Expr)(t:TO):Prop :=
 ∀ (zf:List (Addr×Obj)) (s:Shared) (σ:St) (H:Hp) (Q:Option Int->Hp->Prop),Inv X zf σ H s->t σ H Q ->
  wpAny (model X.prog X.w) X.A (evalPart e X.env) (fun u s'=>∃ o H',Inv X zf σ H' s'/\IsPart u o/\Q o H') X.xe s
def zkC(t:TE):TO:=fun σ H Q=>t σ H fun x H1=>∃ i,x=.int i/\Q (some i) H1
theorem zaW{ns:List Int}:∀ {us:List Value},Vals (ns.map V.int) us->IntsAre us ns:=by
 induction ns with
 | nil=>intro us r; rw [List.map_nil] at r; cases r; exact .nil
 | cons n ns ih =>
  intro us r;rw [List.map_cons] at r;cases r with
  | cons r1 r2 =>
   obtain⟨t,e⟩:=r1;subst e;exact .cons n t (ih r2)
section
variable {X:Cx} {e:Expr} {te:TE} {lo hi:Option Expr} {tl th:TO} {pos p2:Pos}
theorem zk1(h:PE X e te):PO X (some e) (zkC te):=by
 intro zf s σ H Q I hw;rw [evalPart_some];refine thn (h zf s σ H _ I hw) fun u s1 ⟨x,H1,I1,r1,q1⟩=>?_;obtain⟨i,rfl,q⟩:=q1;obtain⟨t,rfl⟩:=r1;exact⟨some i,H1,I1,.int i t,q⟩
def SlR(X:Cx)(r:V->Option Int->Option Int->Hp->VK->Prop):Prop :=
 ∀ (zf:List (Addr×Obj)) (s:Shared) (σ:St) (H:Hp) (x:V) (v vl vu:Value) (lo hi:Option Int) (sl:Addr) (Q:VK),Inv X zf σ H s->RelV x v->s.heap.IsSliceOf sl vl vu .none->IsPart vl lo->IsPart vu hi->r x lo hi H Q ->
  ∃ T id,typeLookup (.type T) "__getitem__" = pure (some (.builtin id))/\s.TypeIs v T/\wpAny (model X.prog X.w) X.A (getItem v (.ref sl)) (EP X zf σ Q) X.xe s
def tSl(r:V->Option Int->Option Int->Hp->VK->Prop)(te:TE)(tl th:TO):TE:=fun σ H Q=>te σ H fun x H1=>tl σ H1 fun l H2=>th σ H2 fun u H3=>r x l u H3 Q
theorem znb{r:V->Option Int->Option Int->Hp->VK->Prop}(hr:SlR X r)(he:PE X e te)(hl:PO X lo tl)(hu:PO X hi th):PE X (.Subscript e (.Slice lo hi none p2) pos) (tSl r te tl th):=by
 intro zf s σ H Q I h;refine Subscript_ (thn (he zf s σ H _ I h) fun v s1 ⟨x,H1,I1,r1,q1⟩=>?_);refine wpAny_Slice (thn (hl zf s1 σ H1 _ I1 q1) fun vl s2 ⟨l,H2,I2,pl,q2⟩=>thn (hu zf s2 σ H2 _ I2 q2) fun vu s3 ⟨u,H3,I3,pu,q3⟩=>?_);rw [evalPart_none];refine wpAny_pure ?_;have I4:Inv X zf σ H3 { s3 with heap:=s3.heap.push { cls:=.type "slice",data:=.fields #[vl,vu,.none] } }:=I3.kept (t':=s3.toks) fun b ob q=>Heap.get?_push_of_some _ q;obtain⟨T,id,hT,ht,hg⟩:=hr zf { s3 with heap:=s3.heap.push { cls:=.type "slice",data:=.fields #[vl,vu,.none] } } σ H3 x v vl vu l u s3.heap.objs.size Q I4 r1 (Heap.IsSliceOf.new ..) pl pu q3;show wpAny (model X.prog X.w) X.A (subscriptTail e (.Slice lo hi none p2) v (.ref s3.heap.objs.size)) (EP X zf σ Q) X.xe { s3 with heap:=s3.heap.push { cls:=.type "slice",data:=.fields #[vl,vu,.none] } };exact tail_any (ops:=[.ref s3.heap.objs.size,v]) ht hT hg (by with_unfolding_all rfl)
def zng(xs:List V)(lo hi:Option Int):List V:=(xs.drop (HT.sIx xs.length 0 lo)).take (HT.sIx xs.length xs.length hi - HT.sIx xs.length 0 lo)
theorem ze9(xs:List V)(lo hi:Option Int):(zng xs lo hi).length<=xs.length:=by
 unfold zng;rw [List.length_take,List.length_drop];omega
def zo4(K:W.Frag):R2:=fun x y H Q=>∃ a b xs ys,x=.ref a/\y=.ref b/\SqT K H a xs/\SqT K H b ys/\xs≠[]/\xs.length+ys.length<=sizeLine /\
 (ys=[]->Q (.ref a) H)/\(ys≠[]->∀ p,H p=none->Q (.ref p) (upd H p (.tup (xs++ys))))
theorem Vals.nil_iff{xs:List V}{us:List Value}(r:Vals xs us):us=[]↔xs=[]:=by
 cases r with
 | nil=>simp
 | cons _ _=>simp
theorem zpj:OpR X (binaryOp .Add) (zo4 X.K):=by
 intro zf s σ H x y v u Q I rx ry h;obtain⟨a,b,xs,ys,rfl,rfl,ha,hb,hx,hz,q1,q2⟩:=h;cases rx;cases ry;obtain⟨its,r1,p1,_⟩:=I.tuple ha;obtain⟨its2,r2,p2,_⟩:=I.tuple hb;refine HT.cat_tup p1 p2 (fun z=>hx (r1.nil_iff.mp z)) (fun z=>⟨.ref a,H,I,rfl,q1 (r2.nil_iff.mp z)⟩) (fun z=>?_) (by rw [<- r1.length,<- r2.length]; exact hz);refine⟨.ref s.heap.objs.size,_,I.laid (t':=s.toks) (o:=.tup (xs++ys)) (fun b ob q=>Heap.get?_push_of_some _ q) (Nat.le_refl _) ?_,rfl,q2 (fun w=>z (r2.nil_iff.mpr w)) _ (I.hok.fresh (Nat.le_refl _))⟩;exact⟨⟨by rw [List.length_append]; exact hz,_,Heap.get?_push_size _ rfl,rfl⟩,_,r1.append r2,IsTup.new _ _⟩
end
end
section
def ixN(n:Nat)(i:Int):Option Nat:=if 0<=i then (if i<n then some i.toNat else none) else if -(n:Int)<=i then some (i+n).toNat else none
def atI{α:Type}(xs:List α)(i:Int):Option α:=(ixN xs.length i).bind fun j=>xs[j]?
theorem zmr{n:Nat}{i:Int}{j:Nat}(h:ixN n i=some j):seqIndex? i n=some j/\j<n/\-(n:Int)<=i/\i<n:=by
 unfold ixN at h;by_cases h0:0<=i
 ·rw [if_pos h0] at h;by_cases h1:i<n
  ·rw [if_pos h1] at h;have e:i.toNat=j:=Option.some.inj h;exact⟨by rw [seqIndex_of h0 h1,e],by omega,by omega,h1⟩
  ·rw [if_neg h1] at h; cases h
 ·rw [if_neg h0] at h;by_cases h1:-(n:Int)<=i
  ·rw [if_pos h1] at h;have e:(i+n).toNat=j:=Option.some.inj h;exact⟨by rw [seqIndex_neg (by omega) h1,e],by omega,h1,by omega⟩
  ·rw [if_neg h1] at h; cases h
theorem zin{α:Type}{xs:List α}{i:Int}{v:α}(h:atI xs i=some v):∃ j,seqIndex? i xs.length=some j/\xs[j]? = some v/\j<xs.length/\-(xs.length:Int)<=i/\i<xs.length:=by
 unfold atI at h;cases e:ixN xs.length i with
 | none=>rw [e] at h; cases h
 | some j =>
  rw [e] at h;obtain⟨h1,h2,h3,h4⟩:=zmr e;exact⟨j,h1,h,h2,h3,h4⟩
theorem zec{α:Type}{xs:List α}{j:Nat}{v:α}(h:xs[j]? = some v):atI xs (j:Int)=some v:=by
 have hj:j<xs.length:=(List.getElem?_eq_some_iff.mp h).1;have e:ixN xs.length (j:Int)=some j:=by
  unfold ixN;rw [if_pos (by omega),if_pos (by omega)]; simp
 unfold atI; rw [e]; exact h
def PlainIx(b:Expr):Prop:=∀ o i,subscripted b false o i=operate [o,i] (getItem o i)
def IxR(X:Cx)(r:R2):Prop :=
 ∀ (value slice:Expr) (zf:List (Addr×Obj)) (s:Shared) (σ:St) (H:Hp) (x y:V) (v u:Value) (Q:VK),Inv X zf σ H s->RelV x v->RelV y u->r x y H Q ->
  subscripted slice false v u=operate [v,u] (getItem v u)->wpAny (model X.prog X.w) X.A (subscriptTail value slice v u) (EP X zf σ Q) X.xe s
def MtR(X:Cx)(id:String)(r:V->List V->Hp->VK->Prop):Prop :=
 ∀ (zf:List (Addr×Obj)) (s:Shared) (σ:St) (H:Hp) (x:V) (xs:List V) (v:Value) (us:List Value) (Q:VK),Inv X zf σ H s->RelV x v->Vals xs us->r x xs H Q ->
  wpAny (model X.prog X.w) X.A (call (.builtin id) (v :: us)) (EP X zf σ Q) X.xe s
section
variable {X:Cx} {a b:Expr} {ta tb:TE} {pos:Pos}
theorem IxR.or{r r':R2}(h:IxR X r)(h':IxR X r'):IxR X (fun x y H Q=>r x y H Q\/r' x y H Q):=by
 intro value slice zf s σ H x y v u Q I rx ry q hs;rcases q with q | q
 ·exact h value slice zf s σ H x y v u Q I rx ry q hs
 ·exact h' value slice zf s σ H x y v u Q I rx ry q hs
theorem za0{r:R2}(hr:IxR X r)(ha:PE X a ta)(hb:PE X b tb)(hs:PlainIx b):PE X (.Subscript a b pos) (tOp r ta tb):=by
 intro zf s σ H Q I h;exact Subscript_ (zrP ha hb I h fun v u s2 x y H2 I2 rx ry q=>hr a b zf s2 σ H2 x y v u Q I2 rx ry q (hs _ _))
def zrX(K:W.Frag):R2:=fun x y H Q=>∃ p xs i v,x=.ref p/\y=.int i/\SqL K H p xs/\atI xs i=some v/\Q v H
def zrV(K:W.Frag):R2:=fun x y H Q=>∃ p xs i v,x=.ref p/\y=.int i/\SqT K H p xs/\atI xs i=some v/\Q v H
def zrR:R2:=fun x y H Q=>∃ z i c,x=.str z/\y=.int i/\z.length<=sizeLine/\atI z.cps.toList i=some c/\Q (.str ⟨#[c]⟩) H
theorem zlY:IxR X (zrX X.K):=by
 intro value slice zf s σ H x y v u Q I rx ry h hs;obtain⟨p,xs,i,z,rfl,rfl,hq,he,q⟩:=h;cases rx;obtain⟨t,rfl⟩:=ry;obtain⟨its,r,pl,hz⟩:=I.list hq;obtain⟨j,h1,h2,h3,h4,h5⟩:=zin he;obtain⟨w,ew,rw'⟩:=r.get h2;have hl:=r.length;have hn:=line63;have fin:EP X zf σ Q w s:=⟨z,H,I,rw',q⟩;by_cases h0:0<=i
 ·have hj:i.toNat=j:=by
   rw [seqIndex_of h0 h5] at h1;exact Option.some.inj h1
  exact item_listR pl.isList h0 (by omega) (by rw [hj]; simpa using ew) fin hs
 ·have hj:(i+(its.toArray.size:Int)).toNat=j:=by
   rw [seqIndex_neg (by omega) h4] at h1;rw [List.size_toArray,<- hl];exact Option.some.inj h1
  exact subscriptTail_builtinR (x:=w) pl.isList.typeIs slot_list_getitem.lookup
   (wpAny_getItem_list_neg (Q:=fun r s'=>r=w/\EP X zf σ Q r s') pl.isList (by omega) (by rw [List.size_toArray] <;> omega) (by omega) (by rw [hj]; simpa using ew) ⟨rfl,fin⟩) hs
theorem zpY:IxR X (zrV X.K):=by
 intro value slice zf s σ H x y v u Q I rx ry h hs;obtain⟨p,xs,i,z,rfl,rfl,hq,he,q⟩:=h;cases rx;obtain⟨t,rfl⟩:=ry;obtain⟨its,r,pl,hz⟩:=I.tuple hq;obtain⟨j,h1,h2,h3,h4,h5⟩:=zin he;obtain⟨w,ew,rw'⟩:=r.get h2;have hl:=r.length;have hn:=line63;have fin:EP X zf σ Q w s:=⟨z,H,I,rw',q⟩;exact subscriptTail_builtinR (x:=w) pl.typeIs slot_tuple_getitem.lookup
  (getItem_tuple (j:=j) (Q:=fun r s'=>r=w/\EP X zf σ Q r s') pl (by omega) (by omega) (by rw [List.size_toArray,<- hl]; exact h1) (by simpa using ew) ⟨rfl,fin⟩) hs
theorem zqt:IxR X zrR:=by
 intro value slice zf s σ H x y v u Q I rx ry h hs;obtain⟨z,i,c,rfl,rfl,hz,he,q⟩:=h;obtain⟨t,rfl⟩:=rx;obtain⟨t',rfl⟩:=ry;obtain⟨j,h1,h2,h3,h4,h5⟩:=zin he;have hl:z.cps.toList.length=z.length:=by simp [Str.length]
 rw [hl] at h1 h4 h5;have hn:=line63;exact tail_any (typeIs_str s z t) slot_str_getitem.lookup (getItem_str (c:=c) (by
  have e1:decide (i < -(2 ^ 63:Int))=false:=decide_eq_false (by omega);have e2:decide (i≥2 ^ 63)=false:=decide_eq_false (by omega);rw [e1,e2,Bool.or_false]) (by rw [h1]; simpa using h2) ⟨.str ⟨#[c]⟩,H,I.tok _,⟨_,rfl⟩,q⟩) hs
def rIx(K:W.Frag):R2:=fun x y H Q=>zrX K x y H Q\/zrV K x y H Q\/zrR x y H Q
theorem zap:IxR X (rIx X.K):=zlY.or (zpY.or zqt)
theorem zjY(its:List Value)(n j:Nat)(u:Value):Obj.mapSeq (·.setIfInBounds j u) { cls:=.type "list",data:=.seq its.toArray n } = { cls:=.type "list",data:=.seq (its.set j u).toArray n }:=by
 simp [Obj.mapSeq]
theorem Inv.lst{zf:List (Addr×Obj)}{σ:St}{H:Hp}{s:Shared}{p:Addr}{xs:List V}(I:Inv X zf σ H s)(h:H p=some (.lst xs)):
  ∃ (its:List Value) (n:Nat),Vals xs its/\s.heap.get? p=some { cls:=.type "list",data:=.seq its.toArray n }/\xs.length<=sizeLine:=by
 obtain⟨z,its,n,r,e⟩:=I.hok p _ h;exact⟨its,n,r,e,z⟩
theorem Inv.lstUpd{zf:List (Addr×Obj)}{σ:St}{H:Hp}{s:Shared}{p:Addr}{xs ys:List V}{its its':List Value}{n n':Nat}{f:Obj->Obj}(I:Inv X zf σ H s)(h:H p=some (.lst xs))
  (ho:s.heap.get? p=some { cls:=.type "list",data:=.seq its.toArray n }) (hf:f { cls:=.type "list",data:=.seq its.toArray n } = { cls:=.type "list",data:=.seq its'.toArray n' }) (r:Vals ys its') (hz:ys.length<=sizeLine) (t:Nat) :
  Inv X zf σ (upd H p (.lst ys)) { s with heap:=s.heap.update p f,toks:=t }:=by
 have e:(s.heap.update p f).get? p=some { cls:=.type "list",data:=.seq its'.toArray n' }:=by
  rw [Heap.get?_update_self f ho (by rw [hf] <;> rfl),hf]
 refine I.write (x:=p) (e:=p) (by rw [h]; trivial) (.inl rfl) (fun b u hb q=>(Heap.get?_update_other _ _ (Ne.symm hb)).trans q) ⟨_,e⟩ ?_;exact⟨hz,its',n',r,e⟩
def zpT:V->V->V->Hp->(Hp->Prop)->Prop:=fun o i v H Q=>∃ p xs k j,o=.ref p/\i=.int k/\H p=some (.lst xs)/\ixN xs.length k=some j/\Q (upd H p (.lst (xs.set j v)))
theorem ziB:PSet X zpT:=by
 intro zf s σ H o i v ov iv u Q I ro ri rv h;obtain⟨p,xs,k,j,rfl,rfl,hp,hj,q⟩:=h;cases ro;obtain⟨t,rfl⟩:=ri;obtain⟨its,n,r,ho,hz⟩:=I.lst hp;obtain⟨h1,h2,h3,h4⟩:=zmr hj;have hl:=r.length;have hn:=line63;have I':Inv X zf σ (upd H p (.lst (xs.set j v))) { s with heap:=s.heap.update p (Obj.mapSeq (·.setIfInBounds j u)) } :=
  I.lstUpd hp ho (zjY its n j u) (r.set rv j) (by rw [List.length_set]; exact hz) s.toks
 by_cases h0:0<=k
 ·have hk:k.toNat=j:=by
   rw [seqIndex_of h0 h4] at h1;exact Option.some.inj h1
  exact PySem.W.ki_setAt ho h0 (by omega) (by rw [List.size_toArray,<- hl]; exact h4) (by rw [hk]; exact⟨_,I',q⟩)
 ·have hk:(k+(its.toArray.size:Int)).toNat=j:=by
   rw [seqIndex_neg (by omega) h3] at h1;rw [List.size_toArray,<- hl];exact Option.some.inj h1
  exact PySem.W.ki_setBack ho (by omega) (by rw [List.size_toArray,<- hl]; exact h3) (by omega) (by rw [hk]; exact⟨_,I',q⟩)
theorem zg1(lo hi:Option Int)(n:Nat):(sliceBounds lo hi none n).1=((HT.sIx n 0 lo:Nat):Int)/\(sliceBounds lo hi none n).2.1=((HT.sIx n n hi:Nat):Int)/\(sliceBounds lo hi none n).2.2=1:=by
 refine⟨?_,?_,rfl⟩
 ·cases lo with
  | none=>simp [sliceBounds,HT.sIx]
  | some i =>
   simp only [sliceBounds,HT.sIx,Option.getD_none,show (1:Int)>0 by decide,if_true];by_cases h:i<0
   ·simp only [h,if_true] <;> omega
   ·simp only [h,if_false] <;> omega
 ·cases hi with
  | none=>simp [sliceBounds,HT.sIx]
  | some i =>
   simp only [sliceBounds,HT.sIx,Option.getD_none,show (1:Int)>0 by decide,if_true];by_cases h:i<0
   ·simp only [h,if_true] <;> omega
   ·simp only [h,if_false] <;> omega
theorem zgo(its:List Value)(lo hi:Option Int):slicePick its.toArray lo hi none=((its.drop (HT.sIx its.length 0 lo)).take (HT.sIx its.length its.length hi - HT.sIx its.length 0 lo)).toArray:=by
 obtain⟨h1,h2,h3⟩:=zg1 lo hi its.toArray.size;unfold slicePick;rw [h1,h2,h3];simp only [sliceRange_one,pick_run,List.size_toArray] <;> rfl
def zrO(K:W.Frag):V->Option Int->Option Int->Hp->VK->Prop:=fun x lo hi H Q=>∃ a xs,x=.ref a/\SqL K H a xs/\∀ p,H p=none->Q (.ref p) (upd H p (.lst (zng xs lo hi)))
theorem zpg:SlR X (zrO X.K):=by
 intro zf s σ H x v vl vu lo hi sl Q I rx hs pl pu h;obtain⟨a,xs,rfl,hx,q⟩:=h;cases rx;obtain⟨its,r,ht,hz⟩:=I.list hx;have hlen:=r.length;refine⟨"list",_,slot_list_getitem.lookup,ht.isList.typeIs,?_⟩;refine wpAny_getItem_list_slice ht.isList hs pl pu .none (by simp) ?_ (by rw [List.size_toArray] <;> omega);rw [zgo,<- hlen];refine⟨.ref s.heap.objs.size,_,I.laid (t':=s.toks) (o:=.lst (zng xs lo hi)) (fun b ob q=>Heap.get?_push_of_some _ q) (Nat.le_refl _) ?_,rfl,q _ (I.hok.fresh (Nat.le_refl _))⟩;exact⟨Nat.le_trans (ze9 xs lo hi) hz,_,0,(r.drop (HT.sIx xs.length 0 lo)).take (HT.sIx xs.length xs.length hi - HT.sIx xs.length 0 lo),Heap.get?_push_size _ rfl⟩
theorem zek:CallR X (.builtin "len") (fun xs H Q=>∃ p ys,xs=[.ref p]/\(SqL X.K H p ys\/SqT X.K H p ys)/\Q (.int ys.length) H):=by
 intro zf s σ H xs us Q I r h;obtain⟨p,ys,rfl,hq,q⟩:=h;obtain⟨u,rfl,rx⟩:=vals1 r;cases rx;have hn:=line63;rcases hq with hq | hq
 ·obtain⟨its,r',pl,hz⟩:=I.list hq;have hlen:=r'.length;exact Calls.call_len_list pl.isList (by simp only [List.size_toArray] <;> omega) ⟨.int ys.length,H,I.tok _,⟨s.toks+1,by rw [List.size_toArray,hlen]⟩,q⟩
 ·obtain⟨its,r',pl,hz⟩:=I.tuple hq;have hlen:=r'.length;exact len_tuple pl (by simp only [List.size_toArray] <;> omega) ⟨.int ys.length,H,I.tok _,⟨s.toks+1,by rw [List.size_toArray,hlen]⟩,q⟩
theorem zgH:CallR X (.builtin "len") (fun xs H Q=>∃ z,xs=[.str z]/\z.length<=sizeLine/\Q (.int z.length) H):=by
 intro zf s σ H xs us Q I r h;obtain⟨z,rfl,hz,q⟩:=h;obtain⟨u,rfl,t,rfl⟩:=vals1 r;have hn:=line63;exact len_str (by omega) ⟨.int z.length,H,I.tok _,⟨_,rfl⟩,q⟩
theorem CallR.or{f:Value}{r r':List V->Hp->VK->Prop}(h:CallR X f r)(h':CallR X f r'):CallR X f (fun xs H Q=>r xs H Q\/r' xs H Q):=by
 intro zf s σ H xs us Q I rs q;rcases q with q | q
 ·exact h zf s σ H xs us Q I rs q
 ·exact h' zf s σ H xs us Q I rs q
theorem zhn:CallR X (.type "list") (fun xs H Q=>∃ p ys,xs=[.ref p]/\(SqL X.K H p ys\/SqT X.K H p ys)/\∀ l,H l=none->Q (.ref l) (upd H l (.lst ys))):=by
 intro zf s σ H xs us Q I r h;obtain⟨p,ys,rfl,hq,q⟩:=h;obtain⟨u,rfl,rx⟩:=vals1 r;cases rx;have fin:∀ (its:List Value),Vals ys its->ys.length<=sizeLine->∀ (h':Heap) (c':Nat),(∀ b o',s.heap.get? b=some o'->h'.get? b=some o') ->
   h'.get? s.heap.objs.size=some { cls:=.type "list",dict:=none,data:=.seq its.toArray c',slots:=#[] }->EP X zf σ Q (.ref s.heap.objs.size) { s with heap:=h' }:=fun its r' hz h' c' kp e =>
  ⟨.ref s.heap.objs.size,_,I.laid (t':=s.toks) kp (Nat.le_refl _) (show ObjOk X.prog X.w _ h' _ (.lst ys) from⟨hz,its,c',r',e⟩),rfl,q _ (I.hok.fresh (Nat.le_refl _))⟩
 rcases hq with hq | hq
 ·obtain⟨its,r',pl,hz⟩:=I.list hq;have hlen:=r'.length;obtain⟨o,ho,hc,n,hd⟩:=pl.isList;exact call_list_seq p (.inl rfl) ho hc hd (fun h' c' kp e=>fin its r' hz h' c' kp e) (by simp only [List.size_toArray] <;> omega)
 ·obtain⟨its,r',pl,hz⟩:=I.tuple hq;have hlen:=r'.length;obtain⟨o,ho,hc,n,hd⟩:=pl;exact call_list_seq p (.inr rfl) ho hc hd (fun h' c' kp e=>fin its r' hz h' c' kp e) (by simp only [List.size_toArray] <;> omega)
theorem zcm:CallR X (.type "tuple") (fun xs H Q=>∃ p ys,xs=[.ref p]/\((SqL X.K H p ys/\∀ l,H l=none->Q (.ref l) (upd H l (.tup ys)))\/(SqT X.K H p ys/\Q (.ref p) H))):=by
 intro zf s σ H xs us Q I r h;obtain⟨p,ys,rfl,h⟩:=h;obtain⟨u,rfl,rx⟩:=vals1 r;cases rx;rcases h with ⟨hq,q⟩ | ⟨hq,q⟩
 ·obtain⟨its,r',pl,hz⟩:=I.list hq;have hlen:=r'.length;refine call_tuple_list pl.isList (fun h' kp=>?_) (by simp only [List.size_toArray] <;> omega);have I1:Inv X zf σ H { s with heap:=h' }:=I.kept (t':=s.toks) kp;have I2:Inv X zf σ (upd H h'.objs.size (.tup ys)) { s with heap:=h'.push { cls:=.type "tuple",data:=.seq its.toArray } } :=
   I1.laid (t':=s.toks) (fun b o e=>Heap.get?_push_of_some _ e) (Nat.le_refl _) (show ObjOk X.prog X.w _ _ _ (.tup ys) from⟨⟨hz,_,Heap.get?_push_size _ rfl,rfl⟩,its,r',IsTup.new _ _⟩)
  exact⟨.ref h'.objs.size,_,I2,rfl,q _ (I1.hok.fresh (Nat.le_refl _))⟩
 ·obtain⟨its,r',pl,hz⟩:=I.tuple hq;exact call_tuple_same pl ⟨.ref p,H,I,rfl,q⟩
def tyV(K:W.Frag)(T:String)(x:V)(H:Hp):Prop:=match x with
 | .str _=>T = "str"
 | .int _=>T = "int"
 | .ref p=>(T = "list"/\∃ xs,SqL K H p xs)\/(T = "tuple"/\∃ o,K.lookup p=some o/\o.cls=.type "tuple"/\o.dict=none) \/
   (T = "dict"/\((∃ kvs,H p=some (.dK kvs))\/∃ kvs,H p=some (.dT kvs)))\/(T = "set"/\∃ S n,H p=some (.set S n))
 | _=>False
theorem zpL{zf:List (Addr×Obj)}{σ:St}{H:Hp}{s:Shared}{T:String}{x:V}{v:Value}(I:Inv X zf σ H s)(r:RelV x v)(ty:tyV X.K T x H):
  s.TypeIs v T/\∀ a,v=.ref a->∃ ob,s.heap.get? a=some ob/\ob.dict=none:=by
 cases x with
 | str z =>
  obtain⟨t,rfl⟩:=r;cases (show T = "str" from ty);exact⟨typeIs_str s z t,fun _ e=>nomatch e⟩
 | int i =>
  obtain⟨t,rfl⟩:=r;cases (show T = "int" from ty);exact⟨typeIs_int s i t,fun _ e=>nomatch e⟩
 | ref p =>
  cases r;rcases ty with ⟨rfl,xs,hq⟩ | ⟨rfl,o,hk,hc,hd⟩ | ⟨rfl,hk⟩ | ⟨rfl,S,n,hk⟩
  ·obtain⟨its,_,pl,_⟩:=I.list hq;refine⟨pl.isList.typeIs,fun a e=>?_⟩;cases e;obtain⟨o,n,e,c,hd,_⟩:=pl;exact⟨o,e,hd⟩
  ·refine⟨⟨o,I.kIn p o hk,hc⟩,fun a e=>?_⟩;cases e;exact⟨o,I.kIn _ o hk,hd⟩
  ·have z:∃ o,s.heap.get? p=some o/\o.ExactDict:=by
    rcases hk with ⟨kvs,hk⟩ | ⟨kvs,hk⟩
    ·obtain⟨_,_,_,_,o,_,_,e,ex,_⟩:=I.hok p _ hk;exact⟨o,e,ex⟩
    ·obtain⟨_,_,_,_,o,_,_,e,ex,_⟩:=I.hok p _ hk;exact⟨o,e,ex⟩
   obtain⟨o,e,ex⟩:=z;refine⟨⟨o,e,ex.1⟩,fun a e2=>?_⟩;cases e2;exact⟨o,e,ex.2.1⟩
  ·obtain⟨o,_,_,_,e,ex,_⟩:=I.hok p _ hk;refine⟨⟨o,e,ex.1⟩,fun a e2=>?_⟩;cases e2;exact⟨o,e,ex.2.1⟩
 | _=>exact False.elim ty
def tBM(K:W.Frag)(T:String)(r:V->List V->Hp->VK->Prop)(to:TE)(t:TA):TE:=fun σ H Q=>to σ H fun x H1=>tyV K T x H1/\t σ H1 fun xs H2=>r x xs H2 Q
variable {o e:Expr} {es:List Expr} {to:TE} {t:TA} {name:Str} {apos cpos:Pos} {T id:String} {r:V->List V->Hp->VK->Prop}
theorem znN(pa:PlainAttrs T)(slot:Slot T name id)(hty:typeOf (.builtin id)=pure (.type "method_descriptor"))(hm:MtR X id r)(ho:PE X o to)(ha:PA X (e :: es) t)
  (hbase:attributeBase o name X.env (eval o X.env)=eval o X.env:=by rfl)
  (hfew:((backTo cpos (starEach (e :: es) X.env)).all (fun x=>!x.1) && (backToKw cpos (keywordEach [] X.env)).all (fun x=>x.1.isSome)
   && decide ((e :: es).length+([]:List Keyword).length+(if ([]:List Keyword).isEmpty then 0 else 1)<30))=true:=by rfl)
  (hline:(apos.endLine == cpos.line)=true:=by rfl) (hs:starEach (e :: es) X.env=(false,eval e X.env) :: starEach es X.env:=by rfl) (hplain:(backTo cpos (starEach es X.env)).any (·.1)=false:=by rfl) :
  PE X (.Call (.Attribute o name apos) (e :: es) [] cpos) (tBM X.K T r to t):=by
 intro zf s σ H Q I h;refine wpAny_Call_method_late hbase hfew hline rfl (thn (ho zf s σ H _ I h) fun v s1 ⟨x,H1,I1,r1,ty,q1⟩=>?_);obtain⟨h1,h2⟩:=zpL I1 r1 ty;refine⟨T,id,pa,slot,hty,h1,h2,?_⟩;have hA:=ha cpos zf s1 σ H1 _ I1 q1;rw [hs] at hA ⊢;refine Calls.callWith_builtin (by show (false || (backTo cpos (starEach es X.env)).any (·.1))=false; rw [hplain] <;> rfl) (Calls.evalArgs_plain ?_);exact thn hA fun us s2 ⟨vs,H2,I2,r2,q2⟩=>hm zf s2 σ H2 x vs v us Q I2 r1 r2 q2
end
end
section
def MtM(X:Cx)(id:String)(r:V->List V->Hp->VK->Prop):Prop :=
 ∀ (zf:List (Addr×Obj)) (s:Shared) (σ:St) (H:Hp) (x:V) (xs:List V) (v:Value) (us:List Value) (Q:VK),Inv X zf σ H s->RelV x v->Vals xs us->r x xs H Q ->
  wpAny (model X.prog X.w) X.A (call (.builtin id) (v :: us)) (EP X zf σ Q) X.xe s
theorem Vals.one:∀ {x:V} {us:List Value},Vals [x] us->∃ u,us=[u]/\RelV x u
 | _,_,.cons r .nil=>⟨_,rfl,r⟩
theorem Vals.rep{xs:List V}{us:List Value}(h:Vals xs us):∀ k:Nat,Vals (List.replicate k xs).flatten (List.replicate k us).flatten
 | 0=>.nil
 | k+1=>by
  rw [List.replicate_succ,List.replicate_succ,List.flatten_cons,List.flatten_cons];exact Vals.append h (Vals.rep h k)
theorem zg8(its:List Value):∀ (k:Nat) (acc:List Value),
  List.foldl (fun x1 x2=>x1++x2) acc.toArray (List.replicate k its.toArray)=(acc++(List.replicate k its).flatten).toArray
 | 0,acc=>by simp
 | k+1,acc=>by
  have e:acc.toArray++its.toArray=(acc++its).toArray:=by simp
  have e2:(acc++its)++(List.replicate k its).flatten=acc++(List.replicate (k+1) its).flatten:=by
   rw [List.replicate_succ,List.flatten_cons,List.append_assoc]
  rw [<- e2,<- zg8 its k (acc++its),<- e,List.replicate_succ,List.foldl_cons]
section
variable {X:Cx} {zf:List (Addr×Obj)} {σ:St} {H:Hp} {s:Shared} {l b:Addr} {xs ys zs:List V}
theorem Inv.lset{its its':List Value}{n:Nat}{f:Array Value->Array Value}{t':Nat}(I:Inv X zf σ H s)(hH:H l=some (.lst xs))
  (e:s.heap.get? l=some { cls:=.type "list",data:=.seq its.toArray n }) (hf:f its.toArray=its'.toArray) (hv:Vals ys its') (hz:ys.length<=sizeLine) :
  Inv X zf σ (upd H l (.lst ys)) { s with heap:=s.heap.update l (Obj.mapSeq f),toks:=t' }:=by
 have q:=PySem.IsL.update e f;rw [hf] at q;refine I.write (x:=l) (e:=l) (by rw [hH]; exact trivial) (.inl rfl) (fun b' u hb hu=>(Heap.get?_update_other s.heap (Obj.mapSeq f) (Ne.symm hb)).trans hu) ⟨_,q⟩ ?_;exact⟨hz,its',_,hv,q⟩
theorem Inv.lnew{its:List Value}{t':Nat}(I:Inv X zf σ H s)(hv:Vals ys its)(hz:ys.length<=sizeLine):
  Inv X zf σ (upd H s.heap.objs.size (.lst ys)) { s with heap:=s.heap.push { cls:=.type "list",data:=.seq its.toArray },toks:=t' } :=
 I.laid (fun _ _ q=>Heap.get?_push_of_some _ q) (Nat.le_refl _) ⟨hz,its,0,hv,Heap.get?_push_size _ rfl⟩
theorem Inv.fresh(I:Inv X zf σ H s):H s.heap.objs.size=none:=I.hok.fresh (Nat.le_refl _)
theorem Inv.lstM(I:Inv X zf σ H s)(hH:H l=some (.lst xs)):xs.length<=sizeLine/\∃ (its:List Value) (n:Nat),Vals xs its/\xs.length=its.length/\s.heap.get? l=some { cls:=.type "list",data:=.seq its.toArray n }:=by
 obtain⟨z,its,n,r,e⟩:=I.hok l _ hH;exact⟨z,its,n,r,r.length,e⟩
theorem znE{n:Nat}(h:n<=sizeLine):Builtin.List.listTooLong n=false:=by
 unfold Builtin.List.listTooLong;exact decide_eq_false (by omega)
end
section
variable {X:Cx}
def zkz:V->List V->Hp->VK->Prop:=fun x vs H Q=>∃ l xs y,x=.ref l/\vs=[y]/\H l=some (.lst xs)/\xs.length<sizeLine/\Q .non (upd H l (.lst (xs++[y])))
theorem ze1:MtM X "list.append" zkz:=by
 intro zf s σ H x vs v us Q I rx rv h;obtain⟨l,xs,y,rfl,rfl,hH,hz,q⟩:=h;cases rx;obtain⟨u,rfl,ru⟩:=rv.one;obtain⟨z,its,n,r,hl,e⟩:=I.lstM hH;refine call_meets F.slot_list_append ⟨_,e,rfl⟩ F.entry_list_append (F.args_list_append_2 _ _) (PySem.list_append l its.toArray n u (by rw [List.size_toArray]; omega)) ⟨e,?_⟩;refine⟨.non,_,I.lset (its':=its++[u]) hH e (by simp) (r.append (.cons ru .nil)) ?_,rfl,q⟩;rw [List.length_append,List.length_singleton];omega
def zri:R2:=fun x y H Q=>∃ l b xs zs,x=.ref l/\y=.ref b/\H l=some (.lst xs)/\H b=some (.lst zs)/\xs.length+zs.length<=sizeLine/\∀ p,H p=none->Q (.ref p) (upd H p (.lst (xs++zs)))
theorem zom:OpR X (binaryOp .Add) zri:=by
 intro zf s σ H x y v u Q I rx ry h;obtain⟨l,b,xs,zs,rfl,rfl,hH,hB,hz,q⟩:=h;cases rx;cases ry;obtain⟨z,its,n,r,hl,e⟩:=I.lstM hH;obtain⟨z2,its2,n2,r2,hl2,e2⟩:=I.lstM hB;refine PySem.P.add_list e e2 ?_ (by rw [List.size_toArray,List.size_toArray]; omega);have ea:its.toArray++its2.toArray=(its++its2).toArray:=by simp
 rw [ea];exact⟨.ref _,_,I.lnew (t':=s.toks) (r.append r2) (by rw [List.length_append]; omega),rfl,q _ I.fresh⟩
def zsj:R2:=fun x y H Q=>∃ l k xs,x=.ref l/\y=.int k/\H l=some (.lst xs)/\-(2 ^ 63)<=k/\k<2 ^ 63/\xs.length*k.toNat<=sizeLine /\
 ∀ p,H p=none->Q (.ref p) (upd H p (.lst (List.replicate k.toNat xs).flatten))
theorem zoJ{α:Type}(xs:List α)(k:Nat):(List.replicate k xs).flatten.length=k*xs.length:=by
 induction k with
 | zero=>simp
 | succ k ih=>rw [List.replicate_succ,List.flatten_cons,List.length_append,ih,Nat.succ_mul,Nat.add_comm]
theorem zqH:OpR X (binaryOp .Mult) zsj:=by
 intro zf s σ H x y v u Q I rx ry h;obtain⟨l,k,xs,rfl,rfl,hH,h1,h2,hz,q⟩:=h;cases rx;obtain⟨t,rfl⟩:=ry;obtain⟨z,its,n,r,hl,e⟩:=I.lstM hH;have hlen:its.toArray.size*k.toNat<=sizeLine:=by rw [List.size_toArray,<- hl]; exact hz
 have hcap:¬ its.toArray.size*k.toNat>(2 ^ 63 - 1) / 8:=by
  have:(sizeLine:Nat)<=(2 ^ 63 - 1) / 8:=by decide
  omega
 have hfit:¬ (!Builtin.List.listFitsIndex k)=true:=by
  rw [fitsIndex_both h1 h2];exact Bool.false_ne_true
 have hlong:¬ Builtin.List.listTooLong (its.toArray.size*k.toNat)=true:=by
  rw [znE hlen];exact Bool.false_ne_true
 have hnew:List.foldl (fun x1 x2=>x1++x2) #[] (List.replicate (if its.toArray.isEmpty=true then 0 else k.toNat) its.toArray)=(List.replicate k.toNat its).flatten.toArray:=by
  have f0:∀ m:Nat,List.foldl (fun x1 x2=>x1++x2) #[] (List.replicate m its.toArray)=(List.replicate m its).flatten.toArray:=fun m=>by
   have:=zg8 its m [];rw [List.nil_append] at this;exact this
  rw [f0];cases its with
  | nil=>simp
  | cons a r'=>rw [if_neg (by simp)]
 refine wpAny_binaryOp_repeat_ref (T:="list") (U:="int") (by decide) ⟨_,e,rfl⟩ (fun s'=>typeIs_int s' k t) noFill_list_mul F.fills_int_mul F.slot_int_rmul repeat_list F.slot_int_index.lookup
  (call_meets F.slot_int_rmul (typeIs_int s k t) F.entry_int_rmul (F.args_int_rmul_2 _ _) (int___rmul___int_list k t l its.toArray n)
   ⟨e,rfl,⟨_,e,rfl⟩,call_meets F.slot_list_mul ⟨_,e,rfl⟩ F.entry_list_mul (F.args_list_mul_2 _ _) (AutoListH.list___mul___list_int_3 l its.toArray n k t hfit hcap hlong) ⟨e,?_⟩⟩)
 rw [hnew];exact⟨.ref _,_,I.lnew (t':=s.toks) (r.rep k.toNat) (by rw [zoJ,Nat.mul_comm]; exact hz),rfl,q _ I.fresh⟩
end
section
variable {prog:Program} {w:World} {A:Around} {E:Value->Shared->Prop} {s:Shared}
end
end
section
section
variable {κ:Type} [DecidableEq κ]
def zh3(kvs:List (κ×V))(k:κ):Option V:=(kvs.find? fun kv=>decide (kv.1=k)).map (·.2)
def zig(kvs:List (κ×V))(k:κ)(v:V):List (κ×V) :=
 if (kvs.any fun kv=>decide (kv.1=k))=true then kvs.map (fun kv=>if kv.1=k then (kv.1,v) else kv) else kvs++[(k,v)]
theorem zi6{p:κ×V}{r:List (κ×V)}{k:κ}(e:p.1=k):zh3 (p :: r) k=some p.2:=by simp [zh3,List.find?_cons,e]
theorem ziY{p:κ×V}{r:List (κ×V)}{k:κ}(e:¬ p.1=k):zh3 (p :: r) k=zh3 r k:=by simp [zh3,List.find?_cons,e]
theorem zeT(kvs:List (κ×V))(k:κ)(v:V):(zig kvs k v).length<=kvs.length+1:=by
 unfold zig;split
 ·rw [List.length_map]; omega
 ·rw [List.length_append,List.length_cons,List.length_nil]; omega
theorem KV.val{kvs:List (κ×V)}{vs:List (κ×Value)}(r:KV kvs vs)(k:κ):RelO (zh3 kvs k) (valueAt vs k):=by
 unfold KV at r;induction r with
 | nil=>exact True.intro
 | @cons p q ps qs h t ih =>
  obtain⟨h1,h2⟩:=h;by_cases e:p.1=k
  ·have e':q.1=k:=h1.symm.trans e;have b:valueAt (q :: qs) k=some q.2:=by simp [valueAt,List.find?_cons,e']
   rw [zi6 e,b]; exact h2
  ·have e':¬ q.1=k:=fun z=>e (h1.trans z);have b:valueAt (q :: qs) k=valueAt qs k:=by simp [valueAt,List.find?_cons,e']
   rw [ziY e,b]; exact ih
theorem KV.any{kvs:List (κ×V)}{vs:List (κ×Value)}(r:KV kvs vs)(k:κ):(kvs.any fun kv=>decide (kv.1=k))=vs.any fun kv=>decide (kv.1=k):=by
 unfold KV at r;induction r with
 | nil=>rfl
 | cons h t ih=>rw [List.any_cons,List.any_cons,ih,h.1]
theorem KV.repl{kvs:List (κ×V)}{vs:List (κ×Value)}(r:KV kvs vs)(k:κ){y:V}{u:Value}(ry:RelV y u):
  KV (kvs.map fun kv=>if kv.1=k then (kv.1,y) else kv) (vs.map fun kv=>if kv.1=k then (kv.1,u) else kv):=by
 unfold KV at r ⊢;induction r with
 | nil=>exact .nil
 | @cons p q ps qs h t ih =>
  rw [List.map_cons,List.map_cons];refine .cons ?_ ih;obtain⟨h1,h2⟩:=h;by_cases e:p.1=k
  ·rw [if_pos e,if_pos (h1.symm.trans e)]; exact⟨h1,ry⟩
  ·rw [if_neg e,if_neg (fun z=>e (h1.trans z))]; exact⟨h1,h2⟩
theorem KV.put{kvs:List (κ×V)}{vs:List (κ×Value)}(r:KV kvs vs)(k:κ){y:V}{u:Value}(ry:RelV y u):KV (zig kvs k y) (stored vs k u):=by
 unfold zig stored;rw [r.any k];by_cases e:(vs.any fun kv=>decide (kv.1=k))=true
 ·rw [if_pos e,if_pos e]; exact r.repl k ry
 ·rw [if_neg e,if_neg e]; exact Paired.snoc r ⟨rfl,ry⟩
theorem KV.length{kvs:List (κ×V)}{vs:List (κ×Value)}(r:KV kvs vs):kvs.length=vs.length:=Paired.length r
end
theorem zpf{P:Program}{w:World}{k:Key}{u:Value}(r:RelV (kV k) u):(zaj P w).is k u=true:=by
 cases k with
 | inl i=>obtain⟨t,e⟩:=(show ∃ t,u=Value.int i t from r); subst e; exact zhP P w i t
 | inr x=>obtain⟨t,e⟩:=(show ∃ t,u=Value.str x t from r); subst e; exact zic P w x t
theorem zgI{P:Program}{w:World}:∀ {ks:List Key} {us:List Value},Vals (ks.map kV) us->ItemsAre (zaj P w) ks us
 | [],_,r=>by rw [List.map_nil] at r; cases r; exact .nil
 | k :: ks,_,r=>by
  rw [List.map_cons] at r;cases r with
  | cons h t=>exact .cons (zpf h) (zgI t)
abbrev KT (H:Hp):List (List Key×V)->List (List Key×Addr×Value)->Prop:=Paired fun p q=>p.1=q.1/\H q.2.1=some (.tup (p.1.map kV))/\RelV p.2 q.2.2
section
variable {P:Program} {w:World} {H:Hp} {h:Heap} {a:Addr}
theorem zqZ{u:HO}(ok:HOk P w H h)(e:Rd H a u):ObjOk P w H h a u:=e.ok ok
theorem zqJ{kvs:List (Key×V)}(ok:HOk P w H h)(e:Rd H a (.dK kvs)):kvs.length<=sizeLine/\(a == sysModules)=false/\∃ vs,KV kvs vs/\h.DictOf (zaj P w) a vs :=
 show ObjOk P w H h a (.dK kvs) from zqZ ok e
theorem zq1{kvs:List (Key×V)}(ok:HOk P w H h)(e:H a=some (.dK kvs)):kvs.length<=sizeLine/\(a == sysModules)=false/\∃ vs,KV kvs vs/\h.DictOf (zaj P w) a vs:=zqJ ok (.inl e)
theorem zqy{ks:List Key}(ok:HOk P w H h)(e:H a=some (.tup (ks.map kV))):(tupleKind (zaj P w)).is h ks a:=by
 obtain⟨_,its,r,o,h1,h2,n,h3⟩:=(show ObjOk P w H h a (.tup (ks.map kV)) from ok a _ e);exact⟨o,its.toArray,n,h1,h2,h3,by simpa using zgI r⟩
theorem zrL{kvs:List (List Key×V)}(ok:HOk P w H h)(e:Rd H a (.dT kvs)):kvs.length<=sizeLine/\(a == sysModules)=false /\
  ∃ xs,KT H kvs xs/\h.DictOfH (tupleKind (zaj P w)) a xs:=by
 obtain⟨z,y,xs,r,o,es,ep,h1,h2,h3,h4,h5⟩:=(show ObjOk P w H h a (.dT kvs) from zqZ ok e);refine⟨z,y,xs,r,o,es,ep,h1,h2,h3,h4,fun x hx=>?_,h5⟩;have all:∀ {l:List (List Key×V)} {m:List (List Key×Addr×Value)},KT H l m->∀ x∈m,(tupleKind (zaj P w)).is h x.1 x.2.1:=by
  intro l m q;induction q with
  | nil=>intro x hx; exact nomatch hx
  | @cons p q ps qs hq t ih =>
   intro x hx;rcases List.mem_cons.mp hx with e | hx
   ·subst e;exact zqy ok (by rw [<- hq.1]; exact hq.2.1)
   ·exact ih x hx
 exact all r x hx
end
section
variable {X:Cx} {zf:List (Addr×Obj)} {σ:St} {H:Hp} {s:Shared} {a:Addr} {y v:V} {u r:Value} {o:Option V} {A:Around} {E:Value->Shared->Prop}
theorem Inv.big(I:Inv X zf σ H s):sysModules<s.heap.objs.size:=by
 have h:mainGlobals<s.heap.objs.size:=(I.mod.glob.keeps I.bk).lt;exact Nat.lt_trans (by decide) h
theorem zks{h':Heap}{t':Nat}{ob:HO}(I:Inv X zf σ H s)(mu:Mut (H a))(hs:Heap.SameBut a s.heap h')(he:∃ q,h'.get? a=some q)(new:ObjOk X.prog X.w (upd H a ob) h' a ob):
  Inv X zf σ (upd H a ob) { s with heap:=h',toks:=t' } :=
 I.write (x:=a) (e:=a) mu (.inl rfl) (fun b q hb z=>(hs.2 b hb).trans z) he new
theorem zoh{P:Program}{w:World}{H':Hp}{h':Heap}{kvs:List (Key×V)}{vs:List (Key×Value)}(z:kvs.length<=sizeLine)(hd:(a == sysModules)=false)(rel:KV kvs vs)(dd:h'.DictOf (zaj P w) a vs):
  ObjOk P w H' h' a (.dK kvs):=⟨z,hd,vs,rel,dd⟩
end
theorem ziQ{P:Program}{w:World}{H:Hp}(h:Heap)(hb:sysModules<h.objs.size):ObjOk P w H (h.push { cls:=.type "dict",data:=.dict #[] }) h.objs.size (.dK []) :=
 ⟨Nat.zero_le _,beq_eq_false_iff_ne.mpr (Ne.symm (Nat.ne_of_lt hb)),[],.nil,Heap.DictOf.new h⟩
def zkv:TE:=fun _ H Q=>∀ p,H p=none->Q (.ref p) (upd H p (.dK []))
section
variable {X:Cx} {pos:Pos}
theorem zja:PE X (.Dict [] [] pos) zkv:=fun zf s σ H Q I h =>
 wpAny_Dict_empty ⟨.ref s.heap.objs.size,_,I.laid (a:=s.heap.objs.size) (o:=.dK []) (t':=s.toks) (fun _ _ q=>Heap.get?_push_of_some _ q) (Nat.le_refl _) (ziQ s.heap I.big),rfl,h _ (I.hok.fresh (Nat.le_refl _))⟩
end
def zlb:List (TE×TE)->St->Hp->(List (V×V)->Hp->Prop)->Prop
 | [],_,H,Q=>Q [] H
 | (tk,tv) :: r,σ,H,Q=>tk σ H fun x H1=>tv σ H1 fun y H2=>zlb r σ H2 fun ps H3=>Q ((x,y) :: ps) H3
abbrev VV:List (V×V)->List (Value×Value)->Prop:=Paired fun p q=>RelV p.1 q.1/\RelV p.2 q.2
def PPs(X:Cx)(pos:Pos)(keys:List (Option Expr))(values:List Expr)(trs:List (TE×TE)):Prop :=
 ∀ (zf:List (Addr×Obj)) (s:Shared) (σ:St) (H:Hp) (Q:List (V×V)->Hp->Prop),Inv X zf σ H s->zlb trs σ H Q ->
  wpAny (model X.prog X.w) X.A (evalPairs (pairTrees keys values X.env pos)) (fun vs s'=>∃ ps H',Inv X zf σ H' s'/\VV ps vs/\Q ps H') X.xe s
theorem zoT{X:Cx}{pos:Pos}:PPs X pos [] [] []:=fun zf s σ H Q I h=>pairTrees_nil_walk ⟨[],H,I,.nil,h⟩
theorem znK{X:Cx}{pos:Pos}{k v:Expr}{ks:List (Option Expr)}{vs:List Expr}{tk tv:TE}{trs:List (TE×TE)}(hk:PE X k tk)(hv:PE X v tv)(hr:PPs X pos ks vs trs):
  PPs X pos (some k :: ks) (v :: vs) ((tk,tv) :: trs):=fun zf s σ H Q I h =>
 pairTrees_cons_walk (thn (hk zf s σ H _ I h) fun u s1 ⟨x,H1,I1,rx,q1⟩=>thn (hv zf s1 σ H1 _ I1 q1) fun w2 s2 ⟨y,H2,I2,ry,q2⟩ =>
  thn (hr zf s2 σ H2 _ I2 q2) fun ws s3 ⟨ps,H3,I3,rel,q3⟩=>⟨(x,y) :: ps,H3,I3,.cons ⟨rx,ry⟩ rel,q3⟩)
def zej(kvs more:List (Key×V)):List (Key×V):=more.foldl (fun acc kv=>zig acc kv.1 kv.2) kvs
theorem KV.merge:∀ {more:List (Key×V)} {rs:List (Key×Value)} {kvs:List (Key×V)} {vs:List (Key×Value)},KV more rs->KV kvs vs->KV (zej kvs more) (merged vs rs):=by
 intro more rs kvs vs r;unfold KV at r;induction r generalizing kvs vs with
 | nil=>intro q; exact q
 | @cons p q ps qs h t ih =>
  intro r0;have e:KV (zig kvs p.1 p.2) (stored vs q.1 q.2):=by
   have:=r0.put p.1 h.2;rw [<- h.1]; exact this
  exact ih e
theorem zdH:∀ (more kvs:List (Key×V)),(zej kvs more).length<=kvs.length+more.length
 | [],kvs=>by show kvs.length<=kvs.length+0; omega
 | p :: r,kvs=>by
  have h1:=zdH r (zig kvs p.1 p.2);have h2:=zeT kvs p.1 p.2;show (zej (zig kvs p.1 p.2) r).length<=_;rw [List.length_cons]; omega
theorem zft{P:Program}{w:World}:∀ {kvs:List (Key×V)} {ws:List (Value×Value)},VV (kvs.map fun kv=>(kV kv.1,kv.2)) ws->∃ rs,Carries (zaj P w) ws rs/\KV kvs rs
 | [],_,r=>by rw [List.map_nil] at r; cases r; exact⟨[],True.intro,.nil⟩
 | p :: kvs,_,r=>by
  rw [List.map_cons] at r;cases r with
  | @cons a b as bs h t =>
   obtain⟨rs,c,q⟩:=zft (P:=P) (w:=w) t;obtain⟨b1,b2⟩:=b;exact⟨(p.1,b2) :: rs,⟨zpf h.1,rfl,c⟩,.cons ⟨rfl,h.2⟩ q⟩
def zqP(trs:List (TE×TE)):TE:=fun σ H Q=>∀ p,H p=none->zlb trs σ (upd H p (.dK [])) fun ps H2=>H2 p=some (.dK [])/\∃ kvs:List (Key×V),ps=kvs.map (fun kv=>(kV kv.1,kv.2))/\kvs.length<=15/\Q (.ref p) (upd H2 p (.dK (zej [] kvs)))
theorem zo8{X:Cx}{pos:Pos}{keys:List (Option Expr)}{values:List Expr}{trs:List (TE×TE)}(h:PPs X pos keys values trs)(hall:keys.all (·.isSome)=true)(hl:keys.length=values.length)(h0:keys≠[])
  (h15:keys.length<=15):PE X (.Dict keys values pos) (zqP trs):=by
 intro zf s σ H Q I q;have hn:=I.hok.fresh (Nat.le_refl s.heap.objs.size);have I1:=I.laid (a:=s.heap.objs.size) (o:=.dK []) (h':=s.heap.push { cls:=.type "dict",data:=.dict #[] }) (t':=s.toks) (fun _ _ q=>Heap.get?_push_of_some _ q) (Nat.le_refl _) (ziQ s.heap I.big);refine wpAny_Dict_walk (knd:=zaj X.prog X.w) hall hl h0 h15 (thn (h zf _ σ _ _ I1 (q _ hn)) fun ws s2 ⟨ps,H2,I2,rel,e,kvs,ep,lk,q2⟩=>?_);subst ep;obtain⟨rs,c,rk⟩:=zft (P:=X.prog) (w:=X.w) rel;obtain⟨z,hd,vs0,r0,dd⟩:=zq1 I2.hok e;cases r0;refine⟨rs,c,dd,fun h' dd' hs=>⟨.ref s.heap.objs.size,_,?_,rfl,q2⟩⟩;have hz:(zej [] kvs).length<=sizeLine:=by
  have h1:=zdH kvs [];rw [List.length_nil] at h1;rw [sizeLine_eq]; omega
 have he:∃ q,h'.get? s.heap.objs.size=some q:=let ⟨q,_,_,hq,_⟩:=dd'; ⟨q,hq⟩;exact zks I2 (by rw [e]; exact True.intro) hs he (zoh hz hd (rk.merge .nil) dd')
structure M1(X:Cx)(o:Expr)(m:Str)(apos:Pos)(e:Expr)(cpos:Pos):Prop where
 base:attributeBase o m X.env (eval o X.env)=eval o X.env
 few:((backTo cpos (starEach [e] X.env)).all (fun x=>!x.1) && (backToKw cpos (keywordEach [] X.env)).all (fun x=>x.1.isSome)
  && decide (([e]:List Expr).length+([]:List Keyword).length+(if ([]:List Keyword).isEmpty then 0 else 1)<30))=true
 line:(apos.endLine == cpos.line)=true
 trees:backTo cpos (starEach [e] X.env)=[(false,eval e X.env)]
structure M2(X:Cx)(o:Expr)(m:Str)(apos:Pos)(e f:Expr)(cpos:Pos):Prop where
 base:attributeBase o m X.env (eval o X.env)=eval o X.env
 few:((backTo cpos (starEach [e,f] X.env)).all (fun x=>!x.1) && (backToKw cpos (keywordEach [] X.env)).all (fun x=>x.1.isSome)
  && decide (([e,f]:List Expr).length+([]:List Keyword).length+(if ([]:List Keyword).isEmpty then 0 else 1)<30))=true
 line:(apos.endLine == cpos.line)=true
 trees:backTo cpos (starEach [e,f] X.env)=[(false,eval e X.env),(false,eval f X.env)]
def IsD(H:Hp)(a:Addr):Prop:=(∃ kvs,Rd H a (.dK kvs))\/∃ kvs,Rd H a (.dT kvs)
theorem zp1{X:Cx}{zf:List (Addr×Obj)}{σ:St}{H:Hp}{s:Shared}{a:Addr}(I:Inv X zf σ H s)(d:IsD H a):
  s.TypeIs (.ref a) "dict"/\(∀ b,Value.ref a=.ref b->∃ ob,s.heap.get? b=some ob/\ob.dict=none)/\(a == sysModules)=false:=by
 rcases d with ⟨kvs,e⟩ | ⟨kvs,e⟩
 ·obtain⟨_,hd,vs,_,dd⟩:=zqJ I.hok e;refine⟨dd.typeIs,fun b q=>?_,hd⟩;cases q;obtain⟨ob,_,_,h1,h2,_⟩:=dd;exact⟨ob,h1,h2.2.1⟩
 ·obtain⟨_,hd,xs,_,dd⟩:=zrL I.hok e;refine⟨dd.typeIs,fun b q=>?_,hd⟩;cases q;obtain⟨ob,_,_,h1,h2,_⟩:=dd;exact⟨ob,h1,h2.2.1⟩
end
end L2
namespace Att
open PySem PySem.W PySem.Calls PyProof.Rows
theorem ze8{P:Params}{h:Heap}:∀ (ns:List Int) (vs:List Value),WellAll P h vs (ns.map WData.int)->IntsAre vs ns:=by
 intro ns;induction ns with
 | nil =>
  intro vs w;rw [List.map_nil] at w;cases w;exact .nil
 | cons n ns ih =>
  intro vs w;rw [List.map_cons] at w;cases w with
  | cons a b =>
   cases a;exact .cons _ _ (ih _ b)
theorem zml{l:OpenLaw}{n:Nat}(hn:l.most=some n){P:Params}{h:Heap}{args:List WData}{vals:List Value}
  (hpre:l.row.toRowW.claim.pre args=true) (hwl:WellAll P h vals args) :
  ∃ a vs ns,vals=[Value.ref a]/\args=[WData.list (ns.map WData.int)]/\h.get? a=some { cls:=.type "list",data:=.seq vs.toArray }/\IntsAre vs ns/\ns.length<=n:=by
 have hsh:WShape.hasAll [] args [.list .int]=true:=(pre_splitW hpre).1;have hc:l.pre.holds [] { args:=args } = true:=(pre_splitW hpre).2;obtain⟨d,r,rfl,h1,h2⟩:=hasAllW_cons hsh;obtain rfl:=hasAllW_nil h2;obtain⟨xs,rfl,h3⟩:=hasW_list h1;obtain⟨ns,rfl⟩:=items_int h3;have hlen:ns.length<=n:=by
  unfold OpenLaw.pre at hc;have h4:(WTm.not (.lt (.lit (.int (n:Int))) (.len (.arg 0)))).holds [] { args:=[.list (ns.map .int)] } = true:=by
   have h4:=(holds_andW hc).1;rw [hn] at h4;exact h4
  have h5:=condW_of h4 (w_not (w_lt w_lit (w_len_list (w_arg rfl))));rw [List.length_map] at h5;refine Nat.le_of_not_lt fun q=>?_;have q':(n:Int)<((ns.length:Nat):Int):=by omega
  first
   | (rw [decide_eq_true q'] at h5; exact absurd h5 (by decide))
   | (simp at h5; omega)
 cases hwl with
 | cons w1 w2 =>
  cases w2;cases w1 with
  | list ho hall=>exact⟨_,_,ns,rfl,rfl,ho,ze8 ns _ hall,hlen⟩
theorem zk4(l:OpenLaw)(args:List WData):l.row.toRowW.claim.post args (.bool true) args=true :=
 postW_of (r:=l.row.toRowW) (X:=(true == true))
  (show WShape.has [] (.bool true) .bool=true by first | rfl | decide | simp [WShape.has,WShape.arms,WShape.armsAll])
  (show (WTm.eq .res (.lit (.bool true))).value [] { args:=args,res:=some (.bool true),after:=args } = some (.bool (true == true)) from w_eq_bool (w_res rfl) w_lit) rfl
theorem attach_call{l:OpenLaw}{n:Nat}{q:Program}{loose:List Str}{XP:(Str->Option Value)->Heap->Prop}{YP:World->Heap->Prop}{d:DefRec}
  (hn:l.most=some n) (hdf:d.params.defaults=[])
  (call:∀ (w:World) (s₀ s₁:Shared) (mg mb:Str->Option Value) (fa:Addr) (o:Obj) (pm cd doc:Value) (a:Addr) (vs:List Value) (ns:List Int),
   Ground q loose [] XP w s₀ mg mb s₁.heap->YP w s₁.heap ->
   s₁.heap.get? fa=some o->o.data=.func (docDef d.name d.params d.body d.scope pm cd doc)->s₁.heap.CodeRec cd d.name->mg d.name=some (.ref fa) ->
   s₁.heap.get? a=some { cls:=.type "list",data:=.seq vs.toArray }->IntsAre vs ns->ns.length<=n->s₁.gens = #[] ->
   codeAny (model l.prog w) callerA (.call (.ref fa) ⟨[.ref a],[]⟩) (fun r s'=>r=.ok (.ret (.bool true))/\OldK s₁.heap s'.heap/\s'.os=s₁.os/\AllBare s'.gens) s₁) :
  WalkO q loose XP YP l.row.toRowW d [] (fun f vs=>PySem.call f vs):=by
 intro w s₀ s₁ mg mb G Y fa o pm cd doc dV kV ho hd hcd hD hmg hg args vals as hpre hlay hrd hwl hlo;obtain rfl:dV=.none:=Dflts.none hD hdf;obtain rfl:kV=.none:=Dflts.noKw hD;obtain⟨a,vs,ns,rfl,rfl,hobj,hints,hlen⟩:=zml hn hpre hwl;refine enter_call (codeAny_mono (call w s₀ s₁ mg mb fa o pm cd doc a vs ns G Y ho (fd_plain hd) hcd hmg hobj hints hlen hg) fun r s' hq=>?_);obtain⟨rfl,h2,h3,h4⟩:=hq;exact⟨.inl ⟨.bool true,.bool true,[],rfl,fun _=>rfl,.bool true,zk4 l _,fun _=>⟨List.Pairwise.nil,fun _ hm=>(nomatch hm)⟩⟩,h2,h3,h4⟩
end Att
namespace L2
open PySem PySem.Spec PyProof.Rows
section
theorem zbJ:∀ {vs:List Value} {ns:List Int},IntsAre vs ns->Vals (ns.map V.int) vs
 | _,_,.nil=>.nil
 | _,_,.cons n t h=>.cons ⟨t,rfl⟩ (zbJ h)
def Only(H:Hp):Prop:=∀ b,H b=none\/∃ o xs,H b=some (.frz o (.lst xs))
theorem zmD{P:Program}{w:World}{K:W.Frag}{mg mb:Str->Option Value}{CX:CXT}{k:Nat}{fa a:Addr}{fd:FuncData}{x:Str}{sp:Sp}{s₁:Shared}{vs:List Value}{ns:List Int}
  (KX:K.In s₁.heap) (hns:s₁.heap.Ns mainGlobals mg) (hb:s₁.heap.Ns builtinsNs mb) (hbb:∀ x:Str,x ≠ "__name__"->mb x=bootBuiltins x) (hlim:s₁.heap.NoLimit) (hg:s₁.gens = #[])
  (ha:s₁.heap.get? a=some { cls:=.type "list",data:=.seq vs.toArray }) (hi:IntsAre vs ns) (hl:ns.length<=sizeLine) (hr:Room k callerA)
  (F:∀ base:Heap,K.In base->base.Ns mainGlobals mg->FnOk P w K mg base CX k fa fd [x] sp) (hbind:∀ (s:Shared) (u:Value),BindsTo s fd ⟨[u],[]⟩ [(x,u)])
  (hsp:∀ H:Hp,Only H->SqL K H a (ns.map V.int)->sp [.ref a] H (fun v _=>v=.bl true) fun _ _ _=>False)
  (hCX:∀ H e s',CX [] H s₁ (fun _ _ _=>False) e s'->False) :
  codeAny (model P w) callerA (.call (.ref fa) ⟨[.ref a],[]⟩) (fun r s'=>r=.ok (.ret (.bool true))/\OldK s₁.heap s'.heap/\s'.os=s₁.os/\AllBare s'.gens) s₁:=by
 have rv:=zbJ hi;have lenV:=hi.length
 -- from an abstract heap in which nothing but the script may be tracked
 have core:∀ H:Hp,Only H->SqL K H a (ns.map V.int)->HOk P w H s₁.heap->(∀ b,H b≠none->b=a)->(H a≠none->K.lookup a=none) ->
   codeAny (model P w) callerA (.call (.ref fa) ⟨[.ref a],[]⟩) (fun r s'=>r=.ok (.ret (.bool true))/\OldK s₁.heap s'.heap/\s'.os=s₁.os/\AllBare s'.gens) s₁:=by
  intro H hO hS hok hA hK;have base_of:∀ {b:Addr} {o:Obj},s₁.heap.get? b=some o->H b=none->(znL s₁.heap H).get? b=some o:=fun e n=>zm0 e n;have noA:∀ {b:Addr} {o:Obj} {es:Array DictEntry} {ep:Nat},s₁.heap.get? b=some o->o.data=.dict es ep->H b=none:=fun {b o es ep} e d=>by
   cases q:H b with
   | none=>rfl
   | some u =>
    have e':b=a:=hA b (by rw [q]; simp);subst e';rw [ha] at e; cases e;have d':Data.seq vs.toArray _=Data.dict es ep:=d;cases d'
  have nsK:∀ {b:Addr} {m:Str->Option Value},s₁.heap.Ns b m->(znL s₁.heap H).Ns b m:=fun {b m} ⟨o,es,ep,e,d,r⟩=>⟨o,es,ep,base_of e (noA e d),d,r⟩;have hKb:K.In (znL s₁.heap H):=fun b o e=>base_of (KX b o e) (by
   cases q:H b with
   | none=>rfl
   | some u =>
    have e':b=a:=hA b (by rw [q]; simp);subst e';rw [hK (by rw [q]; simp)] at e; cases e)
  have hM:Mod K mg (znL s₁.heap H):=⟨hKb,nsK hns,⟨mb,nsK hb,hbb⟩,let ⟨mc,h1,h2⟩:=hlim; ⟨mc,nsK h1,h2⟩⟩;have e0:Env0 P w K mg (znL s₁.heap H) callerA [] s₁ H:=⟨rfl,hM,fun b o e=>zoD e,Nat.le_of_eq (zkI _ _),trivial,fun b hb=>absurd (show b∈([]:List Addr) from hb) (by simp),hok,.of_eq hg⟩;refine codeAny_mono ((F _ hKb (nsK hns)).run callerA [] s₁ H ⟨[.ref a],[]⟩ [.ref a] [.ref a] _ _ hr e0 (hbind s₁ (.ref a)) (.cons rfl .nil) (hsp H hO hS)) fun r s' h=>?_;cases r with
  | error e=>exact(hCX H e s' h).elim
  | ok fl =>
   cases fl with
   | next=>exact False.elim h
   | brk=>exact False.elim h
   | cont=>exact False.elim h
   | ret u =>
    obtain⟨v,H',os,bare,un,hok',r',q⟩:=h;have q':v=.bl true:=q;subst q';obtain rfl:u=Value.bool true:=r';refine⟨rfl,OldK.of_keep fun b o e=>?_,os,bare⟩;cases q:H b with
    | none=>exact un.keep b o e q (by intro z; exact absurd (show b∈([]:List Addr) from z) (by simp)) (by simp)
    | some u =>
     rcases hO b with z | ⟨ob,xs,z⟩
     ·rw [q] at z; cases z
     ·have z2:=un.frzs b ob _ z;obtain⟨e1,_⟩:=hok b _ z;obtain⟨e2,_⟩:=hok' b _ z2;rw [e] at e1; cases e1;exact e2
 cases hk:K.lookup a with
 | some o =>
  -- the script is one of the module's own objects
  have e:=KX a o hk;rw [ha] at e;cases e;refine core (fun _=>none) (fun _=>.inl rfl) (.inr ⟨_,vs.toArray,_,hk,rfl,rfl,rfl,by rw [List.size_toArray,lenV]; exact hl,by simpa using rv⟩) (fun b u z=>by have z':(none:Option HO)=some u:=z; cases z') (fun b z=>absurd rfl z) fun z=>absurd rfl z
 | none =>
  refine core (fun b=>if b=a then some (.frz { cls:=.type "list",data:=.seq vs.toArray } (.lst (ns.map V.int))) else none) (fun b=>?_) (.inl (.inr ⟨{ cls:=.type "list",data:=.seq vs.toArray },if_pos rfl⟩)) (fun b u z=>?_) (fun b z=>?_) fun _=>hk
  ·by_cases hb:b=a
   ·exact .inr ⟨_,_,if_pos hb⟩
   ·exact .inl (if_neg hb)
  ·by_cases hb:b=a
   ·have z':=(if_pos hb).symm.trans z;cases z';subst hb;exact⟨ha,by rw [List.length_map]; exact hl,vs,_,rv,ha⟩
   ·have z':=(if_neg hb).symm.trans z;cases z'
  ·by_cases hb:b=a
   ·exact hb
   ·exact absurd (if_neg hb) z
end
section
abbrev KOf {K:W.Frag} {h:Heap} (_:K.In h):W.Frag:=K
theorem walk_of{l:PySem.W.OpenLaw}{n k:Nat}{q:Program}{loose:List Str}{XP:(Str->Option Value)->Heap->Prop}{YP:World->Heap->Prop}{d:DefRec}{K:Params->W.Frag}{CX:World->CXT}{sp:World->Sp}{x:Str}
  (hn:l.most=some n) (hn2:n<=sizeLine) (hdf:d.params.defaults=[]) (hr:Room k callerA)
  (hY:∀ (w:World) (h:Heap),YP w h->(K w.params).In h)
  (F:∀ (w:World) (mg:Str->Option Value) (fa:Addr) (h:Heap),(K w.params).In h->h.Ns mainGlobals mg->mg d.name=some (.ref fa) ->
   ∃ fd:FuncData,(∀ (s:Shared) (u:Value),BindsTo s fd ⟨[u],[]⟩ [(x,u)]) /\
    ∀ base:Heap,(K w.params).In base->base.Ns mainGlobals mg->FnOk l.prog w (K w.params) mg base (CX w) k fa fd [x] (sp w))
  (hsp:∀ (w:World) (H:Hp) (a:Addr) (ns:List Int),ns.length<=n->Only H->SqL (K w.params) H a (ns.map V.int)->sp w [.ref a] H (fun v _=>v=.bl true) fun _ _ _=>False)
  (hCX:∀ (w:World) (H:Hp) (s:Shared) (e:Value) (s':Shared),CX w [] H s (fun _ _ _=>False) e s'->False) :
  PySem.W.WalkO q loose XP YP l.row.toRowW d [] (fun f vs=>PySem.call f vs):=by
 refine Att.attach_call hn hdf fun w s₀ s₁ mg mb fa o pm cd doc a vs ns G Y ho hd hcd hmg hobj hints hlen hg=>?_;have KX:=hY w _ Y;obtain⟨fd,hb,hF⟩:=F w mg fa _ KX G.T.g hmg;exact zmD KX G.T.g G.T.b G.T.builtins G.T.nolimit hg hobj hints (Nat.le_trans hlen hn2) hr hF hb (fun H hO hS=>hsp w H a ns hlen hO hS) fun H e s'=>hCX w H s₁ e s'
end
section
def zoY(s:Stmt)(j:Nat):Stmt:=match s with
 | .ClassDef _ _ _ body _ _ _ _ _ _ _=>body.getD j (.Pass ⟨0,0,0,0⟩)
 | _=>.Pass ⟨0,0,0,0⟩
def zcu(s:Stmt):Arguments:=match s with
 | .FunctionDef _ a _ _ _ _ _ _ _ _=>a
 | _=>{ posonlyargs:=[],args:=[],vararg:=none,kwonlyargs:=[],kw_defaults:=[],kwarg:=none,defaults:=[] }
def zaQ(s:Stmt):List Stmt:=match s with
 | .FunctionDef _ _ b _ _ _ _ _ _ _=>b
 | _=>[]
def zk(s:Stmt):Scope:=match s with
 | .FunctionDef _ _ _ _ _ _ sc _ _ _=>sc
 | _=>{ kind:=.function,names:=[],isGenerator:=false,isCoroutine:=false }
abbrev CX0:CXT:=fun _ _ _ _ _ _=>False
abbrev E0:XK:=fun _ _ _=>False
theorem pass0{X:Cx}:Passes CX0 X E0:=fun _ _ _ _ _ _ _ h=>h.elim
structure Fun(K:W.Frag)(x qual:Str)(st:Stmt)(f:Addr)(fd:FuncData):Prop where
 ex:∃ (oc:Value) (od:Option Addr) (kV doc pm:Value) (an:Option Addr) (cdv ct:Value) (osl:Array (Option Value)),
  fd=PySem.W.fnOf x qual (zcu st) (zaQ st) (zk st) .none kV doc pm an cdv ct/\K.lookup f=some ⟨oc,od,.func fd,osl⟩/\PySem.W.codeIn K cdv qual=true
 kp:PySem.W.keepIn K (.ref f)=true
section
variable {P:Program} {w:World} {K:W.Frag} {mg:Str->Option Value} {base:Heap}
theorem Fun.ok{x qual:Str}{st:Stmt}{f:Addr}{fd:FuncData}{N ps:List Str}{k:Nat}{sp:Sp}(F:Fun K x qual st f fd)(S:FnScope N ps (zk st))(len:∀ vs H Q E,sp vs H Q E->vs.length=ps.length)
  (hbody:∀ (cdv:Value) (A:Around) (outer:List Env) (s:Shared) (H:Hp) (vs:List V) (Q:VK) (E:XK),Room k (A.deeper (envOfC qual (zk st) s.heap.objs.size f cdv))->sp vs H Q E ->
   ∃ t,PSs (zhk CX0 P w K mg base N qual (zk st) f cdv A outer s H E).nox (zaQ st) t/\t { nx:=fun _ H'=>Q .non H',rt:=Q } (start N vs) H):FnOk P w K mg base CX0 (k+1) f fd ps sp:=by
 obtain⟨oc,od,kV,doc,pm,an,cdv,ct,osl,rfl,lk,hcd⟩:=F.ex;refine zpX lk hcd S len fun A outer s H vs Q E hr hsp=>?_;obtain⟨t,h,q⟩:=hbody cdv A outer s H vs Q E hr hsp;exact⟨t,h.nox,q⟩
theorem Fun.binds{x qual:Str}{st:Stmt}{f:Addr}{fd:FuncData}{ps:List Str}(F:Fun K x qual st f fd)
  (h:∀ (kV doc pm:Value) (an:Option Addr) (cdv ct:Value) (us:List Value),us.length=ps.length->bindArgs (PySem.W.fnOf x qual (zcu st) (zaQ st) (zk st) .none kV doc pm an cdv ct) ⟨us,[]⟩=pure (ps.zip us)):Binds K fd ps []:=by
 obtain⟨oc,od,kV,doc,pm,an,cdv,ct,osl,rfl,lk,hcd⟩:=F.ex;exact .all (h kV doc pm an cdv ct)
theorem zjt{x qual:Str}{st:Stmt}{f:Addr}{oc:Value}{od an:Option Addr}{osl:Array (Option Value)}{kV doc pm cdv ct:Value}(l:K.lookup f=some ⟨oc,od,.func (PySem.W.fnOf x qual (zcu st) (zaQ st) (zk st) .none kV doc pm an cdv ct),osl⟩)
  (c:PySem.W.codeIn K cdv qual=true) (k:PySem.W.keepIn K (.ref f)=true):Fun K x qual st f (PySem.W.fnOf x qual (zcu st) (zaQ st) (zk st) .none kV doc pm an cdv ct):=⟨⟨oc,od,kV,doc,pm,an,cdv,ct,osl,rfl,l,c⟩,k⟩
end
theorem small1000{n:Nat}(h:n<=1000):n<sizeLine:=Nat.lt_of_le_of_lt h (by decide)
section
variable {X:Cx}
theorem pv(i:Nat){x:Str}{pos:Pos}(hN:X.N[i]? = some x:=by rfl)(hv:Vis X.env.scope x:=by first | exact Or.inl rfl | exact Or.inr (Or.inl rfl) | exact Or.inr (Or.inr rfl))(hd:(x == ("__debug__":Str))=false:=by decide)
  (hcd:(x == ("__classdict__":Str))=false:=by decide):PE X (.Name x pos) (zjx i):=zre hN hv hd hcd
end
theorem zkU{A B:Prop}(h:B):if false=true then A else B:=by
 rw [if_neg Bool.false_ne_true];exact h
theorem zlu{A B:Prop}(h:A):if true=true then A else B:=by
 rw [if_pos rfl];exact h
theorem ite2{c A B:Prop}[Decidable c](h1:c->A)(h2:¬ c->B):if c then A else B:=by
 by_cases h:c
 ·rw [if_pos h];exact h1 h
 ·rw [if_neg h];exact h2 h
def Same(H H':Hp):Prop:=∀ b o,H b=some o->H' b=some o
theorem Same.refl(H:Hp):Same H H:=fun _ _ h=>h
theorem Same.trans{H H1 H2:Hp}(a:Same H H1)(b:Same H1 H2):Same H H2:=fun c o h=>b c o (a c o h)
theorem Same.seq{K:W.Frag}{H H':Hp}{a:Addr}{xs:List V}(e:Same H H')(h:SqL K H a xs):SqL K H' a xs:=by
 rcases h with (h | ⟨o,h⟩) | h
 ·exact .inl (.inl (e _ _ h))
 ·exact .inl (.inr ⟨o,e _ _ h⟩)
 ·exact .inr h
end
section
section
variable {X:Cx}
def CDivX(i j:Int):Prop:=0<j/\j.natAbs.log2<9000
theorem znl:OpR X (binaryOp .FloorDiv) (rI CDivX fun i j=>.int (i / j)):=opI fun i j _ _ _ _ _ hc q=>by
 have h1:(0:Int)<j:=hc.1;exact floordiv_int (by omega) (by rw [Int.fdiv_eq_ediv_of_nonneg i (by omega)]; exact q) (.inl (PyProof.noPylong_of_log2 hc.2))
theorem zoM:OpR X (binaryOp .Mult) (rI IntMulOk fun i j=>.int (i*j)):=opI fun _ _ _ _ _ _ _ hc q=>mul_int q hc
theorem zms{k:Int}{n:Nat}(h:k.natAbs<2 ^ n):Builtin.Int.intBits k<=n:=by
 unfold Builtin.Int.intBits;split
 ·exact Nat.zero_le _
 ·rename_i h0;have hk:k.natAbs≠0:=by
   intro z;apply h0;rw [Int.natAbs_eq_zero.mp z];rfl
  have:=(Nat.log2_lt hk).mpr h;omega
theorem zrx{i j:Int}(n m:Nat)(hi:i.natAbs<2 ^ n)(hj:j.natAbs<2 ^ m)(hn:n<=2 ^ 20:=by decide)(hm:m<=2 ^ 20:=by decide):IntMulOk i j :=
 .of_bits (Nat.le_trans (zms hi) hn) (Nat.le_trans (zms hj) hm)
theorem zkL{i j:Int}(h1:-(2 ^ 64)<i)(h2:i<2 ^ 64):IntMulOk i j:=.of_left (intBits_le_64 h1 h2)
theorem zfy{n:Int}{k:Nat}(h0:0<n)(h:n<2 ^ k):n.natAbs.log2<k:=by
 refine(Nat.log2_lt (by omega)).mpr ?_;have e:((2 ^ k:Nat):Int)=(2:Int) ^ k:=by simp
 omega
end
def kD:Key->PyData
 | .inl i=>.int i
 | .inr x=>.str x
def DOf(H:Hp)(a:Addr)(ks:List PyData)(vs:List V):Prop:=∃ (ob:Obj) (m:List (Key×V)),H a=some (.frz ob (.dK m))/\ks=m.map (fun p=>kD p.1)/\vs=m.map (·.2)
mutual
def Has(H:Hp):PyData->V->Prop
 | .none,v=>v=.non
 | .bool b,v=>v=.bl b
 | .int i,v=>v=.int i
 | .str x,v=>v=.str x
 | .list ds,v=>∃ a vs,v=.ref a/\H a=some (.lst vs)/\HasL H ds vs
 | .tuple ds,v=>∃ a vs,v=.ref a/\H a=some (.tup vs)/\HasL H ds vs
 | .dict kvs,v=>∃ a vs,v=.ref a/\DOf H a (kvs.map (·.1)) vs/\HasV H kvs vs
def HasL(H:Hp):List PyData->List V->Prop
 | [],vs=>vs=[]
 | d :: ds,vs=>∃ v r,vs=v :: r/\Has H d v/\HasL H ds r
def HasV(H:Hp):List (PyData×PyData)->List V->Prop
 | [],vs=>vs=[]
 | p :: ps,vs=>∃ v r,vs=v :: r/\HasP H p v/\HasV H ps r
def HasP(H:Hp):PyData×PyData->V->Prop
 | (_,d),v=>Has H d v
end
mutual
theorem Has.mono{H H':Hp}(s:Same H H'):∀ (d:PyData) (v:V),Has H d v->Has H' d v
 | .none,_,h=>by simp only [Has] at h ⊢; exact h
 | .bool _,_,h=>by simp only [Has] at h ⊢; exact h
 | .int _,_,h=>by simp only [Has] at h ⊢; exact h
 | .str _,_,h=>by simp only [Has] at h ⊢; exact h
 | .list ds,v,h=>by
  simp only [Has] at h ⊢;obtain⟨a,vs,e,q,l⟩:=h;exact⟨a,vs,e,s _ _ q,HasL.mono s ds vs l⟩
 | .tuple ds,v,h=>by
  simp only [Has] at h ⊢;obtain⟨a,vs,e,q,l⟩:=h;exact⟨a,vs,e,s _ _ q,HasL.mono s ds vs l⟩
 | .dict kvs,v,h=>by
  simp only [Has] at h ⊢;obtain⟨a,vs,e,q,l⟩:=h;obtain⟨ob,m,e1,e2⟩:=q;exact⟨a,vs,e,⟨ob,m,s _ _ e1,e2⟩,HasV.mono s kvs vs l⟩
theorem HasL.mono{H H':Hp}(s:Same H H'):∀ (ds:List PyData) (vs:List V),HasL H ds vs->HasL H' ds vs
 | [],_,h=>by simp only [HasL] at h ⊢; exact h
 | d :: ds,vs,h=>by
  simp only [HasL] at h ⊢;obtain⟨v,r,e,q,l⟩:=h;exact⟨v,r,e,Has.mono s d v q,HasL.mono s ds r l⟩
theorem HasV.mono{H H':Hp}(s:Same H H'):∀ (ds:List (PyData×PyData)) (vs:List V),HasV H ds vs->HasV H' ds vs
 | [],_,h=>by simp only [HasV] at h ⊢; exact h
 | d :: ds,vs,h=>by
  simp only [HasV] at h ⊢;obtain⟨v,r,e,q,l⟩:=h;exact⟨v,r,e,HasP.mono s d v q,HasV.mono s ds r l⟩
theorem HasP.mono{H H':Hp}(s:Same H H'):∀ (p:PyData×PyData) (v:V),HasP H p v->HasP H' p v
 | (_,d),v,h=>by
  simp only [HasP] at h ⊢;exact Has.mono s d v h
end
section
variable {H:Hp} {v:V}
theorem zdz:Has H .none v↔v=.non:=by simp only [Has]
theorem zc7{b:Bool}:Has H (.bool b) v↔v=.bl b:=by simp only [Has]
theorem zbR{i:Int}:Has H (.int i) v↔v=.int i:=by simp only [Has]
theorem zdq{x:Str}:Has H (.str x) v↔v=.str x:=by simp only [Has]
theorem zbm{ds:List PyData}:Has H (.list ds) v↔∃ a vs,v=.ref a/\H a=some (.lst vs)/\HasL H ds vs:=by simp only [Has]
theorem zas{ds:List PyData}:Has H (.tuple ds) v↔∃ a vs,v=.ref a/\H a=some (.tup vs)/\HasL H ds vs:=by simp only [Has]
theorem zgu{kvs:List (PyData×PyData)}:Has H (.dict kvs) v↔∃ a vs,v=.ref a/\DOf H a (kvs.map (·.1)) vs/\HasV H kvs vs:=by simp only [Has]
theorem zjl{vs:List V}:HasV H [] vs↔vs=[]:=by simp only [HasV]
theorem zgG{p:PyData×PyData}{ds:List (PyData×PyData)}{vs:List V}:HasV H (p :: ds) vs↔∃ v r,vs=v :: r/\Has H p.2 v/\HasV H ds r:=by
 obtain⟨k,d⟩:=p;simp only [HasV,HasP]
theorem zal{vs:List V}:HasL H [] vs↔vs=[]:=by simp only [HasL]
theorem zK{d:PyData}{ds:List PyData}{vs:List V}:HasL H (d :: ds) vs↔∃ v r,vs=v :: r/\Has H d v/\HasL H ds r:=by simp only [HasL]
theorem HasL.length:∀ {ds:List PyData} {vs:List V},HasL H ds vs->vs.length=ds.length
 | [],_,h=>by rw [zal.mp h]; rfl
 | d :: ds,vs,h=>by
  obtain⟨v,r,e,_,l⟩:=zK.mp h;rw [e,List.length_cons,List.length_cons,HasL.length l]
theorem HasL.get:∀ {ds:List PyData} {vs:List V} {i:Nat} {d:PyData},HasL H ds vs->ds[i]? = some d->∃ v,vs[i]? = some v/\Has H d v
 | [],_,_,_,_,e=>by simp at e
 | c :: ds,vs,0,d,h,e=>by
  obtain⟨v,r,rfl,q,_⟩:=zK.mp h;simp at e;subst e;exact⟨v,rfl,q⟩
 | c :: ds,vs,i+1,d,h,e=>by
  obtain⟨v,r,rfl,_,l⟩:=zK.mp h;obtain⟨u,e1,e2⟩:=HasL.get (i:=i) (d:=d) l (by simpa using e);exact⟨u,by simpa using e1,e2⟩
theorem HasL.append:∀ {ds es:List PyData} {vs us:List V},HasL H ds vs->HasL H es us->HasL H (ds++es) (vs++us)
 | [],es,vs,us,h,h'=>by rw [zal.mp h]; exact h'
 | d :: ds,es,vs,us,h,h'=>by
  obtain⟨v,r,rfl,q,l⟩:=zK.mp h;exact zK.mpr ⟨v,r++us,rfl,q,HasL.append l h'⟩
theorem zcg:∀ (ns:List Int),HasL H (ns.map .int) (ns.map V.int)
 | []=>zal.mpr rfl
 | n :: ns=>zK.mpr ⟨_,_,rfl,zbR.mpr rfl,zcg ns⟩
end
def tyD:PyData->String
 | .none=>"NoneType" | .bool _=>"bool" | .int _=>"int" | .str _=>"str" | .list _=>"list" | .tuple _=>"tuple" | .dict _=>"dict"
theorem Has.ty{K:W.Frag}{H:Hp}{d:PyData}{v:V}(h:Has H d v):TyOf K H v (.type (tyD d)):=by
 cases d with
 | none=>rw [zdz.mp h]; exact .non
 | bool b=>rw [zc7.mp h]; exact .bl b
 | int i=>rw [zbR.mp h]; exact .int i
 | str x=>rw [zdq.mp h]; exact .str x
 | list ds=>obtain⟨a,vs,rfl,e,_⟩:=zbm.mp h; exact .lst e
 | tuple ds=>obtain⟨a,vs,rfl,e,_⟩:=zas.mp h; exact .tup e
 | dict kvs =>
  obtain⟨a,vs,rfl,e,_⟩:=zgu.mp h;obtain⟨ob,m,e,_⟩:=e;exact .dK (.inr ⟨ob,e⟩)
def zrp:List String:=["NoneType","bool","int","str","list","tuple","dict"]
def zm6:List String:=["int","bool","str","list","tuple","dict"]
def zmy(t c:String):Bool:=t == c || (t == "bool" && c == "int")
def zo2(d:PyData)(c:String):Bool:=zmy (tyD d) c
theorem zoK(d:PyData):tyD d∈zrp:=by cases d <;> simp [tyD,zrp]
theorem zoL(K:W.Frag){t c:String}(ht:t∈zrp)(hc:c∈zm6):PySem.W.kitOne K (.type t) (.type c)=some (zmy t c):=by
 simp only [zrp,zm6,List.mem_cons,List.not_mem_nil,or_false] at ht hc;rcases ht with rfl | rfl | rfl | rfl | rfl | rfl | rfl <;> rcases hc with rfl | rfl | rfl | rfl | rfl | rfl <;> rfl
def zrz:List V->Hp->VK->Prop
 | [x,.ty c],H,Q=>∃ d,Has H d x/\c∈zm6/\Q (.bl (zo2 d c)) H
 | _,_,_=>False
theorem zpd{H:Hp}{d:PyData}{x:V}{c:String}{Q:VK}(h:Has H d x)(hc:c∈zm6)(q:Q (.bl (zo2 d c)) H):zrz [x,.ty c] H Q:=⟨d,h,hc,q⟩
section
variable {X:Cx}
theorem zbn:CallR X (.builtin "isinstance") zrz:=by
 intro zf s σ H xs us Q I r h
 match xs,h with
 | [x,.ty c],h =>
  obtain⟨d,hx,hc,q⟩:=h;obtain⟨u,w',rfl,ru,rw'⟩:=vals2 r;cases (show w'=Value.type c from rw');exact zmd I ru hx.ty (zoL X.K (zoK d) hc) fun tk=>⟨.bl _,H,I.tok tk,rfl,q⟩
end
def sp1(p:V->Hp->VK->Prop):Sp:=fun vs H Q _=>match vs with | [x]=>p x H Q | _=>False
def sp2(p:V->V->Hp->VK->Prop):Sp:=fun vs H Q _=>match vs with | [x,y]=>p x y H Q | _=>False
theorem zmo{p:V->Hp->VK->Prop}:∀ (vs:List V) (H:Hp) (Q:VK) (E:XK),sp1 p vs H Q E->∃ x,vs=[x]/\p x H Q:=by
 intro vs H Q E h
 match vs,h with
 | [x],h=>exact⟨x,rfl,h⟩
theorem zlN{p:V->V->Hp->VK->Prop}:∀ (vs:List V) (H:Hp) (Q:VK) (E:XK),sp2 p vs H Q E->∃ x y,vs=[x,y]/\p x y H Q:=by
 intro vs H Q E h
 match vs,h with
 | [x,y],h=>exact⟨x,y,rfl,h⟩
structure Dd(K:W.Frag)(mg:Str->Option Value)(x:Str)(st:Stmt)(ps:List Str):Prop where
 ex:∃ f fd,Fun K x x st f fd/\mg x=some (.ref f)/\Binds K fd ps []
structure Df(P:Program)(w:World)(K:W.Frag)(mg:Str->Option Value)(base:Heap)(x:Str)(ps:List Str)(k:Nat)(sp:Sp):Prop where
 ex:∃ f fd,FnOk P w K mg base CX0 k f fd ps sp/\mg x=some (.ref f)/\PySem.W.keepIn K (.ref f)=true/\Binds K fd ps []
section
variable {P:Program} {w:World} {K:W.Frag} {mg:Str->Option Value} {base:Heap} {x a b c d e:Str} {st:Stmt} {N:List Str} {k:Nat}
theorem Df.of{ps:List Str}{sp:Sp}(D:Dd K mg x st ps)(S:FnScope N ps (zk st))(len:∀ vs H Q E,sp vs H Q E->vs.length=ps.length)
  (hbody:∀ (f:Addr) (cdv:Value) (A:Around) (outer:List Env) (s:Shared) (H:Hp) (vs:List V) (Q:VK) (E:XK),Room k (A.deeper (envOfC x (zk st) s.heap.objs.size f cdv))->sp vs H Q E ->
   ∃ t,PSs (zhk CX0 P w K mg base N x (zk st) f cdv A outer s H E).nox (zaQ st) t/\t { nx:=fun _ H'=>Q .non H',rt:=Q } (start N vs) H):Df P w K mg base x ps (k+1) sp:=by
 obtain⟨f,fd,F,hm,hb⟩:=D.ex;exact⟨f,fd,F.ok S len (hbody f),hm,F.kp,hb⟩
theorem Df.of2{p:V->V->Hp->VK->Prop}(D:Dd K mg x st [a,b])(S:FnScope N [a,b] (zk st))(σ0:V->V->St)(hs:∀ v u,start N [v,u]=σ0 v u)
  (hbody:∀ (f:Addr) (cdv:Value) (A:Around) (outer:List Env) (s:Shared) (H:Hp) (v u:V) (Q:VK) (E:XK),Room k (A.deeper (envOfC x (zk st) s.heap.objs.size f cdv))->p v u H Q ->
   ∃ t,PSs (zhk CX0 P w K mg base N x (zk st) f cdv A outer s H E).nox (zaQ st) t/\t { nx:=fun _ H'=>Q .non H',rt:=Q } (σ0 v u) H):Df P w K mg base x [a,b] (k+1) (sp2 p):=by
 refine Df.of D S (fun vs H Q E h=>?_) fun f cdv A outer s H vs Q E hr h=>?_
 ·obtain⟨x,y,rfl,_⟩:=zlN vs H Q E h;rfl
 ·obtain⟨x,y,rfl,h⟩:=zlN vs H Q E h;rw [hs];exact hbody f cdv A outer s H x y Q E hr h
end
def tC2(p:V->V->Hp->VK->Prop)(ta tb:TE):TE:=fun σ H Q=>ta σ H fun x H1=>tb σ H1 fun y H2=>p x y H2 Q
section
variable {X:Cx} {x a b c d e':Str} {k j:Nat} {pos pos':Pos} {e1 e2 e3 e4 e5:Expr} {t1 t2 t3 t4 t5:TE}
theorem zqU{p:V->V->Hp->VK->Prop}(D:Df X.prog X.w X.K X.mg X.base x [a,b] k (sp2 p))(hr:Room j X.A)(hk:k<=j)(h1:PE X e1 t1)(h2:PE X e2 t2)(hg:Gl X x:=by rfl)(hdb:(x == ("__debug__":Str))=false:=by decide)
  (q1:starEach [e1,e2] X.env=(false,eval e1 X.env) :: starEach [e2] X.env:=by rfl) (q2:starEach [e2] X.env=(false,eval e2 X.env) :: starEach [] X.env:=by rfl)
  (hpl:(backTo pos (starEach [e2] X.env)).any (·.1)=false:=by rfl):PE X (.Call (.Name x pos') [e1,e2] [] pos) (tC2 p t1 t2):=by
 obtain⟨f,fd,F,hm,kp,hb⟩:=D.ex;intro zf s σ H Q I h;exact zit (dvs:=[]) (ds:=[]) (E:=E0) F (hr.mono hk) hg hm kp hb .nil pass0 (zc h1 (zc h2 zh q2) q1) hdb q1 hpl zf s σ H Q I h
end
theorem Dd.mk'{K:W.Frag}{h:Heap}{mg:Str->Option Value}(X:K.In h)(G:h.Ns mainGlobals mg){x:Str}{st:Stmt}{ps:List Str}{f:Addr}{oc:Value}{od an:Option Addr}{osl:Array (Option Value)}{kV doc pm cdv ct:Value}
  (a:PySem.W.nsIn K mainGlobals x=some (some (.ref f))) (l:K.lookup f=some ⟨oc,od,.func (PySem.W.fnOf x x (zcu st) (zaQ st) (zk st) .none kV doc pm an cdv ct),osl⟩)
  (c:PySem.W.codeIn K cdv x=true) (k:PySem.W.keepIn K (.ref f)=true)
  (hb:∀ (kV doc pm:Value) (an:Option Addr) (cdv ct:Value) (us:List Value),us.length=ps.length->bindArgs (PySem.W.fnOf x x (zcu st) (zaQ st) (zk st) .none kV doc pm an cdv ct) ⟨us,[]⟩=pure (ps.zip us)):Dd K mg x st ps :=
 ⟨f,_,zjt (st:=st) l c k,PySem.W.mg_of X G a,(zjt (st:=st) l c k).binds hb⟩
theorem zcD:bootBuiltins "len" = some (.builtin "len"):=by decide +kernel
theorem zq:bootBuiltins "isinstance" = some (.builtin "isinstance"):=by decide +kernel
theorem zqx:bootBuiltins "max" = some (.builtin "max"):=by decide +kernel
theorem zqM:bootBuiltins "min" = some (.builtin "min"):=by decide +kernel
theorem zgE:bootBuiltins "sorted" = some (.builtin "sorted"):=by decide +kernel
theorem ziX:bootBuiltins "int" = some (.type "int"):=by decide +kernel
theorem zhD:bootBuiltins "bool" = some (.type "bool"):=by decide +kernel
theorem zhN:bootBuiltins "list" = some (.type "list"):=by decide +kernel
theorem zdV:bootBuiltins "tuple" = some (.type "tuple"):=by decide +kernel
section
variable {H:Hp} {Q:VK}
theorem zmM{i:Nat}{σ:St}:zjx i σ H Q↔match σ[i]? with | some (some v)=>Q v H | _=>False:=by
 unfold zjx;constructor
 ·rintro⟨v,e,q⟩;rw [e];exact q
 ·intro h;split at h
  ·rename_i v e;exact⟨v,e,h⟩
  ·exact h.elim
theorem zkZ{g:Int->Int->V}{i j:Int}:rI0 g (.int i) (.int j) H Q↔Q (g i j) H :=
 ⟨fun⟨_,_,e1,e2,q⟩=>by cases e1; cases e2; exact q,fun q=>⟨i,j,rfl,rfl,q⟩⟩
theorem zrS{p:Bool->Prop}{b:Bool}:(∃ c,V.bl b=V.bl c/\p c)↔p b:=⟨fun⟨_,e,q⟩=>by cases e; exact q,fun q=>⟨b,rfl,q⟩⟩
end
section
variable {K:W.Frag} {H:Hp} {Q:VK} {x y:V} {d:PyData} {ds:List PyData}
def zrF(K:W.Frag):List V->Hp->VK->Prop:=fun xs H Q=>∃ p ys,xs=[.ref p]/\(SqL K H p ys\/SqT K H p ys)/\Q (.int ys.length) H
end
section
variable {X:Cx}
theorem zkV:CallR X (.builtin "len") (zrF X.K):=zek
end
def hid(a:Addr)(H:Hp):Hp:=fun b=>if b=a then none else H b
theorem zrm{a b:Addr}{H:Hp}(h:b≠a):hid a H b=H b:=if_neg h
theorem znA{a:Addr}{H:Hp}:hid a H a=none:=if_pos rfl
theorem Same.laid{H:Hp}{p:Addr}{o:HO}(h:H p=none):Same H (upd H p o):=fun b u e=>by
 rw [zw (zG e h)];exact e
section
variable {X:Cx} {zf:List (Addr×Obj)} {σ:St} {H:Hp} {s:Shared} {a:Addr} {m:List (Key×V)}
theorem Inv.fz(I:Inv X zf σ H s)(e:H a=some (.dK m)):∃ ob,Inv X zf σ (upd H a (.frz ob (.dK m))) s:=by
 have q:=(show ObjOk X.prog X.w H s.heap a (.dK m) from I.hok a _ e);obtain⟨_,_,vs,_,ob,es,ep,h1,_⟩:=id q;exact⟨ob,I.write (x:=a) (e:=a) (o:=.frz ob (.dK m)) (h':=s.heap) (t':=s.toks) (by rw [e]; exact True.intro) (.inl rfl) (fun b v _ z=>z) ⟨ob,h1⟩ ⟨h1,q⟩⟩
def zrC(t:TE):TE:=fun σ H Q=>t σ H fun v H1=>∃ a m,v=.ref a/\H1 a=some (.dK m)/\∀ ob,Q v (upd H1 a (.frz ob (.dK m)))
theorem zqQ{e:Expr}{t:TE}(h:PE X e t):PE X e (zrC t):=fun zf s σ H Q I hw =>
 thn (h zf s σ H _ I hw) fun u s1 ⟨v,H1,I1,r1,a,m,ev,ea,q⟩=>by
  obtain⟨ob,J⟩:=I1.fz ea;exact⟨v,_,J,r1,q ob⟩
def zrA(i:Nat)(t:TS):TS:=fun D σ H=>t { D with nx:=fun σ' H'=>∃ a m,σ'[i]? = some (some (.ref a))/\H' a=some (.dK m)/\∀ ob,D.nx σ' (upd H' a (.frz ob (.dK m))) } σ H
theorem zrE{i:Nat}{st:Stmt}{t:TS}(h:PS X st t):PS X st (zrA i t):=fun zf s σ H D I hw =>
 thn (h zf s σ H _ I hw) fun f s1 q=>by
  cases f with
  | next =>
   obtain⟨σ1,H1,I1,a,m,e1,e2,q⟩:=q;obtain⟨ob,J⟩:=I1.fz e2;exact⟨σ1,_,J,q ob⟩
  | brk=>exact q
  | cont=>exact q
  | ret v=>exact q
end
end
section
theorem zl8(d:PyData):zo2 d "int" = match d with | .int _=>true | .bool _=>true | _=>false:=by cases d <;> first | rfl | (show zmy _ _=_; simp [zmy,tyD])
theorem ziV(d:PyData):zo2 d "bool" = match d with | .bool _=>true | _=>false:=by cases d <;> first | rfl | (show zmy _ _=_; simp [zmy,tyD])
theorem zhv(d:PyData):zo2 d "tuple" = match d with | .tuple _=>true | _=>false:=by cases d <;> first | rfl | (show zmy _ _=_; simp [zmy,tyD])
theorem zjr(d:PyData):zo2 d "list" = match d with | .list _=>true | _=>false:=by cases d <;> first | rfl | (show zmy _ _=_; simp [zmy,tyD])
def vw:List Addr->Hp->Hp
 | [],H=>H
 | a :: r,H=>hid a (vw r H)
def zoN(K:W.Frag):V->V->Hp->VK->Prop:=fun x y H Q=>∃ (a:Addr) (ns:List Int) (i:Int),x=.ref a/\y=.int i/\SqL K H a (ns.map V.int)/\0<=i/\∀ n,Q (.int n) H
theorem zoV{ns:List Int}{i:Int}(h0:0<=i)(h1:i<((ns.map V.int).length:Int)):∃ n,atI (ns.map V.int) i=some (.int n):=by
 obtain⟨k,rfl⟩:=Int.eq_ofNat_of_zero_le h0;have hk:k<ns.length:=by rw [List.length_map] at h1; omega
 exact⟨ns[k],zec (by rw [List.getElem?_map,List.getElem?_eq_getElem hk]; rfl)⟩
theorem znr{ns:List Int}{lo hi:Option Int}{x:V}(h:x∈zng (ns.map V.int) lo hi):∃ n,x=.int n:=by
 have h1:=List.mem_of_mem_drop (List.mem_of_mem_take h);obtain⟨n,_,e⟩:=List.mem_map.mp h1;exact⟨n,e.symm⟩
theorem Fun.bind1{K:W.Frag}{x a:Str}{st:Stmt}{f:Addr}{fd:FuncData}(F:Fun K x x st f fd)
  (h:∀ (kV doc pm:Value) (an:Option Addr) (cdv ct:Value) (u:Value),bindArgs (PySem.W.fnOf x x (zcu st) (zaQ st) (zk st) .none kV doc pm an cdv ct) ⟨[u],[]⟩=pure [(a,u)]):∀ (s:Shared) (u:Value),BindsTo s fd ⟨[u],[]⟩ [(a,u)]:=by
 obtain⟨oc,od,kV,doc,pm,an,cdv,ct,osl,rfl,lk,hcd⟩:=F.ex;exact fun s u=>.of_eq (h kV doc pm an cdv ct u)
def zrw(K:W.Frag):V->Hp->VK->Prop:=fun x H Q=>∃ (a:Addr) (ns:List Int),x=.ref a/\SqL K H a (ns.map V.int)/\ns.length<=63/\∀ H',Q (.bl true) H'
theorem walk_law{l:PySem.W.OpenLaw}{k:Nat}{q:Program}{loose:List Str}{XP:(Str->Option Value)->Heap->Prop}{YP:World->Heap->Prop}{d:DefRec}{K:Params->W.Frag}(hn:l.most=some 63)(hdf:d.params.defaults=[])
  (hr:Room k callerA) (hY:∀ (w:World) (h:Heap),YP w h->(K w.params).In h)
  (F:∀ (w:World) (mg:Str->Option Value) (fa:Addr) (h:Heap),(K w.params).In h->h.Ns mainGlobals mg->mg d.name=some (.ref fa) ->
   ∃ fd:FuncData,(∀ (s:Shared) (u:Value),BindsTo s fd ⟨[u],[]⟩ [("script",u)])/\∀ base:Heap,(K w.params).In base->base.Ns mainGlobals mg->FnOk l.prog w (K w.params) mg base CX0 k fa fd ["script"] (sp1 (zrw (K w.params)))) :
  PySem.W.WalkO q loose XP YP l.row.toRowW d [] (fun f vs=>PySem.call f vs) :=
 L2.walk_of (n:=63) (k:=k) (x:="script") (CX:=fun _=>CX0) (sp:=fun w=>sp1 (zrw (K w.params))) hn (by decide) hdf hr hY F (fun _ _ a ns hl _ hS=>⟨a,ns,rfl,hS,hl,fun _=>rfl⟩) fun _ _ _ _ _ z=>z
theorem Fun.ok1{P:Program}{w:World}{K:W.Frag}{mg:Str->Option Value}{base:Heap}{x a:Str}{st:Stmt}{f:Addr}{fd:FuncData}{N:List Str}{k:Nat}{p:V->Hp->VK->Prop}(F:Fun K x x st f fd)(S:FnScope N [a] (zk st))(σ0:V->St)(hs:∀ v,start N [v]=σ0 v)
  (hbody:∀ (cdv:Value) (A:Around) (outer:List Env) (s:Shared) (H:Hp) (v:V) (Q:VK) (E:XK),Room k (A.deeper (envOfC x (zk st) s.heap.objs.size f cdv))->p v H Q ->
   ∃ t,PSs (zhk CX0 P w K mg base N x (zk st) f cdv A outer s H E).nox (zaQ st) t/\t { nx:=fun _ H'=>Q .non H',rt:=Q } (σ0 v) H):FnOk P w K mg base CX0 (k+1) f fd [a] (sp1 p):=by
 refine F.ok S (fun vs H Q E h=>?_) fun cdv A outer s H vs Q E hr h=>?_
 ·obtain⟨x,rfl,_⟩:=zmo vs H Q E h;rfl
 ·obtain⟨x,rfl,h⟩:=zmo vs H Q E h;rw [hs];exact hbody cdv A outer s H x Q E hr h
end
section
mutual
theorem Has.reads{X:Cx}{zf:List (Addr×Obj)}{σ:St}{H:Hp}{s:Shared}(I:Inv X zf σ H s):∀ (d:PyData) (v:V) (u:Value),Has H d v->d.canLay0=true->RelV v u->∃ as,Reads s.heap u d as
 | .none,v,u,h,_,r=>by
  rw [zdz.mp h] at r;cases (show u=Value.none from r);exact⟨_,.none⟩
 | .bool b,v,u,h,_,r=>by
  rw [zc7.mp h] at r;cases (show u=Value.bool b from r);exact⟨_,.bool b⟩
 | .int i,v,u,h,_,r=>by
  rw [zbR.mp h] at r;obtain⟨t,q⟩:=(show ∃ t,u=Value.int i t from r);cases q;exact⟨_,.int i t⟩
 | .str x,v,u,h,_,r=>by
  rw [zdq.mp h] at r;obtain⟨t,q⟩:=(show ∃ t,u=Value.str x t from r);cases q;exact⟨_,.str x t⟩
 | .list ds,v,u,h,c,r=>by
  obtain⟨a,vs,rfl,e,l⟩:=zbm.mp h;cases (show u=Value.ref a from r);obtain⟨_,its,n,rv,e1⟩:=(show ObjOk X.prog X.w H s.heap a (.lst vs) from I.hok a _ e);obtain⟨as,q⟩:=HasL.reads I ds vs its l (by simpa only [PyData.canLay0] using c) rv;exact⟨_,.list e1 rfl rfl (by simpa using q)⟩
 | .tuple ds,v,u,h,c,r=>by
  obtain⟨a,vs,rfl,e,l⟩:=zas.mp h;cases (show u=Value.ref a from r);obtain⟨_,its,rv,o,e1,e2,n,e3⟩:=(show ObjOk X.prog X.w H s.heap a (.tup vs) from I.hok a _ e);obtain⟨as,q⟩:=HasL.reads I ds vs its l (by simpa only [PyData.canLay0] using c) rv;exact⟨_,.tuple e1 e2 e3 (by simpa using q)⟩
 | .dict _,_,_,_,c,_=>by simp [PyData.canLay0] at c
theorem HasL.reads{X:Cx}{zf:List (Addr×Obj)}{σ:St}{H:Hp}{s:Shared}(I:Inv X zf σ H s):∀ (ds:List PyData) (vs:List V) (us:List Value),HasL H ds vs->PyData.canLayAll0 ds=true->Vals vs us->∃ as,ReadsAll s.heap us ds as
 | [],vs,us,h,_,r=>by
  rw [zal.mp h] at r;cases r;exact⟨_,.nil⟩
 | d :: ds,vs,us,h,c,r=>by
  obtain⟨v,w',rfl,h1,h2⟩:=zK.mp h;have c':d.canLay0=true/\PyData.canLayAll0 ds=true:=by simpa [PyData.canLayAll0] using c
  cases r with
  | cons r1 r2 =>
   obtain⟨as,q1⟩:=Has.reads I d v _ h1 c'.1 r1;obtain⟨bs,q2⟩:=HasL.reads I ds w' _ h2 c'.2 r2;exact⟨_,.cons q1 q2⟩
end
def zr3:R2:=fun x y H Q=>∃ d e,Has H d x/\Has H e y/\SeqAt.shaped d=true/\SeqAt.shaped e=true/\Q (.bl (PyData.eqv d e)) H
def zsm:R2:=fun x y H Q=>∃ d e,Has H d x/\Has H e y/\SeqAt.shaped d=true/\SeqAt.shaped e=true/\Q (.bl (!PyData.eqv d e)) H
section
variable {X:Cx}
theorem zfA(hu:X.A.units+64<cLine):OpR X (compareOp .Eq) zr3:=by
 intro zf s σ H x y v u Q I rx ry h;obtain⟨d,e,hd,he,sd,se,q⟩:=h;obtain⟨as,q1⟩:=Has.reads I d x v hd (SeqAt.canLay_of_shaped sd) rx;obtain⟨bs,q2⟩:=Has.reads I e y u he (SeqAt.canLay_of_shaped se) ry;exact eq_dataH q1 q2 sd se hu ⟨.bl _,H,I,rfl,q⟩
theorem zeU(hu:X.A.units+64<cLine):OpR X (compareOp .NotEq) zsm:=by
 intro zf s σ H x y v u Q I rx ry h;obtain⟨d,e,hd,he,sd,se,q⟩:=h;obtain⟨as,q1⟩:=Has.reads I d x v hd (SeqAt.canLay_of_shaped sd) rx;obtain⟨bs,q2⟩:=Has.reads I e y u he (SeqAt.canLay_of_shaped se) ry;exact ne_dataH q1 q2 sd se hu ⟨.bl _,H,I,rfl,q⟩
end
section
variable {prog:Program} {w:World} {A:Around} {E:Value->Shared->Prop} {s:Shared} {l:Addr}
theorem zpB{vs:List Value}{ns:List Int}(hi:IntsAre vs ns):∃ xs:Array (Int×Tok),vs.toArray=intItems xs/\ns=xs.toList.map (·.1):=by
 obtain⟨xs,e⟩:=hi.allInts.items;exact⟨xs,e,by rw [<- hi.numsOf,<- nums_intItems,<- e]⟩
end
section
variable {K:W.Frag} {o:List Addr} {σ:St} {H0:Hp} {t t1 t2 t3 t4 t5:TE} {ta:TA} {tt tu:TT} {d d1 d2 d3 d4 d5:PyData} {ds:List PyData} {b c:Bool}
def zld:PyData->Bool
 | .none=>true
 | _=>false
theorem zgX{H:Hp}{v:V}(h:Has H d v):decide (v=.non)=zld d:=by
 cases d with
 | none=>rw [zdz.mp h]; rfl
 | bool _=>rw [zc7.mp h]; rfl
 | int _=>rw [zbR.mp h]; rfl
 | str _=>rw [zdq.mp h]; rfl
 | list _=>obtain⟨a,vs,rfl,_⟩:=zbm.mp h; rfl
 | tuple _=>obtain⟨a,vs,rfl,_⟩:=zas.mp h; rfl
 | dict _=>obtain⟨a,vs,rfl,_⟩:=zgu.mp h; rfl
def zsg:R2:=fun x y H Q=>y=.non/\Q (.bl (decide (x=.non))) H
def zrj:R2:=fun x y H Q=>y=.non/\Q (.bl (!decide (x=.non))) H
theorem zlc{X:Cx}:OpR X (compareOp .Is) zsg:=zqK
theorem znj{X:Cx}:OpR X (compareOp .IsNot) zrj:=zoZ
end
end
section
theorem zlT{K:W.Frag}{a:Addr}{ns:List Int}{N:Int}{j:Nat}{tb:TS}{D:Ends}{σ:St}{H:Hp}(P:St->Prop)(h0:σ[0]? = some (some (.ref a)))(hS:SqL K H a (ns.map V.int))(hlen:ns.length<=63)(hP:P σ)
  (turn:∀ (n:Int) (σ:St) (H1 H2:Hp),P σ->Same H H1->Same H1 H2->tb { D with nx:=fun σ' H'=>Same H1 H'/\P σ',ct:=fun σ' H'=>Same H1 H'/\P σ',bk:=D.nx } (σ.set j (some (.int n))) H2)
  (done:∀ (σ:St) (H1:Hp),P σ->Same H H1->D.nx σ H1) :
  zqw (zo7 K (tOp zri (zpH (zjF (tC2 (zoN K) (zjx 0) (tC (.int 0))) zpF)) (tSl (zrO K) (zjx 0) (zkC (tC (.int 1))) (zkC (tC (.int N)))))) (zjZ j) tb D σ H:=by
 refine⟨_,h0,a,ns,0,rfl,rfl,hS,by decide,fun n0=>⟨by show 1<=sizeLine; decide,fun p hp=>?_⟩⟩;have s1:Same H (upd H p (.lst [.int n0])):=Same.laid hp;refine⟨_,h0,_,rfl,_,rfl,a,_,rfl,s1.seq hS,fun p2 hp2=>?_⟩;have s2:=s1.trans (Same.laid (o:=.lst (zng (ns.map V.int) (some 1) (some N))) hp2);have np:p≠p2:=zG zH hp2;have hz:(zng (ns.map V.int) (some 1) (some N)).length<=63:=Nat.le_trans (ze9 _ _ _) (by rw [List.length_map]; exact hlen);refine⟨p,p2,_,_,rfl,rfl,by rw [zw np,zH],zH,Nat.le_of_lt (small1000 (by simp only [List.length_cons,List.length_nil]; omega)),fun p3 hp3=>?_⟩;have s3:=s2.trans (Same.laid (o:=.lst ([V.int n0]++zng (ns.map V.int) (some 1) (some N))) hp3);refine⟨p3,rfl,⟨_,.of zH⟩,zmG (K:=K) (a:=p3) (xs:=[V.int n0]++zng (ns.map V.int) (some 1) (some N)) (fun i σ' H'=>Same _ H'/\P σ') ⟨Same.refl _,hP⟩ (fun i σ H4 _ ⟨s4,_⟩=>.of (s4 _ _ zH)) ?_ ?_⟩
 ·rintro i x σ' H4 hi ⟨s4,p4⟩;obtain⟨n,rfl⟩:∃ n,x=.int n:=by
   rcases List.mem_append.mp (List.mem_of_getElem? hi) with m | m
   ·exact⟨n0,List.mem_singleton.mp m⟩
   ·exact znr m
  exact turn n σ' _ H4 p4 s3 s4
 ·rintro σ' H4 ⟨s4,p4⟩;exact done σ' H4 p4 (s3.trans s4)
end
section
section
variable {prog:Program} {w:World} {A:Around} {E:Value->Shared->Prop} {R:Result->Shared->Prop} {s:Shared}
theorem zgO{elt target iter:Expr}{ifs:List Expr}{scope:Scope}{pos:Pos}{it acc:Value}{env:Env}(I:Nat->Shared->Prop)
  (turn:∀ n s,I n s->wpAny (model prog w) A (pyNext it) (fun r s₁=>match r with
   | none=>R (.ok .next) s₁
   | some v=>wpAny (model prog w) A (letOwnedTupleGo target it v) (fun _ s₀=>wpAny (model prog w) A (assign target env v) (fun _ s₂ =>
     wpAny (model prog w) A (forIn ifs true fun c r=>if r=true then do let ok <- isTrue c env (eval c env); pure (ForInStep.yield ok) else pure (ForInStep.yield r)) (fun ok s₃ =>
      if ok=true then wpAny (model prog w) A (eval elt env) (fun x s₄ =>
       wpAny (model prog w) A (call (.builtin "list.append") [acc,x]) (fun _ s₅=>∃ m,m<n/\I m s₅) (fun _ _=>False) s₄) (fun _ _=>False) s₃
      else ∃ m,m<n/\I m s₃) (fun _ _=>False) s₂) (fun _ _=>False) s₀) (fun _ _=>False) s₁) (fun _ _=>False) s)
  (n:Nat) (h:I n s) :
  codeAny (model prog w) A (.compLoop (.ListComp elt [⟨target,iter,ifs,0⟩] scope pos) 0 it acc env) R s:=by
 have up:∀ {α:Type} {t:Sem α} {Q:α->Shared->Prop} {E':Value->Shared->Prop} {s':Shared},wpAny (model prog w) A t Q (fun _ _=>False) s'->wpAny (model prog w) A t Q E' s':=fun h=>wpAny_mono h (fun _ _ q=>q) fun _ _ z=>z.elim;refine codeAny_loop rfl I (fun n s hI=>?_) n h;show wpAny _ A ((compTurn (.ListComp elt [⟨target,iter,ifs,0⟩] scope pos) 0 it acc env).onRaise (fun x=>do noteFrame x env; theTreesLotGoes x)) _ _ s;refine wpAny_noted ?_;rw [compTurn_list];refine wpAny_bind (wpAny_standAt (wpAny_bind (thn (up (turn n s hI)) fun r s₁ h₁=>?_)));cases r with
 | none=>exact wpAny_pure h₁
 | some v =>
  refine wpAny_bind (thn (up h₁) fun _ s₀ h₀=>?_);refine wpAny_bind (thn (up h₀) fun _ s₂ h₂=>wpAny_bind (thn (up h₂) fun ok s₃ h₃=>?_));cases ok with
  | false=>exact wpAny_pure ⟨rfl,h₃⟩
  | true =>
   exact wpAny_bind (wpAny_bind (thn (up h₃) fun x s₄ h₄=>wpAny_bind (thn (up h₄) fun _ s₅ h₅=>wpAny_pure (wpAny_pure ⟨rfl,h₅⟩))))
end
def zb1(X:Cx)(scope:Scope)(cl:List (Str×Addr))(C:Addr)(s₃:Shared)(H₃:Hp)(fp:List Addr)(N:List Str):Cx where
 prog:=X.prog
 w:=X.w
 K:=X.K
 mg:=X.mg
 base:=X.base
 A:=X.A
 N:=N
 s₀:=s₃
 H₀:=H₃
 env:=compEnvC scope cl C X.env
 outer:=X.stack
 stack:=X.stack
 ex:=fp
 fn:=fun _=>false
 calm:=X.calm
 pn:=[]
 xe:=fun _ _=>False
def PTs(X:Cx)(ifs:List Expr)(t:TT):Prop :=
 ∀ (zf:List (Addr×Obj)) (s:Shared) (σ:St) (H:Hp) (Q:Bool->Hp->Prop),Inv X zf σ H s->t σ H Q ->
  wpAny (model X.prog X.w) X.A (forIn ifs true fun c r=>if r=true then do let ok <- isTrue c X.env (eval c X.env); pure (ForInStep.yield ok) else pure (ForInStep.yield r)) (TP X zf σ Q) X.xe s
def zqu:TT:=fun _ H Q=>Q true H
theorem zea{X:Cx}:PTs X [] zqu:=fun _ _ _ H _ I h=>wpAny_tests_nil ⟨H,I,h⟩
theorem zh4{X:Cx}{c:Expr}{t:TT}(h:PT X c t):PTs X [c] t:=fun zf s σ H Q I hw=>wpAny_tests_one (h zf s σ H Q I hw)
def tau(caps:List (Option Nat))(σ:St):St:=caps.map fun o=>o.bind fun i=>(σ[i]?).join
def zm8(caps:List (Option Nat))(wi:TI)(g:TG)(tt:TT)(te:TE):TE:=fun σ H Q=>wi σ H fun J H1=>∀ D,H1 D=none->∃ W:Nat->Nat->St->Hp->Prop,(∃ m,W 0 m (tau caps σ) (upd H1 D (.lst []))) /\
 ∀ i m τ H2,W i m τ H2->(J.stop i H2/\Q (.ref D) H2)\/(J.go i H2/\∀ x H3,J.yld i H2 x H3->g x τ H3 fun τ4 H4=>tt τ4 H4 fun b H5 =>
  if b=true then te τ4 H5 fun v H6=>∃ xs,H6 D=some (.lst xs)/\xs.length<sizeLine/\∃ m',m'<m/\W (i+1) m' τ4 (upd H6 D (.lst (xs++[v]))) else ∃ m',m'<m/\W (i+1) m' τ4 H5)
structure CompOk(X:Cx)(scope:Scope)(cl:List (Str×Addr))(N:List Str)(caps:List (Option Nat)):Prop where
 clos:closureFor scope X.env=pure cl
 sub:∀ x c,cl.lookup x=some c->X.env.cells.lookup x=some c
 kind:scope.kind=.function
 cell:∀ y∈scope.names,y.2≠.cell
 names:∀ y∈scope.names,y.2=.local->scope.names.lookup y.1=some .local
 has:∀ x,((relabel scope X.env).names.lookup x=some .cell\/(relabel scope X.env).names.lookup x=some .free)->∃ c,cl.lookup x=some c
 cap:∀ (j i:Nat) (x:Str),caps[j]? = some (some i)->N[j]? = some x->X.N[i]? = some x/\Vis X.env.scope x/\¬ X.env.kindOf x=some .local/\∃ c,cl.lookup x=some c/\((relabel scope X.env).names.lookup x=some .cell\/(relabel scope X.env).names.lookup x=some .free)
 len:caps.length=N.length
section
variable {X:Cx} {scope:Scope} {cl:List (Str×Addr)} {N:List Str} {caps:List (Option Nat)} {tg iter elt:Expr} {ifs:List Expr} {pos:Pos} {wi:TI} {g:TG} {tt:TT} {te:TE}
theorem zkb{zf:List (Addr×Obj)}{σ:St}{H:Hp}{s:Shared}{fp:List Addr}{h₁:Heap}{t':Nat}(c:CompOk X scope cl N caps)(I:Inv X zf σ H s)(f:∀ b∈fp,FpOk X zf H b)(fo:∀ b∈fp,∃ o,s.heap.get? b=some o)
  (hns:h₁.Ns s.heap.objs.size (fun _=>none)) (hk:∀ b o,s.heap.get? b=some o->h₁.get? b=some o) :
  Inv (zb1 X scope cl s.heap.objs.size s H fp N) [] (tau caps σ) H { s with heap:=h₁,toks:=t' }:=by
 have lt:∀ b∈fp,b<s.heap.objs.size:=fun b hb=>by obtain⟨o,e⟩:=fo b hb; exact Heap.lt_size e
 have cells:∀ x k,cl.lookup x=some k->∃ v,s.heap.IsCell k v:=fun x k e=>I.cell x k (c.sub x k e);refine⟨⟨I.ok.mod,c.kind,I.ok.glob,I.ok.blt,Nat.le_refl _,fun x y k h1 h2=>I.ok.inj x y k (c.sub x k h1) (c.sub y k h2),fun x hx=>c.has x hx,fun x k h _=>absurd (show false=true from h) (by decide),I.ok.hd,I.ok.frames,.inl rfl,
  fun b hb=>⟨Nat.ne_of_lt (lt b hb),fun x k e=>(f b hb).2.2.2.2.1 x k (c.sub x k e)⟩,I.bs,Nat.le_trans I.ok.bsz I.sz,fun b o e hb=>?_,fun b hb z=>?_,I.stack,I.stkFree⟩,
  rfl,I.bare,Un.kept hk,⟨_,hns,fun j x v h1 h2 h3=>?_⟩,fun x k e=>?_,I.hok.fresh (Nat.le_refl _),fun x k e=>I.freeC x k (c.sub x k e),fun p hp=>absurd (show p∈([]:List (Addr×Obj)) from hp) (by simp),I.hok.kept hk,?_⟩
 ·rcases(f b hb).2.2.2.1 with q | q
  ·exact I.ok.noex b o e q
  ·exact absurd (Nat.lt_of_lt_of_le (Heap.lt_size e) (Nat.le_trans I.ok.bsz q)) (Nat.lt_irrefl _)
 ·rcases List.mem_cons.mp (I.stkSub b z) with q | q
  ·exact(f b hb).2.1 q
  ·exact(f b hb).2.2.1 q
 ·have h2':(caps.map fun o=>o.bind fun i=>(σ[i]?).join)[j]? = some (some v):=h2;rw [List.getElem?_map] at h2';cases e:caps[j]? with
  | none=>rw [e] at h2'; cases h2'
  | some oi =>
   rw [e] at h2';have h2'':(oi.bind fun i=>(σ[i]?).join)=some v:=Option.some.inj h2';cases oi with
   | none=>cases h2''
   | some i =>
    have h4:(σ[i]?).join=some v:=h2'';have h5:σ[i]? = some (some v):=by
     cases q:σ[i]? with
     | none=>rw [q] at h4; cases h4
     | some w'=>rw [q] at h4; exact congrArg some h4
    obtain⟨k1,k2,k3,cc,k4,k5⟩:=c.cap j i x e h1;obtain⟨m,hn,hl⟩:=I.loc;obtain⟨u,r,l⟩:=hl i x v k1 h5 k2;refine⟨u,r,.inr ⟨k5,cc,k4,?_⟩⟩;rcases l with ⟨q,_⟩ | ⟨_,c',hc',hcell⟩
    ·exact(k3 q).elim
    ·rw [c.sub x cc k4] at hc';cases hc';exact hcell.keeps hk
 ·obtain⟨v,q⟩:=cells x k e;exact⟨v,q.keeps hk⟩
 ·show (caps.map _).length=N.length;rw [List.length_map];exact c.len
theorem zl9{zf:List (Addr×Obj)}{σ τ:St}{H H':Hp}{s s':Shared}{h':Heap}{fp:List Addr}(I:Inv X zf σ H s)(f:∀ b∈fp,FpOk X zf H b)(J:Inv (zb1 X scope cl s.heap.objs.size s H fp N) [] τ H' s')(hs:Heap.SameBut s.heap.objs.size s'.heap h'):
  Inv X zf σ H' { s' with heap:=h' }:=by
 have hC:H' s.heap.objs.size=none:=J.free;have keep:∀ b o,b≠s.heap.objs.size->s'.heap.get? b=some o->h'.get? b=some o:=fun b o nb e=>hs.extBut b o nb e;have u1:Un (frs X.stack) (s.heap.objs.size :: fp) H H' s.heap s'.heap:=Un.mono J.base (fun b hb=>hb) (fun b hb=>List.mem_cons_of_mem _ hb);have u2:Un (frs X.stack) (s.heap.objs.size :: fp) H' H' s'.heap h' :=
  ⟨fun b o e _ _ hx=>keep b o (fun z=>hx (by rw [z]; exact List.mem_cons_self)) e,fun b o e _ _ hx=>⟨o.slots,keep b o (fun z=>hx (by rw [z]; exact List.mem_cons_self)) e⟩,fun _ _ _ n _=>n,fun b o e hx=>⟨o,keep b o (fun z=>hx (by rw [z]; exact List.mem_cons_self)) e⟩,fun _ _ q=>q,fun _ _ _ q=>q,fun _ ps q=>⟨#[],by rw [q]; simp⟩⟩
 have hok:HOk X.prog X.w H' h':=fun a o e=>(J.hok a o e).stay (fun b u hb q=>keep b u (fun z=>by
  rcases hb with hb | hb
  ·rw [<- hb,z,hC] at e; cases e
  ·rw [z,hC] at hb; cases hb) q) (fun b q=>q) fun b xs q=>q
 refine I.call' (s':={ s' with heap:=h' }) (ch:=s.heap.objs.size :: fp) J.os (u1.trans u2) hok J.bare fun b hb=>?_;rcases List.mem_cons.mp hb with rfl | hb
 ·refine⟨.inr I.sz,Nat.ne_of_gt I.lt,fun x k e z=>?_,fun p hp z=>?_⟩
  ·obtain⟨v,q⟩:=I.cell x k e;exact absurd q.lt (by rw [z]; exact Nat.lt_irrefl _)
  ·exact absurd (Heap.lt_size (I.pin p hp).1) (by rw [z]; exact Nat.lt_irrefl _)
 ·obtain⟨f0,f1,f2,f3,f4,f5⟩:=f b hb;exact⟨f3,f1,f4,f5⟩
theorem zkf{zf:List (Addr×Obj)}{σ:St}{H2:Hp}{s2:Shared}{it:Addr}{fp:List Addr}{tn:Nat->Heap->Prop}{J:It}{RR:Value->Addr->Result->Shared->Prop}{E:Value->Shared->Prop}(hc:X.calm=true)(c:CompOk X scope cl N caps)
  (I2:Inv X zf σ H2 s2) (T:Turn X.prog X.w X.K tg J fp it tn) (st2:tn 0 s2.heap) (f2:∀ b∈fp,FpOk X zf H2 b)
  (hg:∀ C s H fp,PG (zb1 X scope cl C s H fp N) tg g) (ht:∀ C s H fp,PTs (zb1 X scope cl C s H fp N) ifs tt) (he:∀ C s H fp,PE (zb1 X scope cl C s H fp N) elt te)
  (Q:VK) (hq:∀ D,H2 D=none->∃ W:Nat->Nat->St->Hp->Prop,(∃ m,W 0 m (tau caps σ) (upd H2 D (.lst []))) /\
   ∀ i m τ H2,W i m τ H2->(J.stop i H2/\Q (.ref D) H2)\/(J.go i H2/\∀ x H3,J.yld i H2 x H3->g x τ H3 fun τ4 H4=>tt τ4 H4 fun b H5 =>
    if b=true then te τ4 H5 fun v H6=>∃ xs,H6 D=some (.lst xs)/\xs.length<sizeLine/\∃ m',m'<m/\W (i+1) m' τ4 (upd H6 D (.lst (xs++[v]))) else ∃ m',m'<m/\W (i+1) m' τ4 H5))
  (hRR:∀ (D C:Addr) (H':Hp) (s':Shared) (m:Str->Option Value),s'.heap.Ns C m->FpOk X zf H' C->(∀ h',Heap.SameBut C s'.heap h'->Inv X zf σ H' { s' with heap:=h' })->Q (.ref D) H'->RR (.ref D) C (.ok .next) s') :
  wpAny (model X.prog X.w) X.A (newList []) (fun acc s₃=>wpAny (model X.prog X.w) X.A (newFunctionEnv scope X.env.globals cl [] X.env.qual none .none (some X.env)) (fun cenv s₄ =>
   codeAny (model X.prog X.w) X.A (.compStart (.ListComp elt [⟨tg,iter,ifs,0⟩] scope pos) 0 (.ref it) acc { cenv with scope:=relabel scope X.env }) (RR acc cenv.locals) s₄) E s₃) E s2:=by
 have hD:H2 s2.heap.objs.size=none:=I2.hok.fresh (Nat.le_refl _);obtain⟨W,⟨m0,w0⟩,turn⟩:=hq s2.heap.objs.size hD;have I3:Inv X zf σ (upd H2 s2.heap.objs.size (.lst [])) { s2 with heap:=s2.heap.push { cls:=.type "list",data:=.seq ([]:List Value).toArray } }:=I2.laid (t':=s2.toks) (fun b u e=>Heap.get?_push_of_some _ e) (Nat.le_refl _) ⟨Nat.zero_le _,[],0,.nil,Heap.get?_push_size _ rfl⟩;have fo:∀ b∈fp,∃ o,s2.heap.get? b=some o:=fun b hb=>by obtain⟨o,e,_⟩:=T.obj 0 _ st2 b hb; exact⟨o,e⟩
 have f3:∀ b∈fp,FpOk X zf (upd H2 s2.heap.objs.size (.lst [])) b:=fun b hb=>by
  obtain⟨o,e⟩:=fo b hb;refine⟨?_,(f2 b hb).2⟩;rw [zw (Nat.ne_of_lt (Heap.lt_size e))];exact(f2 b hb).1
 refine wpAny_newObj_type (wpAny_newFunctionEnv c.cell (by intro y hy; simp at hy) (fun h₁ hns₁ hsb₁=>?_) c.kind);have hk:∀ b o,(s2.heap.push { cls:=.type "list",data:=.seq ([]:List Value).toArray }).get? b=some o->h₁.get? b=some o:=fun b o e=>hsb₁.extBut b o (Nat.ne_of_lt (Heap.lt_size e)) (Heap.get?_push_of_some _ e);have st4:tn 0 h₁:=T.keep 0 _ _ st2 fun b _ o e=>hk b o (Heap.get?_push_of_some _ e);have I4:=zkb (t':=s2.toks+([]:List (Str×Value)).length) c I3 f3 (fun b hb=>by obtain⟨o,e⟩:=fo b hb; exact⟨o,Heap.get?_push_of_some _ e⟩) hns₁ hk;have fpok:∀ {H':Hp},(∀ b∈fp,H' b=none)->∀ b∈fp,FpOk (zb1 X scope cl (s2.heap.push { cls:=.type "list",data:=.seq ([]:List Value).toArray }).objs.size { s2 with heap:=s2.heap.push { cls:=.type "list",data:=.seq ([]:List Value).toArray } } (upd H2 s2.heap.objs.size (.lst [])) fp N) [] H' b:=fun hn b hb =>
  ⟨hn b hb,(I4.ok.exf b hb).1,I4.ok.exfs b hb,.inl hb,(I4.ok.exf b hb).2,fun p hp=>absurd (show p∈([]:List (Addr×Obj)) from hp) (by simp)⟩
 have loop:codeAny (model X.prog X.w) X.A (.compLoop (.ListComp elt [⟨tg,iter,ifs,0⟩] scope pos) 0 (.ref it) (.ref s2.heap.objs.size) (compEnvC scope cl (s2.heap.push { cls:=.type "list",data:=.seq ([]:List Value).toArray }).objs.size X.env))
   (RR (.ref s2.heap.objs.size) (s2.heap.push { cls:=.type "list",data:=.seq ([]:List Value).toArray }).objs.size) { s2 with heap:=h₁,toks:=s2.toks+([]:List (Str×Value)).length }:=by
  refine zgO (fun n s'=>∃ i τ H',Inv (zb1 X scope cl (s2.heap.push { cls:=.type "list",data:=.seq ([]:List Value).toArray }).objs.size { s2 with heap:=s2.heap.push { cls:=.type "list",data:=.seq ([]:List Value).toArray } } (upd H2 s2.heap.objs.size (.lst [])) fp N) [] τ H' s'/\tn i s'.heap/\(∀ b∈fp,H' b=none)/\W i n τ H') ?_ m0 ⟨0,_,_,I4,st4,fun b hb=>(f3 b hb).1,w0⟩;rintro n s5 ⟨i,τ,H5,I5,st5,fr5,w5⟩;rcases turn i n τ H5 w5 with ⟨stop,qn⟩ | ⟨go,step⟩
  ·refine thn (T.done (zb1 X scope cl (s2.heap.push { cls:=.type "list",data:=.seq ([]:List Value).toArray }).objs.size { s2 with heap:=s2.heap.push { cls:=.type "list",data:=.seq ([]:List Value).toArray } } (upd H2 s2.heap.objs.size (.lst [])) fp N) rfl rfl rfl hc i [] s5 τ H5 (fun _ _=>False) I5 (fpok fr5) st5 stop) fun r s6 ⟨hr,I6⟩=>?_;subst hr;obtain⟨m,hn,_⟩:=id I6.loc;exact hRR _ _ H5 s6 m hn (I3.fpOk (Nat.le_refl _) I6.free) (fun h' hs=>zl9 I3 f3 I6 hs) qn
  ·refine thn (T.item (zb1 X scope cl (s2.heap.push { cls:=.type "list",data:=.seq ([]:List Value).toArray }).objs.size { s2 with heap:=s2.heap.push { cls:=.type "list",data:=.seq ([]:List Value).toArray } } (upd H2 s2.heap.objs.size (.lst [])) fp N) rfl rfl rfl hc i [] s5 τ H5 (fun _ _=>False) I5 (fpok fr5) st5 go) fun r s6 ⟨u,hr,h6⟩=>?_;subst hr;refine thn h6 fun _ s7 ⟨x,H7,I7,r7,y7,st7,fr7⟩=>?_;have I7':=I7.pinned (fpok fr7) (T.obj _ _ st7);refine thn (hg _ _ _ _ _ s7 τ H7 x u _ I7' r7 (step x H7 y7)) fun _ s8 ⟨τ8,H8,I8,q8⟩=>?_;refine thn (ht _ _ _ _ _ s8 τ8 H8 _ I8 q8) fun ok s9 ⟨H9,I9,q9⟩=>?_;have again:∀ {H':Hp} {s':Shared} {m:Nat},Inv (zb1 X scope cl (s2.heap.push { cls:=.type "list",data:=.seq ([]:List Value).toArray }).objs.size { s2 with heap:=s2.heap.push { cls:=.type "list",data:=.seq ([]:List Value).toArray } } (upd H2 s2.heap.objs.size (.lst [])) fp N) ([]++zgL fp s7.heap) τ8 H' s'->(m<n/\W (i+1) m τ8 H') ->
     ∃ m,m<n/\∃ i τ H',Inv (zb1 X scope cl (s2.heap.push { cls:=.type "list",data:=.seq ([]:List Value).toArray }).objs.size { s2 with heap:=s2.heap.push { cls:=.type "list",data:=.seq ([]:List Value).toArray } } (upd H2 s2.heap.objs.size (.lst [])) fp N) [] τ H' s'/\tn i s'.heap/\(∀ b∈fp,H' b=none)/\W i m τ H':=fun {H' s' m} I' q=>by
    refine⟨m,q.1,i+1,τ8,H',I'.unpinned,T.keep _ _ _ st7 fun b hb o e=>(I'.pin (b,o) (List.mem_append_right _ (List.mem_append_right _ (zda hb e)))).1,fun b hb=>?_,q.2⟩;obtain⟨o,e,d⟩:=T.obj _ _ st7 b hb;exact(I'.pin (b,o) (List.mem_append_right _ (List.mem_append_right _ (zda hb e)))).2.1
   cases ok with
   | false =>
    rw [if_neg Bool.false_ne_true] at q9 ⊢;obtain⟨m',hm,w9⟩:=q9;exact again I9 ⟨hm,w9⟩
   | true =>
    rw [if_pos rfl] at q9 ⊢;refine thn (he _ _ _ _ _ s9 τ8 H9 _ I9 q9) fun v s10 ⟨z,H10,I10,r10,xs,hx,hz,m',hm,w10⟩=>?_;refine thn (ze1 _ s10 τ8 H10 (.ref s2.heap.objs.size) [z] (.ref s2.heap.objs.size) [v] (fun _ H11=>W (i+1) m' τ8 H11) I10 rfl (.cons r10 .nil) ⟨_,xs,z,rfl,rfl,hx,hz,w10⟩) fun _ s11 ⟨_,H11,I11,_,w11⟩=>?_;exact again I11 ⟨hm,w11⟩
 exact codeAny_compStart_list loop (T.self _ 0 _ _ _ st4 loop)
theorem zcy(hx:∀ e s,X.xe e s->False)(hc:X.calm=true)(c:CompOk X scope cl N caps)(hi:PI X tg iter wi)(hg:∀ C s H fp,PG (zb1 X scope cl C s H fp N) tg g)(ht:∀ C s H fp,PTs (zb1 X scope cl C s H fp N) ifs tt)(he:∀ C s H fp,PE (zb1 X scope cl C s H fp N) elt te)
  (hs:∀ x,foldedSetIterable iter X.env x=pure x:=by intro _; rfl):PE X (.ListComp elt [⟨tg,iter,ifs,0⟩] scope pos) (zm8 caps wi g tt te):=by
 intro zf s σ H Q I h;rw [eval_ListComp];refine wpAny_comprehension_free (use:=none) rfl hs c.clos c.kind c.names (thn (hi zf s σ H _ I h) fun v s1 h1=>thn h1 fun itv s2 h2=>?_);obtain⟨it,fp,tn,J,H2,e,I2,T,st2,f2,q2⟩:=h2;subst e;exact zkf (RR:=fun acc C=>compPost (model X.prog X.w) X.A X.xe none (EP X zf σ Q) acc C) hc c I2 T st2 f2 hg ht he Q q2 fun D C H' s' m hn _ hb q=>⟨m,hn,fun h' hs=>⟨.ref D,H',hb h' hs,rfl,q⟩⟩
end
def zlm(env:Env):List (Str×NameKind)->List (Str×Addr)->List (Str×Addr)
 | [],acc=>acc
 | (n,k) :: r,acc=>zlm env r (if k == .free then (n,(env.cells.lookup n).getD 0) :: acc else acc)
theorem ziv{env:Env}{x:Str}{c:Addr}:∀ {names:List (Str×NameKind)} {acc:List (Str×Addr)},(x,c)∈zlm env names acc->(x,c)∈acc\/((x,NameKind.free)∈names/\c=(env.cells.lookup x).getD 0)
 | [],_,h=>.inl h
 | (n,k) :: r,acc,h=>by
  rcases ziv (names:=r) h with h | ⟨h,e⟩
  ·by_cases hk:k == .free
   ·rw [if_pos hk] at h;rcases List.mem_cons.mp h with h | h
    ·cases h;have:k=.free:=by simpa using hk
     subst this;exact .inr ⟨List.mem_cons_self,rfl⟩
    ·exact .inl h
   ·rw [if_neg hk] at h;exact .inl h
  ·exact .inr ⟨List.mem_cons_of_mem _ h,e⟩
theorem ziR{env:Env}{p:Str×Addr}:∀ {names:List (Str×NameKind)} {acc:List (Str×Addr)},p∈acc->p∈zlm env names acc
 | [],_,h=>h
 | (n,k) :: r,acc,h=>ziR (names:=r) (by split <;> first | exact List.mem_cons_of_mem _ h | exact h)
theorem zgz{env:Env}{x:Str}:∀ {names:List (Str×NameKind)} {acc:List (Str×Addr)},(x,NameKind.free)∈names->∃ c,(x,c)∈zlm env names acc
 | (n,k) :: r,acc,h=>by
  rcases List.mem_cons.mp h with h | h
  ·cases h;exact⟨_,ziR (names:=r) (by rw [if_pos (by decide)]; exact List.mem_cons_self)⟩
  ·exact zgz (names:=r) h
theorem zci{β:Type}{x:Str}{c:β}:∀ {l:List (Str×β)},(x,c)∈l->∃ c',l.lookup x=some c'
 | (n,v) :: r,h=>by
  cases e:x == n with
  | true=>exact⟨v,by rw [List.lookup_cons,e]⟩
  | false =>
   rcases List.mem_cons.mp h with h | h
   ·cases h;simp at e
   ·obtain⟨c',q⟩:=zci (l:=r) h;exact⟨c',by rw [List.lookup_cons,e]; exact q⟩
theorem zgl{env:Env}{scope:Scope}(h:∀ y∈scope.names,y.2=.free->(env.cells.lookup y.1).isSome=true):closureFor scope env=pure (zlm env scope.names []):=by
 have go:∀ (names:List (Str×NameKind)) (acc:List (Str×Addr)),(∀ y∈names,y.2=.free->(env.cells.lookup y.1).isSome=true) ->
   (forIn names acc (fun(x:Str×NameKind) (cs:List (Str×Addr))=>(if x.2 == .free then (do let c <- cellOf env x.1; pure (ForInStep.yield ((x.1,c) :: cs))) else pure (ForInStep.yield cs):Sem (ForInStep (List (Str×Addr))))))=(pure (zlm env names acc):Sem (List (Str×Addr))):=by
  intro names;induction names with
  | nil=>intro acc _; rfl
  | cons y r ih =>
   intro acc hy;obtain⟨n,k⟩:=y;rw [List.forIn_cons];by_cases hk:k == .free
   ·have hs:=hy (n,k) List.mem_cons_self (by simpa using hk);obtain⟨c,hc⟩:=Option.isSome_iff_exists.mp hs;have hc':env.cells.lookup n=some c:=hc;simp only [hk,if_true,cellOf,hc',pure_bind,zlm,Option.getD_some];exact ih _ fun y hy'=>hy y (List.mem_cons_of_mem _ hy')
   ·simp only [hk,Bool.false_eq_true,if_false,pure_bind,zlm];exact ih _ fun y hy'=>hy y (List.mem_cons_of_mem _ hy')
 have g:=go scope.names [] h;exact(bind_pure _).trans g
def zcI(DN:List Str)(dsc sc:List (Str×NameKind))(N:List Str)(caps:List (Option Nat)):Bool :=
 (caps.length == N.length) && sc.all (fun y=>y.2 != .cell && (y.2 != .free || dsc.lookup y.1 == some .cell) && (y.2 != .local || sc.lookup y.1 == some .local)) &&
 (caps.zip N).all fun p=>match p.1 with | none=>true | some i=>DN[i]? == some p.2 && dsc.lookup p.2 == some .cell && sc.lookup p.2 == some .free
theorem zc0{dsc:List (Str×NameKind)}{env:Env}{x:Str}{k:NameKind}:∀ {names:List (Str×NameKind)},(names.map fun(n,k)=>if (k == .free && env.scope.kind == .function && env.kindOf n == some .cell) then (n,.cell) else (n,k)).lookup x=some k ->
  ∃ k',names.lookup x=some k'/\(k'=k\/(k'=.free/\k=.cell))
 | [],h=>by simp at h
 | (n,k0) :: r,h=>by
  cases e:x == n with
  | true =>
   refine⟨k0,by rw [List.lookup_cons,e],?_⟩;rw [List.map_cons] at h;dsimp only at h;split at h
   ·rename_i hc;rw [List.lookup_cons,e] at h;have:k0=.free:=by simp at hc; exact hc.1.1
    cases h;exact .inr ⟨this,rfl⟩
   ·rw [List.lookup_cons,e] at h;cases h;exact .inl rfl
  | false =>
   rw [List.map_cons] at h;dsimp only at h;have h':(r.map fun(n,k)=>if (k == NameKind.free && env.scope.kind == .function && env.kindOf n == some .cell) then (n,NameKind.cell) else (n,k)).lookup x=some k:=by
    split at h <;> (rw [List.lookup_cons,e] at h; exact h)
   obtain⟨k',q,z⟩:=zc0 (dsc:=dsc) h';exact⟨k',by rw [List.lookup_cons,e]; exact q,z⟩
theorem zfI{env:Env}{x:Str}(h1:env.scope.kind=.function)(h2:env.kindOf x=some .cell):∀ {names:List (Str×NameKind)},names.lookup x=some .free ->
  (names.map fun(n,k)=>if (k == .free && env.scope.kind == .function && env.kindOf n == some .cell) then (n,.cell) else (n,k)).lookup x=some .cell
 | [],h=>by simp at h
 | (n,k0) :: r,h=>by
  rw [List.map_cons];cases e:x == n with
  | true =>
   rw [List.lookup_cons,e] at h;cases h;have en:x=n:=by simpa using e
   subst en;dsimp only;rw [if_pos (by rw [h1,h2]; decide),List.lookup_cons,e]
  | false =>
   rw [List.lookup_cons,e] at h;have ih:=zfI h1 h2 (names:=r) h;dsimp only;split <;> (rw [List.lookup_cons,e]; exact ih)
theorem za4{X:Cx}{dsc:Scope}{L:Nat}{scope:Scope}{N:List Str}{caps:List (Option Nat)}(hd:X.env.scope=dsc)(hc:X.env.cells=cellsFrom L dsc.names [])(hdk:dsc.kind=.function)(hk:scope.kind=.function)(h:zcI X.N dsc.names scope.names N caps=true):
  CompOk X scope (zlm X.env scope.names []) N caps:=by
 subst hd;simp only [zcI,Bool.and_eq_true,List.all_eq_true,beq_iff_eq] at h;obtain⟨⟨hl,hs⟩,hz⟩:=h;have hfree:∀ y∈scope.names,y.2=.free->X.env.scope.names.lookup y.1=some .cell:=fun y hy e=>by
  have q:=(hs y hy).1.2;rw [e] at q;simpa using q
 have hcell:∀ y∈scope.names,y.2≠.cell:=fun y hy e=>by
  have q:=(hs y hy).1.1;rw [e] at q;simp at q
 have hsome:∀ x,X.env.scope.names.lookup x=some .cell->(X.env.cells.lookup x).isSome=true:=fun x e=>by
  rw [hc];exact PySem.W.cellsFrom_some _ _ _ (.inl e)
 have sub:∀ x c,(zlm X.env scope.names []).lookup x=some c->X.env.cells.lookup x=some c:=fun x c e=>by
  rcases ziv (PySem.mem_of_lookup e) with q | ⟨q,ec⟩
  ·cases q
  ·obtain⟨c',hc'⟩:=Option.isSome_iff_exists.mp (hsome x (hfree _ q rfl));rw [ec,hc'];rfl
 refine⟨zgl fun y hy e=>hsome y.1 (hfree y hy e),sub,hk,hcell,fun y hy e=>?_,fun x hx=>?_,fun j i x h1 h2=>?_,hl⟩
 ·have q:=(hs y hy).2;rw [e] at q;simpa using q
 ·have fin:(x,NameKind.free)∈scope.names->∃ c,(zlm X.env scope.names []).lookup x=some c:=fun m=>by
   obtain⟨c,hm⟩:=zgz (env:=X.env) (acc:=[]) m;exact zci hm
  rcases hx with hx | hx
  ·obtain⟨k',q,z⟩:=zc0 (dsc:=[]) hx;rcases z with rfl | ⟨rfl,_⟩
   ·exact absurd rfl (hcell _ (PySem.mem_of_lookup q))
   ·exact fin (PySem.mem_of_lookup q)
  ·obtain⟨k',q,z⟩:=zc0 (dsc:=[]) hx;rcases z with rfl | ⟨_,z⟩
   ·exact fin (PySem.mem_of_lookup q)
   ·cases z
 ·have hm:(some i,x)∈caps.zip N:=by
   have:(caps.zip N)[j]? = some (some i,x):=by rw [List.getElem?_zip_eq_some]; exact⟨h1,h2⟩
   exact List.mem_of_getElem? this
  have q:=hz _ hm;simp only [Bool.and_eq_true,beq_iff_eq] at q;obtain⟨⟨q1,q2⟩,q3⟩:=q;obtain⟨c,hmc⟩:=zgz (env:=X.env) (acc:=[]) (PySem.mem_of_lookup q3);obtain⟨c',hc'⟩:=zci hmc;refine⟨q1,.inr (.inl q2),fun z=>?_,c',hc',.inl (zfI hdk q2 q3)⟩;have z':X.env.scope.names.lookup x=some .local:=z;rw [q2] at z';cases z'
end
section
section
variable {X:Cx}
def zrk:R2:=fun x y H Q=>∃ z n,x=.str z/\y=.int n/\z.length<=1000/\n<=1000/\-1000<=n/\Q (.str (PySem.Txt.mul z n)) H
theorem zrn{z:Str}{n:Int}(h1:z.length<=1000)(h2:n<=1000)(h3:-1000<=n):PySem.MulOk z n:=by
 refine⟨by simp; omega,fun a _ b=>?_,fun a _=>?_⟩
 ·have e:(1000:Int)<=(2 ^ 63 - 1) / n:=by
   rw [Int.le_ediv_iff_mul_le (by omega)];have:=Int.mul_le_mul_of_nonneg_left h2 (show (0:Int)<=1000 by decide);omega
  omega
 ·have e:z.length*n.toNat<=1000*1000:=Nat.mul_le_mul h1 (by omega);unfold Builtin.Str.tooLong;simp only [decide_eq_false_iff_not,Nat.not_lt];exact Nat.le_trans e (by decide)
theorem zpv:OpR X (binaryOp .Mult) zrk:=by
 intro zf s σ H x y v u Q I rx ry h;obtain⟨z,n,rfl,rfl,h1,h2,h3,q⟩:=h;obtain⟨t,rfl⟩:=rx;obtain⟨t',rfl⟩:=ry;exact PySem.SB.mul (zrn h1 h2 h3) fun _ k=>⟨.str _,H,I.tok _,⟨_,rfl⟩,q⟩
end
section
variable {K:W.Frag} {o:List Addr} {σ:St} {H0:Hp} {t:TE} {ta:TA} {ds:List PyData}
def zib(lo:Int)(n:Nat):List PyData:=(List.range n).map fun k:Nat=>.int (lo+k)
theorem zbZ{lo:Int}{n:Nat}:(zib lo n).length=n:=by simp [zib]
theorem zho{lo:Int}{n i:Nat}{d:PyData}(h:(zib lo n)[i]? = some d):i<n/\d=.int (lo+i):=by
 have hi:i<n:=by
  have:=List.getElem?_eq_some_iff.mp h;obtain⟨hl,_⟩:=this
  rwa [zbZ] at hl
 refine⟨hi,?_⟩;simp only [zib,List.getElem?_map,List.getElem?_range hi,Option.map_some,Option.some.injEq] at h;exact h.symm
end
def zsy{α:Type}(xs:List α)(lo hi:Option Int):List α:=(xs.drop (HT.sIx xs.length 0 lo)).take (HT.sIx xs.length xs.length hi - HT.sIx xs.length 0 lo)
end
section
theorem zov:∀ {l:List Addr} {H:Hp} {b:Addr} {u:HO},vw l H b=some u↔b∉l/\H b=some u
 | [],H,b,u=>by simp [vw]
 | a :: r,H,b,u=>by
  show hid a (vw r H) b=some u↔_;by_cases h:b=a
  ·subst h; simp [znA]
  ·rw [zrm h,zov]; simp [h]
def vx(h o:List Addr)(H:Hp):Hp:=vw (h++o) H
theorem zM{h o:List Addr}{H:Hp}{b:Addr}{u:HO}:vx h o H b=some u↔b∉h/\b∉o/\H b=some u:=by
 unfold vx;rw [zov];simp [and_assoc]
theorem zR{h o:List Addr}{H:Hp}:Same (vx h o H) H:=fun b u e=>(zM.mp e).2.2
theorem zd3{h o:List Addr}{H H':Hp}(s:Same H H'):Same (vx h o H) (vx h o H'):=fun b u e=>by
 obtain⟨h1,h2,h3⟩:=zM.mp e;exact zM.mpr ⟨h1,h2,s b u h3⟩
structure Ex(o:List Addr)(H:Hp)(o':List Addr)(H':Hp):Prop where
 pre:∃ r,o'=o++r
 kp:∀ b u,b∉o->H b=some u->b∉o'/\H' b=some u
section
variable {h o o' o'':List Addr} {H H' H'':Hp} {S:List (List PyData)} {p a:Addr}
theorem Ex.refl:Ex o H o H:=⟨⟨[],by simp⟩,fun _ _ a b=>⟨a,b⟩⟩
theorem Ex.trans(a:Ex o H o' H')(b:Ex o' H' o'' H''):Ex o H o'' H'':=by
 obtain⟨⟨r,e⟩,ka⟩:=a;obtain⟨⟨t,e'⟩,kb⟩:=b;refine⟨⟨r++t,by rw [e',e,List.append_assoc]⟩,fun b u h1 h2=>?_⟩;obtain⟨h3,h4⟩:=ka b u h1 h2;exact kb b u h3 h4
theorem Ex.vx(e:Ex o H o' H'):Same (L2.vx h o H) (L2.vx h o' H'):=fun b u q=>by
 obtain⟨h1,h2,h3⟩:=zM.mp q;obtain⟨h4,h5⟩:=e.kp b u h2 h3;exact zM.mpr ⟨h1,h4,h5⟩
structure ExH(h o:List Addr)(H:Hp)(o':List Addr)(H':Hp):Prop where
 pre:∃ r,o'=o++r
 kp:∀ b u,b∉h->b∉o->H b=some u->b∉o'/\H' b=some u
theorem Ex.hid(e:Ex o H o' H'):ExH h o H o' H':=⟨e.pre,fun b u _=>e.kp b u⟩
theorem ExH.refl:ExH h o H o H:=Ex.refl.hid
theorem ExH.trans(a:ExH h o H o' H')(b:ExH h o' H' o'' H''):ExH h o H o'' H'':=by
 obtain⟨⟨r,e⟩,ka⟩:=a;obtain⟨⟨t,e'⟩,kb⟩:=b;refine⟨⟨r++t,by rw [e',e,List.append_assoc]⟩,fun b u h0 h1 h2=>?_⟩;obtain⟨h3,h4⟩:=ka b u h0 h1 h2;exact kb b u h0 h3 h4
theorem ExH.vx(e:ExH h o H o' H'):Same (L2.vx h o H) (L2.vx h o' H'):=fun b u q=>by
 obtain⟨h1,h2,h3⟩:=zM.mp q;obtain⟨h4,h5⟩:=e.kp b u h1 h2 h3;exact zM.mpr ⟨h1,h4,h5⟩
theorem Ex.of_same(s:Same H H'):Ex o H o H':=⟨⟨[],by simp⟩,fun b u h e=>⟨h,s b u e⟩⟩
theorem zdo{α:Type}{l t:List α}{k:Nat}{a:α}(q:l[k]? = some a):(l++t)[k]? = some a:=by
 obtain⟨hk,_⟩:=List.getElem?_eq_some_iff.mp q;rw [List.getElem?_append_left hk];exact q
def exO(a C:Addr)(d:Option Addr):HO:=.ext fun h=>∃ o,h.get? a=some o/\o.cls=.ref C/\o.dict=d/\∃ vs,o.data=.fields vs
def xw(dx:Addr)(fs:List (Str×V)):HO:=.ext fun h=>∃ mA,h.Ns1 dx mA/\(∀ f,RelO (fs.lookup f) (mA f))/\PySem.Within mA (fs.map (·.1))
def HasE(H:Hp)(C:Addr)(fs:List (Str×PyData))(v:V):Prop:=∃ a d,v=.ref a/\H a=some (exO a C d)/\∀ f dt,fs.lookup f=some dt->∃ dx vs u,d=some dx/\H dx=some (xw dx vs)/\vs.lookup f=some u/\Has H dt u
theorem HasE.mono{H H':Hp}{C:Addr}{fs:List (Str×PyData)}{v:V}(s:Same H H')(q:HasE H C fs v):HasE H' C fs v:=by
 obtain⟨a,d,e,ha,hf⟩:=q;refine⟨a,d,e,s _ _ ha,fun f dt l=>?_⟩;obtain⟨dx,vs,u,e1,e2,e3,e4⟩:=hf f dt l;exact⟨dx,vs,u,e1,s _ _ e2,e3,Has.mono s _ _ e4⟩
inductive XV where
 | d (d:PyData)
 | l (k:Nat)
 | o (v:V)
 | x (C:Addr) (fs:List (Str×PyData))
def HasX(h o:List Addr)(H:Hp):XV->V->Prop
 | .d d,v=>Has (vx h o H) d v
 | .l k,v=>∃ a,o[k]? = some a/\v=.ref a
 | .o w,v=>v=w
 | .x C fs,v=>HasE (vx h o H) C fs v
theorem HasX.mono(e:Ex o H o' H'):∀ {x:XV} {v:V},HasX h o H x v->HasX h o' H' x v
 | .d d,v,q=>Has.mono e.vx d v q
 | .l k,v,⟨a,q,r⟩=>by
  obtain⟨t,rfl⟩:=e.pre;exact⟨a,zdo q,r⟩
 | .o w,v,q=>q
 | .x C fs,v,q=>HasE.mono e.vx q
def HasXs(h o:List Addr)(H:Hp):List XV->List V->Prop
 | [],vs=>vs=[]
 | x :: xs,vs=>∃ v r,vs=v :: r/\HasX h o H x v/\HasXs h o H xs r
abbrev Sto:=List (List PyData)
inductive MO where
 | l (vs:List V)
 | k (m:List (Key×V))
 | t (m:List (List Key×V))
def MO.ho:MO->HO
 | .l vs=>.lst vs
 | .k m=>.dK m
 | .t m=>.dT m
structure RepS(h o:List Addr)(H:Hp)(S:Sto):Prop where
 len:S.length=o.length
 nd:o.Nodup
 dis:∀ a∈o,a∉h
 hal:∀ b∈h,∃ u:MO,H b=some u.ho
 cont:∀ (k:Nat) (a:Addr) (ds:List PyData),o[k]? = some a->S[k]? = some ds->∃ vs,H a=some (.lst vs)/\HasL (vx h o H) ds vs
theorem znp{α β:Type}{l:List α}{t:List β}{k:Nat}{a:α}(hl:t.length=l.length)(q:l[k]? = some a):∃ b,t[k]? = some b:=by
 obtain⟨hk,_⟩:=List.getElem?_eq_some_iff.mp q;exact⟨t[k]'(by omega),List.getElem?_eq_getElem _⟩
theorem RepS.oal(r:RepS h o H S):∀ a∈o,∃ u,H a=some (.lst u):=fun a ha=>by
 obtain⟨k,hk⟩:=List.mem_iff_getElem?.mp ha;obtain⟨ds,e⟩:=znp r.len hk;obtain⟨vs,e',_⟩:=r.cont k a ds hk e;exact⟨_,e'⟩
theorem RepS.oam(r:RepS h o H S):∀ a∈o,∃ u:MO,H a=some u.ho:=fun a ha=>let ⟨u,e⟩:=r.oal a ha; ⟨.l u,e⟩
theorem RepS.fresh(r:RepS h o H S)(hp:H p=none):p∉h/\p∉o:=by
 constructor
 ·intro m;obtain⟨u,e⟩:=r.hal p m;rw [hp] at e;cases e
 ·intro m;obtain⟨u,e⟩:=r.oal p m;rw [hp] at e;cases e
theorem RepS.same(r:RepS h o H S)(s:Same H H'):RepS h o H' S where
 len:=r.len
 nd:=r.nd
 dis:=r.dis
 hal:=fun b m=>by obtain⟨u,e⟩:=r.hal b m; exact⟨u,s b _ e⟩
 cont:=fun k a ds e1 e2=>by
  obtain⟨vs,e3,l⟩:=r.cont k a ds e1 e2;exact⟨vs,s _ _ e3,HasL.mono (zd3 s) _ _ l⟩
theorem RepS.laid{u:HO}(r:RepS h o H S)(hp:H p=none):vx h o (upd H p u) p=some u:=by
 obtain⟨h1,h2⟩:=r.fresh hp;exact zM.mpr ⟨h1,h2,zH⟩
theorem Ex.new{u:HO}(r:RepS h o H S)(hp:H p=none):Ex o H (o++[p]) (upd H p u):=by
 refine⟨⟨[p],rfl⟩,fun b w hb e=>?_⟩;have ne:b≠p:=zG e hp;exact⟨by simp [hb,ne],by rw [zw ne]; exact e⟩
theorem zbD{α:Type}{l:List α}{a:α}(h:l.Nodup)(n:a∉l):(l++[a]).Nodup:=by
 rw [List.nodup_append];refine⟨h,by simp,fun x hx y hy e=>?_⟩;rw [List.mem_singleton] at hy;subst hy;subst e;exact n hx
theorem RepS.new{ds:List PyData}{vs:List V}(r:RepS h o H S)(hp:H p=none)(l:HasL (vx h o H) ds vs):RepS h (o++[p]) (upd H p (.lst vs)) (S++[ds]):=by
 obtain⟨h1,h2⟩:=r.fresh hp;have ex:Ex o H (o++[p]) (upd H p (.lst vs)):=Ex.new r hp;refine⟨by simp [r.len],zbD r.nd h2,fun a ha=>?_,fun b hb=>?_,fun k a es e1 e2=>?_⟩
 ·rcases List.mem_append.mp ha with ha | ha
  ·exact r.dis a ha
  ·rw [List.mem_singleton.mp ha]; exact h1
 ·obtain⟨u,e⟩:=r.hal b hb;exact⟨u,by rw [zw (zG e hp)]; exact e⟩
 ·by_cases hk:k<o.length
  ·rw [List.getElem?_append_left hk] at e1;rw [List.getElem?_append_left (by rw [r.len]; exact hk)] at e2;obtain⟨ws,e3,l3⟩:=r.cont k a es e1 e2;refine⟨ws,?_,l3.mono ex.vx⟩;rw [zw (zG e3 hp)];exact e3
  ·have hk':k=o.length:=by
    obtain⟨q,_⟩:=List.getElem?_eq_some_iff.mp e1;rw [List.length_append,List.length_singleton] at q;omega
   subst hk';rw [List.getElem?_concat_length] at e1;rw [<- r.len,List.getElem?_concat_length] at e2;cases e1;cases e2;exact⟨vs,zH,l.mono ex.vx⟩
theorem Ex.upd{k:Nat}{u:HO}(e:o[k]? = some a):Ex o H o (L2.upd H a u) :=
 ⟨⟨[],by simp⟩,fun b w hb eb=>⟨hb,by rw [zw (fun z=>hb (by rw [z]; exact List.mem_of_getElem? e))]; exact eb⟩⟩
theorem zdM{l:List Addr}(h:l.Nodup){i j:Nat}{a:Addr}(e1:l[i]? = some a)(e2:l[j]? = some a):i=j:=by
 obtain⟨hi,e1⟩:=List.getElem?_eq_some_iff.mp e1;obtain⟨hj,e2⟩:=List.getElem?_eq_some_iff.mp e2;exact(List.getElem_inj h).mp (e1.trans e2.symm)
theorem RepS.upd{k:Nat}{ds:List PyData}{vs:List V}(r:RepS h o H S)(e:o[k]? = some a)(l:HasL (vx h o H) ds vs):RepS h o (L2.upd H a (.lst vs)) (S.set k ds):=by
 have ex:Ex o H o (L2.upd H a (.lst vs)):=Ex.upd e;refine⟨by simp [r.len],r.nd,r.dis,fun b hb=>?_,fun j b es e1 e2=>?_⟩
 ·obtain⟨u,eb⟩:=r.hal b hb;have ne:b≠a:=fun z=>r.dis a (List.mem_of_getElem? e) (z▸hb);exact⟨u,by rw [zw ne]; exact eb⟩
 ·by_cases hj:j=k
  ·subst hj;rw [e1] at e;cases e;obtain⟨hk,_⟩:=List.getElem?_eq_some_iff.mp e1;rw [List.getElem?_set_self (by rw [r.len]; exact hk)] at e2;cases e2;exact⟨vs,zH,l.mono ex.vx⟩
  ·rw [List.getElem?_set_ne (Ne.symm hj)] at e2;obtain⟨ws,e3,l3⟩:=r.cont j b es e1 e2;have ne:b≠a:=fun z=>hj (zdM r.nd e1 (z▸e));exact⟨ws,by rw [zw ne]; exact e3,l3.mono ex.vx⟩
abbrev XE:=List (Option XV)
structure RepE(h o:List Addr)(H:Hp)(δ:XE)(σ:St):Prop where
 len:δ.length=σ.length
 get:∀ (i:Nat) x,δ[i]? = some (some x)->∃ v,σ[i]? = some (some v)/\HasX h o H x v
variable {δ:XE} {σ:St}
theorem RepE.mono(r:RepE h o H δ σ)(e:Ex o H o' H'):RepE h o' H' δ σ:=⟨r.len,fun i x q=>by
 obtain⟨v,e1,e2⟩:=r.get i x q;exact⟨v,e1,e2.mono e⟩⟩
theorem RepE.set{i:Nat}{x:XV}{v:V}(r:RepE h o H δ σ)(q:HasX h o H x v):RepE h o H (δ.set i (some x)) (σ.set i (some v)):=by
 refine⟨by simp [r.len],fun j y e=>?_⟩;rw [List.getElem?_set] at e ⊢;by_cases hij:i=j
 ·rw [if_pos hij] at e ⊢;by_cases hl:i<δ.length
  ·rw [if_pos hl] at e;rw [if_pos (by rw [<- r.len]; exact hl)];cases e;exact⟨v,rfl,q⟩
  ·rw [if_neg hl] at e;cases e
 ·rw [if_neg hij] at e ⊢;exact r.get j y e
def zog(caps:List (Option Nat))(δ:XE):XE:=caps.map fun o=>o.bind fun i=>(δ[i]?).join
theorem RepE.tau{caps:List (Option Nat)}(r:RepE h o H δ σ):RepE h o H (zog caps δ) (L2.tau caps σ):=by
 refine⟨by simp [zog,L2.tau],fun i x e=>?_⟩;unfold zog at e;unfold L2.tau;rw [List.getElem?_map] at e ⊢;cases hc:caps[i]? with
 | none=>rw [hc] at e; cases e
 | some c =>
  rw [hc] at e;cases c with
  | none=>cases e
  | some j =>
   have e':(δ[j]?).join=some x:=by simpa using e
   have e2:δ[j]? = some (some x):=by
    cases hd:δ[j]? with
    | none=>rw [hd] at e'; cases e'
    | some y=>rw [hd] at e'; exact congrArg some (by simpa using e')
   obtain⟨v,e3,e4⟩:=r.get j x e2;exact⟨v,by simp [e3],e4⟩
end
abbrev RX:=XV->Sto->Prop
abbrev DE:=XE->Sto->RX->Prop
abbrev DT:=XE->Sto->(Bool->Sto->Prop)->Prop
abbrev DA:=XE->Sto->(List XV->Sto->Prop)->Prop
abbrev D2:=XV->XV->Sto->RX->Prop
def Cn(h o:List Addr)(H:Hp)(R:RX)(Q:VK):Prop:=∀ o' H' S' x v,Ex o H o' H'->RepS h o' H' S'->HasX h o' H' x v->R x S'->Q v H'
theorem Cn.pre{h o o':List Addr}{H H':Hp}{R:RX}{Q:VK}(c:Cn h o H R Q)(e:Ex o H o' H'):Cn h o' H' R Q:=fun o2 H2 S2 x v e2=>c o2 H2 S2 x v (e.trans e2)
def RE(t:TE)(dt:DE):Prop:=∀ (h o:List Addr) (H:Hp) (δ:XE) (σ:St) (S:Sto) (R:RX) (Q:VK),RepE h o H δ σ->RepS h o H S->dt δ S R->Cn h o H R Q->t σ H Q
def RT(t:TT)(dt:DT):Prop:=∀ (h o:List Addr) (H:Hp) (δ:XE) (σ:St) (S:Sto) (R:Bool->Sto->Prop) (Q:Bool->Hp->Prop),RepE h o H δ σ->RepS h o H S->dt δ S R ->
 (∀ o' H' S' b,Ex o H o' H'->RepS h o' H' S'->R b S'->Q b H')->t σ H Q
def RA(t:TA)(dt:DA):Prop:=∀ (h o:List Addr) (H:Hp) (δ:XE) (σ:St) (S:Sto) (R:List XV->Sto->Prop) (Q:List V->Hp->Prop),RepE h o H δ σ->RepS h o H S->dt δ S R ->
 (∀ o' H' S' xs vs,Ex o H o' H'->RepS h o' H' S'->HasXs h o' H' xs vs->R xs S'->Q vs H')->t σ H Q
def RO(r:R2)(rd:D2):Prop:=∀ (h o:List Addr) (H:Hp) (S:Sto) (x y:XV) (v u:V) (R:RX) (Q:VK),RepS h o H S->HasX h o H x v->HasX h o H y u->rd x y S R->Cn h o H R Q->r v u H Q
def RU(r:V->Hp->VK->Prop)(rd:XV->Sto->RX->Prop):Prop:=∀ (h o:List Addr) (H:Hp) (S:Sto) (x:XV) (v:V) (R:RX) (Q:VK),RepS h o H S->HasX h o H x v->rd x S R->Cn h o H R Q->r v H Q
def RC(r:List V->Hp->VK->Prop)(rd:List XV->Sto->RX->Prop):Prop:=∀ (h o:List Addr) (H:Hp) (S:Sto) (xs:List XV) (vs:List V) (R:RX) (Q:VK),RepS h o H S->HasXs h o H xs vs->rd xs S R->Cn h o H R Q->r vs H Q
def asI:XV->(Int->Prop)->Prop
 | .d (.int i),k=>k i
 | _,_=>False
def asB:XV->(Bool->Prop)->Prop
 | .d (.bool i),k=>k i
 | _,_=>False
def asS:XV->(Str->Prop)->Prop
 | .d (.str i),k=>k i
 | _,_=>False
def asT:XV->(List PyData->Prop)->Prop
 | .d (.tuple i),k=>k i
 | _,_=>False
def zjj(S:Sto):XV->Option (List PyData)
 | .d (.list ds)=>some ds
 | .l k=>S[k]?
 | _=>none
def asL(S:Sto)(x:XV)(k:List PyData->Prop):Prop:=∃ ds,zjj S x=some ds/\k ds
def zeN(S:Sto):XV->Option PyData
 | .d d=>some d
 | .l k=>(S[k]?).map .list
 | .o _=>none
 | .x _ _=>none
def asD(x:XV)(k:PyData->Prop):Prop:=match x with
 | .d d=>k d
 | _=>False
theorem zbb{x:XV}{k:Int->Prop}(h:asI x k):∃ i,x=.d (.int i)/\k i:=by
 unfold asI at h;split at h
 ·exact⟨_,rfl,h⟩
 ·exact h.elim
theorem zfD{x:XV}{k:Bool->Prop}(h:asB x k):∃ i,x=.d (.bool i)/\k i:=by
 unfold asB at h;split at h
 ·exact⟨_,rfl,h⟩
 ·exact h.elim
theorem zox{x:XV}{k:Str->Prop}(h:asS x k):∃ i,x=.d (.str i)/\k i:=by
 unfold asS at h;split at h
 ·exact⟨_,rfl,h⟩
 ·exact h.elim
theorem zjb{x:XV}{k:List PyData->Prop}(h:asT x k):∃ i,x=.d (.tuple i)/\k i:=by
 unfold asT at h;split at h
 ·exact⟨_,rfl,h⟩
 ·exact h.elim
theorem zep{x:XV}{k:PyData->Prop}(h:asD x k):∃ i,x=.d i/\k i:=by
 unfold asD at h;split at h
 ·exact⟨_,rfl,h⟩
 ·exact h.elim
section
variable {h o:List Addr} {H:Hp} {S:Sto} {x:XV} {v:V} {i:Int} {b:Bool} {z:Str} {ds:List PyData} {d:PyData}
theorem zba(q:HasX h o H (.d (.int i)) v):v=.int i:=(zbR (H:=vx h o H)).mp q
theorem zcl(q:HasX h o H (.d (.bool b)) v):v=.bl b:=(zc7 (H:=vx h o H)).mp q
theorem zei(q:HasX h o H (.d (.str z)) v):v=.str z:=(zdq (H:=vx h o H)).mp q
theorem zeo(q:HasX h o H (.d (.tuple ds)) v):∃ a vs,v=.ref a/\H a=some (.tup vs)/\HasL (vx h o H) ds vs:=by
 obtain⟨a,vs,e,q,l⟩:=zas.mp (show Has _ _ _ from q);exact⟨a,vs,e,zR _ _ q,l⟩
theorem zbK(r:RepS h o H S)(e:zjj S x=some ds)(q:HasX h o H x v):∃ a vs,v=.ref a/\H a=some (.lst vs)/\HasL (vx h o H) ds vs:=by
 unfold zjj at e;split at e
 ·cases e;obtain⟨a,vs,e,q,l⟩:=zbm.mp (show Has _ _ _ from q);exact⟨a,vs,e,zR _ _ q,l⟩
 ·obtain⟨a,e1,rfl⟩:=q;obtain⟨vs,e2,l⟩:=r.cont _ a ds e1 e;exact⟨a,vs,rfl,e2,l⟩
 ·cases e
theorem zbv(r:RepS h o H S)(e:zeN S x=some d)(q:HasX h o H x v):Has H d v:=by
 unfold zeN at e;split at e
 ·cases e;exact Has.mono zR _ _ q
 ·rename_i k;obtain⟨a,e1,rfl⟩:=q;cases hs:S[k]? with
  | none=>rw [hs] at e; cases e
  | some es =>
   rw [hs] at e;cases e;obtain⟨vs,e2,l⟩:=r.cont k a es e1 hs;exact zbm.mpr ⟨a,vs,rfl,e2,HasL.mono zR _ _ l⟩
 ·cases e
 ·cases e
theorem xI(i:Int):HasX h o H (.d (.int i)) (.int i):=(zbR (H:=vx h o H)).mpr rfl
theorem xB(i:Bool):HasX h o H (.d (.bool i)) (.bl i):=(zc7 (H:=vx h o H)).mpr rfl
theorem xS(i:Str):HasX h o H (.d (.str i)) (.str i):=(zdq (H:=vx h o H)).mpr rfl
theorem xN:HasX h o H (.d .none) .non:=(zdz (H:=vx h o H)).mpr rfl
theorem zoH{vs:List V}{R:RX}{Q:VK}(r:RepS h o H S)(l:HasL (vx h o H) ds vs)(c:Cn h o H R Q)(q:R (.d (.tuple ds)) S):∀ p,H p=none->Q (.ref p) (upd H p (.tup vs)):=fun p hp =>
 c o _ S (.d (.tuple ds)) _ (Ex.of_same (Same.laid hp)) (r.same (Same.laid hp)) (zas.mpr ⟨p,vs,rfl,r.laid hp,l.mono (zd3 (Same.laid hp))⟩) q
theorem zgr{vs:List V}{R:RX}{Q:VK}(r:RepS h o H S)(l:HasL (vx h o H) ds vs)(c:Cn h o H R Q)(q:R (.d (.list ds)) S):∀ p,H p=none->Q (.ref p) (upd H p (.lst vs)):=fun p hp =>
 c o _ S (.d (.list ds)) _ (Ex.of_same (Same.laid hp)) (r.same (Same.laid hp)) (zbm.mpr ⟨p,vs,rfl,r.laid hp,l.mono (zd3 (Same.laid hp))⟩) q
theorem zrY{vs:List V}{R:RX}{Q:VK}(r:RepS h o H S)(l:HasL (vx h o H) ds vs)(c:Cn h o H R Q)(q:R (.l S.length) (S++[ds])):∀ p,H p=none->Q (.ref p) (upd H p (.lst vs)):=fun p hp =>
 c (o++[p]) _ (S++[ds]) (.l S.length) _ (Ex.new r hp) (r.new hp l) ⟨p,by rw [r.len,List.getElem?_concat_length],rfl⟩ q
theorem zdT:∀ {xs:List XV} {vs:List V} {ds:List PyData},HasXs h o H xs vs->xs=ds.map XV.d->HasL (vx h o H) ds vs
 | [],vs,[],q,_=>zal.mpr q
 | x :: xs,vs,d :: ds,⟨v,r,e,q,l⟩,e2=>by
  rw [List.map_cons] at e2;cases e2;exact zK.mpr ⟨v,r,e,q,zdT l rfl⟩
 | x :: xs,vs,[],_,e2=>by cases e2
 | [],vs,d :: ds,_,e2=>by cases e2
end
def datas:List XV->Option (List PyData)
 | []=>some []
 | .d d :: r=>(datas r).map (d :: ·)
 | _ :: _=>none
theorem zbk:∀ {xs:List XV} {ds:List PyData},datas xs=some ds->xs=ds.map XV.d
 | [],ds,e=>by cases e; rfl
 | .d d :: r,ds,e=>by
  unfold datas at e;cases hr:datas r with
  | none=>rw [hr] at e; cases e
  | some es =>
   rw [hr] at e;cases e;rw [zbk hr];rfl
 | .l _ :: _,_,e=>by cases e
 | .o _ :: _,_,e=>by cases e
 | .x _ _ :: _,_,e=>by cases e
def zn(i:Nat):DE:=fun δ S R=>∃ x,δ[i]? = some (some x)/\R x S
def dC(d:PyData):DE:=fun _ S R=>R (.d d) S
def dO(v:V):DE:=fun _ S R=>R (.o v) S
def dOp(rd:D2)(a b:DE):DE:=fun δ S R=>a δ S fun x S1=>b δ S1 fun y S2=>rd x y S2 R
def dUn(rd:XV->Sto->RX->Prop)(a:DE):DE:=fun δ S R=>a δ S fun x S1=>rd x S1 R
def zA:DA:=fun _ S R=>R [] S
def ze(a:DE)(b:DA):DA:=fun δ S R=>a δ S fun x S1=>b δ S1 fun xs S2=>R (x :: xs) S2
def dCB(rd:List XV->Sto->RX->Prop)(a:DA):DE:=fun δ S R=>a δ S fun xs S1=>rd xs S1 R
def zex(a:DA):DE:=fun δ S R=>a δ S fun xs S1=>∃ ds,datas xs=some ds/\ds.length<=1000/\R (.d (.tuple ds)) S1
def zkp(a:DA):DE:=fun δ S R=>a δ S fun xs S1=>∃ ds,datas xs=some ds/\ds.length<=1000/\R (.d (.list ds)) S1
def zhE(a:DA):DE:=fun δ S R=>a δ S fun xs S1=>∃ ds,datas xs=some ds/\ds.length<=1000/\R (.l S1.length) (S1++[ds])
section
variable {t ta tb tc:TE} {da db dc:DE} {tl:TA} {dl:DA} {tt tu:TT} {dt du:DT}
theorem zd{i:Nat}:RE (zjx i) (zn i):=fun h o H δ σ S R Q he hs ⟨x,e,q⟩ c=>by
 obtain⟨v,e1,e2⟩:=he.get i x e;exact⟨v,e1,c o H S x v Ex.refl hs e2 q⟩
theorem zm{i:Int}:RE (tC (.int i)) (dC (.int i)):=fun h o H δ σ S R Q he hs q c=>c o H S _ _ Ex.refl hs (xI i) q
theorem zb6{i:Bool}:RE (tC (.bl i)) (dC (.bool i)):=fun h o H δ σ S R Q he hs q c=>c o H S _ _ Ex.refl hs (xB i) q
theorem zbY{i:Str}:RE (tC (.str i)) (dC (.str i)):=fun h o H δ σ S R Q he hs q c=>c o H S _ _ Ex.refl hs (xS i) q
theorem zls:RE (tC .non) (dC .none):=fun h o H δ σ S R Q he hs q c=>c o H S _ _ Ex.refl hs xN q
theorem zfd{v:V}:RE (tC v) (dO v):=fun h o H δ σ S R Q he hs q c=>c o H S (.o v) v Ex.refl hs rfl q
theorem zr{r:R2}{rd:D2}(hr:RO r rd)(ha:RE ta da)(hb:RE tb db):RE (tOp r ta tb) (dOp rd da db):=fun h o H δ σ S R Q he hs q c =>
 ha h o H δ σ S _ _ he hs q fun o1 H1 S1 x v e1 s1 x1 d1=>hb h o1 H1 δ σ S1 _ _ (he.mono e1) s1 d1 fun o2 H2 S2 y u e2 s2 y2 d2 =>
  hr h o2 H2 S2 x y v u R Q s2 (x1.mono e2) y2 d2 (c.pre (e1.trans e2))
theorem zgv{r:V->Hp->VK->Prop}{rd:XV->Sto->RX->Prop}(hr:RU r rd)(ha:RE ta da):RE (tUn r ta) (dUn rd da):=fun h o H δ σ S R Q he hs q c =>
 ha h o H δ σ S _ _ he hs q fun o1 H1 S1 x v e1 s1 x1 d1=>hr h o1 H1 S1 x v R Q s1 x1 d1 (c.pre e1)
theorem zg:RA zpF zA:=fun h o H δ σ S R Q he hs q c=>c o H S [] [] Ex.refl hs rfl q
theorem za(ha:RE ta da)(hb:RA tl dl):RA (zjF ta tl) (ze da dl):=fun h o H δ σ S R Q he hs q c =>
 ha h o H δ σ S _ _ he hs q fun o1 H1 S1 x v e1 s1 x1 d1=>hb h o1 H1 δ σ S1 _ _ (he.mono e1) s1 d1 fun o2 H2 S2 xs vs e2 s2 x2 d2 =>
  c o2 H2 S2 (x :: xs) (v :: vs) (e1.trans e2) s2 ⟨v,vs,rfl,x1.mono e2,x2⟩ d2
theorem zah{r:List V->Hp->VK->Prop}{rd:List XV->Sto->RX->Prop}(hr:RC r rd)(ha:RA tl dl):RE (tCB r tl) (dCB rd dl):=fun h o H δ σ S R Q he hs q c =>
 ha h o H δ σ S _ _ he hs q fun o1 H1 S1 xs vs e1 s1 x1 d1=>hr h o1 H1 S1 xs vs R Q s1 x1 d1 (c.pre e1)
theorem zaR(ha:RA tl dl):RE (zsb tl) (zex dl):=fun h o H δ σ S R Q he hs q c =>
 ha h o H δ σ S _ _ he hs q fun o1 H1 S1 xs vs e1 s1 x1 ⟨ds,e,hl,d1⟩=>by
  have l:=zdT x1 (zbk e);exact⟨by rw [l.length]; exact Nat.le_of_lt (small1000 hl),zoH s1 l (c.pre e1) d1⟩
theorem zdP(ha:RA tl dl):RE (zpH tl) (zkp dl):=fun h o H δ σ S R Q he hs q c =>
 ha h o H δ σ S _ _ he hs q fun o1 H1 S1 xs vs e1 s1 x1 ⟨ds,e,hl,d1⟩=>by
  have l:=zdT x1 (zbk e);exact⟨by rw [l.length]; exact Nat.le_of_lt (small1000 hl),zgr s1 l (c.pre e1) d1⟩
theorem zh6(ha:RA tl dl):RE (zpH tl) (zhE dl):=fun h o H δ σ S R Q he hs q c =>
 ha h o H δ σ S _ _ he hs q fun o1 H1 S1 xs vs e1 s1 x1 ⟨ds,e,hl,d1⟩=>by
  have l:=zdT x1 (zbk e);exact⟨by rw [l.length]; exact Nat.le_of_lt (small1000 hl),zrY s1 l (c.pre e1) d1⟩
def dB(a:DE):DT:=fun δ S R=>a δ S fun x S1=>asB x fun b=>R b S1
def zdI(a:DT):DT:=fun δ S R=>a δ S fun b S1=>R (!b) S1
def zpn(a b:DT):DT:=fun δ S R=>a δ S fun x S1=>if x=true then b δ S1 R else R false S1
def dOr(a b:DT):DT:=fun δ S R=>a δ S fun x S1=>if x=true then R true S1 else b δ S1 R
def zhG(a b:DE):DE:=fun δ S R=>a δ S fun x S1=>asB x fun c=>if c=true then b δ S1 R else R (.d (.bool false)) S1
def zr4(a b:DE):DE:=fun δ S R=>a δ S fun x S1=>asB x fun c=>if c=true then R (.d (.bool true)) S1 else b δ S1 R
def zlw(a:DE):DE:=fun δ S R=>a δ S fun x S1=>asB x fun c=>R (.d (.bool (!c))) S1
def dIf(c:DT)(a b:DE):DE:=fun δ S R=>c δ S fun x S1=>if x=true then a δ S1 R else b δ S1 R
theorem zd8(ha:RE ta da):RT (zna ta) (dB da):=fun h o H δ σ S R Q he hs q c =>
 ha h o H δ σ S _ _ he hs q fun o1 H1 S1 x v e1 s1 x1 d1=>by
  replace d1:=zfD d1;obtain⟨b,rfl,d1⟩:=d1;exact⟨b,zcl x1,c o1 H1 S1 b e1 s1 d1⟩
theorem zaG(ha:RT tt dt):RT (zr7 tt) (zdI dt):=fun h o H δ σ S R Q he hs q c =>
 ha h o H δ σ S _ _ he hs q fun o1 H1 S1 b e1 s1 d1=>c o1 H1 S1 _ e1 s1 d1
theorem ziP(ha:RT tt dt)(hb:RT tu du):RT (zr8 tt tu) (zpn dt du):=fun h o H δ σ S R Q he hs q c =>
 ha h o H δ σ S _ _ he hs q fun o1 H1 S1 b e1 s1 d1=>by
  cases b with
  | true=>exact zlu (hb h o1 H1 δ σ S1 R Q (he.mono e1) s1 (by simpa using d1) fun o2 H2 S2 b e2=>c o2 H2 S2 b (e1.trans e2))
  | false=>exact zkU (c o1 H1 S1 false e1 s1 (by simpa using d1))
theorem zde(ha:RT tt dt)(hb:RT tu du):RT (tOr tt tu) (dOr dt du):=fun h o H δ σ S R Q he hs q c =>
 ha h o H δ σ S _ _ he hs q fun o1 H1 S1 b e1 s1 d1=>by
  cases b with
  | false=>exact zkU (hb h o1 H1 δ σ S1 R Q (he.mono e1) s1 (by simpa using d1) fun o2 H2 S2 b e2=>c o2 H2 S2 b (e1.trans e2))
  | true=>exact zlu (c o1 H1 S1 true e1 s1 (by simpa using d1))
theorem zhm(ha:RE ta da)(hb:RE tb db):RE (zp0 ta tb) (zhG da db):=fun h o H δ σ S R Q he hs q c =>
 ha h o H δ σ S _ _ he hs q fun o1 H1 S1 x v e1 s1 x1 d1=>by
  replace d1:=zfD d1;obtain⟨b,rfl,d1⟩:=d1;refine⟨b,zcl x1,?_⟩;cases b with
  | true=>exact zlu (hb h o1 H1 δ σ S1 R Q (he.mono e1) s1 (by simpa using d1) (c.pre e1))
  | false=>exact zkU (c o1 H1 S1 _ _ e1 s1 (xB false) (by simpa using d1))
theorem zme(ha:RE ta da):RE (zp2 ta) (zlw da):=fun h o H δ σ S R Q he hs q c =>
 ha h o H δ σ S _ _ he hs q fun o1 H1 S1 x v e1 s1 x1 d1=>by
  replace d1:=zfD d1;obtain⟨b,rfl,d1⟩:=d1;exact⟨b,zcl x1,c o1 H1 S1 _ _ e1 s1 (xB _) d1⟩
theorem zrD(hc:RT tt dt)(ha:RE ta da)(hb:RE tb db):RE (tIf tt ta tb) (dIf dt da db):=fun h o H δ σ S R Q he hs q c =>
 hc h o H δ σ S _ _ he hs q fun o1 H1 S1 b e1 s1 d1=>by
  cases b with
  | true=>exact zlu (ha h o1 H1 δ σ S1 R Q (he.mono e1) s1 (by simpa using d1) (c.pre e1))
  | false=>exact zkU (hb h o1 H1 δ σ S1 R Q (he.mono e1) s1 (by simpa using d1) (c.pre e1))
def zfB(rd rd':D2)(a b e:DE):DE:=fun δ S R=>a δ S fun x S1=>b δ S1 fun y S2=>rd x y S2 fun z S3=>asB z fun k=>if k=true then e δ S3 fun u S4=>rd' y u S4 R else R (.d (.bool false)) S3
theorem zgx{r r':R2}{rd rd':D2}(hr:RO r rd)(hr':RO r' rd')(ha:RE ta da)(hb:RE tb db)(hc:RE tc dc):RE (zk7 r r' ta tb tc) (zfB rd rd' da db dc):=fun h o H δ σ S R Q he hs q c =>
 ha h o H δ σ S _ _ he hs q fun o1 H1 S1 x v e1 s1 x1 d1=>hb h o1 H1 δ σ S1 _ _ (he.mono e1) s1 d1 fun o2 H2 S2 y u e2 s2 y2 d2 =>
  hr h o2 H2 S2 x y v u _ _ s2 (x1.mono e2) y2 d2 fun o3 H3 S3 z w e3 s3 z3 d3=>by
   replace d3:=zfD d3;obtain⟨b,rfl,d3⟩:=d3;refine⟨b,zcl z3,?_⟩;cases b with
   | false=>exact zkU (c o3 H3 S3 _ _ ((e1.trans e2).trans e3) s3 (xB false) (by simpa using d3))
   | true=>exact zlu (hc h o3 H3 δ σ S3 _ _ (((he.mono e1).mono e2).mono e3) s3 (by simpa using d3) fun o4 H4 S4 k w' e4 s4 k4 d4=>hr' h o4 H4 S4 y k u w' R Q s4 ((y2.mono e3).mono e4) k4 d4 (c.pre (((e1.trans e2).trans e3).trans e4)))
end
def dI(C:Int->Int->Prop)(g:Int->Int->Int):D2:=fun x y S R=>asI x fun i=>asI y fun j=>C i j/\R (.d (.int (g i j))) S
def dI0(g:Int->Int->Int):D2:=fun x y S R=>asI x fun i=>asI y fun j=>R (.d (.int (g i j))) S
def dIb(g:Int->Int->Bool):D2:=fun x y S R=>asI x fun i=>asI y fun j=>R (.d (.bool (g i j))) S
def dUI(g:Int->Int):XV->Sto->RX->Prop:=fun x S R=>asI x fun i=>R (.d (.int (g i))) S
def zm3:D2:=fun x y S R=>∃ d,zeN S x=some d/\∃ e,zeN S y=some e/\SeqAt.shaped d=true/\SeqAt.shaped e=true/\R (.d (.bool (PyData.eqv d e))) S
def zko:D2:=fun x y S R=>∃ d,zeN S x=some d/\∃ e,zeN S y=some e/\SeqAt.shaped d=true/\SeqAt.shaped e=true/\R (.d (.bool (!PyData.eqv d e))) S
def zqd:D2:=fun x _ S R=>asD x fun d=>R (.d (.bool (zld d))) S
def zmQ:D2:=fun x _ S R=>asD x fun d=>R (.d (.bool (!zld d))) S
def zss:D2:=fun x y S R=>asT x fun ds=>asI y fun i=>∃ d,atI ds i=some d/\R (.d d) S
def zsw:D2:=fun x y S R=>asL S x fun ds=>asI y fun i=>∃ d,atI ds i=some d/\R (.d d) S
def zsx:D2:=fun x y S R=>asL S x fun ds=>asL S y fun es=>ds.length+es.length<=1000/\R (.d (.list (ds++es))) S
def zrG:D2:=fun x y S R=>asT x fun ds=>asT y fun es=>ds≠[]/\ds.length+es.length<=1000/\R (.d (.tuple (ds++es))) S
section
theorem zj6{C:Int->Int->Prop}{g:Int->Int->Int}:RO (rI C fun i j=>.int (g i j)) (dI C g):=fun h o H S x y v u R Q hs hx hy q c=>by
 replace q:=zbb q;obtain⟨i,rfl,q⟩:=q;replace q:=zbb q;obtain⟨j,rfl,hc,q⟩:=q;exact⟨i,j,zba hx,zba hy,hc,c o H S _ _ Ex.refl hs (xI _) q⟩
theorem zew{g:Int->Int->Int}:RO (rI0 fun i j=>.int (g i j)) (dI0 g):=fun h o H S x y v u R Q hs hx hy q c=>by
 replace q:=zbb q;obtain⟨i,rfl,q⟩:=q;replace q:=zbb q;obtain⟨j,rfl,q⟩:=q;exact⟨i,j,zba hx,zba hy,c o H S _ _ Ex.refl hs (xI _) q⟩
theorem zdd{g:Int->Int->Bool}:RO (rI0 fun i j=>.bl (g i j)) (dIb g):=fun h o H S x y v u R Q hs hx hy q c=>by
 replace q:=zbb q;obtain⟨i,rfl,q⟩:=q;replace q:=zbb q;obtain⟨j,rfl,q⟩:=q;exact⟨i,j,zba hx,zba hy,c o H S _ _ Ex.refl hs (xB _) q⟩
theorem zmC{g:Int->Int}:RU (rU fun i=>.int (g i)) (dUI g):=fun h o H S x v R Q hs hx q c=>by
 replace q:=zbb q;obtain⟨i,rfl,q⟩:=q;exact⟨i,zba hx,c o H S _ _ Ex.refl hs (xI _) q⟩
theorem zfS:RO zr3 zm3:=fun h o H S x y v u R Q hs hx hy q c=>by
 obtain⟨d,q1,e,q2,q3,q4,q⟩:=q;exact⟨d,e,zbv hs q1 hx,zbv hs q2 hy,q3,q4,c o H S _ _ Ex.refl hs (xB _) q⟩
theorem zdO:RO zsm zko:=fun h o H S x y v u R Q hs hx hy q c=>by
 obtain⟨d,q1,e,q2,q3,q4,q⟩:=q;exact⟨d,e,zbv hs q1 hx,zbv hs q2 hy,q3,q4,c o H S _ _ Ex.refl hs (xB _) q⟩
theorem zoe{ta:TE}{da:DE}(ha:RE ta da):RE (tOp zsg ta (tC .non)) (dOp zqd da (dC .none)):=fun h o H δ σ S R Q he hs q c =>
 ha h o H δ σ S _ _ he hs q fun o1 H1 S1 x v e1 s1 x1 d1=>by
  replace d1:=zep d1;obtain⟨d,rfl,d1⟩:=d1;have e:=zgX (show Has _ d v from x1);exact⟨rfl,by rw [e]; exact c o1 H1 S1 _ _ e1 s1 (xB _) d1⟩
theorem zo9{ta:TE}{da:DE}(ha:RE ta da):RE (tOp zrj ta (tC .non)) (dOp zmQ da (dC .none)):=fun h o H δ σ S R Q he hs q c =>
 ha h o H δ σ S _ _ he hs q fun o1 H1 S1 x v e1 s1 x1 d1=>by
  replace d1:=zep d1;obtain⟨d,rfl,d1⟩:=d1;have e:=zgX (show Has _ d v from x1);exact⟨rfl,by rw [e]; exact c o1 H1 S1 _ _ e1 s1 (xB _) d1⟩
theorem HasL.atI{H:Hp}{ds:List PyData}{vs:List V}{i:Int}{d:PyData}(l:HasL H ds vs)(e:L2.atI ds i=some d):∃ v,L2.atI vs i=some v/\Has H d v:=by
 unfold L2.atI at e ⊢;rw [l.length];cases hn:ixN ds.length i with
 | none=>rw [hn] at e; cases e
 | some j =>
  rw [hn] at e;exact l.get (show ds[j]? = some d from e)
theorem zqz{K:W.Frag}:RO (zrV K) zss:=fun h o H S x y v u R Q hs hx hy q c=>by
 replace q:=zjb q;obtain⟨ds,rfl,q⟩:=q;replace q:=zbb q;obtain⟨i,rfl,d,e,q⟩:=q;obtain⟨a,vs,rfl,ea,l⟩:=zeo hx;obtain⟨w,ew,hw⟩:=l.atI e;exact⟨a,vs,i,w,rfl,zba hy,.of ea,ew,c o H S (.d d) w Ex.refl hs hw q⟩
theorem zn9{K:W.Frag}:RO (zrX K) zsw:=fun h o H S x y v u R Q hs hx hy q c=>by
 obtain⟨ds,e0,q⟩:=q;replace q:=zbb q;obtain⟨i,rfl,d,e,q⟩:=q;obtain⟨a,vs,rfl,ea,l⟩:=zbK hs e0 hx;obtain⟨w,ew,hw⟩:=l.atI e;exact⟨a,vs,i,w,rfl,zba hy,.of ea,ew,c o H S (.d d) w Ex.refl hs hw q⟩
theorem zqj:RO zri zsx:=fun h o H S x y v u R Q hs hx hy q c=>by
 obtain⟨ds,e0,es,e1,hl,q⟩:=q;obtain⟨a,vs,rfl,ea,la⟩:=zbK hs e0 hx;obtain⟨b,us,rfl,eb,lb⟩:=zbK hs e1 hy;exact⟨a,b,vs,us,rfl,rfl,ea,eb,by rw [la.length,lb.length]; exact Nat.le_of_lt (small1000 hl),zgr hs (la.append lb) c q⟩
theorem zpi{K:W.Frag}:RO (zo4 K) zrG:=fun h o H S x y v u R Q hs hx hy q c=>by
 replace q:=zjb q;obtain⟨ds,rfl,q⟩:=q;replace q:=zjb q;obtain⟨es,rfl,hn,hl,q⟩:=q;obtain⟨a,vs,rfl,ea,la⟩:=zeo hx;obtain⟨b,us,rfl,eb,lb⟩:=zeo hy;refine⟨a,b,vs,us,rfl,rfl,.of ea,.of eb,fun z=>?_,by rw [la.length,lb.length]; exact Nat.le_of_lt (small1000 hl),fun z=>?_,fun _=>zoH hs (la.append lb) c q⟩
 ·subst z;have:=la.length;exact hn (List.eq_nil_of_length_eq_zero this.symm)
 ·subst z;have e:es=[]:=List.eq_nil_of_length_eq_zero lb.length.symm;subst e;rw [List.append_nil] at q;exact c o H S (.d (.tuple ds)) _ Ex.refl hs hx q
end
abbrev DO:=XE->Sto->(Option Int->Sto->Prop)->Prop
def zlA:DO:=fun _ S R=>R none S
def zq8(a:DE):DO:=fun δ S R=>a δ S fun x S1=>asI x fun i=>R (some i) S1
abbrev D3:=XV->Option Int->Option Int->Sto->RX->Prop
def dSl(rd:D3)(e:DE)(a b:DO):DE:=fun δ S R=>e δ S fun x S1=>a δ S1 fun i S2=>b δ S2 fun j S3=>rd x i j S3 R
def asQ(S:Sto):XV->Option (List PyData)
 | .d (.tuple ds)=>some ds
 | .d (.list ds)=>some ds
 | .l k=>S[k]?
 | _=>none
theorem zlZ{h o:List Addr}{H:Hp}{S:Sto}{x:XV}{v:V}{ds:List PyData}(r:RepS h o H S)(e:asQ S x=some ds)(q:HasX h o H x v):∃ a vs,v=.ref a/\(H a=some (.tup vs)\/H a=some (.lst vs))/\HasL (vx h o H) ds vs:=by
 unfold asQ at e;split at e
 ·cases e;obtain⟨a,vs,e,q,l⟩:=zeo q;exact⟨a,vs,e,.inl q,l⟩
 ·cases e;obtain⟨a,vs,e,q,l⟩:=zbK (x:=.d (.list ds)) (ds:=ds) r rfl q;exact⟨a,vs,e,.inr q,l⟩
 ·rename_i k;obtain⟨a,vs,e,q,l⟩:=zbK (x:=.l k) r e q;exact⟨a,vs,e,.inr q,l⟩
 ·cases e
def arg1:List XV->(XV->Prop)->Prop
 | [x],k=>k x
 | _,_=>False
def arg2:List XV->(XV->XV->Prop)->Prop
 | [x,y],k=>k x y
 | _,_=>False
theorem zaC{xs:List XV}{k:XV->Prop}(h:arg1 xs k):∃ x,xs=[x]/\k x:=by
 unfold arg1 at h;split at h
 ·exact⟨_,rfl,h⟩
 ·exact h.elim
theorem zhS{xs:List XV}{k:XV->XV->Prop}(h:arg2 xs k):∃ x y,xs=[x,y]/\k x y:=by
 unfold arg2 at h;split at h
 ·exact⟨_,_,rfl,h⟩
 ·exact h.elim
theorem hxs1{h o:List Addr}{H:Hp}{x:XV}{vs:List V}(q:HasXs h o H [x] vs):∃ v,vs=[v]/\HasX h o H x v:=by
 obtain⟨v,r,e,hx,hr⟩:=q;cases hr;exact⟨v,e,hx⟩
theorem hxs2{h o:List Addr}{H:Hp}{x y:XV}{vs:List V}(q:HasXs h o H [x,y] vs):∃ v u,vs=[v,u]/\HasX h o H x v/\HasX h o H y u:=by
 obtain⟨v,r,e,hx,q⟩:=q;obtain⟨u,e',hy⟩:=hxs1 q;subst e';exact⟨v,u,e,hx,hy⟩
def zrQ:XV->(String->Prop)->Prop
 | .o v,k=>∃ c,v=.ty c/\k c
 | _,_=>False
def zrH:XV->(Int->Prop)->Prop
 | .d d,k=>match d with
  | .int i=>k i
  | .bool b=>k (if b then 1 else 0)
  | _=>False
 | _,_=>False
theorem zoR{x:XV}{k:String->Prop}(h:zrQ x k):∃ c,x=.o (.ty c)/\k c:=by
 cases x with
 | o v =>
  obtain⟨c,rfl,h⟩:=h;exact⟨c,rfl,h⟩
 | d d=>exact h.elim
 | l j=>exact h.elim
 | x _ _=>exact h.elim
theorem zpr{x:XV}{k:Int->Prop}(h:zrH x k):(∃ i,x=.d (.int i)/\k i)\/∃ b,x=.d (.bool b)/\k (if b then 1 else 0):=by
 cases x with
 | d d =>
  cases d with
  | int i=>exact .inl ⟨i,rfl,h⟩
  | bool b=>exact .inr ⟨b,rfl,h⟩
  | _=>exact h.elim
 | _=>exact h.elim
def zsr:List XV->Sto->RX->Prop:=fun xs S R=>arg1 xs fun x=>∃ ds,asQ S x=some ds/\R (.d (.int ds.length)) S
theorem zkF{K:W.Frag}:RC (zrF K) zsr:=fun h o H S xs vs R Q hs hx q c=>by
 obtain⟨x,rfl,ds,hd,q1⟩:=zaC q;obtain⟨v,rfl,hx1⟩:=hxs1 hx;obtain⟨a,ws,rfl,ea,l⟩:=zlZ hs hd hx1;refine⟨a,ws,rfl,ea.elim (fun z=>.inr (.of z)) (fun z=>.inl (.of z)),?_⟩;rw [l.length];exact c o H S _ _ Ex.refl hs (xI _) q1
def zlB:List XV->Sto->RX->Prop:=fun xs S R=>arg2 xs fun x y=>zrQ y fun cl=>∃ d,zeN S x=some d/\cl∈zm6/\R (.d (.bool (zo2 d cl))) S
theorem zdf:RC zrz zlB:=fun h o H S xs vs R Q hs hx q c=>by
 obtain⟨x,y,rfl,q1⟩:=zhS q;obtain⟨cl,rfl,d,hd,hc,q2⟩:=zoR q1;obtain⟨v,u,rfl,hx1,hu⟩:=hxs2 hx;cases hu;exact zpd (zbv hs hd hx1) hc (c o H S _ _ Ex.refl hs (xB _) q2)
def zkN:List XV->Sto->RX->Prop:=fun xs S R=>arg1 xs fun x=>zrH x fun i=>R (.d (.int i)) S
theorem zoU:RC (fun xs H Q=>(∃ i,xs=[.int i]/\Q (.int i) H)\/∃ k,xs=[.bl k]/\Q (.int (if k then 1 else 0)) H) zkN:=fun h o H S xs vs R Q hs hx q c=>by
 obtain⟨x,rfl,q1⟩:=zaC q;obtain⟨v,rfl,hx1⟩:=hxs1 hx;rcases zpr q1 with ⟨i,rfl,q2⟩ | ⟨b,rfl,q2⟩
 ·exact .inl ⟨_,by rw [zba hx1],c o H S _ _ Ex.refl hs (xI _) q2⟩
 ·exact .inr ⟨_,by rw [zcl hx1],c o H S _ _ Ex.refl hs (xI _) q2⟩
def dI2(g:Int->Int->Int):List XV->Sto->RX->Prop:=fun xs S R=>arg2 xs fun x y=>asI x fun i=>asI y fun j=>R (.d (.int (g i j))) S
theorem zrU{g:Int->Int->Int}:RC (fun xs H Q=>∃ i j,xs=[.int i,.int j]/\Q (.int (g i j)) H) (dI2 g):=fun h o H S xs vs R Q hs hx q c=>by
 obtain⟨x,y,rfl,q1⟩:=zhS q;obtain⟨v,u,rfl,hx1,hu⟩:=hxs2 hx;obtain⟨i,rfl,q2⟩:=zbb q1;obtain⟨j,rfl,q3⟩:=zbb q2;exact⟨i,j,by rw [zba hx1,zba hu],c o H S _ _ Ex.refl hs (xI _) q3⟩
def zfG:List XV->Sto->RX->Prop:=fun xs S R=>arg1 xs fun x=>∃ ds,asQ S x=some ds/\R (.d (.tuple ds)) S
theorem zf2{K:W.Frag}:RC (fun xs H Q=>∃ p ys,xs=[.ref p]/\((SqL K H p ys/\∀ l,H l=none->Q (.ref l) (upd H l (.tup ys)))\/(SqT K H p ys/\Q (.ref p) H))) zfG:=fun h o H S xs vs R Q hs hx q c=>by
 obtain⟨x,rfl,ds,hd,q1⟩:=zaC q;obtain⟨v,rfl,hx1⟩:=hxs1 hx;obtain⟨a,ws,rfl,ea,l⟩:=zlZ hs hd hx1;refine⟨a,ws,rfl,ea.elim (fun z=>.inr ⟨.of z,?_⟩) (fun z=>.inl ⟨.of z,zoH hs l c q1⟩)⟩;have hh:HasX h o H (.d (.tuple ds)) (.ref a):=by
  unfold asQ at hd;split at hd
  ·cases hd;exact hx1
  ·obtain⟨a',us,e1,e2,_⟩:=zbK (x:=.d (.list _)) hs rfl hx1;cases e1;rw [z] at e2;cases e2
  ·rename_i k;obtain⟨a',us,e1,e2,_⟩:=zbK (x:=.l k) hs hd hx1;cases e1;rw [z] at e2;cases e2
  ·cases hd
 exact c o H S _ _ Ex.refl hs hh q1
def zjf:List XV->Sto->RX->Prop:=fun xs S R=>arg1 xs fun x=>∃ ds,asQ S x=some ds/\R (.d (.list ds)) S
theorem znm{K:W.Frag}:RC (fun xs H Q=>∃ p ys,xs=[.ref p]/\(SqL K H p ys\/SqT K H p ys)/\∀ l,H l=none->Q (.ref l) (upd H l (.lst ys))) zjf:=fun h o H S xs vs R Q hs hx q c=>by
 obtain⟨x,rfl,ds,hd,q1⟩:=zaC q;obtain⟨v,rfl,hx1⟩:=hxs1 hx;obtain⟨a,ws,rfl,ea,l⟩:=zlZ hs hd hx1;exact⟨a,ws,rfl,ea.elim (fun z=>.inr (.of z)) (fun z=>.inl (.of z)),zgr hs l c q1⟩
theorem zbe{H:Hp}:∀ {ns:List Int} {vs:List V},HasL H (ns.map PyData.int) vs->vs=ns.map V.int
 | [],vs,h=>zal.mp h
 | n :: ns,vs,h=>by
  obtain⟨v,r,rfl,h1,h2⟩:=zK.mp h;rw [zbR.mp h1,zbe h2];rfl
def dBM(rd:XV->List XV->Sto->RX->Prop)(e:DE)(a:DA):DE:=fun δ S R=>e δ S fun x S1=>∃ k,x=.l k/\k<S1.length/\a δ S1 fun xs S2=>rd x xs S2 R
def zsa(rd:XV->List XV->Sto->RX->Prop)(e:DE):DE:=fun δ S R=>e δ S fun x S1=>∃ k,x=.l k/\k<S1.length/\rd x [] S1 R
def RM(r:V->List V->Hp->VK->Prop)(rd:XV->List XV->Sto->RX->Prop):Prop:=∀ (h o:List Addr) (H:Hp) (S:Sto) (x:XV) (v:V) (xs:List XV) (vs:List V) (R:RX) (Q:VK),RepS h o H S->HasX h o H x v->HasXs h o H xs vs->rd x xs S R->Cn h o H R Q->r v vs H Q
theorem ziT{K:W.Frag}{H:Hp}{a:Addr}{vs:List V}(e:H a=some (.lst vs)):tyV K "list" (.ref a) H:=.inl ⟨rfl,vs,.of e⟩
theorem zrd{h o:List Addr}{H:Hp}{S:Sto}{k:Nat}{v:V}(hs:RepS h o H S)(hk:k<S.length)(hx:HasX h o H (.l k) v):∃ a vs,v=.ref a/\H a=some (.lst vs):=by
 obtain⟨a,e,rfl⟩:=hx;obtain⟨vs,e2,_⟩:=hs.cont k a _ e (List.getElem?_eq_getElem hk);exact⟨a,vs,rfl,e2⟩
theorem zpM{K:W.Frag}{r:V->List V->Hp->VK->Prop}{rd:XV->List XV->Sto->RX->Prop}{te:TE}{de:DE}{tl:TA}{dl:DA}(hr:RM r rd)(he':RE te de)(ha:RA tl dl):RE (tBM K "list" r te tl) (dBM rd de dl):=fun h o H δ σ S R Q he hs q c =>
 he' h o H δ σ S _ _ he hs q fun o1 H1 S1 x v e1 s1 x1 ⟨k,ek,hk,d1⟩=>by
  subst ek;obtain⟨a,ws,rfl,ea⟩:=zrd s1 hk x1;exact⟨ziT ea,ha h o1 H1 δ σ S1 _ _ (he.mono e1) s1 d1 fun o2 H2 S2 xs vs e2 s2 x2 d2=>hr h o2 H2 S2 (.l k) _ xs vs R Q s2 (x1.mono e2) x2 d2 (c.pre (e1.trans e2))⟩
def zeJ:XV->List XV->Sto->RX->Prop:=fun x xs S R=>∃ k,x=.l k/\∃ ds,S[k]? = some ds/\arg1 xs fun y=>asD y fun d=>ds.length<1000/\R (.d .none) (S.set k (ds++[d]))
theorem zhy:RM zkz zeJ:=fun h o H S x v xs vs R Q hs hx hxs q c=>by
 obtain⟨k,rfl,ds,e,q1⟩:=q;obtain⟨y,rfl,q2⟩:=zaC q1;obtain⟨d,rfl,hl,q3⟩:=zep q2;obtain⟨a,ea,rfl⟩:=hx;obtain⟨u,rfl,hu⟩:=hxs1 hxs;obtain⟨ws,ew,l⟩:=hs.cont k a ds ea e;exact⟨a,ws,u,rfl,rfl,ew,by rw [l.length]; exact small1000 (Nat.le_of_lt hl),c o _ _ (.d .none) _ (Ex.upd ea) (hs.upd ea (l.append (zK.mpr ⟨u,[],rfl,hu,zal.mpr rfl⟩))) xN q3⟩
def zkE:XV->List XV->Sto->RX->Prop:=fun x xs S R=>∃ k,x=.l k/\∃ ds,S[k]? = some ds/\arg1 xs fun y=>∃ es,zjj S y=some es/\ds.length+es.length<=1000/\R (.d .none) (S.set k (ds++es))
def ret0(S:Sto)(R:RX):RX:=fun y S'=>match y,S' with
 | .d d,[]=>R (.d d) S
 | .l 0,[ds]=>R (.l S.length) (S++[ds])
 | _,_=>False
def zru(k:Nat)(S:Sto)(R:RX):RX:=fun y S'=>match y,S' with
 | .d d,[p]=>R (.d d) (S.set k p)
 | .l 1,[p,ds]=>R (.l S.length) (S.set k p++[ds])
 | _,_=>False
section
variable {h o:List Addr} {H:Hp} {S:Sto} {R:RX} {Q:VK}
theorem zg6{h o h' o':List Addr}{H:Hp}(e:∀ b,(b∈h'\/b∈o')↔(b∈h\/b∈o)):vx h' o' H=vx h o H:=by
 funext b;have iff:∀ u,vx h' o' H b=some u↔vx h o H b=some u:=fun u=>by
  rw [zM,zM];have:=e b;constructor
  ·rintro⟨a1,a2,a3⟩;exact⟨fun m=>(this.mpr (.inl m)).elim a1 a2,fun m=>(this.mpr (.inr m)).elim a1 a2,a3⟩
  ·rintro⟨a1,a2,a3⟩;exact⟨fun m=>(this.mp (.inl m)).elim a1 a2,fun m=>(this.mp (.inr m)).elim a1 a2,a3⟩
 cases e1:vx h' o' H b with
 | some u=>exact((iff u).mp e1).symm
 | none =>
  cases e2:vx h o H b with
  | none=>rfl
  | some u=>rw [(iff u).mpr e2] at e1; cases e1
theorem rep0(hs:RepS h o H S):RepS (h++o) [] H [] where
 len:=rfl
 nd:=List.nodup_nil
 dis:=fun a ha=>by cases ha
 hal:=fun b hb=>(List.mem_append.mp hb).elim (hs.hal b) (hs.oam b)
 cont:=fun k a ds e=>by simp at e
theorem hx0{d:PyData}{v:V}(hx:HasX h o H (.d d) v):HasX (h++o) [] H (.d d) v:=by
 show Has (vx (h++o) [] H) d v;rw [zg6 (h:=h) (o:=o) fun b=>by simp];exact hx
theorem hx0'{d:PyData}{v:V}(hx:HasX (h++o) [] H (.d d) v):HasX h o H (.d d) v:=by
 show Has (vx h o H) d v;rw [<- zg6 (h':=h++o) (o':=[]) (h:=h) (o:=o) fun b=>by simp];exact hx
theorem cn0(hs:RepS h o H S)(c:Cn h o H R Q):Cn (h++o) [] H (ret0 S R) Q:=fun o' H' S' y v e s' hy q=>by
 have sm:Same H (vx [] o' H'):=fun b u eb=>by
  obtain⟨a1,a2⟩:=e.kp b u (by simp) eb;exact zM.mpr ⟨by simp,a1,a2⟩
 have sH:Same H H':=fun b u eb=>(zM.mp (sm b u eb)).2.2;unfold ret0 at q;split at q
 ·have e0:o'=[]:=List.eq_nil_of_length_eq_zero s'.len.symm;subst e0;exact c o H' S _ v (Ex.of_same sH) (hs.same sH) (hx0' hy) q
 ·rename_i ds;obtain⟨a,rfl⟩:∃ a,o'=[a]:=List.length_eq_one_iff.mp s'.len.symm;obtain⟨a',ea,rfl⟩:=hy;cases ea;obtain⟨vs,ev,l⟩:=s'.cont 0 a ds rfl rfl;have na:a∉h++o:=s'.dis a (by simp);have hn:H a=none:=by
   cases eh:H a with
   | none=>rfl
   | some u=>exact absurd (e.kp a u (by simp) eh).1 (by simp)
  have e2:Ex o H (o++[a]) H':=⟨⟨[a],rfl⟩,fun b u hb eb=>by
   obtain⟨a1,a2⟩:=e.kp b u (by simp) eb;exact⟨by simp only [List.mem_append,not_or]; exact⟨hb,a1⟩,a2⟩⟩
  have ev':vx (h++o) [a] H'=vx h (o++[a]) H':=zg6 fun b=>by simp [or_assoc]
  rw [ev'] at l;refine c (o++[a]) H' (S++[ds]) (.l S.length) _ e2 ⟨by simp [hs.len],zbD hs.nd fun m=>na (List.mem_append_right _ m),fun b hb=>?_,fun b hb=>?_,fun k b es q1 q2=>?_⟩ ⟨a,by rw [hs.len,List.getElem?_concat_length],rfl⟩ q
  ·rcases List.mem_append.mp hb with hb | hb
   ·exact hs.dis b hb
   ·rw [List.mem_singleton.mp hb]; exact fun m=>na (List.mem_append_left _ m)
  ·obtain⟨u,eb⟩:=hs.hal b hb;exact⟨u,sH b _ eb⟩
  ·by_cases hk:k<o.length
   ·rw [List.getElem?_append_left hk] at q1;rw [List.getElem?_append_left (by rw [hs.len]; exact hk)] at q2;obtain⟨ws,e3,l3⟩:=hs.cont k b es q1 q2;exact⟨ws,sH _ _ e3,l3.mono e2.vx⟩
   ·have hk':k=o.length:=by
     obtain⟨q,_⟩:=List.getElem?_eq_some_iff.mp q1;rw [List.length_append,List.length_singleton] at q;omega
    subst hk';rw [List.getElem?_concat_length] at q1;rw [<- hs.len,List.getElem?_concat_length] at q2;cases q1;cases q2;exact⟨vs,ev,l⟩
 ·exact q.elim
theorem zro{k:Nat}{a:Addr}{p:List PyData}(hs:RepS h o H S)(ea:o[k]? = some a)(ep:S[k]? = some p):RepS (h++o.filter (fun b=>b≠a)) [a] H [p] where
 len:=rfl
 nd:=by simp
 dis:=fun b hb=>by
  rw [List.mem_singleton.mp hb];intro m;rcases List.mem_append.mp m with m | m
  ·exact hs.dis a (List.mem_of_getElem? ea) m
  ·have:=(List.mem_filter.mp m).2;simp at this
 hal:=fun b hb=>(List.mem_append.mp hb).elim (hs.hal b) fun m=>hs.oam b (List.mem_filter.mp m).1
 cont:=fun j b ds e1 e2=>by
  cases j with
  | succ j=>simp at e1
  | zero =>
   cases e1;cases e2;obtain⟨vs,e3,l⟩:=hs.cont k a p ea ep;refine⟨vs,e3,?_⟩;rw [zg6 (h:=h) (o:=o) (mem_pen ea)];exact l
where
 mem_pen {h o:List Addr} {k:Nat} {a:Addr} (ea:o[k]? = some a) (b:Addr):(b∈h++o.filter (fun b=>b≠a)\/b∈[a])↔(b∈h\/b∈o):=by
  have ma:=List.mem_of_getElem? ea;by_cases e:b=a
  ·subst e;simp [ma]
  ·simp [e]
theorem hxP{k:Nat}{a:Addr}{d:PyData}{v:V}(ea:o[k]? = some a)(hx:HasX h o H (.d d) v):HasX (h++o.filter (fun b=>b≠a)) [a] H (.d d) v:=by
 show Has (vx _ _ H) d v;rw [zg6 (h:=h) (o:=o) (zro.mem_pen ea)];exact hx
theorem cnP{k:Nat}{a:Addr}{p:List PyData}(hs:RepS h o H S)(ea:o[k]? = some a)(ep:S[k]? = some p)(c:Cn h o H R Q):Cn (h++o.filter (fun b=>b≠a)) [a] H (zru k S R) Q:=fun o' H' S' y v e s' hy q=>by
 have ma:=List.mem_of_getElem? ea;have hk:k<o.length:=(List.getElem?_eq_some_iff.mp ea).1;unfold zru at q;split at q
 ·rename_i d p';obtain⟨r,rfl⟩:=e.pre;have er:r=[]:=by
   have:=s'.len;simp at this;exact this
  subst er;have ex:Ex o H o H':=⟨⟨[],by simp⟩,fun b u hb eb=>⟨hb,(e.kp b u (fun m=>hb (by rw [List.mem_singleton.mp m]; exact ma)) eb).2⟩⟩;obtain⟨vs,ev,l⟩:=s'.cont 0 a p' rfl rfl;have ev':vx (h++o.filter (fun b=>b≠a)) ([a]++[]) H'=vx h o H':=zg6 (zro.mem_pen ea);rw [ev'] at l;refine c o H' (S.set k p') (.d d) v ex ⟨by simp [hs.len],hs.nd,hs.dis,fun b hb=>?_,fun j b es q1 q2=>?_⟩ (by
   have hy':Has (vx (h++o.filter (fun b=>b≠a)) ([a]++[]) H') d v:=hy;rw [ev'] at hy';exact hy') q
  ·obtain⟨u,eb⟩:=hs.hal b hb;exact⟨u,(e.kp b _ (fun m=>hs.dis a ma (by rw [<- List.mem_singleton.mp m]; exact hb)) eb).2⟩
  ·by_cases hj:j=k
   ·subst hj;rw [q1] at ea;cases ea;rw [List.getElem?_set_self (by rw [hs.len]; exact hk)] at q2;cases q2;exact⟨vs,ev,l⟩
   ·rw [List.getElem?_set_ne (Ne.symm hj)] at q2;obtain⟨ws,e3,l3⟩:=hs.cont j b es q1 q2;have ne:b≠a:=fun z=>hj (zdM hs.nd q1 (z▸ea));exact⟨ws,(e.kp b _ (by simp [ne]) e3).2,l3.mono ex.vx⟩
 ·rename_i p' ds;obtain⟨r,rfl⟩:=e.pre;obtain⟨a2,rfl⟩:∃ a2,r=[a2]:=by
   have:=s'.len;simp at this;exact List.length_eq_one_iff.mp this
  obtain⟨b2,eb2,rfl⟩:=hy;cases eb2;obtain⟨vs,ev,l⟩:=s'.cont 0 a p' rfl rfl;obtain⟨vs2,ev2,l2⟩:=s'.cont 1 a2 ds rfl rfl;have n2:a2∉h++o.filter (fun b=>b≠a):=s'.dis a2 (by simp);have n3:a≠a2:=by
   have:=s'.nd;simp at this;exact this
  have n4:a2∉o:=fun m=>n2 (List.mem_append_right _ (List.mem_filter.mpr ⟨m,by simp [Ne.symm n3]⟩));have ex:Ex o H (o++[a2]) H':=⟨⟨[a2],rfl⟩,fun b u hb eb=>by
   obtain⟨z1,z2⟩:=e.kp b u (fun m=>hb (by rw [List.mem_singleton.mp m]; exact ma)) eb;refine⟨?_,z2⟩;simp only [List.mem_append,not_or];exact⟨hb,fun m=>z1 (by simp at m ⊢; exact .inr m)⟩⟩
  have ev':vx (h++o.filter (fun b=>b≠a)) ([a]++[a2]) H'=vx h (o++[a2]) H':=zg6 fun b=>by
   have:=zro.mem_pen (h:=h) ea b;simp only [List.mem_append] at this ⊢;rw [<- or_assoc,this,or_assoc]
  rw [ev'] at l l2;refine c (o++[a2]) H' (S.set k p'++[ds]) (.l S.length) _ ex ⟨by simp [hs.len],zbD hs.nd n4,fun b hb=>?_,fun b hb=>?_,fun j b es q1 q2=>?_⟩ ⟨a2,by rw [hs.len,List.getElem?_concat_length],rfl⟩ q
  ·rcases List.mem_append.mp hb with hb | hb
   ·exact hs.dis b hb
   ·rw [List.mem_singleton.mp hb]; exact fun m=>n2 (List.mem_append_left _ m)
  ·obtain⟨u,eb⟩:=hs.hal b hb;exact⟨u,(e.kp b _ (fun m=>hs.dis a ma (by rw [<- List.mem_singleton.mp m]; exact hb)) eb).2⟩
  ·by_cases hjo:j<o.length
   ·rw [List.getElem?_append_left hjo] at q1;rw [List.getElem?_append_left (by rw [List.length_set,hs.len]; exact hjo)] at q2;by_cases hj:j=k
    ·subst hj;rw [q1] at ea;cases ea;rw [List.getElem?_set_self (by rw [hs.len]; exact hk)] at q2;cases q2;exact⟨vs,ev,l⟩
    ·rw [List.getElem?_set_ne (Ne.symm hj)] at q2;obtain⟨ws,e3,l3⟩:=hs.cont j b es q1 q2;have ne:b≠a:=fun z=>hj (zdM hs.nd q1 (z▸ea));exact⟨ws,(e.kp b _ (by simp [ne]) e3).2,l3.mono ex.vx⟩
   ·have hk':j=o.length:=by
     obtain⟨q,_⟩:=List.getElem?_eq_some_iff.mp q1;rw [List.length_append,List.length_singleton] at q;omega
    subst hk';rw [List.getElem?_concat_length] at q1;rw [<- hs.len,<- List.length_set (i:=k) (a:=p'),List.getElem?_concat_length] at q2;cases q1;cases q2;exact⟨vs2,ev2,l2⟩
 ·exact q.elim
end
structure DEnds where
 nx:XE->Sto->Prop
 rt:RX
 bk:XE->Sto->Prop:=fun _ _=>False
 ct:XE->Sto->Prop:=fun _ _=>False
abbrev DS:=DEnds->XE->Sto->Prop
abbrev DG:=XV->XE->Sto->(XE->Sto->Prop)->Prop
abbrev DGs:=List PyData->XE->Sto->(XE->Sto->Prop)->Prop
def Nx(h o:List Addr)(H:Hp)(N:XE->Sto->Prop)(M:St->Hp->Prop):Prop:=∀ o' H' δ' S' σ',Ex o H o' H'->RepE h o' H' δ' σ'->RepS h o' H' S'->N δ' S'->M σ' H'
theorem Nx.pre{h o o':List Addr}{H H':Hp}{N:XE->Sto->Prop}{M:St->Hp->Prop}(c:Nx h o H N M)(e:Ex o H o' H'):Nx h o' H' N M:=fun o2 H2 δ2 S2 σ2 e2=>c o2 H2 δ2 S2 σ2 (e.trans e2)
structure EOk(h o:List Addr)(H:Hp)(E:DEnds)(D:Ends):Prop where
 nx:Nx h o H E.nx D.nx
 rt:Cn h o H E.rt D.rt
 bk:Nx h o H E.bk D.bk
 ct:Nx h o H E.ct D.ct
theorem EOk.pre{h o o':List Addr}{H H':Hp}{E:DEnds}{D:Ends}(c:EOk h o H E D)(e:Ex o H o' H'):EOk h o' H' E D:=⟨c.nx.pre e,c.rt.pre e,c.bk.pre e,c.ct.pre e⟩
def RS(t:TS)(dt:DS):Prop:=∀ (h o:List Addr) (H:Hp) (δ:XE) (σ:St) (S:Sto) (E:DEnds) (D:Ends),RepE h o H δ σ->RepS h o H S->dt E δ S->EOk h o H E D->t D σ H
def RG(t:TG)(dt:DG):Prop:=∀ (h o:List Addr) (H:Hp) (δ:XE) (σ:St) (S:Sto) (x:XV) (v:V) (N:XE->Sto->Prop) (M:St->Hp->Prop),RepE h o H δ σ->RepS h o H S->HasX h o H x v->dt x δ S N->Nx h o H N M->t v σ H M
def RGs(t:TGs)(dt:DGs):Prop:=∀ (h o:List Addr) (H:Hp) (δ:XE) (σ:St) (S:Sto) (ds:List PyData) (vs:List V) (N:XE->Sto->Prop) (M:St->Hp->Prop),RepE h o H δ σ->RepS h o H S->HasL (vx h o H) ds vs->dt ds δ S N->Nx h o H N M->t vs σ H M
def zx(i:Nat):DG:=fun x δ S N=>N (δ.set i (some x)) S
def zij:DGs:=fun ds δ S N=>ds=[]/\N δ S
def hdD:List PyData->(PyData->List PyData->Prop)->Prop
 | d :: es,k=>k d es
 | [],_=>False
theorem zqE{ds:List PyData}{k:PyData->List PyData->Prop}(h:hdD ds k):∃ d es,ds=d :: es/\k d es:=by
 cases ds with
 | nil=>exact h.elim
 | cons d es=>exact⟨d,es,rfl,h⟩
theorem zqF{d:PyData}{es:List PyData}{k:PyData->List PyData->Prop}:hdD (d :: es) k=k d es:=rfl
def zcX(g:DG)(r:DGs):DGs:=fun ds δ S N=>hdD ds fun d es=>g (.d d) δ S fun δ' S'=>r es δ' S' N
def zhT(n:Nat)(r:DGs):DG:=fun x δ S N=>asT x fun ds=>ds.length=n/\r ds δ S N
def zlQ(a b:DE):DG:=fun x δ S N=>a δ S fun y S1=>b δ S1 fun z S2=>asD x fun d=>∃ k,y=.l k/\∃ ds,S2[k]? = some ds/\asI z fun i=>∃ j,ixN ds.length i=some j/\N δ (S2.set k (ds.set j d))
theorem zp{i:Nat}:RG (zjZ i) (zx i):=fun h o H δ σ S x v N M he hs hx q c=>c o H _ S _ Ex.refl (he.set hx) hs q
theorem zgh:RGs zr0 zij:=fun h o H δ σ S ds vs N M he hs l ⟨e,q⟩ c=>by
 subst e;exact⟨zal.mp l,c o H δ S σ Ex.refl he hs q⟩
theorem zbX{t:TG}{u:TGs}{g:DG}{r:DGs}(h1:RG t g)(h2:RGs u r):RGs (zp4 t u) (zcX g r):=fun h o H δ σ S ds vs N M he hs l q0 c=>by
 obtain⟨d,es,rfl,q⟩:=zqE q0;obtain⟨v,ws,rfl,hv,l⟩:=zK.mp l;exact⟨v,ws,rfl,h1 h o H δ σ S (.d d) v _ _ he hs hv q fun o1 H1 δ1 S1 σ1 e1 he1 hs1 q1=>h2 h o1 H1 δ1 σ1 S1 es ws N M he1 hs1 (l.mono e1.vx) q1 (c.pre e1)⟩
theorem ziF{K:W.Frag}{n:Nat}{t:TGs}{r:DGs}(h1:RGs t r):RG (zr2 K n t) (zhT n r):=fun h o H δ σ S x v N M he hs hx q c=>by
 replace q:=zjb q;obtain⟨ds,rfl,hn,q⟩:=q;obtain⟨a,vs,rfl,ea,l⟩:=zeo hx;exact⟨a,vs,rfl,.of ea,by rw [l.length]; exact hn,h1 h o H δ σ S ds vs N M he hs l q c⟩
theorem HasL.setAt{H:Hp}:∀ {ds:List PyData} {vs:List V} {j:Nat} {d:PyData} {v:V},HasL H ds vs->Has H d v->HasL H (ds.set j d) (vs.set j v)
 | [],vs,j,d,v,l,_=>by rw [zal.mp l]; exact zal.mpr rfl
 | c :: ds,vs,0,d,v,l,q=>by
  obtain⟨u,r,rfl,_,l⟩:=zK.mp l;exact zK.mpr ⟨v,r,rfl,q,l⟩
 | c :: ds,vs,j+1,d,v,l,q=>by
  obtain⟨u,r,rfl,hu,l⟩:=zK.mp l;exact zK.mpr ⟨u,r.set j v,rfl,hu,HasL.setAt l q⟩
theorem zn1{ta tb:TE}{da db:DE}(ha:RE ta da)(hb:RE tb db):RG (zsn ta tb zpT) (zlQ da db):=fun h o H δ σ S x v N M he hs hx q c =>
 ha h o H δ σ S _ _ he hs q fun o1 H1 S1 y u e1 s1 y1 d1=>hb h o1 H1 δ σ S1 _ _ (he.mono e1) s1 d1 fun o2 H2 S2 z w e2 s2 z2 d0=>by
  obtain⟨d,rfl,k,rfl,ds,es,d2⟩:=zep d0;replace d2:=zbb d2;obtain⟨i,rfl,j,ej,d2⟩:=d2;obtain⟨a,ea,rfl⟩:=y1.mono e2;obtain⟨ws,ew,l⟩:=s2.cont k a ds ea es;refine⟨a,ws,i,j,rfl,zba z2,ew,by rw [l.length]; exact ej,?_⟩;exact c o2 _ δ _ σ ((e1.trans e2).trans (Ex.upd ea)) (((he.mono e1).mono e2).mono (Ex.upd ea)) (s2.upd ea (l.setAt (hx.mono (e1.trans e2)))) d2
def zaP:DS:=fun E δ S=>E.nx δ S
def zaA(t u:DS):DS:=fun E δ S=>t { E with nx:=u E } δ S
def zbT(e:DE)(g:DG):DS:=fun E δ S=>e δ S fun x S1=>g x δ S1 E.nx
def zlU(e:DE):DS:=fun E δ S=>e δ S fun _ S1=>E.nx δ S1
def zaU(e:DE):DS:=fun E δ S=>e δ S E.rt
def zcF(c:DT)(t u:DS):DS:=fun E δ S=>c δ S fun b S1=>if b=true then t E δ S1 else u E δ S1
section
variable {t u:TS} {dt du:DS} {te:TE} {de:DE}
theorem zY:RS zpp zaP:=fun h o H δ σ S E D he hs q c=>c.nx o H δ S σ Ex.refl he hs q
theorem zy(ht:RS t dt)(hu:RS u du):RS (ziz t u) (zaA dt du):=fun h o H δ σ S E D he hs q c =>
 ht h o H δ σ S _ _ he hs q ⟨fun o1 H1 δ1 S1 σ1 e1 he1 hs1 q1=>hu h o1 H1 δ1 σ1 S1 E D he1 hs1 q1 (c.pre e1),c.rt,c.bk,c.ct⟩
theorem zab{g:TG}{dg:DG}(he':RE te de)(hg:RG g dg):RS (zp5 te g) (zbT de dg):=fun h o H δ σ S E D he hs q c =>
 he' h o H δ σ S _ _ he hs q fun o1 H1 S1 x v e1 s1 x1 d1=>hg h o1 H1 δ σ S1 x v _ _ (he.mono e1) s1 x1 d1 (c.nx.pre e1)
theorem zkB(he':RE te de):RS (znG te) (zlU de):=fun h o H δ σ S E D he hs q c =>
 he' h o H δ σ S _ _ he hs q fun o1 H1 S1 x v e1 s1 x1 d1=>c.nx o1 H1 δ S1 σ e1 (he.mono e1) s1 d1
theorem zD(he':RE te de):RS (zrW te) (zaU de):=fun h o H δ σ S E D he hs q c=>he' h o H δ σ S _ _ he hs q c.rt
theorem zbp{tc:TT}{dc:DT}(hc:RT tc dc)(ht:RS t dt)(hu:RS u du):RS (znZ tc t u) (zcF dc dt du):=fun h o H δ σ S E D he hs q c =>
 hc h o H δ σ S _ _ he hs q fun o1 H1 S1 b e1 s1 d1=>by
  cases b with
  | true=>exact zlu (ht h o1 H1 δ σ S1 E D (he.mono e1) s1 (by simpa using d1) (c.pre e1))
  | false=>exact zkU (hu h o1 H1 δ σ S1 E D (he.mono e1) s1 (by simpa using d1) (c.pre e1))
def frz(n:Nat)(ds:List PyData):Option XV->Option XV
 | some (.l k)=>if k=n then some (.d (.list ds)) else some (.l k)
 | y=>y
end
abbrev DI:=XE->Sto->(List PyData->Sto->Prop)->Prop
structure WalkX(h o:List Addr)(H:Hp)(J:It)(ds:List PyData):Prop where
 stop:∀ (i:Nat) o2 H2,ExH h o H o2 H2->ds.length<=i->J.stop i H2
 go:∀ (i:Nat) d o2 H2,ExH h o H o2 H2->ds[i]? = some d->J.go i H2
 yld:∀ (i:Nat) d o2 H2 x H3 S2,ExH h o H o2 H2->RepS h o2 H2 S2->ds[i]? = some d->J.yld i H2 x H3->Same H2 H3/\Has (vx h o2 H3) d x
def RI(w:TI)(di:DI):Prop:=∀ (h o:List Addr) (H:Hp) (δ:XE) (σ:St) (S:Sto) (R:List PyData->Sto->Prop) (Q:It->Hp->Prop),RepE h o H δ σ->RepS h o H S->di δ S R ->
 (∀ o' H' S' ds J,Ex o H o' H'->RepS h o' H' S'->WalkX h o' H' J ds->R ds S'->Q J H')->w σ H Q
theorem zmg{h o:List Addr}{H:Hp}{lo:Int}{n:Nat}:WalkX h o H (Itr lo n) (zib lo n) where
 stop:=fun i _ _ _ hi=>by rw [zbZ] at hi; exact hi
 go:=fun i d _ _ _ hi=>(zho hi).1
 yld:=fun i d o2 H2 x H3 S2 _ _ hi y=>by
  obtain⟨e,ex⟩:=y;subst e ex;rw [(zho hi).2];exact⟨Same.refl _,zbR.mpr rfl⟩
def zki(g:DG)(b:DS):List PyData->DS
 | [],E,δ,S=>E.nx δ S
 | d :: ds,E,δ,S=>g (.d d) δ S fun δ1 S1=>b { nx:=fun δ2 S2=>zki g b ds E δ2 S2,ct:=fun δ2 S2=>zki g b ds E δ2 S2,bk:=E.nx,rt:=E.rt } δ1 S1
def zpG(i:DI)(g:DG)(b:DS):DS:=fun E δ S=>i δ S fun ds S1=>zki g b ds E δ S1
theorem zlt{wi:TI}{g:TG}{tb:TS}{di:DI}{dg:DG}{db:DS}(hi:RI wi di)(hg:RG g dg)(hb:RS tb db):RS (zqw wi g tb) (zpG di dg db):=fun h o H δ σ S E D he hs q c =>
 hi h o H δ σ S _ _ he hs q fun o1 H1 S1 ds J e1 s1 wk d1=>by
  refine⟨fun i m σ2 H2=>m=ds.length - i/\i<=ds.length/\∃ o2 δ2 S2,Ex o1 H1 o2 H2/\RepE h o2 H2 δ2 σ2/\RepS h o2 H2 S2/\zki dg db (ds.drop i) E δ2 S2,⟨ds.length,by simp,Nat.zero_le _,o1,δ,S1,Ex.refl,he.mono e1,s1,d1⟩,?_⟩;rintro i m σ2 H2 ⟨rfl,hi,o2,δ2,S2,e2,he2,hs2,d2⟩;by_cases hlt:i<ds.length
  ·have ed:ds[i]? = some ds[i]:=List.getElem?_eq_getElem hlt;rw [List.drop_eq_getElem_cons hlt] at d2;refine .inr ⟨wk.go i _ o2 H2 e2.hid ed,fun σ3 H3=>∃ o3 δ3 S3,Ex o1 H1 o3 H3/\RepE h o3 H3 δ3 σ3/\RepS h o3 H3 S3/\zki dg db (ds.drop (i+1)) E δ3 S3,fun σ3 H3 n=>⟨ds.length - (i+1),by omega,rfl,hlt,n⟩,fun x H3 y=>?_⟩;obtain⟨s3,hx⟩:=wk.yld i _ o2 H2 x H3 S2 e2.hid hs2 ed y;have e23:Ex o2 H2 o2 H3:=Ex.of_same s3;refine hg h o2 H3 δ2 σ2 S2 (.d ds[i]) x _ _ (he2.mono e23) (hs2.same s3) hx d2 fun o4 H4 δ4 S4 σ4 e4 he4 hs4 d4=>?_;have e14:Ex o1 H1 o4 H4:=(e2.trans e23).trans e4;have ce:=(c.pre e1).pre e14;exact hb h o4 H4 δ4 σ4 S4 _ _ he4 hs4 d4 ⟨fun o5 H5 δ5 S5 σ5 e5 he5 hs5 d5=>⟨o5,δ5,S5,e14.trans e5,he5,hs5,d5⟩,ce.rt,ce.nx,fun o5 H5 δ5 S5 σ5 e5 he5 hs5 d5=>⟨o5,δ5,S5,e14.trans e5,he5,hs5,d5⟩⟩
  ·have ei:i=ds.length:=by omega
   subst ei;rw [List.drop_length] at d2;exact .inl ⟨wk.stop _ o2 H2 e2.hid (Nat.le_refl _),c.nx o2 H2 δ2 S2 σ2 (e1.trans e2) he2 hs2 d2⟩
def zlq(cd:DT)(b:DS):DS:=fun E δ S=>∃ W:Nat->XE->Sto->Prop,(∃ m,W m δ S)/\∀ m δ S,W m δ S ->
 cd δ S fun x S1=>if x=true then ∃ N:XE->Sto->Prop,(∀ δ' S',N δ' S'->∃ m',m'<m/\W m' δ' S')/\b { nx:=N,ct:=N,bk:=E.nx,rt:=E.rt } δ S1 else E.nx δ S1
theorem zi2{tc:TT}{tb:TS}{dc:DT}{db:DS}(hc:RT tc dc)(hb:RS tb db):RS (zn4 tc tb) (zlq dc db):=fun h o H δ σ S E D he hs ⟨W,⟨m0,w0⟩,q⟩ c=>by
 refine⟨fun m σ2 H2=>∃ o2 δ2 S2,Ex o H o2 H2/\RepE h o2 H2 δ2 σ2/\RepS h o2 H2 S2/\W m δ2 S2,⟨m0,o,δ,S,Ex.refl,he,hs,w0⟩,?_⟩;rintro m σ2 H2 ⟨o2,δ2,S2,e2,he2,hs2,w2⟩;refine hc h o2 H2 δ2 σ2 S2 _ _ he2 hs2 (q m δ2 S2 w2) fun o3 H3 S3 b e3 s3 d3=>?_;cases b with
 | false=>exact zkU (c.nx o3 H3 δ2 S3 σ2 (e2.trans e3) (he2.mono e3) s3 (by simpa using d3))
 | true =>
  refine zlu ?_;obtain⟨N,n1,d3⟩:∃ N:XE->Sto->Prop,(∀ δ' S',N δ' S'->∃ m',m'<m/\W m' δ' S')/\db { nx:=N,ct:=N,bk:=E.nx,rt:=E.rt } δ2 S3:=by simpa using d3
  have e13:=e2.trans e3;have ce:=c.pre e13;refine⟨fun σ4 H4=>∃ o4 δ4 S4,Ex o H o4 H4/\RepE h o4 H4 δ4 σ4/\RepS h o4 H4 S4/\N δ4 S4,fun σ4 H4 ⟨o4,δ4,S4,e4,he4,hs4,n4⟩=>?_,?_⟩
  ·obtain⟨m',hm,w'⟩:=n1 δ4 S4 n4;exact⟨m',hm,o4,δ4,S4,e4,he4,hs4,w'⟩
  ·exact hb h o3 H3 δ2 σ2 S3 _ _ (he2.mono e3) s3 d3 ⟨fun o5 H5 δ5 S5 σ5 e5 he5 hs5 d5=>⟨o5,δ5,S5,e13.trans e5,he5,hs5,d5⟩,ce.rt,ce.nx,fun o5 H5 δ5 S5 σ5 e5 he5 hs5 d5=>⟨o5,δ5,S5,e13.trans e5,he5,hs5,d5⟩⟩
def zby:DT:=fun _ S R=>R true S
theorem zd5:RT zqu zby:=fun h o H δ σ S R Q he hs q c=>c o H S true Ex.refl hs q
def zev(n:Nat)(g:DG)(tt:DT)(te:DE)(fin:Sto->Prop):List PyData->XE->Sto->Prop
 | [],_,S=>fin S
 | d :: ds,τ,S=>g (.d d) τ S fun τ1 S1=>tt τ1 S1 fun b S2=>if b=true then te τ1 S2 fun x S3=>asD x fun e=>∃ acc,S3[n]? = some acc/\acc.length<1000/\zev n g tt te fin ds τ1 (S3.set n (acc++[e])) else zev n g tt te fin ds τ1 S2
def zfw(caps:List (Option Nat))(i:DI)(g:DG)(tt:DT)(te:DE):DE:=fun δ S R=>i δ S fun ds S1=>zev S1.length g tt te (fun S2=>R (.l S1.length) S2) ds (zog caps δ) (S1++[[]])
def zgp(caps:List (Option Nat))(i:DI)(g:DG)(tt:DT)(te:DE):DE:=fun δ S R=>i δ S fun ds S1=>zev S1.length g tt te (fun S2=>∃ S0 acc,S2=S0++[acc]/\S0.length=S1.length/\R (.d (.list acc)) S0) ds (zog caps δ) (S1++[[]])
theorem RepS.pop{h o r:List Addr}{H:Hp}{S0 T:Sto}(hs:RepS h (o++r) H (S0++T))(hl:S0.length=o.length):RepS h o H S0 where
 len:=hl
 nd:=(List.nodup_append.mp hs.nd).1
 dis:=fun a ha=>hs.dis a (List.mem_append_left _ ha)
 hal:=hs.hal
 cont:=fun k a ds e1 e2=>by
  obtain⟨vs,e3,l⟩:=hs.cont k a ds (zdo e1) (zdo e2);exact⟨vs,e3,l.mono fun b u e=>by
   obtain⟨z1,z2,z3⟩:=zM.mp e;exact zM.mpr ⟨z1,fun m=>z2 (List.mem_append_left _ m),z3⟩⟩
theorem zjd{h o r:List Addr}{H:Hp}:Same (vx h (o++r) H) (vx h o H):=fun b u e=>by
 obtain⟨z1,z2,z3⟩:=zM.mp e;exact zM.mpr ⟨z1,fun m=>z2 (List.mem_append_left _ m),z3⟩
theorem Ex.pop{o o' r:List Addr}{H H':Hp}(e:Ex o H (o++r) H'):Ex o H o H':=⟨⟨[],by simp⟩,fun b u hb eb=>⟨hb,(e.kp b u hb eb).2⟩⟩
theorem zhA{caps:List (Option Nat)}{wi:TI}{g:TG}{tt:TT}{te:TE}{di:DI}{dg:DG}{dtt:DT}{dte:DE}(hi:RI wi di)(hg:RG g dg)(ht:RT tt dtt)(he':RE te dte)
  {h o:List Addr} {H:Hp} {δ:XE} {σ:St} {S:Sto} {Q:VK} {fin:Nat->Sto->Prop} (he:RepE h o H δ σ) (hs:RepS h o H S) (q:di δ S fun ds S1=>zev S1.length dg dtt dte (fin S1.length) ds (zog caps δ) (S1++[[]]))
  (c:∀ o1 H1 D o2 H2 S2,Ex o H o1 H1->H1 D=none->Ex (o1++[D]) (upd H1 D (.lst [])) o2 H2->RepS h o2 H2 S2->fin o1.length S2->Q (.ref D) H2):zm8 caps wi g tt te σ H Q:=by
 refine hi h o H δ σ S _ _ he hs q fun o1 H1 S1 ds J e1 s1 wk d1 D hD=>?_;have eN:Ex o1 H1 (o1++[D]) (upd H1 D (.lst [])):=Ex.new s1 hD;have sN:RepS h (o1++[D]) (upd H1 D (.lst [])) (S1++[[]]):=s1.new hD (zal.mpr rfl);have hn:S1.length=o1.length:=s1.len;refine⟨fun i m τ H2=>m=ds.length - i/\i<=ds.length/\∃ o2 δ2 S2,Ex (o1++[D]) (upd H1 D (.lst [])) o2 H2/\RepE h o2 H2 δ2 τ/\RepS h o2 H2 S2/\zev S1.length dg dtt dte (fin S1.length) (ds.drop i) δ2 S2,⟨ds.length,by simp,Nat.zero_le _,_,_,_,Ex.refl,((he.mono e1).mono eN).tau,sN,d1⟩,?_⟩;rintro i m τ H2 ⟨rfl,hi,o2,δ2,S2,e2,he2,hs2,d2⟩;by_cases hlt:i<ds.length
 ·have ed:ds[i]? = some ds[i]:=List.getElem?_eq_getElem hlt;rw [List.drop_eq_getElem_cons hlt] at d2;refine .inr ⟨wk.go i _ o2 H2 (eN.trans e2).hid ed,fun x H3 y=>?_⟩;obtain⟨s3,hx⟩:=wk.yld i _ o2 H2 x H3 S2 (eN.trans e2).hid hs2 ed y;have e23:Ex o2 H2 o2 H3:=Ex.of_same s3;refine hg h o2 H3 δ2 τ S2 (.d ds[i]) x _ _ (he2.mono e23) (hs2.same s3) hx d2 fun o4 H4 δ4 S4 τ4 e4 he4 hs4 d4=>?_;refine ht h o4 H4 δ4 τ4 S4 _ _ he4 hs4 d4 fun o5 H5 S5 b e5 s5 d5=>?_;have e15:=((e2.trans e23).trans e4).trans e5;cases b with
  | false=>exact zkU ⟨ds.length - (i+1),by omega,rfl,hlt,o5,δ4,S5,e15,he4.mono e5,s5,by simpa using d5⟩
  | true =>
   refine zlu (he' h o5 H5 δ4 τ4 S5 _ _ (he4.mono e5) s5 (by simpa using d5) fun o6 H6 S6 z v e6 s6 z6 d6=>?_);replace d6:=zep d6;obtain⟨e,rfl,acc,ea,hl,d6⟩:=d6;have e16:=e15.trans e6;have eD:o6[S1.length]? = some D:=by
    obtain⟨r,rfl⟩:=e16.pre;rw [hn];exact zdo (by rw [List.getElem?_concat_length])
   obtain⟨vs,ev,l⟩:=s6.cont _ D acc eD ea;refine⟨vs,ev,by rw [l.length]; exact small1000 (Nat.le_of_lt hl),ds.length - (i+1),by omega,rfl,hlt,o6,δ4,_,e16.trans (Ex.upd eD),((he4.mono e5).mono e6).mono (Ex.upd eD),s6.upd eD (l.append (zK.mpr ⟨v,[],rfl,z6,zal.mpr rfl⟩)),d6⟩
 ·have ei:i=ds.length:=by omega
  subst ei;rw [List.drop_length] at d2;exact .inl ⟨wk.stop _ o2 H2 (eN.trans e2).hid (Nat.le_refl _),c o1 H1 D o2 H2 S2 e1 hD e2 hs2 (hn▸d2)⟩
theorem zgw{caps:List (Option Nat)}{wi:TI}{g:TG}{tt:TT}{te:TE}{di:DI}{dg:DG}{dtt:DT}{dte:DE}(hi:RI wi di)(hg:RG g dg)(ht:RT tt dtt)(he':RE te dte):RE (zm8 caps wi g tt te) (zfw caps di dg dtt dte):=fun h o H δ σ S R Q he hs q c=>by
 refine zhA (fin:=fun n S2=>R (.l n) S2) hi hg ht he' he hs q fun o1 H1 D o2 H2 S2 e1 hD e2 s2 f=>?_;have eN:Ex o1 H1 (o1++[D]) (upd H1 D (.lst [])):=⟨⟨[D],rfl⟩,fun b w hb e=>by
  have ne:b≠D:=zG e hD;exact⟨by simp [hb,ne],by rw [zw ne]; exact e⟩⟩
 refine c o2 H2 S2 (.l o1.length) _ ((e1.trans eN).trans e2) s2 ⟨D,?_,rfl⟩ f;obtain⟨r,rfl⟩:=e2.pre;exact zdo (by rw [List.getElem?_concat_length])
theorem zd0{caps:List (Option Nat)}{wi:TI}{g:TG}{tt:TT}{te:TE}{di:DI}{dg:DG}{dtt:DT}{dte:DE}(hi:RI wi di)(hg:RG g dg)(ht:RT tt dtt)(he':RE te dte):RE (zm8 caps wi g tt te) (zgp caps di dg dtt dte):=fun h o H δ σ S R Q he hs q c=>by
 refine zhA (fin:=fun n S2=>∃ (S0:Sto) (acc:List PyData),S2=S0++[acc]/\S0.length=n/\R (.d (.list acc)) S0) hi hg ht he' he hs q fun o1 H1 D o2 H2 S2 e1 hD e2 s2 ⟨S0,acc,eS,hl,f⟩=>?_;subst eS;have eN:Ex o1 H1 (o1++[D]) (upd H1 D (.lst [])):=⟨⟨[D],rfl⟩,fun b w hb e=>by
  have ne:b≠D:=zG e hD;exact⟨by simp [hb,ne],by rw [zw ne]; exact e⟩⟩
 have e12:=eN.trans e2;obtain⟨r,rfl⟩:=e2.pre;have er:r=[]:=by
  have:=s2.len;simp only [List.length_append,List.length_singleton,hl] at this;exact List.eq_nil_of_length_eq_zero (by omega)
 subst er;rw [List.append_nil] at s2 e12;have s0:RepS h o1 H2 S0:=s2.pop hl;refine c o1 H2 S0 (.d (.list acc)) _ (e1.trans (Ex.pop (o':=o1) e12)) s0 ?_ f;obtain⟨vs,ev,l⟩:=s2.cont o1.length D acc (by rw [List.getElem?_concat_length]) (by rw [<- hl,List.getElem?_concat_length]);have nD:D∉o1:=by
  have:=(List.nodup_append.mp s2.nd).2.2;intro m;exact this D m D (by simp) rfl
 exact zbm.mpr ⟨D,vs,rfl,zM.mpr ⟨s2.dis D (by simp),nD,ev⟩,l.mono zjd⟩
def fin(n:Nat)(R:RX):RX:=fun y S'=>match y with
 | .l k=>if k<n then R (.l k) (S'.take n) else ∃ ds,S'[k]? = some ds/\(R (.d (.list ds)) (S'.take n)\/R (.l n) (S'.take n++[ds]))
 | y=>R y (S'.take n)
theorem zn5{h o:List Addr}{H:Hp}{S:Sto}{R:RX}{Q:VK}(hs:RepS h o H S)(c:Cn h o H R Q):Cn h o H (fin S.length R) Q:=fun o' H' S' y v e s' hy q=>by
 obtain⟨r,rfl⟩:=e.pre;have eS:S'=S'.take S.length++S'.drop S.length:=(List.take_append_drop _ _).symm;have hl:(S'.take S.length).length=o.length:=by
  have:=s'.len;rw [List.length_append] at this;rw [List.length_take,this,hs.len];omega
 have s0:RepS h o H' (S'.take S.length):=by
  rw [eS] at s';exact s'.pop hl
 have e0:Ex o H o H':=Ex.pop (o':=o) e;cases y with
 | d d=>exact c o H' _ (.d d) v e0 s0 (Has.mono zjd d v hy) q
 | o w=>exact c o H' _ (.o w) v e0 s0 hy q
 | x C fs=>exact c o H' _ (.x C fs) v e0 s0 (HasE.mono zjd hy) q
 | l k =>
  unfold fin at q;by_cases hk:k<S.length
  ·simp only [hk,↓reduceIte] at q;obtain⟨a,ea,rfl⟩:=hy;exact c o H' _ (.l k) _ e0 s0 ⟨a,by rw [List.getElem?_append_left (by rw [<- hs.len]; exact hk)] at ea; exact ea,rfl⟩ q
  ·simp only [hk,↓reduceIte] at q;obtain⟨ds,eds,q⟩:=q;obtain⟨a,ea,rfl⟩:=hy;obtain⟨vs,ev,l⟩:=s'.cont k a ds ea eds;have na:a∉o:=fun m=>by
    obtain⟨j,ej⟩:=List.mem_iff_getElem?.mp m;have hj:j<o.length:=(List.getElem?_eq_some_iff.mp ej).1;have:=zdM s'.nd (zdo (t:=r) ej) ea;rw [hs.len] at hk;omega
   have nh:a∉h:=s'.dis a (List.mem_of_getElem? ea);rcases q with q | q
   ·exact c o H' _ (.d (.list ds)) _ e0 s0 (zbm.mpr ⟨a,vs,rfl,zM.mpr ⟨nh,na,ev⟩,l.mono zjd⟩) q
   ·have hn:H a=none:=by
     cases eh:H a with
     | none=>rfl
     | some u=>exact absurd (List.mem_of_getElem? ea) (e.kp a u na eh).1
    have e1:Ex o H (o++[a]) H':=⟨⟨[a],rfl⟩,fun b u hb eb=>⟨by simp only [List.mem_append,List.mem_singleton,not_or]; exact⟨hb,zG eb hn⟩,(e0.kp b u hb eb).2⟩⟩;have sub:Same (vx h (o++r) H') (vx h (o++[a]) H'):=fun b u eb=>by
     obtain⟨z1,z2,z3⟩:=zM.mp eb;refine zM.mpr ⟨z1,?_,z3⟩;simp only [List.mem_append,List.mem_singleton,not_or];exact⟨fun m=>z2 (List.mem_append_left _ m),fun z=>z2 (by rw [z]; exact List.mem_of_getElem? ea)⟩
    refine c (o++[a]) H' _ (.l S.length) _ e1 ⟨by rw [List.length_append,List.length_append,hl]; rfl,zbD hs.nd na,fun b hb=>?_,s0.hal,fun j b es q1 q2=>?_⟩ ⟨a,by rw [hs.len,List.getElem?_concat_length],rfl⟩ q
    ·rcases List.mem_append.mp hb with hb | hb
     ·exact hs.dis b hb
     ·rw [List.mem_singleton.mp hb]; exact nh
    ·by_cases hj:j<o.length
     ·rw [List.getElem?_append_left hj] at q1;rw [List.getElem?_append_left (by rw [hl]; exact hj),List.getElem?_take_of_lt (by rw [hs.len]; exact hj)] at q2;obtain⟨ws,e3,l3⟩:=s'.cont j b es (zdo q1) q2;exact⟨ws,e3,l3.mono sub⟩
     ·have hj':j=o.length:=by
       obtain⟨q,_⟩:=List.getElem?_eq_some_iff.mp q1;rw [List.length_append,List.length_singleton] at q;omega
      subst hj';rw [List.getElem?_concat_length] at q1;rw [<- hl,List.getElem?_concat_length] at q2;cases q1;cases q2;exact⟨vs,ev,l.mono sub⟩
def zcG(n:Nat)(R:RX):DEnds:={ nx:=fun _ S'=>fin n R (.d .none) S',rt:=fin n R }
theorem eok{h o:List Addr}{H:Hp}{S:Sto}{R:RX}{Q:VK}(hs:RepS h o H S)(c:Cn h o H R Q):EOk h o H (zcG S.length R) { nx:=fun _ H'=>Q .non H',rt:=Q } :=
 ⟨fun o' H' δ' S' σ' e he hs' q=>zn5 hs c o' H' S' _ _ e hs' xN q,zn5 hs c,fun _ _ _ _ _ _ _ _ q=>q.elim,fun _ _ _ _ _ _ _ _ q=>q.elim⟩
def zdc(p:List PyData):Prop:=∃ l g s:Int,p=[.int l,.int g,.int s]/\0<=l
end
section
def zsp(K:W.Frag):List V->Hp->VK->Prop:=fun xs H Q=>∃ (p:Addr) (ns:List Int),xs=[.ref p]/\SqL K H p (ns.map V.int)/\Q (.int ns.sum) H
def zsl(K:W.Frag):List V->Hp->VK->Prop:=fun xs H Q=>∃ (p:Addr) (bs:List Bool),xs=[.ref p]/\SqL K H p (bs.map V.bl)/\Q (.bl (bs.all id)) H
theorem zp6:bootBuiltins "sum" = some (.builtin "sum"):=by decide +kernel
theorem zjp:bootBuiltins "all" = some (.builtin "all"):=by decide +kernel
section
variable {X:Cx}
theorem zkQ(hc:X.calm=true):CallR X (.builtin "sum") (zsp X.K):=by
 intro zf s σ H xs us Q I r h;obtain⟨p,ns,rfl,hq,q⟩:=h;obtain⟨u,rfl,rx⟩:=vals1 r;cases (show u=Value.ref p from rx);obtain⟨its,rv,pl,_⟩:=I.list hq;obtain⟨ys,e,hns⟩:=zpB (zaW rv);refine sum_intListG (I.ok.hd hc) (by rw [<- e]; exact pl.isList) fun h' tk t' hk=>⟨.int ns.sum,H,I.kept (t':=tk) hk,⟨t',?_⟩,q⟩;have es:preSum (numAt ys) ys.size=ns.sum:=by
  rw [preSum_eq,hns,List.take_of_length_le (by simp)]
 rw [es]
theorem zi8:∀ {bs:List Bool} {us:List Value} {i:Nat} {v:Value},Vals (bs.map V.bl) us->us[i]? = some v->∃ b,bs[i]? = some b/\v=.bool b
 | [],_,i,v,.nil,e=>by simp at e
 | b :: bs,_,0,v,.cons r _,e=>by
  rw [List.getElem?_cons_zero] at e;cases e;exact⟨b,rfl,r⟩
 | b :: bs,_,i+1,v,.cons _ t,e=>by
  obtain⟨c,e1,e2⟩:=zi8 (i:=i) (v:=v) t (by simpa using e);exact⟨c,by simpa using e1,e2⟩
theorem zo1(bs:List Bool):((List.range bs.length).all fun i=>(bs[i]?).getD true)=bs.all id:=by
 rw [Bool.eq_iff_iff,List.all_eq_true,List.all_eq_true];constructor
 ·intro h b hb;obtain⟨i,hi⟩:=List.mem_iff_getElem?.mp hb;have hl:=(List.getElem?_eq_some_iff.mp hi).1;have:=h i (List.mem_range.mpr hl);rw [hi] at this;exact this
 ·intro h i hi;have hl:=List.mem_range.mp hi;rw [List.getElem?_eq_getElem hl];exact h _ (List.getElem_mem hl)
theorem zdS(hc:X.calm=true):CallR X (.builtin "all") (zsl X.K):=by
 intro zf s σ H xs us Q I r h;obtain⟨p,bs,rfl,hq,q⟩:=h;obtain⟨u,rfl,rx⟩:=vals1 r;cases (show u=Value.ref p from rx);obtain⟨its,rv,pl,_⟩:=I.list hq;have hl:=pl.isList;have hlt:p<s.heap.objs.size:=by
  obtain⟨_,e,_⟩:=hl;exact Heap.lt_size e
 refine call_all_walk (x:=Value.ref p) (wpAny_pyIter_list hl ?_);refine⟨s.heap.objs.size,[s.heap.objs.size,p],[s.heap.objs.size],its.toArray.size,_,_,fun i=>(bs[i]?).getD true,rfl,
  Walks.list (A:=X.A.in1) (I.ok.hd hc) _ p (Nat.ne_of_lt hlt) its.toArray,⟨⟨_,Heap.get?_push_size _ rfl,rfl,rfl⟩,hl.push _⟩,fun i v s' Q' E' hP hQ=>?_,fun h' tk hk=>?_⟩
 ·obtain⟨b,e,rfl⟩:=zi8 (i:=i) (v:=v) rv (by simpa using hP);have hQ':Q' b s':=by simpa [e] using hQ
  exact wpAny_truthy_bool hQ'
 ·have hz:its.toArray.size=bs.length:=by
   have:=rv.length;rw [List.length_map] at this;simp [this]
  rw [hz,zo1];refine⟨.bl _,H,I.kept (t':=tk) fun b o e=>hk b o (fun hm=>?_) (Heap.get?_push_of_some _ e),rfl,q⟩;rw [List.mem_singleton.mp hm] at e;exact Nat.lt_irrefl _ (Heap.lt_size e)
end
def zrq:List XV->Sto->RX->Prop:=fun xs S R=>arg1 xs fun x=>∃ ds,zjj S x=some ds/\∃ ns:List Int,ds=ns.map PyData.int/\R (.d (.int ns.sum)) S
theorem zqB{K:W.Frag}:RC (zsp K) zrq:=fun h o H S xs vs R Q hs hx q c=>by
 obtain⟨x,rfl,ds,hd,ns,rfl,q1⟩:=zaC q;obtain⟨v,rfl,hx1⟩:=hxs1 hx;obtain⟨a,ws,rfl,ea,l⟩:=zbK hs hd hx1;rw [zbe l] at ea;exact⟨a,ns,rfl,.of ea,c o H S _ _ Ex.refl hs (xI _) q1⟩
theorem zhj{H:Hp}:∀ {ns:List Bool} {vs:List V},HasL H (ns.map PyData.bool) vs->vs=ns.map V.bl
 | [],vs,h=>zal.mp h
 | n :: ns,vs,h=>by
  obtain⟨v,r,rfl,h1,h2⟩:=zK.mp h;rw [zc7.mp h1,zhj h2];rfl
def zoQ:List XV->Sto->RX->Prop:=fun xs S R=>arg1 xs fun x=>∃ ds,zjj S x=some ds/\∃ ns:List Bool,ds=ns.map PyData.bool/\R (.d (.bool (ns.all id))) S
theorem zjB{K:W.Frag}:RC (zsl K) zoQ:=fun h o H S xs vs R Q hs hx q c=>by
 obtain⟨x,rfl,ds,hd,ns,rfl,q1⟩:=zaC q;obtain⟨v,rfl,hx1⟩:=hxs1 hx;obtain⟨a,ws,rfl,ea,l⟩:=zbK hs hd hx1;rw [zhj l] at ea;exact⟨a,ns,rfl,.of ea,c o H S _ _ Ex.refl hs (xB _) q1⟩
section
variable {S:Sto} {i:Int} {b:Bool} {z:Str} {ds:List PyData} {d:PyData} {k:Nat} {x y:XV} {R:RX} {c:String} {p:List PyData} {n:Nat} {v:V}
theorem zqO{K:Int->Prop}:asI (.d (.int i)) K=K i:=rfl
theorem zqv{K:Bool->Prop}:asB (.d (.bool b)) K=K b:=rfl
theorem zqi{K:List PyData->Prop}:asT (.d (.tuple ds)) K=K ds:=rfl
theorem zpU{K:PyData->Prop}:asD (.d d) K=K d:=rfl
theorem znW:zjj S (.d (.list ds))=some ds:=rfl
theorem zrb:asQ S (.d (.list ds))=some ds:=rfl
theorem zqq:asQ S (.d (.tuple ds))=some ds:=rfl
theorem zmh:zeN S (.d d)=some d:=rfl
theorem zn3:ret0 S R (.d d) []=R (.d d) S:=rfl
theorem znQ:ret0 S R (.l 0) [ds]=R (.l S.length) (S++[ds]):=rfl
theorem zoq:zru k S R (.d d) [p]=R (.d d) (S.set k p):=rfl
theorem zqa:fin n R (.d d) S=R (.d d) (S.take n):=rfl
theorem zqS:fin n R (.l k) S=if k<n then R (.l k) (S.take n) else ∃ ds,S[k]? = some ds/\(R (.d (.list ds)) (S.take n)\/R (.l n) (S.take n++[ds])):=rfl
theorem zn6{K:XV->Prop}:arg1 [x] K=K x:=rfl
theorem zoA{K:XV->XV->Prop}:arg2 [x,y] K=K x y:=rfl
theorem znT{K:String->Prop}:zrQ (.o (.ty c)) K↔K c:=⟨fun⟨_,e,q⟩=>by cases e; exact q,fun q=>⟨c,rfl,q⟩⟩
theorem znP{K:Int->Prop}:zrH (.d (.bool b)) K=K (if b then 1 else 0):=rfl
theorem zma:(zcG n R).rt x S=fin n R x S:=rfl
theorem zhB:datas []=some []:=rfl
theorem zfz{r:List XV}:datas (.d d :: r)=(datas r).map (d :: ·):=rfl
end
theorem zqe{α:Type}{a:α}{l:List α}:atI (a :: l) 0=some a:=zec (j:=0) rfl
theorem zra{α:Type}{a b:α}{l:List α}:atI (a :: b :: l) 1=some b:=zec (j:=1) rfl
theorem zq6{α:Type}{a b c:α}{l:List α}:atI (a :: b :: c :: l) 2=some c:=zec (j:=2) rfl
def Shp(n:Nat)(d:PyData):Prop:=d.canLay0=true/\d.depth<=n
theorem zhY{n:Nat}{i:Int}:Shp n (.int i):=⟨rfl,Nat.zero_le _⟩
theorem ziA{n:Nat}{i:Bool}:Shp n (.bool i):=⟨rfl,Nat.zero_le _⟩
theorem zis{n:Nat}:∀ {ds:List PyData},(∀ d∈ds,Shp n d)->PyData.canLayAll0 ds=true/\PyData.depthAll ds<=n
 | [],_=>⟨by simp only [PyData.canLayAll0],by simp only [PyData.depthAll]; exact Nat.zero_le _⟩
 | d :: ds,h=>by
  obtain⟨h1,h2⟩:=h d List.mem_cons_self;obtain⟨h3,h4⟩:=zis (ds:=ds) fun e m=>h e (List.mem_cons_of_mem _ m);simp only [PyData.canLayAll0,PyData.depthAll,h1,h3,Bool.and_true,true_and];omega
theorem zeC{n:Nat}{ds:List PyData}(h:∀ d∈ds,Shp n d):Shp (n+1) (.list ds):=by
 obtain⟨h1,h2⟩:=zis h;exact⟨by simp only [PyData.canLay0]; exact h1,by simp only [PyData.depth]; omega⟩
theorem zkH{n:Nat}{ds:List PyData}(h:∀ d∈ds,Shp n d):Shp (n+1) (.tuple ds):=by
 obtain⟨h1,h2⟩:=zis h;exact⟨by simp only [PyData.canLay0]; exact h1,by simp only [PyData.depth]; omega⟩
theorem zeX{α:Type}{n:Nat}{f:α->PyData}{l:List α}(h:∀ x∈l,Shp n (f x)):∀ d∈l.map f,Shp n d:=fun d m=>by
 obtain⟨x,hx,rfl⟩:=List.mem_map.mp m;exact h x hx
theorem Shp.ok{n:Nat}{d:PyData}(h:Shp n d)(hn:n<=64:=by decide):SeqAt.shaped d=true:=by
 unfold SeqAt.shaped;rw [h.1,decide_eq_true (Nat.le_trans h.2 hn)];rfl
theorem zeD{g:DG}{b:DS}{E:DEnds}:∀ {ds:List PyData} {δ:XE} {S:Sto} (I:Nat->XE->Sto->Prop),I 0 δ S ->
  (∀ i d δ S (N:XE->Sto->Prop),ds[i]? = some d->I i δ S->(∀ δ' S',I (i+1) δ' S'->N δ' S')->g (.d d) δ S fun δ1 S1=>b { nx:=N,ct:=N,bk:=E.nx,rt:=E.rt } δ1 S1) ->
  (∀ δ S,I ds.length δ S->E.nx δ S)->zki g b ds E δ S
 | [],δ,S,I,h0,_,fin=>fin δ S h0
 | d :: ds,δ,S,I,h0,step,fin=>by
  show g (.d d) δ S fun δ1 S1=>b _ δ1 S1;refine step 0 d δ S _ rfl h0 fun δ' S' h1=>?_;exact zeD (ds:=ds) (fun i=>I (i+1)) h1 (fun i e δ S N hi=>step (i+1) e δ S N (by simpa using hi)) fin
theorem zjq{α:Type}{l:List α}{a b:α}{n:Nat}(h:l.length=n):(l++[a]).set n b=l++[b]:=by
 subst h;rw [List.set_append_right _ _ (Nat.le_refl _),Nat.sub_self];rfl
theorem zk0{H:Hp}:RepS [] [] H []:=⟨rfl,List.nodup_nil,fun _ h=>(nomatch h),fun _ h=>(nomatch h),fun _ _ _ e=>(by simp at e)⟩
theorem Ex.same_nil{o':List Addr}{H H':Hp}(e:Ex [] H o' H'):Same H H':=fun b u q=>(e.kp b u (by simp) q).2
theorem zpw{K:W.Frag}{a:Addr}{ns:List Int}{N:Int}{j m:Nat}{tb:TS}{db:DS}{D:Ends}{σ:St}{H:Hp}(hb:RS tb db)(h0:σ[0]? = some (some (.ref a)))(hl:σ.length=m+1)(hS:SqL K H a (ns.map V.int))(hlen:ns.length<=63)
  (turn:∀ n:Int,db { nx:=fun δ _=>δ[0]? = some (some (.o (.ref a)))/\δ.length=m+1,ct:=fun δ _=>δ[0]? = some (some (.o (.ref a)))/\δ.length=m+1,rt:=fun _ _=>False } ((some (.o (.ref a)) :: List.replicate m none).set j (some (.d (.int n)))) [])
  (hj:j≠0) (done:∀ (σ:St) (H1:Hp),Same H H1->D.nx σ H1) :
  zqw (zo7 K (tOp zri (zpH (zjF (tC2 (zoN K) (zjx 0) (tC (.int 0))) zpF)) (tSl (zrO K) (zjx 0) (zkC (tC (.int 1))) (zkC (tC (.int N)))))) (zjZ j) tb D σ H:=by
 refine zlT (a:=a) (ns:=ns) (fun σ=>σ[0]? = some (some (.ref a))/\σ.length=m+1) h0 hS hlen ⟨h0,hl⟩ ?_ fun σ H1 _ s=>done σ H1 s;rintro n σ1 H1 H2 ⟨z0,z1⟩ s1 s2;refine hb [] [] H2 _ _ [] _ _ ⟨by simp [z1],fun i x e=>?_⟩ zk0 (turn n) ⟨?_,fun _ _ _ _ _ _ _ _ q=>q.elim,fun _ _ _ _ _ _ _ _ q=>q.elim,?_⟩
 ·rw [List.getElem?_set] at e ⊢;by_cases hij:j=i
  ·rw [if_pos hij] at e ⊢;by_cases hjl:j<m+1
   ·rw [if_pos (by simpa using hjl)] at e;rw [if_pos (by rw [z1]; exact hjl)];cases e;exact⟨.int n,rfl,xI n⟩
   ·rw [if_neg (by simpa using hjl)] at e;cases e
  ·rw [if_neg hij] at e ⊢;cases i with
   | zero =>
    cases e;exact⟨.ref a,z0,rfl⟩
   | succ i =>
    rw [List.getElem?_cons_succ,List.getElem?_replicate] at e;split at e <;> cases e
 ·rintro o' H' δ' S' σ' e he hs ⟨q1,q2⟩;obtain⟨v,ev,hv⟩:=he.get 0 _ q1;cases hv;exact⟨s2.trans e.same_nil,ev,by rw [<- he.len]; exact q2⟩
 ·rintro o' H' δ' S' σ' e he hs ⟨q1,q2⟩;obtain⟨v,ev,hv⟩:=he.get 0 _ q1;cases hv;exact⟨s2.trans e.same_nil,ev,by rw [<- he.len]; exact q2⟩
theorem zrT{a:Addr}{m:Nat}{t u:TS}{dt:DS}{D:Ends}{σ:St}{H:Hp}(ht:RS t dt)(h0:σ[0]? = some (some (.ref a)))(hl:σ.length=m+1)
  (go:dt { nx:=fun δ _=>δ[0]? = some (some (.o (.ref a)))/\δ.length=m+1,rt:=fun _ _=>False } (some (.o (.ref a)) :: List.replicate m none) [])
  (next:∀ (σ:St) (H1:Hp),σ[0]? = some (some (.ref a))->σ.length=m+1->Same H H1->u D σ H1):ziz t u D σ H:=by
 refine ht [] [] H _ _ [] _ _ ⟨by simp [hl],fun i x e=>?_⟩ zk0 go ⟨?_,fun _ _ _ _ _ _ _ _ q=>q.elim,fun _ _ _ _ _ _ _ _ q=>q.elim,fun _ _ _ _ _ _ _ _ q=>q.elim⟩
 ·cases i with
  | zero =>
   cases e;exact⟨.ref a,h0,rfl⟩
  | succ i =>
   rw [List.getElem?_cons_succ,List.getElem?_replicate] at e;split at e <;> cases e
 ·rintro o' H' δ' S' σ' e he hs ⟨q1,q2⟩;obtain⟨v,ev,hv⟩:=he.get 0 _ q1;cases hv;exact next σ' H' ev (by rw [<- he.len]; exact q2) e.same_nil
end
section
theorem zle{P:Program}{w:World}{K:W.Frag}{tg:Expr}(it:Addr)(lo:Int)(n:Nat):Turn P w K tg (Itr lo n) [it] it (fun i h=>IsLongIter h it (lo+(i:Nat)*1) ((n:Int) - (i:Nat)) 1) where
 mem:=by simp
 obj:=fun i h st b hb=>by
  have e:b=it:=by simpa using hb
  subst e;exact⟨_,st,fun v z=>by
   have z':Data.fields _=Data.cell v:=z;cases z'⟩
 keep:=fun i h h' st k=>k it (by simp) _ st
 item:=by
  intro X hP hw hK hc i zf s σ H E I hf st hg;subst hP hw hK;obtain⟨f0,f1,f2,f3,f4,f5⟩:=hf it (by simp);have W:=Walks.longrange (prog:=X.prog) (w:=X.w) (I.ok.hd hc) it lo 1 n;refine W.item i s _ _ hg st fun v h' tk hv st' kk=>?_;obtain⟨t,rfl⟩:=hv;have I1:Inv X zf σ H { s with heap:=h',toks:=tk }:=I.turned (fun b o hb e=>kk b o (by simpa using hb) e) f0 f1 f3 f4 f5;refine⟨_,rfl,zm9 (s:={ s with heap:=h',toks:=tk }) (n:="longrange_iterator") st' rfl rfl (by decide) ⟨.int (lo+i),H,I1,⟨t,?_⟩,⟨rfl,rfl⟩,st',fun b hb=>(hf b hb).1⟩⟩;rw [Int.mul_one]
 done:=by
  intro X hP hw hK hc i zf s σ H E I hf st hg;subst hP hw hK;obtain⟨f0,f1,f2,f3,f4,f5⟩:=hf it (by simp);exact wpAny_pyNext_long_end (I.ok.hd hc) st (by have:n<=i:=hg; omega) fun h' eb=>⟨rfl,I.turned (t':=s.toks) (fun b o hb e=>eb b o hb e) f0 f1 f3 f4 f5⟩
 self:=fun _ _ _ _ _ st h=>wpAny_pyIter_longiter st h
section
variable {X:Cx} {tg:Expr}
theorem zlE{zf:List (Addr×Obj)}{σ:St}{H:Hp}{s:Shared}{R:It->Hp->Prop}{E:Value->Shared->Prop}{lo hi:Int}{t u v:Tok}{tk:Nat}(I:Inv X zf σ H s)
  (q:R (Itr lo (hi - lo).toNat) H):wpAny (model X.prog X.w) X.A (pyIter (.ref s.heap.objs.size)) (PIE X zf σ tg R) E { s with heap:=s.heap.push { cls:=.type "range",data:=.fields #[.int lo t,.int hi u,.int 1 v] },toks:=tk }:=by
 have I1:Inv X zf σ H { s with heap:=s.heap.push { cls:=.type "range",data:=.fields #[.int lo t,.int hi u,.int 1 v] },toks:=tk }:=I.kept fun b o e=>Heap.get?_push_of_some _ e;have e1:lo+((0:Nat):Int)*1=lo:=by simp
 have e2:(((hi - lo).toNat:Nat):Int) - ((0:Nat):Int)=Builtin.Range.rangeSize lo hi 1:=by rw [rangeSize_one]; split <;> omega
 cases hsm:Builtin.Range.small lo hi 1 with
 | true =>
  refine wpAny_pyIter_range (IsRange.new ..) hsm ?_;refine⟨(s.heap.push { cls:=.type "range",data:=.fields #[.int lo t,.int hi u,.int 1 v] }).objs.size,[(s.heap.push { cls:=.type "range",data:=.fields #[.int lo t,.int hi u,.int 1 v] }).objs.size],_,_,H,rfl,
   I1.kept (t':=tk) fun b o e=>Heap.get?_push_of_some _ e,zj2 _ lo (hi - lo).toNat,?_,fun b hb=>?_,q⟩
  ·show IsRangeIter _ _ (lo+((0:Nat):Int)*1) ((((hi - lo).toNat:Nat):Int) - ((0:Nat):Int)) 1;rw [e1,e2];exact Heap.get?_push_size _ rfl
  ·have e:b=(s.heap.push { cls:=.type "range",data:=.fields #[.int lo t,.int hi u,.int 1 v] }).objs.size:=by simpa using hb
   subst e;exact I1.fpOk (Nat.le_refl _) (I1.hok.fresh (Nat.le_refl _))
 | false =>
  refine wpAny_pyIter_longrange (IsRange.new ..) hsm ?_;refine⟨(s.heap.push { cls:=.type "range",data:=.fields #[.int lo t,.int hi u,.int 1 v] }).objs.size,[(s.heap.push { cls:=.type "range",data:=.fields #[.int lo t,.int hi u,.int 1 v] }).objs.size],_,_,H,rfl,
   I1.kept (t':=tk) fun b o e=>Heap.get?_push_of_some _ e,zle _ lo (hi - lo).toNat,?_,fun b hb=>?_,q⟩
  ·show IsLongIter _ _ (lo+((0:Nat):Int)*1) ((((hi - lo).toNat:Nat):Int) - ((0:Nat):Int)) 1;rw [e1,e2];exact Heap.get?_push_size _ rfl
  ·have e:b=(s.heap.push { cls:=.type "range",data:=.fields #[.int lo t,.int hi u,.int 1 v] }).objs.size:=by simpa using hb
   subst e;exact I1.fpOk (Nat.le_refl _) (I1.hok.fresh (Nat.le_refl _))
def zob(ta:TA):TI:=fun σ H R=>ta σ H fun vs H1=>∃ j:Int,vs=[.int j]/\R (Itr 0 j.toNat) H1
theorem zfQ{a:Expr}{ta:TA}{p pos:Pos}(hg:Gl X "range")(hm:X.mg "range" = none)(ha:PA X [a] ta)(hs:starEach [a] X.env=[(false,eval a X.env)]:=by rfl):PI X tg (.Call (.Name "range" p) [a] [] pos) (zob ta):=by
 intro zf s σ H R I h;refine Call_ (zcC I hg hm boot_range (PyProof.Rows.callWith_type1 (thn (ha pos zf s σ H _ I h) fun us s1 ⟨vs,H1,I1,r1,q1⟩=>?_) hs rfl));obtain⟨j,e,q⟩:=q1;subst e;cases r1 with
 | cons r rr =>
  cases rr;obtain⟨t,rfl⟩:=r;exact call_range_1 (zlE I1 (by simpa using q))
end
def zfa(a:DA):DI:=fun δ S R=>a δ S fun xs S1=>arg1 xs fun x=>asI x fun j=>R (zib 0 j.toNat) S1
def zlr(a:DA):DI:=fun δ S R=>a δ S fun xs S1=>arg2 xs fun x y=>asI x fun i=>asI y fun j=>R (zib i (j - i).toNat) S1
theorem zjc{ta:TA}{da:DA}(ha:RA ta da):RI (zob ta) (zfa da):=fun h o H δ σ S R Q he hs q c =>
 ha h o H δ σ S _ _ he hs q fun o1 H1 S1 xs vs e1 s1 x1 d0=>by
  obtain⟨x,rfl,d2⟩:=zaC d0;obtain⟨j,rfl,d1⟩:=zbb d2;obtain⟨v,rfl,hv⟩:=hxs1 x1;rw [zba hv];exact⟨j,rfl,c o1 H1 S1 _ _ e1 s1 zmg d1⟩
end
section
open Sem (wp)
open AutoSeq1 (wpAny_loadPart')
section
variable {X:Cx} {zf:List (Addr×Obj)} {σ:St} {H:Hp} {s:Shared} {h':Heap}
theorem Inv.turnLaid{t':Nat}{ch:List Addr}{T:Addr}{o:HO}(I:Inv X zf σ H s)(k:∀ b u,b∉ch->s.heap.get? b=some u->h'.get? b=some u)(hf:∀ b∈ch,FpOk X zf H b)(hT:s.heap.objs.size<=T)
  (new:ObjOk X.prog X.w (upd H T o) h' T o):Inv X zf σ (upd H T o) { s with heap:=h',toks:=t' }:=by
 have hn:H T=none:=I.hok.fresh hT;have nch:∀ b u,H b=some u->b∉ch:=fun b u e m=>by rw [(hf b m).1] at e; cases e
 have neT:∀ b u,s.heap.get? b=some u->b≠T:=fun b u e z=>absurd (Nat.lt_of_lt_of_le (Heap.lt_size e) hT) (by rw [z]; exact Nat.lt_irrefl _);have up:∀ b u,H b=some u->upd H T o b=some u:=fun b u e=>(zw (zG e hn)).trans e;refine I.step (g':=s.gens) (d':=s.drawn) (ch:=ch) (fun b hb=>?_) (fun b u _ _ hc e _=>k b u hc e) (fun b u _ _ hc e _=>⟨u.slots,k b u hc e⟩) (fun b u _ e n=>(zw (neT b u e)).trans n)
  (fun b u hc e=>⟨u,k b u hc e⟩) (fun b xs e=>up b _ e) (fun b u v e=>up b _ e) (fun b ps e=>⟨#[],by rw [up b _ e]; simp⟩) (fun m hm=>?_) (fun b u e=>?_) I.bare
 ·obtain⟨_,f1,_,f3,f4,f5⟩:=hf b hb;exact⟨f3,f1,f4,f5⟩
 ·obtain⟨ob,es,ep,ho,r⟩:=hm;exact⟨ob,es,ep,k _ ob (fun z=>(hf _ z).2.1 rfl) ho,r⟩
 ·by_cases hb:b=T
  ·subst hb;rw [zH] at e;cases e;exact new
  ·rw [zw hb] at e;refine(I.hok b u e).stay (fun c v hc q=>k c v ?_ q) (fun c q=>up c _ q) fun c xs q=>up c _ q;rcases hc with z | z
   ·rw [z]; exact nch b u e
   ·exact nch c _ z
theorem Inv.turnedN{t':Nat}{ch:List Addr}(I:Inv X zf σ H s)(k:∀ b u,b∉ch->s.heap.get? b=some u->h'.get? b=some u)(hf:∀ b∈ch,FpOk X zf H b):Inv X zf σ H { s with heap:=h',toks:=t' }:=by
 have nch:∀ b u,H b=some u->b∉ch:=fun b u e m=>by rw [(hf b m).1] at e; cases e
 refine I.step (g':=s.gens) (d':=s.drawn) (ch:=ch) (fun b hb=>?_) (fun b u _ _ hc e _=>k b u hc e) (fun b u _ _ hc e _=>⟨u.slots,k b u hc e⟩) (fun b u _ e n=>n)
  (fun b u hc e=>⟨u,k b u hc e⟩) (fun b xs e=>e) (fun b u v e=>e) (fun b ps e=>⟨#[],by rw [e]; simp⟩) (fun m hm=>?_) (fun b u e=>?_) I.bare
 ·obtain⟨_,f1,_,f3,f4,f5⟩:=hf b hb;exact⟨f3,f1,f4,f5⟩
 ·obtain⟨ob,es,ep,ho,r⟩:=hm;exact⟨ob,es,ep,k _ ob (fun z=>(hf _ z).2.1 rfl) ho,r⟩
 ·refine(I.hok b u e).stay (fun c v hc q=>k c v ?_ q) (fun _ q=>q) fun _ _ q=>q;rcases hc with z | z
  ·rw [z]; exact nch b u e
  ·exact nch c _ z
end
section
variable {prog:Program} {w:World} {A:Around} {E:Value->Shared->Prop} {s:Shared}
theorem zkg{j t:Addr}{i:Nat}{vs:Array Value}{x:Value}{Q:Value->Shared->Prop}(hj:s.heap.IsTupleIter j t i)(ht:s.heap.IsTuple t vs)(hx:vs[i]? = some x)
  (hQ:∀ g,g.IsTupleIter j t (i+1)->Heap.SameBut j s.heap g->Q x { s with heap:=g }):wpAny (model prog w) A (Builtin.SmallTypes.nextOf (.ref j)) Q E s:=by
 obtain⟨oj,ej,cj,dj⟩:=id hj;obtain⟨ot,et,_,nt,dt⟩:=ht;unfold Builtin.SmallTypes.nextOf;refine wpAny_bind (wpAny_callSpecial?_slot (name:=Str.ofString "__next__") hj.typeIs F.slot_tuple_iterator_next (wpAny_call_entry F.slot_tuple_iterator_next hj.typeIs F.entry_tuple_iterator_next ?_ (F.args_tuple_iterator_next_1 _)));show wpAny _ _ (field (.ref j) 0 >>= _) _ _ s;refine wpAny_bind (wpAny_field ej dj (x:=.ref t) rfl ?_);show wpAny _ _ (ite ((Value.ref t == Value.none)=true) _ _) _ _ s;refine(if_neg (show ¬ ((Value.ref t == Value.none)=true) from Bool.false_ne_true))▸?_;show wpAny _ _ (field (.ref j) 1 >>= _) _ _ s;refine wpAny_bind (wpAny_field ej dj (x:=.int i 0) rfl ?_);refine wpAny_bind (m:=seqItems? (.ref t)) (wpAny_seqItems et dt ?_);simp only [hx,Int.toNat_natCast];refine wpAny_bind (wpAny_setField ej dj (by simp) (wpAny_pure ⟨x,rfl,wpAny_pure (hQ _ ⟨_,Heap.get?_update_self _ ej (Obj.isFreed_of_fields (Obj.data_mapFields dj _)),(Obj.cls_mapFields ..).trans cj,?_⟩ (Heap.SameBut.update ..))⟩));rw [Obj.data_mapFields dj];simp [rawInt]
theorem zfo{j t:Addr}{i:Nat}{vs:Array Value}{Q:Value->Shared->Prop}(hh:A.handled=none)(hj:s.heap.IsTupleIter j t i)(ht:s.heap.IsTuple t vs)(hx:vs[i]? = none)
  (hE:∀ g e,Heap.ExtBut j s.heap g->(∃ o,g.get? e=some o/\o.cls=.type "StopIteration")->E (.ref e) { s with heap:=g }):wpAny (model prog w) A (Builtin.SmallTypes.nextOf (.ref j)) Q E s:=by
 obtain⟨oj,ej,cj,dj⟩:=id hj;obtain⟨ot,et,_,nt,dt⟩:=ht;unfold Builtin.SmallTypes.nextOf;refine wpAny_bind (wpAny_callSpecial?_slot (name:=Str.ofString "__next__") hj.typeIs F.slot_tuple_iterator_next (wpAny_call_entry F.slot_tuple_iterator_next hj.typeIs F.entry_tuple_iterator_next ?_ (F.args_tuple_iterator_next_1 _)));show wpAny _ _ (field (.ref j) 0 >>= _) _ _ s;refine wpAny_bind (wpAny_field ej dj (x:=.ref t) rfl ?_);show wpAny _ _ (ite ((Value.ref t == Value.none)=true) _ _) _ _ s;refine(if_neg (show ¬ ((Value.ref t == Value.none)=true) from Bool.false_ne_true))▸?_;show wpAny _ _ (field (.ref j) 1 >>= _) _ _ s;refine wpAny_bind (wpAny_field ej dj (x:=.int i 0) rfl ?_);refine wpAny_bind (m:=seqItems? (.ref t)) (wpAny_seqItems et dt ?_);simp only [hx,Int.toNat_natCast];refine wpAny_bind (wpAny_rule (wpAny_bind (wpAny_setField ej dj (by simp) ?_)));show wpAny _ _ (newExc (.type "StopIteration") [] >>= _) _ _ _;refine wpAny_bind ?_;simp only [newExc,newTuple];refine wpAny_bind (wpAny_newObj_type ?_ (by size_fits)); refine wpAny_bind (m:=firstArgMember _ _) (wpAny_of_eq (a:=Value.none) (by first | rfl | (simp only [firstArgMember]; rfl)) ?_);refine wpAny_newObj_type ?_ (by size_fits); simp only [raiseNew];refine wpAny_bind (wpAny_handled ?_)
 first | rw [show A.in1.handled=none from hh] | rw [hh]
 exact wpAny_bind (wpAny_pure (wpAny_throw (hE _ _ (((Heap.SameBut.update ..).extBut.push _).push _) ⟨_,Heap.get?_push_size _ rfl,rfl⟩)))
theorem zkK{e j:Addr}{i:Nat}{x old:Value}{J:Heap->Prop}{Q:Value->Shared->Prop}(he:IsEnum s.heap e j i old)(hne:e≠j)
  (hn:∀ (Q':Value->Shared->Prop) (E':Value->Shared->Prop),(∀ g,J g->Heap.SameBut j s.heap g->Q' x { s with heap:=g })->wpAny (model prog w) A (Builtin.SmallTypes.nextOf (.ref j)) Q' E' s)
  (hJ:∀ g g',J g->(∀ o,g.get? j=some o->g'.get? j=some o)->J g')
  (hQ:∀ g,IsEnumOut g e j ((i:Int)+1) x s.heap.objs.size->J g->g.get? s.heap.objs.size=some { cls:=.type "tuple",data:=.seq #[.int i s.toks,x] } ->
   (∀ b o,b≠e->b≠j->s.heap.get? b=some o->g.get? b=some o)->Q (.ref s.heap.objs.size) { s with heap:=g,toks:=s.toks+1 }) :
  wpAny (model prog w) A (Builtin.«enumerate.__next__» ⟨[.ref e],[]⟩) (fun fin s'=>∃ v,fin=.done (.ret v)/\Q v s') E s:=by
 obtain⟨h0,gs,dr,tk,os⟩:=s;show wpAny _ _ (field (.ref e) 2 >>= _) _ _ _;refine wpAny_bind (wpAny_field he rfl (x:=.ref j) rfl (wpAny_bind (hn _ _ fun g1 J1 b1=>?_)));replace b1:Heap.SameBut j h0 g1:=b1;have e1:IsEnum g1 e j i old:=(b1.2 e hne).trans he;show wpAny _ _ (field (.ref e) 3 >>= _) _ _ ⟨g1,gs,dr,tk,os⟩;refine wpAny_bind (wpAny_field e1 rfl (x:=rawInt i) rfl ?_);show wpAny _ _ (field (.ref e) 4 >>= _) _ _ ⟨g1,gs,dr,tk,os⟩;refine wpAny_bind (wpAny_field e1 rfl (x:=.none) rfl ?_);show wpAny _ _ (mkInt i >>= _) _ _ ⟨g1,gs,dr,tk,os⟩;refine wpAny_bind (wpAny_mkInt ?_);show wpAny _ _ (setField (.ref e) 3 (rawInt ((i:Int)+1)) >>= _) _ _ ⟨g1,gs,dr,tk+1,os⟩;refine wpAny_bind (wpAny_setField_rec e1 (by simp) fun g2 e2 b2=>?_);replace b2:Heap.SameBut e g1 g2:=b2;replace e2:IsEnum g2 e j ((i:Int)+1) old:=e2;show wpAny _ _ (setField (.ref e) 4 .none >>= _) _ _ ⟨g2,gs,dr,tk+1,os⟩;refine wpAny_bind (wpAny_setField_rec e2 (by simp) fun g3 e3 b3=>?_);replace b3:Heap.SameBut e g2 g3:=b3;replace e3:IsEnum g3 e j ((i:Int)+1) old:=e3;show wpAny _ _ (newTuple [.int i tk,x] >>= _) _ _ ⟨g3,gs,dr,tk+1,os⟩;refine wpAny_bind (wpAny_newTuple ?_);have sz:g3.objs.size=h0.objs.size:=by rw [b3.1,b2.1,b1.1]
 have lt:e<h0.objs.size:=Heap.lt_size he;have e4:IsEnum (g3.push { cls:=.type "tuple",data:=.seq #[.int i tk,x] }) e j ((i:Int)+1) old:=Heap.get?_push_of_some _ e3;have J3:J g3:=hJ _ _ (hJ _ _ J1 fun o q=>b2.extBut j o (Ne.symm hne) q) fun o q=>b3.extBut j o (Ne.symm hne) q;have J4:J (g3.push { cls:=.type "tuple",data:=.seq #[.int i tk,x] }):=hJ _ _ J3 fun o q=>Heap.get?_push_of_some _ q;have t4:(g3.push { cls:=.type "tuple",data:=.seq #[.int i tk,x] }).get? h0.objs.size=some { cls:=.type "tuple",data:=.seq #[.int i tk,x] }:=by rw [<- sz]; exact Heap.get?_push_size _ rfl
 have k4:∀ b o,b≠e->b≠j->h0.get? b=some o->(g3.push { cls:=.type "tuple",data:=.seq #[.int i tk,x] }).get? b=some o:=fun b o n1 n2 q=>Heap.get?_push_of_some _ (b3.extBut b o n1 (b2.extBut b o n1 (b1.extBut b o n2 q)));generalize g3.push { cls:=.type "tuple",data:=.seq #[.int i tk,x] } = g4 at e4 J4 t4 k4 ⊢;show wpAny _ _ (Builtin.SmallTypes.ownedTupleIsFree (.ref e) >>= _) _ _ ⟨g4,gs,dr,tk+1,os⟩;rw [sz];refine wpAny_bind ?_;unfold Builtin.SmallTypes.ownedTupleIsFree;refine wpAny_bind (wpAny_field e4 rfl (x:=.none) rfl (wpAny_pure ?_));simp only [if_true];refine wpAny_bind (wpAny_rule (wpAny_bind (wpAny_field e4 rfl (x:=old) rfl (wpAny_bind (wpAny_setField_rec e4 (by simp) fun g5 e5 b5=>?_)))));replace b5:Heap.SameBut e g4 g5:=b5;replace e5:IsEnum g5 e j ((i:Int)+1) x:=e5;show wpAny _ _ (Builtin.SmallTypes.ownedTupleHandOut (.ref e) (.ref h0.objs.size) >>= _) _ _ ⟨g5,gs,dr,tk+1,os⟩;refine wpAny_bind ?_;unfold Builtin.SmallTypes.ownedTupleHandOut;refine wpAny_bind (wpAny_setField_rec e5 (by simp) fun g6 e6 b6=>?_);replace b6:Heap.SameBut e g5 g6:=b6;replace e6:IsEnumOut g6 e j ((i:Int)+1) x h0.objs.size:=e6;refine wpAny_setField_rec e6 (by simp) fun g7 e7 b7=>?_;replace b7:Heap.SameBut e g6 g7:=b7;replace e7:IsEnumOut g7 e j ((i:Int)+1) x h0.objs.size:=e7;have k7:∀ b o,b≠e->g4.get? b=some o->g7.get? b=some o:=fun b o n q=>b7.extBut b o n (b6.extBut b o n (b5.extBut b o n q));exact wpAny_bind (wpAny_letGo (wpAny_pure ⟨_,rfl,hQ g7 e7 (hJ _ _ J4 fun o q=>k7 j o (Ne.symm hne) q) (k7 _ _ (Nat.ne_of_gt lt) t4) fun b o n1 n2 q=>k7 b o n1 (k4 b o n1 n2 q)⟩))
theorem zhr{e j:Addr}{i:Nat}{x old:Value}{J:Heap->Prop}{Q:Option Value->Shared->Prop}(he:IsEnum s.heap e j i old)(hne:e≠j)
  (hn:∀ (A:Around) (Q':Value->Shared->Prop) (E':Value->Shared->Prop),(∀ g,J g->Heap.SameBut j s.heap g->Q' x { s with heap:=g })->wpAny (model prog w) A (Builtin.SmallTypes.nextOf (.ref j)) Q' E' s)
  (hJ:∀ g g',J g->(∀ o,g.get? j=some o->g'.get? j=some o)->J g')
  (hQ:∀ g,IsEnumOut g e j ((i:Int)+1) x s.heap.objs.size->J g->g.get? s.heap.objs.size=some { cls:=.type "tuple",data:=.seq #[.int i s.toks,x] } ->
   (∀ b o,b≠e->b≠j->s.heap.get? b=some o->g.get? b=some o)->Q (some (.ref s.heap.objs.size)) { s with heap:=g,toks:=s.toks+1 }):wpAny (model prog w) A (pyNext (.ref e)) Q E s:=by
 have ty:s.TypeIs (.ref e) "enumerate":=⟨_,he,rfl⟩;unfold pyNext;exact wpAny_bind (wpAny_attempt (wpAny_callSpecial?_slot (name:=Str.ofString "__next__") ty F.slot_enumerate_next (wpAny_call_entry F.slot_enumerate_next ty F.entry_enumerate_next (zkK he hne (hn _) hJ fun g a b c k=>wpAny_pure (hQ g a b c k)) (F.args_enumerate_next_1 _))))
theorem zhx{e j:Addr}{i:Nat}{old:Value}{Q:Option Value->Shared->Prop}(hh:A.handled=none)(he:IsEnum s.heap e j i old)
  (hn:∀ (A:Around) (Q':Value->Shared->Prop) (E':Value->Shared->Prop),A.handled=none->(∀ g x,Heap.ExtBut j s.heap g->(∃ o,g.get? x=some o/\o.cls=.type "StopIteration")->E' (.ref x) { s with heap:=g })->wpAny (model prog w) A (Builtin.SmallTypes.nextOf (.ref j)) Q' E' s)
  (hQ:∀ g,Heap.ExtBut j s.heap g->Q none { s with heap:=g }):wpAny (model prog w) A (pyNext (.ref e)) Q E s:=by
 have ty:s.TypeIs (.ref e) "enumerate":=⟨_,he,rfl⟩;unfold pyNext;refine wpAny_bind (wpAny_attempt (wpAny_callSpecial?_slot (name:=Str.ofString "__next__") ty F.slot_enumerate_next (wpAny_call_entry F.slot_enumerate_next ty F.entry_enumerate_next ?_ (F.args_enumerate_next_1 _))));show wpAny _ _ (field (.ref e) 2 >>= _) _ _ _;refine wpAny_bind (wpAny_field he rfl (x:=.ref j) rfl (wpAny_bind (hn _ _ _ hh fun g x b hx=>?_)));obtain⟨o,ho,hc⟩:=hx;exact wpAny_bind (wpAny_isInstance (T:="StopIteration") (b:=true) ⟨o,ho,hc⟩ isSubtype_stop (wpAny_pure (hQ _ b)))
theorem zoO(t:Addr)(vs:Array Value)(n:Nat)(dct:Option Addr)(sl:Array (Option Value)):Meets (Builtin.«enumerate.__new__» ⟨[.type "enumerate",.ref t],[]⟩) (fun _ R s=>s.heap.get? t=some { cls:=.type "tuple",dict:=dct,data:=.seq vs n,slots:=sl } /\
   R (.ok (.ret (.ref (s.heap.push { cls:=.type "tuple_iterator",data:=.fields #[.ref t,.int 0 0] }).objs.size)))
    { s with heap:=(s.heap.push { cls:=.type "tuple_iterator",data:=.fields #[.ref t,.int 0 0] }).push { cls:=.type "enumerate",data:=.fields #[.none,.bool false,.ref s.heap.objs.size,rawInt 0,.none,.none] } }) :=
 .of_wp fun prog w A R s hyp=>by
  obtain⟨g0,gs,dr,tk,os⟩:=s;obtain⟨ht,hyp⟩:=hyp;have sub:=sub_enumerate;have hT:Heap.IsTuple (Shared.heap ⟨g0,gs,dr,tk,os⟩) t vs:=⟨_,ht,rfl,n,rfl⟩
  wp_walk using wpAny_loadPart' ht
  refine wpAny_stack_any fun _=>wpAny_pure ?_;split
  ·rename_i c _ _ _ _ _;cases (c == Value.type "enumerate") <;> (wp_walk using wpAny_loadPart' ht,wpAny_pyIter_tuple hT; exact⟨_,rfl,hyp⟩)
  ·wp_walk using wpAny_loadPart' ht,wpAny_pyIter_tuple hT
   exact⟨_,rfl,hyp⟩
theorem zf3{t:Addr}{vs:Array Value}{Q:Value->Shared->Prop}(hT:s.heap.IsTuple t vs)
  (hyp:∀ g,IsEnum g (s.heap.objs.size+1) s.heap.objs.size 0 .none->g.IsTupleIter s.heap.objs.size t 0->(∀ b o,s.heap.get? b=some o->g.get? b=some o)->Q (.ref (s.heap.objs.size+1)) { s with heap:=g }):wpAny (model prog w) A (call (.type "enumerate") [.ref t]) Q E s:=by
 obtain⟨⟨c,dct,dt,sl⟩,ht,hc,n,hd⟩:=hT;replace hc:c=.type "tuple":=hc;replace hd:dt=.seq vs n:=hd;subst hc hd;refine callType_new F.called_enumerate (by decide) (F.typeCall_enumerate_1 _) (F.newCall_enumerate_1 _) (fun ob=>F.args_object_init_2 ob _) F.entry_enumerate_new (zoO t vs n dct sl) ⟨ht,?_⟩;have sz:(s.heap.push { cls:=.type "tuple_iterator",data:=.fields #[.ref t,.int 0 0] }).objs.size=s.heap.objs.size+1:=Heap.size_push ..;show _/\_;rw [sz];have he:=Heap.get?_push_size (s.heap.push { cls:=.type "tuple_iterator",data:=.fields #[.ref t,.int 0 0] }) (o:={ cls:=.type "enumerate",data:=.fields #[.none,.bool false,.ref s.heap.objs.size,rawInt 0,.none,.none] }) rfl;rw [sz] at he;exact⟨⟨_,he,rfl⟩,hyp _ he ⟨_,Heap.get?_push_of_some _ (Heap.get?_push_size _ rfl),rfl,rfl⟩ fun b o q=>Heap.get?_push_of_some _ (Heap.get?_push_of_some _ q)⟩
end
def Ite(Sq:Hp->Addr->List V->Prop)(a:Addr):It :=
 ⟨fun i H=>∃ xs x,Sq H a xs/\xs[i]? = some x,fun i H x H'=>∃ p v,H p=none/\x=.ref p/\H'=upd H p (.tup [.int i,v])/\∀ xs,Sq H a xs->xs[i]? = some v,fun i H=>∃ xs,Sq H a xs/\xs.length<=i⟩
theorem zkj{P:Program}{w:World}{K:W.Frag}{elts:List Expr}{n:Nat}{pos:Pos}(a e j:Addr)(hej:e≠j):Turn P w K (.Tuple elts n pos) (Ite (SqT K) a) [e,j] e (fun i h=>(∃ old,IsEnum h e j i old)/\h.IsTupleIter j a i) where
 mem:=by simp
 obj:=fun i h ⟨⟨old,he⟩,hj⟩ b hb=>by
  rcases List.mem_cons.mp hb with rfl | hb
  ·exact⟨_,he,fun v z=>by
    have z':Data.fields _=Data.cell v:=z;cases z'⟩
  ·rw [List.mem_singleton.mp hb];obtain⟨o,q,c,d⟩:=hj;exact⟨o,q,fun v z=>by rw [d] at z; cases z⟩
 keep:=fun i h h' ⟨⟨old,he⟩,hj⟩ k=>⟨⟨old,k e (by simp) _ he⟩,hj.at fun o q=>k j (by simp) o q⟩
 item:=by
  intro X hP hw hK hc i zf s σ H E I hf ⟨⟨old,he⟩,hj⟩ hg;subst hP hw hK;obtain⟨xs,x,hq,hx⟩:=hg;obtain⟨its,rv,p,hz⟩:=I.tuple hq;obtain⟨u,hu,ru⟩:=rv.get hx;have hT:s.heap.IsTuple a its.toArray:=p;refine zhr (J:=fun g=>g.IsTupleIter j a (i+1)) he hej (fun A' Q' E' k=>zkg hj hT (x:=u) (by simpa using hu) k) (fun g g' z k=>z.at k) fun g e1 j1 t1 k1=>?_;refine⟨_,rfl,wpAny_letOwnedTupleGo_enum (s:={ s with heap:=g,toks:=s.toks+1 }) e1 fun g' e2 b2=>?_⟩;have lt:e<s.heap.objs.size:=Heap.lt_size he;have ltj:j<s.heap.objs.size:=by
   obtain⟨_,q,_⟩:=hj;exact Heap.lt_size q
  have t2:g'.get? s.heap.objs.size=some { cls:=.type "tuple",data:=.seq #[.int i s.toks,u] }:=(b2.2 _ (Nat.ne_of_gt lt)).trans t1;have neT:H s.heap.objs.size=none:=I.hok.fresh (Nat.le_refl _);refine⟨.ref s.heap.objs.size,upd H s.heap.objs.size (.tup [.int i,x]),I.turnLaid (ch:=[e,j]) (t':=s.toks+1) (fun b o nb q=>(b2.2 b fun z=>nb (by simp [z])).trans (k1 b o (fun z=>nb (by simp [z])) (fun z=>nb (by simp [z])) q)) hf (Nat.le_refl _) ?_,rfl,
   ⟨_,x,neT,rfl,rfl,fun ys hy=>by rw [I.tuple_inj hy hq]; exact hx⟩,⟨⟨u,by simpa using e2⟩,j1.at fun o q=>(b2.2 j (Ne.symm hej)).trans q⟩,fun b hb=>?_⟩
  ·refine⟨⟨by show 2<=sizeLine; decide,_,t2,rfl⟩,[.int i s.toks,u],.cons ⟨s.toks,rfl⟩ (.cons ru .nil),⟨_,t2,rfl,_,rfl⟩⟩
  ·rcases List.mem_cons.mp hb with rfl | hb
   ·rw [zw (Nat.ne_of_lt lt)];exact(hf _ (by simp)).1
   ·rw [List.mem_singleton.mp hb,zw (Nat.ne_of_lt ltj)];exact(hf _ (by simp)).1
 done:=by
  intro X hP hw hK hc i zf s σ H E I hf ⟨⟨old,he⟩,hj⟩ hg;subst hP hw hK;obtain⟨xs,hq,hx⟩:=hg;obtain⟨its,rv,p,hz⟩:=I.tuple hq;have hT:s.heap.IsTuple a its.toArray:=p;have hl:=rv.length;exact zhx (I.ok.hd hc) he (fun A' Q' E' h0 k=>zfo h0 hj hT (by simp; omega) k) fun g b=>⟨rfl,I.turnedN (ch:=[e,j]) (t':=s.toks) (fun b' o nb q=>b b' o (fun z=>nb (by simp [z])) q) hf⟩
 self:=fun _ _ _ _ _ st h=>by
  obtain⟨⟨old,he⟩,_⟩:=st;exact wpAny_pyIter_enum he h
theorem zka{P:Program}{w:World}{K:W.Frag}{elts:List Expr}{n:Nat}{pos:Pos}(a e j:Addr)(hej:e≠j):Turn P w K (.Tuple elts n pos) (Ite (SqL K) a) [e,j] e (fun i h=>(∃ old,IsEnum h e j i old)/\h.IsListIter j a i) where
 mem:=by simp
 obj:=fun i h ⟨⟨old,he⟩,hj⟩ b hb=>by
  rcases List.mem_cons.mp hb with rfl | hb
  ·exact⟨_,he,fun v z=>by
    have z':Data.fields _=Data.cell v:=z;cases z'⟩
  ·rw [List.mem_singleton.mp hb];obtain⟨o,q,c,d⟩:=hj;exact⟨o,q,fun v z=>by rw [d] at z; cases z⟩
 keep:=fun i h h' ⟨⟨old,he⟩,hj⟩ k=>⟨⟨old,k e (by simp) _ he⟩,hj.at fun o q=>k j (by simp) o q⟩
 item:=by
  intro X hP hw hK hc i zf s σ H E I hf ⟨⟨old,he⟩,hj⟩ hg;subst hP hw hK;obtain⟨xs,x,hq,hx⟩:=hg;obtain⟨its,rv,p,hz⟩:=I.list hq;obtain⟨u,hu,ru⟩:=rv.get hx;have hT:s.heap.IsList a its.toArray:=p.isList;refine zhr (J:=fun g=>g.IsListIter j a (i+1)) he hej (fun A' Q' E' k=>wpAny_nextOf_list_item hj hT (x:=u) (by simpa using hu) k) (fun g g' z k=>z.at k) fun g e1 j1 t1 k1=>?_;refine⟨_,rfl,wpAny_letOwnedTupleGo_enum (s:={ s with heap:=g,toks:=s.toks+1 }) e1 fun g' e2 b2=>?_⟩;have lt:e<s.heap.objs.size:=Heap.lt_size he;have ltj:j<s.heap.objs.size:=by
   obtain⟨_,q,_⟩:=hj;exact Heap.lt_size q
  have t2:g'.get? s.heap.objs.size=some { cls:=.type "tuple",data:=.seq #[.int i s.toks,u] }:=(b2.2 _ (Nat.ne_of_gt lt)).trans t1;have neT:H s.heap.objs.size=none:=I.hok.fresh (Nat.le_refl _);refine⟨.ref s.heap.objs.size,upd H s.heap.objs.size (.tup [.int i,x]),I.turnLaid (ch:=[e,j]) (t':=s.toks+1) (fun b o nb q=>(b2.2 b fun z=>nb (by simp [z])).trans (k1 b o (fun z=>nb (by simp [z])) (fun z=>nb (by simp [z])) q)) hf (Nat.le_refl _) ?_,rfl,
   ⟨_,x,neT,rfl,rfl,fun ys hy=>by rw [I.list_inj hy hq]; exact hx⟩,⟨⟨u,by simpa using e2⟩,j1.at fun o q=>(b2.2 j (Ne.symm hej)).trans q⟩,fun b hb=>?_⟩
  ·refine⟨⟨by show 2<=sizeLine; decide,_,t2,rfl⟩,[.int i s.toks,u],.cons ⟨s.toks,rfl⟩ (.cons ru .nil),⟨_,t2,rfl,_,rfl⟩⟩
  ·rcases List.mem_cons.mp hb with rfl | hb
   ·rw [zw (Nat.ne_of_lt lt)];exact(hf _ (by simp)).1
   ·rw [List.mem_singleton.mp hb,zw (Nat.ne_of_lt ltj)];exact(hf _ (by simp)).1
 done:=by
  intro X hP hw hK hc i zf s σ H E I hf ⟨⟨old,he⟩,hj⟩ hg;subst hP hw hK;obtain⟨xs,hq,hx⟩:=hg;obtain⟨its,rv,p,hz⟩:=I.list hq;have hT:s.heap.IsList a its.toArray:=p.isList;have hl:=rv.length;exact zhx (I.ok.hd hc) he (fun A' Q' E' h0 k=>wpAny_nextOf_list_end h0 hj hT (by simp; omega) k) fun g b=>⟨rfl,I.turnedN (ch:=[e,j]) (t':=s.toks) (fun b' o nb q=>b b' o (fun z=>nb (by simp [z])) q) hf⟩
 self:=fun _ _ _ _ _ st h=>by
  obtain⟨⟨old,he⟩,_⟩:=st;exact wpAny_pyIter_enum he h
section
variable {X:Cx} {elts:List Expr} {n:Nat} {tpos:Pos}
theorem zff:bootBuiltins "enumerate" = some (.type "enumerate"):=by decide +kernel
end
def zgb(i:Nat):List PyData->List PyData
 | []=>[]
 | d :: ds=>.tuple [.int i,d] :: zgb (i+1) ds
theorem zcU:∀ (ds:List PyData) (i:Nat),(zgb i ds).length=ds.length
 | [],_=>rfl
 | d :: ds,i=>by simp [zgb,zcU ds (i+1)]
theorem zdD:∀ (ds:List PyData) (i k:Nat) (d:PyData),(zgb i ds)[k]? = some d->∃ e,ds[k]? = some e/\d=.tuple [.int ((i+k:Nat):Int),e]
 | [],_,_,_,h=>by simp [zgb] at h
 | c :: ds,i,0,d,h=>by
  have e:PyData.tuple [.int i,c]=d:=by simpa [zgb] using h
  exact⟨c,rfl,by rw [<- e]; rfl⟩
 | c :: ds,i,k+1,d,h=>by
  obtain⟨e,h1,h2⟩:=zdD ds (i+1) k d (by simpa [zgb] using h);exact⟨e,by simpa using h1,by rw [h2]; congr 3; omega⟩
theorem zgm{X:Cx}{x:Str}{i:Int}{pos:Pos}(hg:Gl X x)(hm:∃ t,X.mg x=some (.int i t))(hd:(x == ("__debug__":Str))=false:=by decide):PE X (.Name x pos) (tC (.int i)):=by
 obtain⟨t,e⟩:=hm;exact zbQ hg e ⟨t,rfl⟩ hd
end
section
def dIx:D2:=fun x y S R=>asI y fun i=>match x with
 | .d (.tuple ds)=>∃ d,atI ds i=some d/\R (.d d) S
 | .d (.list ds)=>∃ d,atI ds i=some d/\R (.d d) S
 | .l k=>∃ ds,S[k]? = some ds/\∃ d,atI ds i=some d/\R (.d d) S
 | .d (.str z)=>z.length<=sizeLine/\∃ c,atI z.cps.toList i=some c/\R (.d (.str ⟨#[c]⟩)) S
 | _=>False
theorem zq5:RO zrR (fun x y S R=>asS x fun z=>asI y fun i=>z.length<=sizeLine/\∃ c,atI z.cps.toList i=some c/\R (.d (.str ⟨#[c]⟩)) S):=fun h o H S x y v u R Q hs hx hy q c=>by
 replace q:=zox q;obtain⟨z,rfl,q⟩:=q;replace q:=zbb q;obtain⟨i,rfl,hz,k,ek,q⟩:=q;exact⟨z,i,k,zei hx,zba hy,hz,ek,c o H S _ _ Ex.refl hs (xS _) q⟩
theorem za3{K:W.Frag}:RO (rIx K) dIx:=fun h o H S x y v u R Q hs hx hy q c=>by
 replace q:=zbb q;obtain⟨i,rfl,q⟩:=q;split at q
 ·exact .inr (.inl (zqz h o H S _ _ v u R Q hs hx hy q c))
 ·exact .inl (zn9 h o H S _ _ v u R Q hs hx hy ⟨_,rfl,q⟩ c)
 ·exact .inl (zn9 h o H S _ _ v u R Q hs hx hy q c)
 ·exact .inr (.inr (zq5 h o H S _ _ v u R Q hs hx hy q c))
 ·exact q.elim
section
variable {S:Sto} {R:RX} {ds:List PyData} {i:Int} {k:Nat} {z:Str}
theorem zpW:dIx (.d (.tuple ds)) (.d (.int i)) S R=∃ d,atI ds i=some d/\R (.d d) S:=rfl
theorem zqC:dIx (.d (.list ds)) (.d (.int i)) S R=∃ d,atI ds i=some d/\R (.d d) S:=rfl
theorem zq7:dIx (.l k) (.d (.int i)) S R=∃ ds,S[k]? = some ds/\∃ d,atI ds i=some d/\R (.d d) S:=rfl
end
def zoc(K:W.Frag):R2:=fun x y H Q=>∃ a b ys,x=.ref a/\y=.ref b/\SqT K H a []/\SqT K H b ys/\Q (.ref b) H
theorem zmY{X:Cx}:OpR X (binaryOp .Add) (zoc X.K):=by
 intro zf s σ H x y v u Q I rx ry h;obtain⟨a,b,ys,rfl,rfl,ha,hb,q⟩:=h;cases rx;cases ry;obtain⟨its,r1,p1,_⟩:=I.tuple ha;obtain⟨its2,r2,p2,_⟩:=I.tuple hb;cases r1;obtain⟨⟨c1,d1,e1,l1⟩,o1,w1,n1,k1⟩:=id p1;obtain⟨⟨c2,d2,e2,l2⟩,o2,w2,n2,k2⟩:=id p2;simp only at w1 k1 w2 k2;subst w1 k1 w2 k2;exact concat_meets ⟨_,o1,rfl⟩ ⟨_,o2,rfl⟩ noFill_tuple_add seq_tuple_add PySem.F.slot_tuple_add PySem.F.entry_tuple_add (PySem.F.args_tuple_add_2 _ _) (tuple_addW0 a b _ _ n1 n2 d1 d2 l1 l2 (by simp)) ⟨o1,o2,⟨.ref b,H,I,rfl,q⟩⟩
def zqG(K:W.Frag):R2:=fun x y H Q=>rI0 (fun i j=>.int (i+j)) x y H Q\/(zri x y H Q\/(zo4 K x y H Q\/(zoc K x y H Q\/∃ i j,x=.str i/\y=.str j/\i.length+j.length<=sizeLine/\Q (.str (i++j)) H)))
theorem zam{X:Cx}:OpR X (binaryOp .Add) (zqG X.K):=zqm.or (zom.or (zpj.or (zmY.or zkd)))
def zd9:D2:=fun x y S R=>match x,y with
 | .d (.int i),.d (.int j)=>R (.d (.int (i+j))) S
 | .d (.tuple ds),.d (.tuple es)=>ds.length+es.length<=1000/\R (.d (.tuple (ds++es))) S
 | .d (.str a),.d (.str b)=>a.length+b.length<=sizeLine/\R (.d (.str (a++b))) S
 | x,y=>asL S x fun ds=>asL S y fun es=>ds.length+es.length<=1000/\R (.d (.list (ds++es))) S
theorem zaO{K:W.Frag}:RO (zqG K) zd9:=fun h o H S x y v u R Q hs hx hy q c=>by
 unfold zd9 at q;split at q
 ·exact .inl (zew h o H S _ _ v u R Q hs hx hy q c)
 ·rename_i ds es;cases ds with
  | cons d ds=>exact .inr (.inr (.inl (zpi h o H S _ _ v u R Q hs hx hy ⟨by simp,q⟩ c)))
  | nil =>
   obtain⟨a,vs,rfl,ea,l⟩:=zeo hx;obtain⟨b,us,rfl,eb,l'⟩:=zeo hy;rw [zal.mp l] at ea;exact .inr (.inr (.inr (.inl ⟨a,b,us,rfl,rfl,.of ea,.of eb,c o H S (.d (.tuple es)) _ Ex.refl hs hy q.2⟩)))
 ·exact .inr (.inr (.inr (.inr ⟨_,_,zei hx,zei hy,q.1,c o H S _ _ Ex.refl hs (xS _) q.2⟩)))
 ·exact .inr (.inl (zqj h o H S _ _ v u R Q hs hx hy q c))
section
variable {S:Sto} {R:RX} {ds es:List PyData} {i j:Int} {k l:Nat} {a b:Str}
theorem zos:zd9 (.d (.int i)) (.d (.int j)) S R=R (.d (.int (i+j))) S:=rfl
theorem znV:zd9 (.d (.tuple ds)) (.d (.tuple es)) S R=(ds.length+es.length<=1000/\R (.d (.tuple (ds++es))) S):=rfl
theorem zly:zd9 (.d (.list ds)) (.d (.list es)) S R↔(ds.length+es.length<=1000/\R (.d (.list (ds++es))) S):=⟨fun⟨_,e,_,e',q⟩=>by cases e; cases e'; exact q,fun q=>⟨_,rfl,_,rfl,q⟩⟩
end
def zq3:R2:=fun x y H Q=>rI IntMulOk (fun i j=>.int (i*j)) x y H Q\/(zrk x y H Q\/zsj x y H Q)
theorem zfX{X:Cx}:OpR X (binaryOp .Mult) zq3:=zoM.or (zpv.or zqH)
def zoo:D2:=fun x y S R=>asI y fun j=>match x with
 | .d (.int i)=>IntMulOk i j/\R (.d (.int (i*j))) S
 | .d (.str z)=>z.length<=1000/\j<=1000/\-1000<=j/\R (.d (.str (PySem.Txt.mul z j))) S
 | .d (.list ds)=>j<=1000/\-1000<=j/\ds.length*j.toNat<=1000/\R (.d (.list (List.replicate j.toNat ds).flatten)) S
 | _=>False
theorem HasL.rep{H:Hp}{ds:List PyData}{vs:List V}(l:HasL H ds vs):∀ n:Nat,HasL H (List.replicate n ds).flatten (List.replicate n vs).flatten
 | 0=>zal.mpr rfl
 | n+1=>by
  rw [List.replicate_succ,List.replicate_succ,List.flatten_cons,List.flatten_cons];exact l.append (HasL.rep l n)
theorem zjw:RO zq3 zoo:=fun h o H S x y v u R Q hs hx hy q c=>by
 replace q:=zbb q;obtain⟨j,rfl,q⟩:=q;split at q
 ·exact .inl (zj6 h o H S _ _ v u R Q hs hx hy q c)
 ·exact .inr (.inl ⟨_,_,zei hx,zba hy,q.1,q.2.1,q.2.2.1,c o H S _ _ Ex.refl hs (xS _) q.2.2.2⟩)
 ·obtain⟨a,vs,rfl,ea,l⟩:=zbK (x:=.d (.list _)) hs rfl hx;obtain⟨h1,h2,h3,q⟩:=q;exact .inr (.inr ⟨a,j,vs,rfl,zba hy,ea,by omega,by omega,by rw [l.length]; exact Nat.le_of_lt (small1000 h3),zgr hs (l.rep j.toNat) c q⟩)
 ·exact q.elim
section
variable {S:Sto} {R:RX} {i j:Int} {z:Str} {ds:List PyData}
theorem zoa:zoo (.d (.int i)) (.d (.int j)) S R=(IntMulOk i j/\R (.d (.int (i*j))) S):=rfl
end
def zsd:R2:=fun x y H Q=>rI CDivX (fun i j=>.int (i / j)) x y H Q\/rI CDivN (fun i j=>.int (i.fdiv j)) x y H Q
theorem zl7{X:Cx}:OpR X (binaryOp .FloorDiv) zsd:=znl.or znz
def dFd:D2:=fun x y S R=>asI x fun i=>asI y fun j=>(CDivX i j/\R (.d (.int (i / j))) S)\/(CDivN i j/\R (.d (.int (i.fdiv j))) S)
theorem zpt:RO zsd dFd:=fun h o H S x y v u R Q hs hx hy q c=>by
 replace q:=zbb q;obtain⟨i,rfl,q⟩:=q;replace q:=zbb q;obtain⟨j,rfl,q⟩:=q;rcases q with q | q
 ·exact .inl (zj6 (C:=CDivX) (g:=fun i j=>i / j) h o H S _ _ v u R Q hs hx hy q c)
 ·exact .inr (zj6 (C:=CDivN) (g:=fun i j=>i.fdiv j) h o H S _ _ v u R Q hs hx hy q c)
def zrs(S:Sto):XV->Option Bool
 | .d .none=>some false
 | .d (.bool b)=>some b
 | .d (.int i)=>some (i != 0)
 | .d (.str z)=>if z.length<=sizeLine then some ((z.length:Int) != 0) else none
 | .d (.list ds)=>some (!ds.isEmpty)
 | .d (.tuple ds)=>some (!ds.isEmpty)
 | .l k=>(S[k]?).map fun ds=>!ds.isEmpty
 | _=>none
def zdx(a:DE):DT:=fun δ S R=>a δ S fun x S1=>∃ k,zrs S1 x=some k/\R k S1
theorem zdn{H:Hp}{ds:List PyData}{vs:List V}(l:HasL H ds vs):(!ds.isEmpty) = !vs.isEmpty:=by
 have:=l.length;cases ds <;> cases vs <;> simp_all
theorem zav{K:W.Frag}{ta:TE}{da:DE}(ha:RE ta da):RT (fun σ H Q=>ta σ H fun x H'=>∃ k,TruV K x H' k/\Q k H') (zdx da):=fun h o H δ σ S R Q he hs q c =>
 ha h o H δ σ S _ _ he hs q fun o1 H1 S1 x v e1 s1 x1 ⟨k,ek,d1⟩=>by
  refine⟨k,?_,c o1 H1 S1 k e1 s1 d1⟩;unfold zrs at ek;split at ek
  ·cases ek; rw [(zdz (H:=vx h o1 H1)).mp x1]; rfl
  ·cases ek; rw [zcl x1]; rfl
  ·cases ek; rw [zba x1]; rfl
  ·split at ek
   ·rename_i hz;cases ek; rw [zei x1]; exact⟨hz,rfl⟩
   ·cases ek
  ·obtain⟨a,vs,rfl,ea,l⟩:=zbK (x:=.d (.list _)) s1 rfl x1;cases ek;exact .inl ⟨vs,.of ea,zdn l⟩
  ·obtain⟨a,vs,rfl,ea,l⟩:=zeo x1;cases ek;exact .inr (.inl ⟨vs,.of ea,zdn l⟩)
  ·rename_i j _;cases hj:S1[j]? with
   | none=>rw [hj] at ek; cases ek
   | some ds =>
    rw [hj] at ek;cases ek;obtain⟨a,vs,rfl,ea,l⟩:=zbK (x:=.l j) s1 hj x1;exact .inl ⟨vs,.of ea,zdn l⟩
  ·cases ek
section
variable {S:Sto} {b:Bool} {i:Int} {ds:List PyData} {k:Nat}
theorem zot:zrs S (.d (.bool b))=some b:=rfl
theorem znO:zrs S (.d (.list ds))=some (!ds.isEmpty):=rfl
end
def zjs:DS:=fun _ _ _=>False
theorem znw:RS zod zjs:=fun h o H δ σ S E D he hs q c=>q.elim
def zsq(K:W.Frag)(tl:TE):TI:=fun σ H R=>tl σ H fun x H1=>∃ a,x=.ref a/\(((∃ xs,SqL K H1 a xs)/\R (Itl K a) H1)\/((∃ xs,SqT K H1 a xs)/\R (Itt K a) H1))
theorem zdW{X:Cx}{tg:Expr}{l:Expr}{tl:TE}(hl:PE X l tl):PI X tg l (zsq X.K tl):=by
 intro zf s σ H R I h;refine thn (hl zf s σ H _ I h) fun v s1 ⟨x,H1,I1,r1,q1⟩=>?_;obtain⟨a,e,⟨⟨xs,hq⟩,q⟩ | ⟨⟨xs,hq⟩,q⟩⟩:=q1
 ·subst e;cases r1;obtain⟨its,rv,p,hz⟩:=I1.list hq;refine wpAny_pyIter_list p.isList ?_;refine⟨s1.heap.objs.size,[s1.heap.objs.size],_,_,H1,rfl,I1.kept (t':=s1.toks) fun b o e=>Heap.get?_push_of_some _ e,zgV a _,⟨_,Heap.get?_push_size _ rfl,rfl,rfl⟩,fun b hb=>?_,q⟩;have e:b=s1.heap.objs.size:=by simpa using hb
  subst e;exact I1.fpOk (Nat.le_refl _) (I1.hok.fresh (Nat.le_refl _))
 ·subst e;cases r1;obtain⟨its,rv,p,hz⟩:=I1.tuple hq;refine wpAny_pyIter_tuple (show s1.heap.IsTuple a its.toArray from p) ?_;refine⟨s1.heap.objs.size,[s1.heap.objs.size],_,_,H1,rfl,I1.kept (t':=s1.toks) fun b o e=>Heap.get?_push_of_some _ e,zjV a _,⟨_,Heap.get?_push_size _ rfl,rfl,rfl⟩,fun b hb=>?_,q⟩;have e:b=s1.heap.objs.size:=by simpa using hb
  subst e;exact I1.fpOk (Nat.le_refl _) (I1.hok.fresh (Nat.le_refl _))
def zol:XV->Option (List PyData)
 | .d (.list ds)=>some ds
 | .d (.tuple ds)=>some ds
 | _=>none
theorem znY{ds:List PyData}:zol (.d (.list ds))=some ds:=rfl
theorem zok{ds:List PyData}:zol (.d (.tuple ds))=some ds:=rfl
def zey(e:DE):DI:=fun δ S R=>e δ S fun x S1=>∃ ds,zol x=some ds/\R ds S1
theorem zdC{K:W.Frag}{te:TE}{de:DE}(he':RE te de):RI (zsq K te) (zey de):=fun h o H δ σ S R Q he hs q c =>
 he' h o H δ σ S _ _ he hs q fun o1 H1 S1 x v e1 s1 x1 ⟨ds,ex,d1⟩=>by
  unfold zol at ex;split at ex
  ·cases ex;obtain⟨a,vs,rfl,ea,l⟩:=zbm.mp (show Has _ _ _ from x1);have hl:=l.length;refine⟨a,rfl,.inl ⟨⟨vs,.of (zR _ _ ea)⟩,c o1 H1 S1 ds _ e1 s1 ⟨fun i o2 H2 e2 hi=>⟨vs,.of (zR _ _ (e2.vx _ _ ea)),by omega⟩,fun i d o2 H2 e2 hi=>?_,fun i d o2 H2 x H3 S2 e2 s2 hi y=>?_⟩ d1⟩⟩
   ·obtain⟨v,ev,_⟩:=l.get hi;exact⟨vs,v,.of (zR _ _ (e2.vx _ _ ea)),ev⟩
   ·obtain⟨v,ev,hv⟩:=l.get hi;have e3:H3=H2:=y.1;subst e3;have ex:=y.2 vs (.of (zR _ _ (e2.vx _ _ ea)));rw [ev] at ex;cases ex;exact⟨Same.refl _,hv.mono e2.vx⟩
  ·cases ex;obtain⟨a,vs,rfl,ea,l⟩:=zas.mp (show Has _ _ _ from x1);have hl:=l.length;refine⟨a,rfl,.inr ⟨⟨vs,.of (zR _ _ ea)⟩,c o1 H1 S1 ds _ e1 s1 ⟨fun i o2 H2 e2 hi=>⟨vs,.of (zR _ _ (e2.vx _ _ ea)),by omega⟩,fun i d o2 H2 e2 hi=>?_,fun i d o2 H2 x H3 S2 e2 s2 hi y=>?_⟩ d1⟩⟩
   ·obtain⟨v,ev,_⟩:=l.get hi;exact⟨vs,v,.of (zR _ _ (e2.vx _ _ ea)),ev⟩
   ·obtain⟨v,ev,hv⟩:=l.get hi;have e3:H3=H2:=y.1;subst e3;have ex:=y.2 vs (.of (zR _ _ (e2.vx _ _ ea)));rw [ev] at ex;cases ex;exact⟨Same.refl _,hv.mono e2.vx⟩
  ·cases ex
end
section
abbrev PN:=List XV->Sto->RX->Prop
def lfN(q:PN):List V->Hp->VK->Prop:=fun vs H Q=>∃ h o S xs R,RepS h o H S/\HasXs h o H xs vs/\q xs S R/\Cn h o H R Q
def spN(ps:List Str)(q:PN):Sp:=fun vs H Q _=>vs.length=ps.length/\lfN q vs H Q
theorem HasXs.len{h o:List Addr}{H:Hp}:∀ {xs:List XV} {vs:List V},HasXs h o H xs vs->vs.length=xs.length
 | [],vs,q=>by rw [show vs=[] from q]; rfl
 | x :: xs,vs,⟨v,r,e,_,l⟩=>by rw [e,List.length_cons,List.length_cons,HasXs.len l]
theorem HasXs.get{h o:List Addr}{H:Hp}:∀ {xs:List XV} {vs:List V} {i:Nat} {x:XV},HasXs h o H xs vs->xs[i]? = some x->∃ v,vs[i]? = some v/\HasX h o H x v
 | [],_,i,_,_,e=>by simp at e
 | y :: xs,vs,0,x,⟨v,r,e1,q,l⟩,e=>by
  rw [List.getElem?_cons_zero] at e;cases e;subst e1;exact⟨v,rfl,q⟩
 | y :: xs,vs,i+1,x,⟨v,r,e1,q,l⟩,e=>by
  subst e1;rw [List.getElem?_cons_succ] at e ⊢;exact HasXs.get l e
theorem zed{h o:List Addr}{H:Hp}{xs:List XV}{vs:List V}{n:Nat}(q:HasXs h o H xs vs):RepE h o H (xs.map some++List.replicate n none) (vs.map some++List.replicate n none):=by
 have hl:=q.len;refine⟨by simp [hl],fun i x e=>?_⟩;by_cases hi:i<xs.length
 ·rw [List.getElem?_append_left (by rw [List.length_map]; exact hi),List.getElem?_map] at e;obtain⟨y,ey,e⟩:=Option.map_eq_some_iff.mp e;cases e;obtain⟨v,ev,hv⟩:=q.get ey;exact⟨v,by rw [List.getElem?_append_left (by rw [List.length_map,hl]; exact hi),List.getElem?_map,ev]; rfl,hv⟩
 ·rw [List.getElem?_append_right (by rw [List.length_map]; omega),List.getElem?_replicate] at e;split at e <;> cases e
section
variable {P:Program} {w:World} {K:W.Frag} {mg:Str->Option Value} {base:Heap} {x:Str} {st:Stmt} {N ps:List Str} {k:Nat}
theorem Df.dN{q:PN}(D:Dd K mg x st ps)(S:FnScope N ps (zk st))(n:Nat)(hn:N.length=ps.length+n)
  (hbody:∀ (f:Addr) (cdv:Value) (A:Around) (outer:List Env) (s:Shared) (H:Hp) (E:XK),Room k (A.deeper (envOfC x (zk st) s.heap.objs.size f cdv)) ->
   ∃ t dt,PSs (zhk CX0 P w K mg base N x (zk st) f cdv A outer s H E).nox (zaQ st) t/\RS t dt/\∀ xs S R,q xs S R->dt (zcG S.length R) (xs.map some++List.replicate n none) S):Df P w K mg base x ps (k+1) (spN ps q):=by
 refine Df.of D S (fun vs H Q E h=>h.1) fun f cdv A outer s H vs Q E hr ⟨hl,h,o,S',xs,R,hs',hx,hq,c⟩=>?_;obtain⟨t,dt,h1,h2,h3⟩:=hbody f cdv A outer s H E hr;refine⟨t,h1,h2 h o H _ _ S' _ _ ?_ hs' (h3 xs S' R hq) (eok hs' c)⟩;have e:N.length - vs.length=n:=by omega
 unfold start;rw [e];exact zed hx
end
section
variable {X:Cx} {x:Str} {ps:List Str} {k j:Nat} {pos pos':Pos} {e:Expr} {es:List Expr} {t:TA}
theorem zv{q:PN}(D:Df X.prog X.w X.K X.mg X.base x ps k (spN ps q))(hr:Room j X.A)(hk:k<=j)(ha:PA X (e :: es) t)(hg:Gl X x:=by rfl)(hdb:(x == ("__debug__":Str))=false:=by decide)
  (q1:starEach (e :: es) X.env=(false,eval e X.env) :: starEach es X.env:=by rfl) (q2:((backTo pos (starEach es X.env)).any fun x=>x.fst)=false:=by rfl):PE X (.Call (.Name x pos') (e :: es) [] pos) (zgT (spN ps q) [] E0 t):=by
 obtain⟨f,fd,F,hm,kp,hb⟩:=D.ex;exact zit (dvs:=[]) (ds:=[]) (E:=E0) F (hr.mono hk) hg hm kp hb .nil pass0 ha hdb q1 q2
end
def zW(m:Nat)(q:PN)(da:DA):DE:=fun δ S R=>da δ S fun xs S1=>∃ ds,datas xs=some ds/\ds.length=m/\q (ds.map XV.d) [] (ret0 S1 R)
theorem hxs0{h o:List Addr}{H:Hp}:∀ {ds:List PyData} {vs:List V},HasXs h o H (ds.map XV.d) vs->HasXs (h++o) [] H (ds.map XV.d) vs
 | [],_,q=>q
 | d :: ds,vs,⟨v,r,e,q,l⟩=>⟨v,r,e,hx0 q,hxs0 l⟩
theorem zu{ps:List Str}{q:PN}{m:Nat}{t:TA}{da:DA}(ha:RA t da)(hm:ps.length=m:=by rfl):RE (zgT (spN ps q) [] E0 t) (zW m q da):=fun h o H δ σ S R Q he hs w c =>
 ha h o H δ σ S _ _ he hs w fun o1 H1 S1 xs vs e1 s1 x1 ⟨ds,e,hl,d1⟩=>by
  have ex:=zbk e;subst ex;have hv:=x1.len;rw [List.append_nil];exact⟨by rw [hv,List.length_map,hl,hm],h++o1,[],[],_,_,rep0 s1,hxs0 x1,d1,cn0 s1 (c.pre e1)⟩
def zay(i m:Nat)(q:PN)(da:DA):DE:=fun δ S R=>da δ S fun xs S1=>∃ k,xs[i]? = some (.l k)/\∃ p,S1[k]? = some p/\∃ ds,datas (xs.set i (.d .none))=some ds/\ds.length=m/\q ((ds.map XV.d).set i (.l 0)) [p] (zru k S1 R)
theorem zso{h o:List Addr}{H:Hp}{k:Nat}{a:Addr}(ea:o[k]? = some a):∀ {xs:List XV} {vs:List V} {ds:List PyData} {i:Nat},HasXs h o H xs vs->xs[i]? = some (.l k)->datas (xs.set i (.d .none))=some ds->HasXs (h++o.filter (fun b=>b≠a)) [a] H ((ds.map XV.d).set i (.l 0)) vs
 | [],_,_,i,_,e,_=>by simp at e
 | x :: xs,vs,ds,0,⟨v,r,e1,q,l⟩,e,ed=>by
  rw [List.getElem?_cons_zero] at e;cases e;rw [List.set_cons_zero] at ed;obtain⟨ds',rfl⟩:∃ ds',ds=.none :: ds':=by
   unfold datas at ed;cases hd:datas xs with
   | none=>rw [hd] at ed; cases ed
   | some y=>rw [hd] at ed; cases ed; exact⟨y,rfl⟩
  have ed':datas xs=some ds':=by
   unfold datas at ed;cases hd:datas xs with
   | none=>rw [hd] at ed; cases ed
   | some y=>rw [hd] at ed; cases ed; rfl
  have ex:=zbk ed';subst ex;obtain⟨b,eb,rfl⟩:=q;rw [ea] at eb;cases eb;exact⟨_,r,e1,⟨a,rfl,rfl⟩,go (ea:=ea) l⟩
 | x :: xs,vs,ds,i+1,⟨v,r,e1,q,l⟩,e,ed=>by
  rw [List.getElem?_cons_succ] at e;rw [List.set_cons_succ] at ed
  match x,q,ed with
  | .d d,q,ed =>
   unfold datas at ed;cases hd:datas (xs.set i (.d .none)) with
   | none=>rw [hd] at ed; cases ed
   | some ds' =>
    rw [hd] at ed;cases ed;exact⟨v,r,e1,hxP ea q,zso ea l e hd⟩
  | .l j,q,ed=>cases ed
  | .o w,q,ed=>cases ed
  | .x _ _,q,ed=>cases ed
where
 go {h o:List Addr} {H:Hp} {k:Nat} {a:Addr} {ea:o[k]? = some a}:∀ {ds:List PyData} {vs:List V},HasXs h o H (ds.map XV.d) vs->HasXs (h++o.filter (fun b=>b≠a)) [a] H (ds.map XV.d) vs
 | [],_,q=>q
 | d :: ds,vs,⟨v,r,e,q,l⟩=>⟨v,r,e,hxP ea q,go (ea:=ea) l⟩
theorem zkq:∀ {xs:List XV} {ds:List PyData},datas xs=some ds->xs.length=ds.length:=fun e=>by
 rw [zbk e,List.length_map]
theorem zai{ps:List Str}{q:PN}{i m:Nat}{t:TA}{da:DA}(ha:RA t da)(hm:ps.length=m:=by rfl):RE (zgT (spN ps q) [] E0 t) (zay i m q da):=fun h o H δ σ S R Q he hs w c =>
 ha h o H δ σ S _ _ he hs w fun o1 H1 S1 xs vs e1 s1 x1 ⟨k,ek,p,ep,ds,e,hl,d1⟩=>by
  have hv:=x1.len;have hd:=zkq e;rw [List.length_set] at hd;obtain⟨v,_,a,ea,_⟩:=x1.get ek;rw [List.append_nil];exact⟨by rw [hv,hd,hl,hm],_,[a],[p],_,_,zro s1 ea ep,zso ea x1 ek e,d1,cnP s1 ea ep (c.pre e1)⟩
end
section
def zqr(K:W.Frag):List V->Hp->VK->Prop:=fun xs H Q=>zrF K xs H Q\/∃ z,xs=[.str z]/\z.length<=sizeLine/\Q (.int z.length) H
theorem zaL{X:Cx}:CallR X (.builtin "len") (zqr X.K):=zek.or zgH
def zrv(S:Sto):XV->Option Nat
 | .d (.tuple ds)=>some ds.length
 | .d (.list ds)=>some ds.length
 | .l k=>(S[k]?).map List.length
 | .d (.str z)=>if z.length<=sizeLine then some z.length else none
 | _=>none
def zdY:List XV->Sto->RX->Prop:=fun xs S R=>arg1 xs fun x=>∃ n,zrv S x=some n/\R (.d (.int n)) S
theorem zbG{K:W.Frag}:RC (zqr K) zdY:=fun h o H S xs vs R Q hs hx q c=>by
 obtain⟨x,rfl,n,hd,q1⟩:=zaC q;unfold zrv at hd;split at hd
 ·cases hd;exact .inl (zkF h o H S _ vs R Q hs hx ⟨_,rfl,q1⟩ c)
 ·cases hd;exact .inl (zkF h o H S _ vs R Q hs hx ⟨_,rfl,q1⟩ c)
 ·rename_i k;cases hk:S[k]? with
  | none=>rw [hk] at hd; cases hd
  | some ds =>
   rw [hk] at hd;cases hd;exact .inl (zkF h o H S _ vs R Q hs hx ⟨ds,hk,q1⟩ c)
 ·split at hd
  ·rename_i hz;cases hd;obtain⟨v,rfl,hx1⟩:=hxs1 hx;exact .inr ⟨_,by rw [zei hx1],hz,c o H S _ _ Ex.refl hs (xI _) q1⟩
  ·cases hd
 ·cases hd
section
variable {S:Sto} {ds:List PyData} {k:Nat} {z:Str}
theorem zon:zrv S (.d (.tuple ds))=some ds.length:=rfl
theorem znX:zrv S (.d (.list ds))=some ds.length:=rfl
end
def zsi(neg:Bool):R2:=fun x y H Q=>∃ d e ds,Has H d x/\Has H e y/\SeqAt.shaped d=true/\SeqAt.shaped (.list ds)=true/\(e=.list ds\/e=.tuple ds)/\Q (.bl (if neg then !ds.any (fun y=>PyData.eqv y d) else ds.any (fun y=>PyData.eqv y d))) H
theorem zfM{ds:List PyData}(h:SeqAt.shaped (.list ds)=true):PyData.canLayAll0 ds=true/\PyData.depthAll ds<=63:=by
 have h1:=SeqAt.canLay_of_shaped h;have h2:=SeqAt.depth_of_shaped h;simp only [PyData.canLay0,PyData.depth] at h1 h2;exact⟨h1,by omega⟩
theorem zqn{X:Cx}(hu:X.A.units+64<cLine):OpR X (compareOp .In) (zsi false):=by
 intro zf s σ H x y v u Q I rx ry h;obtain⟨d,e,ds,hd,he,sd,se,ee,q⟩:=h;obtain⟨s1,s2⟩:=zfM se;obtain⟨as,q1⟩:=Has.reads I d x v hd (SeqAt.canLay_of_shaped sd) rx;have hm:X.A.units+1+min (PyData.depthAll ds) d.depth<cLine:=by
  have:=Nat.min_le_left (PyData.depthAll ds) d.depth;omega
 rcases ee with rfl | rfl
 ·obtain⟨bs,q2⟩:=Has.reads I (.list ds) y u he (by simpa only [PyData.canLay0] using s1) ry;exact SeqAt.in_list_reads q2 q1 s1 (SeqAt.canLay_of_shaped sd) hm ⟨.bl _,H,I,rfl,q⟩
 ·obtain⟨bs,q2⟩:=Has.reads I (.tuple ds) y u he (by simpa only [PyData.canLay0] using s1) ry;exact SeqAt.in_tuple_reads q2 q1 s1 (SeqAt.canLay_of_shaped sd) hm ⟨.bl _,H,I,rfl,q⟩
def zsc:R2:=fun x y H Q=>zsi false x y H Q\/∃ i j,x=.str i/\y=.str j/\Q (.bl (!(Builtin.Str.occurrences j i 0 j.length 1).isEmpty)) H
theorem zql{X:Cx}(hu:X.A.units+64<cLine):OpR X (compareOp .In) zsc:=(zqn hu).or zkJ
def dIn:D2:=fun x y S R=>match y with
 | .d (.str b)=>asS x fun a=>R (.d (.bool (!(Builtin.Str.occurrences b a 0 b.length 1).isEmpty))) S
 | y=>∃ d,zeN S x=some d/\∃ ds,asQ S y=some ds/\SeqAt.shaped d=true/\SeqAt.shaped (.list ds)=true/\R (.d (.bool (ds.any fun y=>PyData.eqv y d))) S
theorem zoS{h o:List Addr}{H:Hp}{S:Sto}{x:XV}{v:V}{ds:List PyData}(hs:RepS h o H S)(e:asQ S x=some ds)(q:HasX h o H x v):∃ e,Has H e v/\(e=.list ds\/e=.tuple ds):=by
 unfold asQ at e;split at e
 ·cases e; exact⟨_,zbv (x:=.d _) hs rfl q,.inr rfl⟩
 ·cases e; exact⟨_,zbv (x:=.d _) hs rfl q,.inl rfl⟩
 ·rename_i k;exact⟨.list ds,zbv (x:=.l k) hs (by show (S[k]?).map PyData.list=_; rw [e]; rfl) q,.inl rfl⟩
 ·cases e
theorem zrI:RO zsc dIn:=fun h o H S x y v u R Q hs hx hy q c=>by
 unfold dIn at q;split at q
 ·replace q:=zox q;obtain⟨a,rfl,q⟩:=q;exact .inr ⟨_,_,zei hx,zei hy,c o H S _ _ Ex.refl hs (xB _) q⟩
 ·obtain⟨d,e1,ds,e2,s1,s2,q⟩:=q;obtain⟨e,he,ee⟩:=zoS hs e2 hy;exact .inl ⟨d,e,ds,zbv hs e1 hx,he,s1,s2,ee,c o H S _ _ Ex.refl hs (xB _) q⟩
section
variable {S:Sto} {ds:List PyData} {k:Nat} {a b:Str} {x:XV} {R:RX}
theorem zqW:dIn x (.d (.list ds)) S R↔∃ d,zeN S x=some d/\SeqAt.shaped d=true/\SeqAt.shaped (.list ds)=true/\R (.d (.bool (ds.any fun y=>PyData.eqv y d))) S:=⟨fun⟨d,e,_,e',q⟩=>by cases e'; exact⟨d,e,q⟩,fun⟨d,e,q⟩=>⟨d,e,_,rfl,q⟩⟩
end
section
variable {X:Cx} {elts:List Expr} {n:Nat} {tpos:Pos}
def zou(K:W.Frag)(ta:TA):TI:=fun σ H R=>ta σ H fun vs H1=>∃ a,vs=[.ref a]/\(((∃ xs,SqT K H1 a xs)/\R (Ite (SqT K) a) H1)\/((∃ xs,SqL K H1 a xs)/\R (Ite (SqL K) a) H1))
theorem znI{a:Expr}{ta:TA}{p pos:Pos}(hg:Gl X "enumerate")(hm:X.mg "enumerate" = none)(ha:PA X [a] ta)(hs:starEach [a] X.env=[(false,eval a X.env)]:=by rfl):PI X (.Tuple elts n tpos) (.Call (.Name "enumerate" p) [a] [] pos) (zou X.K ta):=by
 intro zf s σ H R I h;refine Call_ (zcC I hg hm zff (PyProof.Rows.callWith_type1 (thn (ha pos zf s σ H _ I h) fun us s1 ⟨vs,H1,I1,r1,q1⟩=>?_) hs rfl));obtain⟨b,e,⟨⟨xs,hq⟩,q⟩ | ⟨⟨xs,hq⟩,q⟩⟩:=q1
 ·subst e;cases r1 with
  | cons r rr =>
   cases rr;cases r;obtain⟨its,rv,pl,hz⟩:=I1.tuple hq;refine zf3 (show s1.heap.IsTuple b its.toArray from pl) fun g he hj k=>?_;refine wpAny_pyIter_enum (s:={ s1 with heap:=g }) he ?_
   have I2:Inv X zf σ H1 { s1 with heap:=g }:=I1.kept (t':=s1.toks) k;refine⟨s1.heap.objs.size+1,[s1.heap.objs.size+1,s1.heap.objs.size],_,_,H1,rfl,I2,zkj b _ _ (Nat.succ_ne_self _),⟨⟨_,he⟩,hj⟩,fun c hc=>?_,q⟩;rcases List.mem_cons.mp hc with rfl | hc
   ·exact I1.fpOk (Nat.le_succ _) (I1.hok.fresh (Nat.le_succ _))
   ·rw [List.mem_singleton.mp hc];exact I1.fpOk (Nat.le_refl _) (I1.hok.fresh (Nat.le_refl _))
 ·subst e;cases r1 with
  | cons r rr =>
   cases rr;cases r;obtain⟨its,rv,pl,hz⟩:=I1.list hq;refine call_enumerate_list pl.isList fun g he hj _ k=>?_;refine wpAny_pyIter_enum (s:={ s1 with heap:=g }) he ?_
   have I2:Inv X zf σ H1 { s1 with heap:=g }:=I1.kept (t':=s1.toks) k;refine⟨s1.heap.objs.size+1,[s1.heap.objs.size+1,s1.heap.objs.size],_,_,H1,rfl,I2,zka b _ _ (Nat.succ_ne_self _),⟨⟨_,he⟩,hj⟩,fun c hc=>?_,q⟩;rcases List.mem_cons.mp hc with rfl | hc
   ·exact I1.fpOk (Nat.le_succ _) (I1.hok.fresh (Nat.le_succ _))
   ·rw [List.mem_singleton.mp hc];exact I1.fpOk (Nat.le_refl _) (I1.hok.fresh (Nat.le_refl _))
end
def zge(a:DA):DI:=fun δ S R=>a δ S fun xs S1=>arg1 xs fun x=>∃ ds,zol x=some ds/\R (zgb 0 ds) S1
theorem zns{K:W.Frag}{ta:TA}{da:DA}(ha:RA ta da):RI (zou K ta) (zge da):=fun h o H δ σ S R Q he hs q c =>
 ha h o H δ σ S _ _ he hs q fun o1 H1 S1 xs vs e1 s1 x1 d0=>by
  obtain⟨x,rfl,ds,hd,d1⟩:=zaC d0;obtain⟨v,rfl,hv⟩:=hxs1 x1;have core:∀ {Sq:Hp->Addr->List V->Prop} {a:Addr} {ws:List V},(∀ {o2 H2},ExH h o1 H1 o2 H2->Sq H2 a ws)->HasL (vx h o1 H1) ds ws->WalkX h o1 H1 (Ite Sq a) (zgb 0 ds):=by
   intro Sq a ws ea' l;have hl:=l.length;refine⟨fun i o2 H2 e2 hi=>⟨ws,ea' e2,by rw [zcU] at hi; omega⟩,fun i d o2 H2 e2 hi=>?_,fun i d o2 H2 x H3 S2 e2 s2 hi y=>?_⟩
   ·obtain⟨e,h1,rfl⟩:=zdD ds 0 i d hi;obtain⟨u,eu,_⟩:=l.get h1;exact⟨ws,u,ea' e2,eu⟩
   ·obtain⟨e,h1,rfl⟩:=zdD ds 0 i d hi;obtain⟨u,eu,hu⟩:=l.get h1;obtain⟨p,v,hp,rfl,rfl,hy⟩:=y;have ev:=hy ws (ea' e2);rw [eu] at ev;cases ev;refine⟨Same.laid hp,zas.mpr ⟨p,_,rfl,s2.laid hp,zK.mpr ⟨_,_,rfl,?_,zK.mpr ⟨_,_,rfl,(hu.mono e2.vx).mono (zd3 (Same.laid hp)),zal.mpr rfl⟩⟩⟩⟩;rw [Nat.zero_add];exact zbR.mpr rfl
  unfold zol at hd;split at hd
  ·cases hd;obtain⟨a,ws,rfl,ea,l⟩:=zbm.mp (show Has (vx h o1 H1) (.list ds) v from hv);exact⟨a,rfl,.inr ⟨⟨ws,.of (zR _ _ ea)⟩,c o1 H1 S1 _ _ e1 s1 (core (fun e2=>.of (zR _ _ (e2.vx _ _ ea))) l) d1⟩⟩
  ·cases hd;obtain⟨a,ws,rfl,ea,l⟩:=zas.mp (show Has (vx h o1 H1) (.tuple ds) v from hv);exact⟨a,rfl,.inl ⟨⟨ws,.of (zR _ _ ea)⟩,c o1 H1 S1 _ _ e1 s1 (core (fun e2=>.of (zR _ _ (e2.vx _ _ ea))) l) d1⟩⟩
  ·cases hd
def zsf:XV->List XV->Sto->RX->Prop:=fun x xs S R=>∃ k,x=.l k/\∃ ds,S[k]? = some ds/\xs=[]/\∃ d,ds[ds.length - 1]? = some d/\R (.d d) (S.set k ds.dropLast)
def zlh:V->List V->Hp->VK->Prop:=fun x vs H Q=>∃ (d:PyData) (ds:List PyData) (j:Nat),Has H (.list ds) x/\(∃ v,vs=[v]/\Has H d v)/\SeqAt.shaped d=true/\SeqAt.shaped (.list ds)=true/\ds.length<=1000/\(∃ e,ds[j]? = some e/\PyData.eqv e d=true)/\(∀ m e,m<j->ds[m]? = some e->PyData.eqv e d=false)/\Q (.int j) H
theorem zk3{X:Cx}(hu:X.A.units+64<cLine):MtR X "list.index" zlh:=by
 intro zf s σ H x vs v us Q I rx rv h;obtain⟨d,ds,j,hl,⟨y,rfl,hy⟩,sd,se,h1000,⟨e,ej,he⟩,hno,q⟩:=h;obtain⟨s1,s2⟩:=zfM se;obtain⟨u,rfl,r1⟩:=rv.one;obtain⟨as,q1⟩:=Has.reads I d y u hy (SeqAt.canLay_of_shaped sd) r1;obtain⟨bs,q2⟩:=Has.reads I (.list ds) x v hl (by simpa only [PyData.canLay0] using s1) rx;have hm:X.A.units+1+min (PyData.depthAll ds) d.depth<cLine:=by
  have:=Nat.min_le_left (PyData.depthAll ds) d.depth;omega
 cases q2 with
 | @list l o vs n xs as₁ h1 h2 h3 h4 =>
  have hn:vs.size=ds.length:=by simpa using SeqAt.ReadsAll.length _ _ _ h4
  have hmap:=SeqAt.readsAll_map _ _ _ s1 h4;have hget:∀ (m:Nat) (hm:m<vs.size) e,ds[m]? = some e->SeqAt.readOf s.heap vs[m]=e:=fun m hm e h=>by
   rw [<- hmap,List.getElem?_map] at h;have:vs.toList[m]? = some vs[m]:=by simp [hm]
   rw [this] at h;exact Option.some.inj h
  have hj:j<vs.size:=by rw [hn]; exact(List.getElem?_eq_some_iff.mp ej).1
  obtain⟨cls,dd,data,sl⟩:=o;simp only at h2 h3;subst h2 h3;refine call_meets PySem.F.slot_list_index ⟨_,h1,rfl⟩ PySem.F.entry_list_index (PySem.F.args_list_index_2 _ _)
   (SeqAt.list_indexAt l vs n dd sl u (fun y=>PyData.eqv (SeqAt.readOf s.heap y) d) j hj (by omega) ?_ ?_) ⟨h1,SeqAt.items_eqAt h4 q1 s1 (SeqAt.canLay_of_shaped sd) hm,⟨.int j,H,I.tok _,⟨_,rfl⟩,q⟩⟩
  ·show PyData.eqv (SeqAt.readOf s.heap vs[j]) d=true;rw [hget j hj e ej]; exact he
  ·intro m hm hlt;show PyData.eqv (SeqAt.readOf s.heap vs[m]) d=false;have em:ds[m]? = some ds[m]:=List.getElem?_eq_getElem (by omega);rw [hget m hm _ em]; exact hno m _ hlt em
def zje:XV->List XV->Sto->RX->Prop:=fun x xs S R=>arg1 xs fun y=>∃ d,zeN S y=some d/\∃ ds,zjj S x=some ds/\SeqAt.shaped d=true/\SeqAt.shaped (.list ds)=true/\ds.length<=1000/\∃ j,(∃ e,ds[j]? = some e/\PyData.eqv e d=true)/\(∀ m e,m<j->ds[m]? = some e->PyData.eqv e d=false)/\R (.d (.int (j:Nat))) S
theorem zmb:RM zlh zje:=fun h o H S x v xs vs R Q hs hx hxs q c=>by
 obtain⟨y,rfl,d,e1,ds,e2,s1,s2,h1,j,h2,h3,q1⟩:=zaC q;obtain⟨u,rfl,hu⟩:=hxs1 hxs;have hl:Has H (.list ds) v:=zbv (x:=x) hs (by
  unfold zjj at e2;split at e2
  ·cases e2; rfl
  ·rename_i k; show (S[k]?).map PyData.list=_; rw [e2]; rfl
  ·cases e2) hx
 exact⟨d,ds,j,hl,⟨u,rfl,zbv hs e1 hu⟩,s1,s2,h1,h2,h3,c o H S _ _ Ex.refl hs (xI _) q1⟩
def zqI(rd:XV->List XV->Sto->RX->Prop)(e:DE)(a:DA):DE:=fun δ S R=>e δ S fun x S1=>∃ ds,zjj S1 x=some ds/\a δ S1 fun xs S2=>rd x xs S2 R
theorem zof{K:W.Frag}{r:V->List V->Hp->VK->Prop}{rd:XV->List XV->Sto->RX->Prop}{te:TE}{de:DE}{tl:TA}{dl:DA}(hr:RM r rd)(he':RE te de)(ha:RA tl dl):RE (tBM K "list" r te tl) (zqI rd de dl):=fun h o H δ σ S R Q he hs q c =>
 he' h o H δ σ S _ _ he hs q fun o1 H1 S1 x v e1 s1 x1 ⟨ds,ez,d1⟩=>by
  obtain⟨a,ws,rfl,ea,_⟩:=zbK s1 ez x1;exact⟨ziT ea,ha h o1 H1 δ σ S1 _ _ (he.mono e1) s1 d1 fun o2 H2 S2 xs vs e2 s2 x2 d2=>hr h o2 H2 S2 x _ xs vs R Q s2 (x1.mono e2) x2 d2 (c.pre (e1.trans e2))⟩
abbrev zsB (a:Addr) (m:Nat):DEnds:={ nx:=fun δ _=>δ[0]? = some (some (.o (.ref a)))/\δ.length=m+1,ct:=fun δ _=>δ[0]? = some (some (.o (.ref a)))/\δ.length=m+1,rt:=fun _ _=>False }
abbrev zr6 (a:Addr) (m:Nat):DEnds:={ nx:=fun δ _=>δ[0]? = some (some (.o (.ref a)))/\δ.length=m+1,rt:=fun _ _=>False }
section
variable {a:Addr} {m:Nat} {t1 t2 t3 t4 u:TS} {dt:DS} {D:Ends} {σ:St} {H:Hp}
theorem zpl(ht:RS (ziz t1 t2) dt)(h0:σ[0]? = some (some (.ref a)))(hl:σ.length=m+1)(go:dt (zr6 a m) (some (.o (.ref a)) :: List.replicate m none) [])
  (next:∀ (σ:St) (H1:Hp),σ[0]? = some (some (.ref a))->σ.length=m+1->Same H H1->u D σ H1):ziz t1 (ziz t2 u) D σ H:=zrT (t:=ziz t1 t2) ht h0 hl go next
end
end
section
open Sem (wp)
def zsk:List PyData->List PyData->List PyData
 | d :: ds,e :: es=>.tuple [d,e] :: zsk ds es
 | _,_=>[]
def zn2(a:DA):DI:=fun δ S R=>a δ S fun xs S1=>arg2 xs fun x y=>∃ ds,zol x=some ds/\∃ es,zol y=some es/\R (zsk ds es) S1
end
section
open Sem (wp)
section
variable {prog:Program} {w:World} {A:Around} {R:Result->Shared->Prop} {I:Addr} {fp wr:List Addr} {n:Nat} {P:Nat->Value->Prop} {St:Nat->Heap->Prop}
def CmpH(prog:Program)(w:World)(A:Around)(g:Heap)(own:List Addr)(P:Nat->Value->Prop)(bt:Nat->Nat->Bool):Prop :=
 ∀ i j x y (s:Shared) (Q:Value->Shared->Prop) (E:Value->Shared->Prop),(∀ b o,b∉own->g.get? b=some o->s.heap.get? b=some o)->P i x->P j y->Q (.bool (bt i j)) s->wpAny (model prog w) A (richCompare .Lt x y) Q E s
end
theorem ze0{ns:Nat->List Int}(tr:∀ a b c:List Int,HT.lexLt a b=false->HT.lexLt b c=false->HT.lexLt a c=false)(as:∀ a b:List Int,HT.lexLt a b=true->HT.lexLt b a=false):∀ k,argBest (fun i j=>HT.lexLt (ns i) (ns j)) k<=k/\∀ j,j<=k->HT.lexLt (ns j) (ns (argBest (fun i j=>HT.lexLt (ns i) (ns j)) k))=false
 | 0=>⟨Nat.le_refl _,fun j hj=>by
   have:j=0:=by omega
   subst this;show HT.lexLt (ns 0) (ns 0)=false;cases h:HT.lexLt (ns 0) (ns 0) with
   | false=>rfl
   | true=>have:=as _ _ h; rw [h] at this; cases this⟩
 | k+1=>by
  obtain⟨h1,h2⟩:=ze0 tr as (ns:=ns) k;simp only [argBest];by_cases hb:HT.lexLt (ns (k+1)) (ns (argBest (fun i j=>HT.lexLt (ns i) (ns j)) k))=true
  ·rw [if_pos hb];refine⟨Nat.le_refl _,fun j hj=>?_⟩;by_cases e:j=k+1
   ·subst e;cases h:HT.lexLt (ns (k+1)) (ns (k+1)) with
    | false=>rfl
    | true=>have:=as _ _ h; rw [h] at this; cases this
   ·exact tr _ _ _ (h2 j (by omega)) (as _ _ hb)
  ·rw [if_neg hb];refine⟨by omega,fun j hj=>?_⟩;by_cases e:j=k+1
   ·subst e; exact Bool.eq_false_iff.mpr hb
   ·exact h2 j (by omega)
theorem ziK:∀ a b:List Int,HT.lexLt a b=true->HT.lexLt b a=false
 | [],[],h=>by cases h
 | [],y :: ys,_=>rfl
 | x :: xs,[],h=>by cases h
 | x :: xs,y :: ys,h=>by
  rw [HT.lexLt_cons] at h ⊢;by_cases e:x=y
  ·subst e;rw [if_pos rfl] at h ⊢;exact ziK xs ys h
  ·rw [if_neg e] at h;rw [if_neg (Ne.symm e)];simp only [decide_eq_true_eq] at h;simp only [decide_eq_false_iff_not];omega
theorem lex_ntrans:∀ a b c:List Int,HT.lexLt a b=false->HT.lexLt b c=false->HT.lexLt a c=false
 | _,_,[],_,_=>by rename_i a b _ _; cases a <;> rfl
 | [],[],z :: zs,_,h=>by cases h
 | [],y :: ys,z :: zs,h,_=>by cases h
 | x :: xs,[],z :: zs,_,h=>by cases h
 | x :: xs,y :: ys,z :: zs,h,k=>by
  rw [HT.lexLt_cons] at h k ⊢;by_cases e:x=y
  ·subst e;rw [if_pos rfl] at h;by_cases e2:x=z
   ·subst e2;rw [if_pos rfl] at k ⊢;exact lex_ntrans xs ys zs h k
   ·rw [if_neg e2] at k ⊢;exact k
  ·rw [if_neg e] at h;by_cases e2:y=z
   ·subst e2;rw [if_neg e];exact h
   ·rw [if_neg e2] at k;simp only [decide_eq_false_iff_not] at h k;rw [if_neg (by omega)];simp only [decide_eq_false_iff_not];omega
def zpJ(ns:List Int):PyData:=.tuple (ns.map PyData.int)
theorem zpx:RE (zrC zkv) (dC (.dict [])):=fun h o H δ σ S R Q he hs q c p hp=>⟨p,[],rfl,zH,fun ob=>by
 have e:upd (upd H p (.dK [])) p (.frz ob (.dK []))=upd H p (.frz ob (.dK [])):=zia;rw [e];refine c o _ S (.d (.dict [])) _ (Ex.of_same (Same.laid hp)) (hs.same (Same.laid hp)) ?_ q;show Has _ _ _;simp only [Has];exact⟨p,[],rfl,⟨ob,[],hs.laid hp,rfl,rfl⟩,zjl.mpr rfl⟩⟩
section
variable {S:Sto} {P:Sto->List PyData->Prop} {a b c d:List PyData} {x:List PyData}
theorem zhU{S0:Sto}:(∃ T ds,S0++[x]=T++[ds]/\P T ds)↔P S0 x:=by
 constructor
 ·rintro⟨T,ds,e,q⟩;obtain⟨rfl,e2⟩:=List.append_inj' e rfl;cases e2;exact q
 ·exact fun q=>⟨S0,x,rfl,q⟩
theorem ziH:(∃ T ds,[a]=T++[ds]/\P T ds)↔P [] a:=zhU (S0:=[])
end
section
variable {α:Type} {n:Nat} {g:DG} {tt:DT} {te:DE} {fin:Sto->Prop} {S0:Sto} {caps:XE}
theorem zp9{h:α->PyData}{f:α->PyData}(P:XE->Prop)(hn:S0.length=n)(l:List α)(τ:XE)(hP:P τ)(hl:l.length<=1000)
  (el:∀ x∈l,∀ τ acc (R:XE->RX),P τ->(∀ τ',P τ'->R τ' (.d (f x)) (S0++[acc]))->g (.d (h x)) τ (S0++[acc]) fun τ1 S1=>te τ1 S1 (R τ1)) (hf:fin (S0++[l.map f])):zev n g zby te fin (l.map h) τ (S0++[[]]):=by
 have go:∀ (l:List α) (acc:List PyData) (τ:XE),P τ->acc.length+l.length<=1000->(∀ x∈l,∀ τ acc (R:XE->RX),P τ->(∀ τ',P τ'->R τ' (.d (f x)) (S0++[acc]))->g (.d (h x)) τ (S0++[acc]) fun τ1 S1=>te τ1 S1 (R τ1)) ->
   fin (S0++[acc++l.map f])->zev n g zby te fin (l.map h) τ (S0++[acc]):=by
  intro l;induction l with
  | nil=>intro acc τ _ _ _ h; rw [List.map_nil,List.append_nil] at h; exact h
  | cons x l ih =>
   intro acc τ hP hl el hh;show g (.d (h x)) τ (S0++[acc]) fun τ1 S1=>zby τ1 S1 fun b S2=>if b=true then te τ1 S2 fun x S3=>asD x fun e=>∃ acc,S3[n]? = some acc/\acc.length<1000/\zev n g zby te fin (l.map h) τ1 (S3.set n (acc++[e])) else zev n g zby te fin (l.map h) τ1 S2
   simp only [zby,↓reduceIte];rw [List.length_cons] at hl;refine el x List.mem_cons_self τ acc (fun τ1 x S3=>asD x fun e=>∃ acc,S3[n]? = some acc/\acc.length<1000/\zev n g zby te fin (l.map h) τ1 (S3.set n (acc++[e]))) hP fun τ' hP'=>?_;refine⟨acc,by rw [<- hn,List.getElem?_concat_length],by omega,?_⟩;rw [zjq hn];refine ih (acc++[f x]) τ' hP' (by rw [List.length_append,List.length_singleton]; omega) (fun e m=>el e (List.mem_cons_of_mem _ m)) ?_;rw [List.append_assoc];exact hh
 exact go l [] τ hP (by simpa using hl) el (by simpa using hf)
theorem cmp1{h:α->PyData}(f:α->PyData)(hn:S0.length=n)(l:List α){u:Option XV}(hl:l.length<=1000)
  (el:∀ x∈l,∀ (u:Option XV) acc (R:XE->RX),(∀ u',R (u' :: caps) (.d (f x)) (S0++[acc]))->g (.d (h x)) (u :: caps) (S0++[acc]) fun τ1 S1=>te τ1 S1 (R τ1)) (hf:fin (S0++[l.map f])):zev n g zby te fin (l.map h) (u :: caps) (S0++[[]]) :=
 zp9 (fun τ=>∃ u,τ=u :: caps) hn l _ ⟨u,rfl⟩ hl (fun x m τ acc R ⟨u,e⟩ k=>by subst e; exact el x m u acc R fun u'=>k _ ⟨u',rfl⟩) hf
theorem znS{h:α->PyData}{f:α->PyData}{p:α->Bool}(P:XE->Prop)(hn:S0.length=n)(l:List α)(τ:XE)(hP:P τ)(hl:l.length<=1000)
  (el:∀ x∈l,∀ τ acc (R:XE->Bool->Sto->Prop),P τ->(∀ τ',P τ'->(p x=true->∀ T:RX,T (.d (f x)) (S0++[acc])->te τ' (S0++[acc]) T)->R τ' (p x) (S0++[acc]))->g (.d (h x)) τ (S0++[acc]) fun τ1 S1=>tt τ1 S1 (R τ1))
  (hf:fin (S0++[(l.filter p).map f])):zev n g tt te fin (l.map h) τ (S0++[[]]):=by
 have go:∀ (l:List α) (acc:List PyData) (τ:XE),P τ->acc.length+l.length<=1000->(∀ x∈l,∀ τ acc (R:XE->Bool->Sto->Prop),P τ->(∀ τ',P τ'->(p x=true->∀ T:RX,T (.d (f x)) (S0++[acc])->te τ' (S0++[acc]) T)->R τ' (p x) (S0++[acc]))->g (.d (h x)) τ (S0++[acc]) fun τ1 S1=>tt τ1 S1 (R τ1)) ->
   fin (S0++[acc++(l.filter p).map f])->zev n g tt te fin (l.map h) τ (S0++[acc]):=by
  intro l;induction l with
  | nil=>intro acc τ _ _ _ h; rw [List.filter_nil,List.map_nil,List.append_nil] at h; exact h
  | cons x l ih =>
   intro acc τ hP hl el hh;show g (.d (h x)) τ (S0++[acc]) fun τ1 S1=>tt τ1 S1 fun b S2=>if b=true then te τ1 S2 fun x S3=>asD x fun e=>∃ acc,S3[n]? = some acc/\acc.length<1000/\zev n g tt te fin (l.map h) τ1 (S3.set n (acc++[e])) else zev n g tt te fin (l.map h) τ1 S2
   rw [List.length_cons] at hl;refine el x List.mem_cons_self τ acc (fun τ1 b S2=>if b=true then te τ1 S2 fun x S3=>asD x fun e=>∃ acc,S3[n]? = some acc/\acc.length<1000/\zev n g tt te fin (l.map h) τ1 (S3.set n (acc++[e])) else zev n g tt te fin (l.map h) τ1 S2) hP fun τ' hP' ev=>?_;cases hp:p x with
   | false =>
    rw [List.filter_cons_of_neg (by rw [hp]; exact Bool.false_ne_true)] at hh;exact zkU (ih acc τ' hP' (by omega) (fun e m=>el e (List.mem_cons_of_mem _ m)) hh)
   | true =>
    rw [List.filter_cons_of_pos hp,List.map_cons] at hh;refine zlu (ev hp _ ⟨acc,by rw [<- hn,List.getElem?_concat_length],by omega,?_⟩);rw [zjq hn];exact ih (acc++[f x]) τ' hP' (by rw [List.length_append,List.length_singleton]; omega) (fun e m=>el e (List.mem_cons_of_mem _ m)) (by rw [List.append_assoc]; exact hh)
 exact go l [] τ hP (by simpa using hl) el (by simpa using hf)
theorem cmf1{h:α->PyData}(f:α->PyData)(p:α->Bool)(hn:S0.length=n)(l:List α){u:Option XV}(hl:l.length<=1000)
  (el:∀ x∈l,∀ (u:Option XV) acc (R:XE->Bool->Sto->Prop),(∀ u',(p x=true->∀ T:RX,T (.d (f x)) (S0++[acc])->te (u' :: caps) (S0++[acc]) T)->R (u' :: caps) (p x) (S0++[acc]))->g (.d (h x)) (u :: caps) (S0++[acc]) fun τ1 S1=>tt τ1 S1 (R τ1)) (hf:fin (S0++[(l.filter p).map f])):zev n g tt te fin (l.map h) (u :: caps) (S0++[[]]) :=
 znS (fun τ=>∃ u,τ=u :: caps) hn l _ ⟨u,rfl⟩ hl (fun x m τ acc R ⟨u,e⟩ k=>by subst e; exact el x m u acc R fun u' hh=>k _ ⟨u',rfl⟩ hh) hf
theorem cmf2{h:α->PyData}(f:α->PyData)(p:α->Bool)(hn:S0.length=n)(l:List α){u v:Option XV}(hl:l.length<=1000)
  (el:∀ x∈l,∀ (u v:Option XV) acc (R:XE->Bool->Sto->Prop),(∀ u' v',(p x=true->∀ T:RX,T (.d (f x)) (S0++[acc])->te (u' :: v' :: caps) (S0++[acc]) T)->R (u' :: v' :: caps) (p x) (S0++[acc]))->g (.d (h x)) (u :: v :: caps) (S0++[acc]) fun τ1 S1=>tt τ1 S1 (R τ1)) (hf:fin (S0++[(l.filter p).map f])):zev n g tt te fin (l.map h) (u :: v :: caps) (S0++[[]]) :=
 znS (fun τ=>∃ u v,τ=u :: v :: caps) hn l _ ⟨u,v,rfl⟩ hl (fun x m τ acc R ⟨u,v,e⟩ k=>by subst e; exact el x m u v acc R fun u' v' hh=>k _ ⟨u',v',rfl⟩ hh) hf
end
end
section
@[irreducible] def QSs (X:Cx) (st:List Stmt) (t:TS):Prop:=PSs X st t
theorem QSs.out{X:Cx}{st:List Stmt}{t:TS}(h:QSs X st t):PSs X st t:=by unfold QSs at h; exact h
@[irreducible] def QA (X:Cx) (es:List Expr) (t:TA):Prop:=PA X es t
theorem QA.out{X:Cx}{es:List Expr}{t:TA}(h:QA X es t):PA X es t:=by unfold QA at h; exact h
theorem QA.mk{X:Cx}{es:List Expr}{t:TA}(h:PA X es t):QA X es t:=by unfold QA; exact h
theorem zk6{X:Cx}:QA X [] zpF:=QA.mk zh
theorem zaB{X:Cx}{e:Expr}{es:List Expr}{te:TE}{t:TA}(ha:PE X e te)(hr:QA X es t)(hs:starEach (e :: es) X.env=(false,eval e X.env) :: starEach es X.env:=by rfl):QA X (e :: es) (zjF te t):=QA.mk (zc ha hr.out hs)
theorem zh7{X:Cx}{es:List Expr}{t:TA}{pos:Pos}(h:QA X es t):PE X (.List es pos) (zpH t):=zcN h.out
@[irreducible] def QS (X:Cx) (st:Stmt) (t:TS):Prop:=PS X st t
theorem QS.out{X:Cx}{st:Stmt}{t:TS}(h:QS X st t):PS X st t:=by unfold QS at h; exact h
end
end L2
namespace HT
open PySem PyProof.Rows
end HT
namespace L2
open PySem PySem.Spec PyProof.Rows
section
def zr5:D3:=fun x i j S R=>asT x fun ds=>R (.d (.tuple (zsy ds i j))) S
end
section
def zrc:R2:=fun x y H Q=>∃ a b,x=.bl a/\y=.bl b/\Q (.bl (!decide (a=b))) H
theorem zpm{X:Cx}:OpR X (compareOp .IsNot) zrc:=by
 intro zf s σ H x y v u Q I rx ry h;obtain⟨a,b,rfl,rfl,q⟩:=h;cases rx;cases ry;exact wpAny_isNot_plain (by cases a <;> cases b <;> rfl) (zju I q (by cases a <;> cases b <;> rfl))
def zmX:D2:=fun x y S R=>asB x fun a=>asB y fun b=>R (.d (.bool (!decide (a=b)))) S
theorem zpo:RO zrc zmX:=fun h o H S x y v u R Q hs hx hy q c=>by
 replace q:=zfD q;obtain⟨a,rfl,q⟩:=q;replace q:=zfD q;obtain⟨b,rfl,q⟩:=q;exact⟨a,b,zcl hx,zcl hy,c o H S _ _ Ex.refl hs (xB _) q⟩
end
section
@[irreducible] def QE (X:Cx) (e:Expr) (t:TE):Prop:=PE X e t
theorem QE.out{X:Cx}{e:Expr}{t:TE}(h:QE X e t):PE X e t:=by unfold QE at h; exact h
end
end L2
namespace L2
open PySem PySem.Spec PySem.Calls PyProof.Rows PySem.W
section
variable {prog:Program} {w:World} {A:Around} {E:Value->Shared->Prop} {s:Shared}
def KeptBut(a:Addr)(h h':Heap):Prop:=∀ b o,b≠a->h.get? b=some o->h'.get? b=some o
end
end L2
namespace L2
open PySem PySem.Spec PyProof.Rows
section
open Sem (wp)
abbrev IsT (h:Heap) (T:Addr) (xs:Array Value):Prop:=h.get? T=some { cls:=.type "tuple",data:=.seq xs }
end
section
open Sem (wp)
namespace F4
end F4
end
section
structure Bel(xs:Array Nat)(j r:Nat):Prop where
 le:r<=xs.size
 lo:∀ i x,i<r->xs[i]? = some x->x<j
 hi:∀ i x,r<=i->xs[i]? = some x->j<=x
abbrev Rise (xs:Array Nat):Prop:=xs.toList.Pairwise (· < ·)
theorem Rise.at{xs:Array Nat}(h:Rise xs){i k x y:Nat}(ik:i<k)(ei:xs[i]? = some x)(ek:xs[k]? = some y):x<y:=by
 rw [<- Array.getElem?_toList] at ei ek;obtain⟨hi,rfl⟩:=List.getElem?_eq_some_iff.mp ei;obtain⟨hk,rfl⟩:=List.getElem?_eq_some_iff.mp ek;exact List.pairwise_iff_getElem.mp h i k hi hk ik
theorem zmq{xs:Array Nat}{j:Nat}(h:Rise xs):∀ (fuel lo hi:Nat),lo<=hi->hi<=xs.size->hi - lo<=fuel->(∀ i x,i<lo->xs[i]? = some x->x<j)->(∀ i x,hi<=i->xs[i]? = some x->j<=x)->Bel xs j (SetTable.below.go xs j fuel lo hi)
 | 0,lo,hi,l1,l2,l3,a,b=>by
  unfold SetTable.below.go;have:hi=lo:=by omega
  subst this;exact⟨l2,a,b⟩
 | fuel+1,lo,hi,l1,l2,l3,a,b=>by
  unfold SetTable.below.go;by_cases h1:lo<hi
  ·rw [if_pos h1];have hm:(lo+hi) / 2<xs.size:=by omega
   have em:xs[(lo+hi) / 2]? = some xs[(lo+hi) / 2]:=Array.getElem?_eq_getElem hm;have eg:xs.getD ((lo+hi) / 2) j=xs[(lo+hi) / 2]:=by simp [Array.getD,hm]
   dsimp only;rw [eg];by_cases h2:xs[(lo+hi) / 2]<j
   ·rw [if_pos h2];refine zmq h fuel _ _ (by omega) l2 (by omega) (fun i x hi' e=>?_) b;by_cases h3:i=(lo+hi) / 2
    ·subst h3;rw [em] at e;cases e;exact h2
    ·exact Nat.lt_trans (h.at (by omega) e em) h2
   ·rw [if_neg h2];refine zmq h fuel _ _ (by omega) (by omega) (by omega) a fun i x hi' e=>?_;by_cases h3:i=(lo+hi) / 2
    ·subst h3;rw [em] at e;cases e;omega
    ·have:=h.at (show (lo+hi) / 2<i by omega) em e;omega
  ·rw [if_neg h1];have:hi=lo:=by omega
   subst this;exact⟨l2,a,b⟩
theorem bel{xs:Array Nat}{j:Nat}(h:Rise xs):Bel xs j (SetTable.below xs j):=by
 unfold SetTable.below;refine zmq h _ _ _ (Nat.zero_le _) (Nat.le_refl _) (by omega) (fun i x z=>absurd z (Nat.not_lt_zero _)) fun i x z e=>?_;have:=(Array.getElem?_eq_some_iff.mp e).1;omega
theorem zlM{xs:Array Nat}{j r q:Nat}(a:Bel xs j r)(b:Bel xs j q):r=q:=by
 rcases Nat.lt_trichotomy r q with h | h | h
 ·have hs:r<xs.size:=by have:=b.le; omega
  have e:=Array.getElem?_eq_getElem hs;have:=a.hi r _ (Nat.le_refl _) e;have:=b.lo r _ h e;omega
 ·exact h
 ·have hs:q<xs.size:=by have:=a.le; omega
  have e:=Array.getElem?_eq_getElem hs;have:=b.hi q _ (Nat.le_refl _) e;have:=a.lo q _ h e;omega
theorem zni{xs:Array Nat}{j:Nat}(h:Rise xs)(hn:xs[SetTable.below xs j]? ≠ some j):Rise (SetTable.insertAt xs (SetTable.below xs j) j):=by
 have b:=bel (j:=j) h;generalize SetTable.below xs j=r at b hn;unfold Rise;rw [SetTable.toList_insertAt];have h1:∀ x∈xs.toList.take r,x<j:=fun x m=>by
  obtain⟨i,hi⟩:=List.mem_iff_getElem?.mp m;have il:i<r:=by
   have:=(List.getElem?_eq_some_iff.mp hi).1;rw [List.length_take] at this;omega
  rw [List.getElem?_take,if_pos il,Array.getElem?_toList] at hi;exact b.lo i x il hi
 have h2:∀ x∈xs.toList.drop r,j<x:=fun x m=>by
  obtain⟨i,hi⟩:=List.mem_iff_getElem?.mp m;rw [List.getElem?_drop,Array.getElem?_toList] at hi;have le:=b.hi (r+i) x (by omega) hi;rcases Nat.eq_or_lt_of_le le with e | l
  ·exfalso;subst e;cases i with
   | zero=>exact hn hi
   | succ i =>
    have hs:r<xs.size:=by have:=(Array.getElem?_eq_some_iff.mp hi).1; omega
    have e:=Array.getElem?_eq_getElem hs;have:=b.hi r _ (Nat.le_refl _) e;have:=h.at (show r<r+(i+1) by omega) e hi;omega
  ·exact l
 refine List.pairwise_append.mpr ⟨List.Pairwise.sublist (List.take_sublist _ _) h,List.pairwise_cons.mpr ⟨h2,List.Pairwise.sublist (List.drop_sublist _ _) h⟩,fun x mx y my=>?_⟩;rcases List.mem_cons.mp my with rfl | my
 ·exact h1 x mx
 ·exact Nat.lt_trans (h1 x mx) (h2 y my)
theorem zgD{t:SetTable}(hd:t.dummies = #[])(j:Nat):t.slot j≠.dummy:=by
 unfold SetTable.slot;dsimp only;split
 ·simp
 ·rw [hd];simp [SetTable.has]
theorem zjH{t:SetTable}{j:Nat}(h:t.slot j=.empty):t.place[SetTable.below t.place j]? ≠ some j:=by
 unfold SetTable.slot at h;dsimp only at h;intro e;rw [e] at h;simp at h
theorem zeS{t:SetTable}{f:Nat->Int}{h:Int}(hd:t.dummies = #[]):∀ (fuel:Nat) (p:SetTable.Probe) (j:Nat) (d:Option Nat),SetTable.probe.go t f h fuel p=some (.empty j d)->t.slot j=.empty/\d=p.dummy
 | 0,p,j,d,e=>by simp [SetTable.probe.go] at e
 | fuel+1,p,j,d,e=>by
  unfold SetTable.probe.go at e;split at e
  ·rename_i hs;cases e;exact⟨hs,rfl⟩
  ·rename_i hs;exact absurd hs (zgD hd _)
  ·split at e
   ·cases e
   ·have:=zeS hd fuel _ j d e;refine⟨this.1,this.2.trans ?_⟩;unfold SetTable.advance;split <;> rfl
structure Tab(led:Bool)(t:SetTable)(n:Nat):Prop where
 fits:t.fits n=true
 rise:Rise t.place
 dum:t.dummies = #[]
 led:t.led=led
theorem zkm(n:Nat):Rise (Array.range n):=by
 unfold Rise;rw [Array.toList_range];exact List.pairwise_lt_range
theorem zcr{led:Bool}{t:SetTable}(n:Nat)(h:t.led=led):Tab led (t.standIn n) n :=
 ⟨SetTable.standIn_fits t n,zkm n,rfl,h⟩
theorem ze3(led:Bool):Tab led (SetTable.fresh 0 0 led) 0:=⟨rfl,List.Pairwise.nil,rfl,rfl⟩
theorem zkk{led:Bool}{t:SetTable}{es:Array (Int×Value)}(h:Tab led t es.size)(hs:Int)(x:Value):Tab led (layNew t es hs x).2.1 (layNew t es hs x).1.size:=by
 unfold layNew;split
 ·rename_i slot wd hf;unfold SetTable.freeSlot at hf;split at hf
  ·rename_i j d hp;cases hf;obtain⟨e1,e2⟩:=zeS h.dum _ _ _ _ hp;have e3:d=none:=e2;subst e3;dsimp only [Option.getD];have hr:=zni h.rise (zjH e1);unfold SetTable.orStandIn;split
   ·rename_i hfit;refine⟨hfit,hr,?_,h.led⟩;show (if SetTable.has t.dummies j=true then _ else t.dummies) = #[];rw [h.dum];rfl
   ·exact zcr _ h.led
  ·cases hf
 ·have:=zcr (led:=led) (t:=t) (es.size+1) h.led;simpa using this
theorem zlJ{led:Bool}{t:SetTable}{es:Array (Int×Value)}(h:t.led=led)(wanted:Nat):Tab led (relayAll t es wanted).2.1 (relayAll t es wanted).1.size:=by
 have hf:=relayAll_fits t es wanted;unfold relayAll at hf ⊢;split
 ·rename_i t' order hl;rw [hl] at hf;dsimp only at hf ⊢;split
  ·rename_i hc;rw [if_pos hc] at hf;unfold SetTable.relaid SetTable.laid at hl;simp only [Option.bind_eq_bind,Option.bind_eq_some_iff,Option.pure_def,Option.some.injEq,Prod.mk.injEq] at hl;obtain⟨owner,_,rfl,_⟩:=hl;refine⟨hf,?_,rfl,h⟩;unfold Rise;dsimp only;rw [List.pairwise_map,List.pairwise_filterMap];refine List.Pairwise.imp (fun {a b} ab x ex y ey=>?_) List.pairwise_lt_range;obtain⟨_,_,rfl⟩:=Option.map_eq_some_iff.mp ex;obtain⟨_,_,rfl⟩:=Option.map_eq_some_iff.mp ey;exact ab
  ·exact zcr _ h
 ·exact zcr _ h
end
section
def kE(e:Int×Value):Int:=match e.2 with
 | .int n _=>n
 | _=>0
def OkE(e:Int×Value):Prop:=∃ n t,e.2=.int n t/\e.1=hashInt n
theorem zrh{e:Int×Value}{n:Int}{t:Tok}(h:e.2=.int n t):kE e=n:=by
 unfold kE;rw [h]
def SetI(led:Bool)(h:Heap)(a:Addr)(es:Array (Int×Value)):Prop:=∃ (o:Obj) (ep:Nat) (t:SetTable),
 h.get? a=some o/\o.ExactSet/\o.data=.set es ep t/\(∀ e∈es.toList,OkE e)/\(es.toList.map kE).Nodup/\es.size<100/\Tab led t es.size
theorem SetI.at{led:Bool}{h g:Heap}{a:Addr}{es:Array (Int×Value)}(q:SetI led h a es)(f:∀ o,h.get? a=some o->g.get? a=some o):SetI led g a es:=by
 obtain⟨o,ep,t,h1,r⟩:=q;exact⟨o,ep,t,f o h1,r⟩
section
variable {prog:Program} {w:World} {A:Around} {E:Value->Shared->Prop} {s:Shared} {led:Bool}
theorem znf{l:List (Int×Value)}(h:∀ e∈l,OkE e):ElemsOf (intKind prog w) l:=fun e m=>by
 obtain⟨n,t,e1,e2⟩:=h e m;refine⟨⟨n,?_,e2⟩,?_⟩
 ·rw [e1]; simp [intKind,Value.isInt]
 ·rw [e1]; rfl
theorem zgB{k:Int}{e:Int×Value}(h:OkE e):Value.isInt k e.2=true↔kE e=k:=by
 obtain⟨n,t,e1,e2⟩:=h;rw [zrh e1,e1];simp [Value.isInt]
theorem zhJ{n:Nat}(h:n<100):n<scanBound:=by
 have:scanBound=4096:=rfl;omega
theorem zfU{h:Heap}{a:Addr}{o:Obj}{es es':Array (Int×Value)}{ep:Nat}{t t':SetTable}(ho:h.get? a=some o)(hex:o.ExactSet)(hd:o.data=.set es ep t)
  (h1:∀ e∈es'.toList,OkE e) (h2:(es'.toList.map kE).Nodup) (h3:es'.size<100) (h4:Tab led t' es'.size) :
  (h.update a (Obj.putSet es' t')).get? a=some { o with data:=.set es' (ep+1) t' }/\SetI led (h.update a (Obj.putSet es' t')) a es':=by
 have hg:=Heap.get?_update_self (Obj.putSet es' t') ho (by rw [putSet_of es' t' hd]; rfl);rw [putSet_of es' t' hd] at hg;exact⟨hg,_,_,_,hg,hex,rfl,h1,h2,h3,h4⟩
theorem zi1{g:Bool->Sem Unit}(hg:∀ (b:Bool) (s1:Shared) (Q':Unit->Shared->Prop),Q' () s1->wpAny (model prog w) A (g b) Q' E s1){a:Addr}{o:Obj}{es es1:Array (Int×Value)}{ep:Nat}{t t2:SetTable}
  (ho:s.heap.get? a=some o) (hex:o.ExactSet) (hd:o.data=.set es ep t) (h1:∀ e∈es1.toList,OkE e) (h2:(es1.toList.map kE).Nodup) (h3:es1.size<100) (h4:Tab led t2 es1.size) {wd:Bool} {R:Option Bool->Shared->Prop}
  (h:∀ h' es',Heap.SameBut a s.heap h'->SetI led h' a es'->es'.toList.Perm es1.toList->R (some true) { s with heap:=h' }) :
  wpAny (model prog w) A (do
    storeSet a es1 t2
    if (!wd && t2.tooFull)=true then do
     g (relayAll t2 es1 (SetTable.grown es1.size)).2.2
     storeSet a (relayAll t2 es1 (SetTable.grown es1.size)).1 (relayAll t2 es1 (SetTable.grown es1.size)).2.1
     pure (some true)
    else pure (some true)) R E s:=by
 obtain⟨ho1,hS1⟩:=zfU (led:=led) ho hex hd h1 h2 h3 h4;have sb1:=Heap.SameBut.update s.heap a (Obj.putSet es1 t2);refine wpAny_bind (wpAny_storeSet_of ho hd ?_ (fits_of_scanBound (zhJ h3)));split
 ·have hp:=relayAll_perm t2 es1 (SetTable.grown es1.size);have ht:=zlJ (led:=led) (t:=t2) (es:=es1) h4.led (SetTable.grown es1.size);generalize relayAll t2 es1 (SetTable.grown es1.size)=Rl at hp ht ⊢;obtain⟨es2,t3,gv⟩:=Rl;dsimp only at hp ht ⊢;have ez:es2.size=es1.size:=by
   have:=hp.length_eq
   rwa [Array.length_toList,Array.length_toList] at this
  have q1:∀ e∈es2.toList,OkE e:=fun e m=>h1 e (hp.mem_iff.mp m);have q2:(es2.toList.map kE).Nodup:=(hp.map kE).nodup_iff.mpr h2;refine wpAny_bind (hg _ _ _ ?_);refine wpAny_bind (wpAny_storeSet_of ho1 rfl ?_ (fits_of_scanBound (zhJ (by omega))));obtain⟨_,hS2⟩:=zfU (led:=led) ho1 hex rfl q1 q2 (by omega) ht;exact wpAny_pure (h _ _ (sb1.trans (Heap.SameBut.update _ a _)) hS2 hp)
 ·exact wpAny_pure (h _ _ sb1 hS1 (List.Perm.refl _))
theorem znt{a:Addr}{es:Array (Int×Value)}{k:Int}{tk:Tok}{Q:Bool->Shared->Prop}(hS:SetI led s.heap a es)(hr:es.size+1<100)
  (h:∀ b h' es',Heap.SameBut a s.heap h'->SetI led h' a es'->(∀ x,x∈es'.toList.map kE↔x∈es.toList.map kE\/x=k)->es'.size<=es.size+1->Q b { s with heap:=h' }) :
  wpAny (model prog w) A (setAddHashed a (.int k tk) (hashInt k)) Q E s:=by
 obtain⟨o,ep,t,ho,hex,hd,h1,h2,h3,h4⟩:=hS;have hel:ElemsOf (intKind prog w) es.toList:=znf h1;have hkey:(intKind prog w).is k (.int k tk)=true:=by simp [intKind,Value.isInt]
 unfold setAddHashed setAddHashedIn;refine wpAny_holding (wpAny_bind (wpAny_setState_of ho hd h4.fits ?_));dsimp only;rw [byScan_of (knd:=intKind prog w) rfl (zhJ h3) hel];simp only [↓reduceIte];unfold setAddByScan;refine wpAny_bind (wpAny_bind (wpAny_rule (wpAny_bind (wpAny_setScan_of (knd:=intKind prog w) hkey ho hd h4.fits hel ?_))));cases hr':List.findIdx? (fun e=>(intKind prog w).is k e.2) es.toList with
 | some j =>
  dsimp only;obtain⟨hj,hpj,_⟩:=List.findIdx?_eq_some_iff_getElem.mp hr';have hm:k∈es.toList.map kE:=List.mem_map.mpr ⟨es.toList[j],List.getElem_mem hj,(zgB (h1 _ (List.getElem_mem hj))).mp hpj⟩;refine wpAny_pure (wpAny_pure ?_);have:=h false s.heap es (Heap.SameBut.refl a s.heap) ⟨o,ep,t,ho,hex,hd,h1,h2,h3,h4⟩ (fun x=>⟨.inl,fun z=>z.elim id fun e=>e▸hm⟩) (by omega);exact this
 | none =>
  dsimp only;have hm:k∉es.toList.map kE:=fun m=>by
   obtain⟨e,me,ek⟩:=List.mem_map.mp m;have:=List.findIdx?_eq_none_iff.mp hr' e me;rw [show (intKind prog w).is k e.2=Value.isInt k e.2 from rfl,(zgB (h1 e me)).mpr ek] at this;cases this
  have hgw:∀ (b:Bool) (s1:Shared) (Q':Unit->Shared->Prop),Q' () s1->wpAny (model prog w) A (match b with | true=>rule "set.scan.the-table-gave-way" | false=>pure ()) Q' E s1 :=
   fun b s1 Q' hq=>by cases b <;> first | exact wpAny_pure hq | exact wpAny_rule hq
  have hp:=layNew_perm t es (hashInt k) (.int k tk);have ht:=zkk (led:=led) (es:=es) h4 (hashInt k) (.int k tk);generalize layNew t es (hashInt k) (.int k tk)=L at hp ht ⊢;obtain⟨es1,t1,wd,gv⟩:=L;dsimp only at hp ht ⊢;rw [Array.toList_push] at hp;have ez:es1.size=es.size+1:=by
   have:=hp.length_eq
   rwa [Array.length_toList,List.length_append,Array.length_toList,List.length_singleton] at this
  have kk:kE (hashInt k,Value.int k tk)=k:=rfl;have q1:∀ e∈es1.toList,OkE e:=fun e m=>by
   rcases List.mem_append.mp (hp.mem_iff.mp m) with m | m
   ·exact h1 e m
   ·rw [List.mem_singleton.mp m];exact⟨k,tk,rfl,rfl⟩
  have hpk:(es1.toList.map kE).Perm (es.toList.map kE++[k]):=by
   have:=hp.map kE
   rwa [List.map_append,List.map_singleton,kk] at this
  have q2:(es1.toList.map kE).Nodup:=by
   rw [hpk.nodup_iff,List.nodup_append];exact⟨h2,by simp,fun x mx y my e=>by rw [List.mem_singleton.mp my] at e; rw [e] at mx; exact hm mx⟩
  have fin:∀ h' es',Heap.SameBut a s.heap h'->SetI led h' a es'->es'.toList.Perm es1.toList->Q true { s with heap:=h' }:=fun h' es' sb S' p =>
   h true h' es' sb S' (fun x=>by
    rw [((p.map kE).trans hpk).mem_iff,List.mem_append,List.mem_singleton]) (by
    have:=p.length_eq;rw [Array.length_toList,Array.length_toList] at this;omega)
  refine wpAny_bind (hgw _ _ _ ?_);split
  ·refine wpAny_bind ?_;show wpAny _ _ (pure true) _ _ _;refine wpAny_pure ?_;refine zi1 (led:=led) (fun b s1 Q' hq=>by cases b <;> first | exact wpAny_pure hq | exact wpAny_rule hq) ho hex hd q1 q2 (by omega) ht fun h' es' sb S' p=>?_;dsimp only;exact wpAny_pure (fin h' es' sb S' p)
  ·refine wpAny_bind (wpAny_pure ?_);simp only [↓reduceIte];refine zi1 (led:=led) (fun b s1 Q' hq=>by cases b <;> first | exact wpAny_pure hq | exact wpAny_rule hq) ho hex hd q1 q2 (by omega) ht fun h' es' sb S' p=>?_;dsimp only;exact wpAny_pure (fin h' es' sb S' p)
theorem zix{a:Addr}{es:Array (Int×Value)}{k:Int}{tk:Tok}{Q:Bool->Shared->Prop}(hS:SetI led s.heap a es)(hr:es.size+1<100)
  (h:∀ b h' es',Heap.SameBut a s.heap h'->SetI led h' a es'->(∀ x,x∈es'.toList.map kE↔x∈es.toList.map kE\/x=k)->es'.size<=es.size+1->Q b { s with heap:=h',toks:=s.toks+1 }) :
  wpAny (model prog w) A (setAdd a (.int k tk)) Q E s:=by
 unfold setAdd;refine wpAny_holding (wpAny_bind ((intKind prog w).pyHash (k:=k) (by simp [intKind,Value.isInt]) ?_));exact znt (led:=led) (s:={ s with toks:=s.toks+1 }) hS hr h
end
end
section
namespace F4
theorem plain_update_loop:plainId "set.update.loop" = true:=by decide +kernel
theorem entry_update_loop:entryFor table "set.update.loop" = some Builtin.«set.update.loop»:=entryFor_of_fast (by kernel_rfl)
theorem typeCall_set_1(a:Value):checkTypeCall "set" ⟨[a],[]⟩=pure ():=by kernel_rfl
theorem newCall_set_1(a:Value):checkBuiltinCall "set.__new__" ⟨[.type "set",a],[]⟩=pure ():=by kernel_rfl
theorem sub_list_set:isSubtype (.type "list") (.type "set")=pure false:=by rw [isSubtype_type]; kernel_rfl
theorem sub_list_frz:isSubtype (.type "list") (.type "frozenset")=pure false:=by rw [isSubtype_type]; kernel_rfl
end F4
section
variable {prog:Program} {w:World} {A:Around} {E:Value->Shared->Prop} {s:Shared}
theorem zf4{Q:Bool->Shared->Prop}(h:Q (w.params.followText "set-order") s):wpAny (model prog w) A setsByText Q E s:=fun _ _ _=>h
theorem zji{R:Result->Shared->Prop}{I:Addr}{fp wr:List Addr}{G:Array GenState->Array GenState->Prop}{n:Nat}{P:Nat->Value->Prop}{St:Nat->Shared->Prop}{led:Bool}(W:WalksS prog w A.in1 I fp wr G n P St)(hn:n<90)(S:Addr)(hSf:S∉fp)
  (key:Nat->Int) (hP:∀ i v,P i v->∃ tk,v=.int (key i) tk) :
  ∀ (m i:Nat) (s:Shared) (es:Array (Int×Value)),n - i=m->i<=n->St i s->SetI led s.heap S es->(∀ x,x∈es.toList.map kE↔∃ j,j<i/\x=key j)->es.size<=i ->
  (∀ s' es',Moved (S :: wr) G s s'->SetI led s'.heap S es'->(∀ x,x∈es'.toList.map kE↔∃ j,j<n/\x=key j)->R (.ok (.ret .none)) s') ->
  codeAny (model prog w) A (.builtin "set.update.loop" ⟨[.ref S,.ref I],[]⟩) R s:=by
 have hSw:S∉wr:=fun h=>hSf (W.sub _ h);have hsub:∀ b∈wr,b∈S :: wr:=fun b hb=>List.mem_cons_of_mem _ hb;intro m;induction m with
 | zero =>
  intro i s es hm hi hst hS hk hz hR;obtain rfl:i=n:=by omega
  refine codeAny_builtin F4.entry_update_loop ?_;rw [Around.under_plainId F4.plain_update_loop _];show wpAny _ A.in1 (pyNext (.ref I) >>= _) _ _ s;refine wpAny_bind (W.done s _ _ hst fun s' mv=>?_);exact wpAny_pure (hR s' es (mv.mono hsub) (hS.at fun o e=>mv.heap S o hSw e) hk)
 | succ m ih =>
  intro i s es hm hi hst hS hk hz hR;have hlt:i<n:=by omega
  refine codeAny_builtin F4.entry_update_loop ?_;rw [Around.under_plainId F4.plain_update_loop _];show wpAny _ A.in1 (pyNext (.ref I) >>= _) _ _ s;refine wpAny_bind (W.item i s _ _ hlt hst fun v s' hv hst' mv=>?_);obtain⟨tk,rfl⟩:=hP i v hv;have hS':SetI led s'.heap S es:=hS.at fun o e=>mv.heap S o hSw e;refine wpAny_bind (wpAny_holding (zix hS' (by omega) fun b h' es' sb S' mk z'=>?_));refine wpAny_pure ⟨plainId_quiet F4.plain_update_loop _,ih (i+1) _ es' (by omega) hlt (W.frame _ s' h' (s'.toks+1) hst' (Nat.le_succ _) fun b hb o e=>sb.extBut b o (fun z=>hSf (z▸hb)) e) S' (fun x=>?_) (by omega) fun s'' es'' mv'' S'' k''=>?_⟩
  ·rw [mk x,hk x];constructor
   ·rintro(⟨j,hj,e⟩ | e)
    ·exact⟨j,by omega,e⟩
    ·exact⟨i,by omega,e⟩
   ·rintro⟨j,hj,e⟩;by_cases z:j=i
    ·subst z;exact .inr e
    ·exact .inl ⟨j,by omega,e⟩
  ·exact hR s'' es'' (Moved.trans W.gtrans ((mv.mono hsub).then_heap (Nat.le_succ _) fun b o hb e=>sb.extBut b o (fun z=>hb (z▸List.mem_cons_self)) e) mv'') S'' k''
theorem zeO{a:Value}{Q:Value->Shared->Prop}(h:Q (.ref s.heap.objs.size) { s with heap:=s.heap.push { cls:=.type "set",dict:=none,data:=.set #[] 0 (.fresh 0 0 (!w.params.followText "set-order")) } }):
  codeAny (model prog w) A (.call (.builtin "set.__new__") ⟨[.type "set",a],[]⟩) (wants Q E) s:=by
 refine codeAny_of_tree ?_;show wpAny _ A.in1 (do checkBuiltinCall "set.__new__" ⟨[.type "set",a],[]⟩; again (.builtin "set.__new__" ⟨[.type "set",a],[]⟩)) _ _ s;refine wpAny_bind (wpAny_of_eq (F4.newCall_set_1 a) (wpAny_pure ⟨plainId_quiet F.plain_set_new _,codeAny_builtin F.entry_set_new ?_⟩));rw [Around.under_plainId F.plain_set_new _]; unfold Builtin.«set.__new__» Builtin.Frozenset.newClass;have hsub:=sub_set_self;obtain⟨h0,gs,dr,tk,os⟩:=s;dsimp only
 wp_walk
 refine wpAny_askSetting (M:=model prog w) (wpAny_pure ?_);dsimp only;simp only [newObj];exact wpAny_bind (wpAny_alloc (wpAny_pure (wpAny_pure h)))
theorem zdm{M:Model}{self a:Value}{Q:Unit->Shared->Prop}(hT:s.TypeIs self "set")(hQ:Q () s):wpAny M A (checkBuiltinCall "set.__init__" ⟨[self,a],[]⟩) Q E s:=by
 simp only [checkBuiltinCall,kind_set_init,split_set_init,sig_set_init];refine wpAny_bind (wpAny_isInstance hT sub_set_self ?_);simp only [Bool.not_true,Bool.false_eq_true,if_false];unfold Bind.checkArgs; dsimp only;refine wpAny_bind (m:=Bind.printed "set" true _ _) (PyProof.Rows.printed_name (by decide) ?_);refine wpAny_bind (m:=Bind.printed "*" false _ _) (PyProof.Rows.printed_star (sig:=_) (self:=self) rfl hT fun short=>?_);have hrn:(Manifest.Receiver.self == Manifest.Receiver.none)=false:=by decide
 have h1:(if (Manifest.Receiver.self == Manifest.Receiver.none)=true then [self,a].length else [self,a].length - 1)=1:=by simp [hrn]
 rw [h1];simp only [List.map_nil];have hc:Bind.check ⟨.positional,"set","*",.self,[⟨"iterable",.posOnly,false⟩]⟩ "set" short 1 []=pure ():=by
  have hpp:(Manifest.ParamKind.posOnly == Manifest.ParamKind.posOnly)=true:=by decide
  simp [Bind.check,Bind.checkCount,Bind.isPositional,hpp]
 rw [hc];exact wpAny_pure hQ
theorem znn{S l:Addr}{vs:Array Value}{ns:List Int}{led:Bool}{Q:Unit->Shared->Prop}(hh:A.handled=none)(hS:SetI led s.heap S #[])(hl:s.heap.IsList l vs)(hz:vs.size=ns.length)(hv:∀ (i:Nat) v,vs[i]? = some v->∃ tk,v=.int (ns.getD i 0) tk)(hn:ns.length<90)
  (h:∀ h' tk es,(∀ b o,b≠S->s.heap.get? b=some o->h'.get? b=some o)->SetI led h' S es->(∀ x,x∈es.toList.map kE↔x∈ns)->Q () { s with heap:=h',toks:=tk }) :
  wpAny (model prog w) A (Builtin.Frozenset.updateFrom "set.__init__" S (.ref l)) Q E s:=by
 have ty:s.TypeIs (.ref l) "list":=by
  obtain⟨o,e,c,_⟩:=hl;exact⟨o,e,c⟩
 have lS:l≠S:=fun e=>by
  obtain⟨o,_,_,e1,c1,_⟩:=hS;obtain⟨o',e',c',_⟩:=hl;rw [e,e1] at e';cases e';rw [c1.1] at c';simp at c'
 unfold Builtin.Frozenset.updateFrom Builtin.Frozenset.isAnySet;refine wpAny_bind (wpAny_bind (wpAny_isInstance ty F4.sub_list_set (wpAny_isInstance ty F4.sub_list_frz ?_)));simp only [Bool.false_eq_true,if_false];refine wpAny_bind (wpAny_typeOf ty ?_);rw [if_neg (by decide)];refine wpAny_bind (wpAny_pyIter_list hl ?_);obtain⟨o,eo⟩:∃ o,s.heap.get? l=some o:=⟨_,hl.choose_spec.1⟩;obtain⟨oS,eS⟩:∃ o,s.heap.get? S=some o:=⟨_,hS.choose_spec.choose_spec.choose_spec.1⟩;have ll:=Heap.lt_size eo;have lS':=Heap.lt_size eS;have up:∀ b ob,s.heap.get? b=some ob->(s.heap.push { cls:=.type "list_iterator",data:=.fields #[.ref l,.int 0 0] }).get? b=some ob:=fun b ob e=>Heap.get?_push_of_some _ e;have W:=(Walks.list (prog:=prog) (w:=w) (A:=A.in1) hh s.heap.objs.size l (Nat.ne_of_lt ll) vs).toS;refine wpAny_bind (wpAny_runValue (zji (led:=led) W (by omega) S (by
  simp only [List.mem_cons,List.not_mem_nil,or_false,not_or];exact⟨Nat.ne_of_lt lS',fun e=>lS e.symm⟩) (fun i=>ns.getD i 0) hv _ 0 _ #[] rfl (Nat.zero_le _) ⟨⟨_,Heap.get?_push_size _ rfl,rfl,rfl⟩,hl.at fun ob e=>up l ob e⟩ (hS.at fun ob e=>up S ob e) (by simp) (Nat.le_refl _) fun s' es mv S' ks=>?_))
 refine wpAny_pure ?_;obtain⟨h',gs',dr',tk',os'⟩:=s';obtain⟨m1,m2,m3,m4,m5⟩:=mv;dsimp only at m1 m2 m3 m4 m5 S';subst m2 m3 m4;refine h h' tk' es (fun b ob nb e=>m1 b ob (by
  simp only [List.mem_cons,List.not_mem_nil,or_false,not_or];exact⟨nb,Nat.ne_of_lt (Heap.lt_size e)⟩) (up b ob e)) S' fun x=>?_
 rw [ks x,hz];constructor
 ·rintro⟨j,hj,rfl⟩;rw [List.getD_eq_getElem?_getD,List.getElem?_eq_getElem hj];exact List.getElem_mem hj
 ·intro m;obtain⟨j,hj,e⟩:=List.mem_iff_getElem.mp m;exact⟨j,hj,by rw [List.getD_eq_getElem?_getD,List.getElem?_eq_getElem hj]; exact e.symm⟩
theorem zkM{l:Addr}{vs:Array Value}{ns:List Int}{Q:Value->Shared->Prop}(hh:A.handled=none)(hl:s.heap.IsList l vs)(hz:vs.size=ns.length)(hv:∀ (i:Nat) v,vs[i]? = some v->∃ tk,v=.int (ns.getD i 0) tk)(hn:ns.length<90)
  (h:∀ a h' tk es,s.heap.objs.size<=a->(∀ b o,s.heap.get? b=some o->h'.get? b=some o)->SetI (!w.params.followText "set-order") h' a es->(∀ x,x∈es.toList.map kE↔x∈ns)->Q (.ref a) { s with heap:=h',toks:=tk }) :
  wpAny (model prog w) A (call (.type "set") [.ref l]) Q E s:=by
 obtain⟨c,tl,hmro⟩:=F.called_set.mro;have hmade:=F.called_set.made;have hsub:=F.called_set.sub;refine wpAny_call (codeAny_of_tree ?_);show wpAny _ _ (callAny (.type "set") _) _ _ _;refine wpAny_pure ⟨Code.quiet_builtin _ (by decide +kernel),codeAny_builtin F.entry_type_call ?_⟩;rw [Around.under_plain (weight_type_call_type "set" [.ref l] []) rfl];have h1:=F.called_set.notType;have h2:=F.called_set.canCreate;have hct:=F4.typeCall_set_1 (.ref l)
 repeat (any_goals (first | assumption | wp_step))
 generalize hO:({ cls:=.type "set",dict:=none,data:=.set #[] 0 (.fresh 0 0 (!w.params.followText "set-order")) }:Obj)=O;refine codeAny_mono (zeO (E:=E) (Q:=fun ob s1=>ob=.ref s.heap.objs.size/\s1 = { s with heap:=s.heap.push O }) ⟨rfl,by rw [hO]⟩) fun r s1 hr=>?_;cases r with
 | error e=>exact hr
 | ok fl =>
  cases fl with
  | ret obj =>
   obtain⟨rfl,rfl⟩:=hr;have hS:(s.heap.push O).get? s.heap.objs.size=some O:=Heap.get?_push_size _ (by rw [<- hO]; rfl);have hT:Shared.TypeIs { s with heap:=s.heap.push O } (.ref s.heap.objs.size) "set":=⟨_,hS,by rw [<- hO]⟩;have hli:=F.called_set.init.lookup;have hbi:=F.called_set.init.bind (.ref s.heap.objs.size)
   repeat (any_goals (first | assumption | wp_step))
   refine codeAny_mono (codeAny_call_builtin (R:=wants (fun r s2=>r=.none/\Q (.ref s.heap.objs.size) s2) E) F.called_set.init.plain F.entry_set_init (zdm hT ?_)) fun r2 s2 hr2=>?_
   ·unfold Builtin.«set.__init__» noKeywords;have hS0:SetI (!w.params.followText "set-order") (s.heap.push O) s.heap.objs.size #[]:=by
     subst hO;exact⟨_,_,_,hS,⟨rfl,rfl,rfl⟩,rfl,by simp,by simp,by simp,ze3 _⟩
    have hl1:(s.heap.push O).IsList l vs:=hl.at fun ob e=>Heap.get?_push_of_some _ e;subst hO;have key:=fun Q1=>@znn prog w A.in1.in1 (fun e s'=>wants (fun r s2=>r=Value.none/\Q (Value.ref s.heap.objs.size) s2) E (Except.error e) s') { s with heap:=s.heap.push { cls:=.type "set",dict:=none,data:=.set #[] 0 (.fresh 0 0 (!w.params.followText "set-order")) } } s.heap.objs.size l vs ns (!w.params.followText "set-order") Q1 hh hS0 hl1 hz hv hn
    wp_walk using key _
    intro h' tk es kp S' ks;exact wpAny_pure ⟨rfl,h _ h' tk es (Nat.le_refl _) (fun b o e=>kp b o (Nat.ne_of_lt (Heap.lt_size e)) (Heap.get?_push_of_some _ e)) S' ks⟩
   ·cases r2 with
    | error e=>exact hr2
    | ok fl2 =>
     cases fl2 with
     | ret r =>
      obtain⟨rfl,hq⟩:=hr2
      repeat (any_goals (first | assumption | wp_step))
     | _=>exact hr2.elim
  | _=>exact hr.elim
end
end
section
namespace F4
theorem slot_si_next:Slot "set_iterator" "__next__" "set_iterator.__next__":=.of (owner:="set_iterator") (n:="__next__") (by rw [typeLookup_type,builtinLookup_eq_fast]; kernel_rfl) (by decide +kernel) (by decide +kernel) (by decide +kernel) (by first | exact .inl (by decide +kernel) | exact .inr (by decide +kernel)) (by rw [isSubtype_type]; kernel_rfl)
theorem entry_si_next:entryFor table "set_iterator.__next__" = some Builtin.«set_iterator.__next__»:=entryFor_of_tree (by kernel_rfl)
theorem entry_set_iter:entryFor table "set.__iter__" = some Builtin.«frozenset.__iter__»:=entryFor_alias (id':="frozenset.__iter__") (by kernel_rfl) rfl (by decide +kernel) (by kernel_rfl)
theorem zm7:Manifest.owners.lookup (String.ofList ['r','o','t','a','r','e','t','i','_','t','e','s'].reverse)=some Manifest.sig_set_iterator:=by kernel_rfl
theorem args_si_next(a:Value):argsOk "set_iterator.__next__" ⟨[a],[]⟩:=by unfold argsOk; rw [signature?_of (id:="set_iterator.__next__") (n:=['_','_','t','x','e','n','_','_']) (o:=['r','o','t','a','r','e','t','i','_','t','e','s']) (by kernel_rfl) zm7]; kernel_rfl
end F4
theorem zeb{α:Type}:∀ (l:List α) (i:Nat) (h:i<l.length),(l[i] :: l.eraseIdx i).Perm l
 | [],i,h=>by simp at h
 | a :: l,0,h=>List.Perm.refl _
 | a :: l,i+1,h=>by
  show (l[i]'(by simpa using h) :: a :: l.eraseIdx i).Perm (a :: l);exact(List.Perm.swap _ _ _).trans (List.Perm.cons _ (zeb l i (by simpa using h)))
theorem zkr{α:Type}{next:Nat->Nat}:∀ (fuel k:Nat) (left:List α) (out:Array α),left.length=fuel->(pickOrder.go next fuel k left out).toList.Perm (out.toList++left)
 | 0,k,left,out,h=>by
  have:left=[]:=List.length_eq_zero_iff.mp h;subst this;unfold pickOrder.go;simp
 | fuel+1,k,left,out,h=>by
  unfold pickOrder.go;have hl:next k % left.length<left.length:=Nat.mod_lt _ (by omega);rw [List.getElem?_eq_getElem hl];dsimp only;refine(zkr fuel (k+1) _ _ (by rw [List.length_eraseIdx,if_pos hl]; omega)).trans ?_;rw [Array.toList_push,List.append_assoc];refine List.Perm.append_left _ ?_;exact zeb _ _ hl
theorem zkR{α:Type}(next:Nat->Nat)(xs:Array α):(pickOrder next xs).toList.Perm xs.toList:=by
 unfold pickOrder;have:=zkr (next:=next) xs.size 0 xs.toList #[] (Array.length_toList);simpa using this
section
variable {prog:Program} {w:World} {A:Around} {E:Value->Shared->Prop} {s:Shared}
theorem zfN{α:Type}{E:Value->Shared->Prop}:∀ (n:Nat) (xs:List α) (s:Shared) (Q:List α->Shared->Prop),xs.length=n->(∀ d ys,ys.Perm xs->Q ys { s with drawn:=d })->wpAny (model prog w) A (drawOrder n xs) Q E s
 | 0,xs,s,Q,h,q=>by
  have:xs=[]:=List.length_eq_zero_iff.mp h;subst this;exact wpAny_pure (q s.drawn [] (List.Perm.refl _))
 | n+1,[],s,Q,h,q=>by cases h
 | n+1,x :: xs,s,Q,h,q=>by
  show wpAny _ _ (choose .order (x :: xs).length >>= _) _ _ _;refine wpAny_bind (fun Γ p hΓ=>⟨by simp,?_⟩);show wpAny (model prog w) A (match (x :: xs)[w.draws .order (s.drawn.get .order) % (x :: xs).length]? with | some y=>(do let r <- drawOrder n ((x :: xs).eraseIdx (w.draws .order (s.drawn.get .order) % (x :: xs).length)); pure (y :: r)) | none=>unsupported "internal:drawOrder") Q E { s with drawn:=s.drawn.bump .order };generalize hi:w.draws .order (s.drawn.get .order) % (x :: xs).length=i;have hl:i<(x :: xs).length:=by rw [<- hi]; exact Nat.mod_lt _ (by simp)
  rw [List.getElem?_eq_getElem hl];dsimp only;refine wpAny_bind (zfN n _ _ _ (by rw [List.length_eraseIdx,if_pos hl]; omega) fun d ys p=>wpAny_pure ?_);exact q d _ ((List.Perm.cons _ p).trans (zeb _ _ hl))
abbrev IsSI (h:Heap) (I S:Addr) (f:Value) (i n ep:Nat):Prop:=h.get? I=some { cls:=.type "set_iterator",dict:=none,data:=.fields #[f,rawInt i,.ref S,rawInt n,rawInt ep],slots:=#[] }
theorem zhw{I S:Addr}{f:Value}{i n ep:Nat}(h:IsSI s.heap I S f i n ep):s.TypeIs (.ref I) "set_iterator":=⟨_,h,rfl⟩
theorem zlg(i:Nat):rawInt ((i:Int)+1)=rawInt ((i+1:Nat):Int):=by simp
theorem ziy{Q:PySem.Fin->Shared->Prop}(hh:A.handled=none)(h:∀ h' e,(∀ b o,s.heap.get? b=some o->h'.get? b=some o)->(∃ o,h'.get? e=some o/\o.cls=.type "StopIteration")->E (.ref e) { s with heap:=h' }):
  wpAny (model prog w) A (newExc (.type "StopIteration") [] >>= fun x=>raiseNew x) Q E s:=by
 refine wpAny_bind ?_;simp only [newExc,newTuple];refine wpAny_bind (wpAny_newObj_type ?_ (by size_fits));refine wpAny_bind (m:=firstArgMember (.type "StopIteration") _) (wpAny_of_eq (a:=Value.none) (by first | rfl | (simp only [firstArgMember]; rfl)) ?_);refine wpAny_newObj_type ?_ (by size_fits);simp only [raiseNew];refine wpAny_bind (wpAny_handled ?_); rw [hh];refine wpAny_bind (wpAny_pure (wpAny_throw ?_));exact h _ _ (fun b o e=>Heap.get?_push_of_some _ (Heap.get?_push_of_some _ e)) ⟨_,Heap.get?_push_size _ rfl,rfl⟩
theorem zpP{I S:Addr}{o:Obj}{es:Array (Int×Value)}{t:SetTable}{slot nx i ep:Nat}{x:Value}{Q:Option Value->Shared->Prop}(hI:IsSI s.heap I S (rawInt slot) i es.size ep)(hS:s.heap.get? S=some o)(hd:o.data=.set es ep t)(hf:t.fits es.size=true)
  (hn:∀ (A:Around) (Q:Option (Value×Nat)->Shared->Prop) (E:Value->Shared->Prop) (s:Shared),s.heap.get? S=some o->Q (some (x,nx)) s->wpAny (model prog w) A (setNext S slot i ep) Q E s)
  (hQ:∀ h',IsSI h' I S (rawInt nx) (i+1) es.size ep->Heap.SameBut I s.heap h'->Q (some x) { s with heap:=h' }):wpAny (model prog w) A (pyNext (.ref I)) Q E s:=by
 unfold pyNext;refine wpAny_bind (wpAny_attempt (wpAny_callSpecial?_slot (name:=Str.ofString "__next__") (zhw hI) F4.slot_si_next (wpAny_call_entry F4.slot_si_next (zhw hI) F4.entry_si_next ?_ (F4.args_si_next _))));unfold Builtin.«set_iterator.__next__»;refine wpAny_bind (m:=slotArgs "__next__" 0 _) (wpAny_pure ?_);refine wpAny_bind (wpAny_fieldsOf hI rfl ?_);show wpAny _ _ (setEntries S >>= _) _ _ s;refine wpAny_bind (wpAny_setEntries_of hS hd hf ?_);rw [if_neg (by simp)];show wpAny _ _ (setNext S ((slot:Int).toNat) ((i:Int).toNat) ((ep:Int).toNat) >>= _) _ _ s;rw [Int.toNat_natCast,Int.toNat_natCast,Int.toNat_natCast];refine wpAny_bind (hn _ _ _ _ hS ?_);refine wpAny_bind (wpAny_setField_rec hI (by simp) fun g1 z1 b1=>?_);refine wpAny_bind (wpAny_setField_rec (s:={ s with heap:=g1 }) z1 (by simp) fun g2 z2 b2=>?_);refine wpAny_pure ⟨_,rfl,wpAny_pure (hQ g2 ?_ (b1.trans b2))⟩;rw [zlg] at z2;exact z2
theorem zj1{I S:Addr}{o:Obj}{es:Array (Int×Value)}{t:SetTable}{slot i ep:Nat}{Q:Option Value->Shared->Prop}(hh:A.handled=none)(hI:IsSI s.heap I S (rawInt slot) i es.size ep)(hS:s.heap.get? S=some o)(hd:o.data=.set es ep t)(hf:t.fits es.size=true)
  (hn:∀ (A:Around) (Q:Option (Value×Nat)->Shared->Prop) (E:Value->Shared->Prop) (s:Shared),s.heap.get? S=some o->Q none s->wpAny (model prog w) A (setNext S slot i ep) Q E s)
  (hQ:∀ h',(∀ b o,b≠I->s.heap.get? b=some o->h'.get? b=some o)->Q none { s with heap:=h' }):wpAny (model prog w) A (pyNext (.ref I)) Q E s:=by
 unfold pyNext;refine wpAny_bind (wpAny_attempt (wpAny_callSpecial?_slot (name:=Str.ofString "__next__") (zhw hI) F4.slot_si_next (wpAny_call_entry F4.slot_si_next (zhw hI) F4.entry_si_next ?_ (F4.args_si_next _))));unfold Builtin.«set_iterator.__next__»;refine wpAny_bind (m:=slotArgs "__next__" 0 _) (wpAny_pure ?_);refine wpAny_bind (wpAny_fieldsOf hI rfl ?_);show wpAny _ _ (setEntries S >>= _) _ _ s;refine wpAny_bind (wpAny_setEntries_of hS hd hf ?_);rw [if_neg (by simp)];show wpAny _ _ (setNext S ((slot:Int).toNat) ((i:Int).toNat) ((ep:Int).toNat) >>= _) _ _ s;rw [Int.toNat_natCast,Int.toNat_natCast,Int.toNat_natCast];refine wpAny_bind (hn _ _ _ _ hS ?_);refine wpAny_bind (wpAny_setField_rec hI (by simp) fun g1 z1 b1=>?_);refine ziy (s:={ s with heap:=g1 }) hh fun h' e kp ⟨oe,e1,e2⟩=>?_;refine wpAny_bind (wpAny_isInstance (T:="StopIteration") (b:=true) ⟨oe,e1,e2⟩ isSubtype_stop ?_);exact wpAny_pure (hQ _ fun b ob nb eb=>kp b ob (b1.extBut b ob nb eb))
theorem zqh{I S T:Addr}{o:Obj}{es:Array (Int×Value)}{t:SetTable}{i ep p:Nat}{ps:Array Value}{x:Int×Value}{Q:Option Value->Shared->Prop}(hI:IsSI s.heap I S (.ref T) i es.size ep)(hS:s.heap.get? S=some o)(hd:o.data=.set es ep t)(hf:t.fits es.size=true)
  (hT:IsT s.heap T ps) (hp:ps[i]? = some (rawInt p)) (hx:es[p]? = some x)
  (hQ:∀ h',IsSI h' I S (.ref T) (i+1) es.size ep->Heap.SameBut I s.heap h'->Q (some x.2) { s with heap:=h' }):wpAny (model prog w) A (pyNext (.ref I)) Q E s:=by
 unfold pyNext;refine wpAny_bind (wpAny_attempt (wpAny_callSpecial?_slot (name:=Str.ofString "__next__") (zhw hI) F4.slot_si_next (wpAny_call_entry F4.slot_si_next (zhw hI) F4.entry_si_next ?_ (F4.args_si_next _))));unfold Builtin.«set_iterator.__next__»;refine wpAny_bind (m:=slotArgs "__next__" 0 _) (wpAny_pure ?_);refine wpAny_bind (wpAny_fieldsOf hI rfl ?_);show wpAny _ _ (setEntries S >>= _) _ _ s;refine wpAny_bind (wpAny_setEntries_of hS hd hf ?_);rw [if_neg (by simp)];show wpAny _ _ (seqItems? (.ref T) >>= _) _ _ s;refine wpAny_bind (wpAny_bind (wpAny_load hT (wpAny_pure ?_)));show wpAny _ _ (match ps[(i:Int).toNat]? with | some (Value.int place _)=>_ | some _=>_ | none=>_) _ _ s;rw [Int.toNat_natCast,hp];show wpAny _ _ (setNextDrawn S ((p:Int).toNat) ((ep:Int).toNat) >>= _) _ _ s;rw [Int.toNat_natCast,Int.toNat_natCast];unfold setNextDrawn;refine wpAny_bind (wpAny_bind (wpAny_setState_of hS hd hf ?_));dsimp only;rw [if_neg (by simp),hx];refine wpAny_pure ?_;refine wpAny_bind (wpAny_setField_rec hI (by simp) fun g1 z1 b1=>?_);refine wpAny_pure ⟨_,rfl,wpAny_pure (hQ g1 ?_ b1)⟩;rw [zlg] at z1;exact z1
theorem zj9{I S T:Addr}{o:Obj}{es:Array (Int×Value)}{t:SetTable}{i ep:Nat}{ps:Array Value}{Q:Option Value->Shared->Prop}(hh:A.handled=none)(hI:IsSI s.heap I S (.ref T) i es.size ep)(hS:s.heap.get? S=some o)(hd:o.data=.set es ep t)(hf:t.fits es.size=true)
  (hT:IsT s.heap T ps) (hp:ps[i]? = none)
  (hQ:∀ h',(∀ b o,b≠I->s.heap.get? b=some o->h'.get? b=some o)->Q none { s with heap:=h' }):wpAny (model prog w) A (pyNext (.ref I)) Q E s:=by
 unfold pyNext;refine wpAny_bind (wpAny_attempt (wpAny_callSpecial?_slot (name:=Str.ofString "__next__") (zhw hI) F4.slot_si_next (wpAny_call_entry F4.slot_si_next (zhw hI) F4.entry_si_next ?_ (F4.args_si_next _))));unfold Builtin.«set_iterator.__next__»;refine wpAny_bind (m:=slotArgs "__next__" 0 _) (wpAny_pure ?_);refine wpAny_bind (wpAny_fieldsOf hI rfl ?_);show wpAny _ _ (setEntries S >>= _) _ _ s;refine wpAny_bind (wpAny_setEntries_of hS hd hf ?_);rw [if_neg (by simp)];show wpAny _ _ (seqItems? (.ref T) >>= _) _ _ s;refine wpAny_bind (wpAny_bind (wpAny_load hT (wpAny_pure ?_)));show wpAny _ _ (match ps[(i:Int).toNat]? with | some (Value.int place _)=>_ | some _=>_ | none=>_) _ _ s;rw [Int.toNat_natCast,hp];refine wpAny_bind (wpAny_setField_rec hI (by simp) fun g1 z1 b1=>?_);refine wpAny_bind (wpAny_setField_rec (s:={ s with heap:=g1 }) z1 (by simp) fun g2 z2 b2=>?_);refine ziy (s:={ s with heap:=g2 }) hh fun h' e kp ⟨oe,e1,e2⟩=>?_;refine wpAny_bind (wpAny_isInstance (T:="StopIteration") (b:=true) ⟨oe,e1,e2⟩ isSubtype_stop ?_);exact wpAny_pure (hQ _ fun b ob nb eb=>kp b ob (b2.extBut b ob nb (b1.extBut b ob nb eb)))
end
end
section
section
variable {prog:Program} {w:World} {A:Around} {E:Value->Shared->Prop} {s:Shared}
theorem ziG{α:Type}{M:Model}{c:Prop}[Decidable c]{a b:Sem α}{Q:α->Shared->Prop}(h:¬ c)(q:wpAny M A b Q E s):wpAny M A (if c then a else b) Q E s:=by
 rw [if_neg h];exact q
theorem zie{α:Type}{M:Model}{c:Prop}[Decidable c]{a b:Sem α}{Q:α->Shared->Prop}(h:c)(q:wpAny M A a Q E s):wpAny M A (if c then a else b) Q E s:=by
 rw [if_pos h];exact q
theorem zg2{S:Addr}{o:Obj}{es:Array (Int×Value)}{t:SetTable}{slot i ep:Nat}{Q:Option (Value×Nat)->Shared->Prop}(hS:s.heap.get? S=some o)(hd:o.data=.set es ep t)(hf:t.fits es.size=true)(hb:w.params.followText "set-order" = true)
  (h:Q ((pickOrder (w.params.setOrder S ep) es)[i]?.map fun e=>(e.2,slot)) s):wpAny (model prog w) A (setNext S slot i ep) Q E s:=by
 unfold setNext;refine wpAny_bind (wpAny_setState_of hS hd hf (wpAny_bind (zf4 ?_)));rw [hb];dsimp only;rw [if_pos rfl,if_neg (by simp)];refine wpAny_bind ?_;unfold setWalk;refine wpAny_bind (wpAny_setState_of hS hd hf (wpAny_bind (zf4 ?_)));rw [hb,if_pos rfl];exact wpAny_bind (wpAny_askSetting (wpAny_pure (wpAny_pure h)))
theorem zjm{S:Addr}{o:Obj}{es:Array (Int×Value)}{t:SetTable}{slot i ep:Nat}{Q:Option (Value×Nat)->Shared->Prop}(hS:s.heap.get? S=some o)(hd:o.data=.set es ep t)(hf:t.fits es.size=true)(hb:w.params.followText "set-order" = false)
  (hdr:(!t.plain && decide (es.size>1))=false) (hl:t.led=true) (hi:SetTable.below t.place slot=i)
  (h:Q (match es[i]?,t.place[i]? with | some (_,x),some j=>some (x,j+1) | _,_=>none) s):wpAny (model prog w) A (setNext S slot i ep) Q E s:=by
 unfold setNext;refine wpAny_bind (wpAny_setState_of hS hd hf (wpAny_bind (zf4 ?_)));rw [hb];dsimp only;rw [if_neg (by simp)];refine ziG (show ¬ ((!t.plain && decide (es.size>1))=true) by rw [hdr]; simp) ?_;refine wpAny_bind ?_;show wpAny _ _ (if (!t.led && !es.isEmpty)=true then unsupported "set:maker-not-led" else pure ()) _ _ s;rw [if_neg (by rw [hl]; simp)];refine wpAny_pure ?_;rw [hi];exact wpAny_pure h
structure Wk(prog:Program)(w:World)(A:Around)(I:Addr)(fp:List Addr)(vs:List Value)(St:Nat->Heap->Prop):Prop where
 mem:I∈fp
 frame:∀ i h h',St i h->(∀ b∈fp,∀ o,h.get? b=some o->h'.get? b=some o)->St i h'
 item:∀ i v (s:Shared) (Q:Option Value->Shared->Prop) (E:Value->Shared->Prop),vs[i]? = some v->St i s.heap->(∀ h',St (i+1) h'->(∀ b o,b≠I->s.heap.get? b=some o->h'.get? b=some o)->Q (some v) { s with heap:=h' })->wpAny (model prog w) A (pyNext (.ref I)) Q E s
 done:∀ (s:Shared) (Q:Option Value->Shared->Prop) (E:Value->Shared->Prop),St vs.length s.heap->(∀ h',(∀ b o,b≠I->s.heap.get? b=some o->h'.get? b=some o)->Q none { s with heap:=h' })->wpAny (model prog w) A (pyNext (.ref I)) Q E s
theorem znh{R:Result->Shared->Prop}{I:Addr}{fp:List Addr}{vs:List Value}{St:Nat->Heap->Prop}(W:Wk prog w A.in1 I fp vs St)(hn:vs.length<=1000)(S:Addr)(hSf:S∉fp)(res:Value):
  ∀ (m i:Nat) (s:Shared) (acc:Array Value) (c:Nat),vs.length - i=m->i<=vs.length->St i s.heap->s.heap.get? S=some (seqObj "list" acc c)->acc.toList=vs.take i ->
  (∀ h' c',(∀ b o,b≠S->b≠I->s.heap.get? b=some o->h'.get? b=some o)->h'.get? S=some (seqObj "list" vs.toArray c')->R (.ok (.ret res)) { s with heap:=h' }) ->
  codeAny (model prog w) A (.builtin "list.extend.loop" ⟨[.ref S,.ref I,res],[]⟩) R s:=by
 have hSI:S≠I:=fun e=>hSf (e▸W.mem);intro m;induction m with
 | zero =>
  intro i s acc c hm hi st hS ha hR;obtain rfl:i=vs.length:=by omega
  refine codeAny_builtin F.entry_extend_loop ?_;rw [Around.under_plainId F.plain_extend_loop _];show wpAny _ A.in1 (pyNext (.ref I) >>= _) _ _ s;refine wpAny_bind (W.done s _ _ st fun h' kp=>wpAny_pure (hR h' c (fun b o _ nI e=>kp b o nI e) ?_));have:acc=vs.toArray:=by
   rw [List.take_length] at ha;rw [<- ha]
  rw [<- this];exact kp S _ hSI hS
 | succ m ih =>
  intro i s acc c hm hi st hS ha hR;have hlt:i<vs.length:=by omega
  refine codeAny_builtin F.entry_extend_loop ?_;rw [Around.under_plainId F.plain_extend_loop _];show wpAny _ A.in1 (pyNext (.ref I) >>= _) _ _ s;refine wpAny_bind (W.item i vs[i] s _ _ (List.getElem?_eq_getElem hlt) st fun h' st' kp=>?_);have hS':=kp S _ hSI hS;have sz:acc.size=i:=by rw [<- Array.length_toList,ha,List.length_take]; omega
  show wpAny _ A.in1 (updateSeq S (·.push vs[i]) >>= _) _ _ _;refine wpAny_bind (wpAny_updateSeq (s:={ s with heap:=h' }) hS' rfl (wpAny_pure ⟨plainId_quiet F.plain_extend_loop _,ih (i+1) _ (acc.push vs[i]) _ (by omega) hlt (W.frame _ h' _ st' fun b hb o e=>?_) (Heap.get?_update_self _ hS' rfl) ?_ fun h'' c' kp' hS''=>?_⟩)
   (by rw [sz,sizeLine_eq]; omega) (by show (acc.push vs[i]).size<=_; rw [Array.size_push,sz,sizeLine_eq]; omega))
  ·exact(Heap.get?_update_other _ _ (fun h:S=b=>hSf (by rw [h]; exact hb))).trans e
  ·rw [Array.toList_push,ha,List.take_succ_eq_append_getElem hlt]
  ·exact hR h'' c' (fun b o nS nI e=>kp' b o nS nI ((Heap.get?_update_other _ _ (fun h:S=b=>nS h.symm)).trans (kp b o nI e))) hS''
theorem zor{I S:Addr}{o:Obj}{es:Array (Int×Value)}{t:SetTable}{ep:Nat}(hh:A.handled=none)(hSI:S≠I)(hd:o.data=.set es ep t)(hf:t.fits es.size=true)(us:List (Int×Value))(sl:Nat->Nat)
  (hn:∀ i e,us[i]? = some e->∀ (A:Around) (Q:Option (Value×Nat)->Shared->Prop) (E:Value->Shared->Prop) (s:Shared),s.heap.get? S=some o->Q (some (e.2,sl (i+1))) s->wpAny (model prog w) A (setNext S (sl i) i ep) Q E s)
  (he:∀ (A:Around) (Q:Option (Value×Nat)->Shared->Prop) (E:Value->Shared->Prop) (s:Shared),s.heap.get? S=some o->Q none s->wpAny (model prog w) A (setNext S (sl us.length) us.length ep) Q E s) :
  Wk prog w A I [I,S] (us.map (·.2)) (fun i h=>IsSI h I S (rawInt (sl i)) i es.size ep/\h.get? S=some o) where
 mem:=by simp
 frame:=fun i h h' ⟨a,b⟩ k=>⟨k I (by simp) _ a,k S (by simp) _ b⟩
 item:=fun i v s Q E hv ⟨a,b⟩ hQ=>by
  rw [List.getElem?_map] at hv;obtain⟨e,he,rfl⟩:=Option.map_eq_some_iff.mp hv;exact zpP a b hd hf (hn i e he) fun h' z sb=>hQ h' ⟨z,sb.extBut S _ hSI b⟩ fun b' o' nb e=>sb.extBut b' o' nb e
 done:=fun s Q E ⟨a,b⟩ hQ=>by
  rw [List.length_map] at a;exact zj1 hh a b hd hf he fun h' kp=>hQ h' kp
theorem zq2{I S T:Addr}{o:Obj}{es:Array (Int×Value)}{t:SetTable}{ep:Nat}(hh:A.handled=none)(hSI:S≠I)(hTI:T≠I)(hd:o.data=.set es ep t)(hf:t.fits es.size=true)(ps:List Nat)(hp:∀ p∈ps,p<es.size):
  Wk prog w A I [I,S,T] (ps.map fun p=>(es.getD p (0,.none)).2) (fun i h=>IsSI h I S (.ref T) i es.size ep/\h.get? S=some o/\IsT h T (ps.map fun p:Nat=>rawInt p).toArray) where
 mem:=by simp
 frame:=fun i h h' ⟨a,b,c⟩ k=>⟨k I (by simp) _ a,k S (by simp) _ b,k T (by simp) _ c⟩
 item:=fun i v s Q E hv ⟨a,b,c⟩ hQ=>by
  rw [List.getElem?_map] at hv;obtain⟨p,hpi,rfl⟩:=Option.map_eq_some_iff.mp hv;have lp:=hp p (List.mem_of_getElem? hpi);have ee:es[p]? = some (es.getD p (0,.none)):=by simp [Array.getD,lp]
  refine zqh a b hd hf c (p:=p) (by simp [hpi]) ee fun h' z sb=>hQ h' ⟨z,sb.extBut S _ hSI b,sb.extBut T _ hTI c⟩ fun b' o' nb e=>sb.extBut b' o' nb e
 done:=fun s Q E ⟨a,b,c⟩ hQ=>by
  rw [List.length_map] at a;exact zj9 hh a b hd hf c (by simp) fun h' kp=>hQ h' kp
end
end
section
def zfu(t:SetTable):Nat->Nat
 | 0=>0
 | i+1=>t.place.getD i 0+1
theorem zjD{t:SetTable}(h:Rise t.place):∀ i,i<=t.place.size->SetTable.below t.place (zfu t i)=i
 | 0,_=>zlM (bel h) ⟨Nat.zero_le _,fun _ _ z=>absurd z (Nat.not_lt_zero _),fun _ _ _ _=>Nat.zero_le _⟩
 | i+1,hi=>by
  have il:i<t.place.size:=by omega
  have e:=Array.getElem?_eq_getElem il;have eg:zfu t (i+1)=t.place[i]+1:=by simp [zfu,Array.getD,il]
  rw [eg];refine zlM (bel h) ⟨hi,fun k x hk ek=>?_,fun k x hk ek=>?_⟩
  ·by_cases z:k=i
   ·subst z;rw [e] at ek;cases ek;omega
   ·have:=h.at (show k<i by omega) ek e;omega
  ·have:=h.at (show i<k by omega) e ek;omega
theorem zlj{t:SetTable}{n:Nat}(h:t.fits n=true):t.place.size=n:=by
 unfold SetTable.fits at h;rw [Bool.and_eq_true] at h;simpa using h.1
section
variable {prog:Program} {w:World} {A:Around} {E:Value->Shared->Prop} {s:Shared}
theorem zmH{S:Addr}{o:Obj}{es:Array (Int×Value)}{t:SetTable}{ep:Nat}{Q:Value->Shared->Prop}(hS:s.heap.get? S=some o)(hx:o.ExactSet)(hd:o.data=.set es ep t)(tb:Tab (!w.params.followText "set-order") t es.size)(hz:es.size<100)
  (h:∀ I h' d fp us St,s.heap.objs.size<=I->(∀ b∈fp,b=S\/s.heap.objs.size<=b)->(∀ b o,s.heap.get? b=some o->h'.get? b=some o)->us.Perm (es.toList.map (·.2))->(∀ A':Around,A'.handled=none->Wk prog w A' I fp us St)->St 0 h'->Q (.ref I) { s with heap:=h',drawn:=d }) :
  wpAny (model prog w) A (pyIter (.ref S)) Q E s:=by
 have ty:s.TypeIs (.ref S) "set":=⟨o,hS,hx.1⟩;have lt:=Heap.lt_size hS;have ps:=zlj tb.fits;refine wpAny_pyIter_slot ty F.slot_set_iter (wpAny_call_entry F.slot_set_iter ty F4.entry_set_iter ?_ (F.args_set_iter_1 _));unfold Builtin.«frozenset.__iter__»;refine wpAny_bind (m:=Builtin.Frozenset.slot0 "__iter__" _) (wpAny_pure ?_);refine wpAny_bind (wpAny_bind (wpAny_setEntries_of hS hd tb.fits (wpAny_pure ?_)));unfold setDrawn;refine wpAny_bind ?_;refine wpAny_bind (wpAny_setState_of hS hd tb.fits (wpAny_bind (zf4 (wpAny_pure ?_))));show wpAny _ _ (if (!w.params.followText "set-order" && (!t.plain && decide (es.size>1)))=true then _ else _) _ _ s;cases hb:w.params.followText "set-order" with
 | true =>
  refine ziG (by simp) (wpAny_bind (wpAny_pure ?_));refine wpAny_bind (wpAny_setEpoch_of hS hd tb.fits ?_);refine wpAny_bind (wpAny_newObj_type (wpAny_pure ⟨_,rfl,"set_iterator",_,⟨_,Heap.get?_push_size _ rfl,rfl⟩,F4.slot_si_next.lookup,?_⟩));have hp:=zkR (w.params.setOrder S ep) es;refine h _ _ s.drawn [s.heap.objs.size,S] ((pickOrder (w.params.setOrder S ep) es).toList.map (·.2)) _ (Nat.le_refl _) (fun b hb'=>?_) (fun b o e=>Heap.get?_push_of_some _ e) (hp.map _)
   (fun A' hh=>zor hh (Nat.ne_of_lt lt) hd tb.fits (pickOrder (w.params.setOrder S ep) es).toList (fun _=>0) (fun i e hi A Q E s hS q=>zg2 hS hd tb.fits hb (by rw [Array.getElem?_toList] at hi; rw [hi]; exact q)) fun A Q E s hS q=>zg2 hS hd tb.fits hb (by rw [Array.length_toList,Array.getElem?_eq_none (Nat.le_refl _)]; exact q))
   ⟨Heap.get?_push_size _ rfl,Heap.get?_push_of_some _ hS⟩
  simp only [List.mem_cons,List.not_mem_nil,or_false] at hb';exact hb'.elim (fun e=>.inr (Nat.le_of_eq e.symm)) .inl
 | false =>
  have hl:t.led=true:=by rw [tb.led,hb]; rfl
  cases hdr:(!t.plain && decide (es.size>1)) with
  | false =>
   refine ziG (by simp) (wpAny_bind (wpAny_pure ?_));refine wpAny_bind (wpAny_setEpoch_of hS hd tb.fits ?_);refine wpAny_bind (wpAny_newObj_type (wpAny_pure ⟨_,rfl,"set_iterator",_,⟨_,Heap.get?_push_size _ rfl,rfl⟩,F4.slot_si_next.lookup,?_⟩));refine h _ _ s.drawn [s.heap.objs.size,S] (es.toList.map (·.2)) _ (Nat.le_refl _) (fun b hb'=>?_) (fun b o e=>Heap.get?_push_of_some _ e) (List.Perm.refl _)
    (fun A' hh=>zor hh (Nat.ne_of_lt lt) hd tb.fits es.toList (zfu t) (fun i e hi A Q E s hS q=>zjm (i:=i) hS hd tb.fits hb hdr hl (zjD tb.rise i ?_) ?_) fun A Q E s hS q=>zjm hS hd tb.fits hb hdr hl (zjD tb.rise _ (by rw [Array.length_toList]; omega)) (by rw [Array.length_toList,Array.getElem?_eq_none (Nat.le_refl _)]; exact q))
    ⟨Heap.get?_push_size _ rfl,Heap.get?_push_of_some _ hS⟩
   ·simp only [List.mem_cons,List.not_mem_nil,or_false] at hb';exact hb'.elim (fun e=>.inr (Nat.le_of_eq e.symm)) .inl
   ·have:=(List.getElem?_eq_some_iff.mp hi).1;rw [Array.length_toList] at this;omega
   ·have il:=(List.getElem?_eq_some_iff.mp hi).1;rw [Array.length_toList] at il;rw [Array.getElem?_toList] at hi;have ip:i<t.place.size:=by omega
    rw [hi,Array.getElem?_eq_getElem ip];have:zfu t (i+1)=t.place[i]+1:=by simp [zfu,Array.getD,ip]
    rw [this] at q;exact q
  | true =>
   refine zie (by simp) ?_;refine wpAny_bind (zfN es.size (List.range es.size) s _ (by simp) fun d ys hp=>wpAny_bind (wpAny_newTuple ?_ ?_))
   ·have hS1:(s.heap.push { cls:=.type "tuple",data:=.seq (ys.map fun i:Nat=>rawInt i).toArray }).get? S=some o:=Heap.get?_push_of_some _ hS;refine wpAny_bind (wpAny_setEpoch_of (s:={ s with heap:=s.heap.push { cls:=.type "tuple",data:=.seq (ys.map fun i:Nat=>rawInt i).toArray },drawn:=d }) hS1 hd tb.fits ?_);refine wpAny_bind (wpAny_newObj_type (wpAny_pure ⟨_,rfl,"set_iterator",_,⟨_,Heap.get?_push_size _ rfl,rfl⟩,F4.slot_si_next.lookup,?_⟩));have sz:(s.heap.push { cls:=.type "tuple",data:=.seq (ys.map fun i:Nat=>rawInt i).toArray }).objs.size=s.heap.objs.size+1:=Heap.size_push ..;refine h _ _ d [(s.heap.push { cls:=.type "tuple",data:=.seq (ys.map fun i:Nat=>rawInt i).toArray }).objs.size,S,s.heap.objs.size] (ys.map fun p=>(es.getD p (0,.none)).2) _ (by rw [sz]; exact Nat.le_succ _) (fun b hb'=>?_) (fun b o e=>Heap.get?_push_of_some _ (Heap.get?_push_of_some _ e)) ?_
     (fun A' hh=>zq2 hh ?_ ?_ hd tb.fits ys fun p m=>?_)
     ⟨Heap.get?_push_size _ rfl,Heap.get?_push_of_some _ hS1,Heap.get?_push_of_some _ (Heap.get?_push_size _ rfl)⟩
    ·simp only [List.mem_cons,List.not_mem_nil,or_false] at hb';rcases hb' with e | e | e
     ·exact .inr (by rw [e,sz]; exact Nat.le_succ _)
     ·exact .inl e
     ·exact .inr (Nat.le_of_eq e.symm)
    ·refine(hp.map _).trans ?_;have:(List.range es.size).map (fun p=>(es.getD p (0,.none)).2)=es.toList.map (·.2):=by
      refine List.ext_getElem (by simp) fun i h1 h2=>?_;have hi:i<es.size:=by simpa using h1
      simp [Array.getD,hi]
     rw [this]
    ·rw [sz];exact Nat.ne_of_lt (Nat.lt_succ_of_lt lt)
    ·rw [sz];exact Nat.ne_of_lt (Nat.lt_succ_self _)
    ·exact List.mem_range.mp (hp.mem_iff.mp m)
   ·have:=hp.length_eq;rw [List.length_range] at this;rw [List.length_map,sizeLine_eq];omega
end
end
section
namespace F4
theorem len_set:typeLookup (.type "set") "__len__" = pure (some (.builtin "set.__len__")):=by rw [typeLookup_type,builtinLookup_eq_fast]; kernel_rfl
end F4
section
variable {prog:Program} {w:World} {A:Around} {E:Value->Shared->Prop} {s:Shared}
theorem zjJ{L:Addr}{c:Nat}{Q:Unit->Shared->Prop}(hL:s.heap.get? L=some (seqObj "list" #[] c))(h:∀ h' c',Heap.SameBut L s.heap h'->h'.get? L=some (seqObj "list" #[] c')->Q () { s with heap:=h' }):
  wpAny (model prog w) A (Builtin.List.listTouch (.ref L)) Q E s:=by
 unfold Builtin.List.listTouch;have g1:=get?_update_seq hL (fun xs=>xs.push .none);refine wpAny_bind (listUpdate_at hL rfl ?_ (Nat.zero_le _) (by show (#[]:Array Value).size+1<=_; simp));have g2:=get?_update_seq g1 (fun xs=>xs.pop);refine listUpdate_at (s:={ s with heap:=s.heap.update L (Obj.mapSeq fun xs=>xs.push .none) }) g1 rfl ?_ (by simp [sizeLine_eq]) (by simp);exact h _ _ ((Heap.SameBut.update ..).trans (Heap.SameBut.update ..)) g2
theorem zdr{S:Addr}{o:Obj}{es:Array (Int×Value)}{t:SetTable}{ep:Nat}{Q:List Value->Shared->Prop}(hh:A.handled=none)(hS:s.heap.get? S=some o)(hx:o.ExactSet)(hd:o.data=.set es ep t)(tb:Tab (!w.params.followText "set-order") t es.size)(hz:es.size<100)
  (h:∀ h' d us,us.Perm (es.toList.map (·.2))->(∀ b o,s.heap.get? b=some o->h'.get? b=some o)->Q us { s with heap:=h',drawn:=d }):wpAny (model prog w) A (collect (.ref S)) Q E s:=by
 have lt:=Heap.lt_size hS;unfold collect;refine wpAny_bind (wpAny_runValue (codeAny_builtin F.entry_proto_collect ?_));rw [Around.under_plainId F.plain_proto_collect _];show wpAny _ A.in1 (newList [] >>= fun l=>again (.builtin "list.__iadd__" ⟨[l,.ref S],[]⟩)) _ _ s;refine wpAny_bind (wpAny_newObj_type ?_);refine wpAny_pure ⟨plainId_quiet F.plain_list_iadd _,codeAny_builtin F.entry_list_iadd ?_⟩;rw [Around.under_plainId F.plain_list_iadd _];have hL:(s.heap.push (seqObj "list" #[] 0)).get? s.heap.objs.size=some (seqObj "list" #[] 0):=Heap.get?_push_size _ rfl;have hS1:(s.heap.push (seqObj "list" #[] 0)).get? S=some o:=Heap.get?_push_of_some _ hS;have sz:(s.heap.push (seqObj "list" #[] 0)).objs.size=s.heap.objs.size+1:=Heap.size_push ..;show wpAny _ A.in1 (Builtin.List.listExtendWith (.ref s.heap.objs.size) (.ref S) (.ref s.heap.objs.size)) _ _ { s with heap:=s.heap.push (seqObj "list" #[] 0) };have ty:Shared.TypeIs { s with heap:=s.heap.push (seqObj "list" #[] 0) } (.ref S) "set":=⟨o,hS1,hx.1⟩;have sr:Builtin.List.listSameRef (.ref s.heap.objs.size) (.ref S)=false:=by simp [Builtin.List.listSameRef,Nat.ne_of_gt lt]
 unfold Builtin.List.listExtendWith;refine wpAny_bind (wpAny_typeOf ty ?_);rw [if_neg (by rw [sr]; decide)];refine wpAny_bind (zmH (s:={ s with heap:=s.heap.push (seqObj "list" #[] 0) }) hS1 hx hd tb hz fun I h' d fp us St hI hfp kp hp W st0=>?_);have ty':Shared.TypeIs { s with heap:=h',drawn:=d } (.ref S) "set":=⟨o,kp S o hS1,hx.1⟩;refine wpAny_bind (wpAny_holding ?_);unfold Builtin.List.listLengthHint;refine wpAny_bind (wpAny_specialOf ty' F4.len_set ?_)
 (generalize hid:("set.__len__":String)=id0; (fail_if_success (clear hid id0)); wp_delta; rw [show splitId id0=some ("set","__len__") from by subst hid; decide +kernel]; subst hid)
 refine wpAny_bind (wpAny_isInstance (b:=true) ty' sub_set_self ?_);refine ziG (by decide) ?_;refine zie (by decide +kernel) ?_;refine wpAny_bind (wpAny_typeOf ty' (wpAny_pure ?_));refine zie (by decide +kernel) ?_;refine wpAny_bind (wpAny_rule ?_);have hL':h'.get? s.heap.objs.size=some (seqObj "list" #[] 0):=kp _ _ hL;have nL:s.heap.objs.size∉fp:=fun m=>by
  rcases hfp _ m with e | e
  ·exact absurd e (Nat.ne_of_gt lt)
  ·have e':s.heap.objs.size+1<=s.heap.objs.size:=by rw [<- sz]; exact e
   omega
 refine wpAny_bind (zjJ (s:={ s with heap:=h',drawn:=d }) hL' fun h2 c2 sb hL2=>?_);have W1:=W A.in1 hh;refine wpAny_pure ⟨plainId_quiet F.plain_extend_loop _,znh W1 (by rw [hp.length_eq,List.length_map,Array.length_toList]; omega) _ nL _ _ 0 { s with heap:=h2,drawn:=d } #[] c2 rfl (Nat.zero_le _) (W1.frame 0 h' h2 st0 fun b hb ob e=>sb.extBut b ob (fun z=>nL (z▸hb)) e) hL2 rfl fun h3 c3 kp3 hL3=>?_⟩;refine wpAny_bind (wpAny_load hL3 ?_);show wpAny _ _ (pure us.toArray.toList) _ _ _;rw [List.toList_toArray];refine wpAny_pure (h h3 d us hp fun b ob e=>?_);have lb:=Heap.lt_size e;refine kp3 b ob (Nat.ne_of_lt lb) (fun z=>?_) (sb.extBut b ob (Nat.ne_of_lt lb) (kp b ob (Heap.get?_push_of_some _ e)));rw [z] at lb;have hI':s.heap.objs.size+1<=I:=by rw [<- sz]; exact hI
 exact absurd (Nat.lt_trans lb hI') (Nat.lt_irrefl _)
theorem zbu:∀ (l m:List Int),l.Nodup->(∀ x∈l,x∈m)->l.length<=m.length
 | [],m,_,_=>Nat.zero_le _
 | a :: l,m,nd,h=>by
  obtain⟨n1,n2⟩:=List.nodup_cons.mp nd;have ma:=h a List.mem_cons_self;have:=zbu l (m.erase a) n2 fun x mx=>(List.mem_erase_of_ne (show x≠a from fun e=>n1 (by rw [<- e]; exact mx))).mpr (h x (List.mem_cons_of_mem _ mx));rw [List.length_erase_of_mem ma] at this;have:0<m.length:=List.length_pos_of_mem ma;rw [List.length_cons];omega
theorem zgt:∀ {us:List Value} (h:∀ v∈us,∃ n t,v=Value.int n t),∃ ns,IntsAre us ns/\ns=us.map fun v=>kE (0,v)
 | [],_=>⟨[],.nil,rfl⟩
 | v :: us,h=>by
  obtain⟨n,t,rfl⟩:=h v List.mem_cons_self;obtain⟨ns,h1,h2⟩:=zgt (us:=us) fun v m=>h v (List.mem_cons_of_mem _ m);exact⟨n :: ns,.cons n t h1,by rw [h2]; rfl⟩
theorem zjQ{l:Addr}{vs:Array Value}{ns:List Int}{Q:Value->Shared->Prop}(hh:A.handled=none)(hl:s.heap.IsList l vs)(hz:vs.size=ns.length)(hv:∀ (i:Nat) v,vs[i]? = some v->∃ tk,v=.int (ns.getD i 0) tk)(hn:ns.length<60)
  (h:∀ D h' tk d out ms c,s.heap.objs.size<=D->(∀ b o,s.heap.get? b=some o->h'.get? b=some o)->IntsAre out ms->ms.Pairwise (· < ·)->(∀ x,x∈ms↔x∈ns)->h'.get? D=some (seqObj "list" out.toArray c)->Q (.ref D) { s with heap:=h',toks:=tk,drawn:=d }) :
  wpAny (model prog w) A (call (.type "set") [.ref l]) (fun a s'=>wpAny (model prog w) A (call (.builtin "sorted") [a]) Q E s') E s:=by
 refine zkM hh hl hz hv (by omega) fun a h1 tk es ha kp1 hSI hk=>?_;obtain⟨o,ep,t,ho,hex,hd,hok,hnd,hz',tb⟩:=hSI;refine Calls.call_function_entry kind_sorted plain_sorted entry_sorted (args_sorted1 _) ?_;unfold Builtin.«sorted»;refine wpAny_bind (m:=checkCount "sorted" 1 1 1) (wpAny_pure ?_);refine wpAny_bind (zdr (s:={ s with heap:=h1,toks:=tk }) (A:=A.in1) hh ho hex hd tb hz' fun h2 d us hp kp2=>?_);have ul:us.length=es.size:=by rw [hp.length_eq,List.length_map,Array.length_toList]
 have ui:∀ v∈us,∃ n t,v=Value.int n t:=fun v m=>by
  obtain⟨e,me,rfl⟩:=List.mem_map.mp (hp.mem_iff.mp m);obtain⟨n,t,e1,_⟩:=hok e me;exact⟨n,t,e1⟩
 obtain⟨ns0,hI,e0⟩:=zgt ui;have p0:ns0.Perm (es.toList.map kE):=by
  rw [e0];refine(hp.map fun v=>kE (0,v)).trans ?_;rw [List.map_map];exact List.Perm.refl _
 have el:es.size<=ns.length:=by
  have:=zbu _ ns hnd fun x m=>(hk x).mp m
  rwa [List.length_map,Array.length_toList] at this
 refine wpAny_bind (wpAny_newList ?_ (by rw [ul,sizeLine_eq]; omega));have hoL:(h2.push (seqObj "list" us.toArray 0)).get? h2.objs.size=some (seqObj "list" us.toArray 0):=Heap.get?_push_size _ rfl;refine wpAny_bind (wpAny_holding (wpAny_call_entry slot_list_sort ⟨_,hoL,rfl⟩ entry_list_sort (list_sort_tree (s:={ s with heap:=h2.push (seqObj "list" us.toArray 0),toks:=tk,drawn:=d }) hoL hI (by omega) fun out ms a1 a2 a3=>⟨_,rfl,?_⟩) (args_list_sort _)));have np:ms.Nodup:=(a2.trans p0).nodup_iff.mpr hnd;obtain⟨c,hc⟩:=sortedHeap_at (out:=out) hoL;refine wpAny_pure ⟨_,rfl,h h2.objs.size _ tk d out.toList ms c ?_ (fun b o e=>?_) a1 ?_ (fun x=>?_) ?_⟩
 ·exact Nat.le_trans ha (Nat.le_of_lt (Heap.lt_size (kp2 a o ho)))
 ·have e2:=kp2 b o (kp1 b o e);have lb:=Heap.lt_size e2;rw [sortedHeap_old (Nat.ne_of_lt lb) (by rw [size_push']; exact Nat.lt_succ_of_lt lb)];exact Heap.get?_push_of_some _ e2
 ·exact(List.Pairwise.and a3 np).imp fun⟨h1,h2⟩=>by omega
 ·rw [(a2.trans p0).mem_iff,hk x]
 ·simpa using hc
end
end
section
theorem Inv.drw{X:Cx}{zf:List (Addr×Obj)}{σ:St}{H:Hp}{s:Shared}(d:Drawn)(I:Inv X zf σ H s):Inv X zf σ H { s with drawn:=d } :=
 I.call (h':=s.heap) (g':=s.gens) (t':=s.toks) (ch:=[]) Un.refl I.hok I.bare (fun _ z=>nomatch z)
theorem zgf:bootBuiltins "set" = some (.type "set"):=by decide +kernel
def zjC(K:W.Frag):List V->Hp->VK->Prop:=fun xs H Q=>∃ (p:Addr) (ns:List Int),xs=[.ref p]/\SqL K H p (ns.map V.int)/\ns.length<60/\∀ (l:Addr) (ms:List Int),H l=none->ms.Pairwise (· < ·)->(∀ x,x∈ms↔x∈ns)->Q (.ref l) (upd H l (.lst (ms.map V.int)))
theorem zeB:∀ {vs:List Value} {ns:List Int},IntsAre vs ns->∀ (i:Nat) v,vs[i]? = some v->∃ tk,v=.int (ns.getD i 0) tk
 | _,_,.nil,i,v,h=>by simp at h
 | _,_,.cons n t h,0,v,e=>⟨t,by simpa using e.symm⟩
 | _,_,.cons n t h,i+1,v,e=>by
  have:=zeB h i v (by simpa using e);simpa using this
theorem zch:∀ {vs:List Value} {ns:List Int},IntsAre vs ns->vs.length=ns.length
 | _,_,.nil=>rfl
 | _,_,.cons n t h=>by simp [zch h]
section
variable {X:Cx} {e:Expr} {t:TA} {p p2 pos pos2:Pos}
theorem zkl(hc:X.calm=true)(hgs:Gl X "sorted")(hms:X.mg "sorted" = none)(hgt:Gl X "set")(hmt:X.mg "set" = none)(ha:PA X [e] t)
  (he:starEach [e] X.env=(false,eval e X.env) :: starEach [] X.env:=by rfl) (hpl:(backTo pos2 (starEach [] X.env)).any (·.1)=false:=by rfl)
  (he2:starEach [Expr.Call (.Name "set" p2) [e] [] pos2] X.env=(false,eval (Expr.Call (.Name "set" p2) [e] [] pos2) X.env) :: starEach [] X.env:=by rfl) (hpl2:(backTo pos (starEach [] X.env)).any (·.1)=false:=by rfl) :
  PE X (.Call (.Name "sorted" p) [.Call (.Name "set" p2) [e] [] pos2] [] pos) (tCB (zjC X.K) t):=by
 intro zf s σ H Q I h;refine wpAny_Call_Name_kw (zcC I hgs hms boot_sorted ?_);refine PyProof.Rows.callWith_builtin1 ?_ he2 hpl2;rw [he2];show wpAny _ _ (spliced [(false,eval (Expr.Call (.Name "set" p2) [e] [] pos2) X.env)]) _ _ s;refine Calls.spliced_cons ?_;refine wpAny_Call_Name_kw (zcC I hgt hmt zgf ?_);refine PyProof.Rows.callWith_type1 (thn (ha pos2 zf s σ H _ I h) fun us s1 ⟨vs,H1,I1,r1,q1⟩=>?_) he hpl;obtain⟨pl,ns,rfl,hq,hn,q⟩:=q1;obtain⟨u,rfl,rx⟩:=vals1 r1;cases (show u=Value.ref pl from rx);obtain⟨its,rv,pl',_⟩:=I1.list hq;have hI:=zaW rv;refine wpAny_mono (zjQ (ns:=ns) (I1.ok.hd hc) pl'.isList (by rw [List.size_toArray]; exact zch hI) (fun i v hv=>zeB hI i v (by simpa using hv)) hn fun D h' tk d out ms c hD kp oI pw mm hg=>?_) (fun a s2 z=>Calls.spliced_nil z) fun _ _ z=>z;refine⟨.ref D,_,((I1.drw d).laid (t':=tk) kp hD (show ObjOk X.prog X.w _ h' D (.lst (ms.map V.int)) from⟨?_,out,c,zbJ oI,hg⟩)),rfl,q D ms (I1.hok.fresh hD) pw mm⟩;have:=zbu ms ns (pw.imp fun h=>by omega) fun x m=>(mm x).mp m;rw [List.length_map,sizeLine_eq];omega
end
def zeF:List XV->Sto->RX->Prop:=fun xs S R=>arg1 xs fun x=>∃ ds,zjj S x=some ds/\∃ ns:List Int,ds=ns.map PyData.int/\ns.length<60/\∀ ms:List Int,ms.Pairwise (· < ·)->(∀ x,x∈ms↔x∈ns)->R (.d (.list (ms.map PyData.int))) S
theorem zjP{K:W.Frag}:RC (zjC K) zeF:=fun h o H S xs vs R Q hs hx q c=>by
 obtain⟨x,rfl,ds,hd,ns,rfl,hn,q1⟩:=zaC q;obtain⟨v,rfl,hx1⟩:=hxs1 hx;obtain⟨a,ws,rfl,ea,l⟩:=zbK hs hd hx1;rw [zbe l] at ea;refine⟨a,ns,rfl,.of ea,hn,fun l ms hl pw mm=>?_⟩;exact zgr hs (zcg ms) c (q1 ms pw mm) l hl
end
section
theorem zfq(f:Array Value->Array Value)(o:Obj):(Obj.mapFields f o).dict=o.dict:=by
 unfold Obj.mapFields;split <;> rfl
def RecAt(h base:Heap)(e:Addr)(cls:Value)(dx:Option Addr)(a0 fl:Value):Prop :=
 ∃ oe vs T oT ts,h.get? e=some oe/\oe.cls=cls/\oe.dict=dx/\oe.data=.fields vs/\vs[0]? = some a0/\vs[1]? = some (.ref T)/\base.get? T=none/\T≠e/\h.get? T=some oT/\oT.data=.fields ts/\ts[3]? = some fl
structure NotedD(base:Heap)(l:List Env)(e:Addr)(cls:Value)(dx:Option Addr)(a0 fl:Value)(h h':Heap):Prop where
 stays:base.StaysIn h'
 frames:h'.FunFrames base l
 rcd:RecAt h' base e cls dx a0 fl
 upto:h.UpToSlots h'
def FlyD(base:Heap)(l:List Env)(e:Addr)(cls:Value)(dx:Option Addr)(a0:Value)(h:Heap):Prop:=base.StaysIn h/\base.get? e=none/\h.FunFrames base l/\RecAt h base e cls dx a0 .none
def HeldD(base:Heap)(l:List Env)(e:Addr)(cls:Value)(dx:Option Addr)(a0:Value)(L:Addr)(h:Heap):Prop:=base.StaysIn h/\base.get? e=none/\h.FunFrames base l/\RecAt h base e cls dx a0 (rawInt L)
theorem FlyD.there{base h:Heap}{l:List Env}{e:Addr}{cls a0:Value}{dx:Option Addr}(x:FlyD base l e cls dx a0 h):∃ ob,h.get? e=some ob/\ob.cls=cls/\ob.dict=dx :=
 let ⟨_,_,_,oe,_,_,_,_,he,hc,hd,_⟩:=x; ⟨oe,he,hc,hd⟩
theorem FlyD.first{base h:Heap}{l:List Env}{e:Addr}{cls a0:Value}{dx:Option Addr}(x:FlyD base l e cls dx a0 h):∃ oe vs,h.get? e=some oe/\oe.cls=cls/\oe.data=.fields vs/\vs[0]? = some a0 :=
 let ⟨_,_,_,oe,vs,_,_,_,he,hc,_,hd,h0,_⟩:=x; ⟨oe,vs,he,hc,hd,h0⟩
section
variable {M:Model} {A:Around} {E:Value->Shared->Prop} {s:Shared}
theorem zgM{base:Heap}{env:Env}{outer:List Env}{L e:Addr}{oe:Obj}{vs:Array Value}{head a0:Value}{hadNext:Bool}{Q:Unit->Shared->Prop}
  (hfr:A.frames=some (env :: outer)) (hl:s.heap.FunFrames base (env :: outer)) (hf:env.frame=some L)
  (he:s.heap.get? e=some oe) (hkb:base.StaysIn s.heap) (hen:base.get? e=none) (hd:oe.data=.fields vs) (hsz:1<vs.size) (h0:vs[0]? = some a0)
  (h:∀ h',NotedD base (env :: outer) e oe.cls oe.dict a0 (rawInt L) s.heap h'->Q () { s with heap:=h' }) :
  wpAny M A (do let a <- frameOf env; let pl <- entryPlaceOf L hadNext; let b <- EntryCells.newEntry head a .none (rawInt L) .none pl; setField (.ref e) 1 b) Q E s:=by
 have ne:e∉(env :: outer).filterMap (·.frame):=fun hm=>by
  obtain⟨_,o,ho,nf⟩:=hl.mem hm;rw [he] at ho;cases ho;exact nf vs hd
 refine wpAny_bind (wpAny_frameOf_fun hfr hl hf fun h1 k1=>?_);refine wpAny_bind (wpAny_entryPlaceOf fun pl hpl=>?_);unfold EntryCells.newEntry newFields;refine wpAny_bind (wpAny_newObj_type ?_ (hpl.sizeOk5 _ _ _ _ _));have e1:h1.get? e=some oe:=(k1.2.1 e ne).trans he;have b1:base.StaysIn h1:=fun b o q=>(k1.2.1 b fun hm=>by rw [(hl.mem hm).1] at q; cases q).trans (hkb b o q);generalize hT:({ cls:=.type "traceback",dict:=none,data:=.fields ([head,.ref L,.none,rawInt L,.none]++(if pl.isEmpty then List.replicate 6 Value.none else pl)).toArray }:Obj)=tb;have dT:∃ ts,tb.data=.fields ts/\ts[3]? = some (rawInt L):=by
  subst hT;exact⟨_,rfl,by simp⟩
 obtain⟨ts,dT,zT⟩:=dT;have fT:tb.isFreed=false:=Obj.isFreed_of_fields dT;have e2:=Heap.get?_push_of_some (h:=h1) tb e1;refine wpAny_setField e2 hd hsz (h _ ?_);have nT:h1.objs.size≠e:=Nat.ne_of_gt (Heap.lt_size e1);have d3:=Obj.data_mapFields hd (·.setIfInBounds 1 (Value.ref h1.objs.size));have e3:=Heap.get?_update_self (Obj.mapFields (·.setIfInBounds 1 (Value.ref h1.objs.size))) e2 (Obj.isFreed_of_fields d3);have t3:=(Heap.get?_update_other (h1.push tb) (Obj.mapFields (·.setIfInBounds 1 (Value.ref h1.objs.size))) (Ne.symm nT)).trans (Heap.get?_push_size h1 fT);have keep:∀ b o,b≠e->h1.get? b=some o->((h1.push tb).update e (Obj.mapFields (·.setIfInBounds 1 (Value.ref h1.objs.size)))).get? b=some o:=fun b o nb q=>by
  rw [Heap.get?_update_other _ _ (Ne.symm nb)];exact Heap.get?_push_of_some _ q
 have nr:∀ b o,s.heap.get? b=some o->(∀ vs,o.data≠.fields vs)->b≠e:=fun b o q nf z=>by
  rw [z,he] at q;cases q;exact nf vs hd
 refine⟨fun b o q=>keep b o (fun z=>by rw [z,hen] at q; cases q) (b1 b o q),hl.of_keeps fun b o q nf=>?_,?_,fun b o q nf=>?_⟩
 ·obtain⟨sl,z⟩:=k1.2.2 b o q;exact⟨_,keep b _ (nr b o q nf) z,rfl⟩
 ·exact⟨_,_,h1.objs.size,_,_,e3,Obj.cls_mapFields _ _,zfq _ _,d3,by rw [Array.getElem?_setIfInBounds_ne (by decide)]; exact h0,by simp [hsz],b1.fresh,nT,t3,dT,zT⟩
 ·obtain⟨sl,z⟩:=k1.2.2 b o q;exact⟨sl,keep b _ (nr b o q nf) z⟩
theorem zcx{base:Heap}{l:List Env}{e:Addr}{cls a0 fl:Value}{dx:Option Addr}{Q:Unit->Shared->Prop}(hkb:base.StaysIn s.heap)(hen:base.get? e=none)(hl:s.heap.FunFrames base l)(ht:RecAt s.heap base e cls dx a0 fl)
  (h:∀ h',FlyD base l e cls dx a0 h'->s.heap.UpToSlots h'->Q () { s with heap:=h' }):wpAny M A (setFlight (.ref e) none) Q E s:=by
 obtain⟨oe,vs,T,oT,ts,he,hc,hx,hd,h0,h1,hnT,hTe,hT,hdT,h3⟩:=ht;have z3:3<ts.size:=(Array.getElem?_eq_some_iff.mp h3).1;have oth:∀ b,b≠T->(s.heap.update T (Obj.mapFields (·.setIfInBounds 3 ((none:Option Addr).elim Value.none fun f=>rawInt f)))).get? b=s.heap.get? b:=fun b hb=>Heap.get?_update_other _ _ (Ne.symm hb);have nr:∀ b o,s.heap.get? b=some o->(∀ vs,o.data≠.fields vs)->b≠T:=fun b o q nf z=>by
  rw [z,hT] at q;cases q;exact nf ts hdT
 unfold setFlight;refine wpAny_bind (wpAny_field he hd h1 ?_);rw [if_pos (show (Value.ref T != Value.none)=true from by simp)];refine wpAny_setField hT hdT z3 (h _ ⟨fun b o q=>(oth b fun z=>by rw [z,hnT] at q; cases q).trans (hkb b o q),hen,hl.of_keeps fun b o q nf=>⟨o,(oth b (nr b o q nf)).trans q,rfl⟩,?_⟩ fun b o q nf=>⟨o.slots,(oth b (nr b o q nf)).trans q⟩);exact⟨oe,vs,T,_,_,(oth e (Ne.symm hTe)).trans he,hc,hx,hd,h0,h1,hnT,hTe,Heap.get?_update_self _ hT (Obj.isFreed_of_fields (Obj.data_mapFields hdT _)),Obj.data_mapFields hdT _,by simp [z3]⟩
theorem zjT{base:Heap}{env:Env}{outer:List Env}{L e:Addr}{oe:Obj}{vs:Array Value}{a0:Value}{Q:Unit->Shared->Prop}
  (hfr:A.frames=some (env :: outer)) (hl:s.heap.FunFrames base (env :: outer)) (hf:env.frame=some L)
  (he:s.heap.get? e=some oe) (hkb:base.StaysIn s.heap) (hen:base.get? e=none) (hd:oe.data=.fields vs) (h1:vs[1]? = some .none) (h0:vs[0]? = some a0)
  (h:∀ h',NotedD base (env :: outer) e oe.cls oe.dict a0 (rawInt L) s.heap h'->Q () { s with heap:=h' }):wpAny M A (noteFrame (.ref e) env) Q E s:=by
 unfold noteFrame;simp only [hf];refine wpAny_bind (wpAny_field he hd h1 ?_);rw [if_neg (by decide)];exact zgM hfr hl hf he hkb hen hd (Array.getElem?_eq_some_iff.mp h1).1 h0 h
theorem zhl{base:Heap}{env:Env}{outer:List Env}{L e:Addr}{cls a0:Value}{dx:Option Addr}{Q:Unit->Shared->Prop}
  (hfr:A.frames=some (env :: outer)) (hl:s.heap.FunFrames base (env :: outer)) (hf:env.frame=some L) (ht:RecAt s.heap base e cls dx a0 .none) (hkb:base.StaysIn s.heap) (hen:base.get? e=none)
  (h:∀ h',NotedD base (env :: outer) e cls dx a0 (rawInt L) s.heap h'->Q () { s with heap:=h' }):wpAny M A (noteFrame (.ref e) env) Q E s:=by
 obtain⟨oe,vs,T,oT,ts,he,rfl,rfl,hd,h0,h1,hnT,hTe,hT,hdT,h3⟩:=ht;unfold noteFrame;simp only [hf];refine wpAny_bind (wpAny_field he hd h1 ?_);rw [if_pos (show (Value.ref T != Value.none)=true from by simp)];refine wpAny_bind (wpAny_field hT hdT h3 ?_);rw [if_neg (show ¬ ((Value.none == rawInt L)=true) from by simp [rawInt])];refine wpAny_bind (wpAny_setField hT hdT (Array.getElem?_eq_some_iff.mp h3).1 ?_);have oth:∀ b,b≠T->(s.heap.update T (Obj.mapFields (·.setIfInBounds 3 Value.none))).get? b=s.heap.get? b:=fun b hb=>Heap.get?_update_other _ _ (Ne.symm hb);have nr:∀ b o,s.heap.get? b=some o->(∀ vs,o.data≠.fields vs)->b≠T:=fun b o q nf z=>by
  rw [z,hT] at q;cases q;exact nf ts hdT
 refine zgM hfr (hl.of_keeps fun b o q nf=>⟨o,(oth b (nr b o q nf)).trans q,rfl⟩) hf ((oth e (Ne.symm hTe)).trans he)
  (fun b o q=>(oth b fun z=>by rw [z,hnT] at q; cases q).trans (hkb b o q)) hen hd (Array.getElem?_eq_some_iff.mp h1).1 h0
  fun h' x=>h h' ⟨x.stays,x.frames,x.rcd,fun b o q nf=>x.upto b o ((oth b (nr b o q nf)).trans q) nf⟩
theorem zlK{base:Heap}{env:Env}{outer:List Env}{L e:Addr}{cls a0:Value}{dx:Option Addr}{Q:Unit->Shared->Prop}(hfr:A.frames=some (env :: outer))(hf:env.frame=some L)(hfl:FlyD base (env :: outer) e cls dx a0 s.heap)
  (hQ:∀ h',FlyD base outer e cls dx a0 h'->s.heap.UpToSlots h'->Q () { s with heap:=h' }):wpAny M A (leaving env (.ref e)) Q E s:=by
 obtain⟨f1,f2,f3,f4⟩:=hfl;unfold leaving;refine wpAny_bind (zhl hfr f3 hf f4 f1 f2 fun h' x=>?_);refine zcx (s:={ s with heap:=h' }) x.stays f2 x.frames x.rcd fun h2 y u=>hQ h2 ⟨y.1,y.2.1,?_,y.2.2.2⟩ (x.upto.trans u);obtain⟨_,_,k⟩:=y.2.2.1;exact k
theorem zhh{base:Heap}{env:Env}{outer:List Env}{L e:Addr}{oe:Obj}{vs:Array Value}{a0:Value}{Q:Unit->Shared->Prop}
  (hfr:A.frames=some (env :: outer)) (hl:s.heap.FunFrames base (env :: outer)) (hf:env.frame=some L)
  (he:s.heap.get? e=some oe) (hkb:base.StaysIn s.heap) (hen:base.get? e=none) (hd:oe.data=.fields vs) (h1:vs[1]? = some .none) (h0:vs[0]? = some a0)
  (hQ:∀ h',FlyD base outer e oe.cls oe.dict a0 h'->s.heap.UpToSlots h'->Q () { s with heap:=h' }):wpAny M A (leaving env (.ref e)) Q E s:=by
 unfold leaving;refine wpAny_bind (zjT hfr hl hf he hkb hen hd h1 h0 fun h' x=>?_);refine zcx (s:={ s with heap:=h' }) x.stays hen x.frames x.rcd fun h2 y u=>hQ h2 ⟨y.1,y.2.1,?_,y.2.2.2⟩ (x.upto.trans u);obtain⟨_,_,k⟩:=y.2.2.1;exact k
theorem zmm{base:Heap}{env:Env}{outer:List Env}{L e:Addr}{cls a0:Value}{dx:Option Addr}{Q:Unit->Shared->Prop}(hfr:A.frames=some (env :: outer))(hf:env.frame=some L)(hfl:FlyD base (env :: outer) e cls dx a0 s.heap)
  (hQ:∀ h',HeldD base (env :: outer) e cls dx a0 L h'->s.heap.UpToSlots h'->Q () { s with heap:=h' }):wpAny M A (noteFrame (.ref e) env) Q E s:=by
 obtain⟨f1,f2,f3,f4⟩:=hfl;exact zhl hfr f3 hf f4 f1 f2 fun h' x=>hQ h' ⟨x.stays,f2,x.frames,x.rcd⟩ x.upto
theorem zrg{base:Heap}{l:List Env}{e L:Addr}{cls a0:Value}{dx:Option Addr}{Q:Unit->Shared->Prop}(hh:HeldD base l e cls dx a0 L s.heap)(hQ:∀ h',FlyD base l e cls dx a0 h'->s.heap.UpToSlots h'->Q () { s with heap:=h' }):wpAny M A (setFlight (.ref e) none) Q E s:=by
 obtain⟨f1,f2,f3,f4⟩:=hh;exact zcx f1 f2 f3 f4 hQ
theorem zhf{base:Heap}{l:List Env}{e:Addr}{cls a0:Value}{dx:Option Addr}{Q:Unit->Shared->Prop}(hh:FlyD base l e cls dx a0 s.heap)(hQ:∀ h',FlyD base l e cls dx a0 h'->s.heap.UpToSlots h'->Q () { s with heap:=h' }):wpAny M A (setFlight (.ref e) none) Q E s:=by
 obtain⟨f1,f2,f3,f4⟩:=hh;exact zcx f1 f2 f3 f4 hQ
end
theorem HOk.stays{P:Program}{w:World}{H:Hp}{h h':Heap}(x:HOk P w H h)(k:∀ b u,H b=some u->∀ o,h.get? b=some o->h'.get? b=some o):HOk P w H h':=fun a o e =>
 (x a o e).stay (fun b u hb q=>by
  rcases hb with rfl | hb
  ·exact k _ _ e _ q
  ·exact k _ _ hb _ q) (fun _ q=>q) fun _ _ q=>q
theorem ObjOk.obj{P:Program}{w:World}{H:Hp}{h:Heap}{a:Addr}{o:HO}(x:ObjOk P w H h a o):∃ u,h.get? a=some u:=by
 cases o with
 | lst xs=>obtain⟨_,_,_,_,e⟩:=x; exact⟨_,e⟩
 | tup xs=>obtain⟨_,_,_,o,e,_⟩:=x; exact⟨_,e⟩
 | dK kvs=>obtain⟨_,_,_,_,o,_,_,e,_⟩:=x; exact⟨_,e⟩
 | dT kvs=>obtain⟨_,_,_,_,o,_,_,e,_⟩:=x; exact⟨_,e⟩
 | set S n=>obtain⟨o,_,_,_,e,_⟩:=x; exact⟨_,e⟩
 | ins C dx fs=>obtain⟨_,_,_,e,_⟩:=x; exact⟨_,e⟩
 | own y=>exact x
 | xd fs=>obtain⟨_,⟨_,_,_,e,_⟩,_⟩:=x; exact⟨_,e⟩
 | rng lo hi=>obtain⟨_,_,_,e⟩:=x; exact⟨_,e⟩
 | frz ob u=>obtain⟨e,_⟩:=x; exact⟨_,e⟩
 | tbl ps=>exact⟨_,(show h.get? a=some _ from x)⟩
 | met f y=>exact⟨_,(show h.get? a=some _ from x)⟩
 | ext φ=>obtain⟨_,e,_⟩:=x; exact e
structure Fly(P:Program)(w:World)(outer:List Env)(H:Hp)(s:Shared)(H':Hp)(a C:Addr)(dx:Option Addr)(s':Shared):Prop where
 os:s'.os=s.os
 bare:AllBare s'.gens
 un:Un (frs outer) [] H H' s.heap s'.heap
 hok:HOk P w H' s'.heap
 fl:∃ B t,FlyD B outer a (.ref C) dx (.ref t) s'.heap/\(∀ b o,s.heap.get? b=some o->H b=none->b∉frs outer->B.get? b=some o)/\(∀ b o,s.heap.get? b=some o->b∈frs outer\/∃ o',B.get? b=some o')/\∀ b u,H' b=some u->∃ o,B.get? b=some o
def CX1(P:Program)(w:World):CXT:=fun outer H s E e s'=>∃ H' a C dx,e=.ref a/\Fly P w outer H s H' a C dx s'/\E (.ref C) (some a) (upd H' a (exO a C dx))
section
variable {P:Program} {w:World} {K:W.Frag} {mg:Str->Option Value} {base:Heap} {N:List Str} {qual:Str} {scope:Scope} {f:Addr} {cd:Value} {A:Around} {outer:List Env} {s:Shared} {H:Hp} {E:XK}
theorem pass1:Passes (CX1 P w) (zhk (CX1 P w) P w K mg base N qual scope f cd A outer s H E) E:=fun zf σ Hc sc e s' I hx=>by
 obtain⟨H',a,C,dx,rfl,F,hE⟩:=hx;obtain⟨B,t,fl,kB,eB,tB⟩:=F.fl;have hfr:(A.deeper (envOfC qual scope s.heap.objs.size f cd)).frames=some (envOfC qual scope s.heap.objs.size f cd :: outer):=I.ok.frames;have nl:∀ b o,s.heap.get? b=some o->b∉frs outer->b∉frs (envOfC qual scope s.heap.objs.size f cd :: outer):=fun b o q hb z=>by
  rcases List.mem_cons.mp (show b∈s.heap.objs.size :: frs outer from z) with e | e
  ·exact absurd (Heap.lt_size q) (by rw [e]; exact Nat.lt_irrefl _)
  ·exact hb e
 have nx:∀ b:Addr,b∉([]:List Addr):=fun b=>by simp
 have kp:∀ b o,s.heap.get? b=some o->H b=none->b∉frs outer->B.get? b=some o:=fun b o q n hb=>kB b o (I.base.keep b o q n hb (nx b)) (I.base.free b o q n (nx b)) (nl b o q hb);have ep:∀ b o,s.heap.get? b=some o->b∈frs outer\/∃ o',B.get? b=some o':=fun b o q=>by
  by_cases hb:b∈frs outer
  ·exact .inl hb
  ·obtain⟨o1,q1⟩:=I.base.there b o q (nx b);rcases eB b o1 q1 with z | z
   ·exact absurd z (nl b o q hb)
   ·exact .inr z
 show wpAny _ _ (leaving (envOfC qual scope s.heap.objs.size f cd) (.ref a)) _ _ s';refine zlK hfr rfl fl fun h' fl' sm=>⟨H',a,C,dx,rfl,⟨F.os.trans I.os,F.bare,⟨fun b o q n hb _=>fl'.1 b o (kp b o q n hb),fun b o q n hb _=>?_,fun b o q n _=>?_,fun b o q _=>?_,fun b xs q=>F.un.tups b xs (I.base.tups b xs q),fun b o u q=>F.un.frzs b o u (I.base.frzs b o u q),fun b ps q=>?_⟩,
  F.hok.stays fun b u e o q=>?_,B,t,fl',kp,ep,tB⟩,hE⟩
 ·obtain⟨sl,q1⟩:=I.base.slot b o q n hb (nx b);obtain⟨sl2,q2⟩:=F.un.any q1 (I.base.free b o q n (nx b)) (nx b);obtain⟨_,o3,q3,nf⟩:=fl.2.2.1.mem (show b∈frs (envOfC qual scope s.heap.objs.size f cd :: outer) from List.mem_cons_of_mem _ hb);rw [q2] at q3;cases q3;obtain⟨sl3,q4⟩:=sm b _ q2 nf;exact⟨sl3,q4⟩
 ·obtain⟨o1,q1⟩:=I.base.there b o q (nx b);exact F.un.free b o1 q1 (I.base.free b o q n (nx b)) (nx b)
 ·rcases ep b o q with z | ⟨o',z⟩
  ·obtain⟨_,o3,q3,_⟩:=fl'.2.2.1.mem (show b∈frs outer from z);exact⟨o3,q3⟩
  ·exact⟨o',fl'.1 b o' z⟩
 ·obtain⟨m1,e1⟩:=I.base.tbls b ps q;obtain⟨m2,e2⟩:=F.un.tbls b _ e1;exact⟨m1++m2,by rw [e2,Array.append_assoc]⟩
 ·obtain⟨o',z⟩:=tB b u e;have:=fl.1 b o' z;rw [q] at this;cases this;exact fl'.1 b o z
end
end
section
def veB:List Value:=[.type "ValueError",.type "Exception",.type "BaseException",.type "object"]
theorem zrK{K:W.Frag}{h:Heap}{N:Addr}{mg:Str->Option Value}{n:Str}{v:Value}(X:K.In h)(G:h.Ns N mg)(e:PySem.W.nsIn K N n=some (some v)):mg n=some v:=by
 obtain⟨o,es,ep,ho,hd,_,hf⟩:=G;unfold PySem.W.nsIn at e;split at e
 ·rename_i c d es' n' sl q;have:=X _ _ q;rw [ho] at this;cases this;cases hd;split at e
  ·rename_i en he;cases e;rw [<- hf];unfold nsFind findBy;rw [<- Array.find?_toList,he];rfl
  ·split at e <;> cases e
 ·cases e
structure ExCls(K:W.Frag)(C:Addr)(ini:Option Value):Prop where
 ob:∀ h,K.In h->∃ bm N nm qn bs hd sn sub ab col dd k0 k1 k2 k3 k5 mN,h.get? C=some (excClassObj nm qn C N bs bm hd sn sub ab col dd k0 k1 k2 k3 k5 "ValueError.__new__")/\h.Ns N mN/\mN "__init__" = ini/\OwnTail h veB bm/\∀ D,PySem.W.mroIn K C D=some ((Value.ref C :: bm).contains D)
 ty:(PySem.W.clsIn K C).isSome=true/\PySem.W.typeIn K (.ref C)=some (.type "type")
theorem exc_of_in{K:W.Frag}{C:Addr}(q:PySem.W.excIn K C veB "ValueError.__new__" = true):ExCls K C none:=by
 unfold PySem.W.excIn at q;split at q
 ·rename_i dd cd sl ho;split at q
  ·rename_i C' bm k0 k1 k2 k3 n k5 hm hs;simp only [Bool.and_eq_true,beq_iff_eq,Bool.not_eq_true'] at q;obtain⟨⟨⟨⟨⟨rfl,rfl⟩,hdel⟩,ht⟩,hok⟩,hni⟩:=q;obtain⟨nm,bs,mro,ns,qn,hd,sn,sub,ab,col,del⟩:=cd;dsimp only at hm hdel hok hni;subst hm hdel;have hsl:sl = #[k0,k1,k2,k3,some (.builtin "ValueError.__new__"),k5]:=by
    obtain⟨l⟩:=sl;simp only at hs;rw [hs]
   subst hsl;refine⟨fun h X=>⟨bm,ns,nm,qn,bs,hd,sn,sub,ab,col,dd,k0,k1,k2,k3,k5,h.nsMap ns,X _ _ ho,.of_isNs (PySem.W.isNs_of_in X hok),PySem.W.ns_none_of X (.of_isNs (PySem.W.isNs_of_in X hok)) hni,PySem.W.tail_of_in X ht,fun D=>?_⟩,?_,?_⟩
   ·unfold PySem.W.mroIn PySem.W.clsIn;rw [ho];rfl
   ·unfold PySem.W.clsIn;rw [ho];rfl
   ·show Option.map (fun x:Obj=>x.cls) (K.lookup C')=_;rw [ho];rfl
  ·cases q
 ·cases q
section
variable {K:W.Frag} {h:Heap} {C G:Addr} {ini iniG:Option Value}
variable {M:Model} {A:Around} {E:Value->Shared->Prop} {g:Array GenState} {d:Drawn} {t:Nat} {os:OsState} {e:Addr} {oe:Obj} {Q:Bool->Shared->Prop}
theorem zfb(X:K.In h)(qC:ExCls K C ini)(qG:ExCls K G iniG)(he:h.get? e=some oe)(hcls:oe.cls=.ref C)(hin:PySem.W.mroIn K C (.ref G)=some true)(hq:Q true ⟨h,g,d,t,os⟩):wpAny M A (excMatches (.ref e) (.ref G)) Q E ⟨h,g,d,t,os⟩:=by
 obtain⟨tl,N,nm,qn,bs,hd,sn,sub,ab,col,dd,k0,k1,k2,k3,k5,mN,hC,_,_,T,mr⟩:=qC.ob h X;obtain⟨tlG,N',nm',qn',bs',hd',sn',sub',ab',col',dd',j0,j1,j2,j3,j5,mN',hG,_,_,T',_⟩:=qG.ob h X;replace hin:(Value.ref C :: tl).contains (.ref G)=true:=by rw [mr] at hin; exact Option.some.inj hin
 have hcB:(Value.ref G :: tlG).contains (.type "BaseException")=true:=by rw [List.contains_cons,T'.hasType (b:=true) (by decide +kernel),Bool.or_true]
 have f:=tc_notTuple;unfold excMatches
 repeat (first | (with_reducible refine wpAny_loadPart_at he ?_; rw [hcls]) | with_reducible refine wpAny_loadPart_at hG ?_ | (with_reducible refine wpAny_isSubtype_exc hG ?_; rw [hcB]) | (with_reducible refine wpAny_isSubtype_exc hC ?_; rw [hin]) | wp_step)
 exact hq
end
end
section
def PEX(X:Cx)(e:Expr)(t:XK->TE):Prop:=∀ (zf:List (Addr×Obj)) (s:Shared) (σ:St) (H:Hp) (Q:VK) (Ex:XK) (E':Value->Shared->Prop),Inv X zf σ H s->t Ex σ H Q ->
 (∀ H1 s1 v s',Inv X zf σ H1 s1->CX1 X.prog X.w X.stack H1 s1 Ex v s'->E' v s')->wpAny (model X.prog X.w) X.A (eval e X.env) (EP X zf σ Q) E' s
def PSX(X:Cx)(st:Stmt)(t:XK->TS):Prop:=∀ (zf:List (Addr×Obj)) (s:Shared) (σ:St) (H:Hp) (D:Ends) (Ex:XK) (E':Value->Shared->Prop),Inv X zf σ H s->t Ex D σ H ->
 (∀ H1 s1 v s',Inv X zf σ H1 s1->CX1 X.prog X.w X.stack H1 s1 Ex v s'->E' v s')->wpAny (model X.prog X.w) X.A (exec st X.env) (SP X zf D) E' s
section
variable {X:Cx} {k:Nat} {f:Addr} {fd:FuncData} {ps:List Str} {sp:Sp} {x:Str} {p pos:Pos} {e e1:Expr} {es:List Expr} {t:TA} {te:TE} {tx:XK->TE}
theorem zpc(hx:∀ e s,X.xe e s->False)(F:FnOk X.prog X.w X.K X.mg X.base (CX1 X.prog X.w) k f fd ps sp)(hr:Room k X.A)(hg:Gl X x)(hm:X.mg x=some (.ref f))(hk:PySem.W.keepIn X.K (.ref f)=true)(hb:Binds X.K fd ps [])
  (ha:PA X (e :: es) t) (hdb:(x == ("__debug__":Str))=false:=by decide) (he:starEach (e :: es) X.env=(false,eval e X.env) :: starEach es X.env:=by rfl) (hpl:(backTo pos (starEach es X.env)).any (·.1)=false:=by rfl) :
  PEX X (.Call (.Name x p) (e :: es) [] pos) (fun Ex σ H Q=>t σ H fun vs H1=>sp vs H1 Q Ex):=by
 intro zf s σ H Q Ex E' I h hX;refine wpAny_Call_Name_kw (zeW I hg hm ?_ hdb);refine PySem.W.callWith_K (h₀:=X.base) I.ok.mod.kin hk (wpAny_mono (ha pos zf s σ H _ I h) (fun us s1 ⟨vs,H1,I1,r,q⟩=>⟨I1.kIn,?_⟩) fun _ _ z=>(hx _ _ z).elim) he hpl;have hl:us.length=ps.length:=by rw [<- r.length]; exact F.len _ _ _ _ q
 have hb1:=hb s1 us I1.kIn (by rw [List.append_nil]; exact hl);rw [List.append_nil] at hb1;refine wpAny_call (codeAny_mono (F.run X.A X.stack s1 H1 ⟨us,[]⟩ us vs Q Ex hr I1.env0 hb1 r q) fun r s' hq=>?_);cases r with
 | error e=>exact hX H1 s1 e s' I1 hq
 | ok fl =>
  cases fl with
  | ret u=>exact I1.after hq
  | next=>exact False.elim hq
  | brk=>exact False.elim hq
  | cont=>exact False.elim hq
theorem zhL(he:PEX X e tx)(hs:swapsWith e none pos.line X.env=pure false:=by rfl):PSX X (.Expr e pos) (fun Ex=>znG (tx Ex)):=by
 intro zf s σ H D Ex E' I h hX;exact wpAny_Expr_any (thn (he zf s σ H _ Ex E' I h hX) fun v s1 ⟨x,H1,I1,r1,q1⟩=>⟨σ,H1,I1,q1⟩) I.quiet hs
end
theorem zqV{P:Program}{w:World}{H:Hp}{h:Heap}{a C:Addr}{o:Obj}(e:h.get? a=some o)(c:o.cls=.ref C)(hf:∃ vs,o.data=.fields vs):ObjOk P w H h a (exO a C o.dict) :=
 ⟨⟨o,e,c,rfl,hf⟩,⟨o,e⟩,fun h1 h2 ⟨o,e,c,d⟩ k=>⟨o,k o e,c,d⟩⟩
abbrev Cx.suite (X:Cx) (a:Addr):Cx:={ X with A:=X.A.mark (some (.ref a)),calm:=false,xe:=fun _ _=>False }
theorem Cx.Ok.suite{X:Cx}(ok:X.Ok)(a:Addr):(X.suite a).Ok :=
 ⟨ok.mod,ok.kind,ok.glob,ok.blt,ok.above,ok.inj,ok.has,ok.cab,(fun z=>Bool.noConfusion z),ok.frames,ok.stk,ok.exf,ok.bs,ok.bsz,ok.noex,ok.exfs,ok.funs,ok.frf⟩
section
variable {X:Cx} {zf:List (Addr×Obj)} {σ:St} {H:Hp} {s:Shared} {a:Addr}
theorem Inv.suite(I:Inv X zf σ H s)(a:Addr):Inv (X.suite a) zf σ H s:=⟨I.ok.suite a,I.os,I.bare,I.base,I.loc,I.cell,I.free,I.freeC,I.pin,I.hok,I.len⟩
theorem Inv.unsuite(I:Inv (X.suite a) zf σ H s)(ok:X.Ok):Inv X zf σ H s:=⟨ok,I.os,I.bare,I.base,I.loc,I.cell,I.free,I.freeC,I.pin,I.hok,I.len⟩
theorem Inv.gone{h':Heap}{m':Str->Option Value}{t':Nat}(I:Inv X zf σ H s)(hn:h'.Ns X.env.locals m')(sb:Heap.SameBut X.env.locals s.heap h'):Inv X zf (List.replicate X.N.length none) H { s with heap:=h',toks:=t' }:=by
 have ne:∀ b o,X.s₀.heap.get? b=some o->b≠X.env.locals:=fun b o e=>Nat.ne_of_lt (Nat.lt_of_lt_of_le (Heap.lt_size e) I.ok.above);refine⟨I.ok,I.os,I.bare,⟨fun b o e n hb hx=>?_,fun b o e n hb hx=>?_,I.base.free,fun b o e hx=>?_,I.base.tups,I.base.frzs,I.base.tbls⟩,⟨m',hn,fun i x v _ e2 _=>?_⟩,fun x c e=>?_,I.free,I.freeC,fun p hp=>?_,I.hok.stays fun b u e o q=>?_,by simp⟩
 ·exact(sb.2 b (ne b o e)).trans (I.base.keep b o e n hb hx)
 ·obtain⟨sl,q⟩:=I.base.slot b o e n hb hx;exact⟨sl,(sb.2 b (ne b o e)).trans q⟩
 ·obtain⟨o',q⟩:=I.base.there b o e hx;exact⟨o',(sb.2 b (ne b o e)).trans q⟩
 ·rw [List.getElem?_replicate] at e2;split at e2 <;> cases e2
 ·obtain⟨v,o,ho,hd⟩:=I.cell x c e;exact⟨v,o,(sb.2 c (I.cne x c e)).trans ho,hd⟩
 ·obtain⟨e,n,ne',nf,d⟩:=I.pin p hp;exact⟨(sb.2 _ ne').trans e,n,ne',nf,d⟩
 ·refine(sb.2 b ?_).trans q;rintro rfl;rw [I.free] at e;cases e
end
end
section
structure RoomN(k:Nat)(A:Around):Prop where
 dp:A.depth+3*k+5<recursionLimit
 un:A.units+16*k+200<cLine
theorem Room.suite{k:Nat}{A:Around}(r:Room k A)(a:Addr):RoomN k (A.mark (some (.ref a))):=⟨r.dp,r.un⟩
theorem RoomN.mono{j k:Nat}{A:Around}(r:RoomN k A)(h:j<=k):RoomN j A:=⟨by have:=r.dp; omega,by have:=r.un; omega⟩
theorem RoomN.deeper{k:Nat}{A:Around}(r:RoomN (k+1) A)(env:Env):RoomN k (A.deeper env) :=
 ⟨by have:=r.dp; show A.depth+1+3*k+5<_; omega,by have:=r.un; show A.units+3+16*k+200<_; omega⟩
theorem RoomN.depth{k:Nat}{A:Around}(r:RoomN k A):A.depth<recursionLimit:=by have:=r.dp; omega
theorem RoomN.units{k:Nat}{A:Around}(r:RoomN k A):A.units+64<cLine:=by have:=r.un; omega
structure FnOkN(P:Program)(w:World)(K:W.Frag)(mg:Str->Option Value)(base:Heap)(CX:CXT)(k:Nat)(f:Addr)(fd:FuncData)(ps:List Str)(sp:Sp):Prop where
 len:∀ vs H Q E,sp vs H Q E->vs.length=ps.length
 run:∀ (A:Around) (outer:List Env) (s:Shared) (H:Hp) (args:Args) (us:List Value) (vs:List V) (Q:VK) (E:XK),RoomN k A->Env0 P w K mg base A outer s H->BindsTo s fd args (ps.zip us)->Vals vs us->sp vs H Q E ->
  codeAny (model P w) A (.call (.ref f) args) (CR CX outer P w H s Q E) s
abbrev cxN (P:Program) (w:World) (K:W.Frag) (mg:Str->Option Value) (base:Heap) (N:List Str) (qual:Str) (scope:Scope) (f:Addr) (cd:Value) (A:Around) (outer:List Env) (s:Shared) (H:Hp):Cx :=
 { zhk CX0 P w K mg base N qual scope f cd A outer s H E0 with calm:=false,xe:=fun _ _=>False }
section
variable {P:Program} {w:World} {K:W.Frag} {mg:Str->Option Value} {base:Heap} {k:Nat}
theorem zpN{f:Addr}{name qual:Str}{params:Arguments}{body:List Stmt}{scope:Scope}{dV kV doc pm cdv ct oc:Value}{an od:Option Addr}
  {osl:Array (Option Value)} {N ps:List Str} {sp:Sp} (lk:K.lookup f=some ⟨oc,od,.func (PySem.W.fnOf name qual params body scope dV kV doc pm an cdv ct),osl⟩) (hcd:PySem.W.codeIn K cdv qual=true) (S:FnScope N ps scope)
  (len:∀ vs H Q E,sp vs H Q E->vs.length=ps.length)
  (hbody:∀ (A:Around) (outer:List Env) (s:Shared) (H:Hp) (vs:List V) (Q:VK) (E:XK),RoomN k (A.deeper (envOfC qual scope s.heap.objs.size f cdv))->sp vs H Q E ->
   ∃ t,PSs (cxN P w K mg base N qual scope f cdv A outer s H) body t/\t { nx:=fun _ H'=>Q .non H',rt:=Q } (start N vs) H) :
  FnOkN P w K mg base CX0 (k+1) f (PySem.W.fnOf name qual params body scope dV kV doc pm an cdv ct) ps sp:=by
 refine⟨len,fun A outer s H args us vs Q E hr e0 hb r hsp=>?_⟩;have hl:=len _ _ _ _ hsp;have KX:K.In s.heap:=e0.mod.kin.keeps fun b o e=>(e0.bs b o e).1;have lim:s.heap.NoLimit:=e0.mod.nolimit.keeps fun b o e=>(e0.bs b o e).1;have hkind:∀ y∈ps.zip us,scope.names.lookup y.1=some .local\/(scope.names.lookup y.1=some .cell/\((cellsFrom (s.heap.objs.size+1) scope.names []).lookup y.1).isSome=true):=fun⟨n,v⟩ hy=>by
  rcases S.par n (List.of_mem_zip hy).1 with q | q
  ·exact .inl q
  ·exact .inr ⟨q,PySem.W.cellsFrom_some _ _ _ (.inl q)⟩
 refine codeAny_call_function hr.depth (KX _ _ lk) rfl S.co S.gen rfl (PySem.W.codeRec_of KX hcd) (hb _ _ _ _ ?_);refine wpAny_newFunctionEnv_cells S.kind hkind fun env he s1 x=>?_;subst he;refine⟨lim.keeps x.toInCall.keep,codeAny_func ?_⟩;obtain⟨t,ht,hq⟩:=hbody A outer s H vs Q E (hr.deeper _) hsp;have e1:Env0 P w K mg base { A with handled:=none } outer s H:=⟨e0.frames,e0.mod,e0.bs,e0.bsz,e0.funs,e0.frf,e0.hok,e0.bare⟩;have I0:Inv (zhk CX0 P w K mg base N qual scope f cdv { A with handled:=none } outer s H E0) [] (start N vs) H s1:=zgW S rfl e1 hl r x;have I:Inv (cxN P w K mg base N qual scope f cdv A outer s H) [] (start N vs) H s1 :=
  ⟨⟨I0.ok.mod,I0.ok.kind,I0.ok.glob,I0.ok.blt,I0.ok.above,I0.ok.inj,I0.ok.has,I0.ok.cab,(fun z=>Bool.noConfusion z),Around.frames_deeper e0.frames,I0.ok.stk,I0.ok.exf,I0.ok.bs,I0.ok.bsz,I0.ok.noex,I0.ok.exfs,I0.ok.funs,I0.ok.frf⟩,
   I0.os,I0.bare,I0.base,I0.loc,I0.cell,I0.free,I0.freeC,I0.pin,I0.hok,I0.len⟩
 refine wpAny_mono (ht [] s1 (start N vs) H _ I hq) (fun fl s' hs=>?_) fun e s' hs=>hs.elim;have fin:∀ {σ':St} {H':Hp} {v:V} {u:Value},Inv (cxN P w K mg base N qual scope f cdv A outer s H) [] σ' H' s'->RelV v u->Q v H'->CE outer P w H s Q u s' :=
  fun {σ' H' v u} J rv q=>⟨v,H',J.os,J.bare,J.base,J.hok,rv,q⟩
 cases fl with
 | ret u =>
  obtain⟨v,σ',H',J,rv,q⟩:=hs;exact fin J rv q
 | next =>
  obtain⟨σ',H',J,q⟩:=hs;exact fin (v:=V.non) (u:=Value.none) J rfl q
 | brk =>
  obtain⟨_,_,_,q⟩:=hs;exact False.elim q
 | cont =>
  obtain⟨_,_,_,q⟩:=hs;exact False.elim q
end
structure DfN(P:Program)(w:World)(K:W.Frag)(mg:Str->Option Value)(base:Heap)(x:Str)(ps:List Str)(k:Nat)(sp:Sp):Prop where
 ex:∃ f fd,FnOkN P w K mg base CX0 k f fd ps sp/\mg x=some (.ref f)/\PySem.W.keepIn K (.ref f)=true/\Binds K fd ps []
section
variable {P:Program} {w:World} {K:W.Frag} {mg:Str->Option Value} {base:Heap} {x:Str} {st:Stmt} {N ps:List Str} {k:Nat}
theorem DfN.dN{q:PN}(D:Dd K mg x st ps)(S:FnScope N ps (zk st))(n:Nat)(hn:N.length=ps.length+n)
  (hbody:∀ (f:Addr) (cdv:Value) (A:Around) (outer:List Env) (s:Shared) (H:Hp),RoomN k (A.deeper (envOfC x (zk st) s.heap.objs.size f cdv)) ->
   ∃ t dt,PSs (cxN P w K mg base N x (zk st) f cdv A outer s H) (zaQ st) t/\RS t dt/\∀ xs S R,q xs S R->dt (zcG S.length R) (xs.map some++List.replicate n none) S):DfN P w K mg base x ps (k+1) (spN ps q):=by
 obtain⟨f,fd,F,hm,hb⟩:=D.ex;have kp:=F.kp;obtain⟨oc,od,kV,doc,pm,an,cdv,ct,osl,rfl,lk,hcd⟩:=F.ex;refine⟨f,_,zpN lk hcd S (fun vs H Q E h=>h.1) fun A outer s H vs Q E hr ⟨hl,h,o,S',xs,R,hs',hx,hq,c⟩=>?_,hm,kp,hb⟩;obtain⟨t,dt,h1,h2,h3⟩:=hbody f cdv A outer s H hr;refine⟨t,h1,h2 h o H _ _ S' _ _ ?_ hs' (h3 xs S' R hq) (eok hs' c)⟩;have e:N.length - vs.length=n:=by omega
 unfold start;rw [e];exact zed hx
end
section
variable {X:Cx} {x:Str} {ps:List Str} {k j:Nat} {pos pos':Pos} {e:Expr} {es:List Expr} {t:TA}
theorem zik{q:PN}(D:DfN X.prog X.w X.K X.mg X.base x ps k (spN ps q))(hr:RoomN j X.A)(hk:k<=j)(ha:PA X (e :: es) t)(hg:Gl X x:=by rfl)(hdb:(x == ("__debug__":Str))=false:=by decide)
  (q1:starEach (e :: es) X.env=(false,eval e X.env) :: starEach es X.env:=by rfl) (q2:((backTo pos (starEach es X.env)).any fun x=>x.fst)=false:=by rfl):PE X (.Call (.Name x pos') (e :: es) [] pos) (zgT (spN ps q) [] E0 t):=by
 obtain⟨f,fd,F,hm,kp,hb⟩:=D.ex;intro zf s σ H Q I h;refine wpAny_Call_Name_kw (zeW I hg hm ?_ hdb);refine PySem.W.callWith_K (h₀:=X.base) I.ok.mod.kin kp (thn (ha pos zf s σ H _ I h) fun us s1 ⟨vs,H1,I1,r,q5⟩=>⟨I1.kIn,?_⟩) q1 q2;have q':spN ps q vs H1 Q E0:=by simpa using q5
 have hl:us.length=ps.length:=by rw [<- r.length]; exact F.len _ _ _ _ q'
 have hb1:=hb s1 us I1.kIn (by rw [List.append_nil]; exact hl);rw [List.append_nil] at hb1;refine wpAny_call (codeAny_mono (F.run X.A X.stack s1 H1 ⟨us,[]⟩ us vs Q E0 (hr.mono hk) I1.env0 hb1 r q') fun r s' hq=>?_);cases r with
 | error e=>exact hq.elim
 | ok fl =>
  cases fl with
  | ret u=>exact I1.after hq
  | next=>exact False.elim hq
  | brk=>exact False.elim hq
  | cont=>exact False.elim hq
end
end
end L2
namespace L2
open PySem PySem.Spec PySem.Calls PyProof.Rows PySem.W PySem.Builtin PySem.Builtin.ObjectAttr PySem.Builtin.Getset_descriptor
section
variable {prog:Program} {w:World} {A:Around} {E:Value->Shared->Prop} {h:Heap} {g:Array GenState} {d:Drawn} {t:Nat} {os:OsState} {K:W.Frag} {x C:Addr} {ox:Obj} {od:Option Obj} {name:Str} {tk:Tok}
theorem zoX{tp:Value}{R:Result->Shared->Prop}(X:K.In h)(T0:∀ M,Looks M h (typeOf (.ref x)) (.ref C))(hm:mroIn K C (.type "object")=some true)
  (hr:R (.ok (.ret (.ref C))) ⟨h,g,d,t,os⟩):codeAny (model prog w) A (.call (.builtin "getset_descriptor.__get__") ⟨[.builtin "object.__class__",.ref x,tp],[]⟩) R ⟨h,g,d,t,os⟩:=by
 have L0:=T0 (model prog w);have L1:=looks_mroIn (M:=model prog w) X hm;refine codeAny_call_builtin KF.slot_gs.plain KF.entry_gs (KF.slot_gs.check _ _ _ _ _ _ _ _ KF.type_class (KF.args_gs _ _ _) ?_);unfold Builtin.«getset_descriptor.__get__» descrGet;rw [dga_obj];refine wpAny_bind (wpAny_pure ?_);unfold descrGetter descrCheckInstance descrNameAndClass isInstance;simp only [KF.owner_class]
 repeat lk
 refine⟨Code.quiet_builtin _ (by decide +kernel),codeAny_builtin KF.entry_class ?_⟩;unfold Builtin.«object.__class__» shownTypeOf
 repeat lk
 exact hr
theorem zk2{M:Model}{a gt:Value}(X:K.In h)(ha:findIn K (.ref C) name=some (some a))(hg:specialIn K a "__get__" = some (some gt))(hd:takesIn K a=some true):Looks M h (find (.ref x) (.ref C) name) (.bind gt a):=by
 have L1:=looks_findIn (M:=M) X ha;have L2:Looks M h (getOf (some a)) (some gt):=looks_specialIn X hg;refine L1.andThen (L2.andThen ?_);have L3:=looks_takesIn (M:=M) X hd;exact(show Looks M h (dataDescriptor? (some a) (some gt)) (some (gt,a)) from L3.andThen .now).andThen (Looks.tag .now)
theorem znJ{M:Model}{nameV:Value}{Q:Unit->Shared->Prop}(X:K.In h)(T0:∀ M,Looks M h (typeOf (.ref x)) (.ref C))(hB:mroIn K C (.type "BaseException")=some true)(hq:Q () ⟨h,g,d,t,os⟩):
  wpAny M A (checkBuiltinCall "BaseException.__getattribute__" ⟨[.ref x,nameV],[]⟩) Q E ⟨h,g,d,t,os⟩:=by
 have hk:builtinKind "BaseException.__getattribute__" = some .slot:=by decide +kernel
 have hsplit:splitId "BaseException.__getattribute__" = some ("BaseException","__getattribute__"):=by decide +kernel
 have ha:=F.args_bexc_ga (.ref x) nameV;simp only [checkBuiltinCall,hk,hsplit];refine wpAny_bind ?_;have L0:=T0 M;have L1:=looks_mroIn (M:=M) X hB;have L2:Looks M h (isInstance (.ref x) (.type "BaseException")) true:=L0.andThen L1;refine L2.at ?_
 repeat (any_goals (first | assumption | wp_step))
theorem zfp{v:Value}{Q:Fin->Shared->Prop}(X:K.In h)(T0:∀ M,Looks M h (typeOf (.ref x)) (.ref C))(hf:Looks (model prog w) h (find (.ref x) (.ref C) name) (.value v))(hq:Q (.done (.ret v)) ⟨h,g,d,t,os⟩):
  wpAny (model prog w) A (Builtin.«object.__getattribute__» ⟨[.ref x,.str name tk],[]⟩) Q E ⟨h,g,d,t,os⟩:=by
 have L0:=T0 (model prog w);have L1:=hf;unfold Builtin.«object.__getattribute__»
 repeat (any_goals (first | assumption | with_reducible refine L0.at ?_ | with_reducible refine L1.at ?_ | wp_step))
theorem zfl{Q:Fin->Shared->Prop}(X:K.In h)(T0:∀ M,Looks M h (typeOf (.ref x)) (.ref C))(hm:mroIn K C (.type "object")=some true)(hf:Looks (model prog w) h (find (.ref x) (.ref C) "__class__") (.bind (.builtin "getset_descriptor.__get__") (.builtin "object.__class__")))
  (hq:Q (.done (.ret (.ref C))) ⟨h,g,d,t,os⟩):wpAny (model prog w) A (Builtin.«object.__getattribute__» ⟨[.ref x,.str "__class__" tk],[]⟩) Q E ⟨h,g,d,t,os⟩:=by
 have L0:=T0 (model prog w);have L1:=hf;unfold Builtin.«object.__getattribute__»
 repeat (any_goals (first | assumption | with_reducible refine L0.at ?_ | with_reducible refine L1.at ?_ | (refine wpAny_call (zoX X T0 hm ?_)) | wp_step))
structure ExAt(K:W.Frag)(C:Addr):Prop where
 ga:findIn K (.ref C) "__getattribute__" = some (some (.builtin "BaseException.__getattribute__"))
 gn:findIn K (.ref C) "__getattr__" = some none
 base:mroIn K C (.type "BaseException")=some true
theorem zqA{v:Value}{fill expr:Bool}{Q:Value->Shared->Prop}(X:K.In h)(T0:∀ M,Looks M h (typeOf (.ref x)) (.ref C))(F0:ExAt K C)
  (en:∀ (A:Around) (Q:Fin->Shared->Prop) (E:Value->Shared->Prop),Q (.done (.ret v)) ⟨h,g,d,t,os⟩->wpAny (model prog w) A (Builtin.«object.__getattribute__» ⟨[.ref x,.str name tk],[]⟩) Q E ⟨h,g,d,t,os⟩)
  (hv:handedIn v=true) (hq:Q v ⟨h,g,d,t,os⟩):wpAny (model prog w) A (getAttrBy (.ref x) (.str name tk) fill expr) Q E ⟨h,g,d,t,os⟩:=by
 have f3:=F.attrBase_ValueError.ga.bind (.ref x);have hx0:(expr && onTheHeap (Value.builtin "BaseException.__getattribute__"))=false:=by cases expr <;> rfl
 have hx2:(Value.builtin "BaseException.__getattribute__" == Value.builtin "object.__getattribute__")=false:=by decide +kernel
 have hx1:(onTheHeap (Value.ref C) && Value.builtin "BaseException.__getattribute__" == Value.builtin "object.__getattribute__")=false:=by rw [hx2]; rfl
 have L0:=T0 (model prog w);have L1:=looks_findIn (M:=model prog w) X F0.ga;have L2:=looks_findIn (M:=model prog w) X F0.gn
 repeat (any_goals (first | assumption | with_reducible refine L0.at ?_ | with_reducible refine L1.at ?_ | with_reducible refine L2.at ?_ | wp_step))
 exact codeAny_call_builtin F.attrBase_ValueError.ga.plain F.entry_bexc_ga (znJ X T0 F0.base (en _ _ _ (handed_on hv hq)))
theorem znd{Q:Option Value->Shared->Prop}(X:K.In h)(T0:∀ M,Looks M h (typeOf (.ref x)) (.ref C))(F0:ExAt K C)(hm:mroIn K C (.type "object")=some true)(hf:Looks (model prog w) h (find (.ref x) (.ref C) "__class__") (.bind (.builtin "getset_descriptor.__get__") (.builtin "object.__class__")))
  (hq:Q (some (.ref C)) ⟨h,g,d,t+1,os⟩):wpAny (model prog w) A (getAttr? (.ref x) "__class__") Q E ⟨h,g,d,t,os⟩:=by
 unfold getAttr? getAttrBy?;refine wpAny_bind (wpAny_mkText (wpAny_bind (wpAny_attempt (zqA (t:=t+1) X T0 F0 (fun A Q E q=>zfl X T0 hm hf q) rfl ?_))));exact wpAny_pure hq
theorem zo6{v:Value}{expr:Bool}{Q:Value->Shared->Prop}(X:K.In h)(T0:∀ M,Looks M h (typeOf (.ref x)) (.ref C))(F0:ExAt K C)(hf:Looks (model prog w) h (find (.ref x) (.ref C) name) (.value v))(hv:handedIn v=true)
  (hq:Q v ⟨h,g,d,t+1,os⟩):wpAny (model prog w) A (getAttr (.ref x) name expr) Q E ⟨h,g,d,t,os⟩:=by
 unfold getAttr;exact wpAny_bind (wpAny_mkText (zqA (t:=t+1) X T0 F0 (fun A Q E q=>zfp X T0 hf q) hv hq))
end
end L2
namespace L2
open PySem PySem.Spec PySem.Calls PyProof.Rows
structure SpK(K:W.Frag):Prop where
 hn:PySem.W.specialIn K (.builtin "object.__class__") "__get__" = some (some (.builtin "getset_descriptor.__get__"))
 ht:PySem.W.takesIn K (.builtin "object.__class__")=some true
def exM(C:Addr):List Value:=[.ref C,.ref 24,.type "ValueError",.type "Exception",.type "BaseException",.type "object"]
structure ExK(K:W.Frag)(C:Addr):Prop where
 ty:PySem.W.typeIn K (.ref C)=some (.type "type")
 ga:PySem.W.findIn K (.ref C) "__getattribute__" = some (some (.builtin "BaseException.__getattribute__"))
 gn:PySem.W.findIn K (.ref C) "__getattr__" = some none
 cls:PySem.W.findIn K (.ref C) "__class__" = some (some (.builtin "object.__class__"))
 mro:∃ cd,PySem.W.clsIn K C=some cd/\cd.mro=exM C
theorem ExK.mk'{K:W.Frag}{C:Addr}{cd:ClassData}(a:PySem.W.typeIn K (.ref C)=some (.type "type"))(b:PySem.W.findIn K (.ref C) "__getattribute__" = some (some (.builtin "BaseException.__getattribute__")))(c:PySem.W.findIn K (.ref C) "__getattr__" = some none)
  (d:PySem.W.findIn K (.ref C) "__class__" = some (some (.builtin "object.__class__"))) (e:PySem.W.clsIn K C=some cd) (f:cd.mro=exM C):ExK K C:=⟨a,b,c,d,cd,e,f⟩
section
variable {K:W.Frag} {x C D:Addr}
theorem ExK.mroIn(E:ExK K C)(v:Value):PySem.W.mroIn K C v=some ((exM C).contains v):=by
 obtain⟨cd,h1,h2⟩:=E.mro;unfold PySem.W.mroIn;rw [h1];show (if cd.mro.isEmpty=true then none else some (cd.mro.contains v))=_;rw [h2];rfl
theorem ExK.at_(E:ExK K C):ExAt K C:=⟨E.ga,E.gn,(E.mroIn _).trans rfl⟩
def IsEx(x C:Addr)(h:Heap):Prop:=∃ o,h.get? x=some o/\o.cls=.ref C
theorem IsEx.ty{h:Heap}(p:IsEx x C h)(M:Model):PySem.W.Looks M h (typeOf (.ref x)) (.ref C):=by
 obtain⟨o,e,c⟩:=p;exact c▸(PySem.W.Looks.ld e).andThen .now
theorem zmS(E0:ExK K C)(S0:SpK K):PySem.W.KitX K (.ref x) (.ref C) (IsEx x C) where
 ty:=fun M h _ p=>p.ty M
 it:=fun M h X _=>by
  obtain⟨cd,hc,_⟩:=E0.mro;unfold PySem.W.clsIn at hc;split at hc
  ·rename_i c' d' cd' sl' ho;intro A' Q' E' s' k q;unfold isType loadHead;exact wpAny_bind (wpAny_loadPart (k _ _ (X _ _ ho)) (wpAny_pure q))
  ·cases hc
 ne:=fun h tp dd its n sl X htp=>by
  obtain⟨cd,hc,_⟩:=E0.mro;refine Bool.eq_false_iff.mpr fun q=>?_;have e:C=tp:=Value.ref.inj (beq_iff_eq.mp q);subst e;unfold PySem.W.clsIn at hc;split at hc
  ·rename_i c' d' cd' sl' ho;have z:=(X _ _ ho).symm.trans htp;cases z
  ·cases hc
 ca:=fun {prog w A E Q s} X p k=>by
  obtain⟨h,g,d,t,os⟩:=s;exact znd X p.ty E0.at_ ((E0.mroIn _).trans rfl) (zk2 X E0.cls S0.hn S0.ht) k
def excs:List Addr:=[37,49,61,73,85,104,123,142,161,180]
def exc0:List Addr:=[37,49,61,73,85]
structure Exs(K:W.Frag):Prop where
 sp:SpK K
 all:∀ C∈excs,ExK K C
 cl:∀ C∈exc0,ExCls K C none
 ci:∀ C∈excs,∃ ini,ExCls K C ini
theorem Exs.kit(E:Exs K)(hC:C∈excs)(hD:D∈excs):PySem.W.kitOne K (.ref C) (.ref D)=some (decide (C=D)):=by
 have EC:=E.all C hC;have ED:=E.all D hD;obtain⟨cdD,hD1,_⟩:=ED.mro;unfold PySem.W.kitOne;by_cases h:C=D
 ·subst h;rw [if_pos (by simp),decide_eq_true rfl]
 ·rw [if_neg (by simpa using h),decide_eq_false h];show (if ((PySem.W.clsIn K D).isSome && PySem.W.typeIn K (.ref D) == some (.type "type"))=true then PySem.W.mroIn K C (.ref D) else none)=_;rw [hD1,ED.ty,if_pos (by simp),EC.mroIn];have n24:D≠24:=by
   rintro rfl
   revert hD
   decide
  have:(exM C).contains (.ref D)=false:=by
   unfold exM;simp only [List.contains_cons,List.contains_nil,Bool.or_false,Bool.or_eq_false_iff];refine⟨beq_eq_false_iff_ne.mpr fun z=>h (Value.ref.inj z).symm,beq_eq_false_iff_ne.mpr fun z=>n24 (Value.ref.inj z),?_⟩;simp
  rw [this]
theorem Exs.kitV(E:Exs K)(hC:C∈excs):PySem.W.kitOne K (.ref C) (.type "ValueError")=some true:=by
 have EC:=E.all C hC;unfold PySem.W.kitOne;rw [if_neg (by simp)];show (if PySem.W.kitMeta "ValueError" = true then PySem.W.mroIn K C (.type "ValueError") else none)=_;rw [if_pos (by decide +kernel),EC.mroIn];rfl
end
def zrZ(K:W.Frag):List V->Hp->VK->Prop:=fun xs H Q=>∃ a C d c b,xs=[.ref a,c]/\H a=some (exO a C d)/\ExK K C/\SpK K/\(∀ u,RelV c u->PySem.W.kitOne K (.ref C) u=some b)/\Q (.bl b) H
theorem za2{X:Cx}:CallR X (.builtin "isinstance") (zrZ X.K):=by
 intro zf s σ H xs us Q I r h;obtain⟨a,C,d,c,b,rfl,ha,E0,S0,hk,q⟩:=h;obtain⟨u,w',rfl,ru,rw'⟩:=vals2 r;cases (show u=Value.ref a from ru);obtain⟨⟨o,e,hc,_⟩,_⟩:=(show ObjOk X.prog X.w H s.heap a (exO a C d) from I.hok a _ ha);exact PySem.W.kia_one (zmS E0 S0) I.kIn ⟨o,e,hc⟩ (hk _ rw') (fun z=>nomatch z) fun tk=>⟨.bl b,H,I.tok tk,rfl,q⟩
def zjo:List XV->Sto->RX->Prop:=fun xs S R=>arg2 xs fun x y=>∃ C fs c,x=.x C fs/\y=.o c/\C∈excs/\((∃ D,c=.ref D/\D∈excs/\R (.d (.bool (decide (C=D)))) S)\/(c=.ty "ValueError"/\R (.d (.bool true)) S))
theorem zcQ{K:W.Frag}(E:Exs K):RC (zrZ K) zjo:=fun h o H S xs vs R Q hs hx q c=>by
 obtain⟨x,y,rfl,C,fs,k,rfl,rfl,hC,q1⟩:=zhS q;obtain⟨v,u,rfl,hx1,hx2⟩:=hxs2 hx;obtain⟨a,d,rfl,ha,_⟩:=hx1;cases (show u=k from hx2);rcases q1 with ⟨D,rfl,hD,q2⟩ | ⟨rfl,q2⟩
 ·exact⟨a,C,d,_,_,rfl,zR _ _ ha,E.all C hC,E.sp,fun u ru=>by cases (show u=Value.ref D from ru); exact E.kit hC hD,c o H S _ _ Ex.refl hs (xB _) q2⟩
 ·exact⟨a,C,d,_,_,rfl,zR _ _ ha,E.all C hC,E.sp,fun u ru=>by cases (show u=Value.type "ValueError" from ru); exact E.kitV hC,c o H S _ _ Ex.refl hs (xB _) q2⟩
def zkA:V->List V->Hp->VK->Prop:=fun x vs H Q=>∃ bs:List Bool,Has H (.list (bs.map PyData.bool)) x/\vs=[.bl true]/\Q (.int (bs.countP id)) H
theorem zlF{X:Cx}:MtR X "list.count" zkA:=by
 intro zf s σ H x vs v us Q I rx rv h;obtain⟨bs,hl,rfl,q⟩:=h;obtain⟨u,rfl,r1⟩:=rv.one;cases (show u=Value.bool true from r1);have cl:PyData.canLay0 (.list (bs.map PyData.bool))=true:=SeqAt.canLay_of_shaped (zeC (zeX fun _ _=>(ziA:Shp 0 _))).ok;obtain⟨as,q2⟩:=Has.reads I (.list (bs.map PyData.bool)) x v hl cl rx;cases q2 with
 | @list l o vs n xs as₁ h1 h2 h3 h4 =>
  refine count_list_bools (vs:=vs.toList) ⟨o,h1,h2,n,by simpa using h3⟩ h4 (by simp [Shape.has]) ?_;refine⟨.int (bs.countP id),H,I.tok _,⟨s.toks,?_⟩,q⟩;have:∀ bs:List Bool,countIn (.bool true) (bs.map PyData.bool)=(bs.countP id:Int):=fun bs=>by
   induction bs with
   | nil=>rfl
   | cons b bs ih =>
    rw [List.map_cons,List.countP_cons];show (if same (.bool b) (.bool true) then (1:Int) else 0)+countIn (.bool true) (bs.map PyData.bool)=_;rw [ih];cases b
    ·show (0:Int)+_=_;simp
    ·show (1:Int)+_=_;simp;omega
  rw [this]
def zgi:XV->List XV->Sto->RX->Prop:=fun x xs S R=>arg1 xs fun y=>y=.d (.bool true)/\∃ ds,zjj S x=some ds/\∃ bs:List Bool,ds=bs.map PyData.bool/\R (.d (.int (bs.countP id))) S
theorem zj4:RM zkA zgi:=fun h o H S x v xs vs R Q hs hx hxs q c=>by
 obtain⟨y,rfl,rfl,ds,e2,bs,rfl,q1⟩:=zaC q;obtain⟨u,rfl,hu⟩:=hxs1 hxs;have hl:Has H (.list (bs.map PyData.bool)) v:=zbv (x:=x) hs (by
  unfold zjj at e2;split at e2
  ·cases e2; rfl
  ·rename_i k; show (S[k]?).map PyData.list=_; rw [e2]; rfl
  ·cases e2) hx
 cases zcl hu;exact⟨bs,hl,rfl,c o H S _ _ Ex.refl hs (xI _) q1⟩
def ze6(q:PN)(da:DA):DE:=fun δ S R=>da δ S fun xs S1=>∃ C fs,xs=[.x C fs]/\q [.x C fs] [] (ret0 S1 R)
theorem hxE{h o:List Addr}{H:Hp}{C:Addr}{fs:List (Str×PyData)}{v:V}(hx:HasX h o H (.x C fs) v):HasX (h++o) [] H (.x C fs) v:=by
 have e:vx (h++o) [] H=vx h o H:=zg6 fun b=>by simp
 show HasE (vx (h++o) [] H) C fs v;rw [e];exact hx
theorem zf6{ps:List Str}{q:PN}{tl:TA}{dl:DA}(hp:ps.length=1)(ha:RA tl dl):RE (zgT (spN ps q) [] E0 tl) (ze6 q dl):=fun h o H δ σ S R Q he hs d c =>
 ha h o H δ σ S _ _ he hs d fun o1 H1 S1 xs vs e1 s1 x1 ⟨C,fs,exs,d1⟩=>by
  subst exs;obtain⟨v,rfl,hv⟩:=hxs1 x1;refine⟨by simp [hp],h++o1,[],[],[.x C fs],_,rep0 s1,⟨v,[],rfl,hxE hv,rfl⟩,d1,cn0 s1 (c.pre e1)⟩
end L2
namespace L2
open PySem PySem.Spec PyProof.Rows
section
abbrev EXD:=Addr->List (Str×PyData)->Prop
abbrev PX:=List XV->Sto->RX->EXD->Prop
def CnX(h o:List Addr)(H:Hp)(EX:EXD)(E:XK):Prop:=∀ o' H' S' C a fs,Ex o H o' H'->RepS h o' H' S'->HasE (vx h o' H') C fs (.ref a)->EX C fs->E (.ref C) (some a) H'
theorem CnX.pre{h o o':List Addr}{H H':Hp}{EX:EXD}{E:XK}(c:CnX h o H EX E)(e:Ex o H o' H'):CnX h o' H' EX E:=fun o2 H2 S2 C a fs e2=>c o2 H2 S2 C a fs (e.trans e2)
def RSx(E:XK)(EX:EXD)(t:TS)(dt:DS):Prop:=∀ (h o:List Addr) (H:Hp) (δ:XE) (σ:St) (S:Sto) (En:DEnds) (D:Ends),RepE h o H δ σ->RepS h o H S->dt En δ S->EOk h o H En D->CnX h o H EX E->t D σ H
section
variable {E:XK} {EX:EXD} {t u:TS} {dt du:DS}
theorem zcK(ht:RS t dt):RSx E EX t dt:=fun h o H δ σ S En D he hs q c _=>ht h o H δ σ S En D he hs q c
theorem zfJ(ht:RSx E EX t dt)(hu:RSx E EX u du):RSx E EX (ziz t u) (zaA dt du):=fun h o H δ σ S En D he hs q c x =>
 ht h o H δ σ S _ _ he hs q ⟨fun o1 H1 δ1 S1 σ1 e1 he1 hs1 q1=>hu h o1 H1 δ1 σ1 S1 En D he1 hs1 q1 (c.pre e1) (x.pre e1),c.rt,c.bk,c.ct⟩ x
end
theorem zrl{X:Cx}{st:Stmt}{t:TS}(h:PS X.nox st t):PS X st t:=fun zf s σ H D I hw =>
 wpAny_mono (h zf s σ H D (I.wish _) hw) (fun _ _ q=>q.unwish) fun _ _ z=>False.elim z
def spX(ps:List Str)(q:PX):Sp:=fun vs H Q E=>vs.length=ps.length/\∃ h o S xs R EX,RepS h o H S/\HasXs h o H xs vs/\q xs S R EX/\Cn h o H R Q/\CnX h o H EX E
structure DfX(P:Program)(w:World)(K:W.Frag)(mg:Str->Option Value)(base:Heap)(x:Str)(ps:List Str)(k:Nat)(sp:Sp):Prop where
 ex:∃ f fd,FnOk P w K mg base (CX1 P w) k f fd ps sp/\mg x=some (.ref f)/\PySem.W.keepIn K (.ref f)=true/\Binds K fd ps []
section
variable {P:Program} {w:World} {K:W.Frag} {mg:Str->Option Value} {base:Heap} {x:Str} {st:Stmt} {N ps:List Str} {k:Nat}
theorem DfX.dN{q:PX}(D:Dd K mg x st ps)(S:FnScope N ps (zk st))(n:Nat)(hn:N.length=ps.length+n)
  (hbody:∀ (f:Addr) (cdv:Value) (A:Around) (outer:List Env) (s:Shared) (H:Hp) (E:XK) (EX:EXD),Room k (A.deeper (envOfC x (zk st) s.heap.objs.size f cdv)) ->
   ∃ t dt,PSs (zhk (CX1 P w) P w K mg base N x (zk st) f cdv A outer s H E) (zaQ st) t/\RSx E EX t dt/\∀ xs S R,q xs S R EX->dt (zcG S.length R) (xs.map some++List.replicate n none) S):DfX P w K mg base x ps (k+1) (spX ps q):=by
 obtain⟨f,fd,F,hm,hb⟩:=D.ex;have kp:=F.kp;obtain⟨oc,od,kV,doc,pm,an,cdv,ct,osl,rfl,lk,hcd⟩:=F.ex;refine⟨f,_,zpX lk hcd S (fun vs H Q E h=>h.1) fun A outer s H vs Q E hr ⟨hl,h,o,S',xs,R,EX,hs',hx,hq,c,cx⟩=>?_,hm,kp,hb⟩;obtain⟨t,dt,h1,h2,h3⟩:=hbody f cdv A outer s H E EX hr;refine⟨t,h1,h2 h o H _ _ S' _ _ ?_ hs' (h3 xs S' R hq) (eok hs' c) cx⟩;have e:N.length - vs.length=n:=by omega
 unfold start;rw [e];exact zed hx
end
def zq4(sp:Sp)(t:TA):XK->TE:=fun Ex σ H Q=>t σ H fun vs H1=>sp vs H1 Q Ex
theorem zpa{X:Cx}{q:PX}{x:Str}{ps:List Str}{k j:Nat}{pos pos':Pos}{e:Expr}{es:List Expr}{t:TA}(D:DfX X.prog X.w X.K X.mg X.base x ps k (spX ps q))(hr:Room j X.A)(hk:k<=j)(hx:∀ e s,X.xe e s->False)(ha:PA X (e :: es) t)(hg:Gl X x:=by rfl)(hdb:(x == ("__debug__":Str))=false:=by decide)
  (q1:starEach (e :: es) X.env=(false,eval e X.env) :: starEach es X.env:=by rfl) (q2:((backTo pos (starEach es X.env)).any fun x=>x.fst)=false:=by rfl):PEX X (.Call (.Name x pos') (e :: es) [] pos) (zq4 (spX ps q) t):=by
 obtain⟨f,fd,F,hm,kp,hb⟩:=D.ex;exact zpc hx F (hr.mono hk) hg hm kp hb ha hdb q1 q2
end
section
def KnOk(kn:DEnds->XE->RX)(kt:Ends->St->VK):Prop:=∀ (h o:List Addr) (H:Hp) (δ:XE) (σ:St) (En:DEnds) (D:Ends),RepE h o H δ σ->EOk h o H En D->Cn h o H (kn En δ) (kt D σ)
theorem hxs00{h o:List Addr}{H:Hp}:∀ {es:List PyData} {vs:List V},HasXs h o H (es.map XV.d) vs->HasXs (h++o) [] H (es.map XV.d) vs
 | [],_,q=>q
 | d :: ds,vs,⟨v,r,e,hv,l⟩=>⟨v,r,e,hx0 hv,hxs00 l⟩
def knD:DEnds->XE->RX:=fun En δ _ S2=>En.nx δ S2
theorem zh0:KnOk knD (fun D σ _ H1=>D.nx σ H1):=fun h o H δ σ En D he c o' H' S' x v e hs _ q=>c.nx o' H' δ S' σ e (he.mono e) hs q
theorem zgd:bootBuiltins "ValueError" = some (.type "ValueError"):=by decide +kernel
end
section
theorem zdN:isSubtype (.type "tuple") (.type "set")=pure false:=by rw [isSubtype_type]; kernel_rfl
theorem zdZ:isSubtype (.type "tuple") (.type "frozenset")=pure false:=by rw [isSubtype_type]; kernel_rfl
section
variable {prog:Program} {w:World} {A:Around} {E:Value->Shared->Prop} {s:Shared}
theorem zl4{S l:Addr}{vs:Array Value}{ns:List Int}{led:Bool}{Q:Unit->Shared->Prop}(hh:A.handled=none)(hS:SetI led s.heap S #[])(hl:s.heap.IsTuple l vs)(hz:vs.size=ns.length)(hv:∀ (i:Nat) v,vs[i]? = some v->∃ tk,v=.int (ns.getD i 0) tk)(hn:ns.length<90)
  (h:∀ h' tk es,(∀ b o,b≠S->s.heap.get? b=some o->h'.get? b=some o)->SetI led h' S es->(∀ x,x∈es.toList.map kE↔x∈ns)->Q () { s with heap:=h',toks:=tk }) :
  wpAny (model prog w) A (Builtin.Frozenset.updateFrom "set.__init__" S (.ref l)) Q E s:=by
 have ty:s.TypeIs (.ref l) "tuple":=by
  obtain⟨o,e,c,_⟩:=hl;exact⟨o,e,c⟩
 have lS:l≠S:=fun e=>by
  obtain⟨o,_,_,e1,c1,_⟩:=hS;obtain⟨o',e',c',_⟩:=hl;rw [e,e1] at e';cases e';rw [c1.1] at c';simp at c'
 unfold Builtin.Frozenset.updateFrom Builtin.Frozenset.isAnySet;refine wpAny_bind (wpAny_bind (wpAny_isInstance ty zdN (wpAny_isInstance ty zdZ ?_)));simp only [Bool.false_eq_true,if_false];refine wpAny_bind (wpAny_typeOf ty ?_);rw [if_neg (by decide)];refine wpAny_bind (wpAny_pyIter_tuple hl ?_);obtain⟨o,eo⟩:∃ o,s.heap.get? l=some o:=⟨_,hl.choose_spec.1⟩;obtain⟨oS,eS⟩:∃ o,s.heap.get? S=some o:=⟨_,hS.choose_spec.choose_spec.choose_spec.1⟩;have ll:=Heap.lt_size eo;have lS':=Heap.lt_size eS;have up:∀ b ob,s.heap.get? b=some ob->(s.heap.push { cls:=.type "tuple_iterator",data:=.fields #[.ref l,.int 0 0] }).get? b=some ob:=fun b ob e=>Heap.get?_push_of_some _ e;have W:=(Walks.tuple (prog:=prog) (w:=w) (A:=A.in1) hh s.heap.objs.size l (Nat.ne_of_lt ll) vs).toS;refine wpAny_bind (wpAny_runValue (zji (led:=led) W (by omega) S (by
  simp only [List.mem_cons,List.not_mem_nil,or_false,not_or];exact⟨Nat.ne_of_lt lS',fun e=>lS e.symm⟩) (fun i=>ns.getD i 0) hv _ 0 _ #[] rfl (Nat.zero_le _) ⟨⟨_,Heap.get?_push_size _ rfl,rfl,rfl⟩,hl.at fun ob e=>up l ob e⟩ (hS.at fun ob e=>up S ob e) (by simp) (Nat.le_refl _) fun s' es mv S' ks=>?_))
 refine wpAny_pure ?_;obtain⟨h',gs',dr',tk',os'⟩:=s';obtain⟨m1,m2,m3,m4,m5⟩:=mv;dsimp only at m1 m2 m3 m4 m5 S';subst m2 m3 m4;refine h h' tk' es (fun b ob nb e=>m1 b ob (by
  simp only [List.mem_cons,List.not_mem_nil,or_false,not_or];exact⟨nb,Nat.ne_of_lt (Heap.lt_size e)⟩) (up b ob e)) S' fun x=>?_
 rw [ks x,hz];constructor
 ·rintro⟨j,hj,rfl⟩;rw [List.getD_eq_getElem?_getD,List.getElem?_eq_getElem hj];exact List.getElem_mem hj
 ·intro m;obtain⟨j,hj,e⟩:=List.mem_iff_getElem.mp m;exact⟨j,hj,by rw [List.getD_eq_getElem?_getD,List.getElem?_eq_getElem hj]; exact e.symm⟩
theorem zj5{l:Addr}{vs:Array Value}{ns:List Int}{Q:Value->Shared->Prop}(hh:A.handled=none)(hl:s.heap.IsTuple l vs)(hz:vs.size=ns.length)(hv:∀ (i:Nat) v,vs[i]? = some v->∃ tk,v=.int (ns.getD i 0) tk)(hn:ns.length<90)
  (h:∀ a h' tk es,s.heap.objs.size<=a->(∀ b o,s.heap.get? b=some o->h'.get? b=some o)->SetI (!w.params.followText "set-order") h' a es->(∀ x,x∈es.toList.map kE↔x∈ns)->Q (.ref a) { s with heap:=h',toks:=tk }) :
  wpAny (model prog w) A (call (.type "set") [.ref l]) Q E s:=by
 obtain⟨c,tl,hmro⟩:=F.called_set.mro;have hmade:=F.called_set.made;have hsub:=F.called_set.sub;refine wpAny_call (codeAny_of_tree ?_);show wpAny _ _ (callAny (.type "set") _) _ _ _;refine wpAny_pure ⟨Code.quiet_builtin _ (by decide +kernel),codeAny_builtin F.entry_type_call ?_⟩;rw [Around.under_plain (weight_type_call_type "set" [.ref l] []) rfl];have h1:=F.called_set.notType;have h2:=F.called_set.canCreate;have hct:=F4.typeCall_set_1 (.ref l)
 repeat (any_goals (first | assumption | wp_step))
 generalize hO:({ cls:=.type "set",dict:=none,data:=.set #[] 0 (.fresh 0 0 (!w.params.followText "set-order")) }:Obj)=O;refine codeAny_mono (zeO (E:=E) (Q:=fun ob s1=>ob=.ref s.heap.objs.size/\s1 = { s with heap:=s.heap.push O }) ⟨rfl,by rw [hO]⟩) fun r s1 hr=>?_;cases r with
 | error e=>exact hr
 | ok fl =>
  cases fl with
  | ret obj =>
   obtain⟨rfl,rfl⟩:=hr;have hS:(s.heap.push O).get? s.heap.objs.size=some O:=Heap.get?_push_size _ (by rw [<- hO]; rfl);have hT:Shared.TypeIs { s with heap:=s.heap.push O } (.ref s.heap.objs.size) "set":=⟨_,hS,by rw [<- hO]⟩;have hli:=F.called_set.init.lookup;have hbi:=F.called_set.init.bind (.ref s.heap.objs.size)
   repeat (any_goals (first | assumption | wp_step))
   refine codeAny_mono (codeAny_call_builtin (R:=wants (fun r s2=>r=.none/\Q (.ref s.heap.objs.size) s2) E) F.called_set.init.plain F.entry_set_init (zdm hT ?_)) fun r2 s2 hr2=>?_
   ·unfold Builtin.«set.__init__» noKeywords;have hS0:SetI (!w.params.followText "set-order") (s.heap.push O) s.heap.objs.size #[]:=by
     subst hO;exact⟨_,_,_,hS,⟨rfl,rfl,rfl⟩,rfl,by simp,by simp,by simp,ze3 _⟩
    have hl1:(s.heap.push O).IsTuple l vs:=hl.at fun ob e=>Heap.get?_push_of_some _ e;subst hO;have key:=fun Q1=>@zl4 prog w A.in1.in1 (fun e s'=>wants (fun r s2=>r=Value.none/\Q (Value.ref s.heap.objs.size) s2) E (Except.error e) s') { s with heap:=s.heap.push { cls:=.type "set",dict:=none,data:=.set #[] 0 (.fresh 0 0 (!w.params.followText "set-order")) } } s.heap.objs.size l vs ns (!w.params.followText "set-order") Q1 hh hS0 hl1 hz hv hn
    wp_walk using key _
    intro h' tk es kp S' ks;exact wpAny_pure ⟨rfl,h _ h' tk es (Nat.le_refl _) (fun b o e=>kp b o (Nat.ne_of_lt (Heap.lt_size e)) (Heap.get?_push_of_some _ e)) S' ks⟩
   ·cases r2 with
    | error e=>exact hr2
    | ok fl2 =>
     cases fl2 with
     | ret r =>
      obtain⟨rfl,hq⟩:=hr2
      repeat (any_goals (first | assumption | wp_step))
     | _=>exact hr2.elim
  | _=>exact hr.elim
theorem zii{l:Addr}{vs:Array Value}{ns:List Int}{Q:Value->Shared->Prop}(hh:A.handled=none)(hl:s.heap.IsTuple l vs)(hz:vs.size=ns.length)(hv:∀ (i:Nat) v,vs[i]? = some v->∃ tk,v=.int (ns.getD i 0) tk)(hn:ns.length<60)
  (h:∀ D h' tk d out ms c,s.heap.objs.size<=D->(∀ b o,s.heap.get? b=some o->h'.get? b=some o)->IntsAre out ms->ms.Pairwise (· < ·)->(∀ x,x∈ms↔x∈ns)->h'.get? D=some (seqObj "list" out.toArray c)->Q (.ref D) { s with heap:=h',toks:=tk,drawn:=d }) :
  wpAny (model prog w) A (call (.type "set") [.ref l]) (fun a s'=>wpAny (model prog w) A (call (.builtin "sorted") [a]) Q E s') E s:=by
 refine zj5 hh hl hz hv (by omega) fun a h1 tk es ha kp1 hSI hk=>?_;obtain⟨o,ep,t,ho,hex,hd,hok,hnd,hz',tb⟩:=hSI;refine Calls.call_function_entry kind_sorted plain_sorted entry_sorted (args_sorted1 _) ?_;unfold Builtin.«sorted»;refine wpAny_bind (m:=checkCount "sorted" 1 1 1) (wpAny_pure ?_);refine wpAny_bind (zdr (s:={ s with heap:=h1,toks:=tk }) (A:=A.in1) hh ho hex hd tb hz' fun h2 d us hp kp2=>?_);have ul:us.length=es.size:=by rw [hp.length_eq,List.length_map,Array.length_toList]
 have ui:∀ v∈us,∃ n t,v=Value.int n t:=fun v m=>by
  obtain⟨e,me,rfl⟩:=List.mem_map.mp (hp.mem_iff.mp m);obtain⟨n,t,e1,_⟩:=hok e me;exact⟨n,t,e1⟩
 obtain⟨ns0,hI,e0⟩:=zgt ui;have p0:ns0.Perm (es.toList.map kE):=by
  rw [e0];refine(hp.map fun v=>kE (0,v)).trans ?_;rw [List.map_map];exact List.Perm.refl _
 have el:es.size<=ns.length:=by
  have:=zbu _ ns hnd fun x m=>(hk x).mp m
  rwa [List.length_map,Array.length_toList] at this
 refine wpAny_bind (wpAny_newList ?_ (by rw [ul,sizeLine_eq]; omega));have hoL:(h2.push (seqObj "list" us.toArray 0)).get? h2.objs.size=some (seqObj "list" us.toArray 0):=Heap.get?_push_size _ rfl;refine wpAny_bind (wpAny_holding (wpAny_call_entry slot_list_sort ⟨_,hoL,rfl⟩ entry_list_sort (list_sort_tree (s:={ s with heap:=h2.push (seqObj "list" us.toArray 0),toks:=tk,drawn:=d }) hoL hI (by omega) fun out ms a1 a2 a3=>⟨_,rfl,?_⟩) (args_list_sort _)));have np:ms.Nodup:=(a2.trans p0).nodup_iff.mpr hnd;obtain⟨c,hc⟩:=sortedHeap_at (out:=out) hoL;refine wpAny_pure ⟨_,rfl,h h2.objs.size _ tk d out.toList ms c ?_ (fun b o e=>?_) a1 ?_ (fun x=>?_) ?_⟩
 ·exact Nat.le_trans ha (Nat.le_of_lt (Heap.lt_size (kp2 a o ho)))
 ·have e2:=kp2 b o (kp1 b o e);have lb:=Heap.lt_size e2;rw [sortedHeap_old (Nat.ne_of_lt lb) (by rw [size_push']; exact Nat.lt_succ_of_lt lb)];exact Heap.get?_push_of_some _ e2
 ·exact(List.Pairwise.and a3 np).imp fun⟨h1,h2⟩=>by omega
 ·rw [(a2.trans p0).mem_iff,hk x]
 ·simpa using hc
end
def zg3(K:W.Frag):List V->Hp->VK->Prop:=fun xs H Q=>∃ (p:Addr) (ns:List Int),xs=[.ref p]/\SqT K H p (ns.map V.int)/\ns.length<60/\∀ (l:Addr) (ms:List Int),H l=none->ms.Pairwise (· < ·)->(∀ x,x∈ms↔x∈ns)->Q (.ref l) (upd H l (.lst (ms.map V.int)))
section
variable {X:Cx} {e:Expr} {t:TA} {p p2 pos pos2:Pos}
theorem zhR(hc:X.calm=true)(hgs:Gl X "sorted")(hms:X.mg "sorted" = none)(hgt:Gl X "set")(hmt:X.mg "set" = none)(ha:PA X [e] t)
  (he:starEach [e] X.env=(false,eval e X.env) :: starEach [] X.env:=by rfl) (hpl:(backTo pos2 (starEach [] X.env)).any (·.1)=false:=by rfl)
  (he2:starEach [Expr.Call (.Name "set" p2) [e] [] pos2] X.env=(false,eval (Expr.Call (.Name "set" p2) [e] [] pos2) X.env) :: starEach [] X.env:=by rfl) (hpl2:(backTo pos (starEach [] X.env)).any (·.1)=false:=by rfl) :
  PE X (.Call (.Name "sorted" p) [.Call (.Name "set" p2) [e] [] pos2] [] pos) (tCB (zg3 X.K) t):=by
 intro zf s σ H Q I h;refine wpAny_Call_Name_kw (zcC I hgs hms boot_sorted ?_);refine PyProof.Rows.callWith_builtin1 ?_ he2 hpl2;rw [he2];show wpAny _ _ (spliced [(false,eval (Expr.Call (.Name "set" p2) [e] [] pos2) X.env)]) _ _ s;refine Calls.spliced_cons ?_;refine wpAny_Call_Name_kw (zcC I hgt hmt zgf ?_);refine PyProof.Rows.callWith_type1 (thn (ha pos2 zf s σ H _ I h) fun us s1 ⟨vs,H1,I1,r1,q1⟩=>?_) he hpl;obtain⟨pl,ns,rfl,hq,hn,q⟩:=q1;obtain⟨u,rfl,rx⟩:=vals1 r1;cases (show u=Value.ref pl from rx);obtain⟨its,rv,pl',_⟩:=I1.tuple hq;have hI:=zaW rv;refine wpAny_mono (zii (ns:=ns) (I1.ok.hd hc) pl' (by rw [List.size_toArray]; exact zch hI) (fun i v hv=>zeB hI i v (by simpa using hv)) hn fun D h' tk d out ms c hD kp oI pw mm hg=>?_) (fun a s2 z=>Calls.spliced_nil z) fun _ _ z=>z;refine⟨.ref D,_,((I1.drw d).laid (t':=tk) kp hD (show ObjOk X.prog X.w _ h' D (.lst (ms.map V.int)) from⟨?_,out,c,zbJ oI,hg⟩)),rfl,q D ms (I1.hok.fresh hD) pw mm⟩;have:=zbu ms ns (pw.imp fun h=>by omega) fun x m=>(mm x).mp m;rw [List.length_map,sizeLine_eq];omega
end
def zdU:List XV->Sto->RX->Prop:=fun xs S R=>arg1 xs fun x=>∃ ns:List Int,x=.d (.tuple (ns.map PyData.int))/\ns.length<60/\∀ ms:List Int,ms.Pairwise (· < ·)->(∀ x,x∈ms↔x∈ns)->R (.d (.list (ms.map PyData.int))) S
theorem zih{K:W.Frag}:RC (zg3 K) zdU:=fun h o H S xs vs R Q hs hx q c=>by
 obtain⟨x,rfl,ns,rfl,hn,q1⟩:=zaC q;obtain⟨v,rfl,hx1⟩:=hxs1 hx;obtain⟨a,us,rfl,ea,l⟩:=zas.mp hx1;rw [zbe l] at ea;refine⟨a,ns,rfl,.of (zR _ _ ea),hn,fun l ms hl pw mm=>?_⟩;exact zgr hs (zcg ms) c (q1 ms pw mm) l hl
end
end L2
namespace L2
open PySem PySem.Spec PySem.Calls PyProof.Rows PySem.W PySem.Builtin PySem.Builtin.ObjectAttr
theorem zmi(self:Value)(C:Addr):refuseLoop self "__setattr__" (exM C)=pure ():=by
 unfold exM;rw [refuseLoop_ref,refuseLoop_ref];exact F.store_ValueError.passes self
theorem zqs{K:W.Frag}{h:Heap}{C:Addr}{cd:ClassData}(X:K.In h)(e:clsIn K C=some cd):∃ c0 dd sl,h.get? C=some ⟨c0,dd,.cls cd,sl⟩:=by
 unfold clsIn at e;split at e
 ·rename_i q;cases e;exact⟨_,_,_,X _ _ q⟩
 ·cases e
section
variable {prog:Program} {w:World} {A:Around} {E:Value->Shared->Prop} {h:Heap} {g:Array GenState} {d:Drawn} {t:Nat} {os:OsState} {K:W.Frag} {x C:Addr} {o:Obj} {cd:ClassData} {name:Str} {v:Value} {mA:Str->Option Value}
def XAt(h:Heap)(x:Addr)(o:Obj)(mA:Str->Option Value):Prop:=h.get? x=some o/\(∀ c,o.data≠.cls c)/\((o.dict=none/\∀ n,mA n=none)\/∃ dx,o.dict=some dx/\dx≠x/\h.Ns1 dx mA)
theorem znq{tk:Tok}{Q:Fin->Shared->Prop}{ns:List Str}(X:K.In h)(hcd:clsIn K C=some cd)(hm:cd.mro=exM C)(hdct:cd.hasDict=true)(hna:findIn K (.ref C) name=some none)(hc:o.cls=.ref C)(I:XAt h x o mA)
  (hq:∀ h' tk' dx,XAt h' x { o with dict:=some dx } (fun y=>if y=name then some v else mA y)->(o.dict=some dx\/o.dict=none/\h.objs.size<=dx)->(∀ b ob,b≠x->b≠dx->h.get? b=some ob->h'.get? b=some ob)->Q (.done (.ret .none)) ⟨h',g,d,tk',os⟩)
  (hw:Within mA ns) (hsz:ns.length+1<=sizeLine) :
  wpAny (model prog w) A (Builtin.«object.__setattr__» ⟨[.ref x,.str name tk,v],[]⟩) Q E ⟨h,g,d,t,os⟩:=by
 obtain⟨hx,hnc,hd⟩:=I;have hpass:=zmi (.ref x) C;have Lm:Looks (model prog w) h (mroOf (.ref C)) (exM C):=by rw [<- hm]; exact(looks_clsIn X hcd).andThen .now
 have La:=looks_findIn (M:=model prog w) X hna;obtain⟨c0,dd,sl,hC⟩:=zqs X hcd;unfold Builtin.«object.__setattr__»
 repeat (first | with_reducible refine wpAny_loadPart_at hC ?_ | rw [refuse_eq] | rw [hpass] | (with_reducible refine wpAny_loadPart_at hx ?_; rw [hc]) | with_reducible refine Lm.at ?_ | with_reducible refine La.at ?_ | wp_step)
 rcases hd with ⟨hdn,hmA⟩ | ⟨dx,hdx,hne,hns⟩
 ·rw [hdn,if_neg (by simp [typeHasDict])];split
  ·rename_i z;cases z
  split
  ·rename_i c z;exact absurd z (hnc c)
  have hx1:(h.push { cls:=.type "dict",data:=.dict #[] }).get? x=some o:=Heap.get?_push_of_some _ hx;have hxs:x≠h.objs.size:=Nat.ne_of_lt (Heap.lt_size hx);refine wpAny_bind (wpAny_alloc' (wpAny_bind (wpAny_update' hx1 (wpAny_pure ?_))));have gd:((h.push { cls:=.type "dict",data:=.dict #[] }).update x fun o=>{ cls:=o.cls,dict:=some h.objs.size,data:=o.data,slots:=o.slots }).get? h.objs.size=some { cls:=.type "dict",data:=.dict #[] } :=
   (Heap.get?_update_ne _ _ _ _ hxs.symm).trans (Heap.get?_push_at rfl rfl)
  have nd:((h.push { cls:=.type "dict",data:=.dict #[] }).update x fun o=>{ cls:=o.cls,dict:=some h.objs.size,data:=o.data,slots:=o.slots }).Ns h.objs.size (fun _=>none) :=
   ⟨_,#[],_,gd,rfl,fun e he=>absurd he (by simp),fun _=>rfl⟩
  show wpAny _ _ (storeInDict h.objs.size (.str name tk) name v) _ _ _;unfold storeInDict newKeyGuard;refine wpAny_bind (wpAny_pure (wpAny_bind (wpAny_nsSet1 (Heap.Ns1.of_empty nd) fun h' hn' hs=>?_)));obtain⟨oD,esD,epD,hoD,hdD,hcD⟩:=hn'.count (Within.cons name v Within.nil);refine wpAny_bind (wpAny_lookBehind hoD (by rw [hdD]; exact pastItsLine_dict (Nat.le_trans hcD (by rw [List.length_cons,List.length_nil,sizeLine_eq]; omega))) ?_)
  wp_walk
  have hx':h'.get? x=some { cls:=o.cls,dict:=some h.objs.size,data:=o.data,slots:=o.slots }:=by
   refine(hs.2 x hxs).trans (Heap.get?_update_self _ hx1 ?_);have hfr:=(Heap.get?_some_iff.mp hx).2;obtain⟨oc,od,odt,osl⟩:=o;cases odt <;> first | rfl | exact hfr
  refine hq h' _ h.objs.size ⟨hx',hnc,.inr ⟨h.objs.size,rfl,hxs.symm,?_⟩⟩ (.inr ⟨hdn,Nat.le_refl _⟩) (fun b ob nb n2 q=>(hs.2 b n2).trans ((Heap.get?_update_ne _ _ _ _ nb).trans (Heap.get?_push_of_some _ q)));obtain⟨o',es,ep,e1,e2,e3,eu,e4⟩:=hn';exact⟨o',es,ep,e1,e2,e3,eu,fun y=>by rw [e4 y]; by_cases hy:y=name <;> simp [hy,hmA]⟩
 ·rw [hdx];refine wpAny_pure ?_;show wpAny _ _ (storeInDict dx (.str name tk) name v) _ _ _;unfold storeInDict newKeyGuard;refine wpAny_bind (wpAny_pure (wpAny_bind (wpAny_nsSet1 hns fun h' hn' hs=>?_)));obtain⟨oD,esD,epD,hoD,hdD,hcD⟩:=hn'.count (Within.cons name v hw);refine wpAny_bind (wpAny_lookBehind hoD (by rw [hdD]; exact pastItsLine_dict (Nat.le_trans hcD (by rw [List.length_cons]; omega))) ?_)
  wp_walk
  have eo:({ o with dict:=some dx }:Obj)=o:=by rw [<- hdx]
  refine hq h' _ dx ?_ (.inl hdx) fun b ob _ nd q=>(hs.2 b nd).trans q;rw [eo];exact⟨(hs.2 x hne.symm).trans hx,hnc,.inr ⟨dx,hdx,hne,hn'⟩⟩
theorem zfP{Q:Unit->Shared->Prop}{ns:List Str}(X:K.In h)(hcd:clsIn K C=some cd)(hm:cd.mro=exM C)(hdct:cd.hasDict=true)(hsa:findIn K (.ref C) "__setattr__" = some (some (.builtin "object.__setattr__")))(hna:findIn K (.ref C) name=some none)(hob:mroIn K C (.type "object")=some true)(hc:o.cls=.ref C)(I:XAt h x o mA)
  (hq:∀ h' tk' dx,XAt h' x { o with dict:=some dx } (fun y=>if y=name then some v else mA y)->(o.dict=some dx\/o.dict=none/\h.objs.size<=dx)->(∀ b ob,b≠x->b≠dx->h.get? b=some ob->h'.get? b=some ob)->Q () ⟨h',g,d,tk',os⟩)
  (hw:Within mA ns) (hsz:ns.length+1<=sizeLine) :
  wpAny (model prog w) A (setAttr (.ref x) name v) Q E ⟨h,g,d,t,os⟩:=by
 have hx:=I.1;have SF:=F.store_ValueError;have f3:=SF.slot.bind (.ref x);have L1:=looks_findIn (M:=model prog w) X hsa;have T0:∀ M,Looks M h (typeOf (.ref x)) (.ref C):=fun M=>hc▸(Looks.ld hx).andThen .now;unfold setAttr callSpecial? specialOf
 repeat (any_goals (first | assumption | (with_reducible refine wpAny_loadPart_at hx ?_; rw [hc]) | with_reducible refine L1.at ?_ | wp_step))
 refine codeAny_call_builtin SF.slot.plain SF.entry (@check_slot (model prog w) _ _ _ "object.__setattr__" "object" "__setattr__" (.ref x) [.str name t,v] [] _ SF.kind SF.split ((T0 _).andThen (looks_mroIn X hob)) (SF.args (.ref x) (.str name t) v) (znq X hcd hm hdct hna hc I (fun h' tk' dx a b c=>?_) hw hsz));exact wpAny_pure (wpAny_pure (hq h' tk' dx a b c))
end
end L2
namespace L2
open PySem PySem.Spec PySem.Calls PyProof.Rows PySem.W
def exF(t:Addr):Data:=.fields #[.ref t,.none,.none,.none,.bool false,.none]
def exN(a C:Addr)(d:Option Addr)(t:Addr):HO:=.ext fun h=>h.get? a=some { cls:=.ref C,dict:=d,data:=exF t }
theorem zoz{P:Program}{w:World}{H:Hp}{h:Heap}{a C t:Addr}{d:Option Addr}(e:h.get? a=some { cls:=.ref C,dict:=d,data:=exF t }):ObjOk P w H h a (exN a C d t):=⟨e,⟨_,e⟩,fun _ _ q k=>k _ q⟩
theorem zpQ{P:Program}{w:World}{H:Hp}{h:Heap}{dx:Addr}{fs:List (Str×V)}{mA:Str->Option Value}(n:h.Ns1 dx mA)(r:∀ f,RelO (fs.lookup f) (mA f))(wi:PySem.Within mA (fs.map (·.1))):ObjOk P w H h dx (xw dx fs) :=
 ⟨⟨mA,n,r,wi⟩,let ⟨o,_,_,e,_⟩:=n; ⟨o,e⟩,fun _ _ ⟨mA,n,r,wi⟩ k=>⟨mA,n.at k,r,wi⟩⟩
structure ExI(K:W.Frag)(C:Addr):Prop where
 k:ExK K C
 hd:PySem.W.hasDictIn K C=true
 sa:PySem.W.findIn K (.ref C) "__setattr__" = some (some (.builtin "object.__setattr__"))
def zoB(K:W.Frag)(ta tv:TE)(f:Str):TS:=fun D σ H=>tv σ H fun y H1=>ta σ H1 fun x H2=>∃ a C t,x=.ref a/\ExI K C/\NoAttr K C f /\
  ((H2 a=some (exN a C none t)/\∀ dx,H2 dx=none->D.nx σ (upd (upd H2 a (exN a C (some dx) t)) dx (xw dx [(f,y)]))) \/
   ∃ dx fs,H2 a=some (exN a C (some dx) t)/\H2 dx=some (xw dx fs)/\dx≠a/\fs.length<100/\D.nx σ (upd H2 dx (xw dx (zhQ f y fs))))
section
variable {X:Cx} {o value:Expr} {f:Str} {pos pos':Pos} {ta tv:TE}
theorem zl6(ha:PE X o ta)(hv:PE X value tv)(hs:swapsWith value (some (.Attribute o f pos')) pos.line X.env=pure false):PS X (.Assign [.Attribute o f pos'] value pos) (zoB X.K ta tv f):=by
 intro zf s σ H D I h;refine plainObj_wpAny_Assign_Attribute (thn (hv zf s σ H _ I h) fun u s1 ⟨y,H1,I1,ry,q⟩=>thn (ha zf s1 σ H1 _ I1 q) fun ov s2 ⟨x,H2,I2,rx,a,C,t,ex,xi,na,q2⟩=>?_) hs;subst ex;obtain rfl:ov=Value.ref a:=rx;obtain⟨cd,hcd,hm⟩:=xi.k.mro;have hdct:cd.hasDict=true:=by
  have:=xi.hd;unfold PySem.W.hasDictIn at this;rw [hcd] at this;simpa using this
 have hob:mroIn X.K C (.type "object")=some true:=(xi.k.mroIn _).trans (by simp [exM]);obtain⟨hp,g,d,tk,os⟩:=s2;rcases q2 with ⟨ea,q2⟩ | ⟨dx,fs,ea,ed,ne,hl,q2⟩
 ·obtain⟨e1,_,_⟩:=(show ObjOk X.prog X.w H2 hp a (exN a C none t) from I2.hok a _ ea);refine zfP (o:={ cls:=.ref C,dict:=none,data:=exF t }) (mA:=fun _=>none) (ns:=[]) I2.kIn hcd hm hdct xi.sa na hob rfl ⟨e1,(fun c z=>by cases z),.inl ⟨rfl,fun _=>rfl⟩⟩ (fun h' tk' dx xa od kp=>?_) (fun y z=>absurd rfl z) (by show 1<=sizeLine; rw [sizeLine_eq]; omega);obtain⟨x1,_,x2⟩:=xa;have hsz:hp.objs.size<=dx:=by
   rcases od with z | z
   ·cases z
   ·exact z.2
  obtain⟨dx',z,nx,n1⟩:∃ d,some dx=some d/\d≠a/\h'.Ns1 d (fun y=>if y=f then some u else none):=by
   rcases x2 with ⟨z,_⟩ | z
   ·cases z
   ·exact z
  cases z;have g1:(hp.update a fun o=>{ o with dict:=some dx }).get? a=some { cls:=.ref C,dict:=some dx,data:=exF t }:=Heap.get?_update_self _ e1 rfl
  have J:=I2.write (x:=a) (e:=a) (o:=exN a C (some dx) t) (h':=hp.update a fun o=>{ o with dict:=some dx }) (t':=tk) (by rw [ea]; exact True.intro) (.inl rfl) (fun b v nb z=>(Heap.get?_update_ne _ _ _ _ nb).trans z) ⟨_,g1⟩ (zoz g1);have J2:=J.laid (a:=dx) (o:=xw dx [(f,y)]) (h':=h') (t':=tk') (fun b v z=>?_) (by show (hp.update a _).objs.size<=dx; rw [Heap.size_update]; exact hsz) (zpQ n1 (fun g=>?_) fun g hg=>?_)
  ·exact⟨σ,_,J2,q2 dx (I2.hok.fresh hsz)⟩
  ·by_cases nb:b=a
   ·subst nb;rw [g1] at z;cases z;exact x1
   ·have z':hp.get? b=some v:=(Heap.get?_update_ne _ _ _ _ nb).symm.trans z;exact kp b v nb (fun e=>absurd (Heap.lt_size z') (by rw [e]; exact Nat.not_lt.mpr hsz)) z'
  ·show RelO ((zhQ f y []).lookup g) (if g=f then some u else none);rw [zdl];by_cases q:g=f
   ·rw [if_pos q,if_pos q]; exact ry
   ·rw [if_neg q,if_neg q]; exact True.intro
  ·by_cases e:g=f
   ·subst e; simp
   ·rw [if_neg e] at hg;exact absurd rfl hg
 ·obtain⟨e1,_,_⟩:=(show ObjOk X.prog X.w H2 hp a (exN a C (some dx) t) from I2.hok a _ ea);obtain⟨⟨mA,n1,r1,w1⟩,_,_⟩:=(show ObjOk X.prog X.w H2 hp dx (xw dx fs) from I2.hok dx _ ed);refine zfP (o:={ cls:=.ref C,dict:=some dx,data:=exF t }) (mA:=mA) (ns:=fs.map (·.1)) I2.kIn hcd hm hdct xi.sa na hob rfl ⟨e1,(fun c z=>by cases z),.inr ⟨dx,rfl,ne,n1⟩⟩ (fun h' tk' dx2 xa od kp=>?_) w1 (by rw [List.length_map,sizeLine_eq]; omega);obtain rfl:dx=dx2:=by
   rcases od with z | z
   ·exact Option.some.inj z
   ·cases z.1
  obtain⟨x1,_,x2⟩:=xa;obtain⟨dx',z,nx,n2⟩:∃ d,some dx=some d/\d≠a/\h'.Ns1 d (fun y=>if y=f then some u else mA y):=by
   rcases x2 with ⟨z,_⟩ | z
   ·cases z
   ·exact z
  cases z;have J:=I2.write (x:=dx) (e:=dx) (o:=xw dx (zhQ f y fs)) (h':=h') (t':=tk') (by rw [ed]; exact True.intro) (.inl rfl) (fun b v nb z=>?_) (let ⟨o,_,_,e,_⟩:=n2; ⟨o,e⟩) (zpQ n2 (fun g=>?_) fun g hg=>?_)
  ·exact⟨σ,_,J,q2⟩
  ·by_cases e:b=a
   ·subst e;rw [e1] at z;cases z;exact x1
   ·exact kp b v e nb z
  ·show RelO ((zhQ f y fs).lookup g) (if g=f then some u else mA g);rw [zdl];by_cases q:g=f
   ·rw [if_pos q,if_pos q]; exact ry
   ·rw [if_neg q,if_neg q]; exact r1 g
  ·by_cases q:g=f
   ·rw [q]; exact(zeP f y fs).1
   ·refine(zeP f y fs).2 g (w1 g fun z=>hg ?_);show (if g=f then some u else mA g)=none;rw [if_neg q]; exact z
end
end L2
namespace L2
open PySem PySem.Spec PySem.Calls PyProof.Rows
section
variable {prog:Program} {w:World} {A:Around} {E:Value->Shared->Prop} {h:Heap} {g:Array GenState} {d:Drawn} {t:Nat} {os:OsState}
variable {nm q:Str} {C N:Addr} {bs bm:List Value} {hdct:Bool} {sn:List Str} {sub:List Value} {ab:Bool} {col:Option Bool} {dd:Option Addr} {k0 k1 k2 k3 k5:Option Value} {mN:Str->Option Value} {rest:List Value} {fI:Addr} {oI:Obj}
theorem zfg(T:OwnTail h veB bm){Q:Fin->Shared->Prop}
  (hC:h.get? C=some (excClassObj nm q C N bs bm hdct sn sub ab col dd k0 k1 k2 k3 k5 "ValueError.__new__")) (hn:h.Ns N mN) (hi:mN "__init__" = some (.ref fI)) (hfI:h.get? fI=some oI) (hfc:oI.cls=.type "function")
  (hq:∀ h' e,h.objs.size<=e->Heap.MadeExcOf h h' e (.ref C) rest->wpAny (model prog w) A (call (.ref fI) (.ref e :: rest)) (fun r s'=>r=.none/\Q (.done (.ret (.ref e))) s') E ⟨h',g,d,t,os⟩) (hrest:rest.length<=sizeLine) :
  wpAny (model prog w) A (Builtin.«type.__call__» ⟨.ref C :: rest,[]⟩) Q E ⟨h,g,d,t,os⟩:=by
 have Fn:=F.excBase_ValueError;have hBn:veB.contains (.type "ValueError")=true:=by decide +kernel
 repeat (first | with_reducible refine wpAny_loadPart_at hC ?_ | with_reducible refine wpAny_madeBy_exc hC ?_ | wp_step)
 refine codeAny_call_builtin_code (Code.quiet_builtin _ Fn.quiet) (wpAny_check_new_subU Fn hBn T hC ?_);refine codeAny_exc_new_subU Fn hBn Fn T hC ?_ hrest;show wpAny _ _ _ _ _ _;generalize hh:((h.push { cls:=.type "tuple",data:=.seq rest.toArray }).push { cls:=.ref C,data:=.fields #[.ref h.objs.size,.none,.none,.none,.bool false,.none] })=h1;have keep:∀ b o,h.get? b=some o->h1.get? b=some o:=fun b o e=>by rw [<- hh]; exact Heap.get?_push_of_some _ (Heap.get?_push_of_some _ e)
 have hC1:=keep _ _ hC;have hn1:h1.Ns N mN:=let ⟨o,es,ep,e,r⟩:=hn; ⟨o,es,ep,keep _ _ e,r⟩;have hfI1:=keep _ _ hfI;have hget:h1.get? (h.objs.size+1)=some { cls:=.ref C,data:=.fields #[.ref h.objs.size,.none,.none,.none,.bool false,.none] }:=by rw [<- hh]; heap_get
 have hcC:(Value.ref C :: bm).contains (.ref C)=true:=by simp
 have T1:=T.keeps keep;unfold isInstance
 repeat (first | with_reducible refine wpAny_loadPart_at hget ?_ | (with_reducible refine wpAny_isSubtype_exc hC1 ?_; rw [hcC]) | wp_step)
 show wpAny _ _ (typeLookup (.ref C) _) _ _ _;refine wpAny_typeLookup_tail hC1 hn1 T1 Fn.mroIs Fn.init.lookup ?_;rw [hi];refine wpAny_holding (wpAny_bind ?_);unfold bindSpecial;refine wpAny_bind (wpAny_typeOf (T:="function") ⟨_,hfI1,hfc⟩ ?_);rw [if_pos (by decide)];refine wpAny_pure (wpAny_bind (wpAny_mono (hq h1 (h.objs.size+1) (Nat.le_succ _) ⟨keep,Heap.get?_none_of_le (Nat.le_succ _),h.objs.size,hget,Heap.get?_none_of_le (Nat.le_refl _),?_⟩) (fun r s' hr=>?_) fun _ _ x=>x))
 ·rw [<- hh];exact Heap.get?_push_of_some _ (Heap.get?_push_at rfl rfl)
 ·obtain⟨rfl,hQ⟩:=hr
  wp_walk
  exact hQ
theorem zlH(T:OwnTail h veB bm){Q:Value->Shared->Prop}
  (hC:h.get? C=some (excClassObj nm q C N bs bm hdct sn sub ab col dd k0 k1 k2 k3 k5 "ValueError.__new__")) (hn:h.Ns N mN) (hi:mN "__init__" = some (.ref fI)) (hfI:h.get? fI=some oI) (hfc:oI.cls=.type "function")
  (hq:∀ h' e,h.objs.size<=e->Heap.MadeExcOf h h' e (.ref C) rest->wpAny (model prog w) (A.under (.builtin "type.__call__" ⟨.ref C :: rest,[]⟩)) (call (.ref fI) (.ref e :: rest)) (fun r s'=>r=.none/\Q (.ref e) s') E ⟨h',g,d,t,os⟩) (hrest:rest.length<=sizeLine) :
  wpAny (model prog w) A (call (.ref C) rest) Q E ⟨h,g,d,t,os⟩:=by
 have f1:=tc_lookup;have f2:=tc_bind (.ref C);have hT:(⟨h,g,d,t,os⟩:Shared).TypeIs (.ref C) "type":=⟨_,hC,rfl⟩;refine wpAny_call (codeAny_of_tree ?_);show wpAny _ _ (callAny (.ref C) _) _ _ _
 repeat (any_goals (first | assumption | with_reducible refine wpAny_loadPart_at hC ?_ | wp_step))
 refine⟨rfl,?_⟩;exact codeAny_call_builtin_at (Code.quiet_builtin _ (by decide +kernel)) entry_typeCall (wpAny_check_type_call_sub hC (zfg T hC hn hi hfI hfc (fun h' e hz hm=>hq h' e hz hm) hrest))
end
section
variable {prog:Program} {w:World} {A:Around} {E:Value->Shared->Prop} {s:Shared} {env:Env}
variable {nm q:Str} {C N:Addr} {bs bm:List Value} {hdct:Bool} {sn:List Str} {sub:List Value} {ab:Bool} {col:Option Bool} {dd:Option Addr} {k0 k1 k2 k3 k5:Option Value} {newId:String}
theorem zjX{M:Model}{x:Sem Value}{Q:Flow->Shared->Prop}(hbase:bm.contains (.type "BaseException")=true)(hh:A.handled=none)
  (h:wpAny M A x (fun v s1=>∃ e t dx,v=.ref e/\s1.heap.get? C=some (excClassObj nm q C N bs bm hdct sn sub ab col dd k0 k1 k2 k3 k5 newId)/\s1.heap.get? e=some { cls:=.ref C,dict:=dx,data:=.fields #[.ref t,.none,.none,.none,.bool false,.none] }/\E (.ref e) s1) E s) :
  wpAny M A (raiseStmt env (some x) none) Q E s:=by
 have hcB:(Value.ref C :: bm).contains (.type "BaseException")=true:=by rw [List.contains_cons,hbase,Bool.or_true]
 unfold raiseStmt;refine wpAny_bind (wpAny_mono h (fun v s1 h1=>?_) fun _ _ x=>x);obtain⟨e,t,dx,rfl,hC,he,hE⟩:=h1;obtain⟨hp,g,d,tk,os⟩:=s1
 repeat (first | with_reducible refine wpAny_loadPart_at he ?_ | with_reducible refine wpAny_loadPart_at hC ?_ | (with_reducible refine wpAny_isSubtype_exc hC ?_; rw [hcB]) | wp_step)
 exact wpAny_raiseNew_none hh hE
end
end L2
namespace L2
open PySem PySem.Spec PySem.Calls PyProof.Rows
def del(H:Hp)(a:Addr):Hp:=fun b=>if b=a then none else H b
theorem zfx{H:Hp}{a b:Addr}(h:b≠a):del H a b=H b:=if_neg h
theorem zo3{H:Hp}{a:Addr}{o:HO}:upd (del H a) a o=upd H a o:=by
 funext b;unfold upd del;split
 ·rfl
 ·rfl
theorem ziL{H:Hp}{a b:Addr}{u:HO}(h:del H a b=some u):b≠a/\H b=some u:=by
 unfold del at h;split at h
 ·cases h
 ·rename_i n;exact⟨n,h⟩
section
variable {P:Program} {w:World} {K:W.Frag} {mg:Str->Option Value} {base:Heap} {N:List Str} {qual:Str} {scope:Scope} {f:Addr} {cd:Value} {A:Around} {outer:List Env} {s:Shared} {H:Hp} {E:XK}
theorem zmV{zf:List (Addr×Obj)}{σ:St}{Hc:Hp}{s2:Shared}{e C t:Addr}{dx:Option Addr}(I:Inv (zhk (CX1 P w) P w K mg base N qual scope f cd A outer s H E) zf σ Hc s2)(hn:Hc e=some (exN e C dx t))(ne0:s.heap.get? e=none)(hE:E (.ref C) (some e) (upd Hc e (exO e C dx))):
  (zhk (CX1 P w) P w K mg base N qual scope f cd A outer s H E).xe (.ref e) s2:=by
 have hfr:(A.deeper (envOfC qual scope s.heap.objs.size f cd)).frames=some (envOfC qual scope s.heap.objs.size f cd :: outer):=I.ok.frames;have nl:∀ b o,s.heap.get? b=some o->b∉frs outer->b∉frs (envOfC qual scope s.heap.objs.size f cd :: outer):=fun b o q hb z=>by
  rcases List.mem_cons.mp (show b∈s.heap.objs.size :: frs outer from z) with e | e
  ·exact absurd (Heap.lt_size q) (by rw [e]; exact Nat.lt_irrefl _)
  ·exact hb e
 have nx:∀ b:Addr,b∉([]:List Addr):=fun b=>by simp
 have ne1:∀ b o,s.heap.get? b=some o->b≠e:=fun b o q z=>by
  rw [z,ne0] at q;cases q
 have nt:∀ b xs,Hc b=some (.tup xs)->b≠e:=fun b xs q z=>by
  rw [z,hn] at q;cases q
 have no:∀ b y,Hc b=some (.own y)->b≠e:=fun b y q z=>by
  rw [z,hn] at q;cases q
 have stk:s2.heap.FunFrames base (envOfC qual scope s.heap.objs.size f cd :: outer):=I.stack;obtain⟨he,_,_⟩:=(show ObjOk P w Hc s2.heap e (exN e C dx t) from I.hok e _ hn);have hin:∀ env∈(envOfC qual scope s.heap.objs.size f cd :: outer),∀ b,env.frame=some b->b∈e :: frs (envOfC qual scope s.heap.objs.size f cd :: outer):=fun env he b hb=>List.mem_cons_of_mem _ (List.mem_filterMap.mpr ⟨env,he,hb⟩);generalize hB:PySem.W.hideAll s2.heap (e :: frs (envOfC qual scope s.heap.objs.size f cd :: outer))=B;have hd:∀ b o,s2.heap.get? b=some o->b≠e->b∉frs (envOfC qual scope s.heap.objs.size f cd :: outer)->B.get? b=some o:=fun b o q n1 n=>by
  rw [<- hB];exact PySem.W.hideAll_get _ q fun z=>(List.mem_cons.mp z).elim n1 n
 have kp:∀ b o,s.heap.get? b=some o->H b=none->b∉frs outer->B.get? b=some o:=fun b o q n hb=>hd b o (I.base.keep b o q n hb (nx b)) (ne1 b o q) (nl b o q hb);have ep:∀ b o,s.heap.get? b=some o->b∈frs outer\/∃ o',B.get? b=some o':=fun b o q=>by
  by_cases hb:b∈frs outer
  ·exact .inl hb
  ·obtain⟨o1,q1⟩:=I.base.there b o q (nx b);exact .inr ⟨o1,hd b o1 q1 (ne1 b o q) (nl b o q hb)⟩
 have tr:∀ b u,Hc b=some u->b≠e->∀ o,s2.heap.get? b=some o->B.get? b=some o:=fun b u q n1 o q1=>hd b o q1 n1 fun z=>by
  rw [I.stkFree b z] at q;cases q
 have ne:B.get? e=none:=by rw [<- hB]; exact PySem.W.hideAll_none _ List.mem_cons_self
 have ff:s2.heap.FunFrames B (envOfC qual scope s.heap.objs.size f cd :: outer):=by rw [<- hB]; exact PySem.W.funFrames_hide stk hin
 have bs:B.StaysIn s2.heap:=fun b o q=>by
  rw [<- hB] at q;exact PySem.W.of_hideAll _ q
 show wpAny _ _ (leaving (envOfC qual scope s.heap.objs.size f cd) (.ref e)) _ _ _;refine zhh hfr ff rfl he bs ne rfl rfl rfl fun h'' fl sm=>⟨del Hc e,e,C,dx,rfl,⟨I.os,I.bare,⟨fun b o q n hb _=>fl.1 b o (kp b o q n hb),fun b o q n hb _=>?_,fun b o q n _=>?_,fun b o q _=>?_,fun b xs q=>?_,fun b o u q=>?_,fun b ps q=>?_⟩,
  fun b u q=>?_,_,t,fl,kp,ep,fun b u q=>?_⟩,by rw [zo3]; exact hE⟩
 ·obtain⟨sl,q1⟩:=I.base.slot b o q n hb (nx b);obtain⟨_,o3,q3,nf⟩:=stk.mem (show b∈frs (envOfC qual scope s.heap.objs.size f cd :: outer) from List.mem_cons_of_mem _ hb);rw [q1] at q3;cases q3;obtain⟨sl3,q4⟩:=sm b _ q1 nf;exact⟨sl3,q4⟩
 ·rw [zfx (ne1 b o q)];exact I.base.free b o q n (nx b)
 ·rcases ep b o q with z | ⟨o',z⟩
  ·obtain⟨_,o3,q3,_⟩:=fl.2.2.1.mem (show b∈frs outer from z);exact⟨o3,q3⟩
  ·exact⟨o',fl.1 b o' z⟩
 ·have q2:=I.base.tups b xs q;rw [zfx (nt _ _ q2)];exact q2
 ·have q2:=I.base.frzs b o u q;rw [zfx fun z=>by rw [z,hn] at q2; cases q2];exact q2
 ·obtain⟨m,q2⟩:=I.base.tbls b ps q;exact⟨m,by rw [zfx fun z=>by rw [z,hn] at q2; cases q2]; exact q2⟩
 ·obtain⟨nb,qb⟩:=ziL q;refine(I.hok b u qb).stay (fun c v hc q1=>?_) (fun c q1=>by rw [zfx (no _ _ q1)]; exact q1) fun c xs q1=>by rw [zfx (nt _ _ q1)]; exact q1
  rcases hc with rfl | hc
  ·exact fl.1 _ _ (tr _ _ qb nb _ q1)
  ·exact fl.1 _ _ (tr _ _ hc (no _ _ hc) _ q1)
 ·obtain⟨nb,qb⟩:=ziL q;obtain⟨o,q1⟩:=(I.hok b u qb).obj;exact⟨o,tr b u qb nb o q1⟩
end
section
variable {X:Cx} {E:XK} {x:Str} {C fI:Addr} {fd:FuncData} {ps:List Str} {sp:Sp} {k:Nat} {np cpos pos:Pos} {e:Expr} {es:List Expr} {t:TA} {CX:CXT}
theorem znF{K:W.Frag}{h h1:Heap}{C:Addr}{ini:Option Value}{o:Obj}(q:ExCls K C ini)(X:K.In h)(X1:K.In h1)(e:h.get? C=some o):h1.get? C=some o:=by
 have z:=q.ty.1;unfold PySem.W.clsIn at z;cases hl:K.lookup C with
 | none=>rw [hl] at z; cases z
 | some o' =>
  have:=X _ _ hl;rw [e] at this;cases this;exact X1 _ _ hl
def zhF(E:XK)(C:Addr)(sp:Sp)(t:TA):TS:=fun _ σ H=>t σ H fun vs H1=>∀ a tt,H1 a=none->sp (.ref a :: vs) (upd H1 a (exN a C none tt)) (fun r H2=>r=.non/\∃ dx,H2 a=some (exN a C dx tt)/\E (.ref C) (some a) (upd H2 a (exO a C dx))) fun _ _ _=>False
def RaisesI(X:Cx)(E:XK):Prop:=∀ (C:Addr) (zf:List (Addr×Obj)) (σ:St) (H1 H2:Hp) (s1 s2:Shared) (e t:Addr) (dx:Option Addr),Inv X zf σ H1 s1->s1.heap.get? e=none->Inv X zf σ H2 s2->H2 e=some (exN e C dx t)->E (.ref C) (some e) (upd H2 e (exO e C dx))->X.xe (.ref e) s2
theorem zlp(hc:X.calm=true)(hR:RaisesI X E)(hg:Gl X x)(hm:X.mg x=some (.ref C))(q:ExCls X.K C (some (.ref fI)))(hk:PySem.W.keepIn X.K (.ref C)=true)(hfn:PySem.W.typeIn X.K (.ref fI)=some (.type "function"))(F:FnOk X.prog X.w X.K X.mg X.base CX k fI fd ps sp)(hcx:∀ o H s v s',CX o H s (fun _ _ _=>False) v s'->False)(hr:∀ us:List Value,Room k (X.A.under (.builtin "type.__call__" ⟨.ref C :: us,[]⟩)))(hb:Binds X.K fd ps [])(hpsz:ps.length<=1000)
  (ha:PA X (e :: es) t) (hdb:(x == ("__debug__":Str))=false:=by decide) (he:starEach (e :: es) X.env=(false,eval e X.env) :: starEach es X.env:=by rfl) (hpl:(backTo cpos (starEach es X.env)).any (·.1)=false:=by rfl) :
  PS X (.Raise (some (.Call (.Name x np) (e :: es) [] cpos)) none pos) (zhF E C sp t):=by
 intro zf s σ H D I h;obtain⟨tl,N,nm,qn,bs,hd,sn,sub,ab,col,dd,k0,k1,k2,k3,k5,mN,hC,hN,hni,T,_⟩:=q.ob _ I.kIn;have hbase:tl.contains (.type "BaseException")=true:=T.hasType (b:=true) (by decide +kernel);rw [arm_exec_Raise];refine wpAny_bind (wpAny_standAt (zjX (C:=C) (nm:=nm) (q:=qn) (N:=N) (bs:=bs) (bm:=tl) (hdct:=hd) (sn:=sn) (sub:=sub) (ab:=ab) (col:=col) (dd:=dd) (k0:=k0) (k1:=k1) (k2:=k2) (k3:=k3) (k5:=k5) (newId:="ValueError.__new__") hbase (I.ok.hd hc) (wpAny_bind (wpAny_mono (wpAny_Call_ofName (zeW I hg hm ?_ hdb)) (fun v s3 h3=>wpAny_bind (wpAny_standAt (wpAny_pure h3))) fun _ _ x=>x))));refine PySem.W.callWith_K (h₀:=X.base) I.ok.mod.kin hk (thn (ha cpos zf s σ H _ I h) fun us s1 ⟨vs,H1,I1,r,q1⟩=>⟨I1.kIn,?_⟩) he hpl;obtain⟨tl1,N1,nm1,qn1,bs1,hd1,sn1,sub1,ab1,col1,dd1,l0,l1,l2,l3,l5,mN1,hC1,hN1,hi1,T1,_⟩:=q.ob _ I1.kIn;obtain⟨oI,hoI,hcI⟩:∃ oI,s1.heap.get? fI=some oI/\oI.cls=.type "function":=by
  have z:Option.map (fun x:Obj=>x.cls) (X.K.lookup fI)=some (.type "function"):=hfn;cases hl:X.K.lookup fI with
  | none=>rw [hl] at z; cases z
  | some o=>rw [hl] at z; exact⟨o,I1.kIn _ _ hl,Option.some.inj z⟩
 obtain⟨h1,g1,d1,tk1,os1⟩:=s1;have hlen:us.length<=sizeLine:=by
  have hz:=r.length;have:=F.len _ _ _ _ (q1 h1.objs.size 0 (I1.hok.fresh (Nat.le_refl _)));have hps:ps.length<=1000:=hpsz;rw [List.length_cons] at this;rw [sizeLine_eq];omega
 refine zlH T1 hC1 hN1 hi1 hoI hcI (fun h' e2 hz mk=>?_) hlen;obtain⟨t2,he2,_,_⟩:=mk.there;have J:=I1.laid (a:=e2) (o:=exN e2 C none t2) (h':=h') (t':=tk1) mk.keeps hz (zoz he2);have qq:=q1 e2 t2 (I1.hok.fresh hz);have hl:(Value.ref e2 :: us).length=ps.length:=by
  have:=F.len _ _ _ _ qq;rw [List.length_cons] at this ⊢;rw [<- r.length];exact this
 have hb1:=hb _ (Value.ref e2 :: us) J.kIn (by rw [List.append_nil]; exact hl);rw [List.append_nil] at hb1;refine wpAny_call (codeAny_mono (F.run _ X.stack _ _ ⟨Value.ref e2 :: us,[]⟩ (Value.ref e2 :: us) (.ref e2 :: vs) _ _ (hr us) (J.env0.make C us []) hb1 (.cons rfl r) qq) fun rr s' hq=>?_);cases rr with
 | error v=>exact(hcx _ _ _ _ _ hq).elim
 | ok fl =>
  cases fl with
  | ret u =>
   obtain⟨y,H2,I2,ry,rfl,dx,hn2,hE⟩:=J.after hq;cases (show u=Value.none from ry);obtain⟨e3,_,_⟩:=(show ObjOk X.prog X.w H2 s'.heap e2 (exN e2 C dx t2) from I2.hok e2 _ hn2);exact⟨rfl,e2,t2,dx,rfl,znF q I.kIn I2.kIn hC,e3,hR C zf σ H1 H2 _ s' e2 t2 dx I1 mk.new I2 hn2 hE⟩
  | next=>exact False.elim hq
  | brk=>exact False.elim hq
  | cont=>exact False.elim hq
end
theorem zmA{P:Program}{w:World}{K:W.Frag}{mg:Str->Option Value}{base:Heap}{N:List Str}{qual:Str}{scope:Scope}{f:Addr}{cd:Value}{A:Around}{outer:List Env}{s:Shared}{H:Hp}{E:XK}:
  RaisesI (zhk (CX1 P w) P w K mg base N qual scope f cd A outer s H E) E:=fun C zf σ H1 H2 s1 s2 e t dx I1 ne I2 hn hE=>zmV I2 hn (by
 cases z:s.heap.get? e with
 | none=>rfl
 | some o =>
  obtain⟨o1,q1⟩:=I1.base.there e o z (fun z=>by cases z);rw [ne] at q1;cases q1) hE
end L2
namespace L2
open PySem PySem.Spec PyProof.Rows
section
def spI(K:W.Frag)(ns:List Str):Sp:=fun vs H Q _=>∃ a C t ws,vs=.ref a :: ws/\ws.length=ns.length/\ExI K C/\(∀ n∈ns,NoAttr K C n)/\H a=some (exN a C none t)/\∀ dx,H dx=none->Q .non (upd (upd H a (exN a C (some dx) t)) dx (xw dx (ns.zip ws)))
theorem init2{K:W.Frag}{n m:Str}{N:List Str}{vs:List V}{H:Hp}{Q:VK}{E:XK}(ne:n≠m)(h:spI K [n,m] vs H Q E):ziz (zoB K (zjx 0) (zjx 1) n) (zoB K (zjx 0) (zjx 2) m) { nx:=fun _ H'=>Q .non H',rt:=Q } (start N vs) H:=by
 obtain⟨a,C,t,ws,rfl,hl,xi,na,ha,q⟩:=h;obtain⟨w,v,rfl⟩:∃ w v,ws=[w,v]:=by
  match ws,hl with
  | [w,v],_=>exact⟨w,v,rfl⟩
 refine⟨w,rfl,_,rfl,a,C,t,rfl,xi,na n (by simp),.inl ⟨ha,fun dx hd=>?_⟩⟩;have nx:dx≠a:=fun z=>by
  rw [z,ha] at hd;cases hd
 refine⟨v,rfl,_,rfl,a,C,t,rfl,xi,na m (by simp),.inr ⟨dx,[(n,w)],?_,zH,nx,by simp,?_⟩⟩
 ·rw [zw (Ne.symm nx),zH]
 ·have e:zhQ m v [(n,w)]=[n,m].zip [w,v]:=by simp [zhQ,ne]
  show Q .non _;rw [e,zia];exact q dx hd
theorem zkx{H:Hp}:∀ {ns:List Str} {ds:List PyData} {vs:List V},HasL H ds vs->∀ f dt,(ns.zip ds).lookup f=some dt->∃ u,(ns.zip vs).lookup f=some u/\Has H dt u
 | [],_,_,_,f,dt,e=>by simp at e
 | n :: ns,[],_,_,f,dt,e=>by simp at e
 | n :: ns,d :: ds,vs,l,f,dt,e=>by
  obtain⟨v,r,rfl,hv,l'⟩:=zK.mp l;rw [List.zip_cons_cons,List.lookup_cons] at e;by_cases z:f=n
  ·subst z;simp at e;subst e;exact⟨v,by simp,hv⟩
  ·have zz:(f == n)=false:=by simp [z]
   rw [zz] at e;obtain⟨u,e1,e2⟩:=zkx l' f dt e;exact⟨u,by rw [List.zip_cons_cons,List.lookup_cons,zz]; exact e1,e2⟩
def zf8(EX:EXD)(C:Addr)(ns:List Str)(da:DA):DS:=fun _ δ S=>da δ S fun xs _=>∃ ds,datas xs=some ds/\ds.length=ns.length/\EX C (ns.zip ds)
theorem zk5{E:XK}{EX:EXD}{K:W.Frag}{C:Addr}{ns:List Str}{ta:TA}{da:DA}(hI:ExI K C)(hn:∀ n∈ns,NoAttr K C n)(ha:RA ta da):RSx E EX (zhF E C (spI K ns) ta) (zf8 EX C ns da):=fun h o H δ σ S En D he hs q c x =>
 ha h o H δ σ S _ _ he hs q fun o1 H1 S1 xs vs e1 s1 x1 ⟨ds,ed,hl,hE⟩ a tt na=>by
  have exs:=zbk ed;have hL:=zdT x1 exs;refine⟨a,C,tt,vs,rfl,by rw [hL.length]; exact hl,hI,hn,zH,fun dx nd=>⟨rfl,some dx,?_,?_⟩⟩
  ·have ne:dx≠a:=fun z=>by rw [z,zH] at nd; cases nd
   rw [zw (Ne.symm ne),zH]
  ·have ne:dx≠a:=fun z=>by rw [z,zH] at nd; cases nd
   have nd1:H1 dx=none:=by rwa [zw ne] at nd
   have na1:upd H1 dx (xw dx (ns.zip vs)) a=none:=by rw [zw (Ne.symm ne)]; exact na
   have eH:upd (upd (upd (upd H1 a (exN a C none tt)) a (exN a C (some dx) tt)) dx (xw dx (ns.zip vs))) a (exO a C (some dx))=upd (upd H1 dx (xw dx (ns.zip vs))) a (exO a C (some dx)):=by
    funext b;unfold upd;split
    ·rfl
    ·rfl
   rw [eH];have sU:=(Same.laid (o:=xw dx (ns.zip vs)) nd1).trans (Same.laid (o:=exO a C (some dx)) na1);have fa:=s1.fresh na;have fd:=s1.fresh nd1;refine(x.pre e1) o1 _ S1 C a (ns.zip ds) (Ex.of_same sU) (s1.same sU) ⟨a,some dx,rfl,zM.mpr ⟨fa.1,fa.2,zH⟩,fun f dt l=>?_⟩ hE;obtain⟨u,e2,e3⟩:=zkx hL f dt l;exact⟨dx,ns.zip vs,u,rfl,zM.mpr ⟨fd.1,fd.2,by rw [zw ne,zH]⟩,e2,Has.mono (zd3 sU) _ _ e3⟩
end
end L2
namespace L2
open PySem PySem.Spec PySem.Calls PyProof.Rows
def tXA(K:W.Frag)(te:TE)(f:Str):TE:=fun σ H Q=>te σ H fun x H1=>∃ a C dx vs u,x=.ref a/\H1 a=some (exO a C (some dx))/\H1 dx=some (xw dx vs)/\ExI K C/\NoAttr K C f/\vs.lookup f=some u/\Q u H1
theorem zmR{X:Cx}{e:Expr}{te:TE}{f:Str}{pos:Pos}(he:PE X e te)(hb:attributeBase e f X.env (eval e X.env)=eval e X.env):PE X (.Attribute e f pos) (tXA X.K te f):=by
 intro zf s σ H Q I h;refine zoE hb (thn (he zf s σ H _ I h) fun u s1 ⟨x,H1,I1,rx,a,C,dx,vs,v,ex,ea,ed,xi,na,l,q⟩=>?_);subst ex;obtain rfl:u=Value.ref a:=rx;obtain⟨hp,g,d,t,os⟩:=s1;obtain⟨⟨o,e1,hc,hd,fv,hfv⟩,_,_⟩:=(show ObjOk X.prog X.w H1 hp a (exO a C (some dx)) from I1.hok a _ ea);obtain⟨⟨mA,n1,r1,w1⟩,_,_⟩:=(show ObjOk X.prog X.w H1 hp dx (xw dx vs) from I1.hok dx _ ed);obtain⟨od,ho,hl⟩:=zgR n1;have rr:RelO (some v) (mA f):=by rw [<- l]; exact r1 f
 obtain⟨w,hw,rv⟩:∃ w,mA f=some w/\RelV v w:=by
  cases z:mA f with
  | none=>rw [z] at rr; cases rr
  | some w=>rw [z] at rr; exact⟨w,rfl,rr⟩
 have T0:∀ M,PySem.W.Looks M hp (typeOf (.ref a)) (.ref C):=fun M=>hc▸(PySem.W.Looks.ld e1).andThen .now;exact zo6 (v:=w) I1.kIn T0 ⟨xi.k.ga,xi.k.gn,(xi.k.mroIn _).trans (by simp [exM])⟩ (PySem.W.looks_find I1.kIn ⟨e1,hc,by unfold PySem.W.notCls; rw [hfv],by rw [hd]; exact ho⟩ (PySem.W.findObj_own xi.hd na rfl (by rw [hl,hw]))) (zla rv) ⟨v,H1,I1.tok _,rv,q⟩
structure ExsI(K:W.Frag)(Cs:List Addr)(f:Str):Prop where
 i:∀ C∈Cs,ExI K C
 n:∀ C∈Cs,NoAttr K C f
def dXA(Cs:List Addr)(de:DE)(f:Str):DE:=fun δ S R=>de δ S fun x S1=>∃ C fs d,x=.x C fs/\C∈Cs/\fs.lookup f=some d/\R (.d d) S1
theorem zeu{K:W.Frag}{Cs:List Addr}{te:TE}{de:DE}{f:Str}(X0:ExsI K Cs f)(he:RE te de):RE (tXA K te f) (dXA Cs de f):=fun h o H δ σ S R Q hE hs q c =>
 he h o H δ σ S _ _ hE hs q fun o1 H1 S1 x v e1 s1 x1 d1=>by
  obtain⟨C,fs,d,rfl,hC,hl,q1⟩:=d1;obtain⟨a,dx0,rfl,ha,hf⟩:=(show HasE (vx h o1 H1) C fs v from x1);obtain⟨dx,vs,u,rfl,e2,e3,e4⟩:=hf f d hl;exact⟨a,C,dx,vs,u,rfl,zR _ _ ha,zR _ _ e2,X0.i C hC,X0.n C hC,e3,c o1 H1 S1 (.d d) u e1 s1 e4 q1⟩
end L2
namespace L2
open PySem PySem.Spec PyProof.Rows
section
def zrB(o:Obj):Bool:=match o.data with
 | .dict es _=>es.toList.all fun e=>match e.key with | .str _ _=>true | _=>false
 | _=>false
theorem zph{K:W.Frag}{N:Addr}{o:Obj}(l:K.lookup N=some o)(h:zrB o=true):PySem.W.nsOkIn K N=true:=by
 unfold PySem.W.nsOkIn;rw [l];obtain⟨a,b,c,d⟩:=o;cases c with
 | dict es n =>
  show (es.all fun e=>match e.key with | .str _ _=>true | _=>false)=true;rw [<- Array.all_toList];exact h
 | _=>cases h
theorem exc_ofI{K:W.Frag}{C N fI:Addr}{nm qn:Str}{bs:List Value}{hd:Bool}{sn:List Str}{sub:List Value}{ab:Bool}{col:Option Bool}{dd:Option Addr}{k0 k1 k2 k3 k5:Option Value}
  (l:K.lookup C=some (excClassObj nm qn C N bs (.ref 24 :: veB) hd sn sub ab col dd k0 k1 k2 k3 k5 "ValueError.__new__")) {oN:Obj} (lN:K.lookup N=some oN) (sN:zrB oN=true) (i:PySem.W.nsIn K N "__init__" = some (some (.ref fI))) (G:ExCls K 24 none):ExCls K C (some (.ref fI)):=by
 have ok:=zph lN sN;refine⟨fun h X=>?_,?_,?_⟩
 ·obtain⟨bmG,NG,nmG,qnG,bsG,hdG,snG,subG,abG,colG,ddG,j0,j1,j2,j3,j5,mNG,hG,hNG,hniG,_,_⟩:=G.ob h X;have nsN:h.Ns N (h.nsMap N):=.of_isNs (PySem.W.isNs_of_in X ok);refine⟨.ref 24 :: veB,N,nm,qn,bs,hd,sn,sub,ab,col,dd,k0,k1,k2,k3,k5,h.nsMap N,X _ _ l,nsN,zrK X nsN i,.own hG hNG hniG .base,fun D=>?_⟩;unfold PySem.W.mroIn PySem.W.clsIn;rw [l];rfl
 ·unfold PySem.W.clsIn;rw [l];rfl
 ·show Option.map (fun x:Obj=>x.cls) (K.lookup C)=_;rw [l];rfl
end
section
abbrev Phi:=List Addr->List Addr->Hp->Prop
class Stb (Φ:Phi):Prop where
 st:∀ {h o o':List Addr} {H H':Hp},Φ h o H->Ex o H o' H'->Φ h o' H'
def PhX(E:XK)(EX:EXD):Phi:=fun h o H=>CnX h o H EX E
instance {E:XK} {EX:EXD}:Stb (PhX E EX):=⟨fun x e=>CnX.pre x e⟩
def REp(Φ:Phi)(t:TE)(dt:DE):Prop:=∀ (h o:List Addr) (H:Hp) (δ:XE) (σ:St) (S:Sto) (R:RX) (Q:VK),RepE h o H δ σ->RepS h o H S->dt δ S R->Cn h o H R Q->Φ h o H->t σ H Q
def RTp(Φ:Phi)(t:TT)(dt:DT):Prop:=∀ (h o:List Addr) (H:Hp) (δ:XE) (σ:St) (S:Sto) (R:Bool->Sto->Prop) (Q:Bool->Hp->Prop),RepE h o H δ σ->RepS h o H S->dt δ S R ->
 (∀ o' H' S' b,Ex o H o' H'->RepS h o' H' S'->R b S'->Q b H')->Φ h o H->t σ H Q
def RAp(Φ:Phi)(t:TA)(dt:DA):Prop:=∀ (h o:List Addr) (H:Hp) (δ:XE) (σ:St) (S:Sto) (R:List XV->Sto->Prop) (Q:List V->Hp->Prop),RepE h o H δ σ->RepS h o H S->dt δ S R ->
 (∀ o' H' S' xs vs,Ex o H o' H'->RepS h o' H' S'->HasXs h o' H' xs vs->R xs S'->Q vs H')->Φ h o H->t σ H Q
def RIp(Φ:Phi)(w:TI)(di:DI):Prop:=∀ (h o:List Addr) (H:Hp) (δ:XE) (σ:St) (S:Sto) (R:List PyData->Sto->Prop) (Q:It->Hp->Prop),RepE h o H δ σ->RepS h o H S->di δ S R ->
 (∀ o' H' S' ds J,Ex o H o' H'->RepS h o' H' S'->WalkX h o' H' J ds->R ds S'->Q J H')->Φ h o H->w σ H Q
section
variable {Φ:Phi} [Stb Φ] {ta tb te:TE} {da db de:DE} {tl:TA} {dl:DA} {tt tu:TT} {dt du:DT}
theorem zmu(a:RE te de):REp Φ te de:=fun h o H δ σ S R Q he hs q c _=>a h o H δ σ S R Q he hs q c
theorem zmx(a:RT tt dt):RTp Φ tt dt:=fun h o H δ σ S R Q he hs q c _=>a h o H δ σ S R Q he hs q c
theorem zf7(a:RA tl dl):RAp Φ tl dl:=fun h o H δ σ S R Q he hs q c _=>a h o H δ σ S R Q he hs q c
theorem zkW{w:TI}{di:DI}(a:RI w di):RIp Φ w di:=fun h o H δ σ S R Q he hs q c _=>a h o H δ σ S R Q he hs q c
end
section
variable {E:XK} {EX:EXD} {ta tb te:TE} {da db de:DE} {tl:TA} {dl:DA} {tt tu:TT} {dt du:DT}
def zeK(EX:EXD)(m:Nat)(q:PX)(da:DA):DE:=fun δ S R=>da δ S fun xs S1=>∃ ds,datas xs=some ds/\ds.length=m/\q (ds.map XV.d) [] (ret0 S1 R) EX
theorem CnX.out{h o:List Addr}{H:Hp}{S:Sto}(hs:RepS h o H S)(x:CnX h o H EX E):CnX (h++o) [] H EX E:=fun o' H' S' C a fs e' s' hE q=>by
 have sH:Same H H':=fun b u eb=>(e'.kp b u (by simp) eb).2;have sv:Same (vx (h++o) o' H') (vx h o H'):=fun b u eb=>by
  obtain⟨n1,n2,n3⟩:=zM.mp eb;exact zM.mpr ⟨fun z=>n1 (List.mem_append_left _ z),fun z=>n1 (List.mem_append_right _ z),n3⟩
 exact x o H' S C a fs (Ex.of_same sH) (hs.same sH) (HasE.mono sv hE) q
theorem zeG{ps:List Str}{q:PX}{m:Nat}(ha:RAp (PhX E EX) tl dl)(hm:ps.length=m:=by rfl):REp (PhX E EX) (zgT (spX ps q) [] E tl) (zeK EX m q dl):=fun h o H δ σ S R Q he hs w c x =>
 ha h o H δ σ S _ _ he hs w (fun o1 H1 S1 xs vs e1 s1 x1 ⟨ds,e,hl,d1⟩=>by
  have ex:=zbk e;subst ex;have hv:=x1.len;rw [List.append_nil];exact⟨by rw [hv,List.length_map,hl,hm],h++o1,[],[],_,_,EX,rep0 s1,hxs0 x1,d1,cn0 s1 (c.pre e1),(x.pre e1).out s1⟩) x
theorem zjE{g:TG}{dg:DG}(ha:REp (PhX E EX) te de)(hg:RG g dg):RSx E EX (zp5 te g) (zbT de dg):=fun h o H δ σ S En D he hs q c x =>
 ha h o H δ σ S _ _ he hs q (fun o1 H1 S1 y v e1 s1 x1 d1=>hg h o1 H1 δ σ S1 y v _ _ (he.mono e1) s1 x1 d1 (c.nx.pre e1)) x
theorem zqT{t u:TS}{ds dv:DS}(hc:RTp (PhX E EX) tt dt)(ht:RSx E EX t ds)(hu:RSx E EX u dv):RSx E EX (znZ tt t u) (zcF dt ds dv):=fun h o H δ σ S En D he hs q c x =>
 hc h o H δ σ S _ _ he hs q (fun o1 H1 S1 b e1 s1 d1=>by
  cases b with
  | true=>exact zlu (ht h o1 H1 δ σ S1 En D (he.mono e1) s1 (by simpa using d1) (c.pre e1) (x.pre e1))
  | false=>exact zkU (hu h o1 H1 δ σ S1 En D (he.mono e1) s1 (by simpa using d1) (c.pre e1) (x.pre e1))) x
end
section
variable {X:Cx} {E:XK}
theorem zi7{x:Str}{ps:List Str}{k j:Nat}{pos pos':Pos}{e:Expr}{es:List Expr}{t:TA}{q:PX}(D:DfX X.prog X.w X.K X.mg X.base x ps k (spX ps q))(hp:Passes (CX1 X.prog X.w) X E)(hr:Room j X.A)(hk:k<=j)(ha:PA X (e :: es) t)(hg:Gl X x:=by rfl)(hdb:(x == ("__debug__":Str))=false:=by decide)
  (q1:starEach (e :: es) X.env=(false,eval e X.env) :: starEach es X.env:=by rfl) (q2:((backTo pos (starEach es X.env)).any fun x=>x.fst)=false:=by rfl):PE X (.Call (.Name x pos') (e :: es) [] pos) (zgT (spX ps q) [] E t):=by
 obtain⟨f,fd,F,hm,kp,hb⟩:=D.ex;exact zit (dvs:=[]) (ds:=[]) (E:=E) F (hr.mono hk) hg hm kp hb .nil hp ha hdb q1 q2
end
structure XI(K:W.Frag)(C:Addr)(ns:List Str)(qual:Str)(st:Stmt):Prop where
 ex:∃ fI fd,ExCls K C (some (.ref fI))/\PySem.W.typeIn K (.ref fI)=some (.type "function")/\Fun K "__init__" qual st fI fd/\Binds K fd (("self":Str) :: ns) []
 kc:PySem.W.keepIn K (.ref C)=true
 i:ExI K C
 na:∀ n∈ns,NoAttr K C n
theorem XI.mk'{K:W.Frag}{C N fI:Addr}{ns:List Str}{qual:Str}{st:Stmt}{nm qn:Str}{bs:List Value}{hd:Bool}{sn:List Str}{sub:List Value}{ab:Bool}{col:Option Bool}{dd:Option Addr}{k0 k1 k2 k3 k5:Option Value}{oc:Value}{od an:Option Addr}{osl:Array (Option Value)}{kV doc pm cdv ct:Value}
  (l:K.lookup C=some (excClassObj nm qn C N bs (.ref 24 :: veB) hd sn sub ab col dd k0 k1 k2 k3 k5 "ValueError.__new__")) {oN:Obj} (lN:K.lookup N=some oN) (sN:zrB oN=true) (i:PySem.W.nsIn K N "__init__" = some (some (.ref fI))) (G:ExCls K 24 none)
  (tf:PySem.W.typeIn K (.ref fI)=some (.type "function")) (lf:K.lookup fI=some ⟨oc,od,.func (PySem.W.fnOf "__init__" qual (zcu st) (zaQ st) (zk st) .none kV doc pm an cdv ct),osl⟩) (c:PySem.W.codeIn K cdv qual=true) (kf:PySem.W.keepIn K (.ref fI)=true)
  (hb:∀ (kV doc pm:Value) (an:Option Addr) (cdv ct:Value) (us:List Value),us.length=(("self":Str) :: ns).length->bindArgs (PySem.W.fnOf "__init__" qual (zcu st) (zaQ st) (zk st) .none kV doc pm an cdv ct) ⟨us,[]⟩=pure ((("self":Str) :: ns).zip us))
  (kc:PySem.W.keepIn K (.ref C)=true) (ek:ExK K C) (hdd:PySem.W.hasDictIn K C=true) (sa:PySem.W.findIn K (.ref C) "__setattr__" = some (some (.builtin "object.__setattr__"))) (na:∀ n∈ns,NoAttr K C n):XI K C ns qual st :=
 ⟨⟨fI,_,exc_ofI l lN sN i G,tf,zjt (st:=st) lf c kf,(zjt (st:=st) lf c kf).binds hb⟩,kc,⟨ek,hdd,sa⟩,na⟩
theorem zpu{K:W.Frag}{ns:List Str}(vs:List V)(H:Hp)(Q:VK)(E:XK)(h:spI K ns vs H Q E):vs.length=(("self":Str) :: ns).length:=by
 obtain⟨a,C,t,ws,rfl,hl,_⟩:=h;rw [List.length_cons,List.length_cons,hl]
section
variable {X:Cx} {E:XK} {x:Str} {C:Addr} {ns:List Str} {qual:Str} {st:Stmt} {j:Nat} {np cpos pos:Pos} {e:Expr} {es:List Expr} {t:TA}
theorem zlf(B:XI X.K C ns qual st)(hF:∀ f fd,Fun X.K "__init__" qual st f fd->FnOk X.prog X.w X.K X.mg X.base CX0 1 f fd (("self":Str) :: ns) (spI X.K ns))(hR:RaisesI X E)(hr:Room j X.A)(hj:2<=j)(hm:X.mg x=some (.ref C))(hn:ns.length<=9)
  (ha:PA X (e :: es) t) (hc:X.calm=true:=by rfl) (hg:Gl X x:=by rfl) (hdb:(x == ("__debug__":Str))=false:=by decide) (he:starEach (e :: es) X.env=(false,eval e X.env) :: starEach es X.env:=by rfl) (hpl:(backTo cpos (starEach es X.env)).any (·.1)=false:=by rfl) :
  PS X (.Raise (some (.Call (.Name x np) (e :: es) [] cpos)) none pos) (zhF E C (spI X.K ns) t):=by
 obtain⟨fI,fd,q,hfn,F,hb⟩:=B.ex;exact zlp hc hR hg hm q B.kc hfn (hF fI fd F) (fun _ _ _ _ _ z=>z) (fun us=>(hr.mono hj).make C us []) hb (by rw [List.length_cons]; omega) ha hdb he hpl
end
def zr1(N P:List Str)(sc:Scope):Bool:=decide (sc.kind=.function) && !sc.isCoroutine && !sc.isGenerator && decide N.Nodup && decide (N.take P.length=P) && P.all (fun x=>decide (sc.names.lookup x=some .local) || decide (sc.names.lookup x=some .cell)) && sc.names.all fun y=>decide (y.2≠.free)
theorem fsc{N P:List Str}{sc:Scope}(h:zr1 N P sc=true):FnScope N P sc:=by
 simp only [zr1,Bool.and_eq_true,decide_eq_true_eq,Bool.not_eq_true',List.all_eq_true,Bool.or_eq_true] at h;obtain⟨⟨⟨⟨⟨⟨h1,h2⟩,h3⟩,h4⟩,h5⟩,h6⟩,h7⟩:=h;exact⟨h1,h2,h3,h4,h5,h6,h7⟩
end
section
section
variable {κ α:Type} [DecidableEq κ]
def lkA(m:List (κ×α))(k:κ):Option α:=(m.find? fun p=>decide (p.1=k)).map (·.2)
def ptA(m:List (κ×α))(k:κ)(v:α):List (κ×α):=if (m.any fun p=>decide (p.1=k))=true then m.map (fun p=>if p.1=k then (p.1,v) else p) else m++[(k,v)]
def HasM(H:Hp):List (κ×PyData)->List (κ×V)->Prop
 | [],m=>m=[]
 | p :: r,m=>∃ v m',m=(p.1,v) :: m'/\Has H p.2 v/\HasM H r m'
theorem HasM.mono{H H':Hp}(s:Same H H'):∀ {m:List (κ×PyData)} {m':List (κ×V)},HasM H m m'->HasM H' m m'
 | [],_,q=>q
 | p :: r,_,⟨v,t,e,q,l⟩=>⟨v,t,e,Has.mono s _ _ q,HasM.mono s l⟩
theorem HasM.length{H:Hp}:∀ {m:List (κ×PyData)} {m':List (κ×V)},HasM H m m'->m'.length=m.length
 | [],_,q=>by rw [show _=[] from q]; rfl
 | p :: r,_,⟨v,t,e,q,l⟩=>by rw [e,List.length_cons,List.length_cons,HasM.length l]
theorem HasM.val{H:Hp}(k:κ):∀ {m:List (κ×PyData)} {m':List (κ×V)},HasM H m m'->(lkA m k=none/\zh3 m' k=none)\/∃ d v,lkA m k=some d/\zh3 m' k=some v/\Has H d v
 | [],m',q=>by rw [show m'=[] from q]; exact .inl ⟨rfl,rfl⟩
 | p :: r,m',⟨v,t,e,q,l⟩=>by
  subst e;by_cases hk:p.1=k
  ·exact .inr ⟨p.2,v,by simp [lkA,hk],zi6 hk,q⟩
  ·have e1:lkA (p :: r) k=lkA r k:=by simp [lkA,hk]
   rw [e1,ziY hk];exact HasM.val k l
theorem HasM.any{H:Hp}(k:κ):∀ {m:List (κ×PyData)} {m':List (κ×V)},HasM H m m'->(m'.any fun p=>decide (p.1=k))=m.any fun p=>decide (p.1=k)
 | [],m',q=>by rw [show m'=[] from q]; rfl
 | p :: r,m',⟨v,t,e,q,l⟩=>by
  subst e;rw [List.any_cons,List.any_cons,HasM.any k l]
theorem HasM.sets{H:Hp}{k:κ}{d:PyData}{v:V}(hv:Has H d v):∀ {m:List (κ×PyData)} {m':List (κ×V)},HasM H m m'->HasM H (m.map fun p=>if p.1=k then (p.1,d) else p) (m'.map fun p=>if p.1=k then (p.1,v) else p)
 | [],m',q=>by rw [show m'=[] from q]; rfl
 | p :: r,m',⟨u,t,e,q,l⟩=>by
  subst e;rw [List.map_cons,List.map_cons];by_cases hk:p.1=k
  ·exact⟨v,_,by simp [hk],by simpa [hk] using hv,HasM.sets hv l⟩
  ·exact⟨u,_,by simp [hk],by simpa [hk] using q,HasM.sets hv l⟩
theorem HasM.snoc{H:Hp}{k:κ}{d:PyData}{v:V}(hv:Has H d v):∀ {m:List (κ×PyData)} {m':List (κ×V)},HasM H m m'->HasM H (m++[(k,d)]) (m'++[(k,v)])
 | [],m',q=>by rw [show m'=[] from q]; exact⟨v,[],rfl,hv,rfl⟩
 | p :: r,m',⟨u,t,e,q,l⟩=>by subst e; exact⟨u,_,rfl,q,HasM.snoc hv l⟩
theorem HasM.put{H:Hp}{k:κ}{d:PyData}{v:V}{m:List (κ×PyData)}{m':List (κ×V)}(l:HasM H m m')(hv:Has H d v):HasM H (ptA m k d) (zig m' k v):=by
 unfold ptA zig;rw [l.any k];split
 ·exact l.sets hv
 ·exact l.snoc hv
end
inductive DD where
 | k (m:List (Key×PyData))
 | t (m:List (List Key×PyData))
def DD.pairs:DD->List (PyData×PyData)
 | .k m=>m.map fun p=>(kD p.1,p.2)
 | .t m=>m.map fun p=>(.tuple (p.1.map kD),p.2)
def zr9:PyData->Option Key
 | .int i=>some (.inl i)
 | .str x=>some (.inr x)
 | _=>none
def DAt(G H:Hp)(a:Addr):DD->Prop
 | .k m=>∃ m',H a=some (.dK m')/\HasM G m m'
 | .t m=>∃ m',H a=some (.dT m')/\HasM G m m'
theorem znu{H:Hp}{y:PyData}{v:V}{k:Key}(e:zr9 y=some k)(q:Has H y v):v=kV k:=by
 cases y with
 | int i=>cases e; exact zbR.mp q
 | str x=>cases e; exact zdq.mp q
 | _=>cases e
theorem DAt.mono{G G' H H':Hp}{a:Addr}{D:DD}(s:Same G G')(e:∀ u,H a=some u->H' a=some u)(q:DAt G H a D):DAt G' H' a D:=by
 cases D with
 | k m=>obtain⟨m',e1,l⟩:=q; exact⟨m',e _ e1,l.mono s⟩
 | t m=>obtain⟨m',e1,l⟩:=q; exact⟨m',e _ e1,l.mono s⟩
theorem DAt.mo{G H:Hp}{a:Addr}{D:DD}(q:DAt G H a D):∃ u:MO,H a=some u.ho:=by
 cases D with
 | k m=>obtain⟨m',e1,l⟩:=q; exact⟨.k m',e1⟩
 | t m=>obtain⟨m',e1,l⟩:=q; exact⟨.t m',e1⟩
theorem zp7{a b:Key}(e:kD a=kD b):a=b:=by
 cases a <;> cases b <;> cases e <;> rfl
theorem zlG{H:Hp}:∀ {m:List (Key×PyData)} {m':List (Key×V)},HasM H m m'->HasV H (m.map fun p=>(kD p.1,p.2)) (m'.map (·.2))/\m'.map (fun p=>kD p.1)=m.map fun p=>kD p.1
 | [],m',q=>by rw [show m'=[] from q]; exact⟨zjl.mpr rfl,rfl⟩
 | p :: r,m',⟨v,t,e,q,l⟩=>by
  subst e;obtain⟨z1,z2⟩:=zlG l;exact⟨zgG.mpr ⟨v,_,rfl,q,z1⟩,by rw [List.map_cons,List.map_cons,z2]⟩
theorem zlk{H:Hp}:∀ {m:List (Key×PyData)} {m':List (Key×V)},HasV H (m.map fun p=>(kD p.1,p.2)) (m'.map (·.2))->m.map (fun p=>kD p.1)=m'.map (fun p=>kD p.1)->HasM H m m'
 | [],[],_,_=>rfl
 | [],_ :: _,_,e=>by simp at e
 | _ :: _,[],_,e=>by simp at e
 | p :: r,q :: t,h,e=>by
  rw [List.map_cons,List.map_cons] at h;obtain⟨v,s,e1,e2,e3⟩:=zgG.mp h;rw [List.cons.injEq] at e1;rw [List.map_cons,List.map_cons,List.cons.injEq] at e;have z:=zp7 e.1;obtain⟨q1,q2⟩:=q;refine⟨q2,t,by rw [z],?_,zlk (by rw [e1.2]; exact e3) e.2⟩;have z1:q2=v:=e1.1;rw [z1];exact e2
theorem zgY{H:Hp}{m:List (Key×PyData)}{v:V}:Has H (.dict (DD.pairs (.k m))) v↔∃ a ob m',v=.ref a/\H a=some (.frz ob (.dK m'))/\HasM H m m':=by
 rw [zgu];constructor
 ·rintro⟨a,vs,rfl,⟨ob,m',e,e1,e2⟩,l⟩;subst e2;refine⟨a,ob,m',rfl,e,zlk l ?_⟩;rw [<- e1];simp [DD.pairs]
 ·rintro⟨a,ob,m',rfl,e,l⟩;obtain⟨z1,z2⟩:=zlG l;exact⟨a,_,rfl,⟨ob,m',e,by rw [z2]; simp [DD.pairs],rfl⟩,z1⟩
abbrev DM:=List (Addr×DD)
def ad(M:DM):List Addr:=M.map (·.1)
structure RepM(h o:List Addr)(H:Hp)(M:DM):Prop where
 nd:(ad M).Nodup
 nh:∀ a∈ad M,a∉h/\a∉o
 ct:∀ a D,(a,D)∈M->DAt (vx (h++ad M) o H) H a D
section
variable {h o o':List Addr} {H H':Hp} {M:DM} {S:Sto}
theorem RepM.at(r:RepM h o H M){a:Addr}(m:a∈ad M):∃ D,(a,D)∈M/\DAt (vx (h++ad M) o H) H a D:=by
 obtain⟨p,mp,e⟩:=List.mem_map.mp m;obtain⟨b,D⟩:=p;cases e;exact⟨D,mp,r.ct _ D mp⟩
theorem RepM.mono(r:RepM h o H M)(e:Ex o H o' H'):RepM h o' H' M:=by
 have k1:∀ a∈ad M,∀ u,H a=some u->a∉o'/\H' a=some u:=fun a m u z=>e.kp a u (r.nh a m).2 z;refine⟨r.nd,fun a m=>⟨(r.nh a m).1,?_⟩,fun a D m=>?_⟩
 ·obtain⟨D,_,q⟩:=r.at m;obtain⟨u,z⟩:=q.mo;exact(k1 a m _ z).1
 ·exact(r.ct a D m).mono e.vx fun u z=>(k1 a (List.mem_map.mpr ⟨_,m,rfl⟩) u z).2
theorem RepM.nil:RepM h o H []:=⟨List.nodup_nil,fun a m=>(by cases m),fun a D m=>(by cases m)⟩
def zpE(M:DM)(a:Addr)(D:DD):DM:=M.map fun p=>if p.1=a then (a,D) else p
theorem zeL{a:Addr}{D:DD}:∀ {M:DM},ad (zpE M a D)=ad M
 | []=>rfl
 | p :: r=>by
  have z:=zeL (a:=a) (D:=D) (M:=r);unfold ad zpE at z ⊢;rw [List.map_cons,List.map_cons,List.map_cons,z];by_cases e:p.1=a <;> simp [e]
theorem zeM{a:Addr}{u:HO}(m:a∈h):Same (vx h o H) (vx h o (upd H a u)):=fun b w e=>by
 obtain⟨z1,z2,z3⟩:=zM.mp e;exact zM.mpr ⟨z1,z2,by rw [zw (fun z=>z1 (by rw [z]; exact m))]; exact z3⟩
theorem HasX.view(s:Same (vx h o H) (vx h o H')):∀ {x:XV} {v:V},HasX h o H x v->HasX h o H' x v
 | .d d,v,q=>Has.mono s d v q
 | .l k,v,q=>q
 | .o w,v,q=>q
 | .x C fs,v,q=>HasE.mono s q
theorem RepE.view{δ:XE}{σ:St}(s:Same (vx h o H) (vx h o H'))(r:RepE h o H δ σ):RepE h o H' δ σ:=⟨r.len,fun i x e=>let ⟨v,e1,e2⟩:=r.get i x e; ⟨v,e1,e2.view s⟩⟩
theorem RepS.hidden{a:Addr}{u:MO}(r:RepS h o H S)(m:a∈h):RepS h o (L2.upd H a u.ho) S where
 len:=r.len
 nd:=r.nd
 dis:=r.dis
 hal:=fun b mb=>by
  by_cases e:b=a
  ·subst e; exact⟨u,zH⟩
  ·obtain⟨w,z⟩:=r.hal b mb;exact⟨w,by rw [zw e]; exact z⟩
 cont:=fun k b ds e1 e2=>by
  obtain⟨vs,e3,l⟩:=r.cont k b ds e1 e2;have ne:b≠a:=fun z=>r.dis b (List.mem_of_getElem? e1) (z▸m);exact⟨vs,by rw [zw ne]; exact e3,HasL.mono (zeM m) _ _ l⟩
theorem RepM.put{a:Addr}{D D':DD}{u:MO}(r:RepM h o H M)(m:(a,D)∈M)(q:∀ H',H' a=some u.ho->DAt (vx (h++ad M) o H) H' a D'):RepM h o (L2.upd H a u.ho) (zpE M a D'):=by
 have ma:a∈ad M:=List.mem_map.mpr ⟨_,m,rfl⟩;refine⟨by rw [zeL]; exact r.nd,by rw [zeL]; exact r.nh,fun b D2 mb=>?_⟩;rw [zeL];have sv:Same (vx (h++ad M) o H) (vx (h++ad M) o (L2.upd H a u.ho)):=zeM (List.mem_append_right _ ma);obtain⟨p,mp,ep⟩:=List.mem_map.mp mb;by_cases e:p.1=a
 ·rw [if_pos e] at ep;cases ep;exact(q _ zH).mono sv fun _ z=>z
 ·rw [if_neg e] at ep;subst ep;exact(r.ct _ _ mp).mono sv fun w z=>by rw [zw e]; exact z
theorem RepS.less{l:List Addr}(r:RepS (h++l) o H S):RepS h o H S where
 len:=r.len
 nd:=r.nd
 dis:=fun a ma z=>r.dis a ma (List.mem_append_left _ z)
 hal:=fun b mb=>r.hal b (List.mem_append_left _ mb)
 cont:=fun k b ds e1 e2=>by
  obtain⟨vs,e3,q⟩:=r.cont k b ds e1 e2;exact⟨vs,e3,HasL.mono (fun c u z=>let ⟨z1,z2,z3⟩:=zM.mp z; zM.mpr ⟨fun mm=>z1 (List.mem_append_left _ mm),z2,z3⟩) _ _ q⟩
theorem zeI{l:List Addr}:Same (vx (h++l) o H) (vx h o H):=fun c u z=>let ⟨z1,z2,z3⟩:=zM.mp z; zM.mpr ⟨fun mm=>z1 (List.mem_append_left _ mm),z2,z3⟩
theorem HasX.less{l:List Addr}:∀ {x:XV} {v:V},HasX (h++l) o H x v->HasX h o H x v
 | .d d,v,q=>Has.mono zeI d v q
 | .l k,v,q=>q
 | .o w,v,q=>q
 | .x C fs,v,q=>HasE.mono zeI q
end
end
section
structure DEndsM where
 nx:XE->Sto->DM->Prop
 rt:XV->Sto->DM->Prop
 bk:XE->Sto->DM->Prop:=fun _ _ _=>False
 ct:XE->Sto->DM->Prop:=fun _ _ _=>False
abbrev DSm:=DEndsM->XE->Sto->DM->Prop
def Fr(H:Hp)(M:DM):Prop:=∀ a∈ad M,H a=none
def NxM(h o:List Addr)(H:Hp)(A:List Addr)(N:XE->Sto->DM->Prop)(Y:St->Hp->Prop):Prop:=∀ o' H' δ' S' M' σ',Ex o H o' H'->ad M'=A->RepE (h++ad M') o' H' δ' σ'->RepS (h++ad M') o' H' S'->RepM h o' H' M'->N δ' S' M'->Y σ' H'
structure EOkM(h o:List Addr)(H:Hp)(A:List Addr)(E:DEndsM)(D:Ends):Prop where
 nx:NxM h o H A E.nx D.nx
 rt:∀ o' H' S' M' x v,Ex o H o' H'->ad M'=A->RepS (h++ad M') o' H' S'->RepM h o' H' M'->HasX (h++ad M') o' H' x v->E.rt x S' M'->D.rt v H'
 bk:NxM h o H A E.bk D.bk
 ct:NxM h o H A E.ct D.ct
def RSm(E:XK)(EX:EXD)(t:TS)(dt:DSm):Prop:=∀ (h o0:List Addr) (H0:Hp) (o:List Addr) (H:Hp) (δ:XE) (σ:St) (S:Sto) (M:DM) (En:DEndsM) (D:Ends),Ex o0 H0 o H->Fr H0 M->RepE (h++ad M) o H δ σ->RepS (h++ad M) o H S->RepM h o H M->dt En δ S M ->
 EOkM h o0 H0 (ad M) En D->CnX h o0 H0 EX E->t D σ H
theorem CnX.inn{E:XK}{EX:EXD}{h o0 o l:List Addr}{H0 H:Hp}(x:CnX h o0 H0 EX E)(e0:Ex o0 H0 o H):CnX (h++l) o H EX E:=fun o' H' S' C a fs e s' hE q=>x o' H' S' C a fs (e0.trans e) s'.less (HasE.mono zeI hE) q
def zgC(dt:DS):DSm:=fun En δ S M=>dt { nx:=fun δ' S'=>En.nx δ' S' M,rt:=fun x S'=>En.rt x S' M,bk:=fun δ' S'=>En.bk δ' S' M,ct:=fun δ' S'=>En.ct δ' S' M } δ S
def zrr(c:DM->DT)(t u:DSm):DSm:=fun En δ S M=>c M δ S fun b S1=>if b=true then t En δ S1 M else u En δ S1 M
def zem(g:DG)(b:DSm):List PyData->DSm
 | [],E,δ,S,M=>E.nx δ S M
 | d :: ds,E,δ,S,M=>g (.d d) δ S fun δ1 S1=>b { nx:=fun δ2 S2 M2=>zem g b ds E δ2 S2 M2,ct:=fun δ2 S2 M2=>zem g b ds E δ2 S2 M2,bk:=E.nx,rt:=E.rt } δ1 S1 M
def zmn(i:DM->DI)(g:DG)(b:DSm):DSm:=fun En δ S M=>i M δ S fun ds S1=>zem g b ds En δ S1 M
def PhM(M:DM):Phi:=fun h' o H=>∃ h,h'=h++ad M/\RepM h o H M
instance {M:DM}:Stb (PhM M):=⟨fun⟨h,e,r⟩ x=>⟨h,e,r.mono x⟩⟩
section
variable {E:XK} {EX:EXD} {t u:TS} {dt du:DSm}
theorem znC{ds:DS}(ht:RSx E EX t ds):RSm E EX t (zgC ds):=fun h o0 H0 o H δ σ S M En D e0 fr he hs rm q c x =>
 ht (h++ad M) o H δ σ S _ D he hs q ⟨fun o' H' δ' S' σ' e he' hs' n=>c.nx o' H' δ' S' M σ' (e0.trans e) rfl he' hs' (rm.mono e) n,fun o' H' S' y v e hs' hy n=>c.rt o' H' S' M y v (e0.trans e) rfl hs' (rm.mono e) hy n,
  fun o' H' δ' S' σ' e he' hs' n=>c.bk o' H' δ' S' M σ' (e0.trans e) rfl he' hs' (rm.mono e) n,fun o' H' δ' S' σ' e he' hs' n=>c.ct o' H' δ' S' M σ' (e0.trans e) rfl he' hs' (rm.mono e) n⟩ (x.inn e0)
theorem zoW{ds:DS}(ht:RS t ds):RSm E EX t (zgC ds):=znC (zcK ht)
theorem zrN{tc:TT}{dc:DM->DT}(hc:∀ M,RTp (PhM M) tc (dc M))(ht:RSm E EX t dt)(hu:RSm E EX u du):RSm E EX (znZ tc t u) (zrr dc dt du):=fun h o0 H0 o H δ σ S M En D e0 fr he hs rm q c x =>
 hc M (h++ad M) o H δ σ S _ _ he hs q (fun o1 H1 S1 b e1 s1 d1=>by
  cases b with
  | true=>exact zlu (ht h o0 H0 o1 H1 δ σ S1 M En D (e0.trans e1) fr (he.mono e1) s1 (rm.mono e1) (by simpa using d1) c x)
  | false=>exact zkU (hu h o0 H0 o1 H1 δ σ S1 M En D (e0.trans e1) fr (he.mono e1) s1 (rm.mono e1) (by simpa using d1) c x)) ⟨h,rfl,rm⟩
theorem zop{wi:TI}{g:TG}{tb:TS}{di:DM->DI}{dg:DG}{db:DSm}(hi:∀ M,RIp (PhM M) wi (di M))(hg:RG g dg)(hb:RSm E EX tb db):RSm E EX (zqw wi g tb) (zmn di dg db):=fun h o0 H0 o H δ σ S M En D e0 fr he hs rm q c x =>
 hi M (h++ad M) o H δ σ S _ _ he hs q (fun o1 H1 S1 ds J e1 s1 wk d1=>by
  refine⟨fun i m σ2 H2=>m=ds.length - i/\i<=ds.length/\∃ o2 δ2 S2 M2,Ex o0 H0 o2 H2/\ExH (h++ad M) o1 H1 o2 H2/\ad M2=ad M/\RepE (h++ad M) o2 H2 δ2 σ2/\RepS (h++ad M) o2 H2 S2/\RepM h o2 H2 M2/\zem dg db (ds.drop i) En δ2 S2 M2,
   ⟨ds.length,by simp,Nat.zero_le _,o1,δ,S1,M,e0.trans e1,ExH.refl,rfl,he.mono e1,s1,rm.mono e1,d1⟩,?_⟩
  rintro i m σ2 H2 ⟨rfl,hi,o2,δ2,S2,M2,e2,x2,ea,he2,hs2,rm2,d2⟩;by_cases hlt:i<ds.length
  ·have ed:ds[i]? = some ds[i]:=List.getElem?_eq_getElem hlt;rw [List.drop_eq_getElem_cons hlt] at d2;refine .inr ⟨wk.go i _ o2 H2 x2 ed,fun σ3 H3=>∃ o3 δ3 S3 M3,Ex o0 H0 o3 H3/\ExH (h++ad M) o1 H1 o3 H3/\ad M3=ad M/\RepE (h++ad M) o3 H3 δ3 σ3/\RepS (h++ad M) o3 H3 S3/\RepM h o3 H3 M3/\zem dg db (ds.drop (i+1)) En δ3 S3 M3,fun σ3 H3 n=>⟨ds.length - (i+1),by omega,rfl,hlt,n⟩,fun y H3 yy=>?_⟩;obtain⟨s3,hx⟩:=wk.yld i _ o2 H2 y H3 S2 x2 hs2 ed yy;have e23:Ex o2 H2 o2 H3:=Ex.of_same s3;refine hg (h++ad M) o2 H3 δ2 σ2 S2 (.d ds[i]) y _ _ (he2.mono e23) (hs2.same s3) hx d2 fun o4 H4 δ4 S4 σ4 e4 he4 hs4 d4=>?_;have e24:Ex o2 H2 o4 H4:=e23.trans e4;have nM:∀ b u,H0 b=some u->b∉ad M:=fun b u z mb=>by
    rw [fr b mb] at z;cases z
   have e04:Ex o0 H0 o4 (fun b=>if b∈ad M then none else H4 b):=⟨(e2.trans e24).pre,fun b u nb z=>by
    obtain⟨z1,z2⟩:=(e2.trans e24).kp b u nb z;exact⟨z1,by show (if b∈ad M then none else H4 b)=some u; rw [if_neg (nM b u z)]; exact z2⟩⟩
   have exh:∀ {o5 H5},Ex o4 (fun b=>if b∈ad M then none else H4 b) o5 H5->ExH (h++ad M) o4 H4 o5 H5:=fun e5=>⟨e5.pre,fun b u n1 n2 z=>e5.kp b u n2 (by show (if b∈ad M then none else H4 b)=some u; rw [if_neg (fun mb=>n1 (List.mem_append_right _ mb))]; exact z)⟩;have again:∀ o5 H5 δ5 S5 M5 σ5,Ex o4 (fun b=>if b∈ad M then none else H4 b) o5 H5->ad M5=ad M2->RepE (h++ad M5) o5 H5 δ5 σ5->RepS (h++ad M5) o5 H5 S5->RepM h o5 H5 M5->zem dg db (ds.drop (i+1)) En δ5 S5 M5 ->
     ∃ o3 δ3 S3 M3,Ex o0 H0 o3 H5/\ExH (h++ad M) o1 H1 o3 H5/\ad M3=ad M/\RepE (h++ad M) o3 H5 δ3 σ5/\RepS (h++ad M) o3 H5 S3/\RepM h o3 H5 M3/\zem dg db (ds.drop (i+1)) En δ3 S3 M3:=fun o5 H5 δ5 S5 M5 σ5 e5 a5 he5 hs5 rm5 d5 =>
    ⟨o5,δ5,S5,M5,e04.trans e5,(x2.trans e24.hid).trans (exh e5),a5.trans ea,by rw [<- ea,<- a5]; exact he5,by rw [<- ea,<- a5]; exact hs5,rm5,d5⟩
   refine hb h o4 (fun b=>if b∈ad M then none else H4 b) o4 H4 δ4 σ4 S4 M2 _ _ ⟨⟨[],by simp⟩,fun b u nb eb=>?_⟩ (fun a ma=>by show (if a∈ad M then none else H4 a)=none; rw [if_pos (by rw [<- ea]; exact ma)]) (by rw [ea]; exact he4) (by rw [ea]; exact hs4) (rm2.mono e24) d4
    ⟨again,fun o5 H5 S5 M5 y5 v5 e5 a5 hs5 rm5 hx5 q5=>c.rt o5 H5 S5 M5 y5 v5 (e04.trans e5) (a5.trans ea) hs5 rm5 hx5 q5,fun o5 H5 δ5 S5 M5 σ5 e5 a5 he5 hs5 rm5 q5=>c.nx o5 H5 δ5 S5 M5 σ5 (e04.trans e5) (a5.trans ea) he5 hs5 rm5 q5,again⟩ (x.pre e04)
   refine⟨nb,?_⟩;by_cases mb:b∈ad M
   ·simp [mb] at eb
   ·simpa [mb] using eb
  ·have ei:i=ds.length:=by omega
   subst ei;rw [List.drop_length] at d2;exact .inl ⟨wk.stop _ o2 H2 x2 (Nat.le_refl _),c.nx o2 H2 δ2 S2 M2 σ2 e2 ea (by rw [ea]; exact he2) (by rw [ea]; exact hs2) rm2 d2⟩) ⟨h,rfl,rm⟩
end
end
section
section
variable {h h' o:List Addr} {H H':Hp}
theorem HasX.to(s:Same (vx h o H) (vx h' o H')):∀ {x:XV} {v:V},HasX h o H x v->HasX h' o H' x v
 | .d d,v,q=>Has.mono s d v q
 | .l k,v,q=>q
 | .o w,v,q=>q
 | .x C fs,v,q=>HasE.mono s q
theorem RepE.to{δ:XE}{σ:St}(s:Same (vx h o H) (vx h' o H'))(r:RepE h o H δ σ):RepE h' o H' δ σ:=⟨r.len,fun i x e=>let ⟨v,e1,e2⟩:=r.get i x e; ⟨v,e1,e2.to s⟩⟩
end
def zpI(a:Addr)(m:List (Key×PyData)):XV->XV
 | .o (.ref b)=>if b=a then .d (.dict (DD.pairs (.k m))) else .o (.ref b)
 | x=>x
theorem zqN{h h' o:List Addr}{H H':Hp}{a:Addr}{m:List (Key×PyData)}{m':List (Key×V)}{ob:Obj}(s:Same (vx h o H) (vx h' o H'))(e:vx h' o H' a=some (.frz ob (.dK m')))(l:HasM (vx h o H) m m'):∀ {x:XV} {v:V},HasX h o H x v->HasX h' o H' (zpI a m x) v
 | .d d,v,z=>Has.mono s d v z
 | .l k,v,z=>z
 | .x C fs,v,z=>HasE.mono s z
 | .o w,v,z=>by
  cases w with
  | ref b =>
   unfold zpI;dsimp only;split
   ·rename_i eb;subst eb;rw [show v=.ref b from z];exact zgY.mpr ⟨b,ob,m',rfl,e,l.mono s⟩
   ·exact z
  | _=>exact z
theorem zmK{h h' o:List Addr}{H H':Hp}{a:Addr}{m:List (Key×PyData)}{m':List (Key×V)}{ob:Obj}{δ:XE}{σ:St}(s:Same (vx h o H) (vx h' o H'))(e:vx h' o H' a=some (.frz ob (.dK m')))(l:HasM (vx h o H) m m')(r:RepE h o H δ σ):RepE h' o H' (δ.map (Option.map (zpI a m))) σ:=by
 refine⟨by rw [List.length_map]; exact r.len,fun i x ex=>?_⟩;rw [List.getElem?_map] at ex;cases hd:δ[i]? with
 | none=>rw [hd] at ex; cases ex
 | some y =>
  rw [hd] at ex;cases y with
  | none=>cases ex
  | some y =>
   cases ex;obtain⟨v,e1,e2⟩:=r.get i y hd;exact⟨v,e1,zqN s e l e2⟩
theorem zan{M:DM}{a:Addr}{D:DD}:ad (M++[(a,D)])=ad M++[a]:=by simp [ad]
theorem RepM.init{h o:List Addr}{H:Hp}{M:DM}{a:Addr}{D:DD}(r:RepM h o H (M++[(a,D)])):RepM h o H M:=by
 have nd:=r.nd;rw [zan] at nd;refine⟨(List.nodup_append.mp nd).1,fun b m=>r.nh b (by rw [zan]; exact List.mem_append_left _ m),fun b D2 m=>?_⟩;have z:=r.ct b D2 (List.mem_append_left _ m);rw [zan,<- List.append_assoc] at z;exact z.mono zeI fun _ z=>z
def zl1(f:Bool)(i:Nat)(D0:DD)(b:DSm):DSm:=fun En δ S M=>∀ a,a∉ad M->b { nx:=(fun δ' S' M'=>if f=true then (∃ M1 m,M'=M1++[(a,.k m)]/\δ'[i]? = some (some (.o (.ref a)))/\En.nx (δ'.map (Option.map (zpI a m))) S' M1) else (∃ M1 D,M'=M1++[(a,D)]/\En.nx δ' S' M1)),rt:=(fun x S' M'=>∃ M1 D,M'=M1++[(a,D)]/\En.rt x S' M1),bk:=(fun δ' S' M'=>∃ M1 D,M'=M1++[(a,D)]/\En.bk δ' S' M1),ct:=(fun δ' S' M'=>∃ M1 D,M'=M1++[(a,D)]/\En.ct δ' S' M1) } (δ.set i (some (.o (.ref a)))) S (M++[(a,D0)])
section
variable {E:XK} {EX:EXD} {tb:TS} {db:DSm} {i:Nat}
theorem zmZ{f:Bool}{u:MO}{D0:DD}(hD:∀ (G H:Hp) a,H a=some u.ho->DAt G H a D0)(hb:RSm E EX tb db){h o0:List Addr}{H0:Hp}{o:List Addr}{H:Hp}{δ:XE}{σ:St}{S:Sto}{M:DM}{En:DEndsM}{D:Ends}(e0:Ex o0 H0 o H)(fr:Fr H0 M)(he:RepE (h++ad M) o H δ σ)(hs:RepS (h++ad M) o H S)(rm:RepM h o H M)
  (q:zl1 f i D0 db En δ S M) (c:EOkM h o0 H0 (ad M) En D) (x:CnX h o0 H0 EX E) (p:Addr) (hp:H p=none):(if f=true then zrA i tb else tb) D (σ.set i (some (.ref p))) (upd H p u.ho):=by
 have nM:p∉ad M:=fun m=>by
  obtain⟨D2,_,z⟩:=rm.at m;obtain⟨w,ew⟩:=z.mo;rw [hp] at ew;cases ew
 have f1:=hs.fresh hp;have nh:p∉h:=fun m=>f1.1 (List.mem_append_left _ m);have sH:Same H (upd H p u.ho):=Same.laid hp;have e1:Ex o0 H0 o (upd H p u.ho):=e0.trans (Ex.of_same sH);have H0p:H0 p=none:=by
  cases z:H0 p with
  | none=>rfl
  | some w =>
   by_cases m:p∈o0
   ·obtain⟨r,er⟩:=e0.pre;exact absurd (show p∈o by rw [er]; exact List.mem_append_left _ m) f1.2
   ·have:=(e0.kp p w m z).2;rw [hp] at this;cases this
 have sv:Same (vx (h++ad M) o H) (vx (h++(ad M++[p])) o (upd H p u.ho)):=fun b w z=>by
  obtain⟨z1,z2,z3⟩:=zM.mp z;have ne:b≠p:=zG z3 hp;refine zM.mpr ⟨fun m=>?_,z2,by rw [zw ne]; exact z3⟩;rw [<- List.append_assoc] at m;rcases List.mem_append.mp m with m | m
  ·exact z1 m
  ·exact ne (List.mem_singleton.mp m)
 have sM:RepS (h++ad (M++[(p,D0)])) o (upd H p u.ho) S:=by
  rw [zan];refine⟨hs.len,hs.nd,fun a ma z=>?_,fun b mb=>?_,fun k b ds e1 e2=>?_⟩
  ·rw [<- List.append_assoc] at z;rcases List.mem_append.mp z with z | z
   ·exact hs.dis a ma z
   ·rw [List.mem_singleton.mp z] at ma;exact f1.2 ma
  ·rw [<- List.append_assoc] at mb;rcases List.mem_append.mp mb with m | m
   ·obtain⟨w,ew⟩:=hs.hal b m;exact⟨w,sH _ _ ew⟩
   ·rw [List.mem_singleton.mp m];exact⟨u,zH⟩
  ·obtain⟨vs,e3,l⟩:=hs.cont k b ds e1 e2;exact⟨vs,sH _ _ e3,HasL.mono sv _ _ l⟩
 have mM:RepM h o (upd H p u.ho) (M++[(p,D0)]):=by
  refine⟨by rw [zan]; exact zbD rm.nd nM,fun a ma=>?_,fun a D2 m=>?_⟩
  ·rw [zan] at ma;rcases List.mem_append.mp ma with m | m
   ·exact rm.nh a m
   ·rw [List.mem_singleton.mp m];exact⟨nh,f1.2⟩
  ·rw [zan];rcases List.mem_append.mp m with m | m
   ·exact(rm.ct a D2 m).mono sv fun w z=>sH _ _ z
   ·have:=List.mem_singleton.mp m;cases this;exact hD _ _ _ zH
 have hE:RepE (h++ad (M++[(p,D0)])) o (upd H p u.ho) (δ.set i (some (.o (.ref p)))) (σ.set i (some (.ref p))):=by
  rw [zan];exact(he.to sv).set (show HasX _ _ _ (.o (.ref p)) (.ref p) from rfl)
 have fr1:Fr H0 (M++[(p,D0)]):=fun a ma=>by
  rw [zan] at ma;rcases List.mem_append.mp ma with m | m
  ·exact fr a m
  ·rw [List.mem_singleton.mp m]; exact H0p
 have back:∀ {N:XE->Sto->DM->Prop} {Y:St->Hp->Prop},NxM h o0 H0 (ad M) N Y->NxM h o0 H0 (ad (M++[(p,D0)])) (fun δ' S' M'=>∃ M1 D,M'=M1++[(p,D)]/\N δ' S' M1) Y:=fun {N Y} nx o' H' δ' S' M' σ' ex ea hE' hS' hM' ⟨M1,D2,eM,n⟩=>by
  subst eM;rw [zan,zan] at ea;rw [zan,<- List.append_assoc] at hE' hS';exact nx o' H' _ S' M1 σ' ex (List.append_inj_left' ea rfl) (hE'.to zeI) hS'.less hM'.init n
 have ret:∀ o' H' S' M' y v,Ex o0 H0 o' H'->ad M'=ad (M++[(p,D0)])->RepS (h++ad M') o' H' S'->RepM h o' H' M'->HasX (h++ad M') o' H' y v->(∃ M1 D,M'=M1++[(p,D)]/\En.rt y S' M1)->D.rt v H':=by
  rintro o' H' S' M' y v ex ea hS' hM' hx' ⟨M1,D2,eM,n⟩;subst eM;rw [zan,zan] at ea;rw [zan,<- List.append_assoc] at hx' hS';exact c.rt o' H' S' M1 _ v ex (List.append_inj_left' ea rfl) hS'.less hM'.init hx'.less n
 have qq:=q p nM;cases f with
 | false =>
  refine hb h o0 H0 o _ _ _ S (M++[(p,D0)]) _ D e1 fr1 hE sM mM qq ⟨?_,ret,back c.bk,back c.ct⟩ x;exact fun o' H' δ' S' M' σ' ex ea hE' hS' hM' n=>back c.nx o' H' δ' S' M' σ' ex ea hE' hS' hM' (by simpa using n)
 | true =>
  refine hb h o0 H0 o _ _ _ S (M++[(p,D0)]) _ { D with nx:=fun σ' H'=>∃ a m,σ'[i]? = some (some (.ref a))/\H' a=some (.dK m)/\∀ ob,D.nx σ' (upd H' a (.frz ob (.dK m))) } e1 fr1 hE sM mM qq ⟨?_,ret,back c.bk,back c.ct⟩ x;intro o' H' δ' S' M' σ' ex ea hE' hS' hM' n;obtain⟨M1,m,eM,ei,n2⟩:∃ M1 m,M'=M1++[(p,DD.k m)]/\δ'[i]? = some (some (.o (.ref p)))/\En.nx (δ'.map (Option.map (zpI p m))) S' M1:=by simpa using n
  subst eM;obtain⟨v,ev,hv⟩:=hE'.get i _ ei;have evp:v=.ref p:=hv;subst evp;have nn:=hM'.nh p (by rw [zan]; simp);have nd:=hM'.nd;rw [zan,zan] at ea;rw [zan] at nd;have pn:p∉ad M1:=fun m=>(List.nodup_append.mp nd).2.2 p m p (by simp) rfl;obtain⟨m',em,l⟩:=hM'.ct p (.k m) (by simp);refine⟨p,m',ev,em,fun ob=>?_⟩;have np:p∉h++ad M1:=fun z=>(List.mem_append.mp z).elim nn.1 pn;have s2:Same (vx (h++ad (M1++[(p,DD.k m)])) o' H') (vx (h++ad M1) o' (upd H' p (.frz ob (.dK m')))):=fun b w z=>by
   obtain⟨z1,z2,z3⟩:=zM.mp z;rw [zan,<- List.append_assoc] at z1;have ne:b≠p:=fun z=>z1 (by rw [z]; simp);exact zM.mpr ⟨fun mm=>z1 (List.mem_append_left _ mm),z2,by rw [zw ne]; exact z3⟩
  refine c.nx o' _ _ S' M1 σ' ⟨ex.pre,fun b w nb zb=>?_⟩ (List.append_inj_left' ea rfl) (zmK s2 (zM.mpr ⟨np,nn.2,zH⟩) l hE') ?_ ?_ n2
  ·obtain⟨z1,z3⟩:=ex.kp b w nb zb;exact⟨z1,by rw [zw (fun z=>by rw [z,H0p] at zb; cases zb)]; exact z3⟩
  ·refine⟨hS'.len,hS'.nd,fun a ma z=>hS'.dis a ma (by rw [zan,<- List.append_assoc]; exact List.mem_append_left _ z),fun b mb=>?_,fun k b ds q1 q2=>?_⟩
   ·obtain⟨w,ew⟩:=hS'.hal b (by rw [zan,<- List.append_assoc]; exact List.mem_append_left _ mb);exact⟨w,by rw [zw (fun z=>np (by rw [<- z]; exact mb))]; exact ew⟩
   ·obtain⟨vs,q3,l3⟩:=hS'.cont k b ds q1 q2;exact⟨vs,by rw [zw (fun z=>nn.2 (by rw [<- z]; exact List.mem_of_getElem? q1))]; exact q3,HasL.mono s2 _ _ l3⟩
  ·have r1:=hM'.init;refine⟨r1.nd,r1.nh,fun b D3 mb=>?_⟩;have nb:b≠p:=fun z=>pn (by rw [<- z]; exact List.mem_map.mpr ⟨_,mb,rfl⟩);exact(hM'.ct b D3 (List.mem_append_left _ mb)).mono s2 fun w z=>by rw [zw nb]; exact z
theorem zpb(hb:RSm E EX tb db):RSm E EX (ziz (zp5 zkv (zjZ i)) (zrA i tb)) (zl1 true i (.k []) db):=fun h o0 H0 o H δ σ S M En D e0 fr he hs rm q c x p hp =>
 zmZ (f:=true) (D0:=.k []) (u:=.k []) (fun G H a z=>⟨[],z,rfl⟩) hb e0 fr he hs rm q c x p hp
def zpR(dt:DSm):DS:=fun En δ S=>dt { nx:=fun δ' S' _=>En.nx δ' S',rt:=fun x S' _=>En.rt x S',bk:=fun δ' S' _=>En.bk δ' S',ct:=fun δ' S' _=>En.ct δ' S' } δ S []
theorem zoG{t:TS}{dt:DSm}(ht:RSm E EX t dt):RSx E EX t (zpR dt):=fun h o H δ σ S En D he hs q c x=>by
 have z:h++ad []=h:=List.append_nil _;have nx:∀ {N:XE->Sto->Prop} {Y:St->Hp->Prop},Nx h o H N Y->NxM h o H (ad []) (fun δ' S' _=>N δ' S') Y:=fun {N Y} n o' H' δ' S' M' σ' ex ea he' hs' _ q'=>by
  rw [ea,z] at he' hs';exact n o' H' δ' S' σ' ex he' hs' q'
 refine ht h o H o H δ σ S [] _ D Ex.refl (fun a m=>by cases m) (by rw [z]; exact he) (by rw [z]; exact hs) RepM.nil q ⟨nx c.nx,?_,nx c.bk,nx c.ct⟩ x;rintro o' H' S' M' y v ex ea hs' _ hx' q';rw [ea,z] at hs' hx';exact c.rt o' H' S' y v ex hs' hx' q'
theorem zoI{t:TS}{dt:DSm}(ht:RSm E0 (fun _ _=>False) t dt):RS t (zpR dt):=fun h o H δ σ S En D he hs q c=>zoG ht h o H δ σ S En D he hs q c fun _ _ _ _ _ _ _ _ _ z=>z.elim
end
end
section
theorem zpA{t t':TS}{d:DS}(h:RS t d)(e:t'=t:=by rfl):RS t' d:=e▸h
end
end L2
namespace L2
open PySem PySem.Spec PySem.Calls PyProof.Rows
theorem zpK{P:Program}{w:World}{k:Key}{u:Value}(h:(zaj P w).is k u=true):RelV (kV k) u:=by
 have h':zhO k u=true:=h;cases k with
 | inl i =>
  have q:Value.isInt i u=true:=h';cases u <;> simp [Value.isInt] at q;rename_i j t;subst q;exact⟨t,rfl⟩
 | inr x =>
  have q:Value.isStrOf x u=true:=h';cases u <;> simp [Value.isStrOf] at q;rename_i j t;subst q;exact⟨t,rfl⟩
theorem zgN{P:Program}{w:World}{H:Hp}{h:Heap}{a:Addr}{ob:Obj}{m:List (Key×V)}(ok:HOk P w H h)(e:H a=some (.frz ob (.dK m))):(a == sysModules)=false/\m.length<=sizeLine/\∃ es ep vs,ob.data=.dict es ep/\KV m vs/\h.DictAt (zaj P w) a vs ep:=by
 obtain⟨e1,hz,hne,vs,kv,o,es,ep,ho,r1,r2,r3⟩:=(show ObjOk P w H h a (.frz ob (.dK m)) from ok a _ e);rw [e1] at ho;cases ho;exact⟨hne,hz,es,ep,vs,r2,kv,_,es,e1,r1,r2,r3⟩
theorem KV.get{kvs:List (Key×V)}{vs:List (Key×Value)}(r:KV kvs vs):∀ {i:Nat} {p:Key×V},kvs[i]? = some p->∃ u,vs[i]? = some (p.1,u)/\RelV p.2 u:=by
 unfold KV at r;induction r with
 | nil=>intro i p e; simp at e
 | @cons p q ps qs h t ih =>
  intro i x e;cases i with
  | zero =>
   simp at e;subst e;exact⟨q.2,by simp [h.1],h.2⟩
  | succ i =>
   obtain⟨u,e1,e2⟩:=ih (i:=i) (p:=x) (by simpa using e);exact⟨u,by simpa using e1,e2⟩
def Iti(a:Addr)(ob:Obj)(m:List (Key×V)):It:=⟨fun i H=>i<m.length/\H a=some (.frz ob (.dK m)),fun i H x H'=>∃ p b,m[i]? = some p/\H b=none/\x=.ref b/\H'=upd H b (.tup [kV p.1,p.2]),fun i H=>m.length<=i/\H a=some (.frz ob (.dK m))⟩
def tnI(it a:Addr)(ob:Obj)(n:Nat)(i:Nat)(h:Heap):Prop:=∃ es ep ok ov,ob.data=.dict es ep/\IsItemIter h it a i n ep ok ov
theorem zfi:entryFor table "dict_itemiterator.__iter__" = some Builtin.«dict_keyiterator.__iter__» :=
 entryFor_alias (id':="dict_keyiterator.__iter__") (by kernel_rfl) rfl (by decide +kernel) (by kernel_rfl)
theorem zeV{prog:Program}{w:World}{A:Around}{E:Value->Shared->Prop}{s:Shared}{it d:Addr}{i n ep:Nat}{ok ov:Value}{Q:Value->Shared->Prop}(hit:IsItemIter s.heap it d i n ep ok ov)(h:Q (.ref it) s):wpAny (model prog w) A (pyIter (.ref it)) Q E s:=by
 have hT:s.TypeIs (.ref it) "dict_itemiterator":=⟨_,hit,rfl⟩;refine wpAny_pyIter_slot hT F.slot_dict_itemiterator_iter (wpAny_call_entry F.slot_dict_itemiterator_iter hT zfi ?_ (F.args_dict_itemiterator_iter_1 _));show wpAny _ _ (ret (.ref it)) _ _ s;exact wpAny_pure ⟨_,rfl,"dict_itemiterator",_,hT,F.slot_dict_itemiterator_next.lookup,h⟩
theorem zjK{P:Program}{w:World}{K:W.Frag}{elts:List Expr}{n:Nat}{tpos:Pos}(a it:Addr)(ob:Obj)(m:List (Key×V)):Turn P w K (.Tuple elts n tpos) (Iti a ob m) [it] it (tnI it a ob m.length) where
 mem:=by simp
 obj:=fun i h ⟨_,_,_,_,_,st⟩ b hb=>by
  have e:b=it:=by simpa using hb
  subst e;exact⟨_,st,fun v z=>by cases z⟩
 keep:=fun i h h' ⟨es,ep,ok,ov,eo,st⟩ k=>⟨es,ep,ok,ov,eo,k it (by simp) _ st⟩
 item:=by
  intro X hP hw hK hc i zf s σ H E I hf st hg;subst hP hw hK;obtain⟨es,ep,ok,ov,eo,st⟩:=st;obtain⟨hi,ea⟩:=hg;obtain⟨hne,hz,es',ep',vs,eo',kv,da⟩:=zgN I.hok ea;rw [eo] at eo';cases eo';obtain⟨u,eu,ru⟩:=kv.get (List.getElem?_eq_getElem hi);have hl:vs.length=m.length:=kv.length.symm;refine wpAny_pyNext_items_item (knd:=zaj X.prog X.w) (kvs:=vs) (by rw [hl]; exact st) da eu fun key h' hk st' t1 sz kp=>?_;refine⟨_,rfl,wpAny_letOwnedTupleGo_items (s:={ s with heap:=h' }) st' fun g' e2 b2=>?_⟩;have lt:it<s.heap.objs.size:=Heap.lt_size st;have t2:g'.get? s.heap.objs.size=some { cls:=.type "tuple",data:=.seq #[key,u] }:=(b2.2 _ (Nat.ne_of_gt lt)).trans t1;have neT:H s.heap.objs.size=none:=I.hok.fresh (Nat.le_refl _);rw [hl] at e2;refine⟨.ref s.heap.objs.size,upd H s.heap.objs.size (.tup [kV m[i].1,m[i].2]),I.turnLaid (ch:=[it]) (t':=s.toks) (fun b o nb q=>(b2.2 b fun z=>nb (by simp [z])).trans (kp b o (fun z=>nb (by simp [z])) q)) hf (Nat.le_refl _) ?_,rfl,
   ⟨m[i],_,List.getElem?_eq_getElem hi,neT,rfl,rfl⟩,⟨es,ep,_,_,eo,e2⟩,fun b hb=>?_⟩
  ·refine⟨⟨by show 2<=sizeLine; decide,_,t2,rfl⟩,[key,u],.cons (zpK hk) (.cons ru .nil),⟨_,t2,rfl,_,rfl⟩⟩
  ·rw [List.mem_singleton.mp hb,zw (Nat.ne_of_lt lt)];exact(hf _ (by simp)).1
 done:=by
  intro X hP hw hK hc i zf s σ H E I hf st hg;subst hP hw hK;obtain⟨es,ep,ok,ov,eo,st⟩:=st;obtain⟨hi,ea⟩:=hg;obtain⟨hne,hz,es',ep',vs,eo',kv,da⟩:=zgN I.hok ea;rw [eo] at eo';cases eo';have hl:vs.length=m.length:=kv.length.symm;obtain⟨f0,f1,f2,f3,f4,f5⟩:=hf it (by simp);exact wpAny_pyNext_items_end (knd:=zaj X.prog X.w) (kvs:=vs) (I.ok.hd hc) (by rw [hl]; exact st) da (List.getElem?_eq_none (by omega)) fun h' eb=>⟨rfl,I.turned (t':=s.toks) (fun b o hb e=>eb b o hb e) f0 f1 f3 f4 f5⟩
 self:=fun _ _ _ _ _ ⟨_,_,_,_,_,st⟩ h=>zeV st h
section
variable {X:Cx} {elts:List Expr} {n:Nat} {tpos apos cpos:Pos}
def zow(te:TE):TI:=fun σ H R=>te σ H fun x H1=>∃ a ob m,x=.ref a/\H1 a=some (.frz ob (.dK m))/\R (Iti a ob m) H1
theorem ziS{l:Expr}{te:TE}(hl:PE X l te)(hbase:attributeBase l "items" X.env (eval l X.env)=eval l X.env)(hline:(apos.endLine == cpos.line)=true):PI X (.Tuple elts n tpos) (.Call (.Attribute l "items" apos) [] [] cpos) (zow te):=by
 intro zf s σ H R I h;refine wpAny_Call_method (T:="dict") (id:="dict.items") hbase rfl hline F.plainAttrs_dict F.slot_dict_items F.type_dict_items (thn (hl zf s σ H _ I h) fun v s1 ⟨x,H1,I1,r1,q1⟩=>?_);obtain⟨a,ob,m,e,ea,q⟩:=q1;subst e;cases r1;obtain⟨hne,hz,es,ep,vs,eo,kv,da⟩:=zgN I1.hok ea;have hl':vs.length=m.length:=kv.length.symm;have hm:=da.dictOf;refine⟨hm.typeIs,hm.mapOf.noDict,?_⟩;show wpAny _ _ (callWith cpos (.builtin "dict.items") [.ref a] [] []) _ _ s1;refine method_meetsIn F.slot_dict_items F.entry_dict_items rfl (PyProof.Rows.evalArgs_none ⟨rfl,hm.typeIs,F.args_dict_items_1 _,_,meets_dict_items (zaj X.prog X.w) a hne,⟨vs,hm⟩,?_⟩);have da1:=da.push { cls:=.type "dict_items",data:=.fields #[.ref a] };refine wpAny_pyIter_items (s:={ s1 with heap:=s1.heap.push { cls:=.type "dict_items",data:=.fields #[.ref a] } }) (knd:=zaj X.prog X.w) ⟨_,Heap.get?_push_size _ rfl,rfl,rfl⟩ da1 ?_;have I2:Inv X zf σ H1 { s1 with heap:=s1.heap.push { cls:=.type "dict_items",data:=.fields #[.ref a] } }:=I1.kept (t':=s1.toks) fun b o e=>Heap.get?_push_of_some _ e;refine⟨_,[_],_,_,H1,rfl,I2.kept (t':=s1.toks) fun b o e=>Heap.get?_push_of_some _ e,zjK a _ ob m,⟨es,ep,_,_,eo,by rw [<- hl']; exact Heap.get?_push_size _ rfl⟩,fun b hb=>?_,q⟩;rw [List.mem_singleton.mp hb];exact I2.fpOk (Nat.le_refl _) (I2.hok.fresh (Nat.le_refl _))
end
def DD.itemsD(m:List (Key×PyData)):List PyData:=m.map fun p=>.tuple [kD p.1,p.2]
def zeZ(e:DE):DI:=fun δ S R=>e δ S fun x S1=>∃ m,x=.d (.dict (DD.pairs (.k m)))/\R (DD.itemsD m) S1
theorem zqo{H:Hp}{k:Key}:Has H (kD k) (kV k):=by
 cases k with
 | inl i=>exact zbR.mpr rfl
 | inr x=>exact zdq.mpr rfl
theorem HasM.get{H:Hp}:∀ {m:List (Key×PyData)} {m':List (Key×V)} {i:Nat} {p:Key×PyData},HasM H m m'->m[i]? = some p->∃ v,m'[i]? = some (p.1,v)/\Has H p.2 v
 | [],_,_,_,_,e=>by simp at e
 | q :: r,_,0,p,⟨v,t,e1,hv,l⟩,e=>by
  simp at e;subst e e1;exact⟨v,rfl,hv⟩
 | q :: r,_,i+1,p,⟨v,t,e1,hv,l⟩,e=>by
  subst e1;obtain⟨u,z1,z2⟩:=HasM.get (i:=i) l (by simpa using e);exact⟨u,by simpa using z1,z2⟩
theorem zjv{te:TE}{de:DE}(he':RE te de):RI (zow te) (zeZ de):=fun h o H δ σ S R Q he hs q c =>
 he' h o H δ σ S _ _ he hs q fun o1 H1 S1 x v e1 s1 x1 ⟨m,ex,d1⟩=>by
  subst ex;obtain⟨a,ob,m',rfl,ea,l⟩:=zgY.mp (show Has _ _ v from x1);have hl:=l.length;refine⟨a,ob,m',rfl,zR _ _ ea,c o1 H1 S1 _ _ e1 s1 ⟨fun i o2 H2 e2 hi=>⟨by simp [DD.itemsD] at hi; omega,zR _ _ (e2.vx _ _ ea)⟩,fun i d o2 H2 e2 hi=>?_,fun i d o2 H2 y H3 S2 e2 s2 hi yy=>?_⟩ d1⟩
  ·have:=(List.getElem?_eq_some_iff.mp hi).1;simp [DD.itemsD] at this;exact⟨by omega,zR _ _ (e2.vx _ _ ea)⟩
  ·obtain⟨p,b,ep,nb,ey,e3⟩:=yy;subst e3 ey;unfold DD.itemsD at hi;rw [List.getElem?_map] at hi;obtain⟨p2,e4,e5⟩:=Option.map_eq_some_iff.mp hi;obtain⟨u,z1,z2⟩:=l.get e4;rw [ep] at z1;cases z1;have sm:Same H2 (upd H2 b (.tup [kV p2.1,u])):=Same.laid nb;have fb:=s2.fresh nb;refine⟨sm,?_⟩;rw [<- e5];refine zas.mpr ⟨b,_,rfl,zM.mpr ⟨fb.1,fb.2,zH⟩,zK.mpr ⟨_,_,rfl,zqo,zK.mpr ⟨_,_,rfl,?_,zal.mpr rfl⟩⟩⟩;exact Has.mono (zd3 sm) _ _ (Has.mono e2.vx _ _ z2)
end L2
namespace L2
open PySem PySem.Spec PyProof.Rows
section
section
variable {X:Cx} {zf:List (Addr×Obj)} {σ:St} {H:Hp} {s:Shared} {a:Addr}
theorem Inv.goneAt{h':Heap}{n:Str}{i:Nat}{m:Str->Option Value}{v:Option Value}{t':Nat}(I:Inv X zf σ H s)(hN:X.N.Nodup)(hi:X.N[i]? = some n)(hl:X.env.kindOf n=some .local)(hm:s.heap.Ns X.env.locals m)
  (hv:∀ (i:Nat) (x:Str) (v:V),X.N[i]? = some x->σ[i]? = some (some v)->Vis X.env.scope x->∃ u,RelV v u/\Look X.env s.heap m x u) (hn:h'.Ns X.env.locals (fun x=>if x=n then v else m x)) (sb:Heap.SameBut X.env.locals s.heap h'):Inv X zf (σ.set i none) H { s with heap:=h',toks:=t' }:=by
 have ne:∀ b o,X.s₀.heap.get? b=some o->b≠X.env.locals:=fun b o e=>Nat.ne_of_lt (Nat.lt_of_lt_of_le (Heap.lt_size e) I.ok.above);refine⟨I.ok,I.os,I.bare,⟨fun b o e n hb hx=>?_,fun b o e n hb hx=>?_,I.base.free,fun b o e hx=>?_,I.base.tups,I.base.frzs,I.base.tbls⟩,⟨_,hn,fun j x w e1 e2 e3=>?_⟩,fun x c e=>?_,I.free,I.freeC,fun p hp=>?_,I.hok.stays fun b u e o q=>?_,by rw [List.length_set]; exact I.len⟩
 ·exact(sb.2 b (ne b o e)).trans (I.base.keep b o e n hb hx)
 ·obtain⟨sl,q⟩:=I.base.slot b o e n hb hx;exact⟨sl,(sb.2 b (ne b o e)).trans q⟩
 ·obtain⟨o',q⟩:=I.base.there b o e hx;exact⟨o',(sb.2 b (ne b o e)).trans q⟩
 ·rw [List.getElem?_set] at e2;by_cases hij:i=j
  ·rw [if_pos hij] at e2;split at e2 <;> cases e2
  ·rw [if_neg hij] at e2;have xn:x≠n:=fun z=>hij ((List.getElem?_inj (List.getElem?_eq_some_iff.mp hi).1 hN).mp (by rw [hi,e1,z]));obtain⟨u,r,l⟩:=hv j x w e1 e2 e3;refine⟨u,r,?_⟩;rcases l with ⟨k1,k2⟩ | ⟨k1,c,k2,k3⟩
   ·exact .inl ⟨k1,by show (if x=n then v else m x)=_; rw [if_neg xn]; exact k2⟩
   ·refine .inr ⟨k1,c,k2,?_⟩;obtain⟨o,ho,hd⟩:=k3;exact⟨o,(sb.2 c (I.cne x c k2)).trans ho,hd⟩
 ·obtain⟨v,o,ho,hd⟩:=I.cell x c e;exact⟨v,o,(sb.2 c (I.cne x c e)).trans ho,hd⟩
 ·obtain⟨e,n,ne',nf,d⟩:=I.pin p hp;exact⟨(sb.2 _ ne').trans e,n,ne',nf,d⟩
 ·refine(sb.2 b ?_).trans q;rintro rfl;rw [I.free] at e;cases e
end
section
variable {X:Cx} {G n:Str} {gp hpos pos:Pos} {i:Nat} {b₀ st:Stmt} {suite:List Stmt} {GA:Addr} {iniG:Option Value} {tb:XK->TS} {ts:TS}
def zmw(K:W.Frag)(GA:Addr)(i:Nat)(ts:TS)(D:Ends)(σ:St):XK:=fun cls a H'=>∃ C b ini,cls=.ref C/\a=some b/\ExCls K C ini/\PySem.W.mroIn K C (.ref GA)=some true /\
 ts { nx:=fun σ' H2=>D.nx (σ'.set i none) H2,rt:=D.rt } (σ.set i (some (.ref b))) H'
def ziu(K:W.Frag)(GA:Addr)(i:Nat)(tb:XK->TS)(ts:TS):TS:=fun D σ H=>tb (zmw K GA i ts D σ) D σ H
theorem zpe(hx:∀ e s,X.xe e s->False)(hst:X.stack=X.env :: X.outer)(hfr:X.env.frame=some X.env.locals)(hN:X.N.Nodup)(hi:X.N[i]? = some n)(hl:X.env.kindOf n=some .local)(hg:Gl X G)(hm:X.mg G=some (.ref GA))(qG:ExCls X.K GA iniG)
  (hb:PSX X st tb) (hs:∀ a,PSs (X.suite a) (b₀ :: suite) ts) (hdb:(G == ("__debug__":Str))=false:=by decide) :
  PS X (.Try [st] [.ExceptHandler (some (.Name G gp)) (some n) (b₀ :: suite) hpos] [] [] pos) (ziu X.K GA i tb ts):=by
 intro zf s σ H D I h;refine wpAny_Try_except (wpAny_execs_cons (wpAny_mono (hb zf s σ H D _ (fun e s₁=>wpAny (model X.prog X.w) X.A (noteFrame e X.env) (fun _ s₂=>wpAny (model X.prog X.w) X.A (setFlight e none) (fun _ s₃=>wpAny (model X.prog X.w) X.A (handleBy e X.env [.ExceptHandler (some (.Name G gp)) (some n) (b₀ :: suite) hpos]) (SP X zf D) X.xe s₃) X.xe s₂) X.xe s₁) I h ?_) (fun fl s1 q=>?_) fun _ _ z=>z))
 rotate_left
 ·cases fl with
  | next=>exact wpAny_execs_nil (wpAny_execs_nil q)
  | ret v=>exact q
  | brk=>exact q
  | cont=>exact q
 intro H1 s1 v s' I1 cx;obtain⟨H',a,C,dx,rfl,F,C',b,ini,eC,eb,qC,hin,hts⟩:=cx;cases eC;cases eb;obtain⟨B,t,fl,kB,eB,tB⟩:=F.fl;rw [hst] at fl;have frames:X.A.frames=some (X.env :: X.outer):=by rw [I1.ok.frames,hst]
 refine zmm frames hfr fl fun h₄ held₄ sm₄=>?_;refine zrg held₄ fun h₅ fl₅ sm₅=>?_;have bB:∀ b o,X.base.get? b=some o->B.get? b=some o:=fun b o e=>kB b o (I1.bk b o e) (I1.bs b o e).2 fun z=>by
  have:=(I1.stack.mem z).1;rw [e] at this;cases this
 have kin:X.K.In h₅:=I1.ok.mod.kin.keeps fun b o e=>fl₅.1 b o (bB b o e);obtain⟨oe,hoe,hoc,_⟩:=fl₅.there;refine wpAny_handleBy_cons (codeAny_handlers_test ?_) (by intro q; cases q);refine Calls.Name_function_global I1.ok.kind hg (Calls.loadGlobal_global (by rw [I1.ok.glob]; exact I1.mod.glob.keeps fun b o e=>fl₅.1 b o (bB b o e)) hm ?_) hdb;refine zfb kin qC qG hoe hoc hin (codeAny_handlers_suite_as ?_);refine zhf fl₅ fun h₆ fl₆ sm₆=>?_;obtain⟨oe6,hoe6,hoc6,hod6⟩:=fl₆.there;subst hod6;have sm:s'.heap.UpToSlots h₆:=(sm₄.trans sm₅).trans sm₆;have na:H' a=none:=by
  cases z:H' a with
  | none=>rfl
  | some u =>
   obtain⟨o,q⟩:=tB a u z;rw [fl.2.1] at q;cases q
 have new:∀ b o,s1.heap.get? b=some o->b≠a:=fun b o q z=>by
  subst z;rcases eB b o q with z | ⟨o',z⟩
  ·rw [hst] at z;obtain⟨_,o2,q2,nf⟩:=fl₆.2.2.1.mem z;obtain⟨oe7,vs7,q7,_,d7,_⟩:=fl₆.first
   rw [q2] at q7;cases q7;exact nf _ d7
  ·rw [fl.2.1] at z;cases z
 have I6:Inv X zf σ (upd H' a (exO a C oe6.dict)) { s' with heap:=h₆ }:=by
  refine I1.call' (ch:=[]) F.os ⟨fun b o q n hb _=>fl₆.1 b o (kB b o q n hb),fun b o q n hb _=>?_,fun b o q n _=>?_,fun b o q _=>?_,fun b xs q=>?_,fun b o u q=>?_,fun b ps q=>?_⟩ ?_ F.bare (fun b z=>absurd z (by simp))
  ·obtain⟨sl,q1⟩:=F.un.any q n (by simp);rw [hst] at hb;obtain⟨_,o3,q3,nf⟩:=fl.2.2.1.mem hb;rw [q1] at q3;cases q3;obtain⟨sl3,q4⟩:=sm b _ q1 nf;exact⟨sl3,q4⟩
  ·rw [zw (new b o q)];exact F.un.free b o q n (by simp)
  ·rcases eB b o q with z | ⟨o',z⟩
   ·rw [hst] at z;obtain⟨_,o3,q3,_⟩:=fl₆.2.2.1.mem z;exact⟨o3,q3⟩
   ·exact⟨o',fl₆.1 b o' z⟩
  ·have q2:=F.un.tups b xs q;rw [zw (zG q2 na)];exact q2
  ·have q2:=F.un.frzs b o u q;rw [zw (zG q2 na)];exact q2
  ·obtain⟨m,q2⟩:=F.un.tbls b ps q;exact⟨m,by rw [zw (zG q2 na)]; exact q2⟩
  ·intro b u q;by_cases hb:b=a
   ·subst hb;rw [zH] at q;cases q;exact zqV hoe6 hoc6 (by
     obtain⟨oe7,vs7,q7,_,d7,_⟩:=fl₆.first
     rw [hoe6] at q7;cases q7;exact⟨_,d7⟩)
   ·rw [zw hb] at q;refine(F.hok b u q).stay (fun c v hc q1=>?_) (fun c q1=>by rw [zw (zG q1 na)]; exact q1) fun c xs q1=>by rw [zw (zG q1 na)]; exact q1
    have tr:∀ c u,H' c=some u->s'.heap.get? c=some v->h₆.get? c=some v:=fun c u e q1=>by
     obtain⟨o',z⟩:=tB c u e;have:=fl.1 c o' z;rw [q1] at this;cases this;exact fl₆.1 c v z
    rcases hc with rfl | hc
    ·exact tr _ _ q q1
    ·exact tr _ _ hc q1
 have hiσ:σ.length=X.N.length:=I6.len;refine zgA (v:=.ref a) I6 hN hi (.inl hl) rfl (fun s7 I7=>?_) (.inr hl);refine wpAny_mono (hs a zf s7 _ _ _ (I7.suite a) hts) (fun f8 s8 q=>?_) fun _ _ z=>z.elim;cases f8 with
 | ret u =>
  obtain⟨w,σ8,H8,I8,r8,q8⟩:=q;have J:=I8.unsuite I6.ok;obtain⟨m8,hn8,_⟩:=J.loc;have hcls:(X.env.scope.kind == .class || (X.env.scope.kind == .module && X.env.locals != X.env.globals))=false:=by rw [J.ok.kind]; rfl
  refine wpAny_nameGoes hl hn8 hcls fun h9 m9 hn9 sb9=>?_;exact⟨w,_,H8,J.gone hn9 sb9,r8,q8⟩
 | next =>
  obtain⟨σ8,H8,I8,q8⟩:=q;have J:=I8.unsuite I6.ok;obtain⟨m8,hn8,hv8⟩:=id J.loc;have hcls:(X.env.scope.kind == .class || (X.env.scope.kind == .module && X.env.locals != X.env.globals))=false:=by rw [J.ok.kind]; rfl
  refine wpAny_nameGoes_keeps hl hn8 hcls fun h9 v9 hn9 sb9=>?_;exact⟨_,H8,J.goneAt hN hi hl hn8 hv8 hn9 sb9,q8⟩
 | brk=>obtain⟨_,_,_,z⟩:=q; exact z.elim
 | cont=>obtain⟨_,_,_,z⟩:=q; exact z.elim
end
def zjM(kn:DEnds->XE->RX)(m:Nat)(q:PX)(da:DA)(i:Nat)(hd:DS):DS:=fun En δ S=>da δ S fun xs S1=>∃ ds,datas xs=some ds/\ds.length=m /\
 q (ds.map XV.d) [] (ret0 S1 (kn En δ)) fun C fs=>C∈excs/\hd { nx:=fun δ' S'=>En.nx (δ'.set i none) S',rt:=En.rt } (δ.set i (some (.x C fs))) S1
theorem RepE.unset{h o:List Addr}{H:Hp}{δ:XE}{σ:St}{i:Nat}(r:RepE h o H δ σ):RepE h o H (δ.set i none) (σ.set i none):=by
 refine⟨by simp [r.len],fun j y e=>?_⟩;rw [List.getElem?_set] at e ⊢;by_cases hij:i=j
 ·rw [if_pos hij] at e;split at e <;> cases e
 ·rw [if_neg hij] at e ⊢;exact r.get j y e
theorem zhW{K:W.Frag}{i m:Nat}{ps:List Str}{q:PX}{tl:TA}{dl:DA}{ts:TS}{ds:DS}{kn:DEnds->XE->RX}{kt:Ends->St->VK}{tb:XK->TS}(X0:Exs K)(hm:ps.length=m)(hkn:KnOk kn kt)(htb:∀ Ex D σ H,tb Ex D σ H=(tl σ H fun vs H1=>spX ps q vs H1 (kt D σ) Ex))(ha:RA tl dl)(hsu:RS ts ds):
  RS (ziu K 24 i tb ts) (zjM kn m q dl i ds):=fun h o H δ σ S En D he hs d c=>by
 show tb (zmw K 24 i ts D σ) D σ H;rw [htb];refine ha h o H δ σ S _ _ he hs d fun o1 H1 S1 xs vs e1 s1 x1 ⟨es,ees,hl,d1⟩=>?_;have exs:=zbk ees;subst exs;refine⟨by rw [x1.len,List.length_map,hl,hm],h++o1,[],[],es.map XV.d,_,_,rep0 s1,hxs00 x1,d1,cn0 s1 (hkn h o1 H1 δ σ En D (he.mono e1) (c.pre e1)),?_⟩;intro o' H' S' C a fs e' s' hE ⟨hC,hh⟩;have EC:=X0.all C hC;obtain⟨ini,qC⟩:=X0.ci C hC;refine⟨C,a,ini,rfl,rfl,qC,(EC.mroIn _).trans (by simp [exM]),?_⟩;have sH:Same H1 H':=fun b u eb=>(e'.kp b u (by simp) eb).2;have e2:Ex o1 H1 o1 H':=Ex.of_same sH;have sv:Same (vx (h++o1) o' H') (vx h o1 H'):=fun b u eb=>by
  obtain⟨n1,n2,n3⟩:=zM.mp eb;exact zM.mpr ⟨fun z=>n1 (List.mem_append_left _ z),fun z=>n1 (List.mem_append_right _ z),n3⟩
 have cc:=c.pre (e1.trans e2);exact hsu h o1 _ (δ.set i (some (.x C fs))) (σ.set i (some (.ref a))) S1 _ _ (((he.mono e1).mono e2).set (HasE.mono sv hE)) (s1.same sH) hh ⟨fun o3 H3 δ3 S3 σ3 e3 he3 hs3 n3=>cc.nx o3 H3 _ S3 _ e3 he3.unset hs3 n3,cc.rt,fun _ _ _ _ _ _ _ _ z=>z.elim,fun _ _ _ _ _ _ _ _ z=>z.elim⟩
end
section
section
variable {E:XK} {EX:EXD} {a b c d e f u:TS} {dt du:DS} {i:Nat}
theorem zoF(h:RS (ziz a b) dt)(hu:RS u du):RS (ziz a (ziz b u)) (zaA dt du):=zpA (zy h hu)
end
end
end L2
namespace HT
open PySem PyProof.Rows
end HT
namespace L2
open PySem PySem.Spec PyProof.Rows
end L2
namespace L2
open PySem PySem.Spec PySem.Calls PyProof.Rows
theorem zl5:∀ (xs:List V) (us:List Value),xs.length=us.length->(∀ (j:Nat) (x:V) (u:Value),xs[j]? = some x->us[j]? = some u->RelV x u)->Vals xs us
 | [],[],_,_=>.nil
 | x :: xs,u :: us,hl,h=>.cons (h 0 x u rfl rfl) (zl5 xs us (by simpa using hl) fun j y v e1 e2=>h (j+1) y v (by simpa using e1) (by simpa using e2))
 | [],_ :: _,hl,_=>by simp at hl
 | _ :: _,[],hl,_=>by simp at hl
end L2
namespace HT
open PySem PyProof.Rows
end HT
namespace L2
open PySem PySem.Spec PySem.Calls PyProof.Rows
end L2
namespace HT
open PySem PyProof.Rows
end HT
namespace L2
open PySem PySem.Spec PySem.Calls PyProof.Rows
end L2
namespace L2
open PySem PySem.Spec PyProof.Rows
end L2
namespace L2
open PySem PyProof.Rows
def zlS:Bool->Keyed->Array Keyed->Nat->Nat->Nat->StateT SortSt Sem (Option Nat):=sortPriv% PySem.Builtin.gallop
def znc:Array Keyed->Array Keyed->StateT SortSt Sem (Array Keyed):=sortPriv% PySem.Builtin.mergeLo
def zne:Array Keyed->Array Keyed->StateT SortSt Sem (Array Keyed):=sortPriv% PySem.Builtin.mergeHi
structure LtOk(prog:Program)(w:World)(A:Around)(E:Value->Shared->Prop)(s:Shared)(kd:SortKind)(D:Keyed->Prop)(lt:Keyed->Keyed->Bool):Prop where
 ask:∀ x y (st:SortSt) (Q:Option Bool->SortSt->Prop),D x->D y->kindOf st=kd->Q (some (lt x y)) st->wpS (model prog w) A E s (lt' x y) Q st
 asym:∀ x y,D x->D y->lt x y=true->lt y x=false
 tr:∀ x y z,D x->D y->D z->lt y x=false->lt z y=false->lt z x=false
section
variable {prog:Program} {w:World} {A:Around} {E:Value->Shared->Prop} {s:Shared} {kd:SortKind} {D:Keyed->Prop} {lt:Keyed->Keyed->Bool}
theorem zC{arr:Array Keyed}{i:Nat}{x:Keyed}{Q:Keyed->SortSt->Prop}{st:SortSt}(h:arr[i]? = some x)(q:Q x st):wpS (model prog w) A E s (elem' arr i) Q st:=by
 rw [elem'_eq,h];exact wpS_pure q
def bey(lt:Keyed->Keyed->Bool)(left:Bool)(key x:Keyed):Bool:=if left=true then lt x key else !lt key x
theorem zeQ(O:LtOk prog w A E s kd D lt){left:Bool}{key x:Keyed}{arr:Array Keyed}{i:Nat}{Q:Option Bool->SortSt->Prop}{st:SortSt}(hk:kindOf st=kd)(hD:D key)(hg:arr[i]? = some x)(hx:D x)(q:Q (some (bey lt left key x)) st):
  wpS (model prog w) A E s (do
   let y <- elem' arr i
   if left=true then lt' y key
    else do
     let r <- lt' key y
     pure (Option.map (fun b=>!b) r)) Q st:=by
 refine wpS_bind (zC hg ?_);unfold bey at q;by_cases h:left=true
 ·rw [if_pos h] at q ⊢;exact O.ask _ _ _ _ hx hD hk q
 ·rw [if_neg h] at q ⊢;exact wpS_bind (O.ask _ _ _ _ hD hx hk (wpS_pure q))
theorem zku{n:Nat}{p:Nat->Bool}{α:Type}{f:Nat->Option α×Nat×Nat->StateT SortSt Sem (ForInStep (Option α×Nat×Nat))}{Q:Option α×Nat×Nat->SortSt->Prop}{st:SortSt}
  (hf:∀ x lo hi (Q':ForInStep (Option α×Nat×Nat)->SortSt->Prop),hi<=n->(hi<=lo->Q' (.done (none,lo,hi)) st)->(lo<hi->p (lo+(hi - lo) / 2)=true->Q' (.yield (none,lo+(hi - lo) / 2+1,hi)) st) ->
   (lo<hi->p (lo+(hi - lo) / 2)=false->Q' (.yield (none,lo,lo+(hi - lo) / 2)) st)->wpS (model prog w) A E s (f x (none,lo,hi)) Q' st)
  (hmono:∀ i j,i<=j->j<n->p j=true->p i=true) {lo hi:Nat} (h1:lo<=hi) (h2:hi<=n) (h3:∀ i,i<lo->p i=true) (h4:∀ i,hi<=i->i<n->p i=false)
  (q:∀ k,k<=n->(∀ i,i<k->p i=true)->(∀ i,k<=i->i<n->p i=false)->Q (none,k,k) st):wpS (model prog w) A E s (forIn [:n] (none,lo,hi) f) Q st:=by
 refine wpS_forRange (I:=fun k c st'=>st'=st/\∃ lo hi,c=(none,lo,hi)/\lo<=hi/\hi<=n/\hi - lo+k<=n/\(∀ i,i<lo->p i=true)/\∀ i,hi<=i->i<n->p i=false) ?step ?fin ⟨rfl,lo,hi,rfl,h1,h2,by omega,h3,h4⟩
 case fin =>
  rintro c st' ⟨rfl,lo,hi,rfl,a1,a2,a3,a4,a5⟩;have:lo=hi:=by omega
  subst this;exact q lo a2 a4 a5
 case step =>
  rintro k c st' _ hkn ⟨rfl,lo,hi,rfl,a1,a2,a3,a4,a5⟩;refine hf k lo hi _ a2 (fun hle=>?_) (fun hlt hp=>?_) fun hlt hp=>?_
  ·have:lo=hi:=by omega
   subst this;exact q lo a2 a4 a5
  ·refine⟨rfl,_,_,rfl,by omega,a2,by omega,fun i hi'=>?_,a5⟩;exact hmono i (lo+(hi - lo) / 2) (by omega) (by omega) hp
  ·refine⟨rfl,_,_,rfl,by omega,by omega,by omega,a4,fun i hi' hin=>?_⟩;cases hpi:p i with
   | false=>rfl
   | true=>rw [hmono (lo+(hi - lo) / 2) i hi' hin hpi] at hp; cases hp
theorem zkh(O:LtOk prog w A E s kd D lt){left:Bool}{key:Keyed}{arr:Array Keyed}{base n hint:Nat}{Q:Option Nat->SortSt->Prop}{st:SortSt}(hk:kindOf st=kd)(hD:D key)(g:Nat->Keyed)(hg:∀ i,i<n->arr[base+i]? = some (g i))(hgD:∀ i,i<n->D (g i))
  (hmono:∀ i j,i<=j->j<n->bey lt left key (g j)=true->bey lt left key (g i)=true) (hh:hint<n)
  (q:∀ k,k<=n->(∀ i,i<k->bey lt left key (g i)=true)->(∀ i,k<=i->i<n->bey lt left key (g i)=false)->Q (some k) st):wpS (model prog w) A E s (zlS left key arr base n hint) Q st:=by
 have hmF:∀ i j,i<=j->j<n->bey lt left key (g i)=false->bey lt left key (g j)=false:=fun i j h1 h2 h3=>by
  cases h:bey lt left key (g j) with
  | false=>rfl
  | true=>rw [hmono i j h1 h2 h] at h3; cases h3
 refine wpS_bind (zeQ O hk hD (hg hint hh) (hgD hint hh) ?_);dsimp only;cases hb:bey lt left key (g hint) with
 | true =>
  simp only [if_true];refine wpS_bind (wpS_mono (wpS_forRange (I:=fun k c st'=>st'=st/\∃ la of_,c=(none,la,of_)/\la<of_/\k+1<=of_/\hint+la<n/\bey lt left key (g (hint+la))=true)
   (Q:=fun c st'=>st'=st/\∃ la of_,c=(none,la,of_)/\la<of_/\hint+la<n/\bey lt left key (g (hint+la))=true/\(n - hint<=of_\/(hint+of_<n/\bey lt left key (g (hint+of_))=false))) ?step ?fin ⟨rfl,0,1,rfl,by omega,by omega,by omega,hb⟩) ?post)
  case step =>
   rintro k c st' _ hk2 ⟨rfl,la,of_,rfl,h1,h2,h3,h4⟩;dsimp only;by_cases ho:of_≥n - hint
   ·rw [if_pos ho];exact wpS_pure ⟨rfl,la,of_,rfl,h1,h3,h4,.inl ho⟩
   ·rw [if_neg ho];have hn:hint+of_<n:=by omega
    refine wpS_bind (zeQ O hk hD (hg _ hn) (hgD _ hn) ?_);dsimp only;cases hb2:bey lt left key (g (hint+of_)) with
    | true=>exact wpS_pure ⟨rfl,of_,2*of_+1,rfl,by omega,by omega,hn,hb2⟩
    | false=>exact wpS_pure ⟨rfl,la,of_,rfl,h1,h3,h4,.inr ⟨hn,hb2⟩⟩
  case fin =>
   rintro c st' ⟨rfl,la,of_,rfl,h1,h2,h3,h4⟩;exact⟨rfl,la,of_,rfl,h1,h3,h4,.inl (by omega)⟩
  case post =>
   rintro c st' ⟨rfl,la,of_,rfl,h1,h3,h4,h5⟩;dsimp only;refine wpS_bind (zku (p:=fun i=>bey lt left key (g i)) ?hf hmono (by omega) (by omega) (fun i hi=>hmono i (hint+la) (by omega) h3 h4) (fun i hi hin=>?_) fun k k1 k2 k3=>?_)
   case hf =>
    intro x lo hi Q' hn e1 e2 e3;dsimp only;by_cases ho:lo≥hi
    ·rw [if_pos ho];exact wpS_pure (e1 ho)
    ·rw [if_neg ho];have hm:lo+(hi - lo) / 2<n:=by omega
     refine wpS_bind (zeQ O hk hD (hg _ hm) (hgD _ hm) ?_);dsimp only;cases hb2:bey lt left key (g (lo+(hi - lo) / 2)) with
     | true=>exact wpS_pure (e2 (by omega) hb2)
     | false=>exact wpS_pure (e3 (by omega) hb2)
   ·rcases h5 with h5 | ⟨h5,h6⟩
    ·omega
    ·exact hmF (hint+of_) i (by omega) hin h6
   ·exact wpS_pure (q k k1 k2 k3)
 | false =>
  simp only [Bool.false_eq_true,if_false];refine wpS_bind (wpS_mono (wpS_forRange (I:=fun k c st'=>st'=st/\∃ la of_,c=(none,la,of_)/\la<of_/\k+1<=of_/\la<=hint/\bey lt left key (g (hint - la))=false)
   (Q:=fun c st'=>st'=st/\∃ la of_,c=(none,la,of_)/\la<of_/\la<=hint/\bey lt left key (g (hint - la))=false/\(hint+1<=of_\/(of_<=hint/\bey lt left key (g (hint - of_))=true))) ?step ?fin ⟨rfl,0,1,rfl,by omega,by omega,by omega,hb⟩) ?post)
  case step =>
   rintro k c st' _ hk2 ⟨rfl,la,of_,rfl,h1,h2,h3,h4⟩;dsimp only;by_cases ho:of_≥hint+1
   ·rw [if_pos ho];exact wpS_pure ⟨rfl,la,of_,rfl,h1,h3,h4,.inl ho⟩
   ·rw [if_neg ho];have hn:hint - of_<n:=by omega
    refine wpS_bind (zeQ O hk hD (hg _ hn) (hgD _ hn) ?_);dsimp only;cases hb2:bey lt left key (g (hint - of_)) with
    | true=>exact wpS_pure ⟨rfl,la,of_,rfl,h1,h3,h4,.inr ⟨by omega,hb2⟩⟩
    | false=>exact wpS_pure ⟨rfl,of_,2*of_+1,rfl,by omega,by omega,by omega,hb2⟩
  case fin =>
   rintro c st' ⟨rfl,la,of_,rfl,h1,h2,h3,h4⟩;exact⟨rfl,la,of_,rfl,h1,h3,h4,.inl (by omega)⟩
  case post =>
   rintro c st' ⟨rfl,la,of_,rfl,h1,h3,h4,h5⟩;dsimp only;refine wpS_bind (zku (p:=fun i=>bey lt left key (g i)) ?hf hmono (by omega) (by omega) (fun i hi=>?_) (fun i hi hin=>hmF (hint - la) i (by omega) hin h4) fun k k1 k2 k3=>?_)
   case hf =>
    intro x lo hi Q' hn e1 e2 e3;dsimp only;by_cases ho:lo≥hi
    ·rw [if_pos ho];exact wpS_pure (e1 ho)
    ·rw [if_neg ho];have hm:lo+(hi - lo) / 2<n:=by omega
     refine wpS_bind (zeQ O hk hD (hg _ hm) (hgD _ hm) ?_);dsimp only;cases hb2:bey lt left key (g (lo+(hi - lo) / 2)) with
     | true=>exact wpS_pure (e2 (by omega) hb2)
     | false=>exact wpS_pure (e3 (by omega) hb2)
   ·rcases h5 with h5 | ⟨h5,h6⟩
    ·omega
    ·exact hmono i (hint - of_) (by omega) (by omega) h6
   ·exact wpS_pure (q k k1 k2 k3)
def SrtL(lt:Keyed->Keyed->Bool)(l:List Keyed):Prop:=l.Pairwise fun x y=>lt y x=false
structure MI(lt:Keyed->Keyed->Bool)(L0 out A B:List Keyed):Prop where
 pm:(out++(A++B)).Perm L0
 so:SrtL lt out
 le:∀ x∈out,∀ y∈A++B,lt y x=false
 sa:SrtL lt A
 sb:SrtL lt B
theorem ziC{l:List Keyed}{x:Keyed}(h:SrtL lt l)(k:∀ y∈l,lt x y=false):SrtL lt (l++[x]):=by
 unfold SrtL at *;rw [List.pairwise_append];exact⟨h,by simp,fun y m z mz=>by rw [List.mem_singleton.mp mz]; exact k y m⟩
theorem MI.takeA{L0 out A B:List Keyed}{x:Keyed}(h:MI lt L0 out (x :: A) B)(k:∀ y∈B,lt y x=false):MI lt L0 (out++[x]) A B:=by
 have sa:=h.sa;unfold SrtL at sa;rw [List.pairwise_cons] at sa;refine⟨by rw [List.append_assoc]; exact h.pm,ziC h.so fun y m=>h.le y m x (by simp),fun z mz y my=>?_,sa.2,h.sb⟩;rcases List.mem_append.mp mz with mz | mz
 ·exact h.le z mz y (by rcases List.mem_append.mp my with m | m <;> simp [m])
 ·rw [List.mem_singleton.mp mz];rcases List.mem_append.mp my with m | m
  ·exact sa.1 y m
  ·exact k y m
theorem MI.takeB{L0 out A B:List Keyed}{y:Keyed}(h:MI lt L0 out A (y :: B))(k:∀ x∈A,lt x y=false):MI lt L0 (out++[y]) A B:=by
 have sb:=h.sb;unfold SrtL at sb;rw [List.pairwise_cons] at sb;refine⟨?_,ziC h.so fun x m=>h.le x m y (by simp),fun z mz x mx=>?_,h.sa,sb.2⟩
 ·refine .trans ?_ h.pm;rw [List.append_assoc];refine List.Perm.append_left _ ?_;exact(List.perm_middle (a:=y) (l₁:=A) (l₂:=B)).symm
 ·rcases List.mem_append.mp mz with mz | mz
  ·exact h.le z mz x (by rcases List.mem_append.mp mx with m | m <;> simp [m])
  ·rw [List.mem_singleton.mp mz];rcases List.mem_append.mp mx with m | m
   ·exact k x m
   ·exact sb.1 x m
theorem MI.takesA{L0:List Keyed}:∀ {X out A B:List Keyed},MI lt L0 out (X++A) B->(∀ x∈X,∀ y∈B,lt y x=false)->MI lt L0 (out++X) A B
 | [],out,A,B,h,_=>by simpa using h
 | x :: X,out,A,B,h,k=>by
  have:=MI.takesA (MI.takeA h (k x List.mem_cons_self)) fun z m=>k z (List.mem_cons_of_mem _ m);simpa using this
theorem MI.takesB{L0:List Keyed}:∀ {Y out A B:List Keyed},MI lt L0 out A (Y++B)->(∀ y∈Y,∀ x∈A,lt x y=false)->MI lt L0 (out++Y) A B
 | [],out,A,B,h,_=>by simpa using h
 | y :: Y,out,A,B,h,k=>by
  have:=MI.takesB (MI.takeB h (k y List.mem_cons_self)) fun z m=>k z (List.mem_cons_of_mem _ m);simpa using this
def MDone(lt:Keyed->Keyed->Bool)(L0 l:List Keyed):Prop:=l.Perm L0/\SrtL lt l
theorem MI.doneA{L0 out A:List Keyed}(h:MI lt L0 out A []):MDone lt L0 (out++A):=by
 refine⟨by simpa using h.pm,?_⟩;unfold SrtL;rw [List.pairwise_append];exact⟨h.so,h.sa,fun x m y m'=>h.le x m y (by simpa using m')⟩
theorem MI.lastA{L0 out B:List Keyed}{x:Keyed}(h:MI lt L0 out [x] B)(k:∀ y∈B,lt x y=false):MDone lt L0 (out++B++[x]):=by
 have h2:MI lt L0 (out++B) [x] []:=MI.takesB (B:=[]) (by simpa using h) fun y m z mz=>by rw [List.mem_singleton.mp mz]; exact k y m
 exact h2.doneA
def sameSt(st st':SortSt):Prop:=kindOf st'=kindOf st/\arrOf st'=arrOf st/\pendingOf st'=pendingOf st/\failedOf st'=failedOf st
theorem sameSt.rfl'{st:SortSt}:sameSt st st:=⟨rfl,rfl,rfl,rfl⟩
theorem LtOk.irr(O:LtOk prog w A E s kd D lt){x:Keyed}(h:D x):lt x x=false:=by
 cases e:lt x x with
 | false=>rfl
 | true=>rw [O.asym x x h h e] at e; cases e
theorem zaH(O:LtOk prog w A E s kd D lt){l:List Keyed}(h:SrtL lt l)(hD:∀ x∈l,D x){i j:Nat}{x y:Keyed}(ij:i<=j)(hx:l[i]? = some x)(hy:l[j]? = some y):lt y x=false:=by
 rcases Nat.lt_or_eq_of_le ij with h1 | h1
 ·obtain⟨hi,ex⟩:=List.getElem?_eq_some_iff.mp hx;obtain⟨hj,ey⟩:=List.getElem?_eq_some_iff.mp hy;have:=List.pairwise_iff_getElem.mp h i j hi hj h1;rw [ex,ey] at this;exact this
 ·subst h1;rw [hx] at hy;cases hy;exact O.irr (hD x (List.mem_of_getElem? hx))
theorem zca{l:List Keyed}{i:Nat}{x:Keyed}(h:l[i]? = some x):l.drop i=x :: l.drop (i+1):=by
 obtain⟨hi,e⟩:=List.getElem?_eq_some_iff.mp h;rw [List.drop_eq_getElem_cons hi,e]
theorem zaD{a:Array Keyed}{i:Nat}(h:i<a.size):∃ x,a[i]? = some x/\a.toList[i]? = some x:=⟨a[i],by simp [h],by simp [h]⟩
theorem zaw{l:List Keyed}{i:Nat}{y:Keyed}(h:y∈l.drop i):∃ j,i<=j/\l[j]? = some y:=by
 obtain⟨j,hj⟩:=List.mem_iff_getElem?.mp h;rw [List.getElem?_drop] at hj;exact⟨i+j,by omega,hj⟩
structure MInv(lt:Keyed->Keyed->Bool)(a b out:Array Keyed)(ia ib:Nat):Prop where
 mi:MI lt (a.toList++b.toList) out.toList (a.toList.drop ia) (b.toList.drop ib)
 ha:ia+1<a.size
 hb:ib<b.size
section
variable {a b out:Array Keyed} {ia ib:Nat}
theorem MInv.stepB(O:LtOk prog w A E s kd D lt)(haD:∀ x∈a.toList,D x)(hbD:∀ x∈b.toList,D x)(hsa:SrtL lt a.toList){x y:Keyed}(h:MInv lt a b out ia ib)(hx:a.toList[ia]? = some x)(hy:b.toList[ib]? = some y)(l:lt y x=true):
  MI lt (a.toList++b.toList) (out.push y).toList (a.toList.drop ia) (b.toList.drop (ib+1)):=by
 have m:=h.mi;rw [zca hy] at m;have:=m.takeB fun z mz=>by
  obtain⟨j,hj,ez⟩:=zaw mz;have Dx:=haD x (List.mem_of_getElem? hx);have Dy:=hbD y (List.mem_of_getElem? hy);have Dz:=haD z (List.mem_of_getElem? ez);exact O.tr y x z Dy Dx Dz (O.asym y x Dy Dx l) (zaH O hsa haD hj hx ez)
 simpa using this
theorem MInv.stepA(O:LtOk prog w A E s kd D lt)(haD:∀ x∈a.toList,D x)(hbD:∀ x∈b.toList,D x)(hsb:SrtL lt b.toList){x y:Keyed}(h:MInv lt a b out ia ib)(hx:a.toList[ia]? = some x)(hy:b.toList[ib]? = some y)(l:lt y x=false):
  MI lt (a.toList++b.toList) (out.push x).toList (a.toList.drop (ia+1)) (b.toList.drop ib):=by
 have m:=h.mi;rw [zca hx] at m;have:=m.takeA fun z mz=>by
  obtain⟨j,hj,ez⟩:=zaw mz;exact O.tr x y z (haD x (List.mem_of_getElem? hx)) (hbD y (List.mem_of_getElem? hy)) (hbD z (List.mem_of_getElem? ez)) l (zaH O hsb hbD hj hy ez)
 simpa using this
theorem zc6(a:Array Keyed)(i:Nat):(a.extract i a.size).toList=a.toList.drop i:=by
 rw [Array.toList_extract,List.extract_eq_take_drop,List.take_of_length_le (by simp)]
theorem zc5(hib:ib=b.size)(m:MI lt (a.toList++b.toList) out.toList (a.toList.drop ia) (b.toList.drop ib)):MDone lt (a.toList++b.toList) (out++a.extract ia a.size++b.extract ib b.size).toList:=by
 have e:b.toList.drop ib=[]:=List.drop_of_length_le (by simp [hib]);rw [Array.toList_append,Array.toList_append,zc6,zc6,e,List.append_nil];rw [e] at m;exact m.doneA
theorem znM(hia:ia=a.size)(m:MI lt (a.toList++b.toList) out.toList (a.toList.drop ia) (b.toList.drop ib)):MDone lt (a.toList++b.toList) (out++a.extract ia a.size++b.extract ib b.size).toList:=by
 have e:a.toList.drop ia=[]:=List.drop_of_length_le (by simp [hia]);rw [Array.toList_append,Array.toList_append,zc6,zc6,e,List.append_nil];rw [e] at m;have h2:MI lt (a.toList++b.toList) (out.toList++b.toList.drop ib) [] []:=MI.takesB (B:=[]) (by simpa using m) (fun y my x mx=>by cases mx);have:=h2.doneA;simpa using this
theorem zdt(hl:∀ x,a[a.size - 1]? = some x->∀ y∈b.toList,lt x y=false)(h1:ia+1=a.size)(m:MI lt (a.toList++b.toList) out.toList (a.toList.drop ia) (b.toList.drop ib)):MDone lt (a.toList++b.toList) (out++b.extract ib b.size++a.extract ia a.size).toList:=by
 obtain⟨x,e1,e2⟩:=zaD (a:=a) (i:=ia) (by omega);have ed:a.toList.drop ia=[x]:=by
  rw [zca e2,List.drop_of_length_le (by simp; omega)]
 rw [ed] at m;have hx:=hl x (by rw [show a.size - 1=ia by omega]; exact e1);have:=m.lastA fun y my=>hx y (List.mem_of_mem_drop my);rw [Array.toList_append,Array.toList_append,zc6,zc6,ed];exact this
end
theorem gal(O:LtOk prog w A E s kd D lt){left:Bool}{key:Keyed}{arr:Array Keyed}{base n hint:Nat}{Q:Option Nat->SortSt->Prop}{st:SortSt}(hk:kindOf st=kd)(Dk:D key)(hD:∀ j,base<=j->j<base+n->∃ x,arr[j]? = some x/\D x)
  (hs:∀ i j x y,base<=i->i<=j->j<base+n->arr[i]? = some x->arr[j]? = some y->lt y x=false) (hh:hint<n)
  (q:∀ k,k<=n->(∀ j x,base<=j->j<base+k->arr[j]? = some x->bey lt left key x=true)->(∀ j x,base+k<=j->j<base+n->arr[j]? = some x->bey lt left key x=false)->Q (some k) st):wpS (model prog w) A E s (zlS left key arr base n hint) Q st:=by
 have hg:∀ i,i<n->arr[base+i]? = some ((arr[base+i]?).getD key):=fun i hi=>by
  obtain⟨x,e,_⟩:=hD (base+i) (by omega) (by omega);rw [e];rfl
 have hgD:∀ i,i<n->D ((arr[base+i]?).getD key):=fun i hi=>by
  obtain⟨x,e,d⟩:=hD (base+i) (by omega) (by omega);rw [e];exact d
 refine zkh O hk Dk (fun i=>(arr[base+i]?).getD key) hg hgD (fun i j hij hj hb=>?_) hh fun k k1 k2 k3=>q k k1 (fun j x h1 h2 e=>?_) fun j x h1 h2 e=>?_
 ·have s1:=hs (base+i) (base+j) _ _ (by omega) (by omega) (by omega) (hg i (by omega)) (hg j hj);have Di:=hgD i (by omega);have Dj:=hgD j hj
  try dsimp only at hb ⊢
  generalize (arr[base+i]?).getD key=x at s1 Di ⊢;generalize (arr[base+j]?).getD key=y at s1 Dj hb;cases left with
  | true =>
   unfold bey at hb ⊢;rw [if_pos rfl] at hb ⊢;cases hx:lt x key with
   | true=>rfl
   | false=>rw [O.tr key x y Dk Di Dj hx s1] at hb; cases hb
  | false =>
   unfold bey at hb ⊢;rw [if_neg (by decide)] at hb ⊢;have hb':lt key y=false:=by simpa using hb
   rw [O.tr x y key Di Dj Dk s1 hb'];rfl
 ·have:=k2 (j - base) (by omega)
  try dsimp only at this
  rw [show base+(j - base)=j by omega,e] at this;exact this
 ·have:=k3 (j - base) (by omega) (by omega)
  try dsimp only at this
  rw [show base+(j - base)=j by omega,e] at this;exact this
theorem zfZ{a:Array Keyed}{i k:Nat}:(a.extract i (i+k)).toList=(a.toList.drop i).take k:=by
 rw [Array.toList_extract,List.extract_eq_take_drop,Nat.add_sub_cancel_left]
theorem zbx{l:List Keyed}{i k:Nat}{x:Keyed}(h:x∈(l.drop i).take k):∃ j,i<=j/\j<i+k/\l[j]? = some x:=by
 obtain⟨j,hj⟩:=List.mem_iff_getElem?.mp h;rw [List.getElem?_take] at hj;split at hj
 ·rw [List.getElem?_drop] at hj;exact⟨i+j,by omega,by omega,hj⟩
 ·cases hj
theorem zd6(a:Array Keyed)(i:Nat):a.extract i (i+0) = #[]:=by
 apply Array.toList_inj.mp;rw [zfZ,List.take_zero]
section
variable {a b out:Array Keyed} {ia ib k:Nat} {L0:List Keyed}
theorem zkY(m:MI lt L0 out.toList (a.toList.drop ia) (b.toList.drop ib))(h:∀ j x,ia<=j->j<ia+k->a.toList[j]? = some x->∀ y∈b.toList.drop ib,lt y x=false):MI lt L0 (out++a.extract ia (ia+k)).toList (a.toList.drop (ia+k)) (b.toList.drop ib):=by
 rw [Array.toList_append,zfZ];refine MI.takesA ?_ fun x mx y my=>?_
 ·rw [<- List.drop_drop,List.take_append_drop];exact m
 ·obtain⟨j,h1,h2,e⟩:=zbx mx;exact h j x h1 h2 e y my
theorem zhg(m:MI lt L0 out.toList (a.toList.drop ia) (b.toList.drop ib))(h:∀ j y,ib<=j->j<ib+k->b.toList[j]? = some y->∀ x∈a.toList.drop ia,lt x y=false):MI lt L0 (out++b.extract ib (ib+k)).toList (a.toList.drop ia) (b.toList.drop (ib+k)):=by
 rw [Array.toList_append,zfZ];refine MI.takesB ?_ fun x mx y my=>?_
 ·rw [<- List.drop_drop,List.take_append_drop];exact m
 ·obtain⟨j,h1,h2,e⟩:=zbx mx;exact h j x h1 h2 e y my
theorem zeE(m:MI lt L0 out.toList (a.toList.drop ia) (b.toList.drop ib)){x:Keyed}(hx:a.toList[ia]? = some x)(h:∀ y∈b.toList.drop ib,lt y x=false):MI lt L0 (out.push x).toList (a.toList.drop (ia+1)) (b.toList.drop ib):=by
 rw [zca hx] at m;have:=m.takeA h;simpa using this
theorem zjA(m:MI lt L0 out.toList (a.toList.drop ia) (b.toList.drop ib)){y:Keyed}(hy:b.toList[ib]? = some y)(h:∀ x∈a.toList.drop ia,lt x y=false):MI lt L0 (out.push y).toList (a.toList.drop ia) (b.toList.drop (ib+1)):=by
 rw [zca hy] at m;have:=m.takeB h;simpa using this
end
theorem zak{a:Array Keyed}{i:Nat}{x:Keyed}:a[i]? = some x↔a.toList[i]? = some x:=by simp
theorem fin3{prog:Program}{w:World}{A:Around}{E:Value->Shared->Prop}{s:Shared}{τ:Type}{P C:Prop}{_:Decidable P}{f g:StateT SortSt Sem τ}{Q':τ->SortSt->Prop}{st':SortSt}(hf:C->wpS (model prog w) A E s f Q' st')(hg:C->wpS (model prog w) A E s g Q' st')(h:C):wpS (model prog w) A E s (if P then f else g) Q' st':=by
 split
 ·exact hf h
 ·exact hg h
theorem zif(O:LtOk prog w A E s kd D lt){a b:Array Keyed}{Q:Array Keyed->SortSt->Prop}{st:SortSt}(hk:kindOf st=kd)(haD:∀ x∈a.toList,D x)(hbD:∀ x∈b.toList,D x)(ha:SrtL lt a.toList)(hb:SrtL lt b.toList)(ha1:1<=a.size)(hb1:1<=b.size)
  (h0:∀ y,b[0]? = some y->∀ x∈a.toList,lt x y=false) (hl:∀ x,a[a.size - 1]? = some x->∀ y∈b.toList,lt x y=false)
  (q:∀ (out:Array Keyed) st',MDone lt (a.toList++b.toList) out.toList->sameSt st st'->Q out st'):wpS (model prog w) A E s (znc a b) Q st:=by
 refine wpS_bind (wpS_lift (wpAny_rule ⟨rfl,?_⟩));obtain⟨y0,ey0,ey0'⟩:=zaD (a:=b) (i:=0) (by omega);refine wpS_bind (zC ey0 ?_);dsimp only;have m0:MI lt (a.toList++b.toList) [] a.toList b.toList:=⟨List.Perm.refl _,List.Pairwise.nil,(fun x m=>by cases m),ha,hb⟩;have m1:MI lt (a.toList++b.toList) (#[y0]:Array Keyed).toList (a.toList.drop 0) (b.toList.drop 1):=by
  have e:b.toList=y0 :: b.toList.drop 1:=by have:=zca ey0'; simpa using this
  have m2:MI lt (a.toList++b.toList) [] a.toList (y0 :: b.toList.drop 1):=by
   have:=m0
   conv at this=>arg 5; rw [e]
   exact this
  have:=m2.takeB (h0 y0 ey0);simpa using this
 by_cases c1:1=b.size
 ·rw [if_pos (by simpa using c1)];exact wpS_pure (q _ _ (zc5 c1 m1) sameSt.rfl')
 rw [if_neg (by simpa using c1)];by_cases c2:0+1=a.size
 ·rw [if_pos (by simpa using c2)];exact wpS_pure (q _ _ (zdt hl c2 m1) sameSt.rfl')
 rw [if_neg (by simpa using c2)];refine wpS_bind (wpS_get ?_);have tot:∀ {out:Array Keyed} {ia ib:Nat},MInv lt a b out ia ib->ia+ib<a.size+b.size:=fun h=>by have:=h.ha; have:=h.hb; omega
 refine wpS_bind (wpS_mono (wpS_forRange
  (I:=fun k c st'=>sameSt st st'/\∃ out ia ib mg,c=(none,out,ia,ib,mg)/\MInv lt a b out ia ib/\k<ia+ib)
  (Q:=fun c st'=>sameSt st st'/\∃ r rest,c=(some r,rest)/\MDone lt (a.toList++b.toList) r.toList) ?step ?fin ⟨sameSt.rfl',#[y0],0,1,_,rfl,⟨m1,by omega,by omega⟩,by omega⟩) ?post)
 case fin =>
  rintro c st' ⟨hst,out,ia,ib,mg,rfl,hm,hlt⟩;have:=tot hm;omega
 case post =>
  rintro c st' ⟨hst,r,rest,rfl,hd⟩;dsimp only;exact wpS_pure (q r st' hd hst)
 case step =>
  rintro k c st' _ hkt ⟨hst,out,ia,ib,mg,rfl,hm,hlt⟩;dsimp only;refine wpS_bind (wpS_mono (wpS_forRange
   (I:=fun j c st'=>sameSt st st'/\∃ out' ia' ib' ac bc,c=(none,out',ia',ib',ac,bc)/\MInv lt a b out' ia' ib'/\j+(ia+ib)<=ia'+ib')
   (Q:=fun c st'=>sameSt st st'/\((∃ r rest,c=(some r,rest)/\MDone lt (a.toList++b.toList) r.toList)\/∃ out' ia' ib' ac bc,c=(none,out',ia',ib',ac,bc)/\MInv lt a b out' ia' ib'/\ia+ib<ia'+ib')) ?step1 ?fin1 ⟨hst,out,ia,ib,0,0,rfl,hm,by omega⟩) ?post1)
  case fin1 =>
   rintro c st2 ⟨hst2,out',ia',ib',ac,bc,rfl,hm',hle⟩;have:=tot hm';omega
  case step1 =>
   rintro j c st2 _ hj ⟨hst2,out',ia',ib',ac,bc,rfl,hm',hle⟩;obtain⟨y,ey,ey'⟩:=zaD (a:=b) (i:=ib') hm'.hb;obtain⟨x,ex,ex'⟩:=zaD (a:=a) (i:=ia') (by have:=hm'.ha; omega);have Dx:=haD x (List.mem_of_getElem? ex');have Dy:=hbD y (List.mem_of_getElem? ey');have hk2:kindOf st2=kd:=hst2.1.trans hk;dsimp only;refine wpS_bind (zC ey (wpS_bind (zC ex (wpS_bind (O.ask y x st2 _ Dy Dx hk2 ?_)))));dsimp only;cases hlt2:lt y x with
   | true =>
    have ms:=hm'.stepB O haD hbD ha ex' ey' hlt2;simp only [if_true];refine wpS_bind (zC ey ?_);by_cases c3:ib'+1=b.size
    ·rw [if_pos (by simpa using c3)];exact wpS_pure ⟨hst2,.inl ⟨_,_,rfl,zc5 c3 ms⟩⟩
    ·rw [if_neg (by simpa using c3)];have hm2:MInv lt a b (out'.push y) ia' (ib'+1):=⟨ms,hm'.ha,by have:=hm'.hb; omega⟩;by_cases c4:bc+1≥mg
     ·rw [if_pos c4];exact wpS_pure ⟨hst2,.inr ⟨_,_,_,_,_,rfl,hm2,by omega⟩⟩
     ·rw [if_neg c4];exact wpS_pure ⟨hst2,_,_,_,_,_,rfl,hm2,by omega⟩
   | false =>
    have ms:=hm'.stepA O haD hbD hb ex' ey' hlt2;simp only [Bool.false_eq_true,if_false];refine wpS_bind (zC ex ?_);by_cases c3:ia'+1+1=a.size
    ·rw [if_pos (by simpa using c3)];exact wpS_pure ⟨hst2,.inl ⟨_,_,rfl,zdt hl c3 ms⟩⟩
    ·rw [if_neg (by simpa using c3)];have hm2:MInv lt a b (out'.push x) (ia'+1) ib':=⟨ms,by have:=hm'.ha; omega,hm'.hb⟩;by_cases c4:ac+1≥mg
     ·rw [if_pos c4];exact wpS_pure ⟨hst2,.inr ⟨_,_,_,_,_,rfl,hm2,by omega⟩⟩
     ·rw [if_neg c4];exact wpS_pure ⟨hst2,_,_,_,_,_,rfl,hm2,by omega⟩
  case post1 =>
   rintro c st2 ⟨hst2,hc⟩;rcases hc with ⟨r,rest,rfl,hd⟩ | ⟨out',ia',ib',ac,bc,rfl,hm',hle⟩
   ·dsimp only;exact wpS_pure ⟨hst2,_,_,rfl,hd⟩
   ·dsimp only;refine wpS_bind (wpS_lift (wpAny_rule ⟨rfl,?_⟩));refine wpS_bind (wpS_mono (wpS_forRange
     (I:=fun j c st'=>sameSt st st'/\∃ out2 ia2 ib2 mg2 ac2 bc2,c=(none,out2,ia2,ib2,mg2,ac2,bc2)/\MInv lt a b out2 ia2 ib2/\j+(ia'+ib')<=ia2+ib2)
     (Q:=fun c st'=>sameSt st st'/\((∃ r rest,c=(some r,rest)/\MDone lt (a.toList++b.toList) r.toList)\/∃ out2 ia2 ib2 mg2 ac2 bc2,c=(none,out2,ia2,ib2,mg2,ac2,bc2)/\MInv lt a b out2 ia2 ib2/\ia'+ib'<=ia2+ib2)) ?step2 ?fin2 ⟨hst2,out',ia',ib',_,_,_,rfl,hm',by omega⟩) ?post2)
    case fin2 =>
     rintro c st3 ⟨hst3,out2,ia2,ib2,mg2,ac2,bc2,rfl,hm2,hle2⟩;have:=tot hm2;omega
    case post2 =>
     rintro c st3 ⟨hst3,hc⟩;rcases hc with ⟨r,rest,rfl,hd⟩ | ⟨out2,ia2,ib2,mg2,ac2,bc2,rfl,hm2,hle2⟩
     ·dsimp only;exact wpS_pure ⟨hst3,_,_,rfl,hd⟩
     ·dsimp only;refine wpS_bind (wpS_modify (wpS_pure ⟨⟨hst3.1,hst3.2.1,hst3.2.2.1,hst3.2.2.2⟩,out2,ia2,ib2,_,rfl,hm2,by omega⟩))
    case step2 =>
     rintro j c st3 _ hj ⟨hst3,out2,ia2,ib2,mg2,ac2,bc2,rfl,hm2,hle2⟩;obtain⟨y,ey,ey'⟩:=zaD (a:=b) (i:=ib2) hm2.hb;have hia2:=hm2.ha;have hib2:=hm2.hb;have Dy:=hbD y (List.mem_of_getElem? ey');have aD:∀ j,j<a.size->∃ x,a[j]? = some x/\D x:=fun j hj=>by
      obtain⟨x,e,e'⟩:=zaD (a:=a) hj;exact⟨x,e,haD x (List.mem_of_getElem? e')⟩
     have bD:∀ j,j<b.size->∃ x,b[j]? = some x/\D x:=fun j hj=>by
      obtain⟨x,e,e'⟩:=zaD (a:=b) hj;exact⟨x,e,hbD x (List.mem_of_getElem? e')⟩
     -- what is told behind both ways of the first test
     dsimp only;have fin2:∀ (P:Prop) (_:Decidable P) (f g:StateT SortSt Sem (ForInStep (Option (Array Keyed)×Array Keyed×Nat×Nat×Nat×Nat×Nat))) (Q':ForInStep (Option (Array Keyed)×Array Keyed×Nat×Nat×Nat×Nat×Nat)->SortSt->Prop) (st':SortSt),wpS (model prog w) A E s f Q' st'->wpS (model prog w) A E s g Q' st'->wpS (model prog w) A E s (if P then f else g) Q' st':=fun P _ f g Q' st' h1 h2=>by
      split
      ·exact h1
      ·exact h2
     refine fin3 (C:=?C3) ?f3 ?g3 ?h3
     case f3=>intro h; generalize mg2 - 1=m0; revert m0; exact h
     case g3=>intro h; generalize mg2=m0; revert m0; exact h
     intro m0
     all_goals
      refine wpS_bind (wpS_modify ?_);refine wpS_bind (zC ey ?_);refine wpS_bind (gal O (hst3.1.trans hk) Dy (fun j h1 h2=>aD j (by omega)) (fun i j x z h1 h2 h3 e1 e2=>zaH O ha haD h2 (zak.mp e1) (zak.mp e2)) (by omega) fun k1 hk1 g1 g2=>?_);dsimp only;have hst4:sameSt st st3:=hst3
      -- behind the block of a
      have bl:MI lt (a.toList++b.toList) (out2++a.extract ia2 (ia2+k1)).toList (a.toList.drop (ia2+k1)) (b.toList.drop ib2):=zkY hm2.mi fun j x h1 h2 e z mz=>by
       have:=g1 j x h1 h2 (zak.mpr e);obtain⟨j2,hj2,ez⟩:=zaw mz;have l1:lt y x=false:=by simpa [bey] using this
       exact O.tr x y z (haD x (List.mem_of_getElem? e)) Dy (hbD z (List.mem_of_getElem? ez)) l1 (zaH O hb hbD hj2 ey' ez)
      have gt:∀ x∈a.toList.drop (ia2+k1),lt x y=false:=fun x mx=>by
       obtain⟨j2,hj2,ex⟩:=zaw mx;have hlt3:=(List.getElem?_eq_some_iff.mp ex).1;have:=g2 j2 x hj2 (by simp at hlt3; omega) (zak.mpr ex);have l1:lt y x=true:=by simpa [bey] using this
       exact O.asym y x Dy (haD x (List.mem_of_getElem? ex)) l1
      have ez0:k1=0->(out2++a.extract ia2 (ia2+k1))=out2:=fun z=>by subst z; rw [zd6,Array.append_empty]
      -- from here on: outA,iaA
      have go:∀ (outA:Array Keyed) (iaA:Nat) (mgA acA:Nat),MI lt (a.toList++b.toList) outA.toList (a.toList.drop iaA) (b.toList.drop ib2)->(∀ x∈a.toList.drop iaA,lt x y=false)->ia2<=iaA->iaA+1<a.size->True:=fun _ _ _ _ _ _ _ _=>trivial;by_cases c5:k1>0
      ·rw [if_pos c5];by_cases c6:ia2+k1+1=a.size
       ·rw [if_pos (by simpa using c6)];exact wpS_pure ⟨hst4,.inl ⟨_,_,rfl,zdt hl c6 bl⟩⟩
       rw [if_neg (by simpa using c6)];by_cases c7:ia2+k1=a.size
       ·rw [if_pos (by simpa using c7)];exact wpS_pure ⟨hst4,.inl ⟨_,_,rfl,znM c7 bl⟩⟩
       rw [if_neg (by simpa using c7)];refine wpS_bind (zC ey ?_);have mb:=zjA bl ey' gt;by_cases d1:ib2+1=b.size
       ·rw [if_pos (by simpa using d1)];exact wpS_pure ⟨hst4,.inl ⟨_,_,rfl,zc5 d1 mb⟩⟩
       rw [if_neg (by simpa using d1)];obtain⟨x,ex,ex'⟩:=zaD (a:=a) (i:=(ia2+k1)) (by omega);have Dx:=haD x (List.mem_of_getElem? ex');refine wpS_bind (zC ex ?_);refine wpS_bind (gal O (hst3.1.trans hk) Dx (fun j h1 h2=>bD j (by omega)) (fun i j x z h1 h2 h3 e1 e2=>zaH O hb hbD h2 (zak.mp e1) (zak.mp e2)) (by omega) fun k2 hk2 f1 f2=>?_);dsimp only;have bb:=zhg (k:=k2) mb fun j z h1 h2 e x2 mx2=>by
        have:=f1 j z h1 h2 (zak.mpr e);obtain⟨j2,hj2,ex2⟩:=zaw mx2;have Dz:=hbD z (List.mem_of_getElem? e);have l1:lt z x=true:=by simpa [bey] using this
        exact O.tr z x x2 Dz Dx (haD x2 (List.mem_of_getElem? ex2)) (O.asym z x Dz Dx l1) (zaH O ha haD hj2 ex' ex2)
       have gb:∀ z∈b.toList.drop (ib2+1+k2),lt z x=false:=fun z mz=>by
        obtain⟨j2,hj2,ez⟩:=zaw mz;have hlt3:=(List.getElem?_eq_some_iff.mp ez).1;have:=f2 j2 z hj2 (by simp at hlt3; omega) (zak.mpr ez);simpa [bey] using this
       by_cases d2:k2>0
       ·rw [if_pos d2];by_cases d3:ib2+1+k2=b.size
        ·rw [if_pos (by simpa using d3)];exact wpS_pure ⟨hst4,.inl ⟨_,_,rfl,zc5 d3 bb⟩⟩
        rw [if_neg (by simpa using d3)];refine wpS_bind (zC ex ?_);have mf:=zeE bb ex' gb;by_cases d4:(ia2+k1)+1+1=a.size
        ·rw [if_pos (by simpa using d4)];exact wpS_pure ⟨hst4,.inl ⟨_,_,rfl,zdt hl d4 mf⟩⟩
        rw [if_neg (by simpa using d4)];refine fin2 _ _ _ _ _ _ ?_ ?_
        ·exact wpS_pure ⟨hst4,.inr ⟨_,_,_,_,_,_,rfl,⟨mf,by omega,by omega⟩,by omega⟩⟩
        ·exact wpS_pure ⟨hst4,_,_,_,_,_,_,rfl,⟨mf,by omega,by omega⟩,by omega⟩
       ·rw [if_neg d2];have k0':k2=0:=by omega
        subst k0';have ee:∀ o:Array Keyed,o++b.extract (ib2+1) (ib2+1+0)=o:=fun o=>by rw [zd6,Array.append_empty]
        rw [ee,Nat.add_zero] at bb;rw [Nat.add_zero] at gb;refine wpS_bind (zC ex ?_);have mf:=zeE bb ex' gb;by_cases d4:(ia2+k1)+1+1=a.size
        ·rw [if_pos (by simpa using d4)];exact wpS_pure ⟨hst4,.inl ⟨_,_,rfl,zdt hl d4 mf⟩⟩
        rw [if_neg (by simpa using d4)];refine fin2 _ _ _ _ _ _ ?_ ?_
        ·exact wpS_pure ⟨hst4,.inr ⟨_,_,_,_,_,_,rfl,⟨mf,by omega,by omega⟩,by omega⟩⟩
        ·exact wpS_pure ⟨hst4,_,_,_,_,_,_,rfl,⟨mf,by omega,by omega⟩,by omega⟩
      ·rw [if_neg c5];have k0:k1=0:=by omega
       subst k0;rw [ez0 rfl,Nat.add_zero] at bl;rw [Nat.add_zero] at gt;refine wpS_bind (zC ey ?_);have mb:=zjA bl ey' gt;by_cases d1:ib2+1=b.size
       ·rw [if_pos (by simpa using d1)];exact wpS_pure ⟨hst4,.inl ⟨_,_,rfl,zc5 d1 mb⟩⟩
       rw [if_neg (by simpa using d1)];obtain⟨x,ex,ex'⟩:=zaD (a:=a) (i:=ia2) (by omega);have Dx:=haD x (List.mem_of_getElem? ex');refine wpS_bind (zC ex ?_);refine wpS_bind (gal O (hst3.1.trans hk) Dx (fun j h1 h2=>bD j (by omega)) (fun i j x z h1 h2 h3 e1 e2=>zaH O hb hbD h2 (zak.mp e1) (zak.mp e2)) (by omega) fun k2 hk2 f1 f2=>?_);dsimp only;have bb:=zhg (k:=k2) mb fun j z h1 h2 e x2 mx2=>by
        have:=f1 j z h1 h2 (zak.mpr e);obtain⟨j2,hj2,ex2⟩:=zaw mx2;have Dz:=hbD z (List.mem_of_getElem? e);have l1:lt z x=true:=by simpa [bey] using this
        exact O.tr z x x2 Dz Dx (haD x2 (List.mem_of_getElem? ex2)) (O.asym z x Dz Dx l1) (zaH O ha haD hj2 ex' ex2)
       have gb:∀ z∈b.toList.drop (ib2+1+k2),lt z x=false:=fun z mz=>by
        obtain⟨j2,hj2,ez⟩:=zaw mz;have hlt3:=(List.getElem?_eq_some_iff.mp ez).1;have:=f2 j2 z hj2 (by simp at hlt3; omega) (zak.mpr ez);simpa [bey] using this
       by_cases d2:k2>0
       ·rw [if_pos d2];by_cases d3:ib2+1+k2=b.size
        ·rw [if_pos (by simpa using d3)];exact wpS_pure ⟨hst4,.inl ⟨_,_,rfl,zc5 d3 bb⟩⟩
        rw [if_neg (by simpa using d3)];refine wpS_bind (zC ex ?_);have mf:=zeE bb ex' gb;by_cases d4:ia2+1+1=a.size
        ·rw [if_pos (by simpa using d4)];exact wpS_pure ⟨hst4,.inl ⟨_,_,rfl,zdt hl d4 mf⟩⟩
        rw [if_neg (by simpa using d4)];refine fin2 _ _ _ _ _ _ ?_ ?_
        ·exact wpS_pure ⟨hst4,.inr ⟨_,_,_,_,_,_,rfl,⟨mf,by omega,by omega⟩,by omega⟩⟩
        ·exact wpS_pure ⟨hst4,_,_,_,_,_,_,rfl,⟨mf,by omega,by omega⟩,by omega⟩
       ·rw [if_neg d2];have k0':k2=0:=by omega
        subst k0';have ee:∀ o:Array Keyed,o++b.extract (ib2+1) (ib2+1+0)=o:=fun o=>by rw [zd6,Array.append_empty]
        rw [ee,Nat.add_zero] at bb;rw [Nat.add_zero] at gb;refine wpS_bind (zC ex ?_);have mf:=zeE bb ex' gb;by_cases d4:ia2+1+1=a.size
        ·rw [if_pos (by simpa using d4)];exact wpS_pure ⟨hst4,.inl ⟨_,_,rfl,zdt hl d4 mf⟩⟩
        rw [if_neg (by simpa using d4)];refine fin2 _ _ _ _ _ _ ?_ ?_
        ·exact wpS_pure ⟨hst4,.inr ⟨_,_,_,_,_,_,rfl,⟨mf,by omega,by omega⟩,by omega⟩⟩
        ·exact wpS_pure ⟨hst4,_,_,_,_,_,_,rfl,⟨mf,by omega,by omega⟩,by omega⟩
def flt(lt:Keyed->Keyed->Bool):Keyed->Keyed->Bool:=fun x y=>lt y x
theorem MDone.rev{L0 l:List Keyed}(h:MDone (flt lt) L0 l):MDone lt L0 l.reverse:=by
 refine⟨(List.reverse_perm l).trans h.1,?_⟩;unfold SrtL;rw [List.pairwise_reverse];exact h.2
theorem zfY{l:List Keyed}{i:Nat}{x:Keyed}(h:l[i]? = some x):(l.take (i+1)).reverse=x :: (l.take i).reverse:=by
 rw [List.take_add_one,h];simp
theorem zax{l:List Keyed}{i:Nat}{y:Keyed}(h:y∈(l.take i).reverse):∃ j,j<i/\l[j]? = some y:=by
 obtain⟨j,hj⟩:=List.mem_iff_getElem?.mp (List.mem_reverse.mp h);rw [List.getElem?_take] at hj;split at hj
 ·exact⟨j,by assumption,hj⟩
 ·cases hj
theorem zcb(a:Array Keyed)(n:Nat):(a.extract 0 n).toList=a.toList.take n:=by
 rw [Array.toList_extract,List.extract_eq_take_drop];simp
theorem zlI{l:List Keyed}(h:SrtL lt l)(n:Nat):SrtL (flt lt) (l.take n).reverse:=by
 unfold SrtL;rw [List.pairwise_reverse];exact List.Pairwise.sublist (List.take_sublist n l) h
section
variable {a b out:Array Keyed} {na nb k:Nat} {L0:List Keyed}
theorem zfV(m:MI (flt lt) L0 out.toList (a.toList.take (na+1)).reverse (b.toList.take nb).reverse){x:Keyed}(hx:a.toList[na]? = some x)(h:∀ y∈(b.toList.take nb).reverse,lt x y=false):MI (flt lt) L0 (out.push x).toList (a.toList.take na).reverse (b.toList.take nb).reverse:=by
 rw [zfY hx] at m;have:=m.takeA h;simpa using this
theorem ziw(m:MI (flt lt) L0 out.toList (a.toList.take na).reverse (b.toList.take (nb+1)).reverse){y:Keyed}(hy:b.toList[nb]? = some y)(h:∀ x∈(a.toList.take na).reverse,lt y x=false):MI (flt lt) L0 (out.push y).toList (a.toList.take na).reverse (b.toList.take nb).reverse:=by
 rw [zfY hy] at m;have:=m.takeB h;simpa using this
theorem zdA{n:Nat}(hn:n=na+1)(m:MI (flt lt) L0 out.toList (a.toList.take n).reverse (b.toList.take nb).reverse){x:Keyed}(hx:a.toList[na]? = some x)(h:∀ y∈(b.toList.take nb).reverse,lt x y=false):MI (flt lt) L0 (out.push x).toList (a.toList.take na).reverse (b.toList.take nb).reverse:=by
 subst hn;exact zfV m hx h
theorem zg5{n:Nat}(hn:n=nb+1)(m:MI (flt lt) L0 out.toList (a.toList.take na).reverse (b.toList.take n).reverse){y:Keyed}(hy:b.toList[nb]? = some y)(h:∀ x∈(a.toList.take na).reverse,lt y x=false):MI (flt lt) L0 (out.push y).toList (a.toList.take na).reverse (b.toList.take nb).reverse:=by
 subst hn;exact ziw m hy h
theorem zfL{l:List Keyed}{i n:Nat}(h:i<=n):(l.take n).reverse=((l.drop i).take (n - i)).reverse++(l.take i).reverse:=by
 rw [<- List.reverse_append];congr 1;have:=List.take_add (l:=l) (i:=i) (j:=n - i);rw [show i+(n - i)=n by omega] at this;exact this
theorem zkt(a:Array Keyed){i n:Nat}(h:i<=n):(a.extract i n).reverse.toList=((a.toList.drop i).take (n - i)).reverse:=by
 rw [Array.toList_reverse,Array.toList_extract,List.extract_eq_take_drop]
theorem zlL(m:MI (flt lt) L0 out.toList (a.toList.take na).reverse (b.toList.take nb).reverse)(hk:k<=na)(h:∀ j x,k<=j->j<na->a.toList[j]? = some x->∀ y∈(b.toList.take nb).reverse,lt x y=false):MI (flt lt) L0 (out++(a.extract k na).reverse).toList (a.toList.take k).reverse (b.toList.take nb).reverse:=by
 rw [Array.toList_append,zkt a hk];rw [zfL hk] at m;refine MI.takesA m fun x mx y my=>?_;obtain⟨j,h1,h2,e⟩:=zbx (List.mem_reverse.mp mx);exact h j x h1 (by omega) e y my
theorem zgP(m:MI (flt lt) L0 out.toList (a.toList.take na).reverse (b.toList.take nb).reverse)(hk:k<=nb)(h:∀ j y,k<=j->j<nb->b.toList[j]? = some y->∀ x∈(a.toList.take na).reverse,lt y x=false):MI (flt lt) L0 (out++(b.extract k nb).reverse).toList (a.toList.take na).reverse (b.toList.take k).reverse:=by
 rw [Array.toList_append,zkt b hk];rw [zfL hk] at m;refine MI.takesB m fun x mx y my=>?_;obtain⟨j,h1,h2,e⟩:=zbx (List.mem_reverse.mp mx);exact h j x h1 (by omega) e y my
theorem zcw(h0:na=0)(m:MI (flt lt) L0 out.toList (a.toList.take na).reverse (b.toList.take nb).reverse):MDone lt L0 (a.extract 0 na++b.extract 0 nb++out.reverse).toList:=by
 subst h0;have h2:MI (flt lt) L0 (out.toList++(b.toList.take nb).reverse) [] []:=MI.takesB (B:=[]) (by simpa using m) (fun y my x mx=>by cases mx);have:=h2.doneA.rev;rw [Array.toList_append,Array.toList_append,zcb,zcb,Array.toList_reverse];simpa using this
theorem zi4(h0:nb=0)(m:MI (flt lt) L0 out.toList (a.toList.take na).reverse (b.toList.take nb).reverse):MDone lt L0 (a.extract 0 na++b.extract 0 nb++out.reverse).toList:=by
 subst h0;have h1:MI (flt lt) L0 out.toList (a.toList.take na).reverse []:=by simpa using m
 have:=h1.doneA.rev;rw [Array.toList_append,Array.toList_append,zcb,zcb,Array.toList_reverse];simpa using this
theorem zc9(hf:∀ y,b[0]? = some y->∀ x∈a.toList,lt x y=false)(h1:nb=1)(hb1:1<=b.size)(m:MI (flt lt) L0 out.toList (a.toList.take na).reverse (b.toList.take nb).reverse):MDone lt L0 (b.extract 0 nb++a.extract 0 na++out.reverse).toList:=by
 subst h1;obtain⟨y,e1,e2⟩:=zaD (a:=b) (i:=0) (by omega);have ed:(b.toList.take (0+1)).reverse=[y]:=by rw [zfY e2]; simp
 rw [show (1:Nat)=0+1 from rfl,ed] at m;have h2:MI (flt lt) L0 (out.toList++(a.toList.take na).reverse) [] [y]:=MI.takesA (A:=[]) (by simpa using m) fun x mx z mz=>by
  rw [List.mem_singleton.mp mz];exact hf y e1 x (List.mem_of_mem_take (List.mem_reverse.mp mx))
 have h3:MI (flt lt) L0 (out.toList++(a.toList.take na).reverse++[y]) [] []:=MI.takesB (B:=[]) (by simpa using h2) (fun y my x mx=>by cases mx);have:=h3.doneA.rev;have ee:b.toList.take 1=[y]:=by have:=congrArg List.reverse ed; simpa using this
 rw [Array.toList_append,Array.toList_append,zcb,zcb,Array.toList_reverse,ee];simpa using this
end
structure HInv(lt:Keyed->Keyed->Bool)(a b out:Array Keyed)(na nb:Nat):Prop where
 mi:MI (flt lt) (a.toList++b.toList) out.toList (a.toList.take na).reverse (b.toList.take nb).reverse
 a0:0<na
 a1:na<=a.size
 b0:1<nb
 b1:nb<=b.size
theorem zhV(O:LtOk prog w A E s kd D lt){a b:Array Keyed}{Q:Array Keyed->SortSt->Prop}{st:SortSt}(hk:kindOf st=kd)(haD:∀ x∈a.toList,D x)(hbD:∀ x∈b.toList,D x)(ha:SrtL lt a.toList)(hb:SrtL lt b.toList)(ha1:1<=a.size)(hb1:1<=b.size)
  (h0:∀ y,b[0]? = some y->∀ x∈a.toList,lt x y=false) (hl:∀ x,a[a.size - 1]? = some x->∀ y∈b.toList,lt x y=false)
  (q:∀ (out:Array Keyed) st',MDone lt (a.toList++b.toList) out.toList->sameSt st st'->Q out st'):wpS (model prog w) A E s (zne a b) Q st:=by
 refine wpS_bind (wpS_lift (wpAny_rule ⟨rfl,?_⟩));obtain⟨x0,ex0,ex0'⟩:=zaD (a:=a) (i:=a.size - 1) (by omega);refine wpS_bind (zC ex0 ?_);dsimp only;have fin2:∀ {τ:Type} (P:Prop) (_:Decidable P) (f g:StateT SortSt Sem τ) (Q':τ->SortSt->Prop) (st':SortSt),wpS (model prog w) A E s f Q' st'->wpS (model prog w) A E s g Q' st'->wpS (model prog w) A E s (if P then f else g) Q' st':=fun P _ f g Q' st' h1 h2=>by
  split
  ·exact h1
  ·exact h2
 have ta:a.toList.take a.size=a.toList:=List.take_of_length_le (by simp);have tb:b.toList.take b.size=b.toList:=List.take_of_length_le (by simp);have m0:MI (flt lt) (a.toList++b.toList) (#[]:Array Keyed).toList (a.toList.take a.size).reverse (b.toList.take b.size).reverse:=by
  refine⟨?_,List.Pairwise.nil,(fun x m=>by cases m),zlI ha _,zlI hb _⟩;rw [ta,tb];exact(List.reverse_perm _).append (List.reverse_perm _)
 have m1:MI (flt lt) (a.toList++b.toList) (#[x0]:Array Keyed).toList (a.toList.take (a.size - 1)).reverse (b.toList.take b.size).reverse:=by
  have m2:=m0;rw [show a.size=a.size - 1+1 by omega] at m2;have:=zfV m2 ex0' fun y my=>hl x0 ex0 y (List.mem_of_mem_take (List.mem_reverse.mp my));simpa using this
 by_cases c1:a.size - 1=0
 ·rw [if_pos (by simpa using c1)];exact wpS_pure (q _ _ (zcw c1 m1) sameSt.rfl')
 rw [if_neg (by simpa using c1)];by_cases c2:b.size=1
 ·rw [if_pos (by simpa using c2)];exact wpS_pure (q _ _ (zc9 h0 c2 hb1 m1) sameSt.rfl')
 rw [if_neg (by simpa using c2)];refine wpS_bind (wpS_get ?_);refine wpS_bind (wpS_mono (wpS_forRange (a:=0)
  (I:=fun k c st'=>sameSt st st'/\∃ out na nb mg,c=(none,na,nb,out,mg)/\HInv lt a b out na nb/\na+nb+k<a.size+b.size)
  (Q:=fun c st'=>sameSt st st'/\∃ (r:Array Keyed),∃ rest,c=(some r,rest)/\MDone lt (a.toList++b.toList) r.toList) ?step ?fin ⟨sameSt.rfl',#[x0],a.size - 1,b.size,_,rfl,⟨m1,by omega,by omega,by omega,by omega⟩,by omega⟩) ?post)
 case fin =>
  rintro c st' ⟨hst,out,na,nb,mg,rfl,hm,hlt⟩;omega
 case post =>
  rintro c st' ⟨hst,r,rest,rfl,hd⟩;dsimp only;exact wpS_pure (q r st' hd hst)
 case step =>
  rintro k c st' _ hkt ⟨hst,out,na,nb,mg,rfl,hm,hlt⟩;dsimp only;refine wpS_bind (wpS_mono (wpS_forRange (a:=0)
   (I:=fun j c st'=>sameSt st st'/\∃ out' na' nb' ac bc,c=(none,na',nb',out',ac,bc)/\HInv lt a b out' na' nb'/\na'+nb'+j<=na+nb)
   (Q:=fun c st'=>sameSt st st'/\((∃ (r:Array Keyed),∃ rest,c=(some r,rest)/\MDone lt (a.toList++b.toList) r.toList)\/∃ out' na' nb' ac bc,c=(none,na',nb',out',ac,bc)/\HInv lt a b out' na' nb'/\na'+nb'<na+nb)) ?step1 ?fin1 ⟨hst,out,na,nb,0,0,rfl,hm,by omega⟩) ?post1)
  case fin1 =>
   rintro c st2 ⟨hst2,out',na',nb',ac,bc,rfl,hm',hle⟩;have:=hm'.a0;omega
  case step1 =>
   rintro j c st2 _ hj ⟨hst2,out',na',nb',ac,bc,rfl,hm',hle⟩;have z1:=hm'.a0;have z2:=hm'.a1;have z3:=hm'.b0;have z4:=hm'.b1;obtain⟨y,ey,ey'⟩:=zaD (a:=b) (i:=nb' - 1) (by omega);obtain⟨x,ex,ex'⟩:=zaD (a:=a) (i:=na' - 1) (by omega);have Dx:=haD x (List.mem_of_getElem? ex');have Dy:=hbD y (List.mem_of_getElem? ey');have hk2:kindOf st2=kd:=hst2.1.trans hk;have mm:=hm'.mi;dsimp only;refine wpS_bind (zC ey (wpS_bind (zC ex (wpS_bind (O.ask y x st2 _ Dy Dx hk2 ?_)))));dsimp only;cases hlt2:lt y x with
   | true =>
    have ms:MI (flt lt) (a.toList++b.toList) (out'.push x).toList (a.toList.take (na' - 1)).reverse (b.toList.take nb').reverse:=by
     rw [show na'=na' - 1+1 by omega] at mm;exact zfV mm ex' fun z mz=>by
      obtain⟨j2,hj2,ez⟩:=zax mz;exact O.tr z y x (hbD z (List.mem_of_getElem? ez)) Dy Dx (zaH O hb hbD (by omega) ez ey') (O.asym y x Dy Dx hlt2)
    simp only [if_true];refine wpS_bind (zC ex ?_);by_cases c3:na' - 1=0
    ·rw [if_pos (by simpa using c3)];exact wpS_pure ⟨hst2,.inl ⟨_,_,rfl,zcw c3 ms⟩⟩
    ·rw [if_neg (by simpa using c3)];have hm2:HInv lt a b (out'.push x) (na' - 1) nb':=⟨ms,by omega,by omega,z3,z4⟩;refine fin2 _ _ _ _ _ _ ?_ ?_
     ·exact wpS_pure ⟨hst2,.inr ⟨_,_,_,_,_,rfl,hm2,by omega⟩⟩
     ·exact wpS_pure ⟨hst2,_,_,_,_,_,rfl,hm2,by omega⟩
   | false =>
    have ms:MI (flt lt) (a.toList++b.toList) (out'.push y).toList (a.toList.take na').reverse (b.toList.take (nb' - 1)).reverse:=by
     rw [show nb'=nb' - 1+1 by omega] at mm;exact ziw mm ey' fun z mz=>by
      obtain⟨j2,hj2,ez⟩:=zax mz;exact O.tr z x y (haD z (List.mem_of_getElem? ez)) Dx Dy (zaH O ha haD (by omega) ez ex') hlt2
    simp only [Bool.false_eq_true,if_false];refine wpS_bind (zC ey ?_);by_cases c3:nb' - 1=1
    ·rw [if_pos (by simpa using c3)];exact wpS_pure ⟨hst2,.inl ⟨_,_,rfl,zc9 h0 c3 hb1 ms⟩⟩
    ·rw [if_neg (by simpa using c3)];have hm2:HInv lt a b (out'.push y) na' (nb' - 1):=⟨ms,z1,z2,by omega,by omega⟩;refine fin2 _ _ _ _ _ _ ?_ ?_
     ·exact wpS_pure ⟨hst2,.inr ⟨_,_,_,_,_,rfl,hm2,by omega⟩⟩
     ·exact wpS_pure ⟨hst2,_,_,_,_,_,rfl,hm2,by omega⟩
  case post1 =>
   rintro c st2 ⟨hst2,hc⟩;rcases hc with ⟨r,rest,rfl,hd⟩ | ⟨out',na',nb',ac,bc,rfl,hm',hle⟩
   ·dsimp only;exact wpS_pure ⟨hst2,_,_,rfl,hd⟩
   ·dsimp only;refine wpS_bind (wpS_lift (wpAny_rule ⟨rfl,?_⟩));refine wpS_bind (wpS_mono (wpS_forRange (a:=0)
     (I:=fun j c st'=>sameSt st st'/\∃ out2 na2 nb2 mg2 ac2 bc2,c=(none,na2,nb2,out2,mg2,ac2,bc2)/\HInv lt a b out2 na2 nb2/\na2+nb2+j<=na'+nb')
     (Q:=fun c st'=>sameSt st st'/\((∃ (r:Array Keyed),∃ rest,c=(some r,rest)/\MDone lt (a.toList++b.toList) r.toList)\/∃ out2 na2 nb2 mg2 ac2 bc2,c=(none,na2,nb2,out2,mg2,ac2,bc2)/\HInv lt a b out2 na2 nb2/\na2+nb2<=na'+nb')) ?step2 ?fin2 ⟨hst2,out',na',nb',_,_,_,rfl,hm',by omega⟩) ?post2)
    case fin2 =>
     rintro c st3 ⟨hst3,out2,na2,nb2,mg2,ac2,bc2,rfl,hm2,hle2⟩;have:=hm2.a0;have:=hm'.a1;have:=hm'.b1;omega
    case post2 =>
     rintro c st3 ⟨hst3,hc⟩;rcases hc with ⟨r,rest,rfl,hd⟩ | ⟨out2,na2,nb2,mg2,ac2,bc2,rfl,hm2,hle2⟩
     ·dsimp only;exact wpS_pure ⟨hst3,_,_,rfl,hd⟩
     ·dsimp only;refine wpS_bind (wpS_modify (wpS_pure ⟨⟨hst3.1,hst3.2.1,hst3.2.2.1,hst3.2.2.2⟩,out2,na2,nb2,_,rfl,hm2,by omega⟩))
    case step2 =>
     rintro j c st3 _ hj ⟨hst3,out2,na2,nb2,mg2,ac2,bc2,rfl,hm2,hle2⟩;have z1:=hm2.a0;have z2:=hm2.a1;have z3:=hm2.b0;have z4:=hm2.b1;obtain⟨y,ey,ey'⟩:=zaD (a:=b) (i:=nb2 - 1) (by omega);have Dy:=hbD y (List.mem_of_getElem? ey');have aD:∀ j,j<a.size->∃ x,a[j]? = some x/\D x:=fun j hj=>by
      obtain⟨x,e,e'⟩:=zaD (a:=a) hj;exact⟨x,e,haD x (List.mem_of_getElem? e')⟩
     have bD:∀ j,j<b.size->∃ x,b[j]? = some x/\D x:=fun j hj=>by
      obtain⟨x,e,e'⟩:=zaD (a:=b) hj;exact⟨x,e,hbD x (List.mem_of_getElem? e')⟩
     dsimp only;refine fin3 (C:=?C3) ?f3 ?g3 ?h3
     case f3=>intro h; generalize mg2 - 1=m0; revert m0; exact h
     case g3=>intro h; generalize mg2=m0; revert m0; exact h
     intro m0
     all_goals
      refine wpS_bind (wpS_modify ?_);refine wpS_bind (zC ey ?_);refine wpS_bind (gal O (hst3.1.trans hk) Dy (fun j h1 h2=>aD j (by omega)) (fun i j x z h1 h2 h3 e1 e2=>zaH O ha haD h2 (zak.mp e1) (zak.mp e2)) (by omega) fun k1 hk1 g1 g2=>?_);dsimp only;have hst4:sameSt st st3:=hst3;have bl:MI (flt lt) (a.toList++b.toList) (out2++(a.extract k1 na2).reverse).toList (a.toList.take k1).reverse (b.toList.take nb2).reverse:=zlL hm2.mi hk1 fun j x h1 h2 e z mz=>by
       have:=g2 j x (by omega) (by omega) (zak.mpr e);obtain⟨j2,hj2,ez⟩:=zax mz;have Dx:=haD x (List.mem_of_getElem? e);have l1:lt y x=true:=by simpa [bey] using this
       exact O.tr z y x (hbD z (List.mem_of_getElem? ez)) Dy Dx (zaH O hb hbD (by omega) ez ey') (O.asym y x Dy Dx l1)
      have gt:∀ x∈(a.toList.take k1).reverse,lt y x=false:=fun x mx=>by
       obtain⟨j2,hj2,ex⟩:=zax mx;have:=g1 j2 x (by omega) (by omega) (zak.mpr ex);simpa [bey] using this
      by_cases c5:na2 - k1>0
      ·rw [if_pos c5];by_cases c6:k1=0
       ·rw [if_pos (by simpa using c6)];exact wpS_pure ⟨hst4,.inl ⟨_,_,rfl,zcw c6 bl⟩⟩
       rw [if_neg (by simpa using c6)];refine wpS_bind (zC ey ?_);have mb:MI (flt lt) (a.toList++b.toList) ((out2++(a.extract k1 na2).reverse).push y).toList (a.toList.take k1).reverse (b.toList.take (nb2 - 1)).reverse:=zg5 (by omega) bl ey' gt;by_cases d1:nb2 - 1=1
       ·rw [if_pos (by simpa using d1)];exact wpS_pure ⟨hst4,.inl ⟨_,_,rfl,zc9 h0 d1 hb1 mb⟩⟩
       rw [if_neg (by simpa using d1)];obtain⟨x,ex,ex'⟩:=zaD (a:=a) (i:=k1 - 1) (by omega);have Dx:=haD x (List.mem_of_getElem? ex');refine wpS_bind (zC ex ?_);refine wpS_bind (gal O (hst3.1.trans hk) Dx (fun j h1 h2=>bD j (by omega)) (fun i j x z h1 h2 h3 e1 e2=>zaH O hb hbD h2 (zak.mp e1) (zak.mp e2)) (by omega) fun k2 hk2 f1 f2=>?_);dsimp only;have bb:=zgP (k:=k2) mb hk2 fun j z h1 h2 e x2 mx2=>by
        have:=f2 j z (by omega) (by omega) (zak.mpr e);obtain⟨j2,hj2,ex2⟩:=zax mx2;have Dz:=hbD z (List.mem_of_getElem? e);have l1:lt z x=false:=by simpa [bey] using this
        exact O.tr x2 x z (haD x2 (List.mem_of_getElem? ex2)) Dx Dz (zaH O ha haD (by omega) ex2 ex') l1
       have gb:∀ z∈(b.toList.take k2).reverse,lt x z=false:=fun z mz=>by
        obtain⟨j2,hj2,ez⟩:=zax mz;have:=f1 j2 z (by omega) (by omega) (zak.mpr ez);have l1:lt z x=true:=by simpa [bey] using this
        exact O.asym z x (hbD z (List.mem_of_getElem? ez)) Dx l1
       by_cases d2:nb2 - 1 - k2>0
       ·rw [if_pos d2];by_cases d3:k2=1
        ·rw [if_pos (by simpa using d3)];exact wpS_pure ⟨hst4,.inl ⟨_,_,rfl,zc9 h0 d3 hb1 bb⟩⟩
        rw [if_neg (by simpa using d3)];by_cases d5:k2=0
        ·rw [if_pos (by simpa using d5)];exact wpS_pure ⟨hst4,.inl ⟨_,_,rfl,zi4 d5 bb⟩⟩
        rw [if_neg (by simpa using d5)];refine wpS_bind (zC ex ?_);have mf:MI (flt lt) (a.toList++b.toList) (((out2++(a.extract k1 na2).reverse).push y++(b.extract k2 (nb2 - 1)).reverse).push x).toList (a.toList.take (k1 - 1)).reverse (b.toList.take k2).reverse:=zdA (by omega) bb ex' gb;by_cases d4:k1 - 1=0
        ·rw [if_pos (by simpa using d4)];exact wpS_pure ⟨hst4,.inl ⟨_,_,rfl,zcw d4 mf⟩⟩
        rw [if_neg (by simpa using d4)];refine fin2 _ _ _ _ _ _ ?_ ?_
        ·exact wpS_pure ⟨hst4,.inr ⟨_,_,_,_,_,_,rfl,⟨mf,by omega,by omega,by omega,by omega⟩,by omega⟩⟩
        ·exact wpS_pure ⟨hst4,_,_,_,_,_,_,rfl,⟨mf,by omega,by omega,by omega,by omega⟩,by omega⟩
       ·rw [if_neg d2];have k0':k2=nb2 - 1:=by omega
        subst k0';have ee:∀ o:Array Keyed,o++(b.extract (nb2 - 1) (nb2 - 1)).reverse=o:=fun o=>by
         have:b.extract (nb2 - 1) (nb2 - 1+0) = #[]:=zd6 b _;rw [Nat.add_zero] at this;rw [this];simp
        rw [ee] at bb;refine wpS_bind (zC ex ?_);have mf:MI (flt lt) (a.toList++b.toList) (((out2++(a.extract k1 na2).reverse).push y).push x).toList (a.toList.take (k1 - 1)).reverse (b.toList.take (nb2 - 1)).reverse:=zdA (by omega) bb ex' gb;by_cases d4:k1 - 1=0
        ·rw [if_pos (by simpa using d4)];exact wpS_pure ⟨hst4,.inl ⟨_,_,rfl,zcw d4 mf⟩⟩
        rw [if_neg (by simpa using d4)];refine fin2 _ _ _ _ _ _ ?_ ?_
        ·exact wpS_pure ⟨hst4,.inr ⟨_,_,_,_,_,_,rfl,⟨mf,by omega,by omega,by omega,by omega⟩,by omega⟩⟩
        ·exact wpS_pure ⟨hst4,_,_,_,_,_,_,rfl,⟨mf,by omega,by omega,by omega,by omega⟩,by omega⟩
      ·rw [if_neg c5];have k0:k1=na2:=by omega
       subst k0;have ez0:∀ o:Array Keyed,o++(a.extract k1 k1).reverse=o:=fun o=>by
        have:a.extract k1 (k1+0) = #[]:=zd6 a k1;rw [Nat.add_zero] at this;rw [this];simp
       rw [ez0] at bl;refine wpS_bind (zC ey ?_);have mb:MI (flt lt) (a.toList++b.toList) (out2.push y).toList (a.toList.take k1).reverse (b.toList.take (nb2 - 1)).reverse:=zg5 (by omega) bl ey' gt;by_cases d1:nb2 - 1=1
       ·rw [if_pos (by simpa using d1)];exact wpS_pure ⟨hst4,.inl ⟨_,_,rfl,zc9 h0 d1 hb1 mb⟩⟩
       rw [if_neg (by simpa using d1)];obtain⟨x,ex,ex'⟩:=zaD (a:=a) (i:=k1 - 1) (by omega);have Dx:=haD x (List.mem_of_getElem? ex');refine wpS_bind (zC ex ?_);refine wpS_bind (gal O (hst3.1.trans hk) Dx (fun j h1 h2=>bD j (by omega)) (fun i j x z h1 h2 h3 e1 e2=>zaH O hb hbD h2 (zak.mp e1) (zak.mp e2)) (by omega) fun k2 hk2 f1 f2=>?_);dsimp only;have bb:=zgP (k:=k2) mb hk2 fun j z h1 h2 e x2 mx2=>by
        have:=f2 j z (by omega) (by omega) (zak.mpr e);obtain⟨j2,hj2,ex2⟩:=zax mx2;have Dz:=hbD z (List.mem_of_getElem? e);have l1:lt z x=false:=by simpa [bey] using this
        exact O.tr x2 x z (haD x2 (List.mem_of_getElem? ex2)) Dx Dz (zaH O ha haD (by omega) ex2 ex') l1
       have gb:∀ z∈(b.toList.take k2).reverse,lt x z=false:=fun z mz=>by
        obtain⟨j2,hj2,ez⟩:=zax mz;have:=f1 j2 z (by omega) (by omega) (zak.mpr ez);have l1:lt z x=true:=by simpa [bey] using this
        exact O.asym z x (hbD z (List.mem_of_getElem? ez)) Dx l1
       by_cases d2:nb2 - 1 - k2>0
       ·rw [if_pos d2];by_cases d3:k2=1
        ·rw [if_pos (by simpa using d3)];exact wpS_pure ⟨hst4,.inl ⟨_,_,rfl,zc9 h0 d3 hb1 bb⟩⟩
        rw [if_neg (by simpa using d3)];by_cases d5:k2=0
        ·rw [if_pos (by simpa using d5)];exact wpS_pure ⟨hst4,.inl ⟨_,_,rfl,zi4 d5 bb⟩⟩
        rw [if_neg (by simpa using d5)];refine wpS_bind (zC ex ?_);have mf:MI (flt lt) (a.toList++b.toList) ((out2.push y++(b.extract k2 (nb2 - 1)).reverse).push x).toList (a.toList.take (k1 - 1)).reverse (b.toList.take k2).reverse:=zdA (by omega) bb ex' gb;by_cases d4:k1 - 1=0
        ·rw [if_pos (by simpa using d4)];exact wpS_pure ⟨hst4,.inl ⟨_,_,rfl,zcw d4 mf⟩⟩
        rw [if_neg (by simpa using d4)];refine fin2 _ _ _ _ _ _ ?_ ?_
        ·exact wpS_pure ⟨hst4,.inr ⟨_,_,_,_,_,_,rfl,⟨mf,by omega,by omega,by omega,by omega⟩,by omega⟩⟩
        ·exact wpS_pure ⟨hst4,_,_,_,_,_,_,rfl,⟨mf,by omega,by omega,by omega,by omega⟩,by omega⟩
       ·rw [if_neg d2];have k0':k2=nb2 - 1:=by omega
        subst k0';have ee:∀ o:Array Keyed,o++(b.extract (nb2 - 1) (nb2 - 1)).reverse=o:=fun o=>by
         have:b.extract (nb2 - 1) (nb2 - 1+0) = #[]:=zd6 b _;rw [Nat.add_zero] at this;rw [this];simp
        rw [ee] at bb;refine wpS_bind (zC ex ?_);have mf:MI (flt lt) (a.toList++b.toList) ((out2.push y).push x).toList (a.toList.take (k1 - 1)).reverse (b.toList.take (nb2 - 1)).reverse:=zdA (by omega) bb ex' gb;by_cases d4:k1 - 1=0
        ·rw [if_pos (by simpa using d4)];exact wpS_pure ⟨hst4,.inl ⟨_,_,rfl,zcw d4 mf⟩⟩
        rw [if_neg (by simpa using d4)];refine fin2 _ _ _ _ _ _ ?_ ?_
        ·exact wpS_pure ⟨hst4,.inr ⟨_,_,_,_,_,_,rfl,⟨mf,by omega,by omega,by omega,by omega⟩,by omega⟩⟩
        ·exact wpS_pure ⟨hst4,_,_,_,_,_,_,rfl,⟨mf,by omega,by omega,by omega,by omega⟩,by omega⟩
def G(xs:Array Keyed)(i:Nat):Keyed:=(xs[i]?).getD (.none,.none)
theorem zrM{xs:Array Keyed}{i:Nat}(h:i<xs.size):xs[i]? = some (G xs i):=by unfold G; simp [h]
def Sg(lt:Keyed->Keyed->Bool)(xs:Array Keyed)(lo hi:Nat):Prop:=∀ i j,lo<=i->i<=j->j<hi->lt (G xs j) (G xs i)=false
structure Tb(kd:SortKind)(D:Keyed->Prop)(a₀:Array Keyed)(lo:Nat)(st0 st:SortSt):Prop where
 kd:kindOf st=kd
 fl:failedOf st=none
 pm:(arrOf st).Perm a₀
 pe:pendingOf st=pendingOf st0
 lo:∀ i,i<lo->G (arrOf st) i=G (arrOf st0) i
 d:∀ x∈a₀.toList,D x
section
variable {a₀:Array Keyed} {lo:Nat} {st0 st st':SortSt}
theorem Tb.size(h:Tb kd D a₀ lo st0 st):(arrOf st).size=a₀.size:=h.pm.size_eq
theorem Tb.at(h:Tb kd D a₀ lo st0 st){i:Nat}(hi:i<a₀.size):(arrOf st)[i]? = some (G (arrOf st) i):=zrM (by rw [h.size]; exact hi)
theorem Tb.dd(h:Tb kd D a₀ lo st0 st){i:Nat}(hi:i<a₀.size):D (G (arrOf st) i):=by
 have e:=h.at hi;have m:G (arrOf st) i∈(arrOf st).toList:=List.mem_of_getElem? (by rw [<- zak]; exact e);exact h.d _ ((Array.perm_iff_toList_perm.mp h.pm).mem_iff.mp m)
theorem zbM(O:LtOk prog w A E s kd D lt)(h:Tb kd D a₀ lo st0 st){i j:Nat}{Q:Option Bool->SortSt->Prop}(hi:i<a₀.size)(hj:j<a₀.size)(q:Q (some (lt (G (arrOf st) i) (G (arrOf st) j))) st):wpS (model prog w) A E s (ltAt' i j) Q st:=by
 rw [ltAt'_eq];refine wpS_bind (wpS_get ?_);refine wpS_bind (zC (h.at hi) (wpS_bind (zC (h.at hj) ?_)));exact O.ask _ _ _ _ (h.dd hi) (h.dd hj) h.kd q
theorem zcn{xs:Array Keyed}{i j k:Nat}(hj:j<=xs.size):G (mirror xs i j ((j - i) / 2)) k=if i<=k/\k<j then G xs (i+j - 1 - k) else G xs k:=by
 unfold G;rw [getElem?_mirror_all hj];split <;> rfl
theorem zgq{xs:Array Keyed}{src d k:Nat}(hs:src<xs.size)(hd:d<=src):G (bubble xs src d) k=if k=src - d then G xs src else if src - d<k/\k<=src then G xs (k - 1) else G xs k:=by
 unfold G;rw [getElem?_bubble hs d hd];split
 ·rfl
 ·split <;> rfl
theorem Tb.mirror(h:Tb kd D a₀ lo st0 st){i j:Nat}(hi:lo<=i)(hj:j<=a₀.size):Tb kd D a₀ lo st0 (setArr st (mirror (arrOf st) i j ((j - i) / 2))):=by
 refine⟨h.kd,h.fl,(mirror_perm _ _ _ _).trans h.pm,h.pe,fun k hk=>?_,h.d⟩;show G (PyProof.Rows.mirror (arrOf st) i j ((j - i) / 2)) k=_;rw [zcn (by rw [h.size]; exact hj),if_neg (by omega)];exact h.lo k hk
theorem Tb.bubble(h:Tb kd D a₀ lo st0 st){src d:Nat}(hs:src<a₀.size)(hd:d<=src)(hl:lo<=src - d):Tb kd D a₀ lo st0 (setArr st (bubble (arrOf st) src d)):=by
 refine⟨h.kd,h.fl,(bubble_perm _ _ _).trans h.pm,h.pe,fun k hk=>?_,h.d⟩;show G (PyProof.Rows.bubble (arrOf st) src d) k=_;rw [zgq (by rw [h.size]; exact hs) hd,if_neg (by omega),if_neg (by omega)];exact h.lo k hk
theorem zcj{i j:Nat}{Q:Unit->SortSt->Prop}(q:Q () (setArr st (mirror (arrOf st) i j ((j - i) / 2)))):wpS (model prog w) A E s (reverseSlice' i j) Q st:=by
 rw [reverseSlice'_eq];exact wpS_modify q
theorem Sg.more(O:LtOk prog w A E s kd D lt)(h:Tb kd D a₀ lo st0 st){l n:Nat}(hn:n<a₀.size)(hl:l<n)(hs:Sg lt (arrOf st) l n)(h1:lt (G (arrOf st) n) (G (arrOf st) (n - 1))=false):Sg lt (arrOf st) l (n+1):=fun i j hi hij hj=>by
 by_cases e:j<n
 ·exact hs i j hi hij e
 ·have ej:j=n:=by omega
  subst ej;by_cases e2:i=j
  ·rw [e2]; exact O.irr (h.dd hn)
  ·exact O.tr _ (G (arrOf st) (j - 1)) _ (h.dd (by omega)) (h.dd (by omega)) (h.dd hn) (hs i (j - 1) hi (by omega) (by omega)) h1
theorem Sg.one(O:LtOk prog w A E s kd D lt)(h:Tb kd D a₀ lo st0 st){l:Nat}(hn:l<a₀.size):Sg lt (arrOf st) l (l+1):=fun i j hi hij hj=>by
 have e1:i=l:=by omega
 have e2:j=l:=by omega
 rw [e1,e2];exact O.irr (h.dd hn)
def Fg(lt:Keyed->Keyed->Bool)(xs:Array Keyed)(lo hi:Nat):Prop:=∀ i j,lo<=i->i<=j->j<hi->lt (G xs i) (G xs j)=false
theorem zdQ{xs:Array Keyed}{l n:Nat}(hn:n<=xs.size)(hs:Fg lt xs l n):Sg lt (mirror xs l n ((n - l) / 2)) l n:=fun i j hi hij hj=>by
 rw [zcn hn,zcn hn,if_pos (by omega),if_pos (by omega)];exact hs _ _ (by omega) (by omega) (by omega)
end
def Eg(lt:Keyed->Keyed->Bool)(xs:Array Keyed)(lo hi:Nat):Prop:=∀ i j,lo<=i->i<hi->lo<=j->j<hi->lt (G xs i) (G xs j)=false
theorem zha{xs:Array Keyed}{l i n:Nat}(hn:n<=xs.size)(hl:l<=i)(hf:Fg lt xs l n)(he:Eg lt xs i n):Fg lt (mirror xs i n ((n - i) / 2)) l n:=fun p q hp hpq hq=>by
 rw [zcn hn,zcn hn];by_cases h1:i<=p
 ·rw [if_pos (by omega),if_pos (by omega)];exact he _ _ (by omega) (by omega) (by omega) (by omega)
 ·rw [if_neg (by omega)];by_cases h2:i<=q
  ·rw [if_pos (by omega)];exact hf _ _ hp (by omega) (by omega)
  ·rw [if_neg (by omega)];exact hf p q hp hpq hq
theorem zcP{xs:Array Keyed}{i n k:Nat}(hn:n<=xs.size)(hk:n<=k):G (mirror xs i n ((n - i) / 2)) k=G xs k:=by
 rw [zcn hn,if_neg (by omega)]
theorem zco{xs:Array Keyed}{i n:Nat}(hn:n<=xs.size)(hi:i<n):G (mirror xs i n ((n - i) / 2)) (n - 1)=G xs i:=by
 rw [zcn hn,if_pos (by omega)];congr 1;omega
theorem zcS(O:LtOk prog w A E s kd D lt){a₀:Array Keyed}{lo:Nat}{st0 st:SortSt}(h:Tb kd D a₀ lo st0 st){l n:Nat}(hn:n<a₀.size)(hl:l<n)(hs:Fg lt (arrOf st) l n)(h1:lt (G (arrOf st) (n - 1)) (G (arrOf st) n)=false):Fg lt (arrOf st) l (n+1):=fun i j hi hij hj=>by
 by_cases e:j<n
 ·exact hs i j hi hij e
 ·have ej:j=n:=by omega
  subst ej;by_cases e2:i=j
  ·rw [e2]; exact O.irr (h.dd hn)
  ·exact O.tr _ (G (arrOf st) (j - 1)) _ (h.dd hn) (h.dd (by omega)) (h.dd (by omega)) h1 (hs i (j - 1) hi (by omega) (by omega))
theorem zmt(O:LtOk prog w A E s kd D lt){a₀:Array Keyed}{lo nrem:Nat}{st0 st:SortSt}{Q:Option Nat->SortSt->Prop}(h:Tb kd D a₀ lo st0 st)(hn:lo+nrem<=a₀.size)(h1:1<=nrem)
  (q:∀ m st',Tb kd D a₀ lo st0 st'->1<=m->m<=nrem->Sg lt (arrOf st') lo (lo+m)->Q (some m) st'):wpS (model prog w) A E s (countRun' lo nrem) Q st:=by
 refine wpS_bind (wpS_mono (wpS_forRange (a:=1)
  (I:=fun k c st'=>st'=st/\c=(none,k)/\Sg lt (arrOf st) lo (lo+k))
  (Q:=fun c st'=>st'=st/\∃ n,c=(none,n)/\1<=n/\n<=nrem/\Sg lt (arrOf st) lo (lo+n)/\(n=nrem\/lt (G (arrOf st) (lo+n)) (G (arrOf st) (lo+n - 1))=true)) ?step ?fin ⟨rfl,rfl,Sg.one O h (by omega)⟩) ?post)
 case fin =>
  rintro c st' ⟨rfl,rfl,hs⟩;rw [show max 1 nrem=nrem by omega] at hs ⊢;exact⟨rfl,nrem,rfl,h1,Nat.le_refl _,hs,.inl rfl⟩
 case step =>
  rintro k c st' hk1 hk2 ⟨rfl,rfl,hs⟩;dsimp only;refine wpS_bind (zbM O h (i:=lo+k) (j:=lo+k - 1) (by omega) (by omega) ?_);dsimp only;cases e:lt (G (arrOf st') (lo+k)) (G (arrOf st') (lo+k - 1)) with
  | true =>
   simp only [if_true];exact wpS_pure ⟨rfl,k,rfl,hk1,by omega,hs,.inr e⟩
  | false =>
   simp only [Bool.false_eq_true,if_false];refine wpS_pure ⟨rfl,rfl,?_⟩;exact Sg.more (n:=lo+k) O h (by omega) (by omega) hs e
 case post =>
  rintro c st' ⟨rfl,n,rfl,n1,n2,hs,hor⟩;dsimp only;by_cases hnn:n=nrem
  ·rw [if_pos (by simpa using hnn)];exact wpS_pure (q n st' h n1 n2 hs)
  rw [if_neg (by simpa using hnn)];have hlt:=hor.resolve_left hnn;by_cases hgt:n>1
  ·rw [if_pos hgt];refine wpS_bind (zbM O h (i:=lo) (j:=lo+n - 1) (by omega) (by omega) ?_);dsimp only;cases e0:lt (G (arrOf st') lo) (G (arrOf st') (lo+n - 1)) with
   | true =>
    simp only [if_true];exact wpS_pure (q n st' h n1 n2 hs)
   | false =>
    simp only [Bool.false_eq_true,if_false];have hsz:lo+n<=(arrOf st').size:=by rw [h.size]; omega
    have hal:∀ p q,lo<=p->p<lo+n->lo<=q->q<lo+n->lt (G (arrOf st') p) (G (arrOf st') q)=false:=fun p q p1 p2 q1 q2=>by
     have s1:=hs lo q (Nat.le_refl _) q1 q2;have s2:=hs p (lo+n - 1) p1 (by omega) (by omega);have d0:=h.dd (i:=lo) (by omega);have dn:=h.dd (i:=lo+n - 1) (by omega);have dp:=h.dd (i:=p) (by omega);have dq:=h.dd (i:=q) (by omega);have s3:=hs q (lo+n - 1) q1 (by omega) (by omega);have s4:=hs lo p (Nat.le_refl _) p1 p2;by_cases hpq:p<=q
     ·-- G p<=G last<=G lo<=G q would want both ways
      exact O.tr _ (G (arrOf st') lo) _ dq d0 dp (O.tr _ (G (arrOf st') (lo+n - 1)) _ dq dn d0 s3 e0) s4
     ·exact hs q p q1 (by omega) p2
    have hT:=h.mirror (i:=lo) (j:=lo+n) (Nat.le_refl _) (by omega);have hF:Fg lt (arrOf (setArr st' (mirror (arrOf st') lo (lo+n) ((lo+n - lo) / 2)))) lo (lo+(n+1)):=by
     have hf0:Fg lt (arrOf st') lo (lo+n):=fun p q p1 pq q2=>hal p q p1 (by omega) (by omega) q2;have hf1:=zha hsz (Nat.le_refl _) hf0 fun p q p1 p2 q1 q2=>hal p q p1 p2 q1 q2;refine zcS (n:=lo+n) O hT (by omega) (by omega) hf1 ?_;show lt (G (mirror (arrOf st') lo (lo+n) _) (lo+n - 1)) (G (mirror (arrOf st') lo (lo+n) _) (lo+n))=false;rw [zcP hsz (Nat.le_refl _),zco hsz (by omega)];have d1:=h.dd (i:=lo+n) (by omega);have d2:=h.dd (i:=lo+n - 1) (by omega);exact O.tr _ _ _ d1 d2 (h.dd (by omega)) (O.asym _ _ d1 d2 hlt) e0
    refine wpS_bind (zcj ?_)
    revert hT hF
    generalize (setArr st' (mirror (arrOf st') lo (lo+n) ((lo+n - lo) / 2)))=stA;intro hT hF;refine wpS_bind (wpS_lift (wpAny_rule ⟨rfl,?_⟩));refine wpS_bind (wpS_mono (wpS_forRange (a:=n+1)
     (I:=fun k c st'=>Tb kd D a₀ lo st0 st'/\∃ neq,c=(none,k,neq)/\Fg lt (arrOf st') lo (lo+k)/\neq+1<=k/\Eg lt (arrOf st') (lo+k - (neq+1)) (lo+k))
     (Q:=fun c st'=>Tb kd D a₀ lo st0 st'/\∃ m neq,c=(none,m,neq)/\1<=m/\m<=nrem/\Fg lt (arrOf st') lo (lo+m)/\neq+1<=m/\Eg lt (arrOf st') (lo+m - (neq+1)) (lo+m)) ?step2 ?fin2 ⟨hT,0,rfl,hF,by omega,fun i j h1 h2 h3 h4=>by
      have e1:i=j:=by omega
      rw [e1];exact O.irr (hT.dd (by omega))⟩) ?post2)
    case fin2 =>
     rintro c st2 ⟨hT2,neq,rfl,hF2,hq2,hE2⟩;rw [show max (n+1) nrem=nrem by omega] at hF2 hq2 hE2 ⊢;exact⟨hT2,nrem,neq,rfl,by omega,Nat.le_refl _,hF2,hq2,hE2⟩
    case step2 =>
     rintro k c st2 hk1 hk2 ⟨hT2,neq,rfl,hF2,hq2,hE2⟩;dsimp only;refine wpS_bind (zbM O hT2 (i:=lo+k) (j:=lo+k - 1) (by omega) (by omega) ?_);dsimp only;have hsz:lo+k<=(arrOf st2).size:=by rw [hT2.size]; omega
     cases e:lt (G (arrOf st2) (lo+k)) (G (arrOf st2) (lo+k - 1)) with
     | true =>
      simp only [if_true];by_cases hq0:neq>0
      ·rw [if_pos hq0];have hT3:=hT2.mirror (i:=lo+k - (neq+1)) (j:=lo+k) (by omega) (by omega);refine wpS_bind (zcj (wpS_pure ⟨hT3,0,rfl,?_,by omega,fun i j h1 h2 h3 h4=>by
        have e1:i=j:=by omega
        rw [e1];exact O.irr (hT3.dd (by omega))⟩))
       refine zcS (n:=lo+k) O hT3 (by omega) (by omega) (zha hsz (by omega) hF2 hE2) ?_;show lt (G (mirror (arrOf st2) (lo+k - (neq+1)) (lo+k) _) (lo+k - 1)) (G (mirror (arrOf st2) (lo+k - (neq+1)) (lo+k) _) (lo+k))=false;rw [zcP hsz (Nat.le_refl _),zco hsz (by omega)];have d1:=hT2.dd (i:=lo+k) (by omega);have d2:=hT2.dd (i:=lo+k - 1) (by omega);have d3:=hT2.dd (i:=lo+k - (neq+1)) (by omega);exact O.tr _ _ _ d1 d2 d3 (O.asym _ _ d1 d2 e) (hE2 _ _ (by omega) (by omega) (by omega) (by omega))
      ·rw [if_neg hq0];refine wpS_pure ⟨hT2,0,rfl,?_,by omega,fun i j h1 h2 h3 h4=>by
        have e1:i=j:=by omega
        rw [e1];exact O.irr (hT2.dd (by omega))⟩
       exact zcS (n:=lo+k) O hT2 (by omega) (by omega) hF2 (O.asym _ _ (hT2.dd (by omega)) (hT2.dd (by omega)) e)
     | false =>
      simp only [Bool.false_eq_true,if_false];refine wpS_bind (zbM O hT2 (i:=lo+k - 1) (j:=lo+k) (by omega) (by omega) ?_);dsimp only;cases e2:lt (G (arrOf st2) (lo+k - 1)) (G (arrOf st2) (lo+k)) with
      | true =>
       simp only [if_true];exact wpS_pure ⟨hT2,k,neq,rfl,by omega,by omega,hF2,hq2,hE2⟩
      | false =>
       simp only [Bool.false_eq_true,if_false];refine wpS_pure ⟨hT2,neq+1,rfl,zcS (n:=lo+k) O hT2 (by omega) (by omega) hF2 e2,by omega,fun i j h1 h2 h3 h4=>?_⟩;have dk:=hT2.dd (i:=lo+k) (by omega);have dl:=hT2.dd (i:=lo+k - 1) (by omega);by_cases z1:i=lo+k
       ·rw [z1];by_cases z2:j=lo+k
        ·rw [z2]; exact O.irr dk
        ·exact O.tr _ _ _ (hT2.dd (by omega)) dl dk (hE2 _ _ (by omega) (by omega) (by omega) (by omega)) e
       ·by_cases z2:j=lo+k
        ·rw [z2];exact O.tr _ _ _ dk dl (hT2.dd (by omega)) e2 (hE2 _ _ (by omega) (by omega) (by omega) (by omega))
        ·exact hE2 i j (by omega) (by omega) (by omega) (by omega)
    case post2 =>
     rintro c st2 ⟨hT2,m,neq,rfl,m1,m2,hF2,hq2,hE2⟩;dsimp only;have hsz:lo+m<=(arrOf st2).size:=by rw [hT2.size]; omega
     have hT3:=hT2.mirror (i:=lo+m - (neq+1)) (j:=lo+m) (by omega) (by omega);have hF3:=zha hsz (by omega) hF2 hE2;by_cases hq0:neq>0
     ·rw [if_pos hq0];refine wpS_bind (zcj ?_);have hT4:=hT3.mirror (i:=lo) (j:=lo+m) (Nat.le_refl _) (by omega);have hS4:Sg lt (arrOf (setArr (setArr st2 (mirror (arrOf st2) (lo+m - (neq+1)) (lo+m) ((lo+m - (lo+m - (neq+1))) / 2))) (mirror (mirror (arrOf st2) (lo+m - (neq+1)) (lo+m) ((lo+m - (lo+m - (neq+1))) / 2)) lo (lo+m) ((lo+m - lo) / 2)))) lo (lo+m):=zdQ (by rw [mirror_size]; exact hsz) hF3;refine wpS_bind (zcj ?_)
      revert hT4 hS4
      generalize (setArr (setArr st2 (mirror (arrOf st2) (lo+m - (neq+1)) (lo+m) ((lo+m - (lo+m - (neq+1))) / 2))) (mirror (mirror (arrOf st2) (lo+m - (neq+1)) (lo+m) ((lo+m - (lo+m - (neq+1))) / 2)) lo (lo+m) ((lo+m - lo) / 2)))=st4;intro hT4 hS4;refine wpS_bind (wpS_mono (wpS_forRange (a:=m)
       (I:=fun k c st'=>st'=st4/\c=(none,k)/\Sg lt (arrOf st4) lo (lo+k))
       (Q:=fun c st'=>st'=st4/\∃ n,c=(none,n)/\1<=n/\n<=nrem/\Sg lt (arrOf st4) lo (lo+n)) ?step3 ?fin3 ⟨rfl,rfl,hS4⟩) ?post3)
      case fin3 =>
       rintro c st5 ⟨rfl,rfl,hs⟩;rw [show max m nrem=nrem by omega] at hs ⊢;exact⟨rfl,nrem,rfl,by omega,Nat.le_refl _,hs⟩
      case step3 =>
       rintro k c st5 hk1 hk2 ⟨rfl,rfl,hs⟩;dsimp only;refine wpS_bind (zbM O hT4 (i:=lo+k) (j:=lo+k - 1) (by omega) (by omega) ?_);dsimp only;cases e:lt (G (arrOf st5) (lo+k)) (G (arrOf st5) (lo+k - 1)) with
       | true =>
        simp only [if_true];exact wpS_pure ⟨rfl,k,rfl,by omega,by omega,hs⟩
       | false =>
        simp only [Bool.false_eq_true,if_false];exact wpS_pure ⟨rfl,rfl,Sg.more (n:=lo+k) O hT4 (by omega) (by omega) hs e⟩
      case post3 =>
       rintro c st5 ⟨rfl,n',rfl,p1,p2,hs⟩;dsimp only;exact wpS_pure (q n' st5 hT4 p1 p2 hs)
     ·rw [if_neg hq0];have hT4:=hT2.mirror (i:=lo) (j:=lo+m) (Nat.le_refl _) (by omega);have hS4:Sg lt (arrOf (setArr st2 (mirror (arrOf st2) lo (lo+m) ((lo+m - lo) / 2)))) lo (lo+m):=zdQ hsz hF2;refine wpS_bind (zcj ?_)
      revert hT4 hS4
      generalize (setArr st2 (mirror (arrOf st2) lo (lo+m) ((lo+m - lo) / 2)))=st4;intro hT4 hS4;refine wpS_bind (wpS_mono (wpS_forRange (a:=m)
       (I:=fun k c st'=>st'=st4/\c=(none,k)/\Sg lt (arrOf st4) lo (lo+k))
       (Q:=fun c st'=>st'=st4/\∃ n,c=(none,n)/\1<=n/\n<=nrem/\Sg lt (arrOf st4) lo (lo+n)) ?step3 ?fin3 ⟨rfl,rfl,hS4⟩) ?post3)
      case fin3 =>
       rintro c st5 ⟨rfl,rfl,hs⟩;rw [show max m nrem=nrem by omega] at hs ⊢;exact⟨rfl,nrem,rfl,by omega,Nat.le_refl _,hs⟩
      case step3 =>
       rintro k c st5 hk1 hk2 ⟨rfl,rfl,hs⟩;dsimp only;refine wpS_bind (zbM O hT4 (i:=lo+k) (j:=lo+k - 1) (by omega) (by omega) ?_);dsimp only;cases e:lt (G (arrOf st5) (lo+k)) (G (arrOf st5) (lo+k - 1)) with
       | true =>
        simp only [if_true];exact wpS_pure ⟨rfl,k,rfl,by omega,by omega,hs⟩
       | false =>
        simp only [Bool.false_eq_true,if_false];exact wpS_pure ⟨rfl,rfl,Sg.more (n:=lo+k) O hT4 (by omega) (by omega) hs e⟩
      case post3 =>
       rintro c st5 ⟨rfl,n',rfl,p1,p2,hs⟩;dsimp only;exact wpS_pure (q n' st5 hT4 p1 p2 hs)
  ·rw [if_neg hgt];have n1':n=1:=by omega
   have hT:=h;have hF:Fg lt (arrOf st') lo (lo+(n+1)):=by
    subst n1';refine zcS (n:=lo+1) O h (by omega) (by omega) (fun p q p1 pq q2=>?_) (O.asym _ _ (h.dd (by omega)) (h.dd (by omega)) hlt);have e1:p=q:=by omega
    rw [e1];exact O.irr (h.dd (by omega))
   refine wpS_bind (wpS_lift (wpAny_rule ⟨rfl,?_⟩));refine wpS_bind (wpS_mono (wpS_forRange (a:=n+1)
    (I:=fun k c st'=>Tb kd D a₀ lo st0 st'/\∃ neq,c=(none,k,neq)/\Fg lt (arrOf st') lo (lo+k)/\neq+1<=k/\Eg lt (arrOf st') (lo+k - (neq+1)) (lo+k))
    (Q:=fun c st'=>Tb kd D a₀ lo st0 st'/\∃ m neq,c=(none,m,neq)/\1<=m/\m<=nrem/\Fg lt (arrOf st') lo (lo+m)/\neq+1<=m/\Eg lt (arrOf st') (lo+m - (neq+1)) (lo+m)) ?step2 ?fin2 ⟨hT,0,rfl,hF,by omega,fun i j h1 h2 h3 h4=>by
     have e1:i=j:=by omega
     rw [e1];exact O.irr (hT.dd (by omega))⟩) ?post2)
   case fin2 =>
    rintro c st2 ⟨hT2,neq,rfl,hF2,hq2,hE2⟩;rw [show max (n+1) nrem=nrem by omega] at hF2 hq2 hE2 ⊢;exact⟨hT2,nrem,neq,rfl,by omega,Nat.le_refl _,hF2,hq2,hE2⟩
   case step2 =>
    rintro k c st2 hk1 hk2 ⟨hT2,neq,rfl,hF2,hq2,hE2⟩;dsimp only;refine wpS_bind (zbM O hT2 (i:=lo+k) (j:=lo+k - 1) (by omega) (by omega) ?_);dsimp only;have hsz:lo+k<=(arrOf st2).size:=by rw [hT2.size]; omega
    cases e:lt (G (arrOf st2) (lo+k)) (G (arrOf st2) (lo+k - 1)) with
    | true =>
     simp only [if_true];by_cases hq0:neq>0
     ·rw [if_pos hq0];have hT3:=hT2.mirror (i:=lo+k - (neq+1)) (j:=lo+k) (by omega) (by omega);refine wpS_bind (zcj (wpS_pure ⟨hT3,0,rfl,?_,by omega,fun i j h1 h2 h3 h4=>by
       have e1:i=j:=by omega
       rw [e1];exact O.irr (hT3.dd (by omega))⟩))
      refine zcS (n:=lo+k) O hT3 (by omega) (by omega) (zha hsz (by omega) hF2 hE2) ?_;show lt (G (mirror (arrOf st2) (lo+k - (neq+1)) (lo+k) _) (lo+k - 1)) (G (mirror (arrOf st2) (lo+k - (neq+1)) (lo+k) _) (lo+k))=false;rw [zcP hsz (Nat.le_refl _),zco hsz (by omega)];have d1:=hT2.dd (i:=lo+k) (by omega);have d2:=hT2.dd (i:=lo+k - 1) (by omega);have d3:=hT2.dd (i:=lo+k - (neq+1)) (by omega);exact O.tr _ _ _ d1 d2 d3 (O.asym _ _ d1 d2 e) (hE2 _ _ (by omega) (by omega) (by omega) (by omega))
     ·rw [if_neg hq0];refine wpS_pure ⟨hT2,0,rfl,?_,by omega,fun i j h1 h2 h3 h4=>by
       have e1:i=j:=by omega
       rw [e1];exact O.irr (hT2.dd (by omega))⟩
      exact zcS (n:=lo+k) O hT2 (by omega) (by omega) hF2 (O.asym _ _ (hT2.dd (by omega)) (hT2.dd (by omega)) e)
    | false =>
     simp only [Bool.false_eq_true,if_false];refine wpS_bind (zbM O hT2 (i:=lo+k - 1) (j:=lo+k) (by omega) (by omega) ?_);dsimp only;cases e2:lt (G (arrOf st2) (lo+k - 1)) (G (arrOf st2) (lo+k)) with
     | true =>
      simp only [if_true];exact wpS_pure ⟨hT2,k,neq,rfl,by omega,by omega,hF2,hq2,hE2⟩
     | false =>
      simp only [Bool.false_eq_true,if_false];refine wpS_pure ⟨hT2,neq+1,rfl,zcS (n:=lo+k) O hT2 (by omega) (by omega) hF2 e2,by omega,fun i j h1 h2 h3 h4=>?_⟩;have dk:=hT2.dd (i:=lo+k) (by omega);have dl:=hT2.dd (i:=lo+k - 1) (by omega);by_cases z1:i=lo+k
      ·rw [z1];by_cases z2:j=lo+k
       ·rw [z2]; exact O.irr dk
       ·exact O.tr _ _ _ (hT2.dd (by omega)) dl dk (hE2 _ _ (by omega) (by omega) (by omega) (by omega)) e
      ·by_cases z2:j=lo+k
       ·rw [z2];exact O.tr _ _ _ dk dl (hT2.dd (by omega)) e2 (hE2 _ _ (by omega) (by omega) (by omega) (by omega))
       ·exact hE2 i j (by omega) (by omega) (by omega) (by omega)
   case post2 =>
    rintro c st2 ⟨hT2,m,neq,rfl,m1,m2,hF2,hq2,hE2⟩;dsimp only;have hsz:lo+m<=(arrOf st2).size:=by rw [hT2.size]; omega
    have hT3:=hT2.mirror (i:=lo+m - (neq+1)) (j:=lo+m) (by omega) (by omega);have hF3:=zha hsz (by omega) hF2 hE2;by_cases hq0:neq>0
    ·rw [if_pos hq0];refine wpS_bind (zcj ?_);have hT4:=hT3.mirror (i:=lo) (j:=lo+m) (Nat.le_refl _) (by omega);have hS4:Sg lt (arrOf (setArr (setArr st2 (mirror (arrOf st2) (lo+m - (neq+1)) (lo+m) ((lo+m - (lo+m - (neq+1))) / 2))) (mirror (mirror (arrOf st2) (lo+m - (neq+1)) (lo+m) ((lo+m - (lo+m - (neq+1))) / 2)) lo (lo+m) ((lo+m - lo) / 2)))) lo (lo+m):=zdQ (by rw [mirror_size]; exact hsz) hF3;refine wpS_bind (zcj ?_)
     revert hT4 hS4
     generalize (setArr (setArr st2 (mirror (arrOf st2) (lo+m - (neq+1)) (lo+m) ((lo+m - (lo+m - (neq+1))) / 2))) (mirror (mirror (arrOf st2) (lo+m - (neq+1)) (lo+m) ((lo+m - (lo+m - (neq+1))) / 2)) lo (lo+m) ((lo+m - lo) / 2)))=st4;intro hT4 hS4;refine wpS_bind (wpS_mono (wpS_forRange (a:=m)
      (I:=fun k c st'=>st'=st4/\c=(none,k)/\Sg lt (arrOf st4) lo (lo+k))
      (Q:=fun c st'=>st'=st4/\∃ n,c=(none,n)/\1<=n/\n<=nrem/\Sg lt (arrOf st4) lo (lo+n)) ?step3 ?fin3 ⟨rfl,rfl,hS4⟩) ?post3)
     case fin3 =>
      rintro c st5 ⟨rfl,rfl,hs⟩;rw [show max m nrem=nrem by omega] at hs ⊢;exact⟨rfl,nrem,rfl,by omega,Nat.le_refl _,hs⟩
     case step3 =>
      rintro k c st5 hk1 hk2 ⟨rfl,rfl,hs⟩;dsimp only;refine wpS_bind (zbM O hT4 (i:=lo+k) (j:=lo+k - 1) (by omega) (by omega) ?_);dsimp only;cases e:lt (G (arrOf st5) (lo+k)) (G (arrOf st5) (lo+k - 1)) with
      | true =>
       simp only [if_true];exact wpS_pure ⟨rfl,k,rfl,by omega,by omega,hs⟩
      | false =>
       simp only [Bool.false_eq_true,if_false];exact wpS_pure ⟨rfl,rfl,Sg.more (n:=lo+k) O hT4 (by omega) (by omega) hs e⟩
     case post3 =>
      rintro c st5 ⟨rfl,n',rfl,p1,p2,hs⟩;dsimp only;exact wpS_pure (q n' st5 hT4 p1 p2 hs)
    ·rw [if_neg hq0];have hT4:=hT2.mirror (i:=lo) (j:=lo+m) (Nat.le_refl _) (by omega);have hS4:Sg lt (arrOf (setArr st2 (mirror (arrOf st2) lo (lo+m) ((lo+m - lo) / 2)))) lo (lo+m):=zdQ hsz hF2;refine wpS_bind (zcj ?_)
     revert hT4 hS4
     generalize (setArr st2 (mirror (arrOf st2) lo (lo+m) ((lo+m - lo) / 2)))=st4;intro hT4 hS4;refine wpS_bind (wpS_mono (wpS_forRange (a:=m)
      (I:=fun k c st'=>st'=st4/\c=(none,k)/\Sg lt (arrOf st4) lo (lo+k))
      (Q:=fun c st'=>st'=st4/\∃ n,c=(none,n)/\1<=n/\n<=nrem/\Sg lt (arrOf st4) lo (lo+n)) ?step3 ?fin3 ⟨rfl,rfl,hS4⟩) ?post3)
     case fin3 =>
      rintro c st5 ⟨rfl,rfl,hs⟩;rw [show max m nrem=nrem by omega] at hs ⊢;exact⟨rfl,nrem,rfl,by omega,Nat.le_refl _,hs⟩
     case step3 =>
      rintro k c st5 hk1 hk2 ⟨rfl,rfl,hs⟩;dsimp only;refine wpS_bind (zbM O hT4 (i:=lo+k) (j:=lo+k - 1) (by omega) (by omega) ?_);dsimp only;cases e:lt (G (arrOf st5) (lo+k)) (G (arrOf st5) (lo+k - 1)) with
      | true =>
       simp only [if_true];exact wpS_pure ⟨rfl,k,rfl,by omega,by omega,hs⟩
      | false =>
       simp only [Bool.false_eq_true,if_false];exact wpS_pure ⟨rfl,rfl,Sg.more (n:=lo+k) O hT4 (by omega) (by omega) hs e⟩
     case post3 =>
      rintro c st5 ⟨rfl,n',rfl,p1,p2,hs⟩;dsimp only;exact wpS_pure (q n' st5 hT4 p1 p2 hs)
theorem zlv(O:LtOk prog w A E s kd D lt){a₀:Array Keyed}{lo n ok:Nat}{st0 st:SortSt}{Q:Bool->SortSt->Prop}(h:Tb kd D a₀ lo st0 st)(hn:lo+n<=a₀.size)(h1:1<=ok)(hok:ok<=n)(hs:Sg lt (arrOf st) lo (lo+ok))
  (q:∀ st',Tb kd D a₀ lo st0 st'->Sg lt (arrOf st') lo (lo+n)->Q true st'):wpS (model prog w) A E s (binarySort' lo n ok) Q st:=by
 refine wpS_bind (wpS_mono (wpS_forRange (a:=max ok 1)
  (I:=fun k c st'=>c=(none,())/\Tb kd D a₀ lo st0 st'/\Sg lt (arrOf st') lo (lo+k))
  (Q:=fun c st'=>c=(none,())/\Tb kd D a₀ lo st0 st'/\Sg lt (arrOf st') lo (lo+n)) ?step ?fin ⟨rfl,h,by rw [show max ok 1=ok by omega]; exact hs⟩) ?post)
 case fin =>
  rintro c st' ⟨rfl,hT,hS⟩;rw [show max (max ok 1) n=n by omega] at hS;exact⟨rfl,hT,hS⟩
 case post =>
  rintro c st' ⟨rfl,hT,hS⟩;dsimp only;exact wpS_pure (q st' hT hS)
 case step =>
  rintro k c st' hk1 hk2 ⟨rfl,hT,hS⟩;have k1:1<=k:=by omega
  dsimp only;refine wpS_bind (wpS_mono (wpS_forRange (a:=0)
   (I:=fun j c st2=>st2=st'/\∃ l r,c=(none,l,r)/\l<=r/\r<=k/\r - l+j<=k/\(∀ i,i<l->lt (G (arrOf st') (lo+k)) (G (arrOf st') (lo+i))=false)/\∀ i,r<=i->i<k->lt (G (arrOf st') (lo+k)) (G (arrOf st') (lo+i))=true)
   (Q:=fun c st2=>st2=st'/\∃ l,c=(none,l,l)/\l<=k/\(∀ i,i<l->lt (G (arrOf st') (lo+k)) (G (arrOf st') (lo+i))=false)/\∀ i,l<=i->i<k->lt (G (arrOf st') (lo+k)) (G (arrOf st') (lo+i))=true) ?step2 ?fin2 ⟨rfl,0,k,rfl,by omega,by omega,by omega,fun i hi=>by omega,fun i h1 h2=>by omega⟩) ?post2)
  case fin2 =>
   rintro c st2 ⟨rfl,l,r,rfl,a1,a2,a3,a4,a5⟩;have:l=r:=by omega
   subst this;exact⟨rfl,l,rfl,a2,a4,a5⟩
  case step2 =>
   rintro j c st2 _ hj ⟨rfl,l,r,rfl,a1,a2,a3,a4,a5⟩;dsimp only;by_cases hlr:l≥r
   ·rw [if_pos hlr];have:l=r:=by omega
    subst this;exact wpS_pure ⟨rfl,l,rfl,a2,a4,a5⟩
   rw [if_neg hlr];have hm:(l+r) / 2<k:=by omega
   refine wpS_bind (zbM O hT (i:=lo+k) (j:=lo+(l+r) / 2) (by omega) (by omega) ?_);dsimp only;have dk:=hT.dd (i:=lo+k) (by omega);have dm:=hT.dd (i:=lo+(l+r) / 2) (by omega);cases e:lt (G (arrOf st2) (lo+k)) (G (arrOf st2) (lo+(l+r) / 2)) with
   | true =>
    simp only [if_true];refine wpS_pure ⟨rfl,l,(l+r) / 2,rfl,by omega,by omega,by omega,a4,fun i i1 i2=>?_⟩;have di:=hT.dd (i:=lo+i) (by omega);cases e2:lt (G (arrOf st2) (lo+k)) (G (arrOf st2) (lo+i)) with
    | true=>rfl
    | false =>
     have:=O.tr _ _ _ dm di dk (hS (lo+(l+r) / 2) (lo+i) (by omega) (by omega) (by omega)) e2;rw [this] at e;cases e
   | false =>
    simp only [Bool.false_eq_true,if_false];refine wpS_pure ⟨rfl,(l+r) / 2+1,r,rfl,by omega,by omega,by omega,fun i i1=>?_,a5⟩;exact O.tr _ _ _ (hT.dd (by omega)) dm dk (hS (lo+i) (lo+(l+r) / 2) (by omega) (by omega) (by omega)) e
  case post2 =>
   rintro c st2 ⟨rfl,l,rfl,l1,l2,l3⟩;dsimp only;have hks:lo+k<(arrOf st2).size:=by rw [hT.size]; omega
   have hd:lo+k - (lo+l)=k - l:=by omega
   refine wpS_bind (wpS_modify (wpS_pure ⟨rfl,hT.bubble (src:=lo+k) (d:=lo+k - (lo+l)) (by omega) (by omega) (by omega),?_⟩));intro i j hi hij hj;show lt (G (bubble (arrOf st2) (lo+k) (lo+k - (lo+l))) j) (G (bubble (arrOf st2) (lo+k) (lo+k - (lo+l))) i)=false;rw [zgq hks (by omega),zgq hks (by omega),show lo+k - (lo+k - (lo+l))=lo+l by omega];have dk:=hT.dd (i:=lo+k) (by omega);by_cases i1:i=lo+l
   ·rw [if_pos i1];by_cases j1:j=lo+l
    ·rw [if_pos j1]; exact O.irr dk
    ·rw [if_neg j1,if_pos (by omega)];have:=l3 (j - 1 - lo) (by omega) (by omega);rw [show lo+(j - 1 - lo)=j - 1 by omega] at this;exact O.asym _ _ dk (hT.dd (by omega)) this
   ·rw [if_neg i1];by_cases i2:lo+l<i/\i<=lo+k
    ·rw [if_pos i2,if_neg (by omega),if_pos (by omega)];exact hS _ _ (by omega) (by omega) (by omega)
    ·rw [if_neg i2];by_cases j1:j=lo+l
     ·rw [if_pos j1];have:=l2 (i - lo) (by omega);rw [show lo+(i - lo)=i by omega] at this;exact this
     ·rw [if_neg j1];by_cases j2:lo+l<j/\j<=lo+k
      ·rw [if_pos j2];exact hS _ _ (by omega) (by omega) (by omega)
      ·rw [if_neg j2];exact hS i j hi hij (by omega)
structure Ts(kd:SortKind)(D:Keyed->Prop)(a₀:Array Keyed)(st:SortSt):Prop where
 kd:kindOf st=kd
 fl:failedOf st=none
 pm:(arrOf st).Perm a₀
 d:∀ x∈a₀.toList,D x
section
variable {a₀:Array Keyed} {st:SortSt}
theorem Ts.size(h:Ts kd D a₀ st):(arrOf st).size=a₀.size:=h.pm.size_eq
theorem Ts.mem(h:Ts kd D a₀ st){x:Keyed}(m:x∈(arrOf st).toList):D x:=h.d x ((Array.perm_iff_toList_perm.mp h.pm).mem_iff.mp m)
theorem Ts.at(h:Ts kd D a₀ st){i:Nat}(hi:i<a₀.size):(arrOf st)[i]? = some (G (arrOf st) i):=zrM (by rw [h.size]; exact hi)
theorem Ts.dd(h:Ts kd D a₀ st){i:Nat}(hi:i<a₀.size):D (G (arrOf st) i):=h.mem (List.mem_of_getElem? (by rw [<- zak]; exact h.at hi))
theorem Ts.tb(h:Ts kd D a₀ st)(lo:Nat):Tb kd D a₀ lo st st:=⟨h.kd,h.fl,h.pm,rfl,fun _ _=>rfl,h.d⟩
end
theorem znR{xs:Array Keyed}{i:Nat}{x:Keyed}(h:xs.toList[i]? = some x):G xs i=x:=by
 unfold G;rw [zak.mpr h];rfl
theorem zfE(s:Nat):∀ (l:List Keyed) (k:Nat) (xs:Array Keyed),s+k+l.length<=xs.size->((l.zipIdx k).foldl (fun a p=>a.setIfInBounds (s+p.2) p.1) xs).toList=xs.toList.take (s+k)++l++xs.toList.drop (s+k+l.length)
 | [],k,xs,_=>by simp
 | x :: l,k,xs,h=>by
  rw [List.length_cons] at h;rw [List.zipIdx_cons,List.foldl_cons,zfE s l (k+1) _ (by rw [Array.size_setIfInBounds]; omega)];simp only [Array.toList_setIfInBounds];have hl:s+k<xs.toList.length:=by simp; omega
  have e1:(xs.toList.set (s+k) x).take (s+(k+1))=xs.toList.take (s+k)++[x]:=by
   rw [show s+(k+1)=s+k+1 by omega,List.take_add_one,List.getElem?_set_self hl,List.take_set_of_le (Nat.le_refl _)];rfl
  have e2:(xs.toList.set (s+k) x).drop (s+(k+1)+l.length)=xs.toList.drop (s+k+(x :: l).length):=by
   rw [List.drop_set_of_lt (by omega),List.length_cons];congr 1;omega
  rw [e1,e2];simp
theorem zpz{x:SortSt}{Q:PUnit->SortSt->Prop}{st:SortSt}(h:Q ⟨⟩ x):wpS (model prog w) A E s (set x:StateT SortSt Sem PUnit) Q st:=by
 unfold wpS;rw [StateT.run_set];exact wpAny_pure ⟨rfl,h⟩
theorem zef{xs:Array Keyed}{lo hi:Nat}(hh:hi<=xs.size){x:Keyed}(m:x∈(xs.extract lo hi).toList):∃ r,lo<=r/\r<hi/\G xs r=x:=by
 rw [Array.toList_extract,List.extract_eq_take_drop] at m;obtain⟨j,hj⟩:=List.mem_iff_getElem?.mp m;rw [List.getElem?_take] at hj;split at hj
 ·rw [List.getElem?_drop] at hj;exact⟨lo+j,by omega,by omega,znR hj⟩
 ·cases hj
theorem zkT{xs:Array Keyed}{lo hi j:Nat}(hh:hi<=xs.size)(hj:j<hi - lo):(xs.extract lo hi)[j]? = some (G xs (lo+j)):=by
 rw [zak,Array.toList_extract,List.extract_eq_take_drop,List.getElem?_take,if_pos (by omega),List.getElem?_drop,<- zak];exact zrM (by omega)
theorem zl3{xs:Array Keyed}{lo hi:Nat}(hh:hi<=xs.size)(h:Sg lt xs lo hi):SrtL lt (xs.extract lo hi).toList:=by
 unfold SrtL;rw [List.pairwise_iff_getElem];intro i j hi' hj' hij;have e1:=List.getElem?_eq_getElem hi';have e2:=List.getElem?_eq_getElem hj';have hl:(xs.extract lo hi).toList.length=hi - lo:=by simp; omega
 rw [<- zak,zkT hh (by omega)] at e1 e2;rw [<- Option.some.inj e1,<- Option.some.inj e2];exact h _ _ (by omega) (by omega) (by omega)
theorem zhH(O:LtOk prog w A E s kd D lt){a₀:Array Keyed}{i sa na pw sb nb pw2:Nat}{st:SortSt}{Q:Bool->SortSt->Prop}(h:Ts kd D a₀ st)(e1:(pendingOf st)[i]? = some (sa,na,pw))(e2:(pendingOf st)[i+1]? = some (sb,nb,pw2))(hsb:sb=sa+na)(na1:1<=na)(nb1:1<=nb)(hsz:sb+nb<=a₀.size)
  (sA:Sg lt (arrOf st) sa (sa+na)) (sB:Sg lt (arrOf st) sb (sb+nb))
  (q:∀ st',Ts kd D a₀ st'->pendingOf st'=((pendingOf st).setIfInBounds i (sa,na+nb,pw)).eraseIdxIfInBounds (i+1)->(∀ j,j<sa\/sa+na+nb<=j->G (arrOf st') j=G (arrOf st) j)->Sg lt (arrOf st') sa (sa+na+nb)->Q true st'):wpS (model prog w) A E s (mergeAt' i) Q st:=by
 refine wpS_bind (wpS_get ?_);dsimp only;simp only [e1,e2];have hsA:(arrOf st).size=a₀.size:=h.size;refine wpS_bind (zpz ?_);refine wpS_bind (zC (h.at (i:=sb) (by omega)) ?_);refine wpS_bind (gal O (key:=G (arrOf st) sb) (hint:=0) h.kd (h.dd (by omega)) (fun j h1 h2=>⟨_,h.at (by omega),h.dd (by omega)⟩) (fun i j x y h1 h2 h3 ex ey=>by
  rw [h.at (by omega)] at ex ey;cases ex;cases ey;exact sA i j h1 h2 h3) (by omega) fun k hk g1 g2=>?_)
 dsimp only;have g1':∀ j,sa<=j->j<sa+k->lt (G (arrOf st) sb) (G (arrOf st) j)=false:=fun j h1 h2=>by
  have:=g1 j _ h1 h2 (h.at (by omega));simpa [bey] using this
 have g2':∀ j,sa+k<=j->j<sa+na->lt (G (arrOf st) sb) (G (arrOf st) j)=true:=fun j h1 h2=>by
  have:=g2 j _ h1 h2 (h.at (by omega));simpa [bey] using this
 by_cases c1:na - k=0
 ·rw [if_pos (by simpa using c1)];refine wpS_pure (q _ ⟨h.kd,h.fl,h.pm,h.d⟩ rfl (fun j _=>rfl) fun p r hp hpr hr=>?_);show lt (G (arrOf st) r) (G (arrOf st) p)=false;by_cases z1:r<sa+na
  ·exact sA p r hp hpr z1
  ·by_cases z2:p<sa+na
   ·exact O.tr _ _ _ (h.dd (by omega)) (h.dd (i:=sb) (by omega)) (h.dd (by omega)) (g1' p hp (by omega)) (sB sb r (Nat.le_refl _) (by omega) (by omega))
   ·exact sB p r (by omega) hpr (by omega)
 rw [if_neg (by simpa using c1)];have ei:sa+k+(na - k) - 1=sb - 1:=by omega
 rw [ei];refine wpS_bind (zC (h.at (i:=sb - 1) (by omega)) ?_);refine wpS_bind (gal O (key:=G (arrOf st) (sb - 1)) (hint:=nb - 1) h.kd (h.dd (by omega)) (fun j h1 h2=>⟨_,h.at (by omega),h.dd (by omega)⟩) (fun i j x y h1 h2 h3 ex ey=>by
  rw [h.at (by omega)] at ex ey;cases ex;cases ey;exact sB i j h1 h2 h3) (by omega) fun m hm f1 f2=>?_)
 dsimp only;have f1':∀ j,sb<=j->j<sb+m->lt (G (arrOf st) j) (G (arrOf st) (sb - 1))=true:=fun j h1 h2=>by
  have:=f1 j _ h1 h2 (h.at (by omega));simpa [bey] using this
 have f2':∀ j,sb+m<=j->j<sb+nb->lt (G (arrOf st) j) (G (arrOf st) (sb - 1))=false:=fun j h1 h2=>by
  have:=f2 j _ h1 h2 (h.at (by omega));simpa [bey] using this
 by_cases c2:m=0
 ·rw [if_pos (by simpa using c2)];refine wpS_pure (q _ ⟨h.kd,h.fl,h.pm,h.d⟩ rfl (fun j _=>rfl) fun p r hp hpr hr=>?_);show lt (G (arrOf st) r) (G (arrOf st) p)=false;by_cases z1:r<sa+na
  ·exact sA p r hp hpr z1
  ·by_cases z2:p<sa+na
   ·exact O.tr _ _ _ (h.dd (by omega)) (h.dd (i:=sb - 1) (by omega)) (h.dd (by omega)) (sA p (sb - 1) hp (by omega) (by omega)) (f2' r (by omega) (by omega))
   ·exact sB p r (by omega) hpr (by omega)
 rw [if_neg (by simpa using c2)];have xD:∀ x∈((arrOf st).extract (sa+k) sb).toList,D x:=fun x mx=>by
  obtain⟨r,r1,r2,rfl⟩:=zef (by omega) mx;exact h.dd (by omega)
 have yD:∀ x∈((arrOf st).extract sb (sb+m)).toList,D x:=fun x mx=>by
  obtain⟨r,r1,r2,rfl⟩:=zef (by omega) mx;exact h.dd (by omega)
 have xS:=zl3 (lt:=lt) (xs:=arrOf st) (lo:=sa+k) (hi:=sb) (by omega) fun p r h1 h2 h3=>sA p r (by omega) h2 (by omega);have yS:=zl3 (lt:=lt) (xs:=arrOf st) (lo:=sb) (hi:=sb+m) (by omega) fun p r h1 h2 h3=>sB p r (by omega) h2 (by omega);have xz:((arrOf st).extract (sa+k) sb).size=sb - (sa+k):=by simp; omega
 have yz:((arrOf st).extract sb (sb+m)).size=m:=by simp; omega
 have y0:∀ y,((arrOf st).extract sb (sb+m))[0]? = some y->∀ x∈((arrOf st).extract (sa+k) sb).toList,lt x y=false:=fun y ey x mx=>by
  rw [zkT (by omega) (by omega)] at ey;cases ey;obtain⟨r,r1,r2,rfl⟩:=zef (by omega) mx;exact O.asym _ _ (h.dd (by omega)) (h.dd (by omega)) (g2' r r1 (by omega))
 have xl:∀ x,((arrOf st).extract (sa+k) sb)[((arrOf st).extract (sa+k) sb).size - 1]? = some x->∀ y∈((arrOf st).extract sb (sb+m)).toList,lt x y=false:=fun x ex y my=>by
  rw [xz,zkT (by omega) (by omega)] at ex;cases ex;obtain⟨r,r1,r2,rfl⟩:=zef (by omega) my;rw [show sa+k+(sb - (sa+k) - 1)=sb - 1 by omega];exact O.asym _ _ (h.dd (by omega)) (h.dd (by omega)) (f1' r r1 r2)
 have fin:∀ (out:Array Keyed) (st':SortSt) (st1:SortSt),MDone lt (((arrOf st).extract (sa+k) sb).toList++((arrOf st).extract sb (sb+m)).toList) out.toList->sameSt st1 st'->arrOf st1=arrOf st->kindOf st1=kindOf st->failedOf st1=failedOf st->pendingOf st1=((pendingOf st).setIfInBounds i (sa,na+nb,pw)).eraseIdxIfInBounds (i+1) ->
   ∀ st2:SortSt,kindOf st2=kindOf st'->failedOf st2=failedOf st'->pendingOf st2=pendingOf st'->arrOf st2=List.foldl (fun a x=>a.setIfInBounds (sa+k+x.snd) x.fst) (arrOf st') out.toList.zipIdx->Q true st2/\failedOf st2=none:=fun out st' st1 hd hss ea1 ek1 ef1 ep1 st2 ek ef ep ea=>by
  obtain⟨s1,s2,s3,s4⟩:=hss;have hol:out.toList.length=sb - (sa+k)+m:=by
   have:=hd.1.length_eq;rw [List.length_append] at this;simp only [Array.length_toList] at this ⊢;omega
  rw [s2,ea1] at ea;have hw:=zfE (sa+k) out.toList 0 (arrOf st) (by omega);have ht:(arrOf st2).toList=(arrOf st).toList.take (sa+k)++out.toList++(arrOf st).toList.drop (sb+m):=by
   rw [ea];rw [Nat.add_zero] at hw;rw [hw];congr 2;omega
  have hpm:(arrOf st2).Perm (arrOf st):=by
   rw [Array.perm_iff_toList_perm,ht];have e0:(arrOf st).toList=(arrOf st).toList.take (sa+k)++(((arrOf st).extract (sa+k) sb).toList++((arrOf st).extract sb (sb+m)).toList)++(arrOf st).toList.drop (sb+m):=by
    rw [Array.toList_extract,Array.toList_extract,List.extract_eq_take_drop,List.extract_eq_take_drop,List.append_assoc,List.append_assoc,show sb+m - sb=m by omega];have q1:(arrOf st).toList.drop (sb+m)=((arrOf st).toList.drop sb).drop m:=by rw [List.drop_drop]
    rw [q1,List.take_append_drop];have q2:(arrOf st).toList.drop sb=((arrOf st).toList.drop (sa+k)).drop (sb - (sa+k)):=by rw [List.drop_drop]; congr 1; omega
    rw [q2,List.take_append_drop,List.take_append_drop]
   conv=>rhs; rw [e0]
   exact(hd.1.append_left _).append_right _
  have hTs:Ts kd D a₀ st2:=⟨ek.trans (s1.trans (ek1.trans h.kd)),ef.trans (s4.trans (ef1.trans h.fl)),hpm.trans h.pm,h.d⟩;have tl:((arrOf st).toList.take (sa+k)).length=sa+k:=by rw [List.length_take,Array.length_toList]; omega
  have gout:∀ j,j<sa+k\/sb+m<=j->G (arrOf st2) j=G (arrOf st) j:=fun j hj=>by
   unfold G;congr 1;rw [<- Array.getElem?_toList,<- Array.getElem?_toList,ht];rcases hj with hj | hj
   ·rw [List.append_assoc,List.getElem?_append_left (by omega),List.getElem?_take,if_pos hj]
   ·rw [List.getElem?_append_right (by rw [List.length_append,tl,hol]; omega),List.length_append,tl,hol,List.getElem?_drop];congr 1;omega
  have gin:∀ j,sa+k<=j->j<sb+m->∃ z,out.toList[j - (sa+k)]? = some z/\G (arrOf st2) j=z/\∃ r,sa+k<=r/\r<sb+m/\G (arrOf st) r=z:=fun j h1 h2=>by
   have hj:j - (sa+k)<out.toList.length:=by omega
   have ez:=List.getElem?_eq_getElem hj;refine⟨_,ez,znR ?_,?_⟩
   ·rw [ht,List.append_assoc,List.getElem?_append_right (by omega),tl,List.getElem?_append_left hj];exact ez
   ·have mz:=hd.1.mem_iff.mp (List.mem_of_getElem? ez);rcases List.mem_append.mp mz with mz | mz
    ·obtain⟨r,r1,r2,r3⟩:=zef (by omega) mz;exact⟨r,r1,by omega,r3⟩
    ·obtain⟨r,r1,r2,r3⟩:=zef (by omega) mz;exact⟨r,by omega,r2,r3⟩
  refine⟨q st2 hTs (ep.trans (s3.trans ep1)) (fun j hj=>gout j (by omega)) fun p r hp hpr hr=>?_,hTs.fl⟩;have up:∀ p q',sa<=p->p<sa+k->sb<=q'->q'<sb+nb->lt (G (arrOf st) q') (G (arrOf st) p)=false:=fun p q' p1 p2 q1 q2=>O.tr _ _ _ (h.dd (by omega)) (h.dd (i:=sb) (by omega)) (h.dd (by omega)) (g1' p p1 p2) (sB sb q' (Nat.le_refl _) q1 q2);have dn:∀ p q',sa<=p->p<sb->sb+m<=q'->q'<sb+nb->lt (G (arrOf st) q') (G (arrOf st) p)=false:=fun p q' p1 p2 q1 q2=>O.tr _ _ _ (h.dd (by omega)) (h.dd (i:=sb - 1) (by omega)) (h.dd (by omega)) (sA p (sb - 1) p1 (by omega) (by omega)) (f2' q' q1 q2);by_cases p1:p<sa+k
  ·rw [gout p (.inl p1)];by_cases r1:r<sa+k
   ·rw [gout r (.inl r1)];exact sA p r hp hpr (by omega)
   by_cases r2:sb+m<=r
   ·rw [gout r (.inr r2)];exact up p r hp p1 (by omega) (by omega)
   ·obtain⟨z,_,ez,t,t1,t2,t3⟩:=gin r (by omega) (by omega);rw [ez,<- t3];by_cases tb:t<sb
    ·exact sA p t hp (by omega) (by omega)
    ·exact up p t hp p1 (by omega) (by omega)
  by_cases p2:sb+m<=p
  ·rw [gout p (.inr p2),gout r (.inr (by omega))];exact sB p r (by omega) hpr (by omega)
  obtain⟨z,oz,ez,t,t1,t2,t3⟩:=gin p (by omega) (by omega);by_cases r2:sb+m<=r
  ·rw [gout r (.inr r2),ez,<- t3];by_cases tb:t<sb
   ·exact dn t r (by omega) tb r2 (by omega)
   ·exact sB t r (by omega) (by omega) (by omega)
  ·obtain⟨z',oz',ez',_⟩:=gin r (by omega) (by omega);rw [ez,ez'];exact zaH O hd.2 (fun x mx=>by
    rcases List.mem_append.mp (hd.1.mem_iff.mp mx) with mx | mx
    ·exact xD x mx
    ·exact yD x mx) (show p - (sa+k)<=r - (sa+k) by omega) oz oz'
 have xz1:1<=((arrOf st).extract (sa+k) sb).size:=by rw [xz]; omega
 have yz1:1<=((arrOf st).extract sb (sb+m)).size:=by rw [yz]; omega
 have xz1:1<=((arrOf st).extract (sa+k) sb).size:=by rw [xz]; omega
 have yz1:1<=((arrOf st).extract sb (sb+m)).size:=by rw [yz]; omega
 by_cases c3:na - k<=m
 ·rw [if_pos c3];refine wpS_bind (zif O h.kd xD yD xS yS xz1 yz1 y0 xl fun out st' hd hss=>?_);refine wpS_bind (wpS_modify (wpS_bind (wpS_get ?_)));obtain⟨z1,z2⟩:=fin out st' _ hd hss rfl rfl rfl rfl (setArr st' (List.foldl (fun a x=>a.setIfInBounds (sa+k+x.snd) x.fst) (arrOf st') out.toList.zipIdx)) rfl rfl rfl rfl;refine wpS_pure ?_;show Q (failedOf (setArr st' (List.foldl (fun a x=>a.setIfInBounds (sa+k+x.snd) x.fst) (arrOf st') out.toList.zipIdx))).isNone (setArr st' (List.foldl (fun a x=>a.setIfInBounds (sa+k+x.snd) x.fst) (arrOf st') out.toList.zipIdx));rw [z2];exact z1
 ·rw [if_neg c3];refine wpS_bind (zhV O h.kd xD yD xS yS xz1 yz1 y0 xl fun out st' hd hss=>?_);refine wpS_bind (wpS_modify (wpS_bind (wpS_get ?_)));obtain⟨z1,z2⟩:=fin out st' _ hd hss rfl rfl rfl rfl (setArr st' (List.foldl (fun a x=>a.setIfInBounds (sa+k+x.snd) x.fst) (arrOf st') out.toList.zipIdx)) rfl rfl rfl rfl;refine wpS_pure ?_;show Q (failedOf (setArr st' (List.foldl (fun a x=>a.setIfInBounds (sa+k+x.snd) x.fst) (arrOf st') out.toList.zipIdx))).isNone (setArr st' (List.foldl (fun a x=>a.setIfInBounds (sa+k+x.snd) x.fst) (arrOf st') out.toList.zipIdx));rw [z2];exact z1
def Stk(lt:Keyed->Keyed->Bool)(xs:Array Keyed):Nat->List (Nat×Nat×Nat)->Nat->Prop
 | s,[],e=>s=e
 | s,r :: p,e=>r.1=s/\1<=r.2.1/\Sg lt xs s (s+r.2.1)/\Stk lt xs (s+r.2.1) p e
theorem Stk.le{xs:Array Keyed}:∀ {p:List (Nat×Nat×Nat)} {s e:Nat},Stk lt xs s p e->s+p.length<=e
 | [],s,e,h=>by have:s=e:=h; simp; omega
 | r :: p,s,e,h=>by
  obtain⟨h1,h2,h3,h4⟩:=h;have:=Stk.le h4;rw [List.length_cons];omega
theorem Stk.mono{xs ys:Array Keyed}:∀ {p:List (Nat×Nat×Nat)} {s e:Nat},Stk lt xs s p e->(∀ i,s<=i->i<e->G ys i=G xs i)->Stk lt ys s p e
 | [],s,e,h,_=>h
 | r :: p,s,e,h,k=>by
  obtain⟨h1,h2,h3,h4⟩:=h;have:=Stk.le h4;refine⟨h1,h2,fun i j hi hij hj=>?_,Stk.mono h4 fun i hi hj=>k i (by omega) hj⟩;rw [k i (by omega) (by omega),k j (by omega) (by omega)];exact h3 i j hi hij hj
theorem Stk.push{xs:Array Keyed}{n w':Nat}:∀ {p:List (Nat×Nat×Nat)} {s e:Nat},Stk lt xs s p e->1<=n->Sg lt xs e (e+n)->Stk lt xs s (p++[(e,n,w')]) (e+n)
 | [],s,e,h,h1,h2=>by
  have:s=e:=h;subst this;exact⟨rfl,h1,h2,rfl⟩
 | r :: p,s,e,h,k1,k2=>by
  obtain⟨h1,h2,h3,h4⟩:=h;exact⟨h1,h2,h3,Stk.push h4 k1 k2⟩
theorem Stk.modLast{xs:Array Keyed}{pw:Nat}:∀ {p:List (Nat×Nat×Nat)} {s e:Nat},Stk lt xs s p e->∀ k,Stk lt xs s (p.modify k fun x=>(x.1,x.2.1,pw)) e
 | [],s,e,h,k=>by simpa using h
 | r :: p,s,e,h,0=>by
  obtain⟨h1,h2,h3,h4⟩:=h;exact⟨h1,h2,h3,h4⟩
 | r :: p,s,e,h,k+1=>by
  obtain⟨h1,h2,h3,h4⟩:=h;exact⟨h1,h2,h3,Stk.modLast h4 k⟩
theorem Stk.at{xs:Array Keyed}{sa na pw sb nb pw2:Nat}:∀ {p:List (Nat×Nat×Nat)} {s e i:Nat},Stk lt xs s p e->p[i]? = some (sa,na,pw)->p[i+1]? = some (sb,nb,pw2) ->
  s<=sa/\sb=sa+na/\1<=na/\1<=nb/\sb+nb<=e/\Sg lt xs sa (sa+na)/\Sg lt xs sb (sb+nb)/\∀ ys:Array Keyed,(∀ j,j<sa\/sa+na+nb<=j->G ys j=G xs j)->Sg lt ys sa (sa+na+nb)->Stk lt ys s ((p.set i (sa,na+nb,pw)).eraseIdx (i+1)) e
 | [],s,e,i,_,h1,_=>by simp at h1
 | r :: p,s,e,0,h,e1,e2=>by
  have er:r=(sa,na,pw):=by simpa using e1
  subst er;cases p with
  | nil=>simp at e2
  | cons r2 p =>
   have er2:r2=(sb,nb,pw2):=by simpa using e2
   subst er2;obtain⟨h1,h2,h3,h5,h6,h7,h8⟩:=h;have h1':sa=s:=h1;have h5':sb=s+na:=h5;subst h1';have hle:=Stk.le h8;have h6':1<=nb:=h6;have h2':1<=na:=h2;subst h5';have h8':Stk lt xs (sa+na+nb) p e:=h8;refine⟨Nat.le_refl _,rfl,h2',h6',by have:sa+na+nb+p.length<=e:=hle; omega,h3,h7,fun ys k1 k2=>?_⟩;refine⟨rfl,by show 1<=na+nb; omega,?_,?_⟩
   ·show Sg lt ys sa (sa+(na+nb));rw [<- Nat.add_assoc];exact k2
   ·show Stk lt ys (sa+(na+nb)) p e;rw [<- Nat.add_assoc];exact Stk.mono h8' fun i hi hj=>k1 i (.inr hi)
 | r :: p,s,e,i+1,h,e1,e2=>by
  obtain⟨h1,h2,h3,h4⟩:=h;obtain⟨q1,q2,q3,q4,q5,q6,q7,q8⟩:=Stk.at h4 (by simpa using e1) (by simpa using e2);refine⟨by omega,q2,q3,q4,q5,q6,q7,fun ys k1 k2=>?_⟩;refine⟨h1,h2,fun i j hi hij hj=>?_,q8 ys k1 k2⟩;rw [k1 i (.inl (by omega)),k1 j (.inl (by omega))];exact h3 i j hi hij hj
theorem zd7(O:LtOk prog w A E s kd D lt){a₀:Array Keyed}{i lo:Nat}{st:SortSt}{Q:Bool->SortSt->Prop}(h:Ts kd D a₀ st)(hs:Stk lt (arrOf st) 0 (pendingOf st).toList lo)(hlo:lo<=a₀.size)(hi:i+1<(pendingOf st).size)
  (q:∀ st',Ts kd D a₀ st'->Stk lt (arrOf st') 0 (pendingOf st').toList lo->(pendingOf st').size+1=(pendingOf st).size->(∀ j,lo<=j->G (arrOf st') j=G (arrOf st) j)->Q true st'):wpS (model prog w) A E s (mergeAt' i) Q st:=by
 obtain⟨⟨sa,na,pw⟩,g1⟩:∃ r,(pendingOf st)[i]? = some r:=⟨_,Array.getElem?_eq_getElem (by omega)⟩;obtain⟨⟨sb,nb,pw2⟩,g2⟩:∃ r,(pendingOf st)[i+1]? = some r:=⟨_,Array.getElem?_eq_getElem (by omega)⟩;obtain⟨q1,q2,q3,q4,q5,q6,q7,q8⟩:=Stk.at hs (i:=i) (by rw [<- Array.getElem?_toList] at g1; exact g1) (by rw [<- Array.getElem?_toList] at g2; exact g2);refine zhH O h g1 g2 q2 q3 q4 (by omega) q6 q7 fun st' hT hp hg hS=>?_;have hpl:(pendingOf st').toList=((pendingOf st).toList.set i (sa,na+nb,pw)).eraseIdx (i+1):=by
  rw [hp,Array.eraseIdxIfInBounds,dif_pos (by rw [Array.size_setIfInBounds]; exact hi),Array.toList_eraseIdx,Array.toList_setIfInBounds]
 refine q st' hT ?_ ?_ fun j hj=>hg j (.inr (by omega))
 ·rw [hpl];exact q8 _ hg hS
 ·have:=congrArg List.length hpl;rw [List.length_eraseIdx_of_lt (by simp; omega),List.length_set,Array.length_toList,Array.length_toList] at this;omega
theorem zmU(O:LtOk prog w A E s kd D lt){a₀:Array Keyed}{st:SortSt}{Q:Unit->SortSt->Prop}(h:Ts kd D a₀ st)(hp0:pendingOf st = #[])(h2:2<=a₀.size)
  (q:∀ st',Ts kd D a₀ st'->Sg lt (arrOf st') 0 a₀.size->Q () st'):wpS (model prog w) A E s sortRuns' Q st:=by
 rw [sortRuns'_eq];refine wpS_bind (wpS_get ?_);dsimp only;rw [h.size];generalize minRun' a₀.size a₀.size 0=mr;refine wpS_bind (wpS_mono (wpS_forRange (a:=0)
  (I:=fun k c st'=>∃ lo,c=(none,lo)/\k<=lo/\lo<=a₀.size/\Ts kd D a₀ st'/\Stk lt (arrOf st') 0 (pendingOf st').toList lo)
  (Q:=fun c st'=>∃ lo,c=(none,lo)/\lo=a₀.size/\Ts kd D a₀ st'/\Stk lt (arrOf st') 0 (pendingOf st').toList lo) ?step ?fin ⟨0,rfl,Nat.le_refl _,Nat.zero_le _,h,by rw [hp0]; rfl⟩) ?post)
 case fin =>
  rintro c st' ⟨lo,rfl,k1,k2,hT,hS⟩;exact⟨lo,rfl,by omega,hT,hS⟩
 case post =>
  rintro c st' ⟨lo,rfl,rfl,hT,hS⟩;dsimp only;have hz:=Stk.le hS;rw [Array.length_toList] at hz;refine wpS_bind (wpS_mono (wpS_forRange (a:=0)
   (I:=fun k c st2=>c=(none,())/\Ts kd D a₀ st2/\Stk lt (arrOf st2) 0 (pendingOf st2).toList a₀.size/\(pendingOf st2).size+k<=a₀.size+0\/c=(none,())/\Ts kd D a₀ st2/\Stk lt (arrOf st2) 0 (pendingOf st2).toList a₀.size/\(pendingOf st2).size<=1)
   (Q:=fun c st2=>c=(none,())/\Ts kd D a₀ st2/\Stk lt (arrOf st2) 0 (pendingOf st2).toList a₀.size/\(pendingOf st2).size<=1) ?stepF ?finF (.inl ⟨rfl,hT,hS,by omega⟩)) ?postF)
  case finF =>
   rintro c st2 (⟨rfl,h3,h4,h5⟩ | hh)
   ·exact⟨rfl,h3,h4,by omega⟩
   ·exact hh
  case stepF =>
   rintro k c st2 _ hk hh;have hh':c=(none,())/\Ts kd D a₀ st2/\Stk lt (arrOf st2) 0 (pendingOf st2).toList a₀.size/\((pendingOf st2).size+k<=a₀.size\/(pendingOf st2).size<=1):=by
    rcases hh with ⟨a1,a2,a3,a4⟩ | ⟨a1,a2,a3,a4⟩
    ·exact⟨a1,a2,a3,.inl (by omega)⟩
    ·exact⟨a1,a2,a3,.inr a4⟩
   obtain⟨rfl,h3,h4,h5⟩:=hh';refine wpS_bind (wpS_get ?_)
   try dsimp only
   by_cases d1:(pendingOf st2).size<=1
   ·rw [if_pos d1];exact wpS_pure ⟨rfl,h3,h4,d1⟩
   rw [if_neg d1];generalize hgen:(if (if (pendingOf st2).size - 2>0 then Option.map (fun x=>x.snd.fst) (pendingOf st2)[(pendingOf st2).size - 2 - 1]? else none).any (fun x=>decide (x<(pendingOf st2)[(pendingOf st2).size - 2+1]?.elim 0 fun x=>x.snd.fst))=true then (pendingOf st2).size - 2 - 1 else (pendingOf st2).size - 2)=ii;have hii:ii+1<(pendingOf st2).size:=by
    have hx:∀ (P:Prop) (_:Decidable P),(if P then (pendingOf st2).size - 2 - 1 else (pendingOf st2).size - 2)+1<(pendingOf st2).size:=fun P _=>by
     by_cases z:P
     ·rw [if_pos z]; omega
     ·rw [if_neg z]; omega
    rw [<- hgen];exact hx _ _
   refine wpS_bind (zd7 O h3 h4 (Nat.le_refl _) hii fun st5 h6 s6 z6 g6=>?_);simp only [Bool.not_true,Bool.false_eq_true,if_false];exact wpS_pure (.inl ⟨rfl,h6,s6,by omega⟩)
  case postF =>
   rintro c st2 ⟨rfl,h3,h4,h5⟩;dsimp only;refine wpS_pure (q st2 h3 ?_);cases hl:(pendingOf st2).toList with
   | nil =>
    rw [hl] at h4;have:0=a₀.size:=h4;omega
   | cons r rest =>
    have hr:rest=[]:=by
     have:=congrArg List.length hl;rw [Array.length_toList,List.length_cons] at this;exact List.eq_nil_of_length_eq_zero (by omega)
    rw [hl,hr] at h4;obtain⟨e1,e2,e3,e4⟩:=h4;have e4':0+r.2.1=a₀.size:=e4;rw [<- e4'];exact e3
 case step =>
  rintro k c st' _ hk ⟨lo,rfl,k1,k2,hT,hS⟩;dsimp only;by_cases c1:lo≥a₀.size
  ·rw [if_pos c1];exact wpS_pure ⟨lo,rfl,by omega,hT,hS⟩
  rw [if_neg c1];refine wpS_bind (zmt O (hT.tb lo) (by omega) (by omega) fun m st2 hT2 m1 m2 hS2=>?_);dsimp only;by_cases c2:m<mr
  ·rw [if_pos c2];refine wpS_bind (wpS_lift (wpAny_rule ⟨rfl,?_⟩));refine wpS_bind (zlv O hT2 (n:=min (a₀.size - lo) mr) (by omega) m1 (by omega) hS2 fun stN hTN hRun=>?_);simp only [Bool.not_true,Bool.false_eq_true,if_false];have n1:1<=min (a₀.size - lo) mr:=by omega
   have n2:lo+min (a₀.size - lo) mr<=a₀.size:=by omega
   generalize min (a₀.size - lo) mr=n at n1 n2 hRun;have hTs:Ts kd D a₀ stN:=⟨hTN.kd,hTN.fl,hTN.pm,hTN.d⟩;have hSN:Stk lt (arrOf stN) 0 (pendingOf stN).toList lo:=by
    rw [hTN.pe];exact Stk.mono hS fun i _ hi=>hTN.lo i hi
   refine wpS_bind (wpS_get ?_);have fin:∀ stM:SortSt,Ts kd D a₀ stM->Stk lt (arrOf stM) 0 (pendingOf stM).toList lo->(∀ j,lo<=j->G (arrOf stM) j=G (arrOf stN) j)->Stk lt (arrOf stM) 0 ((pendingOf stM).push (lo,n,0)).toList (lo+n):=fun stM hM hMS hMg=>by
    rw [Array.toList_push];refine Stk.push hMS n1 fun i j hi hij hj=>?_;rw [hMg i hi,hMg j (by omega)];exact hRun i j hi hij hj
   cases hbk:(pendingOf stN).back? with
   | none =>
    try dsimp only
    exact wpS_bind (wpS_modify (wpS_pure ⟨lo+n,rfl,by omega,by omega,⟨hTs.kd,hTs.fl,hTs.pm,hTs.d⟩,fin stN hTs hSN fun _ _=>rfl⟩))
   | some r =>
    obtain⟨s1,n1',w1⟩:=r
    try dsimp only
    generalize power' a₀.size (2*s1+n1') (2*s1+n1'+n1'+n) a₀.size=pw;refine wpS_bind (wpS_mono (wpS_forRange (a:=0)
     (I:=fun _ c stM=>c=(none,())/\Ts kd D a₀ stM/\Stk lt (arrOf stM) 0 (pendingOf stM).toList lo/\∀ j,lo<=j->G (arrOf stM) j=G (arrOf stN) j)
     (Q:=fun c stM=>c=(none,())/\Ts kd D a₀ stM/\Stk lt (arrOf stM) 0 (pendingOf stM).toList lo/\∀ j,lo<=j->G (arrOf stM) j=G (arrOf stN) j) ?stepM (fun _ _ hh=>hh) ⟨rfl,hTs,hSN,fun _ _=>rfl⟩) ?postM)
    case stepM =>
     rintro kk c stM _ _ ⟨rfl,hM,hMS,hMg⟩;refine wpS_bind (wpS_get ?_)
     try dsimp only
     by_cases d1:(pendingOf stM).size>1
     ·rw [if_pos d1];obtain⟨⟨oa,ob,oc⟩,og⟩:∃ r,(pendingOf stM)[(pendingOf stM).size - 2]? = some r:=⟨_,Array.getElem?_eq_getElem (by omega)⟩;rw [og];dsimp only;by_cases d2:oc<=pw
      ·rw [if_pos d2];exact wpS_pure ⟨rfl,hM,hMS,hMg⟩
      ·rw [if_neg d2];refine wpS_bind (zd7 O hM hMS k2 (by omega) fun st5 h5 s5 z5 g5=>?_);simp only [Bool.not_true,Bool.false_eq_true,if_false];exact wpS_pure ⟨rfl,h5,s5,fun j hj=>(g5 j hj).trans (hMg j hj)⟩
     ·rw [if_neg d1];exact wpS_pure ⟨rfl,hM,hMS,hMg⟩
    case postM =>
     rintro c stM ⟨rfl,hM,hMS,hMg⟩;dsimp only;refine wpS_bind (wpS_modify (wpS_bind (wpS_modify (wpS_pure ⟨lo+n,rfl,by omega,by omega,⟨hM.kd,hM.fl,hM.pm,hM.d⟩,?_⟩))));refine fin (setPending stM ((pendingOf stM).modify ((pendingOf stM).size - 1) fun x=>(x.1,x.2.1,pw))) ⟨hM.kd,hM.fl,hM.pm,hM.d⟩ ?_ hMg;show Stk lt (arrOf stM) 0 ((pendingOf stM).modify ((pendingOf stM).size - 1) fun x=>(x.1,x.2.1,pw)).toList lo;rw [Array.toList_modify];exact Stk.modLast hMS _
  ·rw [if_neg c2];have n1:1<=m:=m1;have n2:lo+m<=a₀.size:=by omega
   have hRun:=hS2;have hTN:=hT2;generalize m=n at n1 n2 hRun
   revert hTN hRun
   generalize st2=stN;intro hTN hRun;have hTs:Ts kd D a₀ stN:=⟨hTN.kd,hTN.fl,hTN.pm,hTN.d⟩;have hSN:Stk lt (arrOf stN) 0 (pendingOf stN).toList lo:=by
    rw [hTN.pe];exact Stk.mono hS fun i _ hi=>hTN.lo i hi
   refine wpS_bind (wpS_get ?_);have fin:∀ stM:SortSt,Ts kd D a₀ stM->Stk lt (arrOf stM) 0 (pendingOf stM).toList lo->(∀ j,lo<=j->G (arrOf stM) j=G (arrOf stN) j)->Stk lt (arrOf stM) 0 ((pendingOf stM).push (lo,n,0)).toList (lo+n):=fun stM hM hMS hMg=>by
    rw [Array.toList_push];refine Stk.push hMS n1 fun i j hi hij hj=>?_;rw [hMg i hi,hMg j (by omega)];exact hRun i j hi hij hj
   cases hbk:(pendingOf stN).back? with
   | none =>
    try dsimp only
    exact wpS_bind (wpS_modify (wpS_pure ⟨lo+n,rfl,by omega,by omega,⟨hTs.kd,hTs.fl,hTs.pm,hTs.d⟩,fin stN hTs hSN fun _ _=>rfl⟩))
   | some r =>
    obtain⟨s1,n1',w1⟩:=r
    try dsimp only
    generalize power' a₀.size (2*s1+n1') (2*s1+n1'+n1'+n) a₀.size=pw;refine wpS_bind (wpS_mono (wpS_forRange (a:=0)
     (I:=fun _ c stM=>c=(none,())/\Ts kd D a₀ stM/\Stk lt (arrOf stM) 0 (pendingOf stM).toList lo/\∀ j,lo<=j->G (arrOf stM) j=G (arrOf stN) j)
     (Q:=fun c stM=>c=(none,())/\Ts kd D a₀ stM/\Stk lt (arrOf stM) 0 (pendingOf stM).toList lo/\∀ j,lo<=j->G (arrOf stM) j=G (arrOf stN) j) ?stepM (fun _ _ hh=>hh) ⟨rfl,hTs,hSN,fun _ _=>rfl⟩) ?postM)
    case stepM =>
     rintro kk c stM _ _ ⟨rfl,hM,hMS,hMg⟩;refine wpS_bind (wpS_get ?_)
     try dsimp only
     by_cases d1:(pendingOf stM).size>1
     ·rw [if_pos d1];obtain⟨⟨oa,ob,oc⟩,og⟩:∃ r,(pendingOf stM)[(pendingOf stM).size - 2]? = some r:=⟨_,Array.getElem?_eq_getElem (by omega)⟩;rw [og];dsimp only;by_cases d2:oc<=pw
      ·rw [if_pos d2];exact wpS_pure ⟨rfl,hM,hMS,hMg⟩
      ·rw [if_neg d2];refine wpS_bind (zd7 O hM hMS k2 (by omega) fun st5 h5 s5 z5 g5=>?_);simp only [Bool.not_true,Bool.false_eq_true,if_false];exact wpS_pure ⟨rfl,h5,s5,fun j hj=>(g5 j hj).trans (hMg j hj)⟩
     ·rw [if_neg d1];exact wpS_pure ⟨rfl,hM,hMS,hMg⟩
    case postM =>
     rintro c stM ⟨rfl,hM,hMS,hMg⟩;dsimp only;refine wpS_bind (wpS_modify (wpS_bind (wpS_modify (wpS_pure ⟨lo+n,rfl,by omega,by omega,⟨hM.kd,hM.fl,hM.pm,hM.d⟩,?_⟩))));refine fin (setPending stM ((pendingOf stM).modify ((pendingOf stM).size - 1) fun x=>(x.1,x.2.1,pw))) ⟨hM.kd,hM.fl,hM.pm,hM.d⟩ ?_ hMg;show Stk lt (arrOf stM) 0 ((pendingOf stM).modify ((pendingOf stM).size - 1) fun x=>(x.1,x.2.1,pw)).toList lo;rw [Array.toList_modify];exact Stk.modLast hMS _
end
end L2
namespace L2
open PySem PySem.Spec PySem.Calls PyProof.Rows PySem.W
section
variable {prog:Program} {w:World} {A:Around} {E:Value->Shared->Prop} {s:Shared}
theorem zf0{a:Addr}{vs:List Value}{n:Nat}{kd:SortKind}{lt:Keyed->Keyed->Bool}{P:PySem.Fin->Shared->Prop}(ho:s.heap.get? a=some (seqObj "list" vs.toArray n))(hz:vs.length<=10000000)
  (hkd:∀ h3,KeptBut a s.heap h3->∀ (Q:SortKind->Shared->Prop),2<=vs.length->Q kd { s with heap:=h3 }->wpAny (model prog w) A (keyKind' vs.toArray) Q E { s with heap:=h3 })
  (hO:∀ h3,KeptBut a s.heap h3->LtOk prog w A E { s with heap:=h3 } kd (fun x=>x.1=x.2/\x.1∈vs) lt)
  (h:∀ h' c (out:List Value),KeptBut a s.heap h'->out.Perm vs->out.Pairwise (fun x y=>lt (y,y) (x,x)=false)->h'.get? a=some (seqObj "list" out.toArray c)->P (.done (.ret .none)) { s with heap:=h' }) :
  wpAny (model prog w) A (Builtin.«list.sort» ⟨[.ref a],[]⟩) P E s:=by
 have ha:a<s.heap.objs.size:=Heap.lt_size ho;have s1:=Heap.SameBut.update s.heap a (Obj.mapSeq fun _=>(#[]:Array Value));obtain⟨e1,ho1⟩:∃ e1,(s.heap.update a (Obj.mapSeq fun _=>(#[]:Array Value))).get? a=some (seqObj "list" #[] e1):=⟨_,get?_update_seq ho fun _=>#[]⟩;have keep:KeptBut a s.heap (((s.heap.update a (Obj.mapSeq fun _=>(#[]:Array Value))).push (seqObj "tuple" vs.toArray 0)).push (seqObj "list" #[] 0)):=fun b o nb e =>
  Heap.get?_push_of_some _ (Heap.get?_push_of_some _ ((s1.2 b nb).trans e))
 have ha3:(((s.heap.update a (Obj.mapSeq fun _=>(#[]:Array Value))).push (seqObj "tuple" vs.toArray 0)).push (seqObj "list" #[] 0)).get? a=some (seqObj "list" #[] e1):=Heap.get?_push_of_some _ (Heap.get?_push_of_some _ ho1);rw [list_sort_plain];refine wpAny_bind (listItems_at ho rfl ?_);refine wpAny_bind (listUpdate_at ho rfl ?_ (by rw [List.size_toArray,sizeLine_eq]; omega) (Nat.zero_le _));refine wpAny_bind (seqEpoch_at ho1 rfl ?_);refine wpAny_bind (wpAny_newTuple ?_ (by show vs.length<=_; rw [sizeLine_eq]; omega));refine wpAny_bind (wpAny_newList ?_ (Nat.zero_le _));refine wpAny_holding ?_;show wpAny (model prog w) A _ P E { s with heap:=((s.heap.update a (Obj.mapSeq fun _=>(#[]:Array Value))).push (seqObj "tuple" vs.toArray 0)).push (seqObj "list" #[] 0) };generalize ((s.heap.update a (Obj.mapSeq fun _=>(#[]:Array Value))).push (seqObj "tuple" vs.toArray 0)).push (seqObj "list" #[] 0)=h3 at keep ha3 ⊢;dsimp only;by_cases hn2:vs.toArray.size<2
 ·rw [if_pos hn2,if_pos hn2];refine wpAny_bind (wpAny_pure ?_);rw [StateT.run_pure];refine wpAny_bind (wpAny_pure ?_);dsimp only;have eo:(arrOf (SortSt.mk' general' (vs.toArray.zip vs.toArray) #[] 7 none)).map (·.2)=List.toArray vs:=by
   apply Array.toList_inj.mp;show ((vs.toArray.zip vs.toArray).map (·.2)).toList=vs;rw [Array.toList_map,Array.toList_zip,List.map_snd_zip (Nat.le_refl _)]
  rw [eo];have s2:=Heap.SameBut.update h3 a (Obj.mapSeq fun _=>List.toArray vs);obtain⟨c2,hc2⟩:∃ c2,(h3.update a (Obj.mapSeq fun _=>List.toArray vs)).get? a=some (seqObj "list" (List.toArray vs) c2):=⟨_,get?_update_seq ha3 fun _=>List.toArray vs⟩;refine wpAny_bind (seqEpoch_at ha3 rfl ?_);refine wpAny_bind (listUpdate_at ha3 rfl ?_ (Nat.zero_le _) (by show (List.toArray vs).size<=_; rw [List.size_toArray,sizeLine_eq]; omega));simp only [bne_self_eq_false,Bool.false_eq_true,if_false];refine wpAny_pure (h _ c2 vs (fun b o nb e=>(s2.2 b nb).trans (keep b o nb e)) (List.Perm.refl _) ?_ hc2);rw [List.size_toArray] at hn2
  match vs,hn2 with
  | [],_=>exact List.Pairwise.nil
  | [x],_=>exact List.pairwise_singleton _ _
 ·rw [if_neg hn2,if_neg hn2];rw [List.size_toArray] at hn2;refine wpAny_bind (hkd h3 keep _ (by omega) ?_);have O:=hO h3 keep;have hT:Ts kd (fun x:Keyed=>x.1=x.2/\x.1∈vs) (pairsOf vs) (SortSt.mk' kd (vs.toArray.zip vs.toArray) #[] 7 none):=⟨rfl,rfl,Array.Perm.refl _,fun x m=>by
   rw [pairsOf_toList] at m;exact mem_zip_self m⟩
  refine wpAny_bind (wpAny_mono (zmU O (Q:=fun _ st'=>Ts kd (fun x:Keyed=>x.1=x.2/\x.1∈vs) (pairsOf vs) st'/\Sg lt (arrOf st') 0 (pairsOf vs).size) hT rfl (by rw [pairsOf_size]; omega) fun st' a1 a2=>⟨a1,a2⟩) ?_ fun _ _ e=>e);rintro⟨⟨⟩,st'⟩ s' ⟨rfl,hT',hS'⟩;dsimp only;have hp:((arrOf st').toList.map (·.2)).Perm vs:=by
   have h1:=(Array.perm_iff_toList_perm.mp hT'.pm).map (·.2);rw [pairsOf_toList,List.map_snd_zip (Nat.le_refl _)] at h1;exact h1
  have hs:((arrOf st').toList.map (·.2)).Pairwise (fun x y=>lt (y,y) (x,x)=false):=by
   rw [List.pairwise_map,List.pairwise_iff_getElem];intro i j hi hj hij;have hi':i<(pairsOf vs).size:=by rw [<- hT'.size]; simpa using hi
   have hj':j<(pairsOf vs).size:=by rw [<- hT'.size]; simpa using hj
   have g1:=hT'.at hi';have g2:=hT'.at hj';rw [zak,List.getElem?_eq_getElem hi] at g1;rw [zak,List.getElem?_eq_getElem hj] at g2;have d1:=(hT'.dd hi').1;have d2:=(hT'.dd hj').1;rw [Option.some.inj g1,Option.some.inj g2];have z1:((G (arrOf st') i).2,(G (arrOf st') i).2)=G (arrOf st') i:=Prod.ext d1.symm rfl;have z2:((G (arrOf st') j).2,(G (arrOf st') j).2)=G (arrOf st') j:=Prod.ext d2.symm rfl;rw [z1,z2];exact hS' i j (Nat.zero_le _) (Nat.le_of_lt hij) hj'
  have eo:(arrOf st').map (·.2)=List.toArray ((arrOf st').toList.map (·.2)):=by
   apply Array.toList_inj.mp;rw [Array.toList_map]
  rw [eo];generalize (arrOf st').toList.map (·.2)=out at hp hs;have s2:=Heap.SameBut.update h3 a (Obj.mapSeq fun _=>List.toArray out);obtain⟨c2,hc2⟩:∃ c2,(h3.update a (Obj.mapSeq fun _=>List.toArray out)).get? a=some (seqObj "list" (List.toArray out) c2):=⟨_,get?_update_seq ha3 fun _=>List.toArray out⟩;refine wpAny_bind (seqEpoch_at ha3 rfl ?_);refine wpAny_bind (listUpdate_at ha3 rfl ?_ (Nat.zero_le _) (by show (List.toArray out).size<=_; rw [List.size_toArray,hp.length_eq,sizeLine_eq]; omega));rw [hT'.fl];simp only [bne_self_eq_false,Bool.false_eq_true,if_false];exact wpAny_pure (h _ c2 out (fun b o nb e=>(s2.2 b nb).trans (keep b o nb e)) hp hs hc2)
theorem zpZ{kd:SortKind}{x y:Keyed}{b:Bool}{st:SortSt}{Q:Option Bool->SortSt->Prop}(hk:kindOf st=kd)(h:wpAny (model prog w) A (keyLt' kd x.1 y.1) (fun c s'=>s'=s/\c=b) (fun _ _=>False) s)(q:Q (some b) st):wpS (model prog w) A E s (lt' x y) Q st:=by
 rw [lt'_eq];refine wpS_bind (wpS_get ?_);rw [hk];refine wpS_bind (wpS_lift (wpAny_attempt (wpAny_mono h (fun c s' hc=>?_) fun _ _ e=>e.elim)));obtain⟨rfl,rfl⟩:=hc;exact⟨rfl,wpS_pure q⟩
theorem zg0{vs:List Value}{ns:List Int}(hI:IntsAre vs ns):LtOk prog w A E s oneType' (fun x=>x.1=x.2/\x.1∈vs) (fun x y=>decide (numOf x.1<numOf y.1)) where
 ask:=fun x y st Q hx hy hk q=>by
  obtain⟨n,t,ex⟩:=hI.all _ hx.2;obtain⟨m,u,ey⟩:=hI.all _ hy.2;refine zpZ hk ?_ q;rw [keyLt'_oneType,ex,ey];exact oneLt_int ⟨rfl,rfl⟩
 asym:=fun x y _ _ h=>decide_eq_false (by have:=of_decide_eq_true h; omega)
 tr:=fun x y z _ _ _ h1 h2=>decide_eq_false (by have:=of_decide_eq_false h1; have:=of_decide_eq_false h2; omega)
theorem zgS{vs:List Value}{kd:SortKind}{lt:Keyed->Keyed->Bool}{P:PySem.Fin->Shared->Prop}(hz:vs.length<=10000000)
  (hkd:∀ (A':Around) (E':Value->Shared->Prop) h3,(∀ b o,s.heap.get? b=some o->h3.get? b=some o)->∀ (Q:SortKind->Shared->Prop),2<=vs.length->Q kd { s with heap:=h3 }->wpAny (model prog w) A' (keyKind' vs.toArray) Q E' { s with heap:=h3 })
  (hO:∀ (A':Around) (E':Value->Shared->Prop) h3,(∀ b o,s.heap.get? b=some o->h3.get? b=some o)->LtOk prog w A' E' { s with heap:=h3 } kd (fun x=>x.1=x.2/\x.1∈vs) lt)
  (h:∀ D h' c (out:List Value),s.heap.objs.size<=D->(∀ b o,s.heap.get? b=some o->h'.get? b=some o)->out.Perm vs->out.Pairwise (fun x y=>lt (y,y) (x,x)=false)->h'.get? D=some (seqObj "list" out.toArray c)->P (.done (.ret (.ref D))) { s with heap:=h' }) :
  wpAny (model prog w) A (newList vs >>= fun l=>holding [l] (call (.builtin "list.sort") [l] []) >>= fun _=>ret l) P E s:=by
 refine wpAny_bind (wpAny_newList ?_ (by show vs.length<=_; rw [sizeLine_eq]; omega));have hoL:(s.heap.push (seqObj "list" vs.toArray 0)).get? s.heap.objs.size=some (seqObj "list" vs.toArray 0):=Heap.get?_push_size _ rfl;have keep:∀ b o,s.heap.get? b=some o->(s.heap.push (seqObj "list" vs.toArray 0)).get? b=some o:=fun b o q=>Heap.get?_push_of_some _ q;show wpAny _ _ _ _ _ { s with heap:=s.heap.push (seqObj "list" vs.toArray 0) };refine wpAny_bind (wpAny_holding (wpAny_call_entry slot_list_sort ⟨_,hoL,rfl⟩ entry_list_sort ?body (args_list_sort _)))
 case body =>
  refine zf0 (s:={ s with heap:=s.heap.push (seqObj "list" vs.toArray 0) }) (kd:=kd) (lt:=lt) hoL hz (fun h3 k=>hkd _ _ h3 fun b o e=>k b o (Nat.ne_of_lt (Heap.lt_size e)) (keep b o e)) (fun h3 k=>hO _ _ h3 fun b o e=>k b o (Nat.ne_of_lt (Heap.lt_size e)) (keep b o e)) fun h' c out k1 hp hs k2=>?_;exact⟨_,rfl,wpAny_pure (h _ h' c out (Nat.le_refl _) (fun b o e=>k1 b o (Nat.ne_of_lt (Heap.lt_size e)) (keep b o e)) hp hs k2)⟩
theorem zhu{vs:List Value}{ns:List Int}(hI:IntsAre vs ns)(h2:2<=vs.length){Q:SortKind->Shared->Prop}(h:Q oneType' s):wpAny (model prog w) A (keyKind' vs.toArray) Q E s:=by
 match vs,hI,h2 with
 | v1 :: v2 :: r,hI,_ =>
  rw [keyKind_ints hI];exact wpAny_pure h
end
theorem zjg:∀ {vs:List Value} {ns:List Int},IntsAre vs ns->vs.map numOf=ns
 | _,_,.nil=>rfl
 | _,_,.cons n t h=>by rw [List.map_cons,zjg h]; rfl
theorem zeh:∀ {vs:List Value},(∀ v∈vs,∃ n t,v=Value.int n t)->IntsAre vs (vs.map numOf)
 | [],_=>.nil
 | v :: r,h=>by
  obtain⟨n,t,rfl⟩:=h v List.mem_cons_self;exact .cons n t (zeh fun x m=>h x (List.mem_cons_of_mem _ m))
theorem zfK{out vs:List Value}{ns:List Int}(hI:IntsAre vs ns)(hp:out.Perm vs)(hs:out.Pairwise (fun x y=>decide (numOf (y,y).1<numOf (x,x).1)=false)):IntsAre out (out.map numOf)/\(out.map numOf).Perm ns/\(out.map numOf).Pairwise (· <= ·):=by
 refine⟨zeh fun v m=>hI.all v (hp.mem_iff.mp m),?_,?_⟩
 ·have:=hp.map numOf
  rwa [zjg hI] at this
 ·rw [List.pairwise_map];exact hs.imp fun h=>by have:=of_decide_eq_false h; dsimp only at this; omega
def zn7:List V->Hp->VK->Prop:=fun xs H Q=>∃ p ob m,xs=[.ref p]/\H p=some (.frz ob (.dK m))/\∃ ns:List Int,m.map (·.1)=ns.map Sum.inl/\ns.length<=10000000/\∀ (l:Addr) (ms:List Int),H l=none->ms.Perm ns->ms.Pairwise (· <= ·)->Q (.ref l) (upd H l (.lst (ms.map V.int)))
theorem zj3{X:Cx}(hc:X.calm=true):CallR X (.builtin "sorted") zn7:=by
 intro zf s σ H xs us Q I r h;obtain⟨p,ob,m,rfl,hp,ns,em,hn,q⟩:=h;obtain⟨u,rfl,rx⟩:=vals1 r;cases rx;obtain⟨hne,hz,es,ep,vs,eo,kv,da⟩:=zgN I.hok hp;have hl:vs.length=m.length:=kv.length.symm;have hm:m.length=ns.length:=by have:=congrArg List.length em; simpa using this
 refine Calls.call_function_entry kind_sorted plain_sorted entry_sorted (args_sorted1 _) ?_;unfold Builtin.«sorted»;refine wpAny_bind (m:=checkCount "sorted" 1 1 _) (wpAny_pure ?_);refine wpAny_bind (PySem.W.kdu_collect (A:=X.A.in1) (PySem.W.kdl_dict (knd:=zaj X.prog X.w) (kvs:=vs) (ep:=ep) hne) (I.ok.hd hc) da (by rw [hl]; exact hz) fun h1 tk acc kp1 it=>?_);have ha:acc.size=m.length:=it.1.trans hl;have hv:Vals (ns.map V.int) acc.toList:=zl5 _ _ (by simp [ha,hm]) fun j x u ex eu=>by
  rw [List.getElem?_map] at ex;cases en:ns[j]? with
  | none=>rw [en] at ex; cases ex
  | some n =>
   rw [en] at ex;have ex':V.int n=x:=Option.some.inj ex;subst ex';obtain⟨k,y,e1,e2⟩:=it.2 j u (by rw [<- Array.getElem?_toList]; exact eu);have ek:(m.map (·.1))[j]? = some (Sum.inl n):=by rw [em,List.getElem?_map,en]; rfl
   rw [List.getElem?_map] at ek;cases emj:m[j]? with
   | none=>rw [emj] at ek; cases ek
   | some pr =>
    rw [emj] at ek;obtain⟨w,e3,_⟩:=kv.get emj;rw [e1] at e3;cases e3;have:=zpK e2;rw [show pr.1=Sum.inl n from Option.some.inj ek] at this;exact this
 have hI:=zaW hv;refine zgS (s:={ s with heap:=h1,toks:=tk }) (kd:=oneType') (lt:=fun x y=>decide (numOf x.1<numOf y.1)) (by rw [zch hI]; exact hn) (fun A' E' h3 _ Q h2 z=>zhu hI h2 z) (fun A' E' h3 _=>zg0 hI) fun D h' c out hD kp hp hs hg=>?_;obtain⟨o1,o2,o3⟩:=zfK hI hp hs;have I1:Inv X zf σ H { s with heap:=h1,toks:=tk }:=I.kept (t':=tk) kp1;refine⟨_,rfl,.ref D,_,I1.laid (t':=tk) kp hD (show ObjOk X.prog X.w _ h' D (.lst ((out.map numOf).map V.int)) from⟨?_,out,c,zbJ o1,hg⟩),rfl,q _ _ (I1.hok.fresh hD) o2 o3⟩;rw [List.length_map,o2.length_eq,sizeLine_eq];omega
def ziU:List XV->Sto->RX->Prop:=fun xs S R=>arg1 xs fun x=>∃ m:List (Key×PyData),x=.d (.dict (DD.pairs (.k m)))/\∃ ns:List Int,m.map (·.1)=ns.map Sum.inl/\ns.length<=10000000/\∀ ms:List Int,ms.Perm ns->ms.Pairwise (· <= ·)->R (.d (.list (ms.map PyData.int))) S
theorem HasM.keys{H:Hp}:∀ {m:List (Key×PyData)} {m':List (Key×V)},HasM H m m'->m'.map (·.1)=m.map (·.1)
 | [],_,q=>by
  have e:_=[]:=q;subst e;rfl
 | p :: r,_,⟨v,t,e,q,l⟩=>by
  subst e;rw [List.map_cons,List.map_cons,HasM.keys l]
theorem zmB:RC zn7 ziU:=fun h o H S xs vs R Q hs hx q c=>by
 obtain⟨x,rfl,m,rfl,ns,em,hn,q1⟩:=zaC q;obtain⟨v,rfl,hx1⟩:=hxs1 hx;obtain⟨a,ob,m',rfl,ea,hm⟩:=zgY.mp (show Has (vx h o H) _ _ from hx1);exact⟨a,ob,m',rfl,zR _ _ ea,ns,hm.keys.trans em,hn,fun l ms hl pm pw=>zgr hs (zcg ms) c (q1 ms pm pw) l hl⟩
end L2
namespace L2
open PySem PySem.Spec PyProof.Rows
end L2
namespace L2
open PySem PySem.Spec PySem.Calls PyProof.Rows
end L2
namespace L2
open PySem PySem.Spec PySem.Calls PyProof.Rows
section
variable {prog:Program} {w:World} {K:Type} [DecidableEq K] {knd:KeyKind prog w K}
theorem zln{A:Around}{E:Value->Shared->Prop}{s:Shared}{d:Addr}{kvs:List (K×Value)}{k:K}{key v:Value}{Q:Value->Shared->Prop}(hkey:knd.is k key=true)(hm:s.heap.DictOf knd d kvs)(hsz:kvs.length<=sizeLine)
  (h1:∀ x,valueAt kvs k=some x->Q x { s with toks:=s.toks+1 })
  (h2:valueAt kvs k=none->∀ h',h'.DictOf knd d (stored kvs k v)->Heap.SameBut d s.heap h'->Q v { s with heap:=h',toks:=s.toks+1 }):wpAny (model prog w) A (dictSetDefault d key v) Q E s:=by
 obtain⟨o',es',ep',ho',_,hd',_,hf⟩:=hm.mapOf;obtain⟨o,es,ep,ho,hc,hd,hk,hp,hn⟩:=hm;have eo:o=o':=Option.some.inj (ho.symm.trans ho');subst eo;have ee:es=es':=by
  have:=hd.symm.trans hd';injection this
 subst ee;have hes:es.size<=sizeLine:=by
  have e1:=hp.length;have e2:es.toList.length=es.size:=by simp
  omega
 have hv:=hf k;rw [findBy_of_findIdx?] at hv;unfold dictSetDefault
 try with_reducible refine wpAny_holding ?_
 refine wpAny_bind (knd.pyHash hkey ?_);refine wpAny_bind (wpAny_dictFind_of (s:={ s with toks:=s.toks+1 }) hkey ho hd hk ?_);have hidx:(es.findIdx? fun e=>knd.is k e.key)=kvs.findIdx? fun kv=>decide (kv.1=k):=by
  rw [<- hp.findIdx k]; obtain⟨l⟩:=es; simp
 cases hi:es.findIdx? fun e=>knd.is k e.key with
 | some i =>
  rw [hi] at hv;refine wpAny_bind (wpAny_dictEntries (s:={ s with toks:=s.toks+1 }) ho hd ?_);have hlt:i<es.size:=by
   have:=Array.findIdx?_eq_some_iff_getElem.mp hi;exact this.1
  have he:es[i]? = some es[i]:=Array.getElem?_eq_getElem hlt;replace hv:es[i]?.map (fun x=>x.val)=valueAt kvs k:=hv;rw [he] at hv ⊢;exact wpAny_bind (wpAny_rule (wpAny_pure (h1 _ hv.symm)))
 | none =>
  rw [hi] at hv;replace hv:none=valueAt kvs k:=hv;have hnot:k∉kvs.map (·.1):=not_mem_of_findIdx_none (hidx▸hi);have hany:¬ (kvs.any fun kv=>decide (kv.1=k))=true:=by
   rw [List.any_eq_true]; rintro⟨kv,hkv,he⟩;exact hnot (List.mem_map.mpr ⟨kv,hkv,of_decide_eq_true he⟩)
  refine wpAny_bind (wpAny_rule (wpAny_bind (wpAny_updateDictKeys (hz:=hes) (s:={ s with toks:=s.toks+1 }) ho hd (wpAny_pure (h2 hv.symm _ ⟨_,_,ep+1,Heap.get?_update_self _ ho (Obj.isFreed_of_dict (Obj.data_mapDictKeys hd _)),
   hc.mapDictKeys _,Obj.data_mapDictKeys hd _,hk.push hkey _,?_,?_⟩ (Heap.SameBut.update ..))))))
  ·rw [stored,if_neg hany];have:=hp.append hkey (knd.hash k) v;obtain⟨l⟩:=es;simpa using this
  ·rw [stored,if_neg hany,List.map_append,List.nodup_append];refine⟨hn,by simp,?_⟩;intro a ha b hb;simp only [List.map_cons,List.map_nil,List.mem_singleton] at hb;subst hb;exact fun e=>hnot (e▸ha)
theorem zhb{d:Addr}{k:K}{key:Value}(hkey:knd.is k key=true)(hd:(d == sysModules)=false)(v:Value):
  MeetsIn prog w (Builtin.«dict.setdefault» ⟨[.ref d,key,v],[]⟩) (fun _ R s=>∃ kvs,s.heap.DictOf knd d kvs/\kvs.length<=sizeLine/\(∀ x,valueAt kvs k=some x->R (.ok (.ret x)) { s with toks:=s.toks+1 }) /\
   (valueAt kvs k=none->∀ h',h'.DictOf knd d (stored kvs k v)->Heap.SameBut d s.heap h'->R (.ok (.ret v)) { s with heap:=h',toks:=s.toks+1 })) :=
 .of_wp fun A R s ⟨kvs,hm,hsz,h1,h2⟩=>by
  unfold Builtin.«dict.setdefault»;refine wpAny_bind ?_;unfold Builtin.Dict.keyAndDefault;refine wpAny_bind (wpAny_notOrdered_dict hm.typeIs ?_);show wpAny _ _ (pure (d,key,some v)) _ _ s;refine wpAny_pure ?_;simp only [hd,Bool.false_eq_true,if_false];refine wpAny_bind (zln hkey hm hsz (fun x e=>wpAny_pure ⟨x,rfl,h1 x e⟩) fun e h' d' sb=>wpAny_pure ⟨v,rfl,h2 e h' d' sb⟩)
end
section
variable {X:Cx} {zf:List (Addr×Obj)} {σ:St} {H:Hp} {s:Shared} {a:Addr} {kvs:List (Key×V)} {k:Key} {u r:Value} {v:V} {A:Around} {E:Value->Shared->Prop}
theorem zmW{Q:Value->Shared->Prop}(I:Inv X zf σ H s)(e:H a=some (.dK kvs))(hz:kvs.length<sizeLine)(ry:RelV (kV k) u)(rv:RelV v r)
  (h1:∀ x w' s',zh3 kvs k=some x->Inv X zf σ H s'->RelV x w'->Q w' s') (h2:zh3 kvs k=none->∀ s',Inv X zf σ (upd H a (.dK (zig kvs k v))) s'->Q r s') :
  wpAny (model X.prog X.w) A (call (.builtin "dict.setdefault") [.ref a,u,r]) Q E s:=by
 obtain⟨z,hd,vs,rel,dd⟩:=zq1 I.hok e;have hl:(zig kvs k v).length<=sizeLine:=by have:=zeT kvs k v; omega
 refine call_meetsIn PySem.F.slot_dict_setdefault dd.typeIs PySem.F.entry_dict_setdefault (PySem.F.args_dict_setdefault_3 _ _ _) (zhb (knd:=zaj X.prog X.w) (zpf ry) hd r) ⟨vs,dd,by rw [<- rel.length]; exact z,fun x ex=>?_,fun en h' dd' hs=>?_⟩
 ·have:=rel.val k;rw [ex] at this;cases ev:zh3 kvs k with
  | none=>rw [ev] at this; exact absurd this (fun z=>nomatch z)
  | some y =>
   rw [ev] at this;exact h1 y x _ ev (I.tok _) this
 ·have:=rel.val k;rw [en] at this;have ev:zh3 kvs k=none:=by
   cases ev:zh3 kvs k with
   | none=>rfl
   | some y=>rw [ev] at this; exact absurd this (fun z=>nomatch z)
  have he:∃ q,h'.get? a=some q:=let ⟨q,_,_,hq,_⟩:=dd'; ⟨q,hq⟩;exact h2 ev _ (zks I (by rw [e]; exact True.intro) hs he (zoh hl hd (rel.put k rv) dd'))
end
def zqc(td ty tx:TE):TE:=fun σ H Q=>td σ H fun x H1=>∃ a,x=.ref a/\IsD H1 a/\ty σ H1 fun y H2=>tx σ H2 fun z H3=>∃ kvs k,H3 a=some (.dK kvs)/\kvs.length<sizeLine/\y=kV k/\(∀ v,zh3 kvs k=some v->Q v H3)/\(zh3 kvs k=none->Q z (upd H3 a (.dK (zig kvs k z))))
theorem zpk{X:Cx}{o e f:Expr}{apos cpos:Pos}{td ty tx:TE}(ho:PE X o td)(he:PE X e ty)(hf:PE X f tx)(m:M2 X o "setdefault" apos e f cpos):PE X (.Call (.Attribute o "setdefault" apos) [e,f] [] cpos) (zqc td ty tx):=by
 intro zf s σ H Q I h;refine wpAny_Call_method m.base m.few m.line PySem.F.plainAttrs_dict PySem.F.slot_dict_setdefault PySem.F.type_dict_setdefault (thn (ho zf s σ H _ I h) fun u s1 ⟨x,H1,I1,rx,a,ex,d,q1⟩=>?_);subst ex;obtain rfl:u=Value.ref a:=rx;obtain⟨t1,t2,_⟩:=zp1 I1 d;refine⟨t1,t2,?_⟩;rw [m.trees];refine Calls.callWith_builtin rfl (Calls.evalArgs_plain (Calls.spliced_cons (thn (he zf s1 σ H1 _ I1 q1) fun iv s2 ⟨y,H2,I2,ry,q2⟩ =>
  Calls.spliced_cons (thn (hf zf s2 σ H2 _ I2 q2) fun fv s3 ⟨z,H3,I3,rz,kvs,k,ea,hz,ey,q3,q4⟩=>Calls.spliced_nil ?_))))
 subst ey;exact zmW I3 ea hz ry rz (fun x w' s' ex I4 rw'=>⟨x,H3,I4,rw',q3 x ex⟩) fun en s' I4=>⟨z,_,I4,rz,q4 en⟩
def zmN(j:Nat)(dk dv:DM->DE):DSm:=fun En δ S M=>zn j δ S fun y S1=>∃ a m,y=.o (.ref a)/\(a,DD.k m)∈M/\dk M δ S1 fun z S2=>dv M δ S2 fun x S3=>asD z fun k=>asD x fun d=>∃ kk,zr9 k=some kk/\m.length<1000/\if (lkA m kk).isSome=true then En.nx δ S3 M else En.nx δ S3 (zpE M a (.k (ptA m kk d)))
theorem zqk{E:XK}{EX:EXD}{j:Nat}{ty tv:TE}{dk dv:DM->DE}(hk:∀ M,REp (PhM M) ty (dk M))(hv:∀ M,REp (PhM M) tv (dv M)):RSm E EX (znG (zqc (zjx j) ty tv)) (zmN j dk dv):=fun h o0 H0 o H δ σ S M En D e0 fr he hs rm q c x=>by
 obtain⟨y1,ey,a,m,rfl,mD,d2⟩:=q;obtain⟨v1,ev,hv1⟩:=he.get j _ ey;have ev1:v1=.ref a:=hv1;subst ev1;refine⟨_,ev,a,rfl,?_,hk M (h++ad M) o H δ σ S _ _ he hs d2 (fun o1 H1 S1 z u e1 s1 z1 d3=>hv M (h++ad M) o1 H1 δ σ S1 _ _ (he.mono e1) s1 d3 (fun o2 H2 S2 y v e2 s2 x2 d4=>?_) ⟨h,rfl,rm.mono e1⟩) ⟨h,rfl,rm⟩⟩
 ·obtain⟨m0,z0,_⟩:=rm.ct a (.k m) mD;exact .inl ⟨m0,.inl z0⟩
 ·replace d4:=zep d4;obtain⟨k,rfl,d4⟩:=d4;obtain⟨d,rfl,kk,ek,hl,n⟩:=zep d4;have e12:=e1.trans e2;have rm2:=rm.mono e12;have ma:a∈ad M:=List.mem_map.mpr ⟨_,mD,rfl⟩;obtain⟨m',e3,l⟩:=rm2.ct a (.k m) mD;have mh:a∈h++ad M:=List.mem_append_right _ ma;have z2:Has (vx (h++ad M) o2 H2) k u:=z1.mono e2;have hml:m'.length<sizeLine:=by rw [l.length]; exact small1000 (Nat.le_of_lt hl)
  refine⟨m',kk,e3,hml,znu ek z2,fun w ew=>?_,fun en=>?_⟩
  ·rcases l.val kk with ⟨y1,y2⟩ | ⟨d',w',y1,y2,y3⟩
   ·rw [y2] at ew; cases ew
   ·rw [y1] at n;exact c.nx o2 H2 δ S2 M σ (e0.trans e12) rfl (he.mono e12) s2 rm2 n
  ·rcases l.val kk with ⟨y1,y2⟩ | ⟨d',w',y1,y2,y3⟩
   ·rw [y1] at n;have fin:∀ H',H' a=some (MO.k (zig m' kk v)).ho->DAt (vx (h++ad M) o2 H2) H' a (.k (ptA m kk d)):=fun H' z=>⟨_,z,l.put x2⟩;refine c.nx o2 _ δ S2 (zpE M a (.k (ptA m kk d))) σ ⟨(e0.trans e12).pre,fun b w' nb zb=>?_⟩ zeL ?_ ?_ (rm2.put mD fin) n
    ·obtain⟨z1,z3⟩:=(e0.trans e12).kp b w' nb zb;exact⟨z1,by rw [zw (fun z=>by rw [z,fr a ma] at zb; cases zb)]; exact z3⟩
    ·rw [zeL];exact(he.mono e12).view (zeM mh)
    ·rw [zeL];exact s2.hidden (u:=.k (zig m' kk v)) mh
   ·rw [y2] at en; cases en
def ziO(k:Int)(e:DE):DE:=fun δ S R=>e δ S fun x S1=>asD x fun d=>R (.d (.dict [(.int k,d)])) S1
theorem znv{k:Int}{te:TE}{de:DE}(he':RE te de):RE (zrC (zqP [(tC (.int k),te)])) (ziO k de):=fun h o H δ σ S R Q he hs q c p hp=>by
 have f1:=hs.fresh hp;have sv:Same (vx h o H) (vx (h++[p]) o (upd H p (.dK []))):=fun b w z=>by
  obtain⟨z1,z2,z3⟩:=zM.mp z;have ne:b≠p:=zG z3 hp;exact zM.mpr ⟨fun m=>(List.mem_append.mp m).elim z1 fun m=>ne (List.mem_singleton.mp m),z2,by rw [zw ne]; exact z3⟩
 have s1:RepS (h++[p]) o (upd H p (.dK [])) S:=by
  refine⟨hs.len,hs.nd,fun a ma z=>?_,fun b mb=>?_,fun k b ds e1 e2=>?_⟩
  ·rcases List.mem_append.mp z with z | z
   ·exact hs.dis a ma z
   ·rw [List.mem_singleton.mp z] at ma;exact f1.2 ma
  ·rcases List.mem_append.mp mb with m | m
   ·obtain⟨w,ew⟩:=hs.hal b m;exact⟨w,Same.laid hp _ _ ew⟩
   ·rw [List.mem_singleton.mp m];exact⟨.k [],zH⟩
  ·obtain⟨vs,e3,l⟩:=hs.cont k b ds e1 e2;exact⟨vs,Same.laid hp _ _ e3,HasL.mono sv _ _ l⟩
 refine he' (h++[p]) o (upd H p (.dK [])) δ σ S _ _ (he.to sv) s1 q fun o1 H1 S1 x v e1 s2 x1 d1=>?_;replace d1:=zep d1;obtain⟨d,rfl,d1⟩:=d1;obtain⟨np,ep⟩:=e1.kp p _ f1.2 zH;refine⟨ep,[(Sum.inl k,v)],rfl,by simp,p,zej [] [(Sum.inl k,v)],rfl,zH,fun ob=>?_⟩;rw [zia];have sw:Same (vx (h++[p]) o1 H1) (vx h o1 (upd H1 p (.frz ob (.dK (zej [] [(Sum.inl k,v)]))))):=fun b w z=>by
  obtain⟨z1,z2,z3⟩:=zM.mp z;have ne:b≠p:=fun z=>z1 (z▸List.mem_append_right _ (List.mem_singleton.mpr rfl));exact zM.mpr ⟨fun m=>z1 (List.mem_append_left _ m),z2,by rw [zw ne]; exact z3⟩
 refine c o1 _ S1 (.d (.dict (DD.pairs (.k [(Sum.inl k,d)])))) _ ⟨e1.pre,fun b w nb eb=>?_⟩ ?_ ?_ d1
 ·have ne:b≠p:=zG eb hp;obtain⟨z1,z2⟩:=e1.kp b w nb (by rw [zw ne]; exact eb);exact⟨z1,by rw [zw ne]; exact z2⟩
 ·refine⟨s2.len,s2.nd,fun a ma z=>s2.dis a ma (List.mem_append_left _ z),fun b mb=>?_,fun k b ds e1 e2=>?_⟩
  ·obtain⟨w,ew⟩:=s2.hal b (List.mem_append_left _ mb);exact⟨w,by rw [zw (fun z:b=p=>f1.1 (z▸mb))]; exact ew⟩
  ·obtain⟨vs,e3,l⟩:=s2.cont k b ds e1 e2;have mb:b∈o1:=List.mem_of_getElem? e1;exact⟨vs,by rw [zw (fun z:b=p=>np (z▸mb))]; exact e3,HasL.mono sw _ _ l⟩
 ·show Has _ _ _;exact zgY.mpr ⟨p,ob,zej [] [(Sum.inl k,v)],rfl,zM.mpr ⟨f1.1,np,zH⟩,⟨v,[],rfl,Has.mono sw _ _ x1,rfl⟩⟩
end L2
namespace L2
open PySem PySem.Spec PySem.Calls PyProof.Rows
end L2
namespace L2
open PySem PySem.Spec PyProof.Rows
end L2
namespace L2
theorem len0{α:Type}{l:List α}(h:l.length=0):l=[]:=List.eq_nil_of_length_eq_zero h
theorem len1{α:Type}{l:List α}(h:l.length=1):∃ a0,l=[a0]:=by
 cases l with
 | nil=>cases h
 | cons x r =>
  obtain rfl:=len0 (Nat.succ.inj h);exact⟨x,rfl⟩
theorem len2{α:Type}{l:List α}(h:l.length=2):∃ a0 a1,l=[a0,a1]:=by
 cases l with
 | nil=>cases h
 | cons x r =>
  obtain⟨a1,rfl⟩:=len1 (Nat.succ.inj h);exact⟨x,a1,rfl⟩
theorem len3{α:Type}{l:List α}(h:l.length=3):∃ a0 a1 a2,l=[a0,a1,a2]:=by
 cases l with
 | nil=>cases h
 | cons x r =>
  obtain⟨a1,a2,rfl⟩:=len2 (Nat.succ.inj h);exact⟨x,a1,a2,rfl⟩
theorem len4{α:Type}{l:List α}(h:l.length=4):∃ a0 a1 a2 a3,l=[a0,a1,a2,a3]:=by
 cases l with
 | nil=>cases h
 | cons x r =>
  obtain⟨a1,a2,a3,rfl⟩:=len3 (Nat.succ.inj h);exact⟨x,a1,a2,a3,rfl⟩
theorem len5{α:Type}{l:List α}(h:l.length=5):∃ a0 a1 a2 a3 a4,l=[a0,a1,a2,a3,a4]:=by
 cases l with
 | nil=>cases h
 | cons x r =>
  obtain⟨a1,a2,a3,a4,rfl⟩:=len4 (Nat.succ.inj h);exact⟨x,a1,a2,a3,a4,rfl⟩
end L2
namespace L2
open PySem PySem.Spec PyProof.Rows
section
open Sem (wp)
theorem zhd(a v:Value):argsOk "min" ⟨[a],[(Str.ofString "default",v)]⟩:=by unfold argsOk; kernel_rfl
section
variable {prog:Program} {w:World} {A:Around} {R:Result->Shared->Prop} {I:Addr} {fp wr:List Addr} {n:Nat} {P:Nat->Value->Prop} {St:Nat->Heap->Prop}
theorem zlW{kw:List (Str×Value)}(W:Walks prog w A.in1 I fp wr n P St)(bt:Nat->Nat->Bool){g:Heap}(S:Addr)(cm:CmpH prog w A.in1 g (S :: wr) P bt)(nS:S∉fp):∀ (d j:Nat) (s:Shared) (best:Value) (c:Nat),n=j+1+d->(∀ b o,b∉S :: wr->g.get? b=some o->s.heap.get? b=some o)->St (j+1) s.heap->P (argBest bt j) best ->
   s.heap.get? S=some { cls:=.type "list",dict:=none,data:=.seq #[best,best] c,slots:=#[] } ->
   (∀ v h' tk,P (argBest bt (n - 1)) v->(∀ b o,b∉S :: wr->s.heap.get? b=some o->h'.get? b=some o)->R (.ok (.ret v)) { s with heap:=h',toks:=tk })->codeAny (model prog w) A (.builtin "min.loop" ⟨[.ref I,.none,.ref S],kw⟩) R s:=by
 have nw:S∉wr:=fun m=>nS (W.sub _ m);have nm:(toString "min" ++ toString ".loop":String) = "min.loop":=by decide
 intro d;induction d with
 | zero =>
  intro j s best c hd kg st hb hS fin;have hj:j+1=n:=by omega
  refine codeAny_builtin F.entry_min_loop ?_;rw [Around.under_plainId F.plain_min_loop _];show wpAny _ A.in1 (seqItems? (.ref S) >>= _) _ _ s;refine wpAny_bind (wpAny_seqItems hS rfl ?_);show wpAny _ A.in1 (tryCatch (pyNext (.ref I)) _ >>= _) _ _ s;refine wpAny_bind (wpAny_tryCatch (W.done s _ _ (by rw [<- hj]; exact st) fun h1 t1 k1=>?_));have hS1:=k1 S _ nw hS;show wpAny _ A.in1 (updateSeq S (fun _=>#[]) >>= _) _ _ _;refine wpAny_bind (wpAny_updateSeq hS1 rfl (wpAny_bind (wpAny_letGo (wpAny_pure (fin best _ t1 (by rw [<- hj]; exact hb) fun b o hn e=>?_)))));rw [List.mem_cons,not_or] at hn;exact(Heap.get?_update_other _ _ (Ne.symm hn.1)).trans (k1 b o hn.2 e)
 | succ d ih =>
  intro j s best c hd kg st hb hS fin;refine codeAny_builtin F.entry_min_loop ?_;rw [Around.under_plainId F.plain_min_loop _];show wpAny _ A.in1 (seqItems? (.ref S) >>= _) _ _ s;refine wpAny_bind (wpAny_seqItems hS rfl ?_);show wpAny _ A.in1 (tryCatch (pyNext (.ref I)) _ >>= _) _ _ s;refine wpAny_bind (wpAny_tryCatch (W.item (j+1) s _ _ (by omega) st fun x h1 t1 hx st1 k1=>?_));have hS1:=k1 S _ nw hS;have kg1:∀ b o,b∉S :: wr->g.get? b=some o->h1.get? b=some o:=fun b o hn e=>k1 b o (fun m=>hn (List.mem_cons_of_mem _ m)) (kg b o hn e);show wpAny _ A.in1 (tryCatch (holding [x,x] (richCompare .Lt x best >>= _)) _ >>= _) _ _ _;refine wpAny_bind (wpAny_tryCatch (wpAny_holding (wpAny_bind (cm (j+1) (argBest bt j) x best _ _ _ kg1 hx hb (wpAny_bind (wpAny_holding (wpAny_truthy_bool (wpAny_bind (wpAny_letGo (wpAny_pure ?_)))))))))) ;cases ht:bt (j+1) (argBest bt j) with
  | true =>
   simp only [if_true];refine wpAny_bind (wpAny_updateSeq hS1 rfl (wpAny_bind (wpAny_letGo ?_)));rw [nm];have keep:∀ b o,b∉S :: wr->s.heap.get? b=some o->(h1.update S (Obj.mapSeq fun _=>#[x,x])).get? b=some o:=fun b o hn e=>by
    rw [List.mem_cons,not_or] at hn;exact(Heap.get?_update_other _ _ (Ne.symm hn.1)).trans (k1 b o hn.2 e)
   refine wpAny_pure ⟨plainId_quiet F.plain_min_loop _,ih (j+1) _ x _ (by omega) (fun b o hn e=>keep b o hn (kg b o hn e)) (W.frame _ _ _ st1 fun b m o e=>?_) (by simp only [argBest,ht,if_true]; exact hx) (Heap.get?_update_self _ hS1 rfl) fun v h2 t2 hv k2=>fin v h2 t2 hv fun b o hn e=>k2 b o hn (keep b o hn e)⟩;exact(Heap.get?_update_other _ _ (fun z:S=b=>nS (by rw [z]; exact m))).trans e
  | false =>
   simp only [Bool.false_eq_true,if_false];refine wpAny_bind (wpAny_letGo ?_);rw [nm];exact wpAny_pure ⟨plainId_quiet F.plain_min_loop _,ih (j+1) _ best c (by omega) kg1 st1 (by simp only [argBest,ht,Bool.false_eq_true,if_false]; exact hb) hS1 fun v h2 t2 hv k2=>fin v h2 t2 hv fun b o hn e=>k2 b o hn (k1 b o (fun m=>hn (List.mem_cons_of_mem _ m)) e)⟩
theorem zkc{kw:List (Str×Value)}(W:Walks prog w A.in1 I fp wr n P St)(bt:Nat->Nat->Bool)(S:Addr)(nS:S∉fp)(hn:0<n){s:Shared}{c:Nat}(cm:CmpH prog w A.in1 s.heap (S :: wr) P bt)(st:St 0 s.heap)(hS:s.heap.get? S=some { cls:=.type "list",dict:=none,data:=.seq #[] c,slots:=#[] })
  (fin:∀ v h' tk,P (argBest bt (n - 1)) v->(∀ b o,b∉S :: wr->s.heap.get? b=some o->h'.get? b=some o)->R (.ok (.ret v)) { s with heap:=h',toks:=tk }):codeAny (model prog w) A (.builtin "min.loop" ⟨[.ref I,.none,.ref S],kw⟩) R s:=by
 have nw:S∉wr:=fun m=>nS (W.sub _ m);have nm:(toString "min" ++ toString ".loop":String) = "min.loop":=by decide
 refine codeAny_builtin F.entry_min_loop ?_;rw [Around.under_plainId F.plain_min_loop _];show wpAny _ A.in1 (seqItems? (.ref S) >>= _) _ _ s;refine wpAny_bind (wpAny_seqItems hS rfl ?_);show wpAny _ A.in1 (tryCatch (pyNext (.ref I)) _ >>= _) _ _ s;refine wpAny_bind (wpAny_tryCatch (W.item 0 s _ _ hn st fun x h1 t1 hx st1 k1=>?_));have hS1:=k1 S _ nw hS;show wpAny _ A.in1 (updateSeq S (fun _=>#[x,x]) >>= _) _ _ _;refine wpAny_bind (wpAny_updateSeq hS1 rfl ?_);rw [nm];have keep:∀ b o,b∉S :: wr->s.heap.get? b=some o->(h1.update S (Obj.mapSeq fun _=>#[x,x])).get? b=some o:=fun b o hn e=>by
  rw [List.mem_cons,not_or] at hn;exact(Heap.get?_update_other _ _ (Ne.symm hn.1)).trans (k1 b o hn.2 e)
 refine wpAny_pure ⟨plainId_quiet F.plain_min_loop _,zlW W bt S cm nS (n - 1) 0 _ x _ (by omega) keep (W.frame _ _ _ st1 fun b m o e=>?_) hx (Heap.get?_update_self _ hS1 rfl) fun v h2 t2 hv k2=>fin v h2 t2 hv fun b o hn e=>k2 b o hn (keep b o hn e)⟩;exact(Heap.get?_update_other _ _ (fun z:S=b=>nS (by rw [z]; exact m))).trans e
end
section
variable {prog:Program} {w:World} {A:Around} {E:Value->Shared->Prop} {s:Shared}
theorem zli{l:Addr}{dv:Value}{its:Array Value}{Q:Value->Shared->Prop}(hh:A.handled=none)(hl:s.heap.IsList l its)(hne:0<its.size)(bt:Nat->Nat->Bool)
  (cm:∀ i j x y (s':Shared) (Q:Value->Shared->Prop) (E:Value->Shared->Prop),(∀ b o,s.heap.get? b=some o->s'.heap.get? b=some o)->its[i]? = some x->its[j]? = some y->Q (.bool (bt i j)) s'->wpAny (model prog w) A.in1 (richCompare .Lt x y) Q E s')
  (fin:∀ v h' tk,its[argBest bt (its.size - 1)]? = some v->(∀ b o,s.heap.get? b=some o->h'.get? b=some o)->Q v { s with heap:=h',toks:=tk }):wpAny (model prog w) A (call (.builtin "min") [.ref l] [(Str.ofString "default",dv)]) Q E s:=by
 have nm:(toString "min" ++ toString ".loop":String) = "min.loop":=by decide
 have lt:l<s.heap.objs.size:=by obtain⟨o,e,_⟩:=hl; exact Heap.lt_size e
 refine kmk_tree F.kind_min F.plain_min F.entry_min (zhd _ _) ?_;show wpAny _ A.in1 (Builtin.Builtins.bindParams "min" ["key","default"] 0 ⟨[],[(Str.ofString "default",dv)]⟩ >>= _) _ _ s;refine wpAny_bind (wpAny_of_eq (show Builtin.Builtins.bindParams "min" ["key","default"] 0 ⟨[],[(Str.ofString "default",dv)]⟩=pure [none,some dv] from rfl) (wpAny_bind (wpAny_pure (wpAny_bind (wpAny_pyIter_list hl ?_)))));refine wpAny_bind (wpAny_newObj_type ?_);rw [nm];have z1:(s.heap.push { cls:=.type "list_iterator",data:=.fields #[.ref l,.int 0 0] }).objs.size=s.heap.objs.size+1:=Heap.size_push ..;have nS:(s.heap.push { cls:=.type "list_iterator",data:=.fields #[.ref l,.int 0 0] }).objs.size∉[s.heap.objs.size,l]:=by
  rw [z1];simp only [List.mem_cons,List.not_mem_nil,or_false,not_or];exact⟨Nat.succ_ne_self _,Nat.ne_of_gt (Nat.lt_succ_of_lt lt)⟩
 have up:∀ b o,s.heap.get? b=some o->((s.heap.push { cls:=.type "list_iterator",data:=.fields #[.ref l,.int 0 0] }).push { cls:=.type "list",data:=.seq #[] }).get? b=some o:=fun b o e=>Heap.get?_push_of_some _ (Heap.get?_push_of_some _ e);have old:∀ b o,s.heap.get? b=some o->b∉(s.heap.push { cls:=.type "list_iterator",data:=.fields #[.ref l,.int 0 0] }).objs.size :: [s.heap.objs.size]:=fun b o e=>by
  rw [z1];simp only [List.mem_cons,List.not_mem_nil,or_false,not_or];have:=Heap.lt_size e;exact⟨Nat.ne_of_lt (Nat.lt_succ_of_lt this),Nat.ne_of_lt this⟩
 refine wpAny_pure ⟨plainId_quiet F.plain_min_loop _,zkc (Walks.list (A:=A.in1) hh _ l (Nat.ne_of_lt lt) its) bt _ nS hne (fun i j x y s' Q' E' k hi hj q=>cm i j x y s' Q' E' (fun b o e=>k b o (old b o e) (up b o e)) hi hj q) ?_ (Heap.get?_push_size _ rfl) fun v h' tk hv k=>fin v h' tk hv fun b o e=>k b o (old b o e) (up b o e)⟩;exact⟨⟨_,Heap.get?_push_of_some _ (Heap.get?_push_size _ rfl),rfl,rfl⟩,(hl.push _).push _⟩
theorem zmT{l:Addr}{dv:Value}{Q:Value->Shared->Prop}(hh:A.handled=none)(hl:s.heap.IsList l #[])
  (fin:∀ h' tk,(∀ b o,s.heap.get? b=some o->h'.get? b=some o)->Q dv { s with heap:=h',toks:=tk }):wpAny (model prog w) A (call (.builtin "min") [.ref l] [(Str.ofString "default",dv)]) Q E s:=by
 have nm:(toString "min" ++ toString ".loop":String) = "min.loop":=by decide
 have lt:l<s.heap.objs.size:=by obtain⟨o,e,_⟩:=hl; exact Heap.lt_size e
 refine kmk_tree F.kind_min F.plain_min F.entry_min (zhd _ _) ?_;show wpAny _ A.in1 (Builtin.Builtins.bindParams "min" ["key","default"] 0 ⟨[],[(Str.ofString "default",dv)]⟩ >>= _) _ _ s;refine wpAny_bind (wpAny_of_eq (show Builtin.Builtins.bindParams "min" ["key","default"] 0 ⟨[],[(Str.ofString "default",dv)]⟩=pure [none,some dv] from rfl) (wpAny_bind (wpAny_pure (wpAny_bind (wpAny_pyIter_list hl ?_)))));refine wpAny_bind (wpAny_newObj_type ?_);rw [nm];have z1:(s.heap.push { cls:=.type "list_iterator",data:=.fields #[.ref l,.int 0 0] }).objs.size=s.heap.objs.size+1:=Heap.size_push ..;refine wpAny_pure ⟨plainId_quiet F.plain_min_loop _,?_⟩;refine codeAny_builtin F.entry_min_loop ?_;rw [Around.under_plainId F.plain_min_loop _];show wpAny _ A.in1 (seqItems? (.ref _) >>= _) _ _ _;refine wpAny_bind (wpAny_seqItems (Heap.get?_push_size _ rfl) rfl ?_);show wpAny _ A.in1 (tryCatch (pyNext (.ref _)) _ >>= _) _ _ _;refine wpAny_bind (wpAny_tryCatch ((Walks.list (prog:=prog) (w:=w) (A:=A.in1) hh s.heap.objs.size l (Nat.ne_of_lt lt) #[]).done _ _ _ ⟨⟨_,Heap.get?_push_of_some _ (Heap.get?_push_size _ rfl),rfl,rfl⟩,(hl.push _).push _⟩ fun h1 t1 k1=>?_));refine wpAny_bind (wpAny_rule (wpAny_pure ?_));exact fin h1 t1 fun b o e=>k1 b o (fun m=>absurd (List.mem_singleton.mp m▸Heap.lt_size e) (Nat.lt_irrefl _)) (Heap.get?_push_of_some _ (Heap.get?_push_of_some _ e))
end
def zq9(te:TE):TT:=fun σ H Q=>te σ H fun x H1=>∃ p ob m,x=.ref p/\H1 p=some (.frz ob (.dK m))/\Q (!m.isEmpty) H1
theorem zk8{X:Cx}{a:Expr}{ta:TE}(ha:PE X a ta)(he:∀ whole,isTrue a X.env whole=(do let v <- whole; standAt a.pos; holding [v] (truthy v))):PT X a (zq9 ta):=by
 intro zf s σ H Q I h;refine isTrue_plain (thn (ha zf s σ H _ I h) fun v s1 ⟨x,H1,I1,r1,p,ob,m,ex,ea,q⟩=>?_) (he _);subst ex;cases r1;obtain⟨hne,hz,es,ep,vs,eo,kv,da⟩:=zgN I1.hok ea;have hlen:m.length=vs.length:=kv.length;have hsl:sizeLine=16777216:=sizeLine_eq;obtain⟨o,es',ho,r⟩:=da;exact wpAny_truthy_dict (knd:=zaj X.prog X.w) (kvs:=vs) hne ⟨o,es',ep,ho,r⟩ (by omega) ⟨H1,I1.tok _,by rw [zfC kv]; exact q⟩
def zlD(e:DE):DT:=fun δ S R=>e δ S fun x S1=>∃ m:List (Key×PyData),x=.d (.dict (DD.pairs (.k m)))/\R (!m.isEmpty) S1
theorem znH{H:Hp}:∀ {m:List (Key×PyData)} {m':List (Key×V)},HasM H m m'->m'.isEmpty=m.isEmpty
 | [],_,q=>by rw [show _=[] from q]; rfl
 | p :: r,_,⟨v,t,e,_,_⟩=>by rw [e]; rfl
theorem zkw{te:TE}{de:DE}(he':RE te de):RT (zq9 te) (zlD de):=fun h o H δ σ S R Q he hs q c =>
 he' h o H δ σ S _ _ he hs q fun o1 H1 S1 x v e1 s1 x1 ⟨m,ex,d1⟩=>by
  subst ex;obtain⟨a,ob,m',rfl,ea,l⟩:=zgY.mp (show Has _ _ v from x1);exact⟨a,ob,m',rfl,zR _ _ ea,by rw [znH l]; exact c o1 H1 S1 _ e1 s1 d1⟩
def zk9(K:W.Frag):List V->Hp->VK->Prop:=fun xs H Q=>∃ (p:Addr) (vs:List V) (nss:List (List Int)),xs=[.ref p]/\SqL K H p vs/\Paired (fun(v:V) (ns:List Int)=>∃ a,v=.ref a/\H a=some (.tup (ns.map V.int))) vs nss/\(vs=[]->Q .non H) /\
 ∀ (i:Nat) v ns,vs[i]? = some v->nss[i]? = some ns->(∀ ms∈nss,HT.lexLt ms ns=false)->Q v H
theorem zjN{X:Cx}(hc:X.calm=true)(hu:X.A.units+64<cLine){zf:List (Addr×Obj)}{s:Shared}{σ:St}{H:Hp}{xs:List V}{us:List Value}{Q:VK}{E:Value->Shared->Prop}(I:Inv X zf σ H s)(r:Vals xs us)(h:zk9 X.K xs H Q):wpAny (model X.prog X.w) X.A (call (.builtin "min") us [(Str.ofString "default",.none)]) (EP X zf σ Q) E s:=by
 obtain⟨p,vs,nss,rfl,hq,pr,q0,q⟩:=h;obtain⟨u,rfl,rx⟩:=vals1 r;cases (show u=Value.ref p from rx);obtain⟨its,rv,pl,_⟩:=I.list hq;have hl:=rv.length;have hl2:=Paired.length pr;cases hv:vs with
 | nil =>
  subst hv;have hi:its=[]:=by cases rv; rfl
  subst hi;exact zmT (I.ok.hd hc) pl.isList fun h' tk k=>⟨.non,H,I.kept (t':=tk) k,rfl,q0 rfl⟩
 | cons v0 vr =>
  have hne:vs≠[]:=by rw [hv]; simp
  have hsz:0<its.toArray.size:=by
   rw [List.size_toArray,<- hl];exact List.length_pos_iff.mpr hne
  have at_:∀ (i:Nat) x,its.toArray[i]? = some x->∃ (v:V) (ns:List Int),vs[i]? = some v/\nss[i]? = some ns/\RelV v x/\∃ a,v=.ref a/\H a=some (.tup (ns.map V.int)):=fun i x hx=>by
   have hi:i<its.length:=by
    have:=(Array.getElem?_eq_some_iff.mp hx).1;simpa using this
   have e1:vs[i]? = some vs[i]:=List.getElem?_eq_getElem (by omega);have e2:nss[i]? = some nss[i]:=List.getElem?_eq_getElem (by omega);obtain⟨x',hx',rr⟩:=rv.get e1;have:x=x':=by
    have h2:its[i]? = some x:=by simpa using hx
    rw [hx'] at h2;exact(Option.some.inj h2).symm
   subst this;have pg:∀ {a:List V} {b:List (List Int)} {i:Nat} {v:V} {ns:List Int},Paired (fun(v:V) (ns:List Int)=>∃ a,v=.ref a/\H a=some (.tup (ns.map V.int))) a b->a[i]? = some v->b[i]? = some ns->∃ a,v=.ref a/\H a=some (.tup (ns.map V.int)):=by
    intro a b i v ns pq;induction pq generalizing i with
    | nil=>intro h; simp at h
    | cons r0 _ ih =>
     cases i with
     | zero =>
      intro h1 h2;rw [List.getElem?_cons_zero] at h1 h2;cases h1;cases h2;exact r0
     | succ i =>
      intro h1 h2;rw [List.getElem?_cons_succ] at h1 h2;exact ih h1 h2
   exact⟨_,_,e1,e2,rr,pg pr e1 e2⟩
  refine zli (I.ok.hd hc) pl.isList hsz (fun i j=>HT.lexLt (nss.getD i []) (nss.getD j [])) (fun i j x y s' Q' E' k hx hy q'=>?_) fun v h' tk hv k=>?_
  ·obtain⟨v1,n1,_,f1,r1,a1,rfl,e1⟩:=at_ i x hx;obtain⟨v2,n2,_,f2,r2,a2,rfl,e2⟩:=at_ j y hy;cases r1;cases r2;obtain⟨_,is1,w1,t1⟩:=(show ObjOk X.prog X.w H s.heap a1 (.tup (n1.map V.int)) from I.hok a1 _ e1);obtain⟨_,is2,w2,t2⟩:=(show ObjOk X.prog X.w H s.heap a2 (.tup (n2.map V.int)) from I.hok a2 _ e2);have g1:nss.getD i []=n1:=by rw [List.getD_eq_getElem?_getD,f1]; rfl
   have g2:nss.getD j []=n2:=by rw [List.getD_eq_getElem?_getD,f2]; rfl
   rw [g1,g2] at q';obtain⟨o1,b1,c1⟩:=t1;obtain⟨o2,b2,c2⟩:=t2;exact HT.lt_tupInts ⟨o1,k _ _ b1,c1⟩ ⟨o2,k _ _ b2,c2⟩ (zaW w1) (zaW w2) (by show X.A.units+1<cLine; omega) q'
  ·obtain⟨v1,n1,e1,f1,r1,_⟩:=at_ _ v hv;obtain⟨_,h2⟩:=ze0 (ns:=fun i=>nss.getD i []) lex_ntrans ziK (its.toArray.size - 1);refine⟨v1,H,I.kept (t':=tk) k,r1,q _ v1 n1 e1 f1 fun ms hm=>?_⟩;obtain⟨j,hj⟩:=List.mem_iff_getElem?.mp hm;have hjl:=(List.getElem?_eq_some_iff.mp hj).1;have:=h2 j (by rw [List.size_toArray]; omega);rw [show nss.getD j []=ms by rw [List.getD_eq_getElem?_getD,hj]; rfl] at this;rw [show nss.getD (argBest (fun i j=>HT.lexLt (nss.getD i []) (nss.getD j [])) (its.toArray.size - 1)) []=n1 by rw [List.getD_eq_getElem?_getD,f1]; rfl] at this;exact this
theorem ziJ{X:Cx}{e:Expr}{ta:TA}{p pos kp cp:Pos}{cj:Nat}(hc:X.calm=true)(hu:X.A.units+64<cLine)(hg:Gl X "min")(hm:X.mg "min" = none)(ha:PA X [e] ta)
  (he:backTo pos (starEach [e] X.env)=(false,eval e X.env) :: backTo pos (starEach [] X.env):=by rfl) (hpl:(backTo pos (starEach [e] X.env)).any (·.1)=false:=by rfl) :
  PE X (.Call (.Name "min" p) [e] [⟨some "default",.Constant .none cj cp,kp⟩] pos) (tCB (zk9 X.K) ta):=by
 intro zf s σ H Q I h;refine wpAny_Call_Name_kw (zcC I hg hm zqM ?_ (by decide) (by decide));refine PyProof.Rows.callWith_kw (thn (ha pos zf s σ H _ I h) fun us s1 ⟨vs,H1,I1,r1,q1⟩=>?_) he hpl rfl rfl;refine PyProof.Rows.kws_cons (Constant_none (PyProof.Rows.kws_nil ?_));exact zjN hc hu I1 r1 q1
def zgJ:List XV->Sto->RX->Prop:=fun xs S R=>arg1 xs fun x=>∃ ds,zjj S x=some ds/\∃ nss:List (List Int),ds=nss.map zpJ/\(nss=[]->R (.d .none) S)/\∀ m,m∈nss->(∀ a,a∈nss->HT.lexLt a m=false)->R (.d (zpJ m)) S
theorem zi5{K:W.Frag}:RC (zk9 K) zgJ:=fun h o H S xs vs R Q hs hx q c=>by
 obtain⟨x,rfl,ds,hd,nss,rfl,q0,q1⟩:=zaC q;obtain⟨v,rfl,hx1⟩:=hxs1 hx;obtain⟨a,ws,rfl,ea,l⟩:=zbK hs hd hx1;have hl:=l.length;refine⟨a,ws,nss,rfl,.of ea,?_,fun z=>?_,fun i v ns e1 e2 hm=>?_⟩
 ·have go:∀ {nss:List (List Int)} {ws:List V},HasL (vx h o H) (nss.map zpJ) ws->Paired (fun(v:V) (ns:List Int)=>∃ a,v=.ref a/\H a=some (.tup (ns.map V.int))) ws nss:=by
   intro nss;induction nss with
   | nil=>intro ws l; rw [zal.mp l]; exact .nil
   | cons n nss ih =>
    intro ws l;obtain⟨v,r,rfl,h1,l2⟩:=zK.mp l;obtain⟨b,us,rfl,eb,lb⟩:=zas.mp h1;rw [zbe lb] at eb;exact .cons ⟨b,rfl,zR _ _ eb⟩ (ih l2)
  exact go l
 ·subst z;rw [List.length_map] at hl;exact c o H S (.d .none) _ Ex.refl hs xN (q0 (List.eq_nil_of_length_eq_zero hl.symm))
 ·obtain⟨v',ev,hv⟩:=l.get (show (nss.map zpJ)[i]? = some (zpJ ns) by rw [List.getElem?_map,e2]; rfl);rw [e1] at ev;cases ev;exact c o H S (.d (zpJ ns)) v Ex.refl hs hv (q1 ns (List.mem_of_getElem? e2) hm)
end
section
section
variable {prog:Program} {w:World} {A:Around} {E:Value->Shared->Prop} {s:Shared}
theorem SetI.few{led:Bool}{h:Heap}{S:Addr}{es:Array (Int×Value)}(hS:SetI led h S es)(L:List Int)(hk:∀ x,x∈es.toList.map kE->x∈L):es.size<=L.length:=by
 obtain⟨o,ep,t,ho,hex,hd,hok,hnd,hz',tb⟩:=hS;have:=zbu _ L hnd hk
 rwa [List.length_map,Array.length_toList] at this
theorem zlz{R:Result->Shared->Prop}{I:Addr}{fp wr:List Addr}{G:Array GenState->Array GenState->Prop}{n:Nat}{P:Nat->Value->Prop}{St:Nat->Shared->Prop}{led:Bool}(W:WalksS prog w A.in1 I fp wr G n P St)(L:List Int)(hn:L.length<60)(S:Addr)(hSf:S∉fp)
  (key:Nat->Int) (hP:∀ i v,P i v->∃ tk,v=.int (key i) tk) (hkL:∀ i,i<n->key i∈L) :
  ∀ (m i:Nat) (s:Shared) (es:Array (Int×Value)),n - i=m->i<=n->St i s->SetI led s.heap S es->(∀ x,x∈es.toList.map kE↔∃ j,j<i/\x=key j) ->
  (∀ s' es',Moved (S :: wr) G s s'->SetI led s'.heap S es'->(∀ x,x∈es'.toList.map kE↔∃ j,j<n/\x=key j)->R (.ok (.ret .none)) s') ->
  codeAny (model prog w) A (.builtin "set.update.loop" ⟨[.ref S,.ref I],[]⟩) R s:=by
 have hSw:S∉wr:=fun h=>hSf (W.sub _ h);have hsub:∀ b∈wr,b∈S :: wr:=fun b hb=>List.mem_cons_of_mem _ hb;intro m;induction m with
 | zero =>
  intro i s es hm hi hst hS hk hR;obtain rfl:i=n:=by omega
  refine codeAny_builtin F4.entry_update_loop ?_;rw [Around.under_plainId F4.plain_update_loop _];show wpAny _ A.in1 (pyNext (.ref I) >>= _) _ _ s;refine wpAny_bind (W.done s _ _ hst fun s' mv=>?_);exact wpAny_pure (hR s' es (mv.mono hsub) (hS.at fun o e=>mv.heap S o hSw e) hk)
 | succ m ih =>
  intro i s es hm hi hst hS hk hR;have hlt:i<n:=by omega
  refine codeAny_builtin F4.entry_update_loop ?_;rw [Around.under_plainId F4.plain_update_loop _];show wpAny _ A.in1 (pyNext (.ref I) >>= _) _ _ s;refine wpAny_bind (W.item i s _ _ hlt hst fun v s' hv hst' mv=>?_);obtain⟨tk,rfl⟩:=hP i v hv;have hS':SetI led s'.heap S es:=hS.at fun o e=>mv.heap S o hSw e;have few:=hS'.few L fun x m=>by
   obtain⟨j,hj,rfl⟩:=(hk x).mp m;exact hkL j (by omega)
  refine wpAny_bind (wpAny_holding (zix hS' (by omega) fun b h' es' sb S' mk z'=>?_));refine wpAny_pure ⟨plainId_quiet F4.plain_update_loop _,ih (i+1) _ es' (by omega) hlt (W.frame _ s' h' (s'.toks+1) hst' (Nat.le_succ _) fun b hb o e=>sb.extBut b o (fun z=>hSf (z▸hb)) e) S' (fun x=>?_) fun s'' es'' mv'' S'' k''=>?_⟩
  ·rw [mk x,hk x];constructor
   ·rintro(⟨j,hj,e⟩ | e)
    ·exact⟨j,by omega,e⟩
    ·exact⟨i,by omega,e⟩
   ·rintro⟨j,hj,e⟩;by_cases z:j=i
    ·subst z;exact .inr e
    ·exact .inl ⟨j,by omega,e⟩
  ·exact hR s'' es'' (Moved.trans W.gtrans ((mv.mono hsub).then_heap (Nat.le_succ _) fun b o hb e=>sb.extBut b o (fun z=>hb (z▸List.mem_cons_self)) e) mv'') S'' k''
end
end
section
section
variable {prog:Program} {w:World} {A:Around} {E:Value->Shared->Prop} {s:Shared}
theorem zkn{S l:Addr}{vs:Array Value}{ns:List Int}{led:Bool}{Q:Unit->Shared->Prop}(hh:A.handled=none)(hS:SetI led s.heap S #[])(hl:s.heap.IsTuple l vs)(hz:vs.size=ns.length)(hv:∀ (i:Nat) v,vs[i]? = some v->∃ tk,v=.int (ns.getD i 0) tk)(L:List Int)(hn:L.length<60)(hL:∀ x∈ns,x∈L)
  (h:∀ h' tk es,(∀ b o,b≠S->s.heap.get? b=some o->h'.get? b=some o)->SetI led h' S es->(∀ x,x∈es.toList.map kE↔x∈ns)->Q () { s with heap:=h',toks:=tk }) :
  wpAny (model prog w) A (Builtin.Frozenset.updateFrom "set.__init__" S (.ref l)) Q E s:=by
 have ty:s.TypeIs (.ref l) "tuple":=by
  obtain⟨o,e,c,_⟩:=hl;exact⟨o,e,c⟩
 have lS:l≠S:=fun e=>by
  obtain⟨o,_,_,e1,c1,_⟩:=hS;obtain⟨o',e',c',_⟩:=hl;rw [e,e1] at e';cases e';rw [c1.1] at c';simp at c'
 unfold Builtin.Frozenset.updateFrom Builtin.Frozenset.isAnySet;refine wpAny_bind (wpAny_bind (wpAny_isInstance ty zdN (wpAny_isInstance ty zdZ ?_)));simp only [Bool.false_eq_true,if_false];refine wpAny_bind (wpAny_typeOf ty ?_);rw [if_neg (by decide)];refine wpAny_bind (wpAny_pyIter_tuple hl ?_);obtain⟨o,eo⟩:∃ o,s.heap.get? l=some o:=⟨_,hl.choose_spec.1⟩;obtain⟨oS,eS⟩:∃ o,s.heap.get? S=some o:=⟨_,hS.choose_spec.choose_spec.choose_spec.1⟩;have ll:=Heap.lt_size eo;have lS':=Heap.lt_size eS;have up:∀ b ob,s.heap.get? b=some ob->(s.heap.push { cls:=.type "tuple_iterator",data:=.fields #[.ref l,.int 0 0] }).get? b=some ob:=fun b ob e=>Heap.get?_push_of_some _ e;have W:=(Walks.tuple (prog:=prog) (w:=w) (A:=A.in1) hh s.heap.objs.size l (Nat.ne_of_lt ll) vs).toS;refine wpAny_bind (wpAny_runValue (zlz (led:=led) W L hn S (by
  simp only [List.mem_cons,List.not_mem_nil,or_false,not_or];exact⟨Nat.ne_of_lt lS',fun e=>lS e.symm⟩) (fun i=>ns.getD i 0) hv (fun j hj=>hL _ (by
   rw [hz] at hj;simp only [List.getD_eq_getElem?_getD,List.getElem?_eq_getElem hj];exact List.getElem_mem hj)) _ 0 _ #[] rfl (Nat.zero_le _) ⟨⟨_,Heap.get?_push_size _ rfl,rfl,rfl⟩,hl.at fun ob e=>up l ob e⟩ (hS.at fun ob e=>up S ob e) (by simp) fun s' es mv S' ks=>?_))
 refine wpAny_pure ?_;obtain⟨h',gs',dr',tk',os'⟩:=s';obtain⟨m1,m2,m3,m4,m5⟩:=mv;dsimp only at m1 m2 m3 m4 m5 S';subst m2 m3 m4;refine h h' tk' es (fun b ob nb e=>m1 b ob (by
  simp only [List.mem_cons,List.not_mem_nil,or_false,not_or];exact⟨nb,Nat.ne_of_lt (Heap.lt_size e)⟩) (up b ob e)) S' fun x=>?_
 rw [ks x,hz];constructor
 ·rintro⟨j,hj,rfl⟩;rw [List.getD_eq_getElem?_getD,List.getElem?_eq_getElem hj];exact List.getElem_mem hj
 ·intro m;obtain⟨j,hj,e⟩:=List.mem_iff_getElem.mp m;exact⟨j,hj,by rw [List.getD_eq_getElem?_getD,List.getElem?_eq_getElem hj]; exact e.symm⟩
theorem zh8{l:Addr}{vs:Array Value}{ns:List Int}{Q:Value->Shared->Prop}(hh:A.handled=none)(hl:s.heap.IsTuple l vs)(hz:vs.size=ns.length)(hv:∀ (i:Nat) v,vs[i]? = some v->∃ tk,v=.int (ns.getD i 0) tk)(L:List Int)(hn:L.length<60)(hL:∀ x∈ns,x∈L)
  (h:∀ a h' tk es,s.heap.objs.size<=a->(∀ b o,s.heap.get? b=some o->h'.get? b=some o)->SetI (!w.params.followText "set-order") h' a es->(∀ x,x∈es.toList.map kE↔x∈ns)->Q (.ref a) { s with heap:=h',toks:=tk }) :
  wpAny (model prog w) A (call (.type "set") [.ref l]) Q E s:=by
 obtain⟨c,tl,hmro⟩:=F.called_set.mro;have hmade:=F.called_set.made;have hsub:=F.called_set.sub;refine wpAny_call (codeAny_of_tree ?_);show wpAny _ _ (callAny (.type "set") _) _ _ _;refine wpAny_pure ⟨Code.quiet_builtin _ (by decide +kernel),codeAny_builtin F.entry_type_call ?_⟩;rw [Around.under_plain (weight_type_call_type "set" [.ref l] []) rfl];have h1:=F.called_set.notType;have h2:=F.called_set.canCreate;have hct:=F4.typeCall_set_1 (.ref l)
 repeat (any_goals (first | assumption | wp_step))
 generalize hO:({ cls:=.type "set",dict:=none,data:=.set #[] 0 (.fresh 0 0 (!w.params.followText "set-order")) }:Obj)=O;refine codeAny_mono (zeO (E:=E) (Q:=fun ob s1=>ob=.ref s.heap.objs.size/\s1 = { s with heap:=s.heap.push O }) ⟨rfl,by rw [hO]⟩) fun r s1 hr=>?_;cases r with
 | error e=>exact hr
 | ok fl =>
  cases fl with
  | ret obj =>
   obtain⟨rfl,rfl⟩:=hr;have hS:(s.heap.push O).get? s.heap.objs.size=some O:=Heap.get?_push_size _ (by rw [<- hO]; rfl);have hT:Shared.TypeIs { s with heap:=s.heap.push O } (.ref s.heap.objs.size) "set":=⟨_,hS,by rw [<- hO]⟩;have hli:=F.called_set.init.lookup;have hbi:=F.called_set.init.bind (.ref s.heap.objs.size)
   repeat (any_goals (first | assumption | wp_step))
   refine codeAny_mono (codeAny_call_builtin (R:=wants (fun r s2=>r=.none/\Q (.ref s.heap.objs.size) s2) E) F.called_set.init.plain F.entry_set_init (zdm hT ?_)) fun r2 s2 hr2=>?_
   ·unfold Builtin.«set.__init__» noKeywords;have hS0:SetI (!w.params.followText "set-order") (s.heap.push O) s.heap.objs.size #[]:=by
     subst hO;exact⟨_,_,_,hS,⟨rfl,rfl,rfl⟩,rfl,by simp,by simp,by simp,ze3 _⟩
    have hl1:(s.heap.push O).IsTuple l vs:=hl.at fun ob e=>Heap.get?_push_of_some _ e;subst hO;have key:=fun Q1=>@zkn prog w A.in1.in1 (fun e s'=>wants (fun r s2=>r=Value.none/\Q (Value.ref s.heap.objs.size) s2) E (Except.error e) s') { s with heap:=s.heap.push { cls:=.type "set",dict:=none,data:=.set #[] 0 (.fresh 0 0 (!w.params.followText "set-order")) } } s.heap.objs.size l vs ns (!w.params.followText "set-order") Q1 hh hS0 hl1 hz hv L hn hL
    wp_walk using key _
    intro h' tk es kp S' ks;exact wpAny_pure ⟨rfl,h _ h' tk es (Nat.le_refl _) (fun b o e=>kp b o (Nat.ne_of_lt (Heap.lt_size e)) (Heap.get?_push_of_some _ e)) S' ks⟩
   ·cases r2 with
    | error e=>exact hr2
    | ok fl2 =>
     cases fl2 with
     | ret r =>
      obtain⟨rfl,hq⟩:=hr2
      repeat (any_goals (first | assumption | wp_step))
     | _=>exact hr2.elim
  | _=>exact hr.elim
theorem zhe{l:Addr}{vs:Array Value}{ns:List Int}{Q:Value->Shared->Prop}(hh:A.handled=none)(hl:s.heap.IsTuple l vs)(hz:vs.size=ns.length)(hv:∀ (i:Nat) v,vs[i]? = some v->∃ tk,v=.int (ns.getD i 0) tk)(L:List Int)(hn:L.length<60)(hL:∀ x∈ns,x∈L)
  (h:∀ D h' tk d out ms c,s.heap.objs.size<=D->(∀ b o,s.heap.get? b=some o->h'.get? b=some o)->IntsAre out ms->ms.Pairwise (· < ·)->(∀ x,x∈ms↔x∈ns)->h'.get? D=some (seqObj "list" out.toArray c)->Q (.ref D) { s with heap:=h',toks:=tk,drawn:=d }) :
  wpAny (model prog w) A (call (.type "set") [.ref l]) (fun a s'=>wpAny (model prog w) A (call (.builtin "sorted") [a]) Q E s') E s:=by
 refine zh8 hh hl hz hv L hn hL fun a h1 tk es ha kp1 hSI hk=>?_;obtain⟨o,ep,t,ho,hex,hd,hok,hnd,hz',tb⟩:=hSI;refine Calls.call_function_entry kind_sorted plain_sorted entry_sorted (args_sorted1 _) ?_;unfold Builtin.«sorted»;refine wpAny_bind (m:=checkCount "sorted" 1 1 1) (wpAny_pure ?_);refine wpAny_bind (zdr (s:={ s with heap:=h1,toks:=tk }) (A:=A.in1) hh ho hex hd tb hz' fun h2 d us hp kp2=>?_);have ul:us.length=es.size:=by rw [hp.length_eq,List.length_map,Array.length_toList]
 have ui:∀ v∈us,∃ n t,v=Value.int n t:=fun v m=>by
  obtain⟨e,me,rfl⟩:=List.mem_map.mp (hp.mem_iff.mp m);obtain⟨n,t,e1,_⟩:=hok e me;exact⟨n,t,e1⟩
 obtain⟨ns0,hI,e0⟩:=zgt ui;have p0:ns0.Perm (es.toList.map kE):=by
  rw [e0];refine(hp.map fun v=>kE (0,v)).trans ?_;rw [List.map_map];exact List.Perm.refl _
 have el:es.size<=L.length:=by
  have:=zbu _ L hnd fun x m=>hL x ((hk x).mp m)
  rwa [List.length_map,Array.length_toList] at this
 refine wpAny_bind (wpAny_newList ?_ (by rw [ul,sizeLine_eq]; omega));have hoL:(h2.push (seqObj "list" us.toArray 0)).get? h2.objs.size=some (seqObj "list" us.toArray 0):=Heap.get?_push_size _ rfl;refine wpAny_bind (wpAny_holding (wpAny_call_entry slot_list_sort ⟨_,hoL,rfl⟩ entry_list_sort (list_sort_tree (s:={ s with heap:=h2.push (seqObj "list" us.toArray 0),toks:=tk,drawn:=d }) hoL hI (by omega) fun out ms a1 a2 a3=>⟨_,rfl,?_⟩) (args_list_sort _)));have np:ms.Nodup:=(a2.trans p0).nodup_iff.mpr hnd;obtain⟨c,hc⟩:=sortedHeap_at (out:=out) hoL;refine wpAny_pure ⟨_,rfl,h h2.objs.size _ tk d out.toList ms c ?_ (fun b o e=>?_) a1 ?_ (fun x=>?_) ?_⟩
 ·exact Nat.le_trans ha (Nat.le_of_lt (Heap.lt_size (kp2 a o ho)))
 ·have e2:=kp2 b o (kp1 b o e);have lb:=Heap.lt_size e2;rw [sortedHeap_old (Nat.ne_of_lt lb) (by rw [size_push']; exact Nat.lt_succ_of_lt lb)];exact Heap.get?_push_of_some _ e2
 ·exact(List.Pairwise.and a3 np).imp fun⟨h1,h2⟩=>by omega
 ·rw [(a2.trans p0).mem_iff,hk x]
 ·simpa using hc
end
def zfF(K:W.Frag):List V->Hp->VK->Prop:=fun xs H Q=>∃ (p:Addr) (ns:List Int),xs=[.ref p]/\SqT K H p (ns.map V.int)/\(∃ L:List Int,L.length<60/\∀ x∈ns,x∈L)/\∀ (l:Addr) (ms:List Int),H l=none->ms.Pairwise (· < ·)->(∀ x,x∈ms↔x∈ns)->Q (.ref l) (upd H l (.lst (ms.map V.int)))
section
variable {X:Cx} {e:Expr} {t:TA} {p p2 pos pos2:Pos}
theorem zhC(hc:X.calm=true)(hgs:Gl X "sorted")(hms:X.mg "sorted" = none)(hgt:Gl X "set")(hmt:X.mg "set" = none)(ha:PA X [e] t)
  (he:starEach [e] X.env=(false,eval e X.env) :: starEach [] X.env:=by rfl) (hpl:(backTo pos2 (starEach [] X.env)).any (·.1)=false:=by rfl)
  (he2:starEach [Expr.Call (.Name "set" p2) [e] [] pos2] X.env=(false,eval (Expr.Call (.Name "set" p2) [e] [] pos2) X.env) :: starEach [] X.env:=by rfl) (hpl2:(backTo pos (starEach [] X.env)).any (·.1)=false:=by rfl) :
  PE X (.Call (.Name "sorted" p) [.Call (.Name "set" p2) [e] [] pos2] [] pos) (tCB (zfF X.K) t):=by
 intro zf s σ H Q I h;refine wpAny_Call_Name_kw (zcC I hgs hms boot_sorted ?_);refine PyProof.Rows.callWith_builtin1 ?_ he2 hpl2;rw [he2];show wpAny _ _ (spliced [(false,eval (Expr.Call (.Name "set" p2) [e] [] pos2) X.env)]) _ _ s;refine Calls.spliced_cons ?_;refine wpAny_Call_Name_kw (zcC I hgt hmt zgf ?_);refine PyProof.Rows.callWith_type1 (thn (ha pos2 zf s σ H _ I h) fun us s1 ⟨vs,H1,I1,r1,q1⟩=>?_) he hpl;obtain⟨pl,ns,rfl,hq,⟨L,hn,hL⟩,q⟩:=q1;obtain⟨u,rfl,rx⟩:=vals1 r1;cases (show u=Value.ref pl from rx);obtain⟨its,rv,pl',_⟩:=I1.tuple hq;have hI:=zaW rv;refine wpAny_mono (zhe (ns:=ns) (I1.ok.hd hc) pl' (by rw [List.size_toArray]; exact zch hI) (fun i v hv=>zeB hI i v (by simpa using hv)) L hn hL fun D h' tk d out ms c hD kp oI pw mm hg=>?_) (fun a s2 z=>Calls.spliced_nil z) fun _ _ z=>z;refine⟨.ref D,_,((I1.drw d).laid (t':=tk) kp hD (show ObjOk X.prog X.w _ h' D (.lst (ms.map V.int)) from⟨?_,out,c,zbJ oI,hg⟩)),rfl,q D ms (I1.hok.fresh hD) pw mm⟩;have:=zbu ms L (pw.imp fun h=>by omega) fun x m=>hL x ((mm x).mp m);rw [List.length_map,sizeLine_eq];omega
end
def zc3:List XV->Sto->RX->Prop:=fun xs S R=>arg1 xs fun x=>∃ ns:List Int,x=.d (.tuple (ns.map PyData.int))/\(∃ L:List Int,L.length<60/\∀ x∈ns,x∈L)/\∀ ms:List Int,ms.Pairwise (· < ·)->(∀ x,x∈ms↔x∈ns)->R (.d (.list (ms.map PyData.int))) S
theorem zg7{K:W.Frag}:RC (zfF K) zc3:=fun h o H S xs vs R Q hs hx q c=>by
 obtain⟨x,rfl,ns,rfl,hn,q1⟩:=zaC q;obtain⟨v,rfl,hx1⟩:=hxs1 hx;obtain⟨a,us,rfl,ea,l⟩:=zas.mp hx1;rw [zbe l] at ea;refine⟨a,ns,rfl,.of (zR _ _ ea),hn,fun l ms hl pw mm=>?_⟩;exact zgr hs (zcg ms) c (q1 ms pw mm) l hl
def zlx(K:W.Frag):List V->Hp->VK->Prop:=fun xs H Q=>∃ (p:Addr) (ns:List Int),xs=[.ref p]/\SqT K H p (ns.map V.int)/\ns.length<=10000000/\∀ (l:Addr) (ms:List Int),H l=none->ms.Perm ns->ms.Pairwise (· <= ·)->Q (.ref l) (upd H l (.lst (ms.map V.int)))
theorem zhZ{X:Cx}:CallR X (.builtin "sorted") (zlx X.K):=by
 intro zf s σ H xs us Q I r h;obtain⟨p,ns,rfl,hq,hn,q⟩:=h;obtain⟨u,rfl,rx⟩:=vals1 r;cases (show u=Value.ref p from rx);obtain⟨its,rv,pl,_⟩:=I.tuple hq;have hI:=zaW rv;obtain⟨o,ho,hc,n,hd⟩:=pl;refine Calls.call_function_entry kind_sorted plain_sorted entry_sorted (args_sorted1 _) ?_;unfold Builtin.«sorted»;refine wpAny_bind (m:=checkCount "sorted" 1 1 _) (wpAny_pure ?_);refine wpAny_bind (wpAny_collect_seq p (.inr rfl) ho hc hd (fun h1 kp1=>?_) (by rw [sizeLine_eq,List.size_toArray,zch hI]; omega));refine zgS (s:={ s with heap:=h1 }) (vs:=its) (kd:=oneType') (lt:=fun x y=>decide (numOf x.1<numOf y.1)) (by rw [zch hI]; exact hn) (fun A' E' h3 _ Q h2 z=>zhu hI h2 z) (fun A' E' h3 _=>zg0 hI) fun D h' c out hD kp hp hs hg=>?_;obtain⟨o1,o2,o3⟩:=zfK hI hp hs;have I1:Inv X zf σ H { s with heap:=h1 }:=I.kept (t':=s.toks) kp1;refine⟨_,rfl,.ref D,_,I1.laid (t':=s.toks) kp hD (show ObjOk X.prog X.w _ h' D (.lst ((out.map numOf).map V.int)) from⟨?_,out,c,zbJ o1,hg⟩),rfl,q _ _ (I1.hok.fresh hD) o2 o3⟩;rw [List.length_map,o2.length_eq,sizeLine_eq];omega
def zgy:List XV->Sto->RX->Prop:=fun xs S R=>arg1 xs fun x=>∃ ns:List Int,x=.d (.tuple (ns.map PyData.int))/\ns.length<=10000000/\∀ ms:List Int,ms.Perm ns->ms.Pairwise (· <= ·)->R (.d (.list (ms.map PyData.int))) S
theorem zky{K:W.Frag}:RC (zlx K) zgy:=fun h o H S xs vs R Q hs hx q c=>by
 obtain⟨x,rfl,ns,rfl,hn,q1⟩:=zaC q;obtain⟨v,rfl,hx1⟩:=hxs1 hx;obtain⟨a,us,rfl,ea,l⟩:=zas.mp hx1;rw [zbe l] at ea;refine⟨a,ns,rfl,.of (zR _ _ ea),hn,fun l ms hl pm pw=>?_⟩;exact zgr hs (zcg ms) c (q1 ms pm pw) l hl
theorem zqg{X:Cx}{c:Expr}{a b:Stmt}{tc:TT}{t u:XK->TS}{pos:Pos}(hx:∀ e s,X.xe e s->False)(hc:PT X c tc)(ha:PSX X a t)(hb:PSX X b u):PSX X (.If c [a] [b] pos) (fun Ex=>znZ tc (t Ex) (u Ex)):=by
 intro zf s σ H D Ex E' I h hX;refine wpAny_If (wpAny_mono (hc zf s σ H _ I h) (fun d s1 ⟨H1,I1,q1⟩=>?_) fun _ _ z=>(hx _ _ z).elim);have one:∀ {st:Stmt} {v:XK->TS},PSX X st v->v Ex D σ H1->wpAny (model X.prog X.w) X.A (execs [st] X.env) (SP X zf D) E' s1:=fun {st v} hv q=>by
  refine wpAny_execs_cons (wpAny_mono (hv zf s1 σ H1 D Ex E' I1 q hX) (fun fl s2 z=>?_) fun _ _ z=>z);cases fl with
  | next=>exact wpAny_execs_nil z
  | ret v=>exact z
  | brk=>exact z
  | cont=>exact z
 cases d with
 | true=>exact one ha q1
 | false=>exact one hb q1
theorem zi9{K:W.Frag}{i:Nat}{tc:TT}{t u:XK->TS}{ts:TS}{dc:DT}{d1 d2:DS}(hc:RT tc dc)(h1:RS (ziu K 24 i t ts) d1)(h2:RS (ziu K 24 i u ts) d2):RS (ziu K 24 i (fun Ex=>znZ tc (t Ex) (u Ex)) ts) (zcF dc d1 d2):=fun h o H δ σ S E D he hs q c =>
 (show RS (znZ tc (ziu K 24 i t ts) (ziu K 24 i u ts)) (zcF dc d1 d2) from zbp hc h1 h2) h o H δ σ S E D he hs q c
end
end L2
namespace My
open PySem L2
def zc2:PN:=fun xs S R=>(zaU (zhG (dCB zlB (ze (zn 0) (ze (dO (.ty "int")) zA))) (zlw (dCB zlB (ze (zn 0) (ze (dO (.ty "bool")) zA)))))) (zcG S.length R) (xs.map some++List.replicate 0 none) S
def zce:PN:=fun xs S R=>(zaA (zbT (dOp (dI (fun _ j=>0<j) fun i j=>i % j) (dOp zd9 (zn 0) (dC (.int 7919))) (dC (.int 2147483647))) (zx 0)) (zaU (dOp (dI (fun _ j=>0<j) fun i j=>i % j) (dOp zd9 (dOp zd9 (dOp zoo (zn 0) (zn 0)) (dOp zoo (dC (.int 48271)) (zn 0))) (dC (.int 12345))) (dC (.int 2147483629))))) (zcG S.length R) (xs.map some++List.replicate 0 none) S
def zen:PN:=fun xs S R=>(zaA (zbT (dCB (dI2 fun i j=>if j>i then j else i) (ze (zn 0) (ze (dOp (dI0 fun i j=>i - j) (dC (.int 0)) (zn 0)) zA))) (zx 1)) (zaU (zhE (ze (zn 1) (ze (dCB zkN (ze (dOp (dIb fun i j=>decide (j<=i)) (zn 1) (dOp (dI CPow fun i j=>i ^ j.toNat) (dC (.int 10)) (dC (.int 18)))) zA)) (ze (dOp (dI (fun _ j=>0<j) fun i j=>i % j) (zn 1) (dC (.int 1000003))) zA)))))) (zcG S.length R) (xs.map some++List.replicate 1 none) S
def zX:PN:=fun xs S R=>(zaU (zhG (dCB zlB (ze (zn 0) (ze (dO (.ty "int")) zA))) (zlw (dCB zlB (ze (zn 0) (ze (dO (.ty "bool")) zA)))))) (zcG S.length R) (xs.map some++List.replicate 0 none) S
def zE:PN:=fun xs S R=>(zaA (zcF (dB (dOp zm3 (dOp dIx (zn 0) (dC (.int 1))) (dC (.int 1)))) (zaA (zbT (dOp (dI (fun _ j=>0<j) fun i j=>i % j) (dOp dIx (zn 0) (dC (.int 0))) (zn 1)) (zx 2)) (zaA (zbT (dOp dFd (dOp dIx (zn 0) (dC (.int 0))) (zn 1)) (zlQ (zn 0) (dC (.int 0)))) (zaU (zn 2)))) zaP) (zaA (zbT (zW 1 zce (ze (dOp zd9 (zW 1 zce (ze (dOp dIx (zn 0) (dC (.int 2))) zA)) (dC (.int 7))) zA)) (zlQ (zn 0) (dC (.int 2)))) (zaU (dOp (dI (fun _ j=>0<j) fun i j=>i % j) (dOp dFd (dOp dIx (zn 0) (dC (.int 2))) (dC (.int 64))) (zn 1))))) (zcG S.length R) (xs.map some++List.replicate 1 none) S
def zcH:PN:=fun xs S R=>(zaA (zbT (zay 0 2 zE (ze (zn 0) (ze (dC (.int 8)) zA))) (zx 1)) (zaA (zcF (dB (dOp (dIb fun i j=>decide (i<j)) (zn 1) (dC (.int 5)))) (zaU (dOp (dI0 fun i j=>i - j) (zay 0 2 zE (ze (zn 0) (ze (dC (.int 13)) zA))) (dC (.int 6)))) zaP) (zaA (zcF (dB (dOp (dIb fun i j=>decide (i<j)) (zn 1) (dC (.int 7)))) (zaU (dOp (dI0 fun i j=>i - j) (zay 0 2 zE (ze (zn 0) (ze (dC (.int 2001)) zA))) (dC (.int 1000)))) zaP) (zaU (dOp zoo (dOp (dI0 fun i j=>i - j) (zay 0 2 zE (ze (zn 0) (ze (dOp zoo (dC (.int 2)) (dOp (dI CPow fun i j=>i ^ j.toNat) (dC (.int 10)) (dC (.int 30)))) zA))) (dOp (dI CPow fun i j=>i ^ j.toNat) (dC (.int 10)) (dC (.int 30)))) (dOp (dI CPow fun i j=>i ^ j.toNat) (dC (.int 10)) (dC (.int 28)))))))) (zcG S.length R) (xs.map some++List.replicate 1 none) S
def zcZ:PN:=fun xs S R=>(zaA (zbT (zay 0 2 zE (ze (zn 0) (ze (dC (.int 8)) zA))) (zx 1)) (zaA (zcF (dB (dOp (dIb fun i j=>decide (i<j)) (zn 1) (dC (.int 5)))) (zaU (dOp (dI0 fun i j=>i - j) (zay 0 2 zE (ze (zn 0) (ze (dC (.int 13)) zA))) (dC (.int 6)))) zaP) (zaA (zcF (dB (dOp (dIb fun i j=>decide (i<j)) (zn 1) (dC (.int 7)))) (zaU (dOp (dI0 fun i j=>i - j) (zay 0 2 zE (ze (zn 0) (ze (dC (.int 2001)) zA))) (dC (.int 1000)))) zaP) (zaU (dOp zoo (dOp (dI0 fun i j=>i - j) (zay 0 2 zE (ze (zn 0) (ze (dOp zoo (dC (.int 2)) (dOp (dI CPow fun i j=>i ^ j.toNat) (dC (.int 10)) (dC (.int 30)))) zA))) (dOp (dI CPow fun i j=>i ^ j.toNat) (dC (.int 10)) (dC (.int 30)))) (dOp (dI CPow fun i j=>i ^ j.toNat) (dC (.int 10)) (dC (.int 28)))))))) (zcG S.length R) (xs.map some++List.replicate 1 none) S
def zbg:PN:=fun xs S R=>(zaA (zbT (zkp (ze (dCB zjo (ze (zn 0) (ze (dO (.ref 37)) zA))) (ze (dCB zjo (ze (zn 0) (ze (dO (.ref 49)) zA))) (ze (dCB zjo (ze (zn 0) (ze (dO (.ref 61)) zA))) (ze (dCB zjo (ze (zn 0) (ze (dO (.ref 161)) zA))) zA))))) (zx 1)) (zaA (zbT (dOp zd9 (zn 1) (zkp (ze (dCB zjo (ze (zn 0) (ze (dO (.ref 73)) zA))) (ze (dCB zjo (ze (zn 0) (ze (dO (.ref 85)) zA))) (ze (dCB zjo (ze (zn 0) (ze (dO (.ref 104)) zA))) (ze (dCB zjo (ze (zn 0) (ze (dO (.ref 123)) zA))) zA)))))) (zx 1)) (zaA (zbT (dOp zd9 (zn 1) (zkp (ze (dCB zjo (ze (zn 0) (ze (dO (.ref 142)) zA))) (ze (dCB zjo (ze (zn 0) (ze (dO (.ref 180)) zA))) zA)))) (zx 1)) (zaA (zcF (dOr (zdI (zdx (dCB zjo (ze (zn 0) (ze (dO (.ty "ValueError")) zA))))) (dB (dOp zko (zqI zgi (zn 1) (ze (dC (.bool true)) zA)) (dC (.int 1))))) (zaU (dC (.str "other"))) zaP) (zaA (zbT (zkp (ze (dC (.str "span")) (ze (dC (.str "part")) (ze (dC (.str "set")) (ze (dC (.str "text")) (ze (dC (.str "row")) (ze (dC (.str "unlike")) (ze (dC (.str "drawing")) (ze (dC (.str "gap")) (ze (dC (.str "offer")) (ze (dC (.str "great")) zA))))))))))) (zx 2)) (zaU (dOp dIx (zn 2) (zqI zje (zn 1) (ze (dC (.bool true)) zA))))))))) (zcG S.length R) (xs.map some++List.replicate 2 none) S
def ze5:PN:=fun xs S R=>(zaA (zbT (dCB (dI2 fun i j=>if j>i then j else i) (ze (zn 0) (ze (dOp (dI0 fun i j=>i - j) (dC (.int 0)) (zn 0)) zA))) (zx 1)) (zaU (zhE (ze (zn 1) (ze (dCB zkN (ze (dOp (dIb fun i j=>decide (j<=i)) (zn 1) (dOp (dI CPow fun i j=>i ^ j.toNat) (dC (.int 10)) (dC (.int 18)))) zA)) (ze (dOp (dI (fun _ j=>0<j) fun i j=>i % j) (zn 1) (dC (.int 1000003))) zA)))))) (zcG S.length R) (xs.map some++List.replicate 1 none) S
def zc1:PN:=fun xs S R=>(zaU (zhG (dCB zlB (ze (zn 0) (ze (dO (.ty "tuple")) zA))) (zhG (dCB zoQ (ze (zgp [none] (zey (zn 0)) (zx 0) zby (zW 1 zc2 (ze (zn 0) zA))) zA)) (dOp zm3 (zn 0) (zn 1))))) (zcG S.length R) (xs.map some++List.replicate 0 none) S
def zaT:PN:=fun xs S R=>(zaU (dIf (dB (dOp (dIb fun i j=>decide (j<=i)) (zn 0) (dC (.int 0)))) (ziO 0 (zex zA)) (dC (.dict [])))) (zcG S.length R) (xs.map some++List.replicate 0 none) S
def zbj:PN:=fun xs S R=>(zaA (zpR (zl1 true 3 (.k []) (zmn (fun M=>(zge (ze (zn 0) zA))) (zhT 2 (zcX (zx 4) (zcX (zx 5) zij))) (zmn (fun M=>(zeZ (zn 1))) (zhT 2 (zcX (zx 6) (zcX (zx 7) zij))) (zrr (fun M=>(dB (dOp (dIb fun i j=>decide (i<=j)) (dOp zd9 (zn 6) (zn 5)) (zn 2)))) (zmN 3 (fun M=>(dOp zd9 (zn 6) (zn 5))) (fun M=>(dOp zd9 (zex (ze (zn 4) zA)) (zn 7)))) (zgC zaP)))))) (zaU (zn 3))) (zcG S.length R) (xs.map some++List.replicate 5 none) S
def zI:PN:=fun xs S R=>(zaU (zfw [none,none,some 2,some 1] (zeZ (zn 0)) (zhT 2 (zcX (zx 0) (zcX (zx 1) zij))) (dB (zfB (dIb fun i j=>decide (i<=j)) (dIb fun i j=>decide (i<=j)) (dOp dIx (zn 2) (dC (.int 0))) (dOp zd9 (zn 3) (zn 0)) (dOp dIx (zn 2) (dC (.int 1))))) (zn 1))) (zcG S.length R) (xs.map some++List.replicate 0 none) S
def zbS:PN:=fun xs S R=>(zaA (zbT (dOp (dI0 fun i j=>i - j) (dOp dIx (zn 1) (dC (.int 1))) (zn 0)) (zx 2)) (zaA (zcF (dB (dOp (dIb fun i j=>decide (j<i)) (zn 2) (dC (.int 200)))) zjs zaP) (zaU (zn 2)))) (zcG S.length R) (xs.map some++List.replicate 1 none) S
def zcq:PN:=fun xs S R=>(zaA (zbT (dOp dIx (zkp (ze (dC (.int 4)) (ze (dC (.int 12)) (ze (dC (.int 99)) zA)))) (zay 0 2 zE (ze (zn 0) (ze (dC (.int 3)) zA)))) (zx 1)) (zaU (dCB zfG (ze (dCB zeF (ze (zgp [none,some 0,some 1] (zfa (ze (dOp zd9 (dC (.int 1)) (zay 0 2 zE (ze (zn 0) (ze (dC (.int 5)) zA)))) zA)) (zx 0) zby (dOp zd9 (dC (.int 1)) (zay 0 2 zE (ze (zn 1) (ze (zn 2) zA))))) zA)) zA)))) (zcG S.length R) (xs.map some++List.replicate 1 none) S
def zZ:PN:=fun xs S R=>(zaA (zbT (zW 2 zbS (ze (zn 1) (ze (zn 2) zA))) (zx 3)) (zaA (zbT (zhE (ze (zW 1 zaT (ze (zn 3) zA)) zA)) (zx 4)) (zaA (zlq (zpn (zlD (dOp dIx (zn 4) (dUn (dUI fun i=>-i) (dC (.int 1))))) (zdI (zdx (zW 3 zI (ze (dOp dIx (zn 4) (dUn (dUI fun i=>-i) (dC (.int 1)))) (ze (zn 1) (ze (zn 2) zA))))))) (zlU (dBM zeJ (zn 4) (ze (zW 3 zbj (ze (zn 0) (ze (dOp dIx (zn 4) (dUn (dUI fun i=>-i) (dC (.int 1)))) (ze (zn 3) zA)))) zA)))) (zaU (zn 4))))) (zcG S.length R) (xs.map some++List.replicate 2 none) S
def zdJ:PN:=fun xs S R=>(zaA (zbT (zay 0 1 zcH (ze (zn 0) zA)) (zx 2)) (zaA (zbT (dOp zd9 (zn 2) (dOp dIx (zkp (ze (dOp (dI0 fun i j=>i - j) (zay 0 2 zE (ze (zn 0) (ze (dC (.int 12)) zA))) (dC (.int 3))) (ze (zay 0 2 zE (ze (zn 0) (ze (dC (.int 30)) zA))) (ze (zay 0 2 zE (ze (zn 0) (ze (zn 1) zA))) zA)))) (dOp dFd (dOp zd9 (zay 0 2 zE (ze (zn 0) (ze (dC (.int 8)) zA))) (dC (.int 1))) (dC (.int 4))))) (zx 3)) (zaU (zex (ze (zn 2) (ze (zex (ze (zn 3) (ze (dOp zd9 (zn 3) (dOp dIx (zkp (ze (dC (.int 0)) (ze (dC (.int 0)) (ze (dC (.int 1)) (ze (dC (.int 3)) (ze (dC (.int 8)) zA)))))) (zay 0 2 zE (ze (zn 0) (ze (dC (.int 5)) zA))))) zA))) zA)))))) (zcG S.length R) (xs.map some++List.replicate 2 none) S
def zbh:PN:=fun xs S R=>(zaA (zbT (zW 3 zZ (ze (zn 0) (ze (zn 1) (ze (zn 2) zA)))) (zx 3)) (zaU (dCB zgJ (ze (zW 3 zI (ze (dOp dIx (zn 3) (dUn (dUI fun i=>-i) (dC (.int 1)))) (ze (zn 1) (ze (zn 2) zA)))) zA)))) (zcG S.length R) (xs.map some++List.replicate 1 none) S
def zbP:PN:=fun xs S R=>(zaU (dCB zfG (ze (dCB ziU (ze (zn 0) zA)) zA))) (zcG S.length R) (xs.map some++List.replicate 0 none) S
def zbw:PN:=fun xs S R=>(zaA (zbT (zW 2 zbS (ze (zn 1) (ze (zn 2) zA))) (zx 5)) (zaA (zcF (dOr (zdI (zdx (dCB zlB (ze (zn 4) (ze (dO (.ty "list")) zA))))) (dB (dOp zko (dCB zdY (ze (zn 4) zA)) (zn 3)))) (zaU (dC (.bool false))) zaP) (zaA (zbT (zW 1 zaT (ze (zn 5) zA)) (zx 6)) (zaA (zpG (zey (zn 4)) (zx 7) (zaA (zcF (dOr (zdI (zdx (zW 2 zc1 (ze (zn 7) (ze (zW 1 zbP (ze (zn 6) zA)) zA))))) (zdx (zW 3 zI (ze (zn 6) (ze (zn 1) (ze (zn 2) zA)))))) (zaU (dC (.bool false))) zaP) (zbT (zW 3 zbj (ze (zn 0) (ze (zn 6) (ze (zn 5) zA)))) (zx 6)))) (zaU (dC (.bool true))))))) (zcG S.length R) (xs.map some++List.replicate 3 none) S
def zc8:PN:=fun xs S R=>(zaA (zbT (zW 3 zZ (ze (zn 0) (ze (zn 1) (ze (zn 2) zA)))) (zx 3)) (zaU (zfw [none,some 1,some 2] (zey (zn 3)) (zx 0) (zdI (zdx (zW 3 zI (ze (zn 0) (ze (zn 1) (ze (zn 2) zA)))))) (zW 1 zbP (ze (zn 0) zA))))) (zcG S.length R) (xs.map some++List.replicate 1 none) S
def zaN:PN:=fun xs S R=>(zaA (zcF (dOr (zdI (zdx (dCB zlB (ze (zn 3) (ze (dO (.ty "tuple")) zA))))) (zdI (zdx (dCB zoQ (ze (zgp [none] (zey (zn 3)) (zx 0) zby (zW 1 zX (ze (zn 0) zA))) zA))))) (zaU (dC (.bool false))) zaP) (zaA (zcF (zdI (zdx (dCB zoQ (ze (zgp [none,some 0] (zey (zn 3)) (zx 0) zby (zfB (dIb fun i j=>decide (i<=j)) (dIb fun i j=>decide (i<j)) (dC (.int 0)) (zn 0) (dCB zdY (ze (zn 1) zA)))) zA)))) (zaU (dC (.bool false))) zaP) (zaA (zcF (dB (dOp zko (dCB zjf (ze (zn 3) zA)) (dCB zgy (ze (zn 3) zA)))) (zaU (dC (.bool false))) zaP) (zaU (zfB (dIb fun i j=>decide (i<=j)) (dIb fun i j=>decide (i<=j)) (dOp dIx (zn 2) (dC (.int 0))) (dOp zd9 (zn 1) (dCB zrq (ze (zgp [none,some 0] (zey (zn 3)) (zx 0) zby (dOp dIx (zn 1) (zn 0))) zA))) (dOp dIx (zn 2) (dC (.int 1)))))))) (zcG S.length R) (xs.map some++List.replicate 0 none) S
def zaV:PX:=fun xs S R EX=>(zaA (zbT (dOp (dI0 fun i j=>i - j) (dOp dIx (zn 1) (dC (.int 1))) (zn 0)) (zx 2)) (zaA (zcF (dB (dOp (dIb fun i j=>decide (j<i)) (zn 2) (dC (.int 200)))) (zf8 EX 180 ["many","most"] (ze (zn 2) (ze (dC (.int 200)) zA))) zaP) (zaU (zn 2)))) (zcG S.length R) (xs.map some++List.replicate 1 none) S
def zaa:PX:=fun xs S R EX=>(zaA (zbT (zeK EX 2 zaV (ze (zn 1) (ze (zn 2) zA))) (zx 3)) (zaA (zbT (zhE (ze (zW 1 zaT (ze (zn 3) zA)) zA)) (zx 4)) (zaA (zlq (zpn (zlD (dOp dIx (zn 4) (dUn (dUI fun i=>-i) (dC (.int 1))))) (zdI (zdx (zW 3 zI (ze (dOp dIx (zn 4) (dUn (dUI fun i=>-i) (dC (.int 1)))) (ze (zn 1) (ze (zn 2) zA))))))) (zlU (dBM zeJ (zn 4) (ze (zW 3 zbj (ze (zn 0) (ze (dOp dIx (zn 4) (dUn (dUI fun i=>-i) (dC (.int 1)))) (ze (zn 3) zA)))) zA)))) (zaU (zn 4))))) (zcG S.length R) (xs.map some++List.replicate 2 none) S
def zaM:PX:=fun xs S R EX=>(zaA (zbT (zeK EX 2 zaV (ze (zn 1) (ze (zn 2) zA))) (zx 5)) (zaA (zcF (dOr (zdI (zdx (dCB zlB (ze (zn 4) (ze (dO (.ty "list")) zA))))) (dB (dOp zko (dCB zdY (ze (zn 4) zA)) (zn 3)))) (zaU (dC (.bool false))) zaP) (zaA (zbT (zW 1 zaT (ze (zn 5) zA)) (zx 6)) (zaA (zpG (zey (zn 4)) (zx 7) (zaA (zcF (dOr (zdI (zdx (zW 2 zc1 (ze (zn 7) (ze (zW 1 zbP (ze (zn 6) zA)) zA))))) (zdx (zW 3 zI (ze (zn 6) (ze (zn 1) (ze (zn 2) zA)))))) (zaU (dC (.bool false))) zaP) (zbT (zW 3 zbj (ze (zn 0) (ze (zn 6) (ze (zn 5) zA)))) (zx 6)))) (zaU (dC (.bool true))))))) (zcG S.length R) (xs.map some++List.replicate 3 none) S
def zbB:PX:=fun xs S R EX=>(zaA (zbT (zeK EX 3 zaa (ze (zn 0) (ze (zn 1) (ze (zn 2) zA)))) (zx 3)) (zaU (dCB zgJ (ze (zW 3 zI (ze (dOp dIx (zn 3) (dUn (dUI fun i=>-i) (dC (.int 1)))) (ze (zn 1) (ze (zn 2) zA)))) zA)))) (zcG S.length R) (xs.map some++List.replicate 1 none) S
def zbE:PX:=fun xs S R EX=>(zaA (zbT (zeK EX 3 zaa (ze (zn 0) (ze (zn 1) (ze (zn 2) zA)))) (zx 3)) (zaU (zfw [none,some 1,some 2] (zey (zn 3)) (zx 0) (zdI (zdx (zW 3 zI (ze (zn 0) (ze (zn 1) (ze (zn 2) zA)))))) (zW 1 zbP (ze (zn 0) zA))))) (zcG S.length R) (xs.map some++List.replicate 1 none) S
def zaK:PN:=fun xs S R=>(zaA (zbT (zW 3 zbh (ze (zn 0) (ze (zn 1) (ze (zn 2) zA)))) (zx 3)) (zaA (zbT (zW 3 zc8 (ze (zn 0) (ze (zn 1) (ze (zn 2) zA)))) (zx 4)) (zaA (zcF (dB (dOp zmX (zW 5 zbw (ze (zn 0) (ze (zn 1) (ze (zn 2) (ze (dCB zdY (ze (zn 4) zA)) (ze (zn 4) zA)))))) (dC (.bool true)))) (zaU (dC (.bool false))) zaP) (zaA (zcF (dB (dOp zqd (zn 3) (dC .none))) (zaU (dOp zm3 (dOp dIx (zn 4) (dUn (dUI fun i=>-i) (dC (.int 1)))) (zex zA))) zaP) (zaA (zcF (dOr (zdI (zdx (zW 4 zaN (ze (zn 0) (ze (zn 1) (ze (zn 2) (ze (zn 3) zA))))))) (dOr (dB (dOp zko (dCB zdY (ze (zn 4) zA)) (dCB zdY (ze (zn 3) zA)))) (dB (dOp dIn (zex zA) (zn 4))))) (zaU (dC (.bool false))) zaP) (zaA (zpG (zey (dCB zc3 (ze (zn 3) zA))) (zx 5) (zaA (zbT (zW 3 zbh (ze (zn 0) (ze (dOp zd9 (zn 1) (dOp dIx (zn 0) (zn 5))) (ze (zn 2) zA)))) (zx 6)) (zcF (dOr (dB (dOp zqd (zn 6) (dC .none))) (dB (dOp zko (dCB zdY (ze (zn 6) zA)) (dOp (dI0 fun i j=>i - j) (dCB zdY (ze (zn 3) zA)) (dC (.int 1)))))) (zaU (dC (.bool false))) zaP))) (zaU (dC (.bool true))))))))) (zcG S.length R) (xs.map some++List.replicate 4 none) S
def zbl:PN:=fun xs S R=>(zaA (zcF (dB (dOp zm3 (zn 0) (dC (.int 0)))) (zjM knD 3 zbB (ze (zn 1) (ze (zn 2) (ze (zn 3) zA))) 4 (zaA (zcF (dOr (dB (dOp zko (ze6 zbg (ze (zn 4) zA)) (dC (.str "great")))) (dOr (zdI (zdx (zW 1 zX (ze (dXA [180] (zn 4) "many") zA)))) (zdI (zdx (zW 1 zX (ze (dXA [180] (zn 4) "most") zA)))))) (zaU (dC .none)) zaP) (zaU (zex (ze (dXA [180] (zn 4) "many") (ze (dXA [180] (zn 4) "most") zA)))))) (zcF (dB (dOp zm3 (zn 0) (dC (.int 1)))) (zjM knD 3 zbE (ze (zn 1) (ze (zn 2) (ze (zn 3) zA))) 4 (zaA (zcF (dOr (dB (dOp zko (ze6 zbg (ze (zn 4) zA)) (dC (.str "great")))) (dOr (zdI (zdx (zW 1 zX (ze (dXA [180] (zn 4) "many") zA)))) (zdI (zdx (zW 1 zX (ze (dXA [180] (zn 4) "most") zA)))))) (zaU (dC .none)) zaP) (zaU (zex (ze (dXA [180] (zn 4) "many") (ze (dXA [180] (zn 4) "most") zA)))))) (zjM knD 5 zaM (ze (zn 1) (ze (zn 2) (ze (zn 3) (ze (dC (.int 0)) (ze (zkp zA) zA))))) 4 (zaA (zcF (dOr (dB (dOp zko (ze6 zbg (ze (zn 4) zA)) (dC (.str "great")))) (dOr (zdI (zdx (zW 1 zX (ze (dXA [180] (zn 4) "many") zA)))) (zdI (zdx (zW 1 zX (ze (dXA [180] (zn 4) "most") zA)))))) (zaU (dC .none)) zaP) (zaU (zex (ze (dXA [180] (zn 4) "many") (ze (dXA [180] (zn 4) "most") zA)))))))) (zaU (zex zA))) (zcG S.length R) (xs.map some++List.replicate 1 none) S
def zao:PN:=fun xs S R=>(zaA (zbT (zex zA) (zx 3)) (zaA (zcF (dB (dOp (dIb fun i j=>decide (j<i)) (dOp (dI0 fun i j=>i - j) (dOp dIx (zn 2) (dC (.int 1))) (zn 1)) (dC (.int 200)))) (zbT (zex (ze (dOp (dI0 fun i j=>i - j) (dOp dIx (zn 2) (dC (.int 1))) (zn 1)) (ze (dC (.int 200)) zA))) (zx 3)) zaP) (zaU (dCB zoQ (ze (zgp [none,some 3,some 0,some 1,some 2] (zfa (ze (dC (.int 3)) zA)) (zx 0) zby (dOp zm3 (zW 4 zbl (ze (zn 0) (ze (zn 2) (ze (zn 3) (ze (zn 4) zA))))) (zn 1))) zA))))) (zcG S.length R) (xs.map some++List.replicate 1 none) S
def zh2:DS:=(zaA (zcF (zdI (zdx (zW 3 zaK (ze (zex (ze (dC (.int 1)) zA)) (ze (dC (.int 0)) (ze (zex (ze (dC (.int 200)) (ze (dC (.int 200)) zA))) zA)))))) (zaU (dC (.bool false))) zaP) (zcF (dOr (zdI (zdx (zW 3 zao (ze (zex (ze (dC (.int 99)) zA)) (ze (dC (.int 0)) (ze (zex (ze (dC (.int 0)) (ze (dC (.int 200)) zA))) zA)))))) (zdI (zdx (zW 3 zao (ze (zex (ze (dC (.int 99)) zA)) (ze (dC (.int 0)) (ze (zex (ze (dC (.int 9)) (ze (dC (.int 201)) zA))) zA))))))) (zaU (dC (.bool false))) zaP))
def zoC:DS:=(zaA (zbT (zW 1 ze5 (ze (zn 1) zA)) (zx 2)) (zaA (zbT (zay 0 1 zcq (ze (zn 2) zA)) (zx 3)) (zaA (zbT (zay 0 2 zdJ (ze (zn 2) (ze (dC (.int 190)) zA))) (zhT 2 (zcX (zx 4) (zcX (zx 5) zij)))) (zaA (zcF (zdI (zdx (zW 3 zaK (ze (zn 3) (ze (zn 4) (ze (zn 5) zA)))))) (zaU (dC (.bool false))) zaP) (zaA (zbT (zW 3 zbh (ze (zn 3) (ze (zn 4) (ze (zn 5) zA)))) (zx 6)) (zaA (zbT (dCB zfG (ze (dCB zdU (ze (dOp zd9 (zn 3) (zex (ze (dOp zd9 (dC (.int 1)) (zay 0 2 zE (ze (zn 2) (ze (dC (.int 99)) zA)))) zA))) zA)) zA)) (zx 7)) (zaA (zcF (zpn (dB (dOp zmQ (zn 6) (dC .none))) (zpn (dB (dOp (dIb fun i j=>decide (i<j)) (dCB zdY (ze (zn 7) zA)) (dC (.int 6)))) (dB (dOp (dIb fun i j=>decide (j<i)) (dCB zdY (ze (zW 3 zbh (ze (zn 7) (ze (zn 4) (ze (zn 5) zA)))) zA)) (dCB zdY (ze (zn 6) zA)))))) (zaU (dC (.bool false))) zaP) (zaA (zbT (dOp dIx (zkp (ze (dC (.int 200)) (ze (dC (.int 201)) (ze (dOp zd9 (dC (.int 202)) (zay 0 2 zE (ze (zn 2) (ze (dOp (dI CPow fun i j=>i ^ j.toNat) (dC (.int 10)) (dC (.int 30))) zA)))) zA)))) (zay 0 2 zE (ze (zn 2) (ze (dC (.int 3)) zA)))) (zx 8)) (zcF (zdI (zdx (zW 3 zao (ze (zex (ze (dC (.int 97)) (ze (dC (.int 99)) zA))) (ze (zn 4) (ze (zex (ze (dOp (dI0 fun i j=>i - j) (dOp zd9 (zn 4) (zn 8)) (zay 0 2 zE (ze (zn 2) (ze (dC (.int 2)) zA)))) (ze (dOp zd9 (zn 4) (zn 8)) zA))) zA)))))) (zaU (dC (.bool false))) zaP)))))))))
end My
namespace My
open PySem L2
theorem seq1{t u:DS}{E:DEnds}{δ:XE}{S:Sto}(h:t { E with nx:=u E } δ S):zaA t u E δ S:=h
theorem cut{t u:DS}{E:DEnds}{δ:XE}{S:Sto}(I:XE->Sto->Prop)(h1:∀ N:XE->Sto->Prop,(∀ δ' S',I δ' S'->N δ' S')->t { E with nx:=N } δ S)(h2:∀ δ' S',I δ' S'->u E δ' S'):zaA t u E δ S:=h1 _ h2
theorem zl0(i j:Int):PyData.eqv (.int i) (.int j)=decide (i=j):=rfl
theorem zq0(i:Int):SeqAt.shaped (.int i)=true:=rfl
theorem zqL(i:Bool):SeqAt.shaped (.bool i)=true:=rfl
theorem zmv:("int" ∈ zm6)=True:=eq_true (by decide)
theorem zjh:("bool" ∈ zm6)=True:=eq_true (by decide)
theorem zhi:("tuple" ∈ zm6)=True:=eq_true (by decide)
theorem ziD:("list" ∈ zm6)=True:=eq_true (by decide)
theorem zqR:SeqAt.shaped .none=true:=rfl
end My
namespace My
open PySem L2
local macro_rules | `(tactic| walk_at "d")=>`(tactic| (try simp -implicitDefEqProofs only [zbT,List.all_cons,List.all_nil,Bool.and_self,knD,zf8,dXA,zeK,zjM,zpR,zl1,zlD,zgJ,zgC,zrr,zmn,zeZ,ze6,zgi,zmX,ziU,zmN,ziO,zeF,zc3,zgy,zdU,zr5,zx,zn,dC,dO,dOp,dUn,zA,ze,dCB,zex,zkp,zhE,dB,zdI,zpn,dOr,zhG,zr4,zlw,dIf,zfB,dI,dI0,dIb,dUI,zm3,zko,zqd,zmQ,zpW,zqC,zq7,zos,znV,zly,zoa,dFd,zdx,zot,znO,zlA,zq8,dSl,zdY,zon,znX,zlB,zkN,dI2,zfG,zjf,dBM,zsa,zqI,zeJ,zkE,zsf,zje,zrq,zoQ,zW,zay,zqW,zqO,zqv,zqi,asL,znW,zrb,zqq,zpU,zmh,zn3,znQ,zoq,zqa,zqS,zma,zn6,zoA,znT,znP,zaU,zcF,zlU,zaP,zjs,zpG,zey,znY,zok,zfa,zlr,zge,zn2,zhT,zcX,zqF,zqe,zra,zq6,zij,zlQ,zgp,zfw,zby,zog,zhU,ziH,zhB,zfz,List.replicate,List.map_cons,List.map_nil,Option.map_some,Option.bind_some,Option.bind_none,Option.join_some,List.getElem?_cons_zero,List.getElem?_cons_succ,List.set_cons_zero,List.set_cons_succ,List.take_succ_cons,List.take_zero,List.take_nil,List.length_cons,List.length_nil,List.nil_append,List.cons_append,Option.some.injEq,exists_eq_left',exists_eq_left,List.cons.injEq,XV.d.injEq,XV.l.injEq,XV.o.injEq,PyData.int.injEq,PyData.list.injEq,PyData.tuple.injEq,PyData.bool.injEq,PyData.str.injEq,and_true,true_and,decide_eq_true_eq,Bool.not_true,Bool.not_false,Bool.false_eq_true,Bool.true_eq_false,not_true_eq_false,not_false_eq_true,↓reduceIte,decide_true,decide_false,Bool.not_eq_true',zld,decide_eq_false_iff_not,Nat.reduceAdd,Nat.reduceMul,Nat.zero_add,Nat.reduceLT,Nat.reduceLeDiff,Nat.reduceEqDiff,Int.reduceLT,Int.reduceLE,Int.reduceNeg,Int.reducePow,Int.reduceToNat,Int.reduceEq,Int.reduceAdd,Int.reduceSub,Int.reduceMul,Nat.le_refl,Nat.zero_le,List.length_append,List.length_map,zl0,zq0,zqL,zqR,List.isEmpty_nil,List.isEmpty_cons,Int.cast_ofNat_Int,Int.natCast_zero,Int.natCast_one,zmv,zjh,zhi,ziD,zl8,ziV,zhv,zjr]))
local macro_rules | `(tactic| walk_at "e")=>`(tactic| (try simp -implicitDefEqProofs only [zaA,zbT,List.all_cons,List.all_nil,Bool.and_self,knD,zf8,dXA,zeK,zjM,zpR,zl1,zlD,zgJ,zgC,zrr,zmn,zeZ,ze6,zgi,zmX,ziU,zmN,ziO,zeF,zc3,zgy,zdU,zr5,zx,zn,dC,dO,dOp,dUn,zA,ze,dCB,zex,zkp,zhE,dB,zdI,zpn,dOr,zhG,zr4,zlw,dIf,zfB,dI,dI0,dIb,dUI,zm3,zko,zqd,zmQ,zpW,zqC,zq7,zos,znV,zly,zoa,dFd,zdx,zot,znO,zlA,zq8,dSl,zdY,zon,znX,zlB,zkN,dI2,zfG,zjf,dBM,zsa,zqI,zeJ,zkE,zsf,zje,zrq,zoQ,zW,zay,zqW,zqO,zqv,zqi,asL,znW,zrb,zqq,zpU,zmh,zn3,znQ,zoq,zqa,zqS,zma,zn6,zoA,znT,znP,zaU,zcF,zlU,zaP,zjs,zpG,zey,znY,zok,zfa,zlr,zge,zn2,zhT,zcX,zqF,zqe,zra,zq6,zij,zlQ,zgp,zfw,zby,zog,zhU,ziH,zhB,zfz,List.replicate,List.map_cons,List.map_nil,Option.map_some,Option.bind_some,Option.bind_none,Option.join_some,List.getElem?_cons_zero,List.getElem?_cons_succ,List.set_cons_zero,List.set_cons_succ,List.take_succ_cons,List.take_zero,List.take_nil,List.length_cons,List.length_nil,List.nil_append,List.cons_append,Option.some.injEq,exists_eq_left',exists_eq_left,List.cons.injEq,XV.d.injEq,XV.l.injEq,XV.o.injEq,PyData.int.injEq,PyData.list.injEq,PyData.tuple.injEq,PyData.bool.injEq,PyData.str.injEq,and_true,true_and,decide_eq_true_eq,Bool.not_true,Bool.not_false,Bool.false_eq_true,Bool.true_eq_false,not_true_eq_false,not_false_eq_true,↓reduceIte,decide_true,decide_false,Bool.not_eq_true',zld,decide_eq_false_iff_not,Nat.reduceAdd,Nat.reduceMul,Nat.zero_add,Nat.reduceLT,Nat.reduceLeDiff,Nat.reduceEqDiff,Int.reduceLT,Int.reduceLE,Int.reduceNeg,Int.reducePow,Int.reduceToNat,Int.reduceEq,Int.reduceAdd,Int.reduceSub,Int.reduceMul,Nat.le_refl,Nat.zero_le,List.length_append,List.length_map,zl0,zq0,zqL,zqR,List.isEmpty_nil,List.isEmpty_cons,Int.cast_ofNat_Int,Int.natCast_zero,Int.natCast_one,zmv,zjh,zhi,ziD,zl8,ziV,zhv,zjr]))
section
variable {R:RX}
theorem zeH{n:Int}(q:∀ m,0<=m->R (.d (.int m)) []):zce [.d (.int n)] [] R:=by
 unfold zce;walk_at "e";have h1:=Int.emod_nonneg (n+7919) (show (2147483647:Int)≠0 by decide);have h2:=Int.emod_lt_of_pos (n+7919) (show (0:Int)<2147483647 by decide);exact⟨zkL (by omega) (by omega),zkL (by decide) (by decide),q _ (Int.emod_nonneg _ (by decide))⟩
theorem zL{p:List PyData}{n:Int}(hp:zdc p)(hn:0<n)(hb:n.natAbs.log2<9000)(q:∀ r p',0<=r->r<n->zdc p'->R (.d (.int r)) [p']):zE [.l 0,.d (.int n)] [p] R:=by
 obtain⟨l,g,sd,rfl,hl⟩:=hp;unfold zE;walk_at "e";split
 ·refine⟨hn,.inl ⟨⟨hn,hb⟩,0,rfl,?_⟩⟩;walk_at "e";exact q _ _ (Int.emod_nonneg _ (by omega)) (Int.emod_lt_of_pos _ hn) ⟨_,_,_,rfl,Int.ediv_nonneg hl (by omega)⟩
 ·refine zeH fun m _=>?_;walk_at "e";refine zeH fun m' h'=>?_;walk_at "e";refine⟨2,rfl,?_⟩;walk_at "e";exact .inl ⟨⟨by decide,by decide +kernel⟩,hn,q _ _ (Int.emod_nonneg _ (by omega)) (Int.emod_lt_of_pos _ hn) ⟨_,_,_,rfl,hl⟩⟩
theorem zfW{n:Int}(q:∀ p,zdc p->R (.l 0) [p]):zen [.d (.int n)] [] R:=by
 unfold zen;walk_at "e";refine⟨⟨by decide,by decide,by decide⟩,?_⟩;refine .inr (q _ ⟨_,_,_,rfl,?_⟩);split <;> omega
theorem zjO{n:Int}(q:∀ p,zdc p->R (.l 0) [p]):ze5 [.d (.int n)] [] R:=zfW q
theorem zeA{p:List PyData}(hp:zdc p)(q:∀ r p',-10 ^ 58<=r->r<=10 ^ 58->zdc p'->R (.d (.int r)) [p']):zcZ [.l 0] [p] R:=by
 unfold zcZ;walk_at "e";refine zL hp (by decide) (by decide +kernel) fun r p1 r0 r1 hp1=>?_;walk_at "e";split
 ·refine zL hp1 (by decide) (by decide +kernel) fun r p2 r0 r1 hp2=>?_;walk_at "e";exact q _ _ (by omega) (by omega) hp2
 ·split
  ·refine zL hp1 (by decide) (by decide +kernel) fun r p2 r0 r1 hp2=>?_;walk_at "e";exact q _ _ (by omega) (by omega) hp2
  ·refine⟨⟨by decide,by decide,by decide⟩,zkL (by decide) (by decide),?_⟩;have k1:(10:Int) ^ 30=1000000000000000000000000000000:=by decide +kernel
   have k2:(10:Int) ^ 28=10000000000000000000000000000:=by decide +kernel
   refine zL hp1 (by decide +kernel) (by decide +kernel) fun r p2 r0 r1 hp2=>?_;walk_at "e"
   try simp only [k1,k2] at r1 ⊢
   refine⟨⟨by decide,by decide,by decide⟩,⟨by decide,by decide,by decide⟩,zrx 128 128 (by omega) (by decide +kernel),q _ _ (by omega) (by omega) hp2⟩
theorem zgn{p:List PyData}(hp:zdc p)(q:∀ r p',-10 ^ 58<=r->r<=10 ^ 58->zdc p'->R (.d (.int r)) [p']):zcH [.l 0] [p] R:=zeA hp q
end
section
variable {R:RX}
set_option maxHeartbeats 8000000 in
abbrev Part:=Str×Int×Int
end
section
variable {R:RX} {S:Sto}
def zfe(ns:List Int):PyData:=.tuple (ns.map PyData.int)
def part(ps:List Part)(k:Nat):Part:=ps.getD k ("",0,0)
theorem zh5{α:Type}{f:α->PyData}{l:List α}{i:Nat}{d:PyData}(h:(l.map f)[i]? = some d):∃ x,l[i]? = some x/\d=f x:=by
 rw [List.getElem?_map] at h;obtain⟨x,e,rfl⟩:=Option.map_eq_some_iff.mp h;exact⟨x,e,rfl⟩
theorem znB{ds:List PyData}{r:Int}{P:PyData->Prop}(h0:0<=r)(h1:r<ds.length)(hP:∀ d∈ds,P d):∃ d,atI ds r=some d/\P d:=by
 obtain⟨k,rfl⟩:=Int.eq_ofNat_of_zero_le h0;have hk:k<ds.length:=by omega
 exact⟨ds[k],zec (List.getElem?_eq_getElem hk),hP _ (List.getElem_mem hk)⟩
theorem zse{g:DG}{te:DE}{fin:Sto->Prop}{α:Type}(F:α->Prop)(f:α->PyData)(P:XE->Prop):∀ (ds:List PyData) (acc:List α) (p:List PyData) (τ:XE),P τ->zdc p->acc.length+ds.length<=1000 ->
  (∀ d∈ds,∀ τ p acc (R:XE->RX),P τ->zdc p->(∀ τ' x p',P τ'->zdc p'->F x->R τ' (.d (f x)) [p',acc])->g (.d d) τ [p,acc] fun τ1 S1=>te τ1 S1 (R τ1)) ->
  (∀ xs p',zdc p'->(∀ x∈xs,F x)->xs.length=ds.length->fin [p',(acc++xs).map f])->zev 1 g zby te fin ds τ [p,acc.map f]
 | [],acc,p,τ,_,hp,_,_,h=>by
  have:=h [] p hp (by simp) rfl;rw [List.append_nil] at this;exact this
 | d :: ds,acc,p,τ,hP,hp,hl,el,h=>by
  show g (.d d) τ [p,acc.map f] fun τ1 S1=>zby τ1 S1 fun b S2=>if b=true then te τ1 S2 fun x S3=>asD x fun e=>∃ acc,S3[1]? = some acc/\acc.length<1000/\zev 1 g zby te fin ds τ1 (S3.set 1 (acc++[e])) else zev 1 g zby te fin ds τ1 S2
  simp only [zby,↓reduceIte];rw [List.length_cons] at hl;refine el d List.mem_cons_self τ p (acc.map f) (fun τ1 x S3=>asD x fun e=>∃ acc,S3[1]? = some acc/\acc.length<1000/\zev 1 g zby te fin ds τ1 (S3.set 1 (acc++[e]))) hP hp fun τ' x p' hP' hp' hF=>?_;refine⟨acc.map f,rfl,by rw [List.length_map]; omega,?_⟩;have e:([p',acc.map f]:Sto).set 1 (acc.map f++[f x])=[p',(acc++[x]).map f]:=by simp
  rw [e];refine zse F f P ds (acc++[x]) p' τ' hP' hp' (by rw [List.length_append,List.length_singleton]; omega) (fun e m=>el e (List.mem_cons_of_mem _ m)) fun xs p'' hp'' fs hl=>?_;rw [List.append_assoc];exact h (x :: xs) p'' hp'' (fun y m=>(List.mem_cons.mp m).elim (fun e=>e▸hF) (fs y)) (by simp [hl])
end
section
variable {R:RX} {S:Sto}
def zm4:Option (List Int)->PyData
 | none=>.none
 | some ns=>zfe ns
end
section
variable {R:RX} {S:Sto}
def zb2:PyData->Bool
 | .int _=>true
 | _=>false
theorem zcT{d:PyData}(q:R (.d (.bool (zb2 d))) []):zX [.d d] [] R:=by
 unfold zX;cases d <;> (walk_at "e"; exact q)
end
section
variable {R:RX} {S:Sto}
def rng(lo:Int)(n:Nat):List Int:=(List.range n).map fun k:Nat=>lo+k
def zsu(p:Part):List Int:=rng p.2.1 (p.2.2 - p.2.1+1).toNat
def ext(found:List (List Int))(p:Part):List (List Int):=found.flatMap fun a=>(zsu p).map fun x=>a++[x]
end
section
variable {R:RX} {S:Sto}
theorem zgg{n:Nat}(a:List Int):Shp (n+1) (zfe a):=zkH (zeX fun _ _=>zhY)
end
section
variable {R:RX} {S:Sto}
abbrev Off:=Int×Int×Int
def offer(os:List (List Off))(ks:List Nat)(i:Nat):Off:=(os.getD i []).getD (ks.getD i 0) (0,0,0)
end
section
variable {R:RX} {S:Sto}
theorem zlP:∀ {a b:List Int},a.length=b.length->HT.lexLt a b=false->HT.lexLt b a=false->a=b
 | [],[],_,_,_=>rfl
 | [],_ :: _,h,_,_=>by simp at h
 | _ :: _,[],h,_,_=>by simp at h
 | x :: a,y :: b,hl,h1,h2=>by
  rw [HT.lexLt_cons] at h1 h2;by_cases e:x=y
  ·subst e;rw [if_pos rfl] at h1 h2;rw [zlP (by simpa using hl) h1 h2]
  ·rw [if_neg e] at h1;rw [if_neg (Ne.symm e)] at h2;simp only [decide_eq_false_iff_not] at h1 h2;omega
end
section
variable {R:RX} {S:Sto}
theorem zlR{α:Type}{r:α->α->Prop}(as:∀ {a b},r a b->r b a->False):∀ {l m:List α},l.Pairwise r->m.Pairwise r->(∀ x,x∈l↔x∈m)->l=m
 | [],[],_,_,_=>rfl
 | [],y :: m,_,_,h=>by have:=(h y).mpr List.mem_cons_self; simp at this
 | x :: l,[],_,_,h=>by have:=(h x).mp List.mem_cons_self; simp at this
 | x :: l,y :: m,hl,hm,h=>by
  rw [List.pairwise_cons] at hl hm;have e:x=y:=by
   rcases List.mem_cons.mp ((h x).mp List.mem_cons_self) with e | e
   ·exact e
   ·rcases List.mem_cons.mp ((h y).mpr List.mem_cons_self) with e' | e'
    ·exact e'.symm
    ·exact(as (hm.1 _ e) (hl.1 _ e')).elim
  subst e;congr 1;refine zlR as hl.2 hm.2 fun z=>⟨fun mz=>?_,fun mz=>?_⟩
  ·rcases List.mem_cons.mp ((h z).mp (List.mem_cons_of_mem _ mz)) with e | e
   ·subst e;exact(as (hl.1 _ mz) (hl.1 _ mz)).elim
   ·exact e
  ·rcases List.mem_cons.mp ((h z).mpr (List.mem_cons_of_mem _ mz)) with e | e
   ·subst e;exact(as (hm.1 _ mz) (hm.1 _ mz)).elim
   ·exact e
end
section
variable {R:RX} {S:Sto}
theorem ziW:∀ (n:Nat) (lo:Int) (l:List Int),l.Nodup->(∀ x∈l,lo<=x/\x<lo+n)->l.length<=n
 | 0,lo,l,_,h=>by
  cases l with
  | nil=>exact Nat.le_refl _
  | cons x l=>have:=h x List.mem_cons_self; omega
 | n+1,lo,l,hn,h=>by
  have ih:=ziW n lo (l.erase (lo+n)) (hn.erase _) fun x m=>by
   rw [hn.mem_erase_iff] at m;have:=h x m.2;omega
  have:=List.length_erase (a:=lo+(n:Int)) (l:=l);split at this <;> omega
theorem ze2{g:DG}{b:DSm}{E:DEndsM}:∀ {ds:List PyData} {δ:XE} {S:Sto} {M:DM} (I:Nat->XE->Sto->DM->Prop),I 0 δ S M ->
  (∀ i d δ S M (N:XE->Sto->DM->Prop),ds[i]? = some d->I i δ S M->(∀ δ' S' M',I (i+1) δ' S' M'->N δ' S' M')->g (.d d) δ S fun δ1 S1=>b { nx:=N,ct:=N,bk:=E.nx,rt:=E.rt } δ1 S1 M) ->
  (∀ δ S M,I ds.length δ S M->E.nx δ S M)->zem g b ds E δ S M
 | [],δ,S,M,I,h0,_,fin=>fin δ S M h0
 | d :: ds,δ,S,M,I,h0,step,fin=>by
  show g (.d d) δ S fun δ1 S1=>b _ δ1 S1 M;refine step 0 d δ S M _ rfl h0 fun δ' S' M' h1=>?_;exact ze2 (ds:=ds) (fun i=>I (i+1)) h1 (fun i e δ S M N hi=>step (i+1) e δ S M N (by simpa using hi)) fin
end
section
variable {R:RX} {S:Sto}
abbrev Frs:=List (Int×List Int)
def zdy(F:Frs):List (Key×PyData):=F.map fun p=>((Sum.inl p.1:Key),zfe p.2)
def zcL(F:Frs):PyData:=.dict (DD.pairs (.k (zdy F)))
def fky(F:Frs):List Int:=F.map (·.1)
theorem zn0:∀ {F:Frs} {k:Int},(fky F).Nodup->(lkA (zdy F) (Sum.inl k)=none/\k∉fky F)\/∃ one,lkA (zdy F) (Sum.inl k)=some (zfe one)/\(k,one)∈F
 | [],k,_=>.inl ⟨rfl,by simp [fky]⟩
 | p :: F,k,nd=>by
  have nd':(p.1 :: fky F).Nodup:=nd;by_cases h:p.1=k
  ·subst h;exact .inr ⟨p.2,by simp [lkA,zdy],List.mem_cons_self⟩
  ·have e:lkA (zdy (p :: F)) (Sum.inl k)=lkA (zdy F) (Sum.inl k):=by simp [lkA,zdy,h]
   rw [e];rcases zn0 (F:=F) (k:=k) (List.nodup_cons.mp nd').2 with ⟨h1,h2⟩ | ⟨one,h1,h2⟩
   ·exact .inl ⟨h1,by show k∉p.1 :: fky F; simp [h2,Ne.symm h]⟩
   ·exact .inr ⟨one,h1,List.mem_cons_of_mem _ h2⟩
theorem zp3{F:Frs}{k:Int}{one:List Int}(nk:k∉fky F):ptA (zdy F) (Sum.inl k) (zfe one)=zdy (F++[(k,one)]):=by
 unfold ptA;rw [if_neg]
 ·unfold zdy;rw [List.map_append];rfl
 ·intro h;obtain⟨p,mp,e⟩:=List.any_eq_true.mp h;obtain⟨q,mq,rfl⟩:=List.mem_map.mp mp;have:(Sum.inl q.1:Key)=Sum.inl k:=of_decide_eq_true e;exact nk (List.mem_map.mpr ⟨q,mq,Sum.inl.inj this⟩)
end
section
variable {R:RX} {S:Sto}
def thk(T:List Int)(p:Int):Int:=T.getD p.toNat 0
def za9(T st:List Int):Int:=(st.map (thk T)).sum
def okS(T st:List Int):Prop:=∀ p∈st,0<=p/\p<T.length
theorem zi0(T:List Int):za9 T []=0:=rfl
theorem zar(T:List Int)(p:Int)(st:List Int):za9 T (p :: st)=thk T p+za9 T st:=by simp [za9]
theorem ziM(T a b:List Int):za9 T (a++b)=za9 T a+za9 T b:=by simp [za9]
theorem zbz{T:List Int}{p:Int}{st:List Int}:okS T (p :: st)↔(0<=p/\p<T.length)/\okS T st:=by simp [okS]
def Pos(T:List Int):Prop:=∀ x∈T,1<=x
theorem zee{T:List Int}(hT:Pos T){p:Int}(h0:0<=p)(h1:p<T.length):1<=thk T p:=by
 unfold thk;have hlt:p.toNat<T.length:=by omega
 rw [List.getD_eq_getElem?_getD,List.getElem?_eq_getElem hlt];exact hT _ (List.getElem_mem hlt)
theorem zaS{T:List Int}(hT:Pos T):∀ {st:List Int},okS T st->(st.length:Int)<=za9 T st
 | [],_=>by simp [za9]
 | p :: st,h=>by
  have h':=zbz.mp h;have:=zee hT h'.1.1 h'.1.2;have:=zaS hT h'.2;rw [zar,List.length_cons];omega
structure Lst(T:List Int)(n:Nat)(r:Int)(st:List Int):Prop where
 ok:okS T st
 len:st.length=n
 sm:za9 T st=r
 le:∀ z,okS T z->z.length=n->za9 T z=r->HT.lexLt z st=false
theorem zqX(x y:Int)(a b:List Int):HT.lexLt (x :: a) (y :: b)=if x=y then HT.lexLt a b else decide (x<y):=HT.lexLt_cons ..
structure Rw(T:List Int)(top:Int)(n:Nat)(F:Frs):Prop where
 nd:(fky F).Nodup
 ok:∀ p∈F,Lst T n p.1 p.2/\p.1<=top
 all:∀ z,okS T z->z.length=n->za9 T z<=top->za9 T z∈fky F
theorem Rw.len{T:List Int}{top:Int}{n:Nat}{F:Frs}(h:Rw T top n F)(hT:Pos T)(ht:0<=top):F.length<=(top+1).toNat:=by
 have:=ziW (top+1).toNat 0 (fky F) h.nd fun x m=>by
  obtain⟨p,mp,rfl⟩:=List.mem_map.mp m;obtain⟨l,lt⟩:=h.ok p mp;have:=zaS hT l.ok;rw [l.sm] at this;omega
 unfold fky at this
 rwa [List.length_map] at this
theorem Rw.at{T:List Int}{top:Int}{n:Nat}{F:Frs}(h:Rw T top n F){z:List Int}(o:okS T z)(l:z.length=n)(s:za9 T z<=top):∃ st,(za9 T z,st)∈F/\Lst T n (za9 T z) st:=by
 obtain⟨p,mp,e⟩:=List.mem_map.mp (h.all z o l s);have:=(h.ok p mp).1;have ep:p=(za9 T z,p.2):=Prod.ext e rfl;rw [ep] at mp this;exact⟨p.2,mp,this⟩
theorem Rw.zero{T:List Int}{top:Int}(h:0<=top):Rw T top 0 [(0,[])]:=⟨by simp [fky],fun p m=>by
 rw [List.mem_singleton.mp m];exact⟨⟨by simp [okS],rfl,rfl,fun z _ l _=>by rw [List.eq_nil_of_length_eq_zero l]; rfl⟩,h⟩,fun z _ l _=>by rw [List.eq_nil_of_length_eq_zero l]; simp [fky,za9]⟩
theorem Rw.none{T:List Int}{top:Int}(h:top<0):Rw T top 0 []:=⟨by simp [fky],by simp,fun z _ l s=>by
 rw [List.eq_nil_of_length_eq_zero l,zi0] at s;omega⟩
end
section
variable {R:RX} {S:Sto}
def shD(T:List Int):PyData:=.tuple (T.map PyData.int)
structure NxI(T:List Int)(top:Int)(F:Frs)(seen:Nat->Nat->Prop)(G:Frs):Prop where
 nd:(fky G).Nodup
 ok:∀ e∈G,∃ (q m:Nat) (r0:Int) (rest:List Int),seen q m/\F[m]? = some (r0,rest)/\q<T.length/\e=(r0+thk T q,(q:Int) :: rest)/\e.1<=top/\∀ q':Nat,q'<q->e.1 - thk T q'∉fky F
 all:∀ (q m:Nat) (r0:Int) (rest:List Int),seen q m->q<T.length->F[m]? = some (r0,rest)->r0+thk T q<=top->r0+thk T q∈fky G
theorem NxI.to{T:List Int}{top:Int}{F G:Frs}{s s':Nat->Nat->Prop}(h:NxI T top F s G)(e:∀ q m,m<F.length->(s q m↔s' q m)):NxI T top F s' G where
 nd:=h.nd
 ok:=fun x m=>by
  obtain⟨q,k,r0,rest,a1,a2,a3⟩:=h.ok x m;exact⟨q,k,r0,rest,(e q k (List.getElem?_eq_some_iff.mp a2).1).mp a1,a2,a3⟩
 all:=fun q m r0 rest a1 a2 a3 a4=>h.all q m r0 rest ((e q m (List.getElem?_eq_some_iff.mp a3).1).mpr a1) a2 a3 a4
theorem zoy{F:Frs}{r:Int}(h:r∈fky F):∃ (m:Nat) (st:List Int),F[m]? = some (r,st):=by
 obtain⟨p,mp,rfl⟩:=List.mem_map.mp h;obtain⟨m,hm⟩:=List.mem_iff_getElem?.mp mp;exact⟨m,p.2,hm⟩
theorem NxI.more{T:List Int}{top:Int}{F G:Frs}{i j:Nat}{r0:Int}{rest:List Int}(h:NxI T top F (fun q m=>q<i\/q=i/\m<j) G)(hi:i<T.length)(hj:F[j]? = some (r0,rest))(ht:r0+thk T i<=top)(nk:r0+thk T i∉fky G):NxI T top F (fun q m=>q<i\/q=i/\m<j+1) (G++[(r0+thk T i,(i:Int) :: rest)]) where
 nd:=by
  unfold fky;rw [List.map_append];exact zbD h.nd nk
 ok:=fun e m=>by
  rcases List.mem_append.mp m with m | m
  ·obtain⟨q,k,r,s,a1,a2⟩:=h.ok e m;exact⟨q,k,r,s,by omega,a2⟩
  ·rw [List.mem_singleton.mp m];refine⟨i,j,r0,rest,.inr ⟨rfl,by omega⟩,hj,hi,rfl,ht,fun q' hq' z=>nk ?_⟩;obtain⟨m',st,e'⟩:=zoy z;have:=h.all q' m' _ st (.inl hq') (by omega) e' (by simp only; omega);simp only at this
   rwa [show r0+thk T i - thk T q'+thk T q'=r0+thk T i by omega] at this
 all:=fun q m r s a1 a2 a3 a4=>by
  unfold fky;rw [List.map_append];by_cases hs:q<i\/q=i/\m<j
  ·exact List.mem_append_left _ (h.all q m r s hs a2 a3 a4)
  ·have e1:q=i:=by omega
   have e2:m=j:=by omega
   subst e1 e2;rw [hj] at a3;cases a3;simp
theorem NxI.skip{T:List Int}{top:Int}{F G:Frs}{i j:Nat}{r0:Int}{rest:List Int}(h:NxI T top F (fun q m=>q<i\/q=i/\m<j) G)(hj:F[j]? = some (r0,rest))(hk:r0+thk T i<=top->r0+thk T i∈fky G):NxI T top F (fun q m=>q<i\/q=i/\m<j+1) G where
 nd:=h.nd
 ok:=fun e m=>by
  obtain⟨q,k,r,s,a1,a2⟩:=h.ok e m;exact⟨q,k,r,s,by omega,a2⟩
 all:=fun q m r s a1 a2 a3 a4=>by
  by_cases hs:q<i\/q=i/\m<j
  ·exact h.all q m r s hs a2 a3 a4
  ·have e1:q=i:=by omega
   have e2:m=j:=by omega
   subst e1 e2;rw [hj] at a3;cases a3;exact hk a4
theorem NxI.rw{T:List Int}{top:Int}{n:Nat}{F G:Frs}(hT:Pos T)(hF:Rw T top n F)(h:NxI T top F (fun q m=>q<T.length\/q=T.length/\m<0) G):Rw T top (n+1) G where
 nd:=h.nd
 ok:=fun e m=>by
  obtain⟨q,k,r0,rest,_,a2,a3,rfl,a5,a6⟩:=h.ok e m;have l0:=(hF.ok _ (List.mem_of_getElem? a2)).1;refine⟨⟨zbz.mpr ⟨⟨by omega,by omega⟩,l0.ok⟩,by rw [List.length_cons,l0.len],by rw [zar,l0.sm]; simp only; omega,fun z o l s=>?_⟩,a5⟩;cases z with
  | nil=>cases l
  | cons q' r' =>
   have o':=zbz.mp o;have tp:=zee hT o'.1.1 o'.1.2;rw [zar] at s;simp only at s a5 a6;rw [zqX];by_cases e:q'=(q:Int)
   ·rw [if_pos e];subst e;exact l0.le r' o'.2 (by simpa using l) (by omega)
   ·rw [if_neg e];refine decide_eq_false fun hl=>?_;refine a6 q'.toNat (by omega) ?_;rw [show ((q'.toNat:Nat):Int)=q' by omega];have:=hF.all r' o'.2 (by simpa using l) (by omega)
    rwa [show za9 T r'=r0+thk T q - thk T q' by omega] at this
 all:=fun z o l s=>by
  cases z with
  | nil=>cases l
  | cons q r =>
   have o':=zbz.mp o;have tp:=zee hT o'.1.1 o'.1.2;rw [zar] at s ⊢;obtain⟨m,st,e⟩:=zoy (hF.all r o'.2 (by simpa using l) (by omega));have hq:((q.toNat:Nat):Int)=q:=by omega
   have:=h.all q.toNat m (za9 T r) st (.inl (by omega)) (by omega) e (by rw [hq]; omega)
   rwa [hq,Int.add_comm] at this
theorem NxI.len{T:List Int}{top:Int}{n:Nat}{F G:Frs}{s:Nat->Nat->Prop}(h:NxI T top F s G)(hT:Pos T)(hF:Rw T top n F)(ht:top<=200):G.length<=201:=by
 have:=ziW 201 0 (fky G) h.nd fun x m=>by
  obtain⟨e,me,rfl⟩:=List.mem_map.mp m;obtain⟨q,k,r0,rest,_,a2,a3,rfl,a5,_⟩:=h.ok e me;have l0:=(hF.ok _ (List.mem_of_getElem? a2)).1;have:=zaS hT l0.ok;rw [l0.sm] at this;have:=zee hT (p:=(q:Int)) (by omega) (by omega);simp only at a5 ⊢;omega
 unfold fky at this
 rwa [List.length_map] at this
theorem zbN(ns:List Int):zfe ns=.tuple (ns.map PyData.int):=rfl
theorem zfR(F:Frs):DD.itemsD (zdy F)=F.map fun p=>PyData.tuple [.int p.1,zfe p.2]:=by
 unfold DD.itemsD zdy;rw [List.map_map];rfl
theorem zct{T:List Int}{top:Int}{n:Nat}{F:Frs}(hT:Pos T)(hl:T.length<=8)(hn:n<=300)(ht:top<=200)(hF:Rw T top n F)(hFl:F.length<=201)(q:∀ G,Rw T top (n+1) G->R (.d (zcL G)) []):zbj [.d (shD T),.d (zcL F),.d (.int top)] [] R:=by
 unfold zbj zcL shD;walk_at "d";refine seq1 ?_;walk_at "d";intro ad _;walk_at "d";refine ze2 (fun i δ S M=>∃ (G:Frs) (u4 u5 u6 u7:Option XV),S=[]/\M=[(ad,.k (zdy G))]/\NxI T top F (fun q m=>q<i\/q=i/\m<0) G/\δ=[some (.d (.tuple (T.map PyData.int))),some (.d (.dict (DD.k (zdy F)).pairs)),some (.d (.int top)),some (.o (.ref ad)),u4,u5,u6,u7]) ⟨[],_,_,_,_,rfl,rfl,⟨by simp [fky],by simp,fun q m r0 rest h=>by omega⟩,rfl⟩ ?_ ?_
 ·rintro i d _ _ _ N hi ⟨G,u4,u5,u6,u7,rfl,rfl,hG,rfl⟩ hN;obtain⟨e,he,rfl⟩:=zdD _ 0 i d hi;obtain⟨x,ex,rfl⟩:=zh5 he;have hi':=(List.getElem?_eq_some_iff.mp ex).1;have etx:thk T (i:Int)=x:=by unfold thk; rw [Int.toNat_natCast,List.getD_eq_getElem?_getD,ex]; rfl
  clear ex he hi
  subst etx;rw [Nat.zero_add];walk_at "d";refine⟨_,rfl,?_⟩;rw [zfR];refine ze2 (fun j δ S M=>∃ (G:Frs) (u6 u7:Option XV),S=[]/\M=[(ad,.k (zdy G))]/\NxI T top F (fun q m=>q<i\/q=i/\m<j) G/\δ=[some (.d (.tuple (T.map PyData.int))),some (.d (.dict (DD.k (zdy F)).pairs)),some (.d (.int top)),some (.o (.ref ad)),some (.d (.int i)),some (.d (.int (thk T i))),u6,u7]) ⟨G,_,_,rfl,rfl,hG,rfl⟩ ?_ ?_
  ·rintro j d _ _ _ N2 hj ⟨G,u6,u7,rfl,rfl,hG,rfl⟩ hN2;obtain⟨p,ep,rfl⟩:=zh5 hj;have gl:=hG.len hT hF ht;walk_at "d";by_cases ht':p.1+thk T i<=top
   ·rw [if_pos ht',zbN];refine⟨ad,zdy G,rfl,by simp,?_⟩;walk_at "d";have pl:=(hF.ok p (List.mem_of_getElem? ep)).1.len;refine⟨by omega,Sum.inl (p.1+thk T i),rfl,by unfold zdy; rw [List.length_map]; omega,?_⟩;rcases zn0 (k:=p.1+thk T i) hG.nd with ⟨e1,nk⟩ | ⟨two,e1,m⟩
    ·rw [e1];walk_at "d";refine hN2 _ _ _ ⟨G++[(p.1+thk T i,(i:Int) :: p.2)],_,_,rfl,?_,hG.more hi' ep ht' nk,rfl⟩;have:=zp3 (one:=(i:Int) :: p.2) nk;rw [<- this,zbN];simp [zpE]
    ·rw [e1];walk_at "d";exact hN2 _ _ _ ⟨G,_,_,rfl,rfl,hG.skip ep fun _=>List.mem_map.mpr ⟨_,m,rfl⟩,rfl⟩
   ·rw [if_neg ht'];walk_at "d";refine hN2 _ _ _ ⟨G,_,_,rfl,rfl,hG.skip ep fun z=>absurd z ht',rfl⟩
  ·rintro _ _ _ ⟨G,u6,u7,rfl,rfl,hG,rfl⟩;rw [List.length_map] at hG;exact hN _ _ _ ⟨G,_,_,_,_,rfl,rfl,hG.to fun q m hm=>by omega,rfl⟩
 ·rintro _ _ _ ⟨G,u4,u5,u6,u7,rfl,rfl,hG,rfl⟩;rw [zcU,List.length_map] at hG;refine⟨[],zdy G,rfl,rfl,?_⟩;refine⟨.d (zcL G),?_,?_⟩
  ·simp [zpI,zcL]
  ·walk_at "d";exact q G (hG.rw hT hF)
def inS(a lo hi:Int)(p:Int×List Int):Bool:=decide (lo<=a+p.1) && decide (a+p.1<=hi)
theorem zN{F:Frs}{a lo hi:Int}(hl:F.length<=1000)(q:R (.d (.list ((F.filter (inS a lo hi)).map fun p=>zfe p.2))) []):zI [.d (zcL F),.d (.int a),.d (.tuple [.int lo,.int hi])] [] R:=by
 unfold zI zcL;walk_at "d";refine⟨_,rfl,?_⟩;rw [zfR];refine cmf2 (S0:=[]) (h:=fun p:Int×List Int=>PyData.tuple [.int p.1,zfe p.2]) (fun p=>zfe p.2) (inS a lo hi) rfl F hl ?_ ?_
 ·intro p mp u v acc R' hk;unfold inS at hk;walk_at "d";by_cases h1:lo<=a+p.1
  ·rw [if_pos h1];rw [decide_eq_true h1,Bool.true_and] at hk;walk_at "d";exact hk _ _ fun _ T hT=>by walk_at "d"; exact hT
  ·rw [if_neg h1];rw [decide_eq_false h1,Bool.false_and] at hk;walk_at "d";exact hk _ _ fun h=>by cases h
 ·walk_at "d";exact .inl q
theorem zcJ{a lo hi:Int}(h:hi - a<=200)(q:R (.d (.int (hi - a))) []):zbS [.d (.int a),.d (.tuple [.int lo,.int hi])] [] R:=by
 unfold zbS;walk_at "d"
 (refine seq1 ?_; walk_at "d")
 refine seq1 ?_;walk_at "d";rw [if_neg (by omega)];exact q
theorem zbr{T:List Int}{top:Int}(q:∀ F,Rw T top 0 F->F.length<=1->R (.d (zcL F)) []):zaT [.d (.int top)] [] R:=by
 unfold zaT;walk_at "d";by_cases h:0<=top
 ·rw [if_pos h];walk_at "d";exact q [(0,[])] (Rw.zero h) (by simp)
 ·rw [if_neg h];exact q [] (Rw.none (by omega)) (by simp)
def Ans(T:List Int)(a lo hi:Int):Option (List Int)->Prop
 | none=>∀ z,okS T z->¬ (lo<=a+za9 T z/\a+za9 T z<=hi)
 | some st=>(okS T st/\lo<=a+za9 T st/\a+za9 T st<=hi)/\(∀ z,okS T z->z.length<st.length->¬ (lo<=a+za9 T z/\a+za9 T z<=hi))/\∀ z,okS T z->z.length=st.length->lo<=a+za9 T z->a+za9 T z<=hi->HT.lexLt z st=false
theorem zmk{T:List Int}{top:Int}{n:Nat}(hT:Pos T)(h:Rw T top n []){z:List Int}(o:okS T z)(hn:n<=z.length):¬ za9 T z<=top:=fun hs=>by
 have o1:okS T (z.take n):=fun p m=>o p (List.mem_of_mem_take m);have o2:okS T (z.drop n):=fun p m=>o p (List.mem_of_mem_drop m);have e:za9 T z=za9 T (z.take n)+za9 T (z.drop n):=by rw [<- ziM,List.take_append_drop]
 have:=zaS hT o2;have:=h.all (z.take n) o1 (by rw [List.length_take]; omega) (by omega);simp [fky] at this
theorem zno{T:List Int}{a lo hi:Int}{n:Nat}(hT:Pos T)(h:Rw T (hi - a) n [])(hb:∀ z,okS T z->z.length<n->¬ (lo<=a+za9 T z/\a+za9 T z<=hi)):Ans T a lo hi none:=fun z o k=>by
 rcases Nat.lt_or_ge z.length n with l | l
 ·exact hb z o l k
 ·exact zmk hT h o l (by omega)
theorem znx{T:List Int}{a lo hi:Int}{n:Nat}{F:Frs}{m:List Int}(hF:Rw T (hi - a) n F)(hb:∀ z,okS T z->z.length<n->¬ (lo<=a+za9 T z/\a+za9 T z<=hi))(mm:m∈(F.filter (inS a lo hi)).map (·.2))(hm:∀ x,x∈(F.filter (inS a lo hi)).map (·.2)->HT.lexLt x m=false):Ans T a lo hi (some m):=by
 obtain⟨p,mp,rfl⟩:=List.mem_map.mp mm;obtain⟨mp,ip⟩:=List.mem_filter.mp mp;obtain⟨l,lt⟩:=hF.ok p mp;unfold inS at ip;simp only [Bool.and_eq_true,decide_eq_true_eq] at ip;refine⟨⟨l.ok,by rw [l.sm]; exact ip.1,by rw [l.sm]; exact ip.2⟩,fun z o hz=>hb z o (by rw [l.len] at hz; exact hz),fun z o hz z1 z2=>?_⟩;rw [l.len] at hz;obtain⟨st,ms,ls⟩:=hF.at o hz (by omega);have k1:=ls.le z o hz rfl;have k2:=hm st (List.mem_map.mpr ⟨_,List.mem_filter.mpr ⟨ms,by unfold inS; simp only [Bool.and_eq_true,decide_eq_true_eq]; exact⟨z1,z2⟩⟩,rfl⟩);exact L2.lex_ntrans z st p.2 k1 k2
theorem zrJ{T:List Int}{a lo hi:Int}{n:Nat}{F:Frs}(hF:Rw T (hi - a) n F)(he:F.filter (inS a lo hi)=[]):∀ z,okS T z->z.length=n->¬ (lo<=a+za9 T z/\a+za9 T z<=hi):=fun z o l k=>by
 obtain⟨st,ms,ls⟩:=hF.at o l (by omega);have:=List.filter_eq_nil_iff.mp he _ ms;unfold inS at this;simp only [Bool.and_eq_true,decide_eq_true_eq] at this;exact this k
theorem zc4{α:Type}(l:List α)(x:α):atI (l++[x]) (-1)=some x:=by
 have h:ixN (l++[x]).length (-1)=some l.length:=by
  unfold ixN;rw [List.length_append,List.length_singleton,if_neg (by omega),if_pos (by omega)];congr 1;omega
 unfold atI;rw [h];simp
theorem Rw.len201{T:List Int}{top:Int}{n:Nat}{G:Frs}(hG:Rw T top n G)(hT:Pos T)(h:top<=200):G.length<=201:=by
 rcases Int.lt_or_le top 0 with z | z
 ·have:G=[]:=by
   cases hg:G with
   | nil=>rfl
   | cons x y =>
    obtain⟨l,lt⟩:=hG.ok x (by rw [hg]; exact List.mem_cons_self);have:=zaS hT l.ok;rw [l.sm,l.len] at this;omega
  rw [this];simp
 ·have:=hG.len hT z;omega
theorem Rw.n200{T:List Int}{top:Int}{n:Nat}{G:Frs}(hG:Rw T top n G)(hT:Pos T)(h:top<=200)(hE:G≠[]):n<=200:=by
 cases hc:G with
 | nil=>exact absurd hc hE
 | cons x y =>
  obtain⟨l,lt⟩:=hG.ok x (by rw [hc]; exact List.mem_cons_self);have:=zaS hT l.ok;rw [l.sm,l.len] at this;omega
theorem zdX{T:List Int}{a lo hi:Int}(hT:Pos T)(hl:T.length<=8)(h:hi - a<=200)(q:∀ (Fs:List Frs) (F:Frs) (n:Nat),Rw T (hi - a) n F->F.length<=201->(∀ z,okS T z->z.length<n->¬ (lo<=a+za9 T z/\a+za9 T z<=hi))->(F=[]\/F.filter (inS a lo hi)≠[])->R (.d (.list ((Fs++[F]).map zcL))) []):zZ [.d (shD T),.d (.int a),.d (.tuple [.int lo,.int hi])] [] R:=by
 unfold zZ;walk_at "d"
 (refine seq1 ?_; walk_at "d")
 refine zcJ h ?_;walk_at "d"
 (refine seq1 ?_; walk_at "d")
 refine zbr (T:=T) fun F0 hF0 l0=>?_;walk_at "d";refine seq1 ?_;refine⟨fun m δ S=>∃ (Fs:List Frs) (F:Frs) (n:Nat),S=[(Fs++[F]).map zcL]/\δ=[some (.d (shD T)),some (.d (.int a)),some (.d (.tuple [.int lo,.int hi])),some (.d (.int (hi - a))),some (.l 0)]/\Rw T (hi - a) n F/\F.length<=201/\(∀ z,okS T z->z.length<n->¬ (lo<=a+za9 T z/\a+za9 T z<=hi))/\Fs.length=n/\n<=201/\m=202 - n,
  ⟨_,[],F0,0,rfl,rfl,hF0,by omega,fun z _ l=>by omega,rfl,by omega,rfl⟩,?_⟩
 rintro m _ _ ⟨Fs,F,n,rfl,rfl,hF,lF,hb,lFs,hn,rfl⟩;have el:atI ((Fs++[F]).map zcL) (-1)=some (zcL F):=by rw [List.map_append]; exact zc4 _ _
 walk_at "d";refine⟨_,el,?_⟩;refine⟨zdy F,rfl,?_⟩;by_cases hE:F=[]
 ·subst hE;walk_at "d";have:=q Fs [] n hF (by simp) hb (.inl rfl);rw [if_neg (show ¬ (zdy []).isEmpty=false by decide)];walk_at "d";exact .inl this
 ·have hne:(zdy F).isEmpty=false:=by cases F with
   | nil=>exact absurd rfl hE
   | cons x y=>rfl
  rw [hne];walk_at "d";refine⟨_,el,?_⟩;refine zN (by omega) ?_;walk_at "d";have n200:(n:Int)<=200:=by
   cases hc:F with
   | nil=>exact absurd hc hE
   | cons x y =>
    obtain⟨l,lt⟩:=hF.ok x (by rw [hc]; exact List.mem_cons_self);have:=zaS hT l.ok;rw [l.sm,l.len] at this;omega
  by_cases hf:F.filter (inS a lo hi)=[]
  ·rw [hf];walk_at "d";refine⟨fun δ' S'=>∃ G,Rw T (hi - a) (n+1) G/\S'=[(Fs++[F]).map zcL++[zcL G]]/\δ'=[some (.d (shD T)),some (.d (.int a)),some (.d (.tuple [.int lo,.int hi])),some (.d (.int (hi - a))),some (.l 0)],?_,_,el,?_⟩
   ·rintro _ _ ⟨G,hG,rfl,rfl⟩;have gl:G.length<=201:=by
     rcases Int.lt_or_le (hi - a) 0 with z | z
     ·have:G=[]:=by
       cases hg:G with
       | nil=>rfl
       | cons x y =>
        obtain⟨l,lt⟩:=hG.ok x (by rw [hg]; exact List.mem_cons_self);have:=zaS hT l.ok;rw [l.sm,l.len] at this;omega
      rw [this];simp
     ·have:=hG.len hT z;omega
    refine⟨202 - (n+1),by omega,Fs++[F],G,n+1,by rw [List.map_append (l₁:=Fs++[F])]; rfl,rfl,hG,gl,fun z o l=>?_,by rw [List.length_append,lFs]; rfl,by omega,rfl⟩;rcases Nat.lt_or_ge z.length n with l' | l'
    ·exact hb z o l'
    ·exact zrJ hF hf z o (by omega)
   ·refine zct hT hl (by omega) h hF lF fun G hG=>?_;walk_at "d";exact⟨by omega,G,hG,rfl⟩
  ·have he:((F.filter (inS a lo hi)).map fun p=>zfe p.2).isEmpty=false:=by
    cases hc:F.filter (inS a lo hi) with
    | nil=>exact absurd hc hf
    | cons x y=>rfl
   rw [he];walk_at "d";exact .inl (q Fs F n hF lF hb (.inr hf))
theorem zcp{T:List Int}{a lo hi:Int}(hT:Pos T)(hl:T.length<=8)(h:hi - a<=200)(q:∀ res,Ans T a lo hi res->R (.d (zm4 res)) []):zbh [.d (shD T),.d (.int a),.d (.tuple [.int lo,.int hi])] [] R:=by
 unfold zbh;walk_at "d"
 (refine seq1 ?_; walk_at "d")
 refine zdX hT hl h fun Fs F n hF lF hb hor=>?_;walk_at "d";have el:atI ((Fs++[F]).map zcL) (-1)=some (zcL F):=by rw [List.map_append]; exact zc4 _ _
 refine⟨_,el,?_⟩;refine zN (by omega) ?_;walk_at "d";refine⟨(F.filter (inS a lo hi)).map (·.2),by rw [List.map_map]; rfl,fun z=>?_,fun m mm hm=>?_⟩
 ·have hf:F.filter (inS a lo hi)=[]:=List.map_eq_nil_iff.mp z;rcases hor with rfl | hor
  ·exact q none (zno hT hF hb)
  ·exact absurd hf hor
 ·exact q (some m) (znx hF hb mm hm)
theorem znU{T:List Int}{q:Int}(h0:0<=q)(h1:q<T.length):atI (T.map PyData.int) q=some (.int (thk T q)):=by
 obtain⟨k,rfl⟩:∃ k:Nat,q=k:=⟨q.toNat,by omega⟩;have hk:k<T.length:=by omega
 refine zec (j:=k) ?_;rw [List.getElem?_map,List.getElem?_eq_getElem hk];unfold thk;rw [Int.toNat_natCast,List.getD_eq_getElem?_getD,List.getElem?_eq_getElem hk];rfl
theorem zlC:∀ (l m:List Int),l.Nodup->(∀ x∈l,x∈m)->l.length<=m.length
 | [],_,_,_=>Nat.zero_le _
 | x :: l,m,nd,h=>by
  have hx:=h x List.mem_cons_self;rw [List.nodup_cons] at nd;have:=zlC l (m.erase x) nd.2 fun y my=>(List.mem_erase_of_ne (fun e:y=x=>nd.1 (e▸my))).mpr (h y (List.mem_cons_of_mem _ my));rw [List.length_erase_of_mem hx] at this;have:0<m.length:=List.length_pos_of_mem hx;rw [List.length_cons];omega
theorem zgQ{p:List PyData}(hp:zdc p)(q:∀ T p',Pos T->T.length<=5->zdc p'->R (.d (shD T)) [p']):zcq [.l 0] [p] R:=by
 unfold zcq;walk_at "d"
 (refine seq1 ?_; walk_at "d")
 refine zL hp (by decide) (by decide +kernel) fun r p1 r0 r1 hp1=>?_;obtain⟨d,ed,n,rfl,n0,n1⟩:=znB (P:=fun d=>∃ n,d=.int n/\1<=n/\n<=99) (ds:=[PyData.int 4,PyData.int 12,PyData.int 99]) r0 r1 (by simp);refine⟨_,ed,?_⟩;walk_at "d";refine zL hp1 (by decide) (by decide +kernel) fun r p2 r0 r1 hp2=>?_;walk_at "d";refine zse (α:=Int) (fun x=>1<=x) PyData.int (fun τ=>∃ u,τ=[u,some (.l 0),some (.d (.int n))]) _ [] p2 _ ⟨_,rfl⟩ hp2 (by rw [zbZ]; simp; omega) ?_ ?_
 ·rintro d md _ p acc R' ⟨u,rfl⟩ hp hk;walk_at "d";refine zL hp (by omega) (zfy (by omega) (by omega)) fun r p' r0 r1 hp'=>?_;walk_at "d";exact hk _ _ p' ⟨_,rfl⟩ hp' (by omega)
 ·intro ws p3 hp3 hw hl;rw [zbZ] at hl;rw [List.nil_append];refine⟨[p3],_,rfl,rfl,ws,rfl,by omega,fun ms pw hm=>?_⟩;refine q ms p3 (fun x m=>hw x ((hm x).mp m)) ?_ hp3;have nd:ms.Nodup:=pw.imp fun h=>by omega
  have:=zlC ms ws nd fun x m=>(hm x).mp m;omega
theorem zjR{p:List PyData}{far:Int}(hp:zdc p)(f0:1<=far)(f1:far<=190)(q:∀ a lo hi p',hi - a<=200->zdc p'->R (.d (.tuple [.int a,.tuple [.int lo,.int hi]])) [p']):zdJ [.l 0,.d (.int far)] [p] R:=by
 unfold zdJ;walk_at "d"
 (refine seq1 ?_; walk_at "d")
 refine zgn hp fun a p1 _ _ hp1=>?_;walk_at "d"
 (refine seq1 ?_; walk_at "d")
 refine zL hp1 (by decide) (by decide +kernel) fun x p2 x0 x1 hp2=>?_;walk_at "d";refine zL hp2 (by decide) (by decide +kernel) fun y p3 y0 y1 hp3=>?_;walk_at "d";refine zL hp3 (by omega) (zfy (by omega) (by omega)) fun z p4 z0 z1 hp4=>?_;walk_at "d";refine zL hp4 (by decide) (by decide +kernel) fun w p5 w0 w1 hp5=>?_;walk_at "d";obtain⟨d,ed,v,rfl,v1⟩:=znB (P:=fun d=>∃ v,d=.int v/\v<=190) (ds:=[PyData.int (x - 3),PyData.int y,PyData.int z]) (r:=(w+1) / 4) (by omega) (show (w+1) / 4<3 by omega) (by simp; omega);refine .inl ⟨⟨by decide,by decide +kernel⟩,_,ed,?_⟩;walk_at "d";refine zL hp5 (by decide) (by decide +kernel) fun s p6 s0 s1 hp6=>?_;obtain⟨d,ed2,v2,rfl,v3⟩:=znB (P:=fun d=>∃ v,d=.int v/\v<=8) (ds:=[PyData.int 0,PyData.int 0,PyData.int 1,PyData.int 3,PyData.int 8]) s0 s1 (by simp);walk_at "d";refine⟨_,ed2,?_⟩;walk_at "d";exact q _ _ _ p6 (by omega) hp6
end
section
variable {R:RX} {S:Sto}
def upto(top:Int):List Int:=(List.range (top+1).toNat).map Int.ofNat
theorem zgj{top x:Int}:x∈upto top↔0<=x/\x<=top:=by
 unfold upto;rw [List.mem_map];constructor
 ·rintro⟨k,mk,rfl⟩;have:=List.mem_range.mp mk;simp only [Int.ofNat_eq_natCast];omega
 ·rintro⟨h0,h1⟩;exact⟨x.toNat,List.mem_range.mpr (by omega),by simp only [Int.ofNat_eq_natCast]; omega⟩
theorem zpC(top:Int):(upto top).Pairwise (· < ·):=by
 unfold upto;refine List.pairwise_map.mpr (List.pairwise_lt_range.imp fun h=>?_);simp only [Int.ofNat_eq_natCast];omega
def ro(T:List Int)(top:Int):Nat->List Int
 | 0=>if 0<=top then [0] else []
 | n+1=>(upto top).filter fun x=>(ro T top n).any fun y=>T.any fun t=>decide (y+t=x)
def Sm(T:List Int)(top:Int)(n:Nat)(x:Int):Prop:=x<=top/\∃ z,okS T z/\z.length=n/\za9 T z=x
section
variable {T:List Int} {top:Int} {n:Nat}
theorem zqb:(ro T top n).Pairwise (· < ·):=by
 cases n with
 | zero =>
  unfold ro;split <;> simp
 | succ n=>exact(zpC top).sublist List.filter_sublist
theorem zpS{x:Int}(m:x∈ro T top n):0<=x/\x<=top:=by
 cases n with
 | zero =>
  unfold ro at m;split at m
  ·have:=List.mem_singleton.mp m;omega
  ·cases m
 | succ n=>exact zgj.mp ((List.mem_filter.mp m).1)
theorem zpy(hT:Pos T){x:Int}:x∈ro T top (n+1)↔x<=top/\∃ y∈ro T top n,∃ t∈T,y+t=x:=by
 show x∈(upto top).filter _↔_;rw [List.mem_filter,zgj,List.any_eq_true];constructor
 ·rintro⟨h,y,my,hy⟩;obtain⟨t,mt,ht⟩:=List.any_eq_true.mp hy;exact⟨h.2,y,my,t,mt,of_decide_eq_true ht⟩
 ·rintro⟨h,y,my,t,mt,rfl⟩;have:=(zpS my).1;have:=hT t mt;exact⟨⟨by omega,h⟩,y,my,List.any_eq_true.mpr ⟨t,mt,decide_eq_true rfl⟩⟩
theorem zmj{q:Int}(h0:0<=q)(h1:q<T.length):thk T q∈T:=by
 have hlt:q.toNat<T.length:=by omega
 unfold thk;rw [List.getD_eq_getElem?_getD,List.getElem?_eq_getElem hlt];exact List.getElem_mem hlt
theorem zkG{t:Int}(m:t∈T):∃ q:Int,0<=q/\q<T.length/\thk T q=t:=by
 obtain⟨i,hi,rfl⟩:=List.mem_iff_getElem.mp m;refine⟨i,by omega,by omega,?_⟩;unfold thk;rw [Int.toNat_natCast,List.getD_eq_getElem?_getD,List.getElem?_eq_getElem hi];rfl
theorem zhM(hT:Pos T):∀ {n:Nat} {x:Int},x∈ro T top n↔Sm T top n x
 | 0,x=>by
  unfold ro Sm;constructor
  ·intro m;split at m
   ·have:=List.mem_singleton.mp m;exact⟨by omega,[],by simp [okS],rfl,by rw [this]; rfl⟩
   ·cases m
  ·rintro⟨h,z,o,l,s⟩;rw [List.eq_nil_of_length_eq_zero l,zi0] at s;rw [if_pos (by omega),<- s];simp
 | n+1,x=>by
  rw [zpy hT];constructor
  ·rintro⟨h,y,my,t,mt,rfl⟩;obtain⟨_,z,o,l,s⟩:=(zhM hT).mp my;obtain⟨q,q0,q1,rfl⟩:=zkG mt;exact⟨h,q :: z,zbz.mpr ⟨⟨q0,q1⟩,o⟩,by rw [List.length_cons,l],by rw [zar,s]; omega⟩
  ·rintro⟨h,z,o,l,s⟩;cases z with
   | nil=>cases l
   | cons q r =>
    have o':=zbz.mp o;have tp:=zee hT o'.1.1 o'.1.2;rw [zar] at s;exact⟨h,za9 T r,(zhM hT).mpr ⟨by omega,r,o'.2,by simpa using l,rfl⟩,_,zmj o'.1.1 o'.1.2,by omega⟩
theorem zsv(hT:Pos T)(h:ro T top n≠[]):(n:Int)<=top:=by
 cases hc:ro T top n with
 | nil=>exact absurd hc h
 | cons x l =>
  obtain⟨h1,z,o,e,s⟩:=(zhM (n:=n) (x:=x) (top:=top) hT).mp (by rw [hc]; exact List.mem_cons_self);have:=zaS hT o;omega
theorem Rw.mem{F:Frs}(hT:Pos T)(hF:Rw T top n F){x:Int}:x∈fky F↔x∈ro T top n:=by
 rw [zhM hT];constructor
 ·intro m;obtain⟨p,mp,rfl⟩:=List.mem_map.mp m;obtain⟨l,le⟩:=hF.ok p mp;exact⟨le,p.2,l.ok,l.len,l.sm⟩
 ·rintro⟨h,z,o,l,rfl⟩;exact hF.all z o l h
def zgF(a lo hi:Int)(l:List Int):Bool:=l.any fun x=>decide (lo<=a+x) && decide (a+x<=hi)
theorem Rw.hit{F:Frs}{a lo hi:Int}(hT:Pos T)(hF:Rw T top n F):F.filter (inS a lo hi)=[]↔zgF a lo hi (ro T top n)=false:=by
 rw [List.filter_eq_nil_iff];unfold zgF;rw [List.any_eq_false];constructor
 ·intro h x m;obtain⟨p,mp,rfl⟩:=List.mem_map.mp ((hF.mem hT).mpr m);exact h p mp
 ·intro h p mp;exact h p.1 ((hF.mem hT).mp (List.mem_map.mpr ⟨p,mp,rfl⟩))
theorem Rw.nil{F:Frs}(hT:Pos T)(hF:Rw T top n F):F=[]↔ro T top n=[]:=by
 constructor
 ·rintro rfl;refine List.eq_nil_iff_forall_not_mem.mpr fun x m=>?_;have:=(hF.mem hT).mpr m;cases this
 ·intro h;refine List.eq_nil_iff_forall_not_mem.mpr fun p m=>?_;have:=(hF.mem hT).mp (List.mem_map.mpr ⟨p,m,rfl⟩);rw [h] at this;cases this
end
theorem zd4{T:List Int}{top:Int}{n:Nat}{F:Frs}(hT:Pos T)(hF:Rw T top n F)(hl:F.length<=201)(q:R (.d (shD (ro T top n))) []):zbP [.d (zcL F)] [] R:=by
 unfold zbP zcL;walk_at "d";refine⟨zdy F,rfl,fky F,by unfold zdy fky; rw [List.map_map,List.map_map]; rfl,by unfold fky; rw [List.length_map]; omega,fun ms hp pw=>?_⟩;have nd:ms.Nodup:=hp.nodup_iff.mpr hF.nd;have e:ms=ro T top n:=zlR (r:=fun a b:Int=>a<b) (by intros; omega) ((List.Pairwise.and pw nd).imp fun⟨h1,h2⟩=>by omega) zqb fun x=>by rw [hp.mem_iff,hF.mem hT]
 subst e;walk_at "d";exact q
def Tbl(T:List Int)(a lo hi:Int)(L:List (List Int)):Prop:=∃ m:Nat,(∀ j,j<m->ro T (hi - a) j≠[]/\zgF a lo hi (ro T (hi - a) j)=false)/\(ro T (hi - a) m=[]/\L=(List.range (m+1)).map (ro T (hi - a))\/ro T (hi - a) m≠[]/\zgF a lo hi (ro T (hi - a) m)=true/\L=(List.range m).map (ro T (hi - a)))
def tbD(L:List (List Int)):PyData:=.list (L.map shD)
theorem zgk(T:List Int)(top:Int)(n:Nat):(List.range (n+1)).map (ro T top)=(List.range n).map (ro T top)++[ro T top n]:=by
 rw [List.range_succ,List.map_append];rfl
theorem zmI(ds:List PyData):PyData.eqv (.tuple ds) (.tuple [])=decide (ds=[]):=by
 cases ds <;> rfl
theorem zl2{T:List Int}{a lo hi:Int}(hT:Pos T)(hl:T.length<=8)(h:hi - a<=200)(q:∀ (Fs:List (Nat×Frs)) (F:Frs) (n:Nat),Fs.map (·.1)=List.range n->(∀ p∈Fs,Rw T (hi - a) p.1 p.2/\p.2.length<=201/\p.2≠[]/\p.2.filter (inS a lo hi)=[])->Rw T (hi - a) n F->F.length<=201->n<=201->(F=[]\/F.filter (inS a lo hi)≠[])->R (.d (.list ((Fs++[(n,F)]).map fun p=>zcL p.2))) []):zZ [.d (shD T),.d (.int a),.d (.tuple [.int lo,.int hi])] [] R:=by
 unfold zZ;walk_at "d"
 (refine seq1 ?_; walk_at "d")
 refine zcJ h ?_;walk_at "d"
 (refine seq1 ?_; walk_at "d")
 refine zbr (T:=T) fun F0 hF0 l0=>?_;walk_at "d";refine seq1 ?_;refine⟨fun m δ S=>∃ (Fs:List (Nat×Frs)) (F:Frs) (n:Nat),S=[(Fs++[(n,F)]).map fun p=>zcL p.2]/\δ=[some (.d (shD T)),some (.d (.int a)),some (.d (.tuple [.int lo,.int hi])),some (.d (.int (hi - a))),some (.l 0)]/\Rw T (hi - a) n F/\F.length<=201/\(∀ p∈Fs,Rw T (hi - a) p.1 p.2/\p.2.length<=201/\p.2≠[]/\p.2.filter (inS a lo hi)=[])/\Fs.map (·.1)=List.range n/\n<=201/\m=202 - n,
  ⟨_,[],F0,0,rfl,rfl,hF0,by omega,by simp,rfl,by omega,rfl⟩,?_⟩
 rintro m _ _ ⟨Fs,F,n,rfl,rfl,hF,lF,hb,eFs,hn,rfl⟩;have lFs:Fs.length=n:=by rw [<- List.length_map (f:=fun p:Nat×Frs=>p.1),eFs,List.length_range]
 have el:atI ((Fs++[(n,F)]).map fun p=>zcL p.2) (-1)=some (zcL F):=by rw [List.map_append]; exact zc4 _ _
 walk_at "d";refine⟨_,el,?_⟩;refine⟨zdy F,rfl,?_⟩;by_cases hE:F=[]
 ·subst hE;walk_at "d";have:=q Fs [] n eFs hb hF (by simp) hn (.inl rfl);rw [if_neg (show ¬ (zdy []).isEmpty=false by decide)];walk_at "d";exact .inl this
 ·have hne:(zdy F).isEmpty=false:=by cases F with
   | nil=>exact absurd rfl hE
   | cons x y=>rfl
  rw [hne];walk_at "d";refine⟨_,el,?_⟩;refine zN (by omega) ?_;walk_at "d";have n200:=hF.n200 hT h hE;by_cases hf:F.filter (inS a lo hi)=[]
  ·rw [hf];walk_at "d";refine⟨fun δ' S'=>∃ G,Rw T (hi - a) (n+1) G/\S'=[((Fs++[(n,F)]).map fun p=>zcL p.2)++[zcL G]]/\δ'=[some (.d (shD T)),some (.d (.int a)),some (.d (.tuple [.int lo,.int hi])),some (.d (.int (hi - a))),some (.l 0)],?_,_,el,?_⟩
   ·rintro _ _ ⟨G,hG,rfl,rfl⟩;refine⟨202 - (n+1),by omega,Fs++[(n,F)],G,n+1,by rw [List.map_append (l₁:=Fs++[(n,F)])]; rfl,rfl,hG,hG.len201 hT h,fun p mp=>?_,by rw [List.map_append,eFs,List.range_succ]; rfl,by omega,rfl⟩;rcases List.mem_append.mp mp with mp | mp
    ·exact hb p mp
    ·rw [List.mem_singleton.mp mp];exact⟨hF,lF,hE,hf⟩
   ·refine zct hT hl (by omega) h hF lF fun G hG=>?_;walk_at "d";exact⟨by omega,G,hG,rfl⟩
  ·have he:((F.filter (inS a lo hi)).map fun p=>zfe p.2).isEmpty=false:=by
    cases hc:F.filter (inS a lo hi) with
    | nil=>exact absurd hc hf
    | cons x y=>rfl
   rw [he];walk_at "d";exact .inl (q Fs F n eFs hb hF lF hn (.inr hf))
def zir(c:List Int):PyData->Bool
 | .tuple ds=>ds.all zb2 && PyData.eqv (.tuple ds) (shD c)
 | _=>false
theorem zoj(c:List Int)(ds:List PyData):zir c (.tuple ds)=(ds.all zb2 && PyData.eqv (.tuple ds) (shD c)):=rfl
theorem zj0{ds:List PyData}(h:ds.all zb2=true):SeqAt.shaped (.tuple ds)=true:=(zkH (n:=0) fun e m=>by
 have:=List.all_eq_true.mp h e m;cases e with
 | int i=>exact zhY
 | _=>cases this).ok
def zry:PyData->Nat
 | .tuple ds=>ds.length
 | _=>0
theorem zst{g:DG}{te:DE}{fin:Sto->Prop}{S0:Sto}{n:Nat}{caps:XE}(f:PyData->PyData)(hn:S0.length=n)(ds:List PyData){u:Option XV}(hl:ds.length<=1000)
  (el:∀ x∈ds,∀ (u:Option XV) acc (R:XE->RX),(∀ u',R (u' :: caps) (.d (f x)) (S0++[acc]))->g (.d x) (u :: caps) (S0++[acc]) fun τ1 S1=>te τ1 S1 (R τ1)) (hf:fin (S0++[ds.map f])):zev n g zby te fin ds (u :: caps) (S0++[[]]):=by
 have:=cmp1 (h:=fun d:PyData=>d) (u:=u) f hn ds hl el hf;simpa only [List.map_id'] using this
theorem zgK{d:PyData}(q:R (.d (.bool (zb2 d))) []):zc2 [.d d] [] R:=by
 unfold zc2;cases d <;> (walk_at "e"; exact q)
theorem zid{c:List Int}{d:PyData}(hd:zry d<=900)(q:R (.d (.bool (zir c d))) []):zc1 [.d d,.d (shD c)] [] R:=by
 unfold zc1;cases d with
 | tuple ds =>
  walk_at "d";rw [zoj] at q;refine zst (S0:=[]) (fun d=>.bool (zb2 d)) rfl ds (Nat.le_trans hd (by decide)) ?_ ?_
  ·intro x mx u acc R' hk;walk_at "d";refine zgK ?_;walk_at "d";exact hk _
  ·walk_at "d";refine⟨ds.map zb2,by rw [List.map_map]; rfl,?_⟩;rw [List.all_map,show ds.all (id∘zb2)=ds.all zb2 from rfl];cases hw:ds.all zb2 with
   | false =>
    rw [hw] at q;exact q
   | true =>
    rw [hw,Bool.true_and] at q;exact⟨zj0 hw,(zgg (n:=0) c).ok,q⟩
 | none=>(walk_at "d"; exact q)
 | bool b=>(walk_at "d"; exact q)
 | int b=>(walk_at "d"; exact q)
 | str b=>(walk_at "d"; exact q)
 | list b=>(walk_at "d"; exact q)
 | dict b=>(walk_at "d"; exact q)
def hdB(T:List Int)(a lo hi:Int):Nat->List PyData->Bool
 | _,[]=>true
 | n,d :: ds=>(zir (ro T (hi - a) n) d && !zgF a lo hi (ro T (hi - a) n)) && hdB T a lo hi (n+1) ds
def zpq(T:List Int)(a lo hi many:Int):PyData->Bool
 | .list ds=>decide ((ds.length:Int)=many) && hdB T a lo hi 0 ds
 | _=>false
def ThT:PyData->Prop
 | .list ds=>ds.length<=290/\∀ e∈ds,zry e<=900
 | _=>True
theorem zmF{α:Type}{l:List α}{i:Nat}{x:α}(h:l[i]? = some x):l.drop i=x :: l.drop (i+1):=by
 obtain⟨hi,rfl⟩:=List.getElem?_eq_some_iff.mp h;exact List.drop_eq_getElem_cons hi
theorem zfr{T:List Int}{a lo hi many:Int}{d:PyData}(hT:Pos T)(hl:T.length<=8)(h:hi - a<=200)(hd:ThT d)(q:R (.d (.bool (zpq T a lo hi many d))) []):zbw [.d (shD T),.d (.int a),.d (.tuple [.int lo,.int hi]),.d (.int many),.d d] [] R:=by
 unfold zbw;walk_at "d"
 (refine seq1 ?_; walk_at "d")
 refine zcJ h ?_;walk_at "d";refine seq1 ?_;cases d with
 | list ds =>
  walk_at "d";obtain⟨l2,el⟩:=hd;have eh:zpq T a lo hi many (.list ds)=(decide ((ds.length:Int)=many) && hdB T a lo hi 0 ds):=rfl;rw [eh] at q;by_cases hm:(ds.length:Int)=many
  ·rw [decide_eq_true hm,Bool.true_and] at q;rw [if_neg (by simpa using hm)]
   (refine seq1 ?_; walk_at "d")
   refine zbr (T:=T) fun F0 hF0 l0=>?_;walk_at "d";refine seq1 ?_;walk_at "d";refine zeD (fun i δ S=>∃ (F:Frs) (u:Option XV),S=[]/\δ=[some (.d (shD T)),some (.d (.int a)),some (.d (.tuple [.int lo,.int hi])),some (.d (.int many)),some (.d (.list ds)),some (.d (.int (hi - a))),some (.d (zcL F)),u]/\Rw T (hi - a) i F/\F.length<=201/\hdB T a lo hi 0 ds=hdB T a lo hi i (ds.drop i)) ⟨F0,_,rfl,rfl,hF0,by omega,rfl⟩ ?_ ?_
   ·rintro i d _ _ N hi' ⟨F,u,rfl,rfl,hF,lF,eq⟩ hN;have il:=(List.getElem?_eq_some_iff.mp hi').1;rw [zmF hi'] at eq;have eq':hdB T a lo hi 0 ds=((zir (ro T (hi - a) i) d && !zgF a lo hi (ro T (hi - a) i)) && hdB T a lo hi (i+1) (ds.drop (i+1))):=eq;walk_at "d";refine seq1 ?_;walk_at "d";refine zd4 hT hF lF ?_;walk_at "d";refine zid (el d (List.mem_of_getElem? hi')) ?_;cases hs:zir (ro T (hi - a) i) d with
    | false =>
     rw [hs,Bool.false_and,Bool.false_and] at eq';rw [eq'] at q;walk_at "d";exact q
    | true =>
     rw [hs,Bool.true_and] at eq';walk_at "d";refine zN (by omega) ?_;walk_at "d";by_cases hf:F.filter (inS a lo hi)=[]
     ·rw [(hF.hit hT).mp hf,Bool.not_false,Bool.true_and] at eq';rw [hf];walk_at "d";refine zct hT hl (by omega) h hF lF fun G hG=>?_;walk_at "d";exact hN _ _ ⟨G,_,rfl,rfl,hG,hG.len201 hT h,eq'⟩
     ·have hh:zgF a lo hi (ro T (hi - a) i)=true:=by
       cases hc:zgF a lo hi (ro T (hi - a) i) with
       | true=>rfl
       | false=>exact absurd ((hF.hit hT).mpr hc) hf
      have he:((F.filter (inS a lo hi)).map fun p=>zfe p.2).isEmpty=false:=by
       cases hc:F.filter (inS a lo hi) with
       | nil=>exact absurd hc hf
       | cons x y=>rfl
      rw [hh,Bool.not_true,Bool.false_and] at eq';rw [eq'] at q;rw [he];walk_at "d";exact q
   ·rintro _ _ ⟨F,u,rfl,rfl,hF,lF,eq⟩;rw [List.drop_length] at eq;rw [eq] at q;walk_at "d";exact q
  ·rw [decide_eq_false hm,Bool.false_and] at q;rw [if_pos (by simpa using hm)];exact q
 | none=>(walk_at "d"; exact q)
 | bool b=>(walk_at "d"; exact q)
 | int b=>(walk_at "d"; exact q)
 | str b=>(walk_at "d"; exact q)
 | tuple b=>(walk_at "d"; exact q)
 | dict b=>(walk_at "d"; exact q)
end
section
variable {R:RX} {S:Sto}
def zqp(C:Addr):Str:=if C=37 then "span" else if C=49 then "part" else if C=61 then "set" else if C=161 then "text" else if C=73 then "row" else if C=85 then "unlike" else if C=104 then "drawing" else if C=123 then "gap" else if C=142 then "offer" else "great"
theorem zmz{C D:Addr}{fs:List (Str×PyData)}(hC:C∈excs)(hD:D∈excs)(q:R (.d (.bool (decide (C=D)))) S):zjo [.x C fs,.o (.ref D)] S R:=⟨C,fs,_,rfl,rfl,hC,.inl ⟨D,rfl,hD,q⟩⟩
theorem zsz{C:Addr}{fs:List (Str×PyData)}(hC:C∈excs)(q:R (.d (.bool true)) S):zjo [.x C fs,.o (.ty "ValueError")] S R:=⟨C,fs,_,rfl,rfl,hC,.inr ⟨rfl,q⟩⟩
theorem zil{C:Addr}{fs:List (Str×PyData)}(hC:C∈excs)(q:R (.d (.str (zqp C))) []):zbg [.x C fs] [] R:=by
 unfold zbg;walk_at "d"
 (refine seq1 ?_; walk_at "d")
 refine zmz hC (by decide) ?_;walk_at "d";refine zmz hC (by decide) ?_;walk_at "d";refine zmz hC (by decide) ?_;walk_at "d";refine zmz hC (by decide) ?_;walk_at "d"
 (refine seq1 ?_; walk_at "d")
 refine zmz hC (by decide) ?_;walk_at "d";refine zmz hC (by decide) ?_;walk_at "d";refine zmz hC (by decide) ?_;walk_at "d";refine zmz hC (by decide) ?_;walk_at "d"
 (refine seq1 ?_; walk_at "d")
 refine zmz hC (by decide) ?_;walk_at "d";refine zmz hC (by decide) ?_;walk_at "d"
 (refine seq1 ?_; walk_at "d")
 refine zsz hC ?_;walk_at "d";refine⟨[decide (C=37),decide (C=49),decide (C=61),decide (C=161),decide (C=73),decide (C=85),decide (C=104),decide (C=123),decide (C=142),decide (C=180)],rfl,?_⟩;have sh:∀ bs:List Bool,SeqAt.shaped (.list (bs.map PyData.bool))=true:=fun bs=>(zeC (zeX fun _ _=>(ziA:Shp 0 _))).ok;simp only [excs,List.mem_cons,List.not_mem_nil,or_false] at hC;rcases hC with rfl | rfl | rfl | rfl | rfl | rfl | rfl | rfl | rfl | rfl
 ·rw [if_neg (by decide)]
  (refine seq1 ?_; walk_at "d")
  exact⟨sh [true,false,false,false,false,false,false,false,false,false],0,⟨_,rfl,rfl⟩,(fun m e hm he=>by rcases m with _ | _ | _ | _ | _ | _ | _ | _ | _ | m <;> first | (exfalso; omega) | (cases he; rfl)),_,rfl,q⟩
 ·rw [if_neg (by decide)]
  (refine seq1 ?_; walk_at "d")
  exact⟨sh [false,true,false,false,false,false,false,false,false,false],1,⟨_,rfl,rfl⟩,(fun m e hm he=>by rcases m with _ | _ | _ | _ | _ | _ | _ | _ | _ | m <;> first | (exfalso; omega) | (cases he; rfl)),_,rfl,q⟩
 ·rw [if_neg (by decide)]
  (refine seq1 ?_; walk_at "d")
  exact⟨sh [false,false,true,false,false,false,false,false,false,false],2,⟨_,rfl,rfl⟩,(fun m e hm he=>by rcases m with _ | _ | _ | _ | _ | _ | _ | _ | _ | m <;> first | (exfalso; omega) | (cases he; rfl)),_,rfl,q⟩
 ·rw [if_neg (by decide)]
  (refine seq1 ?_; walk_at "d")
  exact⟨sh [false,false,false,false,true,false,false,false,false,false],4,⟨_,rfl,rfl⟩,(fun m e hm he=>by rcases m with _ | _ | _ | _ | _ | _ | _ | _ | _ | m <;> first | (exfalso; omega) | (cases he; rfl)),_,rfl,q⟩
 ·rw [if_neg (by decide)]
  (refine seq1 ?_; walk_at "d")
  exact⟨sh [false,false,false,false,false,true,false,false,false,false],5,⟨_,rfl,rfl⟩,(fun m e hm he=>by rcases m with _ | _ | _ | _ | _ | _ | _ | _ | _ | m <;> first | (exfalso; omega) | (cases he; rfl)),_,rfl,q⟩
 ·rw [if_neg (by decide)]
  (refine seq1 ?_; walk_at "d")
  exact⟨sh [false,false,false,false,false,false,true,false,false,false],6,⟨_,rfl,rfl⟩,(fun m e hm he=>by rcases m with _ | _ | _ | _ | _ | _ | _ | _ | _ | m <;> first | (exfalso; omega) | (cases he; rfl)),_,rfl,q⟩
 ·rw [if_neg (by decide)]
  (refine seq1 ?_; walk_at "d")
  exact⟨sh [false,false,false,false,false,false,false,true,false,false],7,⟨_,rfl,rfl⟩,(fun m e hm he=>by rcases m with _ | _ | _ | _ | _ | _ | _ | _ | _ | m <;> first | (exfalso; omega) | (cases he; rfl)),_,rfl,q⟩
 ·rw [if_neg (by decide)]
  (refine seq1 ?_; walk_at "d")
  exact⟨sh [false,false,false,false,false,false,false,false,true,false],8,⟨_,rfl,rfl⟩,(fun m e hm he=>by rcases m with _ | _ | _ | _ | _ | _ | _ | _ | _ | m <;> first | (exfalso; omega) | (cases he; rfl)),_,rfl,q⟩
 ·rw [if_neg (by decide)]
  (refine seq1 ?_; walk_at "d")
  exact⟨sh [false,false,false,true,false,false,false,false,false,false],3,⟨_,rfl,rfl⟩,(fun m e hm he=>by rcases m with _ | _ | _ | _ | _ | _ | _ | _ | _ | m <;> first | (exfalso; omega) | (cases he; rfl)),_,rfl,q⟩
 ·rw [if_neg (by decide)]
  (refine seq1 ?_; walk_at "d")
  exact⟨sh [false,false,false,false,false,false,false,false,false,true],9,⟨_,rfl,rfl⟩,(fun m e hm he=>by rcases m with _ | _ | _ | _ | _ | _ | _ | _ | _ | m <;> first | (exfalso; omega) | (cases he; rfl)),_,rfl,q⟩
end
section
variable {R:RX} {S:Sto} {EX:EXD}
theorem zlo{T:List Int}{top:Int}{n:Nat}(h:top<=200):(ro T top n).length<=201:=ziW 201 0 _ (zqb.imp fun h=>by omega) fun x m=>by
 have:=zpS m;omega
theorem zo0{T:List Int}{a lo hi:Int}{L:List (List Int)}(hT:Pos T)(h:hi - a<=200)(k:Tbl T a lo hi L):ThT (tbD L):=by
 obtain⟨m,h1,h2⟩:=k;have hm:m<=201:=by
  rcases Nat.eq_zero_or_pos m with z | z
  ·omega
  ·have:=zsv hT (h1 (m - 1) (by omega)).1;omega
 have row:∀ (k:Nat) e,e∈((List.range k).map (ro T (hi - a))).map shD->zry e<=900:=fun k e me=>by
  obtain⟨l,ml,rfl⟩:=List.mem_map.mp me;obtain⟨j,_,rfl⟩:=List.mem_map.mp ml;show ((ro T (hi - a) j).map PyData.int).length<=900;rw [List.length_map];have:=zlo (T:=T) (n:=j) h;omega
 rcases h2 with ⟨_,rfl⟩ | ⟨_,_,rfl⟩
 ·exact⟨by simp; omega,row _⟩
 ·exact⟨by simp; omega,row _⟩
theorem wholes(l:List Int):(l.map PyData.int).all zb2=true:=by
 rw [List.all_map];exact List.all_eq_true.mpr fun _ _=>rfl
theorem zkO(l:List Int):zir l (shD l)=true:=by
 unfold shD;rw [zoj,wholes,Bool.true_and];have sh:=(zgg (n:=0) l).ok;rw [zbN] at sh;exact SeqAt.eqv_refl _ (SeqAt.canLay_of_shaped sh)
theorem zhI{T:List Int}{a lo hi:Int}:∀ (L:List (List Int)) (n:Nat),(∀ j l,L[j]? = some l->l=ro T (hi - a) (n+j)/\zgF a lo hi l=false)->hdB T a lo hi n (L.map shD)=true
 | [],_,_=>rfl
 | l :: L,n,h=>by
  obtain⟨e,hh⟩:=h 0 l rfl;rw [Nat.add_zero] at e;show ((zir (ro T (hi - a) n) (shD l) && !zgF a lo hi (ro T (hi - a) n)) && hdB T a lo hi (n+1) (L.map shD))=true;rw [<- e,zkO,hh,zhI L (n+1) fun j l' hj=>by
   have:=h (j+1) l' (by simpa using hj)
   rwa [show n+(j+1)=n+1+j by omega] at this]
  rfl
theorem zoi{T:List Int}{top:Int}{k j:Nat}{l:List Int}(h:((List.range k).map (ro T top))[j]? = some l):j<k/\l=ro T top j:=by
 rw [List.getElem?_map] at h;have hj:j<k:=by
  rcases Nat.lt_or_ge j k with z | z
  ·exact z
  ·rw [List.getElem?_eq_none (by simpa using z)] at h;cases h
 rw [List.getElem?_range hj] at h;exact⟨hj,(Option.some.inj h).symm⟩
theorem zmE{T:List Int}{a lo hi:Int}{L:List (List Int)}(k:Tbl T a lo hi L):zpq T a lo hi L.length (tbD L)=true:=by
 show (decide (((L.map shD).length:Int)=L.length) && hdB T a lo hi 0 (L.map shD))=true;rw [decide_eq_true (by rw [List.length_map]),Bool.true_and];obtain⟨m,h1,h2⟩:=k;rcases h2 with ⟨he,rfl⟩ | ⟨_,_,rfl⟩
 ·refine zhI _ 0 fun j l hj=>?_;obtain⟨hk,rfl⟩:=zoi hj;rw [Nat.zero_add];refine⟨rfl,?_⟩;by_cases z:j=m
  ·rw [z,he];rfl
  ·exact(h1 j (by omega)).2
 ·refine zhI _ 0 fun j l hj=>?_;obtain⟨hk,rfl⟩:=zoi hj;rw [Nat.zero_add];exact⟨rfl,(h1 j hk).2⟩
theorem zh1{T:List Int}{a lo hi:Int}{n:Nat}(hT:Pos T):zgF a lo hi (ro T (hi - a) n)=true↔∃ z,okS T z/\z.length=n/\lo<=a+za9 T z/\a+za9 T z<=hi:=by
 unfold zgF;rw [List.any_eq_true];constructor
 ·rintro⟨x,mx,hx⟩;obtain⟨h,z,o,l,rfl⟩:=(zhM hT).mp mx;simp only [Bool.and_eq_true,decide_eq_true_eq] at hx;exact⟨z,o,l,hx.1,hx.2⟩
 ·rintro⟨z,o,l,h1,h2⟩;exact⟨_,(zhM hT).mpr ⟨by omega,z,o,l,rfl⟩,by simp only [Bool.and_eq_true,decide_eq_true_eq]; exact⟨h1,h2⟩⟩
theorem zny{T:List Int}{a lo hi:Int}{L:List (List Int)}(hT:Pos T)(k:Tbl T a lo hi L)(h:Ans T a lo hi none):∃ L',L=L'++[[]]:=by
 obtain⟨m,h1,h2⟩:=k;rcases h2 with ⟨he,rfl⟩ | ⟨_,hh,rfl⟩
 ·exact⟨_,by rw [zgk,he]⟩
 ·obtain⟨z,o,_,z1,z2⟩:=(zh1 hT).mp hh;exact absurd ⟨z1,z2⟩ (h z o)
theorem zps{T:List Int}{top:Int}{m:Nat}(hT:Pos T)(h:ro T top m=[]){z:List Int}(o:okS T z)(hn:m<=z.length):¬ za9 T z<=top:=fun hs=>by
 have o1:okS T (z.take m):=fun p mp=>o p (List.mem_of_mem_take mp);have o2:okS T (z.drop m):=fun p mp=>o p (List.mem_of_mem_drop mp);have e:za9 T z=za9 T (z.take m)+za9 T (z.drop m):=by rw [<- ziM,List.take_append_drop]
 have:=zaS hT o2;have:za9 T (z.take m)∈ro T top m:=(zhM hT).mpr ⟨by omega,_,o1,by rw [List.length_take]; omega,rfl⟩;rw [h] at this;cases this
theorem zmO{T:List Int}{a lo hi:Int}{L:List (List Int)}{st:List Int}(hT:Pos T)(k:Tbl T a lo hi L)(h:Ans T a lo hi (some st)):L.length=st.length/\∀ l∈L,l≠[]:=by
 obtain⟨m,h1,h2⟩:=k;obtain⟨⟨o,r1,r2⟩,mn,_⟩:=h;have hs:zgF a lo hi (ro T (hi - a) st.length)=true:=(zh1 hT).mpr ⟨st,o,rfl,r1,r2⟩;have le:m<=st.length:=by
  rcases Nat.lt_or_ge st.length m with z | z
  ·have:=(h1 _ z).2;rw [hs] at this;cases this
  ·exact z
 rcases h2 with ⟨he,rfl⟩ | ⟨_,hh,rfl⟩
 ·exact absurd (by omega) (zps hT he o le)
 ·obtain⟨z,oz,lz,z1,z2⟩:=(zh1 hT).mp hh;have:¬ z.length<st.length:=fun q=>mn z oz q ⟨z1,z2⟩;refine⟨by simp; omega,fun l ml=>?_⟩;obtain⟨j,mj,rfl⟩:=List.mem_map.mp ml;exact(h1 j (List.mem_range.mp mj)).1
theorem zll:∀ {ms st:List Int},ms.Pairwise (· <= ·)->ms.Perm st->HT.lexLt st ms=false
 | [],st,_,hp=>by
  have:=hp.length_eq;rw [List.eq_nil_of_length_eq_zero (l:=st) (by simpa using this.symm)];rfl
 | x :: ms,[],_,hp=>by
  have:=hp.length_eq;simp at this
 | x :: ms,y :: st,pw,hp=>by
  rw [List.pairwise_cons] at pw;rw [zqX];by_cases e:y=x
  ·subst e;rw [if_pos rfl];exact zll pw.2 (List.Perm.cons_inv hp)
  ·rw [if_neg e];have my:y∈x :: ms:=hp.mem_iff.mpr List.mem_cons_self;rcases List.mem_cons.mp my with z | z
   ·exact absurd z e
   ·have:=pw.1 y z;exact decide_eq_false (by omega)
theorem zjk{T:List Int}{a b:List Int}(h:a.Perm b):za9 T a=za9 T b:=by
 induction h with
 | nil=>rfl
 | cons x _ ih=>rw [zar,zar,ih]
 | swap x y l =>
  simp only [zar];omega
 | trans _ _ i1 i2=>rw [i1,i2]
theorem zjG{T:List Int}{a lo hi:Int}{st ms:List Int}(h:Ans T a lo hi (some st))(hp:ms.Perm st)(pw:ms.Pairwise (· <= ·)):ms=st:=by
 obtain⟨⟨o,r1,r2⟩,_,ls⟩:=h;have e:=zjk (T:=T) hp;exact zlP hp.length_eq (ls ms (fun p m=>o p (hp.mem_iff.mp m)) hp.length_eq (by rw [e]; exact r1) (by rw [e]; exact r2)) (zll pw hp)
theorem zjU{T:List Int}{a lo hi:Int}{st:List Int}{p:Int}{res:Option (List Int)}(h:Ans T a lo hi (some st))(mp:p∈st)(hr:Ans T (a+thk T p) lo hi res):∃ z,res=some z/\z.length+1=st.length:=by
 obtain⟨⟨o,r1,r2⟩,mn,_⟩:=h;have pe:st.Perm (p :: st.erase p):=List.perm_cons_erase mp;have se:za9 T st=thk T p+za9 T (st.erase p):=by rw [zjk pe,zar]
 have oe:okS T (st.erase p):=fun x m=>o x (List.mem_of_mem_erase m);have le:(st.erase p).length+1=st.length:=by have:=pe.length_eq; simpa using this.symm
 cases res with
 | none=>exact absurd ⟨by omega,by omega⟩ (hr _ oe)
 | some z =>
  obtain⟨⟨oz,z1,z2⟩,mz,_⟩:=hr;refine⟨z,rfl,?_⟩;have n1:¬ (st.erase p).length<z.length:=fun q=>mz _ oe q ⟨by omega,by omega⟩;have n2:¬ (p :: z).length<st.length:=fun q=>mn _ (zbz.mpr ⟨o p mp,oz⟩) q ⟨by rw [zar]; omega,by rw [zar]; omega⟩;rw [List.length_cons] at n2;omega
theorem over{T U:List Int}(hs:∀ x∈T,x∈U):∀ {z:List Int},okS T z->∃ y,okS U y/\y.length=z.length/\za9 U y=za9 T z
 | [],_=>⟨[],by simp [okS],rfl,rfl⟩
 | p :: z,o=>by
  have o':=zbz.mp o;obtain⟨y,oy,ly,sy⟩:=over hs o'.2;obtain⟨q,q0,q1,e⟩:=zkG (hs _ (zmj o'.1.1 o'.1.2));exact⟨q :: y,zbz.mpr ⟨⟨q0,q1⟩,oy⟩,by rw [List.length_cons,List.length_cons,ly],by rw [zar,zar,e,sy]⟩
theorem zm2{T U:List Int}{a lo hi:Int}{st:List Int}{res:Option (List Int)}(hs:∀ x∈T,x∈U)(h:Ans T a lo hi (some st))(hr:Ans U a lo hi res):∃ z,res=some z/\z.length<=st.length:=by
 obtain⟨⟨o,r1,r2⟩,mn,_⟩:=h;obtain⟨y,oy,ly,sy⟩:=over hs o;cases res with
 | none=>exact absurd ⟨by omega,by omega⟩ (hr _ oy)
 | some z =>
  obtain⟨_,mz,_⟩:=hr;refine⟨z,rfl,?_⟩;have:¬ y.length<z.length:=fun q=>mz _ oy q ⟨by omega,by omega⟩;omega
theorem zht{T:List Int}{a lo hi:Int}(hT:Pos T)(hl:T.length<=8)(h:hi - a<=200)(q:∀ L,Tbl T a lo hi L->R (.d (tbD L)) []):zc8 [.d (shD T),.d (.int a),.d (.tuple [.int lo,.int hi])] [] R:=by
 unfold zc8;walk_at "d"
 (refine seq1 ?_; walk_at "d")
 refine zl2 hT hl h fun Fs F n eFs hb hF lF hn hor=>?_;have lFs:Fs.length=n:=by rw [<- List.length_map (f:=fun p:Nat×Frs=>p.1),eFs,List.length_range]
 walk_at "d";have all:∀ p∈Fs++[(n,F)],Rw T (hi - a) p.1 p.2/\p.2.length<=201:=fun p mp=>by
  rcases List.mem_append.mp mp with mp | mp
  ·exact⟨(hb p mp).1,(hb p mp).2.1⟩
  ·rw [List.mem_singleton.mp mp];exact⟨hF,lF⟩
 refine cmf1 (S0:=[]) (h:=fun p:Nat×Frs=>zcL p.2) (fun p=>shD (ro T (hi - a) p.1)) (fun p=>(p.2.filter (inS a lo hi)).isEmpty) rfl _ (by simp; omega) ?_ ?_
 ·intro p mp u acc R' hk;obtain⟨hp,lp⟩:=all p mp;walk_at "d";refine zN (by omega) ?_;walk_at "d";rw [show ((p.2.filter (inS a lo hi)).map fun p=>zfe p.2).isEmpty=(p.2.filter (inS a lo hi)).isEmpty by cases p.2.filter (inS a lo hi) <;> rfl];rw [Bool.not_not];refine hk _ fun _ T' hT'=>?_;walk_at "d";refine zd4 hT hp lp ?_;walk_at "d";exact hT'
 ·have e1:Fs.filter (fun p=>(p.2.filter (inS a lo hi)).isEmpty)=Fs:=List.filter_eq_self.mpr fun p mp=>by
   show (p.2.filter (inS a lo hi)).isEmpty=true;rw [(hb p mp).2.2.2];rfl
  have e2:Fs.map (fun p=>shD (ro T (hi - a) p.1))=((List.range n).map (ro T (hi - a))).map shD:=by
   rw [<- eFs,List.map_map,List.map_map];rfl
  have low:∀ j,j<n->ro T (hi - a) j≠[]/\zgF a lo hi (ro T (hi - a) j)=false:=fun j hj=>by
   have:j∈Fs.map (·.1):=by rw [eFs]; exact List.mem_range.mpr hj
   obtain⟨p,mp,rfl⟩:=List.mem_map.mp this;obtain⟨b1,_,b2,b3⟩:=hb p mp;exact⟨fun z=>b2 ((b1.nil hT).mpr z),(b1.hit hT).mp b3⟩
  refine⟨_,rfl,.inl ?_⟩;rw [List.filter_append,e1,List.map_append,e2];rcases hor with rfl | hor
  ·have:=q _ ⟨n,low,.inl ⟨(hF.nil hT).mp rfl,rfl⟩⟩;unfold tbD at this;rw [zgk,List.map_append] at this;exact this
  ·have hne:F≠[]:=fun z=>hor (by rw [z]; rfl);have:=q _ ⟨n,low,.inr ⟨fun z=>hne ((hF.nil hT).mpr z),?_,rfl⟩⟩
   ·rw [List.filter_cons_of_neg,List.filter_nil,List.map_nil,List.append_nil]
    ·exact this
    ·show ¬ (F.filter (inS a lo hi)).isEmpty=true;cases hc:F.filter (inS a lo hi) with
     | nil=>exact absurd hc hor
     | cons x y=>simp
   ·cases hc:zgF a lo hi (ro T (hi - a) n) with
    | true=>rfl
    | false=>exact absurd ((hF.hit hT).mpr hc) hor
theorem zeq{a lo hi:Int}(h:hi - a<=200)(q:R (.d (.int (hi - a))) []):zaV [.d (.int a),.d (.tuple [.int lo,.int hi])] [] R EX:=by
 unfold zaV;walk_at "d"
 (refine seq1 ?_; walk_at "d")
 refine seq1 ?_;walk_at "d";rw [if_neg (by omega)];exact q
theorem zdF{a lo hi:Int}(h:200<hi - a)(q:EX 180 [("many",.int (hi - a)),("most",.int 200)]):zaV [.d (.int a),.d (.tuple [.int lo,.int hi])] [] R EX:=by
 unfold zaV;walk_at "d"
 (refine seq1 ?_; walk_at "d")
 refine seq1 ?_;walk_at "d";rw [if_pos (by omega)];walk_at "d";exact q
theorem zdG{T:List Int}{a lo hi:Int}(h:200<hi - a)(q:EX 180 [("many",.int (hi - a)),("most",.int 200)]):zaa [.d (shD T),.d (.int a),.d (.tuple [.int lo,.int hi])] [] R EX:=by
 unfold zaa;walk_at "d"
 (refine seq1 ?_; walk_at "d")
 refine zdF h ?_;exact q
theorem zfh{T:List Int}{a lo hi:Int}(h:200<hi - a)(q:EX 180 [("many",.int (hi - a)),("most",.int 200)]):zbB [.d (shD T),.d (.int a),.d (.tuple [.int lo,.int hi])] [] R EX:=by
 unfold zbB;walk_at "d"
 (refine seq1 ?_; walk_at "d")
 refine zdG h ?_;exact q
theorem zfk{T:List Int}{a lo hi:Int}(h:200<hi - a)(q:EX 180 [("many",.int (hi - a)),("most",.int 200)]):zbE [.d (shD T),.d (.int a),.d (.tuple [.int lo,.int hi])] [] R EX:=by
 unfold zbE;walk_at "d"
 (refine seq1 ?_; walk_at "d")
 refine zdG h ?_;exact q
theorem zfn{T:List Int}{a lo hi:Int}(h:200<hi - a)(q:EX 180 [("many",.int (hi - a)),("most",.int 200)]):zaM [.d (shD T),.d (.int a),.d (.tuple [.int lo,.int hi]),.d (.int 0),.d (.list [])] [] R EX:=by
 unfold zaM;walk_at "d"
 (refine seq1 ?_; walk_at "d")
 refine zdF h ?_;exact q
theorem znk{T:List Int}{a lo hi:Int}(h:hi - a<=200)(q:R (.d (.bool true)) []):zaM [.d (shD T),.d (.int a),.d (.tuple [.int lo,.int hi]),.d (.int 0),.d (.list [])] [] R EX:=by
 unfold zaM;walk_at "d"
 (refine seq1 ?_; walk_at "d")
 refine zeq h ?_;walk_at "d";refine seq1 ?_;walk_at "d"
 (refine seq1 ?_; walk_at "d")
 refine zbr (T:=T) fun F0 hF0 l0=>?_;walk_at "d";refine seq1 ?_;walk_at "d";refine zeD (fun i δ S=>S=[]) rfl ?_ ?_
 ·intro i d δ S N hi;simp at hi
 ·rintro _ _ rfl;walk_at "d";exact q
theorem zhs{T:List Int}{a lo hi:Int}(hT:Pos T)(hl:T.length<=8)(h:hi - a<=200)(q:∀ (Fs:List (Nat×Frs)) (F:Frs) (n:Nat),Fs.map (·.1)=List.range n->(∀ p∈Fs,Rw T (hi - a) p.1 p.2/\p.2.length<=201/\p.2≠[]/\p.2.filter (inS a lo hi)=[])->Rw T (hi - a) n F->F.length<=201->n<=201->(F=[]\/F.filter (inS a lo hi)≠[])->R (.d (.list ((Fs++[(n,F)]).map fun p=>zcL p.2))) []):zaa [.d (shD T),.d (.int a),.d (.tuple [.int lo,.int hi])] [] R EX:=by
 unfold zaa;walk_at "d"
 (refine seq1 ?_; walk_at "d")
 refine zeq h ?_;walk_at "d"
 (refine seq1 ?_; walk_at "d")
 refine zbr (T:=T) fun F0 hF0 l0=>?_;walk_at "d";refine seq1 ?_;refine⟨fun m δ S=>∃ (Fs:List (Nat×Frs)) (F:Frs) (n:Nat),S=[(Fs++[(n,F)]).map fun p=>zcL p.2]/\δ=[some (.d (shD T)),some (.d (.int a)),some (.d (.tuple [.int lo,.int hi])),some (.d (.int (hi - a))),some (.l 0)]/\Rw T (hi - a) n F/\F.length<=201/\(∀ p∈Fs,Rw T (hi - a) p.1 p.2/\p.2.length<=201/\p.2≠[]/\p.2.filter (inS a lo hi)=[])/\Fs.map (·.1)=List.range n/\n<=201/\m=202 - n,
  ⟨_,[],F0,0,rfl,rfl,hF0,by omega,by simp,rfl,by omega,rfl⟩,?_⟩
 rintro m _ _ ⟨Fs,F,n,rfl,rfl,hF,lF,hb,eFs,hn,rfl⟩;have lFs:Fs.length=n:=by rw [<- List.length_map (f:=fun p:Nat×Frs=>p.1),eFs,List.length_range]
 have el:atI ((Fs++[(n,F)]).map fun p=>zcL p.2) (-1)=some (zcL F):=by rw [List.map_append]; exact zc4 _ _
 walk_at "d";refine⟨_,el,?_⟩;refine⟨zdy F,rfl,?_⟩;by_cases hE:F=[]
 ·subst hE;walk_at "d";have:=q Fs [] n eFs hb hF (by simp) hn (.inl rfl);rw [if_neg (show ¬ (zdy []).isEmpty=false by decide)];walk_at "d";exact .inl this
 ·have hne:(zdy F).isEmpty=false:=by cases F with
   | nil=>exact absurd rfl hE
   | cons x y=>rfl
  rw [hne];walk_at "d";refine⟨_,el,?_⟩;refine zN (by omega) ?_;walk_at "d";have n200:=hF.n200 hT h hE;by_cases hf:F.filter (inS a lo hi)=[]
  ·rw [hf];walk_at "d";refine⟨fun δ' S'=>∃ G,Rw T (hi - a) (n+1) G/\S'=[((Fs++[(n,F)]).map fun p=>zcL p.2)++[zcL G]]/\δ'=[some (.d (shD T)),some (.d (.int a)),some (.d (.tuple [.int lo,.int hi])),some (.d (.int (hi - a))),some (.l 0)],?_,_,el,?_⟩
   ·rintro _ _ ⟨G,hG,rfl,rfl⟩;refine⟨202 - (n+1),by omega,Fs++[(n,F)],G,n+1,by rw [List.map_append (l₁:=Fs++[(n,F)])]; rfl,rfl,hG,hG.len201 hT h,fun p mp=>?_,by rw [List.map_append,eFs,List.range_succ]; rfl,by omega,rfl⟩;rcases List.mem_append.mp mp with mp | mp
    ·exact hb p mp
    ·rw [List.mem_singleton.mp mp];exact⟨hF,lF,hE,hf⟩
   ·refine zct hT hl (by omega) h hF lF fun G hG=>?_;walk_at "d";exact⟨by omega,G,hG,rfl⟩
  ·have he:((F.filter (inS a lo hi)).map fun p=>zfe p.2).isEmpty=false:=by
    cases hc:F.filter (inS a lo hi) with
    | nil=>exact absurd hc hf
    | cons x y=>rfl
   rw [he];walk_at "d";exact .inl (q Fs F n eFs hb hF lF hn (.inr hf))
theorem zhK{T:List Int}{a lo hi:Int}(hT:Pos T)(hl:T.length<=8)(h:hi - a<=200)(q:∀ L,Tbl T a lo hi L->R (.d (tbD L)) []):zbE [.d (shD T),.d (.int a),.d (.tuple [.int lo,.int hi])] [] R EX:=by
 unfold zbE;walk_at "d"
 (refine seq1 ?_; walk_at "d")
 refine zhs hT hl h fun Fs F n eFs hb hF lF hn hor=>?_;have lFs:Fs.length=n:=by rw [<- List.length_map (f:=fun p:Nat×Frs=>p.1),eFs,List.length_range]
 walk_at "d";have all:∀ p∈Fs++[(n,F)],Rw T (hi - a) p.1 p.2/\p.2.length<=201:=fun p mp=>by
  rcases List.mem_append.mp mp with mp | mp
  ·exact⟨(hb p mp).1,(hb p mp).2.1⟩
  ·rw [List.mem_singleton.mp mp];exact⟨hF,lF⟩
 refine cmf1 (S0:=[]) (h:=fun p:Nat×Frs=>zcL p.2) (fun p=>shD (ro T (hi - a) p.1)) (fun p=>(p.2.filter (inS a lo hi)).isEmpty) rfl _ (by simp; omega) ?_ ?_
 ·intro p mp u acc R' hk;obtain⟨hp,lp⟩:=all p mp;walk_at "d";refine zN (by omega) ?_;walk_at "d";rw [show ((p.2.filter (inS a lo hi)).map fun p=>zfe p.2).isEmpty=(p.2.filter (inS a lo hi)).isEmpty by cases p.2.filter (inS a lo hi) <;> rfl];rw [Bool.not_not];refine hk _ fun _ T' hT'=>?_;walk_at "d";refine zd4 hT hp lp ?_;walk_at "d";exact hT'
 ·have e1:Fs.filter (fun p=>(p.2.filter (inS a lo hi)).isEmpty)=Fs:=List.filter_eq_self.mpr fun p mp=>by
   show (p.2.filter (inS a lo hi)).isEmpty=true;rw [(hb p mp).2.2.2];rfl
  have e2:Fs.map (fun p=>shD (ro T (hi - a) p.1))=((List.range n).map (ro T (hi - a))).map shD:=by
   rw [<- eFs,List.map_map,List.map_map];rfl
  have low:∀ j,j<n->ro T (hi - a) j≠[]/\zgF a lo hi (ro T (hi - a) j)=false:=fun j hj=>by
   have:j∈Fs.map (·.1):=by rw [eFs]; exact List.mem_range.mpr hj
   obtain⟨p,mp,rfl⟩:=List.mem_map.mp this;obtain⟨b1,_,b2,b3⟩:=hb p mp;exact⟨fun z=>b2 ((b1.nil hT).mpr z),(b1.hit hT).mp b3⟩
  refine⟨_,rfl,.inl ?_⟩;rw [List.filter_append,e1,List.map_append,e2];rcases hor with rfl | hor
  ·have:=q _ ⟨n,low,.inl ⟨(hF.nil hT).mp rfl,rfl⟩⟩;unfold tbD at this;rw [zgk,List.map_append] at this;exact this
  ·have hne:F≠[]:=fun z=>hor (by rw [z]; rfl);have:=q _ ⟨n,low,.inr ⟨fun z=>hne ((hF.nil hT).mpr z),?_,rfl⟩⟩
   ·rw [List.filter_cons_of_neg,List.filter_nil,List.map_nil,List.append_nil]
    ·exact this
    ·show ¬ (F.filter (inS a lo hi)).isEmpty=true;cases hc:F.filter (inS a lo hi) with
     | nil=>exact absurd hc hor
     | cons x y=>simp
   ·cases hc:zgF a lo hi (ro T (hi - a) n) with
    | true=>rfl
    | false=>exact absurd ((hF.hit hT).mpr hc) hor
theorem zim{T:List Int}{a lo hi:Int}(hT:Pos T)(hl:T.length<=8)(h:hi - a<=200)(q:∀ res,R (.d (zm4 res)) []):zbB [.d (shD T),.d (.int a),.d (.tuple [.int lo,.int hi])] [] R EX:=by
 unfold zbB;walk_at "d"
 (refine seq1 ?_; walk_at "d")
 refine zhs hT hl h fun Fs F n _ hb hF lF hn hor=>?_;walk_at "d";have el:atI ((Fs++[(n,F)]).map fun p=>zcL p.2) (-1)=some (zcL F):=by rw [List.map_append]; exact zc4 _ _
 refine⟨_,el,?_⟩;refine zN (by omega) ?_;walk_at "d";refine⟨(F.filter (inS a lo hi)).map (·.2),by rw [List.map_map]; rfl,fun z=>?_,fun m mm hm=>?_⟩
 ·exact q none
 ·exact q (some m)
theorem zdR{T:List Int}{a lo hi:Int}{st:List Int}(hT:Pos T)(hl:T.length<=8)(h:hi - a<=200)(hA:Ans T a lo hi (some st))(q:R (.d (.bool true)) []):zaN [.d (shD T),.d (.int a),.d (.tuple [.int lo,.int hi]),.d (zfe st)] [] R:=by
 have sl:st.length<=200:=by
  have:=zaS hT hA.1.1;have:=hA.1.2.2;omega
 unfold zaN;rw [zbN,show shD T=.tuple (T.map PyData.int) from rfl];walk_at "d";refine seq1 ?_;walk_at "d";refine cmp1 (S0:=[]) (h:=PyData.int) (fun _=>PyData.bool true) rfl st (by omega) ?_ ?_
 ·intro x mx u acc R' hk;walk_at "d";refine zcT ?_;rw [show zb2 (.int x)=true from rfl];walk_at "d";exact hk _
 refine⟨[],_,rfl,rfl,st.map fun _=>true,by rw [List.map_map]; rfl,?_⟩;rw [if_neg (by simp)];refine seq1 ?_;walk_at "d";refine cmp1 (S0:=[]) (h:=PyData.int) (fun _=>PyData.bool true) rfl st (by omega) ?_ ?_
 ·intro x mx u acc R' hk;have ox:=hA.1.1 x mx;walk_at "d";rw [if_pos ox.1,decide_eq_true ox.2];walk_at "d";exact hk _
 refine⟨[],_,rfl,rfl,st.map fun _=>true,by rw [List.map_map]; rfl,?_⟩;rw [if_neg (by simp)];refine seq1 ?_;walk_at "d";refine⟨st,rfl,by omega,fun ms hp pw=>?_⟩;have e:=zjG hA hp pw;subst e;have sh:SeqAt.shaped (PyData.list (List.map PyData.int ms))=true:=(zeC (n:=0) (zeX fun x _=>zhY)).ok;refine⟨sh,sh,?_⟩;rw [if_neg (by rw [SeqAt.eqv_refl _ (SeqAt.canLay_of_shaped sh)]; decide)];refine cmp1 (S0:=[]) (h:=PyData.int) (fun p=>PyData.int (thk T p)) rfl ms (by omega) ?_ ?_
 ·intro x mx u acc R' hk;have ox:=hA.1.1 x mx;walk_at "d";exact⟨_,znU ox.1 ox.2,hk _⟩
 refine⟨[],_,rfl,rfl,ms.map (thk T),by rw [List.map_map]; rfl,?_⟩;have h2:=hA.1.2;unfold za9 at h2;rw [if_pos h2.1,decide_eq_true h2.2];exact q
theorem zcE{T:List Int}{a lo hi:Int}(hT:Pos T)(hl:T.length<=8)(h:hi - a<=200)(q:R (.d (.bool true)) []):zaK [.d (shD T),.d (.int a),.d (.tuple [.int lo,.int hi])] [] R:=by
 unfold zaK;walk_at "d"
 (refine seq1 ?_; walk_at "d")
 refine zcp hT hl h fun res hres=>?_;walk_at "d"
 (refine seq1 ?_; walk_at "d")
 refine zht hT hl h fun L hL=>?_;walk_at "d";refine seq1 ?_;have tw:tbD L=.list (L.map shD):=rfl;rw [tw];walk_at "d";rw [<- tw];refine zfr hT hl h (zo0 hT h hL) ?_;rw [zmE hL];walk_at "d";refine seq1 ?_;cases res with
 | none =>
  rw [show zm4 none=PyData.none from rfl];obtain⟨L',rfl⟩:=zny hT hL hres;rw [tw];walk_at "d";have el:atI ((L'++[[]]).map shD) (-1)=some (shD []):=by rw [List.map_append]; exact zc4 _ _
  refine⟨_,el,?_⟩;refine⟨rfl,rfl,?_⟩;exact q
 | some st =>
  rw [show zm4 (some st)=zfe st from rfl];obtain⟨tl,tn⟩:=zmO hT hL hres;have sl:st.length<=200:=by
   have:=zaS hT hres.1.1;have:=hres.1.2.2;omega
  rw [zbN];walk_at "d";refine seq1 ?_;walk_at "d";rw [<- zbN];refine zdR hT hl h hres ?_;rw [tw];walk_at "d";rw [if_neg (by omega)];refine⟨rfl,(zeC (n:=1) (zeX fun l _=>zgg l)).ok,?_⟩;rw [if_neg (by
   rw [List.any_map,Bool.not_eq_true,List.any_eq_false];intro l ml;show ¬ (PyData.tuple (l.map PyData.int)).eqv (PyData.tuple [])=true;rw [zmI,decide_eq_true_eq,List.map_eq_nil_iff];exact tn l ml)]
  rw [zbN];refine seq1 ?_;walk_at "d";refine⟨st,rfl,⟨upto 7,by decide,fun x mx=>zgj.mpr ?_⟩,fun ms pw mm=>?_⟩
  ·have:=hres.1.1 x mx;omega
  walk_at "d";refine zeD (fun i δ S=>∃ (u v:Option XV),S=[]/\δ=[some (XV.d (shD T)),some (XV.d (PyData.int a)),some (XV.d (PyData.tuple [PyData.int lo,PyData.int hi])),some (XV.d (.tuple (st.map PyData.int))),some (XV.d (PyData.list (List.map shD L))),u,v]) ⟨_,_,rfl,rfl⟩ ?_ ?_
  ·rintro i d _ _ N hi' ⟨u,v,rfl,rfl⟩ hN;obtain⟨p,ep,rfl⟩:=zh5 hi';have mp:p∈st:=(mm p).mp (List.mem_of_getElem? ep);have op:=hres.1.1 p mp;have tp:=zee hT op.1 op.2;have ea:atI (T.map PyData.int) p=some (.int (thk T p)):=znU op.1 op.2;rw [show shD T=.tuple (T.map PyData.int) from rfl];walk_at "d"
   (refine seq1 ?_; walk_at "d")
   refine⟨_,ea,?_⟩;walk_at "d";rw [show PyData.tuple (T.map PyData.int)=shD T from rfl];refine zcp hT hl (by omega) fun res' hres'=>?_;obtain⟨z,rfl,lz⟩:=zjU hres mp hres';rw [show zm4 (some z)=zfe z from rfl,zbN];walk_at "d";rw [if_neg (by omega)];exact hN _ _ ⟨_,_,rfl,rfl⟩
  ·rintro _ _ ⟨u,v,rfl,rfl⟩;walk_at "d";exact q
theorem zkX{E:DEnds}{m:Int}{u0 u1 u2 u3:Option XV}(q:E.rt (.d (.tuple [.int m,.int 200])) []):zaA
  (zcF
   (dOr (dB (dOp zko (ze6 zbg (ze (zn 4) zA)) (dC (PyData.str (Str.ofString "great")))))
    (dOr (zdI (zdx (zW 1 zX (ze (dXA [180] (zn 4) (Str.ofString "many")) zA))))
     (zdI (zdx (zW 1 zX (ze (dXA [180] (zn 4) (Str.ofString "most")) zA))))))
   (zaU (dC PyData.none)) zaP)
  (zaU
   (zex (ze (dXA [180] (zn 4) (Str.ofString "many")) (ze (dXA [180] (zn 4) (Str.ofString "most")) zA))))
  E [u0,u1,u2,u3,some (XV.x 180 [(Str.ofString "many",PyData.int m),(Str.ofString "most",PyData.int 200)])] []:=by
 refine seq1 ?_;walk_at "d";refine⟨180,_,rfl,zil (by decide) ?_⟩;rw [show zqp 180=Str.ofString "great" by decide];walk_at "d";have shg:SeqAt.shaped (PyData.str (Str.ofString "great"))=true:=by decide +kernel
 refine⟨shg,shg,?_⟩;rw [if_neg (by rw [SeqAt.eqv_refl _ (SeqAt.canLay_of_shaped shg)]; decide)];refine⟨180,_,_,rfl,by decide,rfl,zcT ?_⟩;rw [show zb2 (.int m)=true from rfl];walk_at "d";refine⟨180,_,_,rfl,by decide,rfl,zcT ?_⟩;rw [show zb2 (.int 200)=true from rfl];walk_at "d";refine⟨180,_,_,rfl,by decide,rfl,?_⟩;refine⟨180,_,_,rfl,by decide,rfl,?_⟩;walk_at "d";exact q
theorem zcR{T:List Int}{a lo hi w:Int}(hT:Pos T)(hl:T.length<=8)(q1:hi - a<=200->R (.d (.tuple [])) [])(q2:200<hi - a->R (.d (.tuple [.int (hi - a),.int 200])) []):zbl [.d (.int w),.d (shD T),.d (.int a),.d (.tuple [.int lo,.int hi])] [] R:=by
 unfold zbl;walk_at "d";refine seq1 ?_;walk_at "d";rcases Int.lt_or_le 200 (hi - a) with hg | hg
 ·have fin:(zcG 0 R).rt (.d (.tuple [.int (hi - a),.int 200])) []:=by walk_at "d"; exact q2 hg
  by_cases w0:w=0
  ·rw [if_pos w0];refine zfh hg ⟨by decide,zkX fin⟩
  ·rw [if_neg w0];by_cases w1:w=1
   ·rw [if_pos w1];refine zfk hg ⟨by decide,zkX fin⟩
   ·rw [if_neg w1];walk_at "d";refine zfn hg ⟨by decide,zkX fin⟩
 ·by_cases w0:w=0
  ·rw [if_pos w0];refine zim hT hl hg fun res=>?_;walk_at "d";exact q1 hg
  ·rw [if_neg w0];by_cases w1:w=1
   ·rw [if_pos w1];refine zhK hT hl hg fun L _=>?_;walk_at "d";exact q1 hg
   ·rw [if_neg w1];walk_at "d";refine znk hg ?_;walk_at "d";exact q1 hg
theorem zbd{T:List Int}{a lo hi:Int}(hT:Pos T)(hl:T.length<=8)(q:R (.d (.bool true)) []):zao [.d (shD T),.d (.int a),.d (.tuple [.int lo,.int hi])] [] R:=by
 unfold zao;walk_at "d"
 (refine seq1 ?_; walk_at "d")
 refine seq1 ?_;walk_at "d";by_cases hg:200<hi - a
 ·rw [if_pos hg];have sh:SeqAt.shaped (PyData.tuple [PyData.int (hi - a),PyData.int 200])=true:=by
   have:=(zgg (n:=0) [hi - a,200]).ok;rw [zbN] at this;exact this
  refine cmp1 (S0:=[]) (h:=PyData.int) (fun _=>PyData.bool true) rfl [0,1,2] (by simp) ?_ ?_
  ·intro x mx u acc R' hk;walk_at "d";refine zcR hT hl (fun z=>absurd z (by omega)) fun _=>?_;walk_at "d";refine⟨sh,sh,?_⟩;rw [SeqAt.eqv_refl _ (SeqAt.canLay_of_shaped sh)];exact hk _
  ·exact⟨[],_,rfl,rfl,[true,true,true],rfl,q⟩
 ·rw [if_neg hg];refine cmp1 (S0:=[]) (h:=PyData.int) (fun _=>PyData.bool true) rfl [0,1,2] (by simp) ?_ ?_
  ·intro x mx u acc R' hk;walk_at "d";refine zcR hT hl (fun _=>?_) fun z=>absurd z (by omega);walk_at "d";refine⟨rfl,rfl,?_⟩;exact hk _
  ·exact⟨[],_,rfl,rfl,[true,true,true],rfl,q⟩
theorem zh9(a:Addr)(n:Int):zoC (zsB a 8) ((some (.o (.ref a)) :: List.replicate 8 none).set 1 (some (.d (.int n)))) []:=by
 unfold zoC;walk_at "d"
 (refine seq1 ?_; walk_at "d")
 refine zjO fun p hp=>?_;walk_at "d"
 (refine seq1 ?_; walk_at "d")
 refine zgQ hp fun T p1 hT hl hp1=>?_;walk_at "d"
 (refine seq1 ?_; walk_at "d")
 refine zjR hp1 (by decide) (by decide) fun b lo hi p2 h hp2=>?_;walk_at "d";refine seq1 ?_;walk_at "d";refine zcE hT (by omega) h ?_;walk_at "d"
 (refine seq1 ?_; walk_at "d")
 refine zcp hT (by omega) h fun res hres=>?_;walk_at "d"
 (refine seq1 ?_; walk_at "d")
 rw [show shD T=.tuple (T.map PyData.int) from rfl];walk_at "d";refine zL hp2 (by decide) (by decide +kernel) fun r p3 r0 r1 hp3=>?_;walk_at "d";refine⟨by omega,T++[1+r],by rw [List.map_append]; rfl,by rw [List.length_append]; simp; omega,fun ms pw mm=>?_⟩;have sub:∀ x∈T,x∈ms:=fun x m=>(mm x).mpr (List.mem_append_left _ m);have pm:Pos ms:=fun x m=>by
  rcases List.mem_append.mp ((mm x).mp m) with z | z
  ·exact hT x z
  ·have:=List.mem_singleton.mp z;omega
 refine cut (fun δ S=>S=[p3]/\δ=[some (.o (.ref a)),some (.d (.int n)),some (.l 0),some (.d (.tuple (T.map PyData.int))),some (.d (.int b)),some (.d (.tuple [.int lo,.int hi])),some (.d (zm4 res)),some (.d (.tuple (ms.map PyData.int))),none]) ?_ ?_
 ·cases res with
  | none =>
   rw [show zm4 none=PyData.none from rfl];walk_at "d";exact fun N hN=>hN _ _ ⟨rfl,rfl⟩
  | some st =>
   rw [show zm4 (some st)=zfe st from rfl,zbN];walk_at "d";intro N hN;by_cases h6:(ms.length:Int)<6
   ·rw [if_pos h6];refine zcp (T:=ms) pm (by omega) h fun res' hres'=>?_;obtain⟨z,rfl,lz⟩:=zm2 sub hres hres';rw [show zm4 (some z)=zfe z from rfl,zbN];walk_at "d";rw [if_neg (by omega)];exact hN _ _ ⟨rfl,rfl⟩
   ·rw [if_neg h6];exact hN _ _ ⟨rfl,rfl⟩
 ·rintro _ _ ⟨rfl,rfl⟩
  (refine seq1 ?_; walk_at "d")
  refine⟨⟨by decide,by decide +kernel⟩,?_⟩;refine zL hp3 (by decide) (by decide +kernel) fun r p4 r0 r1 hp4=>?_;walk_at "d";refine zL hp4 (by decide) (by decide +kernel) fun r' p5 r2 r3 hp5=>?_;obtain⟨d,ed,v,rfl⟩:=znB (P:=fun d=>∃ v,d=PyData.int v) (ds:=[PyData.int 200,PyData.int 201,PyData.int (202+r)]) r2 r3 (by simp);walk_at "d";refine⟨_,ed,?_⟩;walk_at "d";refine zL hp5 (by decide) (by decide +kernel) fun r'' p6 _ _ hp6=>?_;walk_at "d";refine zbd (T:=[97,99]) (fun x m=>by simp only [List.mem_cons,List.not_mem_nil,or_false] at m; omega) (by simp) ?_;walk_at "d"
theorem zjS(a:Addr):zh2 (zr6 a 8) (some (.o (.ref a)) :: List.replicate 8 none) []:=by
 have p1:Pos [1]:=fun x m=>by simp only [List.mem_cons,List.not_mem_nil,or_false] at m; omega
 have p99:Pos [99]:=fun x m=>by simp only [List.mem_cons,List.not_mem_nil,or_false] at m; omega
 unfold zh2;refine seq1 ?_;walk_at "d";refine zcE (T:=[1]) p1 (by simp) (by decide) ?_;walk_at "d";refine zbd (T:=[99]) p99 (by simp) ?_;walk_at "d";refine zbd (T:=[99]) p99 (by simp) ?_;walk_at "d"
end
end My
namespace My
open PySem L2
def top (i : Nat) : Stmt := PySem.Challenge.pw_gaugewright_k65_whole_fewest_shims.main.body.getD i (.Pass ⟨0, 0, 0, 0⟩)
abbrev s_law_cell_at:Stmt:=top 27
theorem zfm:FnScope ["script","k"] ["script","k"] (zk s_law_cell_at):=fsc (by decide +kernel)
abbrev s_most_rise:Stmt:=top 19
theorem zbW:FnScope ["number","span","most"] ["number","span"] (zk s_most_rise):=fsc (by decide +kernel)
abbrev s_first_row:Stmt:=top 20
theorem zhp:FnScope ["most"] ["most"] (zk s_first_row):=fsc (by decide +kernel)
abbrev s_stacks_that_do:Stmt:=top 22
theorem zd1:FnScope ["row","number","span"] ["row","number","span"] (zk s_stacks_that_do):=fsc (by decide +kernel)
abbrev s_next_row:Stmt:=top 21
theorem zbf:FnScope ["shims","row","most","longer","place","thickness","rise","stack"] ["shims","row","most"] (zk s_next_row):=fsc (by decide +kernel)
abbrev s_rows_to_the_end:Stmt:=top 18
theorem zad:FnScope ["shims","number","span","most","rows"] ["shims","number","span"] (zk s_rows_to_the_end):=fsc (by decide +kernel)
abbrev s_stack_of:Stmt:=top 17
theorem zcz:FnScope ["shims","number","span","rows"] ["shims","number","span"] (zk s_stack_of):=fsc (by decide +kernel)
abbrev s_sums_of:Stmt:=top 24
theorem zj8:FnScope ["row"] ["row"] (zk s_sums_of):=fsc (by decide +kernel)
abbrev s_table_of:Stmt:=top 23
theorem zck:FnScope ["shims","number","span","rows"] ["shims","number","span"] (zk s_table_of):=fsc (by decide +kernel)
abbrev s_is_whole:Stmt:=top 13
theorem zhX:FnScope ["thing"] ["thing"] (zk s_is_whole):=fsc (by decide +kernel)
abbrev s_is_same:Stmt:=top 14
theorem zjI:FnScope ["thing","numbers"] ["thing","numbers"] (zk s_is_same):=fsc (by decide +kernel)
abbrev s_table_holds:Stmt:=top 25
theorem zQ:FnScope ["shims","number","span","many","thing","most","row","told"] ["shims","number","span","many","thing"] (zk s_table_holds):=fsc (by decide +kernel)
abbrev s_law_whole:Stmt:=top 31
theorem zer:FnScope ["found"] ["found"] (zk s_law_whole):=fsc (by decide +kernel)
abbrev s_law_stack_right:Stmt:=top 36
theorem zdB:FnScope ["shims","number","span","stack"] ["shims","number","span","stack"] (zk s_law_stack_right):=fsc (by decide +kernel)
abbrev s_law_right:Stmt:=top 37
theorem zbq:FnScope ["shims","number","span","stack","table","place","behind"] ["shims","number","span"] (zk s_law_right):=fsc (by decide +kernel)
abbrev s_law_pen:Stmt:=top 29
theorem zfT:FnScope ["cell","left"] ["cell"] (zk s_law_pen):=fsc (by decide +kernel)
abbrev s_law_next:Stmt:=top 28
theorem ze7:FnScope ["seed"] ["seed"] (zk s_law_next):=fsc (by decide +kernel)
abbrev s_law_draw:Stmt:=top 30
theorem zeY:FnScope ["pen","many","found"] ["pen","many"] (zk s_law_draw):=fsc (by decide +kernel)
abbrev s_law_shims:Stmt:=top 33
theorem zet:FnScope ["pen","most"] ["pen"] (zk s_law_shims):=fsc (by decide +kernel)
abbrev s_law_number:Stmt:=top 32
theorem zdE:FnScope ["pen","way"] ["pen"] (zk s_law_number):=fsc (by decide +kernel)
abbrev s_law_way:Stmt:=top 34
theorem zd2:FnScope ["pen","far","number","low"] ["pen","far"] (zk s_law_way):=fsc (by decide +kernel)
abbrev s_law_kind:Stmt:=top 35
theorem zbL:FnScope ["e","marks","words"] ["e"] (zk s_law_kind):=fsc (by decide +kernel)
abbrev s_law_tried:Stmt:=top 38
theorem zes:FnScope ["way","shims","number","span","e"] ["way","shims","number","span"] (zk s_law_tried):=fsc (by decide +kernel)
abbrev s_law_refused:Stmt:=top 39
theorem zb4:FnScope ["shims","number","span","due"] ["shims","number","span"] (zk s_law_refused):=fsc (by decide +kernel)
abbrev s_law:Stmt:=top 40
theorem zdL:FnScope ["script","cell","pen","shims","number","span","stack","more","far"] ["script"] (zk s_law):=fsc (by decide +kernel)
abbrev s_I_TooGreat:Stmt:=zoY (top 11) 0
theorem zf9:FnScope ["self","many","most"] ["self","many","most"] (zk s_I_TooGreat):=fsc (by decide +kernel)
structure Txt(mg:Str->Option Value):Prop where
 n_tuple:mg "tuple" = none
 n_sorted:mg "sorted" = none
 n_set:mg "set" = none
 n_len:mg "len" = none
 n_enumerate:mg "enumerate" = none
 n_min:mg "min" = none
 n_isinstance:mg "isinstance" = none
 n_bool:mg "bool" = none
 n_int:mg "int" = none
 n_all:mg "all" = none
 n_list:mg "list" = none
 n_sum:mg "sum" = none
 n_max:mg "max" = none
 n_range:mg "range" = none
 n_ValueError:mg "ValueError" = none
 g_MOST_RISE:∃ t,mg "MOST_RISE" = some (.int 200 t)
structure Dds(K:W.Frag)(mg:Str->Option Value):Prop where
 d_law_cell_at:Dd K mg "_law_cell_at" s_law_cell_at ["script","k"]
 d_most_rise:Dd K mg "most_rise" s_most_rise ["number","span"]
 d_first_row:Dd K mg "first_row" s_first_row ["most"]
 d_stacks_that_do:Dd K mg "stacks_that_do" s_stacks_that_do ["row","number","span"]
 d_next_row:Dd K mg "next_row" s_next_row ["shims","row","most"]
 d_rows_to_the_end:Dd K mg "rows_to_the_end" s_rows_to_the_end ["shims","number","span"]
 d_stack_of:Dd K mg "stack_of" s_stack_of ["shims","number","span"]
 d_sums_of:Dd K mg "sums_of" s_sums_of ["row"]
 d_table_of:Dd K mg "table_of" s_table_of ["shims","number","span"]
 d_is_whole:Dd K mg "is_whole" s_is_whole ["thing"]
 d_is_same:Dd K mg "is_same" s_is_same ["thing","numbers"]
 d_table_holds:Dd K mg "table_holds" s_table_holds ["shims","number","span","many","thing"]
 d_law_whole:Dd K mg "_law_whole" s_law_whole ["found"]
 d_law_stack_right:Dd K mg "_law_stack_right" s_law_stack_right ["shims","number","span","stack"]
 d_law_right:Dd K mg "_law_right" s_law_right ["shims","number","span"]
 d_law_pen:Dd K mg "_law_pen" s_law_pen ["cell"]
 d_law_next:Dd K mg "_law_next" s_law_next ["seed"]
 d_law_draw:Dd K mg "_law_draw" s_law_draw ["pen","many"]
 d_law_shims:Dd K mg "_law_shims" s_law_shims ["pen"]
 d_law_number:Dd K mg "_law_number" s_law_number ["pen"]
 d_law_way:Dd K mg "_law_way" s_law_way ["pen","far"]
 d_law_kind:Dd K mg "_law_kind" s_law_kind ["e"]
 d_law_tried:Dd K mg "_law_tried" s_law_tried ["way","shims","number","span"]
 d_law_refused:Dd K mg "_law_refused" s_law_refused ["shims","number","span"]
structure Exx(K:W.Frag)(mg:Str->Option Value):Prop where
 ex:Exs K
 m_GaugeError:mg "GaugeError" = some (.ref 24)
 m_NoSpan:mg "NoSpan" = some (.ref 37)
 m_NoPart:mg "NoPart" = some (.ref 49)
 m_NoSet:mg "NoSet" = some (.ref 61)
 m_NoRow:mg "NoRow" = some (.ref 73)
 m_Unlike:mg "Unlike" = some (.ref 85)
 m_NoDrawing:mg "NoDrawing" = some (.ref 104)
 m_NoGap:mg "NoGap" = some (.ref 123)
 m_NoOffer:mg "NoOffer" = some (.ref 142)
 m_NoText:mg "NoText" = some (.ref 161)
 m_TooGreat:mg "TooGreat" = some (.ref 180)
 c_GaugeError:ExCls K 24 none
 c_NoSpan:ExCls K 37 none
 c_NoPart:ExCls K 49 none
 c_NoSet:ExCls K 61 none
 c_NoRow:ExCls K 73 none
 c_Unlike:ExCls K 85 none
 r_TooGreat:XI K 180 ["many","most"] "TooGreat.__init__" s_I_TooGreat
 a_many:ExsI K [180] "many"
 a_most:ExsI K [180] "most"
section
variable {P:Program} {w:World} {K:W.Frag} {mg:Str->Option Value} {base:Heap}
abbrev zb3 (P:Program) (w:World) (K:W.Frag) (mg:Str->Option Value) (base:Heap):Prop:=DfX P w K mg base "most_rise" ["number","span"] 3 (spX ["number","span"] zaV)
abbrev zb0 (P:Program) (w:World) (K:W.Frag) (mg:Str->Option Value) (base:Heap):Prop:=Df P w K mg base "most_rise" ["number","span"] 3 (spN ["number","span"] zbS)
abbrev zaY (P:Program) (w:World) (K:W.Frag) (mg:Str->Option Value) (base:Heap):Prop:=Df P w K mg base "first_row" ["most"] 1 (spN ["most"] zaT)
abbrev zJ (P:Program) (w:World) (K:W.Frag) (mg:Str->Option Value) (base:Heap):Prop:=Df P w K mg base "stacks_that_do" ["row","number","span"] 1 (spN ["row","number","span"] zI)
abbrev zbc (P:Program) (w:World) (K:W.Frag) (mg:Str->Option Value) (base:Heap):Prop:=Df P w K mg base "next_row" ["shims","row","most"] 1 (spN ["shims","row","most"] zbj)
abbrev zaF (P:Program) (w:World) (K:W.Frag) (mg:Str->Option Value) (base:Heap):Prop:=DfX P w K mg base "rows_to_the_end" ["shims","number","span"] 4 (spX ["shims","number","span"] zaa)
abbrev zaE (P:Program) (w:World) (K:W.Frag) (mg:Str->Option Value) (base:Heap):Prop:=Df P w K mg base "rows_to_the_end" ["shims","number","span"] 4 (spN ["shims","number","span"] zZ)
abbrev zdp (P:Program) (w:World) (K:W.Frag) (mg:Str->Option Value) (base:Heap):Prop:=DfX P w K mg base "stack_of" ["shims","number","span"] 5 (spX ["shims","number","span"] zbB)
abbrev zdu (P:Program) (w:World) (K:W.Frag) (mg:Str->Option Value) (base:Heap):Prop:=Df P w K mg base "stack_of" ["shims","number","span"] 5 (spN ["shims","number","span"] zbh)
abbrev zbA (P:Program) (w:World) (K:W.Frag) (mg:Str->Option Value) (base:Heap):Prop:=Df P w K mg base "sums_of" ["row"] 1 (spN ["row"] zbP)
abbrev zdk (P:Program) (w:World) (K:W.Frag) (mg:Str->Option Value) (base:Heap):Prop:=DfX P w K mg base "table_of" ["shims","number","span"] 5 (spX ["shims","number","span"] zbE)
abbrev zdj (P:Program) (w:World) (K:W.Frag) (mg:Str->Option Value) (base:Heap):Prop:=Df P w K mg base "table_of" ["shims","number","span"] 5 (spN ["shims","number","span"] zc8)
abbrev zdv (P:Program) (w:World) (K:W.Frag) (mg:Str->Option Value) (base:Heap):Prop:=Df P w K mg base "is_whole" ["thing"] 1 (spN ["thing"] zc2)
abbrev zdb (P:Program) (w:World) (K:W.Frag) (mg:Str->Option Value) (base:Heap):Prop:=Df P w K mg base "is_same" ["thing","numbers"] 2 (spN ["thing","numbers"] zc1)
abbrev zb7 (P:Program) (w:World) (K:W.Frag) (mg:Str->Option Value) (base:Heap):Prop:=DfX P w K mg base "table_holds" ["shims","number","span","many","thing"] 4 (spX ["shims","number","span","many","thing"] zaM)
abbrev zb5 (P:Program) (w:World) (K:W.Frag) (mg:Str->Option Value) (base:Heap):Prop:=Df P w K mg base "table_holds" ["shims","number","span","many","thing"] 4 (spN ["shims","number","span","many","thing"] zbw)
abbrev zcY (P:Program) (w:World) (K:W.Frag) (mg:Str->Option Value) (base:Heap):Prop:=DfN P w K mg base "_law_whole" ["found"] 1 (spN ["found"] zX)
abbrev zcW (P:Program) (w:World) (K:W.Frag) (mg:Str->Option Value) (base:Heap):Prop:=Df P w K mg base "_law_whole" ["found"] 1 (spN ["found"] zX)
abbrev za8 (P:Program) (w:World) (K:W.Frag) (mg:Str->Option Value) (base:Heap):Prop:=Df P w K mg base "_law_stack_right" ["shims","number","span","stack"] 2 (spN ["shims","number","span","stack"] zaN)
abbrev zel (P:Program) (w:World) (K:W.Frag) (mg:Str->Option Value) (base:Heap):Prop:=Df P w K mg base "_law_right" ["shims","number","span"] 6 (spN ["shims","number","span"] zaK)
abbrev zfv (P:Program) (w:World) (K:W.Frag) (mg:Str->Option Value) (base:Heap):Prop:=Df P w K mg base "_law_pen" ["cell"] 1 (spN ["cell"] ze5)
abbrev zdi (P:Program) (w:World) (K:W.Frag) (mg:Str->Option Value) (base:Heap):Prop:=Df P w K mg base "_law_next" ["seed"] 1 (spN ["seed"] zce)
abbrev zbI (P:Program) (w:World) (K:W.Frag) (mg:Str->Option Value) (base:Heap):Prop:=Df P w K mg base "_law_draw" ["pen","many"] 2 (spN ["pen","many"] zE)
abbrev zeg (P:Program) (w:World) (K:W.Frag) (mg:Str->Option Value) (base:Heap):Prop:=Df P w K mg base "_law_shims" ["pen"] 3 (spN ["pen"] zcq)
abbrev zcA (P:Program) (w:World) (K:W.Frag) (mg:Str->Option Value) (base:Heap):Prop:=Df P w K mg base "_law_number" ["pen"] 3 (spN ["pen"] zcH)
abbrev zfO (P:Program) (w:World) (K:W.Frag) (mg:Str->Option Value) (base:Heap):Prop:=Df P w K mg base "_law_way" ["pen","far"] 4 (spN ["pen","far"] zdJ)
abbrev zdw (P:Program) (w:World) (K:W.Frag) (mg:Str->Option Value) (base:Heap):Prop:=DfN P w K mg base "_law_kind" ["e"] 1 (spN ["e"] zbg)
abbrev zcM (P:Program) (w:World) (K:W.Frag) (mg:Str->Option Value) (base:Heap):Prop:=Df P w K mg base "_law_tried" ["way","shims","number","span"] 6 (spN ["way","shims","number","span"] zbl)
abbrev zdh (P:Program) (w:World) (K:W.Frag) (mg:Str->Option Value) (base:Heap):Prop:=Df P w K mg base "_law_refused" ["shims","number","span"] 7 (spN ["shims","number","span"] zao)
theorem zcv(T:Txt mg)(dd:Dds K mg):Df P w K mg base "_law_cell_at" ["script","k"] 1 (sp2 (zoN K)):=by
 refine Df.of2 dd.d_law_cell_at zfm (fun v u=>[some v,some u]) (fun _ _=>rfl) fun f cdv A outer s H v u Q E hr h=>?_;obtain⟨a,ns,i,rfl,rfl,hS,h0,q⟩:=h;refine⟨_,(zi (zbo (zag zkP (pv 1) (zt zkV (by rfl) T.n_len zcD (zc (pv 0) zh)) (nomark _)) (zo (zF (za0 zlY (pv 0) (pv 1) (fun _ _=>rfl)))) zac) (zo (zF zl))),?_⟩;simp only [ziz,znZ,zna,tOp,zmM,tCB,zjF,zpF,zrW,tC,zpp,zkZ,List.getElem?_cons_zero,List.getElem?_cons_succ];refine⟨a,_,rfl,.inl hS,?_⟩;simp only [zkZ,zrS,decide_eq_true_eq];refine ite2 (fun hi=>?_) (fun _=>q 0);obtain⟨n,e⟩:=zoV h0 hi;exact⟨a,_,i,_,rfl,rfl,hS,e,q n⟩
theorem zke{f:Addr}{fd:FuncData}(F:Fun K "__init__" "TooGreat.__init__" s_I_TooGreat f fd):FnOk P w K mg base CX0 1 f fd ["self","many","most"] (spI K ["many","most"]):=F.ok zf9 zpu fun cdv A outer s H vs Q E hr h=>⟨_,(zi (zl6 (pv 0) (pv 1) rfl) (zo (zl6 (pv 0) (pv 2) rfl))),init2 (by decide) h⟩
theorem zaI(T:Txt mg)(dd:Dds K mg)(xx:Exx K mg):zb3 P w K mg base:=by
 exact DfX.dN dd.d_most_rise zbW 1 rfl fun f cdv A outer s H E EX hr=>⟨_,_,(zi (zrl (zU (i:=2) zbW.nd rfl (Or.inl rfl) (zaf zcV (za0 zap (pv 1) zl (fun _ _=>rfl)) (pv 0)))) (zi (zbo (PT.nox (zag zmL (pv 2) (zgm rfl T.g_MOST_RISE) (nomark _))) (zo (zlf xx.r_TooGreat (fun _ _ F=>zke F) zmA hr (by decide) xx.m_TooGreat (by decide) (zc (pv 2) (zc (zgm rfl T.g_MOST_RISE) zh)))) zac) (PSs.nox (zo (zF (pv 2)))))),(zfJ (zcK (zab (zr zew (zr za3 zd zm) zd) zp)) (zfJ (zqT (zmx (zd8 (zr zdd zd zm))) (zk5 xx.r_TooGreat.i xx.r_TooGreat.na (za zd (za zm zg))) (zcK zY)) (zcK (zD zd)))),fun xs S R q=>q⟩
theorem zaJ(T:Txt mg)(dd:Dds K mg)(xx:Exx K mg):zb0 P w K mg base:=by
 exact Df.dN dd.d_most_rise zbW 1 rfl fun f cdv A outer s H E hr=>⟨_,_,(zi (zU (i:=2) zbW.nd rfl (Or.inl rfl) (zaf zcV (za0 zap (pv 1) zl (fun _ _=>rfl)) (pv 0))) (zi (zbo (zag zmL (pv 2) (zgm rfl T.g_MOST_RISE) (nomark _)) (zo zmJ) zac) (zo (zF (pv 2))))),(zy (zab (zr zew (zr za3 zd zm) zd) zp) (zy (zbp (zd8 (zr zdd zd zm)) znw zY) (zD zd))),fun xs S R q=>q⟩
theorem zS(T:Txt mg)(dd:Dds K mg)(xx:Exx K mg):zaY P w K mg base:=by
 exact Df.dN dd.d_first_row zhp 0 rfl fun f cdv A outer s H E hr=>⟨_,_,(zo (zF (znD (zag zp8 (pv 0) zl (nomark _)) (zqQ (zo8 (znK zl (za5 zh) zoT) rfl rfl (by simp) (by decide))) (zqQ zja)))),(zD (zrD (zd8 (zr zdd zd zm)) (znv (zaR zg)) zpx)),fun xs S R q=>q⟩
theorem zj(T:Txt mg)(dd:Dds K mg)(xx:Exx K mg):zJ P w K mg base:=by
 exact Df.dN dd.d_stacks_that_do zd1 0 rfl fun f cdv A outer s H E hr=>⟨_,_,(zo (zF (zcy (fun _ _ h=>h) rfl (za4 rfl rfl rfl rfl (N:=["rise","stack","span","number"]) (caps:=[none,none,some 2,some 1]) (by show zcI ["row","number","span"] (zk s_stacks_that_do).names _ _ _=true; decide +kernel)) (ziS (pv 0) rfl rfl) (fun _ _ _ _=>(ziI (n:=2) rfl (zbV (zau (i:=0) (by show List.Nodup (["rise","stack","span","number"]:List Str); decide) rfl (Or.inl rfl)) (zbV (zau (i:=1) (by show List.Nodup (["rise","stack","span","number"]:List Str); decide) rfl (Or.inl rfl)) zga)))) (fun _ _ _ _=>(zh4 (zm1 zjL zjL (za0 zap (pv 2) zl (fun _ _=>rfl)) (zaf zam (pv 3) (pv 0)) (za0 zap (pv 2) zl (fun _ _=>rfl))))) (fun _ _ _ _=>(pv 1))))),(zD (zgw (zjv zd) (ziF (zbX zp (zbX zp zgh))) (zd8 (zgx zdd zdd (zr za3 zd zm) (zr zaO zd zd) (zr za3 zd zm))) zd)),fun xs S R q=>q⟩
theorem zae(T:Txt mg)(dd:Dds K mg)(xx:Exx K mg):zbc P w K mg base:=by
 exact Df.dN dd.d_next_row zbf 5 rfl fun f cdv A outer s H E hr=>⟨_,_,(zi (zU (i:=3) zbf.nd rfl (Or.inl rfl) zja) (zi (zrE (i:=3) (zfH PassesOwn.never rfl (znI rfl T.n_enumerate (zc (pv 0) zh)) (ziI (n:=2) rfl (zbV (zau (i:=4) zbf.nd rfl (Or.inl rfl)) (zbV (zau (i:=5) zbf.nd rfl (Or.inl rfl)) zga))) (zo (zfH PassesOwn.never rfl (ziS (pv 1) rfl rfl) (ziI (n:=2) rfl (zbV (zau (i:=6) zbf.nd rfl (Or.inl rfl)) (zbV (zau (i:=7) zbf.nd rfl (Or.inl rfl)) zga))) (zo (zbo (zag zjL (zaf zam (pv 6) (pv 5)) (pv 2) (nomark _)) (zo (zio (zpk (pv 3) (zaf zam (pv 6) (pv 5)) (zaf zam (za5 (zc (pv 4) zh)) (pv 7)) ⟨rfl,rfl,rfl,rfl⟩))) zac)))))) (zo (zF (pv 3))))),(zoF (zoI (zpb (zop (fun M=>zkW (zns (za zd zg))) (ziF (zbX zp (zbX zp zgh))) (zop (fun M=>zkW (zjv zd)) (ziF (zbX zp (zbX zp zgh))) (zrN (fun M=>(zmx (zd8 (zr zdd (zr zaO zd zd) zd)))) (zqk (fun M=>(zmu (zr zaO zd zd))) (fun M=>(zmu (zr zaO (zaR (za zd zg)) zd)))) (zoW zY)))))) (zD zd)),fun xs S R q=>q⟩
theorem zP(T:Txt mg)(dd:Dds K mg)(xx:Exx K mg)(zS:zaY P w K mg base)(zj:zJ P w K mg base)(zae:zbc P w K mg base)(zaI:zb3 P w K mg base):zaF P w K mg base:=by
 exact DfX.dN dd.d_rows_to_the_end zad 2 rfl fun f cdv A outer s H E EX hr=>⟨_,_,(zi (zU (i:=3) zad.nd rfl (Or.inl rfl) (zi7 zaI pass1 hr (by decide) (zc (PE.nox (pv 1)) (zc (PE.nox (pv 2)) zh)))) (PSs.nox (zi (zU (i:=4) zad.nd rfl (Or.inl rfl) (zcN (zc (zv zS hr (by decide) (zc (pv 3) zh)) zh))) (zi (ziZ PassesOwn.never (PW.pt (zjn (zk8 (za0 zap (pv 4) (zgc zdK zl) (fun _ _=>rfl)) (fun _=>rfl)) (ziq (zaZ (zV (zv zj hr (by decide) (zc (za0 zap (pv 4) (zgc zdK zl) (fun _ _=>rfl)) (zc (pv 1) (zc (pv 2) zh)))) (fun _=>rfl)))))) (zo (zio (znN PySem.F.plainAttrs_list PySem.F.slot_list_append PySem.F.type_list_append ze1 (pv 4) (zc (zv zae hr (by decide) (zc (pv 0) (zc (za0 zap (pv 4) (zgc zdK zl) (fun _ _=>rfl)) (zc (pv 3) zh)))) zh))))) (zo (zF (pv 4))))))),(zfJ (zjE (zeG (zf7 (za zd (za zd zg)))) zp) (zcK (zy (zab (zh6 (za (zu (za zd zg)) zg)) zp) (zy (zi2 (ziP (zkw (zr za3 zd (zgv zmC zm))) (zaG (zav (zu (za (zr za3 zd (zgv zmC zm)) (za zd (za zd zg))))))) (zkB (zpM zhy zd (za (zu (za zd (za (zr za3 zd (zgv zmC zm)) (za zd zg)))) zg)))) (zD zd))))),fun xs S R q=>q⟩
theorem zO(T:Txt mg)(dd:Dds K mg)(xx:Exx K mg)(zaJ:zb0 P w K mg base)(zS:zaY P w K mg base)(zj:zJ P w K mg base)(zae:zbc P w K mg base):zaE P w K mg base:=by
 exact Df.dN dd.d_rows_to_the_end zad 2 rfl fun f cdv A outer s H E hr=>⟨_,_,(zi (zU (i:=3) zad.nd rfl (Or.inl rfl) (zv zaJ hr (by decide) (zc (pv 1) (zc (pv 2) zh)))) (zi (zU (i:=4) zad.nd rfl (Or.inl rfl) (zcN (zc (zv zS hr (by decide) (zc (pv 3) zh)) zh))) (zi (ziZ PassesOwn.never (PW.pt (zjn (zk8 (za0 zap (pv 4) (zgc zdK zl) (fun _ _=>rfl)) (fun _=>rfl)) (ziq (zaZ (zV (zv zj hr (by decide) (zc (za0 zap (pv 4) (zgc zdK zl) (fun _ _=>rfl)) (zc (pv 1) (zc (pv 2) zh)))) (fun _=>rfl)))))) (zo (zio (znN PySem.F.plainAttrs_list PySem.F.slot_list_append PySem.F.type_list_append ze1 (pv 4) (zc (zv zae hr (by decide) (zc (pv 0) (zc (za0 zap (pv 4) (zgc zdK zl) (fun _ _=>rfl)) (zc (pv 3) zh)))) zh))))) (zo (zF (pv 4)))))),(zy (zab (zu (za zd (za zd zg))) zp) (zy (zab (zh6 (za (zu (za zd zg)) zg)) zp) (zy (zi2 (ziP (zkw (zr za3 zd (zgv zmC zm))) (zaG (zav (zu (za (zr za3 zd (zgv zmC zm)) (za zd (za zd zg))))))) (zkB (zpM zhy zd (za (zu (za zd (za (zr za3 zd (zgv zmC zm)) (za zd zg)))) zg)))) (zD zd)))),fun xs S R q=>q⟩
theorem zcd(T:Txt mg)(dd:Dds K mg)(xx:Exx K mg)(zj:zJ P w K mg base)(zP:zaF P w K mg base):zdp P w K mg base:=by
 exact DfX.dN dd.d_stack_of zcz 1 rfl fun f cdv A outer s H E EX hr=>⟨_,_,(zi (zU (i:=3) zcz.nd rfl (Or.inl rfl) (zi7 zP pass1 hr (by decide) (zc (PE.nox (pv 0)) (zc (PE.nox (pv 1)) (zc (PE.nox (pv 2)) zh))))) (PSs.nox (zo (zF (ziJ rfl hr.units (by rfl) T.n_min (zc (zv zj hr (by decide) (zc (za0 zap (pv 3) (zgc zdK zl) (fun _ _=>rfl)) (zc (pv 1) (zc (pv 2) zh)))) zh)))))),(zfJ (zjE (zeG (zf7 (za zd (za zd (za zd zg))))) zp) (zcK (zD (zah zi5 (za (zu (za (zr za3 zd (zgv zmC zm)) (za zd (za zd zg)))) zg))))),fun xs S R q=>q⟩
theorem zaX(T:Txt mg)(dd:Dds K mg)(xx:Exx K mg)(zO:zaE P w K mg base)(zj:zJ P w K mg base):zdu P w K mg base:=by
 exact Df.dN dd.d_stack_of zcz 1 rfl fun f cdv A outer s H E hr=>⟨_,_,(zi (zU (i:=3) zcz.nd rfl (Or.inl rfl) (zv zO hr (by decide) (zc (pv 0) (zc (pv 1) (zc (pv 2) zh))))) (zo (zF (ziJ rfl hr.units (by rfl) T.n_min (zc (zv zj hr (by decide) (zc (za0 zap (pv 3) (zgc zdK zl) (fun _ _=>rfl)) (zc (pv 1) (zc (pv 2) zh)))) zh))))),(zy (zab (zu (za zd (za zd (za zd zg)))) zp) (zD (zah zi5 (za (zu (za (zr za3 zd (zgv zmC zm)) (za zd (za zd zg)))) zg)))),fun xs S R q=>q⟩
theorem zaq(T:Txt mg)(dd:Dds K mg)(xx:Exx K mg):zbA P w K mg base:=by
 exact Df.dN dd.d_sums_of zj8 0 rfl fun f cdv A outer s H E hr=>⟨_,_,(zo (zF (zcO zcm (by rfl) T.n_tuple zdV (zc (zt (zj3 rfl) (by rfl) T.n_sorted zgE (zc (pv 0) zh)) zh)))),(zD (zah zf2 (za (zah zmB (za zd zg)) zg))),fun xs S R q=>q⟩
theorem zb8(T:Txt mg)(dd:Dds K mg)(xx:Exx K mg)(zaq:zbA P w K mg base)(zj:zJ P w K mg base)(zP:zaF P w K mg base):zdk P w K mg base:=by
 exact DfX.dN dd.d_table_of zck 1 rfl fun f cdv A outer s H E EX hr=>⟨_,_,(zi (zU (i:=3) zck.nd rfl (Or.inl rfl) (zi7 zP pass1 hr (by decide) (zc (PE.nox (pv 0)) (zc (PE.nox (pv 1)) (zc (PE.nox (pv 2)) zh))))) (PSs.nox (zo (zF (zcy (fun _ _ h=>h) rfl (za4 rfl rfl rfl rfl (N:=["row","number","span"]) (caps:=[none,some 1,some 2]) (by show zcI ["shims","number","span","rows"] (zk s_table_of).names _ _ _=true; decide +kernel)) (zdW (pv 3)) (fun _ _ _ _=>(zau (i:=0) (by show List.Nodup (["row","number","span"]:List Str); decide) rfl (Or.inl rfl))) (fun _ _ _ _=>(zh4 (zaZ (zV (zv zj hr (by decide) (zc (pv 0) (zc (pv 1) (zc (pv 2) zh)))) (fun _=>rfl))))) (fun _ _ _ _=>(zv zaq hr (by decide) (zc (pv 0) zh)))))))),(zfJ (zjE (zeG (zf7 (za zd (za zd (za zd zg))))) zp) (zcK (zD (zgw (zdC zd) zp (zaG (zav (zu (za zd (za zd (za zd zg)))))) (zu (za zd zg)))))),fun xs S R q=>q⟩
theorem zb9(T:Txt mg)(dd:Dds K mg)(xx:Exx K mg)(zO:zaE P w K mg base)(zaq:zbA P w K mg base)(zj:zJ P w K mg base):zdj P w K mg base:=by
 exact Df.dN dd.d_table_of zck 1 rfl fun f cdv A outer s H E hr=>⟨_,_,(zi (zU (i:=3) zck.nd rfl (Or.inl rfl) (zv zO hr (by decide) (zc (pv 0) (zc (pv 1) (zc (pv 2) zh))))) (zo (zF (zcy (fun _ _ h=>h) rfl (za4 rfl rfl rfl rfl (N:=["row","number","span"]) (caps:=[none,some 1,some 2]) (by show zcI ["shims","number","span","rows"] (zk s_table_of).names _ _ _=true; decide +kernel)) (zdW (pv 3)) (fun _ _ _ _=>(zau (i:=0) (by show List.Nodup (["row","number","span"]:List Str); decide) rfl (Or.inl rfl))) (fun _ _ _ _=>(zh4 (zaZ (zV (zv zj hr (by decide) (zc (pv 0) (zc (pv 1) (zc (pv 2) zh)))) (fun _=>rfl))))) (fun _ _ _ _=>(zv zaq hr (by decide) (zc (pv 0) zh))))))),(zy (zab (zu (za zd (za zd (za zd zg)))) zp) (zD (zgw (zdC zd) zp (zaG (zav (zu (za zd (za zd (za zd zg)))))) (zu (za zd zg))))),fun xs S R q=>q⟩
theorem zcc(T:Txt mg)(dd:Dds K mg)(xx:Exx K mg):zdv P w K mg base:=by
 exact Df.dN dd.d_is_whole zhX 0 rfl fun f cdv A outer s H E hr=>⟨_,_,(zo (zF (zg9 (zt zbn (by rfl) T.n_isinstance zq (zc (pv 0) (zc (zbO rfl T.n_int ziX (v:=.ty "int") rfl) zh))) (zjy (zlV (zt zbn (by rfl) T.n_isinstance zq (zc (pv 0) (zc (zbO rfl T.n_bool zhD (v:=.ty "bool") rfl) zh)))))))),(zD (zhm (zah zdf (za zd (za zfd zg))) (zme (zah zdf (za zd (za zfd zg)))))),fun xs S R q=>q⟩
theorem zbs(T:Txt mg)(dd:Dds K mg)(xx:Exx K mg)(zcc:zdv P w K mg base):zdb P w K mg base:=by
 exact Df.dN dd.d_is_same zjI 0 rfl fun f cdv A outer s H E hr=>⟨_,_,(zo (zF (zg9 (zt zbn (by rfl) T.n_isinstance zq (zc (pv 0) (zc (zbO rfl T.n_tuple zdV (v:=.ty "tuple") rfl) zh))) (zg9 (zt (zdS rfl) (by rfl) T.n_all zjp (zc (zcy (fun _ _ h=>h) rfl (za4 (L:=0) rfl rfl rfl rfl (N:=["number"]) (caps:=[none]) (by show zcI ["thing","numbers"] (zk s_is_same).names _ _ _=true; decide +kernel)) (zdW (pv 0)) (fun _ _ _ _=>(zau (i:=0) (by show List.Nodup (["number"]:List Str); decide) rfl (Or.inl rfl))) (fun _ _ _ _=>zea) (fun _ _ _ _=>(zv zcc hr (by decide) (zc (pv 0) zh)))) zh)) (zjy (zf1 (zfA hr.units) (pv 0) (pv 1) (nomark _))))))),(zD (zhm (zah zdf (za zd (za zfd zg))) (zhm (zah zjB (za (zd0 (zdC zd) zp zd5 (zu (za zd zg))) zg)) (zr zfS zd zd)))),fun xs S R q=>q⟩
theorem za1(T:Txt mg)(dd:Dds K mg)(xx:Exx K mg)(zS:zaY P w K mg base)(zj:zJ P w K mg base)(zbs:zdb P w K mg base)(zaq:zbA P w K mg base)(zae:zbc P w K mg base)(zaI:zb3 P w K mg base):zb7 P w K mg base:=by
 exact DfX.dN dd.d_table_holds zQ 3 rfl fun f cdv A outer s H E EX hr=>⟨_,_,(zi (zU (i:=5) zQ.nd rfl (Or.inl rfl) (zi7 zaI pass1 hr (by decide) (zc (PE.nox (pv 1)) (zc (PE.nox (pv 2)) zh)))) (PSs.nox (zi (zbo (PW.pt (zez (zaZ (zV (zt zbn (by rfl) T.n_isinstance zq (zc (pv 4) (zc (zbO rfl T.n_list zhN (v:=.ty "list") rfl) zh))) (fun _=>rfl))) (zdg (zag (zeU hr.units) (zt zaL (by rfl) T.n_len zcD (zc (pv 4) zh)) (pv 3) (nomark _))))) (zo (zF zbU)) zac) (zi (zU (i:=6) zQ.nd rfl (Or.inl rfl) (zv zS hr (by decide) (zc (pv 5) zh))) (zi (zfH PassesOwn.never rfl (zdW (pv 4)) (zau (i:=7) zQ.nd rfl (Or.inl rfl)) (zi (zbo (PW.pt (zez (zaZ (zV (zv zbs hr (by decide) (zc (pv 7) (zc (zv zaq hr (by decide) (zc (pv 6) zh)) zh))) (fun _=>rfl))) (zdg (zV (zv zj hr (by decide) (zc (pv 6) (zc (pv 1) (zc (pv 2) zh)))) (fun _=>rfl))))) (zo (zF zbU)) zac) (zo (zU (i:=6) zQ.nd rfl (Or.inl rfl) (zv zae hr (by decide) (zc (pv 0) (zc (pv 6) (zc (pv 5) zh)))))))) (zo (zF zbU))))))),(zfJ (zjE (zeG (zf7 (za zd (za zd zg)))) zp) (zcK (zy (zbp (zde (zaG (zav (zah zdf (za zd (za zfd zg))))) (zd8 (zr zdO (zah zbG (za zd zg)) zd))) (zD zb6) zY) (zy (zab (zu (za zd zg)) zp) (zy (zlt (zdC zd) zp (zy (zbp (zde (zaG (zav (zu (za zd (za (zu (za zd zg)) zg))))) (zav (zu (za zd (za zd (za zd zg)))))) (zD zb6) zY) (zab (zu (za zd (za zd (za zd zg)))) zp))) (zD zb6)))))),fun xs S R q=>q⟩
theorem za7(T:Txt mg)(dd:Dds K mg)(xx:Exx K mg)(zaJ:zb0 P w K mg base)(zS:zaY P w K mg base)(zj:zJ P w K mg base)(zbs:zdb P w K mg base)(zaq:zbA P w K mg base)(zae:zbc P w K mg base):zb5 P w K mg base:=by
 exact Df.dN dd.d_table_holds zQ 3 rfl fun f cdv A outer s H E hr=>⟨_,_,(zi (zU (i:=5) zQ.nd rfl (Or.inl rfl) (zv zaJ hr (by decide) (zc (pv 1) (zc (pv 2) zh)))) (zi (zbo (PW.pt (zez (zaZ (zV (zt zbn (by rfl) T.n_isinstance zq (zc (pv 4) (zc (zbO rfl T.n_list zhN (v:=.ty "list") rfl) zh))) (fun _=>rfl))) (zdg (zag (zeU hr.units) (zt zaL (by rfl) T.n_len zcD (zc (pv 4) zh)) (pv 3) (nomark _))))) (zo (zF zbU)) zac) (zi (zU (i:=6) zQ.nd rfl (Or.inl rfl) (zv zS hr (by decide) (zc (pv 5) zh))) (zi (zfH PassesOwn.never rfl (zdW (pv 4)) (zau (i:=7) zQ.nd rfl (Or.inl rfl)) (zi (zbo (PW.pt (zez (zaZ (zV (zv zbs hr (by decide) (zc (pv 7) (zc (zv zaq hr (by decide) (zc (pv 6) zh)) zh))) (fun _=>rfl))) (zdg (zV (zv zj hr (by decide) (zc (pv 6) (zc (pv 1) (zc (pv 2) zh)))) (fun _=>rfl))))) (zo (zF zbU)) zac) (zo (zU (i:=6) zQ.nd rfl (Or.inl rfl) (zv zae hr (by decide) (zc (pv 0) (zc (pv 6) (zc (pv 5) zh)))))))) (zo (zF zbU)))))),(zy (zab (zu (za zd (za zd zg))) zp) (zy (zbp (zde (zaG (zav (zah zdf (za zd (za zfd zg))))) (zd8 (zr zdO (zah zbG (za zd zg)) zd))) (zD zb6) zY) (zy (zab (zu (za zd zg)) zp) (zy (zlt (zdC zd) zp (zy (zbp (zde (zaG (zav (zu (za zd (za (zu (za zd zg)) zg))))) (zav (zu (za zd (za zd (za zd zg)))))) (zD zb6) zY) (zab (zu (za zd (za zd (za zd zg)))) zp))) (zD zb6))))),fun xs S R q=>q⟩
theorem zbi(T:Txt mg)(dd:Dds K mg)(xx:Exx K mg):zcY P w K mg base:=by
 exact DfN.dN dd.d_law_whole zer 0 rfl fun f cdv A outer s H hr=>⟨_,_,(zo (zF (zg9 (zt zbn (by rfl) T.n_isinstance zq (zc (pv 0) (zc (zbO rfl T.n_int ziX (v:=.ty "int") rfl) zh))) (zjy (zlV (zt zbn (by rfl) T.n_isinstance zq (zc (pv 0) (zc (zbO rfl T.n_bool zhD (v:=.ty "bool") rfl) zh)))))))),(zD (zhm (zah zdf (za zd (za zfd zg))) (zme (zah zdf (za zd (za zfd zg)))))),fun xs S R q=>q⟩
theorem zbH(T:Txt mg)(dd:Dds K mg)(xx:Exx K mg):zcW P w K mg base:=by
 exact Df.dN dd.d_law_whole zer 0 rfl fun f cdv A outer s H E hr=>⟨_,_,(zo (zF (zg9 (zt zbn (by rfl) T.n_isinstance zq (zc (pv 0) (zc (zbO rfl T.n_int ziX (v:=.ty "int") rfl) zh))) (zjy (zlV (zt zbn (by rfl) T.n_isinstance zq (zc (pv 0) (zc (zbO rfl T.n_bool zhD (v:=.ty "bool") rfl) zh)))))))),(zD (zhm (zah zdf (za zd (za zfd zg))) (zme (zah zdf (za zd (za zfd zg)))))),fun xs S R q=>q⟩
theorem zat(T:Txt mg)(dd:Dds K mg)(xx:Exx K mg)(zbH:zcW P w K mg base):za8 P w K mg base:=by
 exact Df.dN dd.d_law_stack_right zdB 0 rfl fun f cdv A outer s H E hr=>⟨_,_,(zi (zbo (PW.pt (zez (zaZ (zV (zt zbn (by rfl) T.n_isinstance zq (zc (pv 3) (zc (zbO rfl T.n_tuple zdV (v:=.ty "tuple") rfl) zh))) (fun _=>rfl))) (zdg (zaZ (zV (zt (zdS rfl) (by rfl) T.n_all zjp (zc (zcy (fun _ _ h=>h) rfl (za4 rfl rfl rfl rfl (N:=["place"]) (caps:=[none]) (by show zcI ["shims","number","span","stack"] (zk s_law_stack_right).names _ _ _=true; decide +kernel)) (zdW (pv 3)) (fun _ _ _ _=>(zau (i:=0) (by show List.Nodup (["place"]:List Str); decide) rfl (Or.inl rfl))) (fun _ _ _ _=>zea) (fun _ _ _ _=>(zv zbH hr (by decide) (zc (pv 0) zh)))) zh)) (fun _=>rfl)))))) (zo (zF zbU)) zac) (zi (zbo (zaZ (zV (zt (zdS rfl) (by rfl) T.n_all zjp (zc (zcy (fun _ _ h=>h) rfl (za4 rfl rfl rfl rfl (N:=["place","shims"]) (caps:=[none,some 0]) (by show zcI ["shims","number","span","stack"] (zk s_law_stack_right).names _ _ _=true; decide +kernel)) (zdW (pv 3)) (fun _ _ _ _=>(zau (i:=0) (by show List.Nodup (["place","shims"]:List Str); decide) rfl (Or.inl rfl))) (fun _ _ _ _=>zea) (fun _ _ _ _=>(ziN zjL zkP zl (pv 0) (zt zaL (by rfl) T.n_len zcD (zc (pv 1) zh))))) zh)) (fun _=>rfl))) (zo (zF zbU)) zac) (zi (zbo (zag (zeU hr.units) (zcO zhn (by rfl) T.n_list zhN (zc (pv 3) zh)) (zt zhZ (by rfl) T.n_sorted zgE (zc (pv 3) zh)) (nomark _)) (zo (zF zbU)) zac) (zo (zF (ziN zjL zjL (za0 zap (pv 2) zl (fun _ _=>rfl)) (zaf zam (pv 1) (zt (zkQ rfl) (by rfl) T.n_sum zp6 (zc (zcy (fun _ _ h=>h) rfl (za4 rfl rfl rfl rfl (N:=["place","shims"]) (caps:=[none,some 0]) (by show zcI ["shims","number","span","stack"] (zk s_law_stack_right).names _ _ _=true; decide +kernel)) (zdW (pv 3)) (fun _ _ _ _=>(zau (i:=0) (by show List.Nodup (["place","shims"]:List Str); decide) rfl (Or.inl rfl))) (fun _ _ _ _=>zea) (fun _ _ _ _=>(za0 zap (pv 1) (pv 0) (fun _ _=>rfl)))) zh))) (za0 zap (pv 2) zl (fun _ _=>rfl)))))))),(zy (zbp (zde (zaG (zav (zah zdf (za zd (za zfd zg))))) (zaG (zav (zah zjB (za (zd0 (zdC zd) zp zd5 (zu (za zd zg))) zg))))) (zD zb6) zY) (zy (zbp (zaG (zav (zah zjB (za (zd0 (zdC zd) zp zd5 (zgx zdd zdd zm zd (zah zbG (za zd zg)))) zg)))) (zD zb6) zY) (zy (zbp (zd8 (zr zdO (zah znm (za zd zg)) (zah zky (za zd zg)))) (zD zb6) zY) (zD (zgx zdd zdd (zr za3 zd zm) (zr zaO zd (zah zqB (za (zd0 (zdC zd) zp zd5 (zr za3 zd zd)) zg))) (zr za3 zd zm)))))),fun xs S R q=>q⟩
theorem zcs(T:Txt mg)(dd:Dds K mg)(xx:Exx K mg)(zaX:zdu P w K mg base)(zb9:zdj P w K mg base)(za7:zb5 P w K mg base)(zat:za8 P w K mg base):zel P w K mg base:=by
 exact Df.dN dd.d_law_right zbq 4 rfl fun f cdv A outer s H E hr=>⟨_,_,(zi (zU (i:=3) zbq.nd rfl (Or.inl rfl) (zv zaX hr (by decide) (zc (pv 0) (zc (pv 1) (zc (pv 2) zh))))) (zi (zU (i:=4) zbq.nd rfl (Or.inl rfl) (zv zb9 hr (by decide) (zc (pv 0) (zc (pv 1) (zc (pv 2) zh))))) (zi (zbo (zag zpm (zv za7 hr (by decide) (zc (pv 0) (zc (pv 1) (zc (pv 2) (zc (zt zaL (by rfl) T.n_len zcD (zc (pv 4) zh)) (zc (pv 4) zh)))))) zbU (nomark _)) (zo (zF zbU)) zac) (zi (zbo (zag zlc (pv 3) zjz (nomark _)) (zo (zF (zf1 (zfA hr.units) (za0 zap (pv 4) (zgc zdK zl) (fun _ _=>rfl)) (za5 zh) (nomark _)))) zac) (zi (zbo (PW.pt (zez (zaZ (zV (zv zat hr (by decide) (zc (pv 0) (zc (pv 1) (zc (pv 2) (zc (pv 3) zh))))) (fun _=>rfl))) (zez (zag (zeU hr.units) (zt zaL (by rfl) T.n_len zcD (zc (pv 4) zh)) (zt zaL (by rfl) T.n_len zcD (zc (pv 3) zh)) (nomark _)) (zdg (zag (zql hr.units) (za5 zh) (pv 4) (by rfl)))))) (zo (zF zbU)) zac) (zi (zfH PassesOwn.never rfl (zdW (zhC rfl rfl T.n_sorted rfl T.n_set (zc (pv 3) zh))) (zau (i:=5) zbq.nd rfl (Or.inl rfl)) (zi (zU (i:=6) zbq.nd rfl (Or.inl rfl) (zv zaX hr (by decide) (zc (pv 0) (zc (zaf zam (pv 1) (za0 zap (pv 0) (pv 5) (fun _ _=>rfl))) (zc (pv 2) zh))))) (zo (zbo (PW.pt (zez (zag zlc (pv 6) zjz (nomark _)) (zdg (zag (zeU hr.units) (zt zaL (by rfl) T.n_len zcD (zc (pv 6) zh)) (zaf zcV (zt zaL (by rfl) T.n_len zcD (zc (pv 3) zh)) zl) (nomark _))))) (zo (zF zbU)) zac)))) (zo (zF zbU)))))))),(zy (zab (zu (za zd (za zd (za zd zg)))) zp) (zy (zab (zu (za zd (za zd (za zd zg)))) zp) (zy (zbp (zd8 (zr zpo (zu (za zd (za zd (za zd (za (zah zbG (za zd zg)) (za zd zg)))))) zb6)) (zD zb6) zY) (zy (zbp (zd8 (zoe zd)) (zD (zr zfS (zr za3 zd (zgv zmC zm)) (zaR zg))) zY) (zy (zbp (zde (zaG (zav (zu (za zd (za zd (za zd (za zd zg))))))) (zde (zd8 (zr zdO (zah zbG (za zd zg)) (zah zbG (za zd zg)))) (zd8 (zr zrI (zaR zg) zd)))) (zD zb6) zY) (zy (zlt (zdC (zah zg7 (za zd zg))) zp (zy (zab (zu (za zd (za (zr zaO zd (zr za3 zd zd)) (za zd zg)))) zp) (zbp (zde (zd8 (zoe zd)) (zd8 (zr zdO (zah zbG (za zd zg)) (zr zew (zah zbG (za zd zg)) zm)))) (zD zb6) zY))) (zD zb6))))))),fun xs S R q=>q⟩
theorem zeR(T:Txt mg)(dd:Dds K mg)(xx:Exx K mg):zfv P w K mg base:=by
 exact Df.dN dd.d_law_pen zfT 1 rfl fun f cdv A outer s H E hr=>⟨_,_,(zi (zU (i:=1) zfT.nd rfl (Or.inl rfl) (zt (zmc rfl) (by rfl) T.n_max zqx (zc (pv 0) (zc (zaf zcV zl (pv 0)) zh)))) (zo (zF (zcN (zc (pv 1) (zc (zcO zmf (by rfl) T.n_int ziX (zc (zf1 zp8 (pv 1) (zaf zhq zl zl) (nomark _)) zh)) (zc (zaf zhz (pv 1) zl) zh))))))),(zy (zab (zah zrU (za zd (za (zr zew zm zd) zg))) zp) (zD (zh6 (za zd (za (zah zoU (za (zr zdd zd (zr zj6 zm zm)) zg)) (za (zr zj6 zd zm) zg)))))),fun xs S R q=>q⟩
theorem zbC(T:Txt mg)(dd:Dds K mg)(xx:Exx K mg):zdi P w K mg base:=by
 exact Df.dN dd.d_law_next ze7 0 rfl fun f cdv A outer s H E hr=>⟨_,_,(zi (zU (i:=0) ze7.nd rfl (Or.inl rfl) (zaf zhz (zaf zam (pv 0) zl) zl)) (zo (zF (zaf zhz (zaf zam (zaf zam (zaf zfX (pv 0) (pv 0)) (zaf zfX zl (pv 0))) zl) zl)))),(zy (zab (zr zj6 (zr zaO zd zm) zm) zp) (zD (zr zj6 (zr zaO (zr zaO (zr zjw zd zd) (zr zjw zm zd)) zm) zm))),fun xs S R q=>q⟩
theorem zB(T:Txt mg)(dd:Dds K mg)(xx:Exx K mg)(zbC:zdi P w K mg base):zbI P w K mg base:=by
 exact Df.dN dd.d_law_draw zeY 1 rfl fun f cdv A outer s H E hr=>⟨_,_,(zi (zbo (zag (zfA hr.units) (za0 zap (pv 0) zl (fun _ _=>rfl)) zl (nomark _)) (zi (zU (i:=2) zeY.nd rfl (Or.inl rfl) (zaf zhz (za0 zap (pv 0) zl (fun _ _=>rfl)) (pv 1))) (zi (zlO (zaf zl7 (za0 zap (pv 0) zl (fun _ _=>rfl)) (pv 1)) (zn8 (pv 0) zl ziB)) (zo (zF (pv 2))))) zac) (zi (zlO (zv zbC hr (by decide) (zc (zaf zam (zv zbC hr (by decide) (zc (za0 zap (pv 0) zl (fun _ _=>rfl)) zh)) zl) zh)) (zn8 (pv 0) zl ziB)) (zo (zF (zaf zhz (zaf zl7 (za0 zap (pv 0) zl (fun _ _=>rfl)) zl) (pv 1)))))),(zy (zbp (zd8 (zr zfS (zr za3 zd zm) zm)) (zy (zab (zr zj6 (zr za3 zd zm) zd) zp) (zy (zab (zr zpt (zr za3 zd zm) zd) (zn1 zd zm)) (zD zd))) zY) (zy (zab (zu (za (zr zaO (zu (za (zr za3 zd zm) zg)) zm) zg)) (zn1 zd zm)) (zD (zr zj6 (zr zpt (zr za3 zd zm) zm) zd)))),fun xs S R q=>q⟩
theorem zds(T:Txt mg)(dd:Dds K mg)(xx:Exx K mg)(zB:zbI P w K mg base):zeg P w K mg base:=by
 exact Df.dN dd.d_law_shims zet 1 rfl fun f cdv A outer s H E hr=>⟨_,_,(zi (zU (i:=1) zet.nd rfl (Or.inr rfl) (za0 zap (zcN (zc zl (zc zl (zc zl zh)))) (zv zB hr (by decide) (zc (pv 0) (zc zl zh))) (fun _ _=>rfl))) (zo (zF (zcO zcm (by rfl) T.n_tuple zdV (zc (zkl rfl rfl T.n_sorted rfl T.n_set (zc (zcy (fun _ _ h=>h) rfl (za4 rfl rfl rfl rfl (N:=["k","pen","most"]) (caps:=[none,some 0,some 1]) (by show zcI ["pen","most"] (zk s_law_shims).names _ _ _=true; decide +kernel)) (zfQ rfl T.n_range (zc (zaf zam zl (zv zB hr (by decide) (zc (pv 0) (zc zl zh)))) zh)) (fun _ _ _ _=>(zau (i:=0) (by show List.Nodup (["k","pen","most"]:List Str); decide) rfl (Or.inl rfl))) (fun _ _ _ _=>zea) (fun _ _ _ _=>(zaf zam zl (zv zB hr (by decide) (zc (pv 1) (zc (pv 2) zh)))))) zh)) zh))))),(zy (zab (zr za3 (zdP (za zm (za zm (za zm zg)))) (zai (i:=0) (za zd (za zm zg)))) zp) (zD (zah zf2 (za (zah zjP (za (zd0 (zjc (za (zr zaO zm (zai (i:=0) (za zd (za zm zg)))) zg)) zp zd5 (zr zaO zm (zai (i:=0) (za zd (za zd zg))))) zg)) zg)))),fun xs S R q=>q⟩
theorem zbt(T:Txt mg)(dd:Dds K mg)(xx:Exx K mg)(zB:zbI P w K mg base):zcA P w K mg base:=by
 exact Df.dN dd.d_law_number zdE 1 rfl fun f cdv A outer s H E hr=>⟨_,_,(zi (zU (i:=1) zdE.nd rfl (Or.inl rfl) (zv zB hr (by decide) (zc (pv 0) (zc zl zh)))) (zi (zbo (zag zkP (pv 1) zl (nomark _)) (zo (zF (zaf zcV (zv zB hr (by decide) (zc (pv 0) (zc zl zh))) zl))) zac) (zi (zbo (zag zkP (pv 1) zl (nomark _)) (zo (zF (zaf zcV (zv zB hr (by decide) (zc (pv 0) (zc zl zh))) zl))) zac) (zo (zF (zaf zfX (zaf zcV (zv zB hr (by decide) (zc (pv 0) (zc (zaf zfX zl (zaf zhq zl zl)) zh))) (zaf zhq zl zl)) (zaf zhq zl zl))))))),(zy (zab (zai (i:=0) (za zd (za zm zg))) zp) (zy (zbp (zd8 (zr zdd zd zm)) (zD (zr zew (zai (i:=0) (za zd (za zm zg))) zm)) zY) (zy (zbp (zd8 (zr zdd zd zm)) (zD (zr zew (zai (i:=0) (za zd (za zm zg))) zm)) zY) (zD (zr zjw (zr zew (zai (i:=0) (za zd (za (zr zjw zm (zr zj6 zm zm)) zg))) (zr zj6 zm zm)) (zr zj6 zm zm)))))),fun xs S R q=>q⟩
theorem ze4(T:Txt mg)(dd:Dds K mg)(xx:Exx K mg)(zbt:zcA P w K mg base)(zB:zbI P w K mg base):zfO P w K mg base:=by
 exact Df.dN dd.d_law_way zd2 2 rfl fun f cdv A outer s H E hr=>⟨_,_,(zi (zU (i:=2) zd2.nd rfl (Or.inl rfl) (zv zbt hr (by decide) (zc (pv 0) zh))) (zi (zU (i:=3) zd2.nd rfl (Or.inl rfl) (zaf zam (pv 2) (za0 zap (zcN (zc (zaf zcV (zv zB hr (by decide) (zc (pv 0) (zc zl zh))) zl) (zc (zv zB hr (by decide) (zc (pv 0) (zc zl zh))) (zc (zv zB hr (by decide) (zc (pv 0) (zc (pv 1) zh))) zh)))) (zaf zl7 (zaf zam (zv zB hr (by decide) (zc (pv 0) (zc zl zh))) zl) zl) (fun _ _=>rfl)))) (zo (zF (za5 (zc (pv 2) (zc (za5 (zc (pv 3) (zc (zaf zam (pv 3) (za0 zap (zcN (zc zl (zc zl (zc zl (zc zl (zc zl zh)))))) (zv zB hr (by decide) (zc (pv 0) (zc zl zh))) (fun _ _=>rfl))) zh))) zh))))))),(zy (zab (zai (i:=0) (za zd zg)) zp) (zy (zab (zr zaO zd (zr za3 (zdP (za (zr zew (zai (i:=0) (za zd (za zm zg))) zm) (za (zai (i:=0) (za zd (za zm zg))) (za (zai (i:=0) (za zd (za zd zg))) zg)))) (zr zpt (zr zaO (zai (i:=0) (za zd (za zm zg))) zm) zm))) zp) (zD (zaR (za zd (za (zaR (za zd (za (zr zaO zd (zr za3 (zdP (za zm (za zm (za zm (za zm (za zm zg)))))) (zai (i:=0) (za zd (za zm zg))))) zg))) zg)))))),fun xs S R q=>q⟩
theorem zcf(T:Txt mg)(dd:Dds K mg)(xx:Exx K mg):zdw P w K mg base:=by
 exact DfN.dN dd.d_law_kind zbL 2 rfl fun f cdv A outer s H hr=>⟨_,_,(zi (zU (i:=1) zbL.nd rfl (Or.inl rfl) (zh7 (zaB (zt za2 (by rfl) T.n_isinstance zq (zc (pv 0) (zc (zbQ (v:=.ref 37) rfl xx.m_NoSpan rfl) zh))) (zaB (zt za2 (by rfl) T.n_isinstance zq (zc (pv 0) (zc (zbQ (v:=.ref 49) rfl xx.m_NoPart rfl) zh))) (zaB (zt za2 (by rfl) T.n_isinstance zq (zc (pv 0) (zc (zbQ (v:=.ref 61) rfl xx.m_NoSet rfl) zh))) (zaB (zt za2 (by rfl) T.n_isinstance zq (zc (pv 0) (zc (zbQ (v:=.ref 161) rfl xx.m_NoText rfl) zh))) zk6)))))) (zi (zU (i:=1) zbL.nd rfl (Or.inl rfl) (zaf zam (pv 1) (zh7 (zaB (zt za2 (by rfl) T.n_isinstance zq (zc (pv 0) (zc (zbQ (v:=.ref 73) rfl xx.m_NoRow rfl) zh))) (zaB (zt za2 (by rfl) T.n_isinstance zq (zc (pv 0) (zc (zbQ (v:=.ref 85) rfl xx.m_Unlike rfl) zh))) (zaB (zt za2 (by rfl) T.n_isinstance zq (zc (pv 0) (zc (zbQ (v:=.ref 104) rfl xx.m_NoDrawing rfl) zh))) (zaB (zt za2 (by rfl) T.n_isinstance zq (zc (pv 0) (zc (zbQ (v:=.ref 123) rfl xx.m_NoGap rfl) zh))) zk6))))))) (zi (zU (i:=1) zbL.nd rfl (Or.inl rfl) (zaf zam (pv 1) (zcN (zc (zt za2 (by rfl) T.n_isinstance zq (zc (pv 0) (zc (zbQ (v:=.ref 142) rfl xx.m_NoOffer rfl) zh))) (zc (zt za2 (by rfl) T.n_isinstance zq (zc (pv 0) (zc (zbQ (v:=.ref 180) rfl xx.m_TooGreat rfl) zh))) zh))))) (zi (zbo (PW.pt (zez (zaZ (zV (zt za2 (by rfl) T.n_isinstance zq (zc (pv 0) (zc (zbO rfl T.n_ValueError zgd (v:=.ty "ValueError") rfl) zh))) (fun _=>rfl))) (zdg (zag (zeU hr.units) (znN PySem.F.plainAttrs_list PySem.F.slot_list_count PySem.F.type_list_count zlF (pv 1) (zc zbU zh)) zl (nomark _))))) (zo (zF zcB)) zac) (zi (zU (i:=2) zbL.nd rfl (Or.inl rfl) (zh7 (zaB zcB (zaB zcB (zaB zcB (zaB zcB (zaB zcB (zaB zcB (zaB zcB (zaB zcB (zaB zcB (zaB zcB zk6)))))))))))) (zo (zF (za0 zap (pv 2) (znN PySem.F.plainAttrs_list PySem.F.slot_list_index PySem.F.type_list_index (zk3 hr.units) (pv 1) (zc zbU zh)) (fun _ _=>rfl))))))))),(zy (zab (zdP (za (zah (zcQ xx.ex) (za zd (za zfd zg))) (za (zah (zcQ xx.ex) (za zd (za zfd zg))) (za (zah (zcQ xx.ex) (za zd (za zfd zg))) (za (zah (zcQ xx.ex) (za zd (za zfd zg))) zg))))) zp) (zy (zab (zr zaO zd (zdP (za (zah (zcQ xx.ex) (za zd (za zfd zg))) (za (zah (zcQ xx.ex) (za zd (za zfd zg))) (za (zah (zcQ xx.ex) (za zd (za zfd zg))) (za (zah (zcQ xx.ex) (za zd (za zfd zg))) zg)))))) zp) (zy (zab (zr zaO zd (zdP (za (zah (zcQ xx.ex) (za zd (za zfd zg))) (za (zah (zcQ xx.ex) (za zd (za zfd zg))) zg)))) zp) (zy (zbp (zde (zaG (zav (zah (zcQ xx.ex) (za zd (za zfd zg))))) (zd8 (zr zdO (zof zj4 zd (za zb6 zg)) zm))) (zD zbY) zY) (zy (zab (zdP (za zbY (za zbY (za zbY (za zbY (za zbY (za zbY (za zbY (za zbY (za zbY (za zbY zg))))))))))) zp) (zD (zr za3 zd (zof zmb zd (za zb6 zg))))))))),fun xs S R q=>q⟩
theorem zbF(T:Txt mg)(dd:Dds K mg)(xx:Exx K mg)(zbi:zcY P w K mg base)(zcf:zdw P w K mg base)(zcd:zdp P w K mg base)(zb8:zdk P w K mg base)(za1:zb7 P w K mg base):zcM P w K mg base:=by
 exact Df.dN dd.d_law_tried zes 1 rfl fun f cdv A outer s H E hr=>⟨_,_,(zi (zpe (i:=4) (fun _ _ z=>z) rfl rfl zes.nd rfl rfl rfl xx.m_GaugeError xx.c_GaugeError (zqg (fun _ _ z=>z) (zag (zfA hr.units) (pv 0) zl (nomark _)) (zhL (zpa zcd hr (by decide) (fun _ _ z=>z) (zc (pv 1) (zc (pv 2) (zc (pv 3) zh))))) (zqg (fun _ _ z=>z) (zag (zfA hr.units) (pv 0) zl (nomark _)) (zhL (zpa zb8 hr (by decide) (fun _ _ z=>z) (zc (pv 1) (zc (pv 2) (zc (pv 3) zh))))) (zhL (zpa za1 hr (by decide) (fun _ _ z=>z) (zc (pv 1) (zc (pv 2) (zc (pv 3) (zc zl (zc (zcN zh) zh))))))))) (fun _=>(zi (zbo (PW.pt (zez (zag (zeU hr.units) (zik zcf (hr.suite _) (by decide) (zc (pv 4) zh)) zcB (nomark _)) (zez (zaZ (zV (zik zbi (hr.suite _) (by decide) (zc (zmR (pv 4) rfl) zh)) (fun _=>rfl))) (zdg (zaZ (zV (zik zbi (hr.suite _) (by decide) (zc (zmR (pv 4) rfl) zh)) (fun _=>rfl))))))) (zo (zF zjz)) zac) (zo (zF (za5 (zc (zmR (pv 4) rfl) (zc (zmR (pv 4) rfl) zh)))))))) (zo (zF (za5 zh)))),(zy (zi9 (zd8 (zr zfS zd zm)) (zhW xx.ex rfl zh0 (fun _ _ _ _=>rfl) (za zd (za zd (za zd zg))) (zy (zbp (zde (zd8 (zr zdO (zf6 rfl (za zd zg)) zbY)) (zde (zaG (zav (zu (za (zeu xx.a_many zd) zg)))) (zaG (zav (zu (za (zeu xx.a_most zd) zg)))))) (zD zls) zY) (zD (zaR (za (zeu xx.a_many zd) (za (zeu xx.a_most zd) zg)))))) (zi9 (zd8 (zr zfS zd zm)) (zhW xx.ex rfl zh0 (fun _ _ _ _=>rfl) (za zd (za zd (za zd zg))) (zy (zbp (zde (zd8 (zr zdO (zf6 rfl (za zd zg)) zbY)) (zde (zaG (zav (zu (za (zeu xx.a_many zd) zg)))) (zaG (zav (zu (za (zeu xx.a_most zd) zg)))))) (zD zls) zY) (zD (zaR (za (zeu xx.a_many zd) (za (zeu xx.a_most zd) zg)))))) (zhW xx.ex rfl zh0 (fun _ _ _ _=>rfl) (za zd (za zd (za zd (za zm (za (zdP zg) zg))))) (zy (zbp (zde (zd8 (zr zdO (zf6 rfl (za zd zg)) zbY)) (zde (zaG (zav (zu (za (zeu xx.a_many zd) zg)))) (zaG (zav (zu (za (zeu xx.a_most zd) zg)))))) (zD zls) zY) (zD (zaR (za (zeu xx.a_many zd) (za (zeu xx.a_most zd) zg)))))))) (zD (zaR zg))),fun xs S R q=>q⟩
theorem za6(T:Txt mg)(dd:Dds K mg)(xx:Exx K mg)(zbF:zcM P w K mg base):zdh P w K mg base:=by
 exact Df.dN dd.d_law_refused zb4 1 rfl fun f cdv A outer s H E hr=>⟨_,_,(zi (zU (i:=3) zb4.nd rfl (Or.inr rfl) (za5 zh)) (zi (zbo (zag zmL (zaf zcV (za0 zap (pv 2) zl (fun _ _=>rfl)) (pv 1)) zl (nomark _)) (zo (zU (i:=3) zb4.nd rfl (Or.inr rfl) (za5 (zc (zaf zcV (za0 zap (pv 2) zl (fun _ _=>rfl)) (pv 1)) (zc zl zh))))) zac) (zo (zF (zt (zdS rfl) (by rfl) T.n_all zjp (zc (zcy (fun _ _ h=>h) rfl (za4 rfl rfl rfl rfl (N:=["way","due","shims","number","span"]) (caps:=[none,some 3,some 0,some 1,some 2]) (by show zcI ["shims","number","span","due"] (zk s_law_refused).names _ _ _=true; decide +kernel)) (zfQ rfl T.n_range (zc zl zh)) (fun _ _ _ _=>(zau (i:=0) (by show List.Nodup (["way","due","shims","number","span"]:List Str); decide) rfl (Or.inl rfl))) (fun _ _ _ _=>zea) (fun _ _ _ _=>(zf1 (zfA hr.units) (zv zbF hr (by decide) (zc (pv 0) (zc (pv 2) (zc (pv 3) (zc (pv 4) zh))))) (pv 1) (nomark _)))) zh)))))),(zy (zab (zaR zg) zp) (zy (zbp (zd8 (zr zdd (zr zew (zr za3 zd zm) zd) zm)) (zab (zaR (za (zr zew (zr za3 zd zm) zd) (za zm zg))) zp) zY) (zD (zah zjB (za (zd0 (zjc (za zm zg)) zp zd5 (zr zfS (zu (za zd (za zd (za zd (za zd zg))))) zd)) zg))))),fun xs S R q=>q⟩
theorem ok_law{f:Addr}{fd:FuncData}(F:Fun K "law" "law" s_law f fd)(T:Txt mg)(dd:Dds K mg)(xx:Exx K mg):FnOk P w K mg base CX0 8 f fd ["script"] (sp1 (zrw K)):=by
 have zcv:=zcv (P:=P) (w:=w) (base:=base) T dd;have zaI:zb3 P w K mg base:=zaI T dd xx ;have zaJ:zb0 P w K mg base:=zaJ T dd xx ;have zS:zaY P w K mg base:=zS T dd xx ;have zj:zJ P w K mg base:=zj T dd xx ;have zae:zbc P w K mg base:=zae T dd xx ;have zP:zaF P w K mg base:=zP T dd xx zS zj zae zaI;have zO:zaE P w K mg base:=zO T dd xx zaJ zS zj zae;have zcd:zdp P w K mg base:=zcd T dd xx zj zP;have zaX:zdu P w K mg base:=zaX T dd xx zO zj;have zaq:zbA P w K mg base:=zaq T dd xx ;have zb8:zdk P w K mg base:=zb8 T dd xx zaq zj zP;have zb9:zdj P w K mg base:=zb9 T dd xx zO zaq zj;have zcc:zdv P w K mg base:=zcc T dd xx ;have zbs:zdb P w K mg base:=zbs T dd xx zcc;have za1:zb7 P w K mg base:=za1 T dd xx zS zj zbs zaq zae zaI;have za7:zb5 P w K mg base:=za7 T dd xx zaJ zS zj zbs zaq zae;have zbi:zcY P w K mg base:=zbi T dd xx ;have zbH:zcW P w K mg base:=zbH T dd xx ;have zat:za8 P w K mg base:=zat T dd xx zbH;have zcs:zel P w K mg base:=zcs T dd xx zaX zb9 za7 zat;have zeR:zfv P w K mg base:=zeR T dd xx ;have zbC:zdi P w K mg base:=zbC T dd xx ;have zB:zbI P w K mg base:=zB T dd xx zbC;have zds:zeg P w K mg base:=zds T dd xx zB;have zbt:zcA P w K mg base:=zbt T dd xx zB;have ze4:zfO P w K mg base:=ze4 T dd xx zbt zB;have zcf:zdw P w K mg base:=zcf T dd xx ;have zbF:zcM P w K mg base:=zbF T dd xx zbi zcf zcd zb8 za1;have za6:zdh P w K mg base:=za6 T dd xx zbF;refine F.ok1 zdL (fun v=>[some v,none,none,none,none,none,none,none,none]) (fun _=>rfl) fun cdv A outer s H v Q E hr h=>?_;obtain⟨a,ns,rfl,hS,hlen,q⟩:=h;refine⟨_,(zi (zbo (zaZ (zV (zv zcs hr (by decide) (zc (za5 (zc zl zh)) (zc zl (zc (za5 (zc zl (zc zl zh))) zh)))) (fun _=>rfl))) (zo (zF zbU)) zac) (zi (zbo (PW.pt (zez (zaZ (zV (zv za6 hr (by decide) (zc (za5 (zc zl zh)) (zc zl (zc (za5 (zc zl (zc zl zh))) zh)))) (fun _=>rfl))) (zdg (zaZ (zV (zv za6 hr (by decide) (zc (za5 (zc zl zh)) (zc zl (zc (za5 (zc zl (zc zl zh))) zh)))) (fun _=>rfl)))))) (zo (zF zbU)) zac) (zi (zfH PassesOwn.never rfl (zpD (zaf zom (zcN (zc (zqU zcv hr (by decide) (pv 0) zl) zh)) (znb zpg (pv 0) (zk1 zl) (zk1 zl)))) (zau (i:=1) zdL.nd rfl (Or.inl rfl)) (zi (zU (i:=2) zdL.nd rfl (Or.inl rfl) (zv zeR hr (by decide) (zc (pv 1) zh))) (zi (zU (i:=3) zdL.nd rfl (Or.inl rfl) (zv zds hr (by decide) (zc (pv 2) zh))) (zi (zlO (zv ze4 hr (by decide) (zc (pv 2) (zc zl zh))) (ziI (n:=2) rfl (zbV (zau (i:=4) zdL.nd rfl (Or.inl rfl)) (zbV (zau (i:=5) zdL.nd rfl (Or.inl rfl)) zga)))) (zi (zbo (zaZ (zV (zv zcs hr (by decide) (zc (pv 3) (zc (pv 4) (zc (pv 5) zh)))) (fun _=>rfl))) (zo (zF zbU)) zac) (zi (zU (i:=6) zdL.nd rfl (Or.inl rfl) (zv zaX hr (by decide) (zc (pv 3) (zc (pv 4) (zc (pv 5) zh))))) (zi (zU (i:=7) zdL.nd rfl (Or.inl rfl) (zcO zcm (by rfl) T.n_tuple zdV (zc (zhR rfl rfl T.n_sorted rfl T.n_set (zc (zaf zam (pv 3) (za5 (zc (zaf zam zl (zv zB hr (by decide) (zc (pv 2) (zc zl zh)))) zh))) zh)) zh))) (zi (zbo (PW.pt (zjn (zag znj (pv 6) zjz (nomark _)) (zjn (zag zkP (zt zaL (by rfl) T.n_len zcD (zc (pv 7) zh)) zl (nomark _)) (ziq (zag zmL (zt zaL (by rfl) T.n_len zcD (zc (zv zaX hr (by decide) (zc (pv 7) (zc (pv 4) (zc (pv 5) zh)))) zh)) (zt zaL (by rfl) T.n_len zcD (zc (pv 6) zh)) (nomark _)))))) (zo (zF zbU)) zac) (zi (zU (i:=8) zdL.nd rfl (Or.inl rfl) (za0 zap (zcN (zc zl (zc zl (zc (zaf zam zl (zv zB hr (by decide) (zc (pv 2) (zc (zaf zhq zl zl) zh)))) zh)))) (zv zB hr (by decide) (zc (pv 2) (zc zl zh))) (fun _ _=>rfl))) (zo (zbo (zaZ (zV (zv za6 hr (by decide) (zc (za5 (zc zl (zc zl zh))) (zc (pv 4) (zc (za5 (zc (zaf zcV (zaf zam (pv 4) (pv 8)) (zv zB hr (by decide) (zc (pv 2) (zc zl zh)))) (zc (zaf zam (pv 4) (pv 8)) zh))) zh)))) (fun _=>rfl))) (zo (zF zbU)) zac))))))))))) (zo (zF zbU))))),?_⟩;refine zpl (a:=a) (m:=8) (dt:=zh2) (zy (zbp (zaG (zav (zu (za (zaR (za zm zg)) (za zm (za (zaR (za zm (za zm zg))) zg)))))) (zD zb6) zY) (zbp (zde (zaG (zav (zu (za (zaR (za zm zg)) (za zm (za (zaR (za zm (za zm zg))) zg)))))) (zaG (zav (zu (za (zaR (za zm zg)) (za zm (za (zaR (za zm (za zm zg))) zg))))))) (zD zb6) zY)) rfl rfl (zjS a) fun σ1 H1 z0 z1 s1=>?_;exact zpw (m:=8) (db:=zoC) (zy (zab (zu (za zd zg)) zp) (zy (zab (zai (i:=0) (za zd zg)) zp) (zy (zab (zai (i:=0) (za zd (za zm zg))) (ziF (zbX zp (zbX zp zgh)))) (zy (zbp (zaG (zav (zu (za zd (za zd (za zd zg)))))) (zD zb6) zY) (zy (zab (zu (za zd (za zd (za zd zg)))) zp) (zy (zab (zah zf2 (za (zah zih (za (zr zaO zd (zaR (za (zr zaO zm (zai (i:=0) (za zd (za zm zg)))) zg))) zg)) zg)) zp) (zy (zbp (ziP (zd8 (zo9 zd)) (ziP (zd8 (zr zdd (zah zbG (za zd zg)) zm)) (zd8 (zr zdd (zah zbG (za (zu (za zd (za zd (za zd zg)))) zg)) (zah zbG (za zd zg)))))) (zD zb6) zY) (zy (zab (zr za3 (zdP (za zm (za zm (za (zr zaO zm (zai (i:=0) (za zd (za (zr zj6 zm zm) zg)))) zg)))) (zai (i:=0) (za zd (za zm zg)))) zp) (zbp (zaG (zav (zu (za (zaR (za zm (za zm zg))) (za zd (za (zaR (za (zr zew (zr zaO zd zd) (zai (i:=0) (za zd (za zm zg)))) (za (zr zaO zd zd) zg))) zg)))))) (zD zb6) zY))))))))) z0 z1 (s1.seq hS) hlen (fun n=>zh9 a n) (by decide) fun _ H2 _=>q H2
end
end My
namespace PySem.W.Fast
def tw14923718832961044624:Unit:=()
def tw10405267557428405844:Unit:=()
def tw16947517588341143883:Unit:=()
def tw11288202358370870400:Unit:=()
def tw4719466690555330241:Unit:=()
def tw9682668570686912006:Unit:=()
def tw7105025920224853568:Unit:=()
def tw1560210966084752804:Unit:=()
def tw12337103854659785694:Unit:=()
def tw9947804561031699706:Unit:=()
def tw12394025805314614710:Unit:=()
def tw9031500512798607378:Unit:=()
def tw5020542297734287094:Unit:=()
def tw5229510750048051421:Unit:=()
def tw2365555406840799247:Unit:=()
def tw17609972434251272991:Unit:=()
def tw3025493430951484037:Unit:=()
def tw14012145441187281519:Unit:=()
def tw5030594396430976928:Unit:=()
def tw860901679772791987:Unit:=()
def tw2218317869481588953:Unit:=()
def tw16484716746250467072:Unit:=()
def tw10955174973801817043:Unit:=()
def tw17672604354278204791:Unit:=()
def tw1470651923002595248:Unit:=()
def tw195223236240956936:Unit:=()
def tw12077501380291509919:Unit:=()
def tw15656054111359560407:Unit:=()
def tw11942391590993123661:Unit:=()
def tw8559901096925122954:Unit:=()
def tw878138324953133436:Unit:=()
def tw9274441191360011572:Unit:=()
def tw1782883328880783465:Unit:=()
def tw9160635601249828018:Unit:=()
def tw16381514200679065097:Unit:=()
def tw16995452195541435006:Unit:=()
def tw1959386535863667245:Unit:=()
def tw17545022685694269964:Unit:=()
def tw6974400415470262624:Unit:=()
def tw15192864319568809506:Unit:=()
def tw17335211142402667202:Unit:=()
def tw5276909188239112877:Unit:=()
def tw15490576581809328340:Unit:=()
def tw16556213494720723599:Unit:=()
def tw9723987815810143201:Unit:=()
def tw1078140565680039967:Unit:=()
def tw4669812763812685529:Unit:=()
def tw11135521556668812989:Unit:=()
def tw2816049838605688510:Unit:=()
def tw7390318195169246939:Unit:=()
def tw4019880009225863309:Unit:=()
def tw17753863622621193108:Unit:=()
def tw317028764480119156:Unit:=()
def tw10157133095573011894:Unit:=()
def tw14829640724305626100:Unit:=()
def tw9587917270921591950:Unit:=()
def tw10601673313830992817:Unit:=()
def tw1950496088018649654:Unit:=()
def tw13910936178969018577:Unit:=()
def tw3673878188343281064:Unit:=()
def tw2120723522013386024:Unit:=()
def tw1367924215868050215:Unit:=()
def tw6210893723829215692:Unit:=()
def tw8596652882654529255:Unit:=()
def tw2069205798650220008:Unit:=()
def tw10616020194987007906:Unit:=()
def tw2563710097592540853:Unit:=()
def tw16840609134376859259:Unit:=()
def tw18200673531307489366:Unit:=()
def tw17298254084150527332:Unit:=()
def tw2722682752048384006:Unit:=()
def tw10228422073398498775:Unit:=()
def tw10873169795339388276:Unit:=()
def tw17985044374652714724:Unit:=()
def tw12056422190634810472:Unit:=()
def tw9333489895201456207:Unit:=()
def tw14098904295479260941:Unit:=()
def tw3758416597155360333:Unit:=()
def tw14922822417445098342:Unit:=()
def tw10294089889537084182:Unit:=()
def tw14687040930389266014:Unit:=()
def tw14234348281921872415:Unit:=()
def tw13387852369293762346:Unit:=()
def tw13653050350171463307:Unit:=()
def tw7306312140652182535:Unit:=()
def tw4485635110738891158:Unit:=()
def tw506158636717487857:Unit:=()
def tw11496437162840054159:Unit:=()
def tw14052773442615467779:Unit:=()
def tw4771318843972867034:Unit:=()
def tw16932477868454681933:Unit:=()
def tw13952270809110629147:Unit:=()
def tw1162868330134609342:Unit:=()
def tw10926001684097050440:Unit:=()
def tw14887178145189592113:Unit:=()
def tw5439165302555299380:Unit:=()
def tw6189368275987548375:Unit:=()
def tw2114734419432022395:Unit:=()
def tw10059066622830395892:Unit:=()
def tw3174485302490140928:Unit:=()
def tw3839488074829888807:Unit:=()
def tw15043078919595996270:Unit:=()
def tw6568690324538766063:Unit:=()
def tw10232704012511999558:Unit:=()
def tw8556719910392057288:Unit:=()
def tw3364219388481928495:Unit:=()
def tw7036707987705131517:Unit:=()
def tw17061689277495776066:Unit:=()
def tw9587890442104267273:Unit:=()
def tw17804763694816237654:Unit:=()
def tw7158546388493624854:Unit:=()
def tw18039354788135619858:Unit:=()
def tw5493302837795019522:Unit:=()
def tw8379829613398429626:Unit:=()
def tw10838283558710441187:Unit:=()
def tw6060046687645800888:Unit:=()
def tw17744196453333638478:Unit:=()
def tw4923093899299182803:Unit:=()
def tw17267221778897875575:Unit:=()
def tw5544294243237875903:Unit:=()
def tw73784723269115601:Unit:=()
def tw11793857790774373645:Unit:=()
def tw15542397881300634958:Unit:=()
def tw14743579143360076693:Unit:=()
def tw17236490807633376839:Unit:=()
def tw4965690572807442523:Unit:=()
def tw307671143322894215:Unit:=()
def tw12101810881331128301:Unit:=()
def tw3089507965388549535:Unit:=()
def tw18226194697109888504:Unit:=()
def tw2965690980344204090:Unit:=()
def tw15160004796410839100:Unit:=()
def tw10530470483151660221:Unit:=()
def tw1915640195776308838:Unit:=()
def tw13456488123633607634:Unit:=()
def tw13113889937710079511:Unit:=()
def tw2864131672046451437:Unit:=()
def tw8084728360935508904:Unit:=()
def tw492552677449626811:Unit:=()
def tw5776332102057734863:Unit:=()
def tw8133440352766303912:Unit:=()
def tw8598418690159835023:Unit:=()
def tw10201396288123800987:Unit:=()
def tw15388636779639588948:Unit:=()
def tw11301589895460863778:Unit:=()
def tw1080908919463954589:Unit:=()
end PySem.W.Fast
open PySem PySem.W PyProof.Rows L2
set_option maxRecDepth 100000 in
set_option maxHeartbeats 0 in
theorem PySem.Challenge.cw_gaugewright_k65_whole_fewest_shims_holds : PySem.Challenge.rw_gaugewright_k65_whole_fewest_shims.Holds := by
 w_on; o_law; k_head; (case hw=>w_witness2)
 k_fill
 refine L2.walk_law (l := PySem.Challenge.rw_gaugewright_k65_whole_fewest_shims) (k := 8) rfl rfl ⟨rfl, by decide, by decide⟩ (fun w h Y => PySem.W.kIn_of Y) ?F
 case F =>
  intro w mg fa h KX G hmg;have d_law_cell_at:Dd (L2.KOf KX) mg "_law_cell_at" My.s_law_cell_at ["script","k"]:=by
   dsimp only [L2.KOf];refine' Dd.mk' KX G ?a ?l ?c ?k ?b
   (case a=>k_is); (case l=>k_is); (case c=>k_is); (case k=>k_is); (case b=>intro _ _ _ _ _ _ us hl; obtain⟨_,_,rfl⟩:=L2.len2 hl; rfl)
  have d_most_rise:Dd (L2.KOf KX) mg "most_rise" My.s_most_rise ["number","span"]:=by
   dsimp only [L2.KOf];refine' Dd.mk' KX G ?a ?l ?c ?k ?b
   (case a=>k_is); (case l=>k_is); (case c=>k_is); (case k=>k_is); (case b=>intro _ _ _ _ _ _ us hl; obtain⟨_,_,rfl⟩:=L2.len2 hl; rfl)
  have d_first_row:Dd (L2.KOf KX) mg "first_row" My.s_first_row ["most"]:=by
   dsimp only [L2.KOf];refine' Dd.mk' KX G ?a ?l ?c ?k ?b
   (case a=>k_is); (case l=>k_is); (case c=>k_is); (case k=>k_is); (case b=>intro _ _ _ _ _ _ us hl; obtain⟨_,rfl⟩:=L2.len1 hl; rfl)
  have d_stacks_that_do:Dd (L2.KOf KX) mg "stacks_that_do" My.s_stacks_that_do ["row","number","span"]:=by
   dsimp only [L2.KOf];refine' Dd.mk' KX G ?a ?l ?c ?k ?b
   (case a=>k_is); (case l=>k_is); (case c=>k_is); (case k=>k_is); (case b=>intro _ _ _ _ _ _ us hl; obtain⟨_,_,_,rfl⟩:=L2.len3 hl; rfl)
  have d_next_row:Dd (L2.KOf KX) mg "next_row" My.s_next_row ["shims","row","most"]:=by
   dsimp only [L2.KOf];refine' Dd.mk' KX G ?a ?l ?c ?k ?b
   (case a=>k_is); (case l=>k_is); (case c=>k_is); (case k=>k_is); (case b=>intro _ _ _ _ _ _ us hl; obtain⟨_,_,_,rfl⟩:=L2.len3 hl; rfl)
  have d_rows_to_the_end:Dd (L2.KOf KX) mg "rows_to_the_end" My.s_rows_to_the_end ["shims","number","span"]:=by
   dsimp only [L2.KOf];refine' Dd.mk' KX G ?a ?l ?c ?k ?b
   (case a=>k_is); (case l=>k_is); (case c=>k_is); (case k=>k_is); (case b=>intro _ _ _ _ _ _ us hl; obtain⟨_,_,_,rfl⟩:=L2.len3 hl; rfl)
  have d_stack_of:Dd (L2.KOf KX) mg "stack_of" My.s_stack_of ["shims","number","span"]:=by
   dsimp only [L2.KOf];refine' Dd.mk' KX G ?a ?l ?c ?k ?b
   (case a=>k_is); (case l=>k_is); (case c=>k_is); (case k=>k_is); (case b=>intro _ _ _ _ _ _ us hl; obtain⟨_,_,_,rfl⟩:=L2.len3 hl; rfl)
  have d_sums_of:Dd (L2.KOf KX) mg "sums_of" My.s_sums_of ["row"]:=by
   dsimp only [L2.KOf];refine' Dd.mk' KX G ?a ?l ?c ?k ?b
   (case a=>k_is); (case l=>k_is); (case c=>k_is); (case k=>k_is); (case b=>intro _ _ _ _ _ _ us hl; obtain⟨_,rfl⟩:=L2.len1 hl; rfl)
  have d_table_of:Dd (L2.KOf KX) mg "table_of" My.s_table_of ["shims","number","span"]:=by
   dsimp only [L2.KOf];refine' Dd.mk' KX G ?a ?l ?c ?k ?b
   (case a=>k_is); (case l=>k_is); (case c=>k_is); (case k=>k_is); (case b=>intro _ _ _ _ _ _ us hl; obtain⟨_,_,_,rfl⟩:=L2.len3 hl; rfl)
  have d_is_whole:Dd (L2.KOf KX) mg "is_whole" My.s_is_whole ["thing"]:=by
   dsimp only [L2.KOf];refine' Dd.mk' KX G ?a ?l ?c ?k ?b
   (case a=>k_is); (case l=>k_is); (case c=>k_is); (case k=>k_is); (case b=>intro _ _ _ _ _ _ us hl; obtain⟨_,rfl⟩:=L2.len1 hl; rfl)
  have d_is_same:Dd (L2.KOf KX) mg "is_same" My.s_is_same ["thing","numbers"]:=by
   dsimp only [L2.KOf];refine' Dd.mk' KX G ?a ?l ?c ?k ?b
   (case a=>k_is); (case l=>k_is); (case c=>k_is); (case k=>k_is); (case b=>intro _ _ _ _ _ _ us hl; obtain⟨_,_,rfl⟩:=L2.len2 hl; rfl)
  have d_table_holds:Dd (L2.KOf KX) mg "table_holds" My.s_table_holds ["shims","number","span","many","thing"]:=by
   dsimp only [L2.KOf];refine' Dd.mk' KX G ?a ?l ?c ?k ?b
   (case a=>k_is); (case l=>k_is); (case c=>k_is); (case k=>k_is); (case b=>intro _ _ _ _ _ _ us hl; obtain⟨_,_,_,_,_,rfl⟩:=L2.len5 hl; rfl)
  have d_law_whole:Dd (L2.KOf KX) mg "_law_whole" My.s_law_whole ["found"]:=by
   dsimp only [L2.KOf];refine' Dd.mk' KX G ?a ?l ?c ?k ?b
   (case a=>k_is); (case l=>k_is); (case c=>k_is); (case k=>k_is); (case b=>intro _ _ _ _ _ _ us hl; obtain⟨_,rfl⟩:=L2.len1 hl; rfl)
  have d_law_stack_right:Dd (L2.KOf KX) mg "_law_stack_right" My.s_law_stack_right ["shims","number","span","stack"]:=by
   dsimp only [L2.KOf];refine' Dd.mk' KX G ?a ?l ?c ?k ?b
   (case a=>k_is); (case l=>k_is); (case c=>k_is); (case k=>k_is); (case b=>intro _ _ _ _ _ _ us hl; obtain⟨_,_,_,_,rfl⟩:=L2.len4 hl; rfl)
  have d_law_right:Dd (L2.KOf KX) mg "_law_right" My.s_law_right ["shims","number","span"]:=by
   dsimp only [L2.KOf];refine' Dd.mk' KX G ?a ?l ?c ?k ?b
   (case a=>k_is); (case l=>k_is); (case c=>k_is); (case k=>k_is); (case b=>intro _ _ _ _ _ _ us hl; obtain⟨_,_,_,rfl⟩:=L2.len3 hl; rfl)
  have d_law_pen:Dd (L2.KOf KX) mg "_law_pen" My.s_law_pen ["cell"]:=by
   dsimp only [L2.KOf];refine' Dd.mk' KX G ?a ?l ?c ?k ?b
   (case a=>k_is); (case l=>k_is); (case c=>k_is); (case k=>k_is); (case b=>intro _ _ _ _ _ _ us hl; obtain⟨_,rfl⟩:=L2.len1 hl; rfl)
  have d_law_next:Dd (L2.KOf KX) mg "_law_next" My.s_law_next ["seed"]:=by
   dsimp only [L2.KOf];refine' Dd.mk' KX G ?a ?l ?c ?k ?b
   (case a=>k_is); (case l=>k_is); (case c=>k_is); (case k=>k_is); (case b=>intro _ _ _ _ _ _ us hl; obtain⟨_,rfl⟩:=L2.len1 hl; rfl)
  have d_law_draw:Dd (L2.KOf KX) mg "_law_draw" My.s_law_draw ["pen","many"]:=by
   dsimp only [L2.KOf];refine' Dd.mk' KX G ?a ?l ?c ?k ?b
   (case a=>k_is); (case l=>k_is); (case c=>k_is); (case k=>k_is); (case b=>intro _ _ _ _ _ _ us hl; obtain⟨_,_,rfl⟩:=L2.len2 hl; rfl)
  have d_law_shims:Dd (L2.KOf KX) mg "_law_shims" My.s_law_shims ["pen"]:=by
   dsimp only [L2.KOf];refine' Dd.mk' KX G ?a ?l ?c ?k ?b
   (case a=>k_is); (case l=>k_is); (case c=>k_is); (case k=>k_is); (case b=>intro _ _ _ _ _ _ us hl; obtain⟨_,rfl⟩:=L2.len1 hl; rfl)
  have d_law_number:Dd (L2.KOf KX) mg "_law_number" My.s_law_number ["pen"]:=by
   dsimp only [L2.KOf];refine' Dd.mk' KX G ?a ?l ?c ?k ?b
   (case a=>k_is); (case l=>k_is); (case c=>k_is); (case k=>k_is); (case b=>intro _ _ _ _ _ _ us hl; obtain⟨_,rfl⟩:=L2.len1 hl; rfl)
  have d_law_way:Dd (L2.KOf KX) mg "_law_way" My.s_law_way ["pen","far"]:=by
   dsimp only [L2.KOf];refine' Dd.mk' KX G ?a ?l ?c ?k ?b
   (case a=>k_is); (case l=>k_is); (case c=>k_is); (case k=>k_is); (case b=>intro _ _ _ _ _ _ us hl; obtain⟨_,_,rfl⟩:=L2.len2 hl; rfl)
  have d_law_kind:Dd (L2.KOf KX) mg "_law_kind" My.s_law_kind ["e"]:=by
   dsimp only [L2.KOf];refine' Dd.mk' KX G ?a ?l ?c ?k ?b
   (case a=>k_is); (case l=>k_is); (case c=>k_is); (case k=>k_is); (case b=>intro _ _ _ _ _ _ us hl; obtain⟨_,rfl⟩:=L2.len1 hl; rfl)
  have d_law_tried:Dd (L2.KOf KX) mg "_law_tried" My.s_law_tried ["way","shims","number","span"]:=by
   dsimp only [L2.KOf];refine' Dd.mk' KX G ?a ?l ?c ?k ?b
   (case a=>k_is); (case l=>k_is); (case c=>k_is); (case k=>k_is); (case b=>intro _ _ _ _ _ _ us hl; obtain⟨_,_,_,_,rfl⟩:=L2.len4 hl; rfl)
  have d_law_refused:Dd (L2.KOf KX) mg "_law_refused" My.s_law_refused ["shims","number","span"]:=by
   dsimp only [L2.KOf];refine' Dd.mk' KX G ?a ?l ?c ?k ?b
   (case a=>k_is); (case l=>k_is); (case c=>k_is); (case k=>k_is); (case b=>intro _ _ _ _ _ _ us hl; obtain⟨_,_,_,rfl⟩:=L2.len3 hl; rfl)
  have d_law:Dd (L2.KOf KX) mg "law" My.s_law ["script"]:=by
   dsimp only [L2.KOf];refine' Dd.mk' KX G ?a ?l ?c ?k ?b
   (case a=>k_is); (case l=>k_is); (case c=>k_is); (case k=>k_is); (case b=>intro _ _ _ _ _ _ us hl; obtain⟨_,rfl⟩:=L2.len1 hl; rfl)
  have g15:∃ t,mg "MOST_RISE" = some (.int 200 t):=by
   apply Exists.intro;apply PySem.W.mg_of KX G
   k_is
  have T:My.Txt mg:=by
   refine' ⟨PySem.W.mg_none_of KX G ?z0,PySem.W.mg_none_of KX G ?z1,PySem.W.mg_none_of KX G ?z2,PySem.W.mg_none_of KX G ?z3,PySem.W.mg_none_of KX G ?z4,PySem.W.mg_none_of KX G ?z5,PySem.W.mg_none_of KX G ?z6,PySem.W.mg_none_of KX G ?z7,PySem.W.mg_none_of KX G ?z8,PySem.W.mg_none_of KX G ?z9,PySem.W.mg_none_of KX G ?z10,PySem.W.mg_none_of KX G ?z11,PySem.W.mg_none_of KX G ?z12,PySem.W.mg_none_of KX G ?z13,PySem.W.mg_none_of KX G ?z14,g15⟩
   (case z0=>k_is); (case z1=>k_is); (case z2=>k_is); (case z3=>k_is); (case z4=>k_is); (case z5=>k_is); (case z6=>k_is); (case z7=>k_is); (case z8=>k_is); (case z9=>k_is); (case z10=>k_is); (case z11=>k_is); (case z12=>k_is); (case z13=>k_is); (case z14=>k_is)
  have m24:mg "GaugeError" = some (.ref 24):=by
   apply PySem.W.mg_of KX G
   k_is
  have c24:L2.ExCls (L2.KOf KX) 24 none:=by
   apply L2.exc_of_in;dsimp only [L2.KOf,L2.veB]
   k_exc
  have m37:mg "NoSpan" = some (.ref 37):=by
   apply PySem.W.mg_of KX G
   k_is
  have k37:L2.ExK (L2.KOf KX) 37:=by
   dsimp only [L2.KOf];refine' L2.ExK.mk' ?a ?b ?c ?d ?e ?f
   (case a=>k_is); (case b=>k_is); (case c=>k_is); (case d=>k_is); (case e=>k_is); (case f=>rfl)
  have c37:L2.ExCls (L2.KOf KX) 37 none:=by
   apply L2.exc_of_in;dsimp only [L2.KOf,L2.veB]
   k_exc
  have m49:mg "NoPart" = some (.ref 49):=by
   apply PySem.W.mg_of KX G
   k_is
  have k49:L2.ExK (L2.KOf KX) 49:=by
   dsimp only [L2.KOf];refine' L2.ExK.mk' ?a ?b ?c ?d ?e ?f
   (case a=>k_is); (case b=>k_is); (case c=>k_is); (case d=>k_is); (case e=>k_is); (case f=>rfl)
  have c49:L2.ExCls (L2.KOf KX) 49 none:=by
   apply L2.exc_of_in;dsimp only [L2.KOf,L2.veB]
   k_exc
  have m61:mg "NoSet" = some (.ref 61):=by
   apply PySem.W.mg_of KX G
   k_is
  have k61:L2.ExK (L2.KOf KX) 61:=by
   dsimp only [L2.KOf];refine' L2.ExK.mk' ?a ?b ?c ?d ?e ?f
   (case a=>k_is); (case b=>k_is); (case c=>k_is); (case d=>k_is); (case e=>k_is); (case f=>rfl)
  have c61:L2.ExCls (L2.KOf KX) 61 none:=by
   apply L2.exc_of_in;dsimp only [L2.KOf,L2.veB]
   k_exc
  have m73:mg "NoRow" = some (.ref 73):=by
   apply PySem.W.mg_of KX G
   k_is
  have k73:L2.ExK (L2.KOf KX) 73:=by
   dsimp only [L2.KOf];refine' L2.ExK.mk' ?a ?b ?c ?d ?e ?f
   (case a=>k_is); (case b=>k_is); (case c=>k_is); (case d=>k_is); (case e=>k_is); (case f=>rfl)
  have c73:L2.ExCls (L2.KOf KX) 73 none:=by
   apply L2.exc_of_in;dsimp only [L2.KOf,L2.veB]
   k_exc
  have m85:mg "Unlike" = some (.ref 85):=by
   apply PySem.W.mg_of KX G
   k_is
  have k85:L2.ExK (L2.KOf KX) 85:=by
   dsimp only [L2.KOf];refine' L2.ExK.mk' ?a ?b ?c ?d ?e ?f
   (case a=>k_is); (case b=>k_is); (case c=>k_is); (case d=>k_is); (case e=>k_is); (case f=>rfl)
  have c85:L2.ExCls (L2.KOf KX) 85 none:=by
   apply L2.exc_of_in;dsimp only [L2.KOf,L2.veB]
   k_exc
  have m104:mg "NoDrawing" = some (.ref 104):=by
   apply PySem.W.mg_of KX G
   k_is
  have k104:L2.ExK (L2.KOf KX) 104:=by
   dsimp only [L2.KOf];refine' L2.ExK.mk' ?a ?b ?c ?d ?e ?f
   (case a=>k_is); (case b=>k_is); (case c=>k_is); (case d=>k_is); (case e=>k_is); (case f=>rfl)
  have m123:mg "NoGap" = some (.ref 123):=by
   apply PySem.W.mg_of KX G
   k_is
  have k123:L2.ExK (L2.KOf KX) 123:=by
   dsimp only [L2.KOf];refine' L2.ExK.mk' ?a ?b ?c ?d ?e ?f
   (case a=>k_is); (case b=>k_is); (case c=>k_is); (case d=>k_is); (case e=>k_is); (case f=>rfl)
  have m142:mg "NoOffer" = some (.ref 142):=by
   apply PySem.W.mg_of KX G
   k_is
  have k142:L2.ExK (L2.KOf KX) 142:=by
   dsimp only [L2.KOf];refine' L2.ExK.mk' ?a ?b ?c ?d ?e ?f
   (case a=>k_is); (case b=>k_is); (case c=>k_is); (case d=>k_is); (case e=>k_is); (case f=>rfl)
  have m161:mg "NoText" = some (.ref 161):=by
   apply PySem.W.mg_of KX G
   k_is
  have k161:L2.ExK (L2.KOf KX) 161:=by
   dsimp only [L2.KOf];refine' L2.ExK.mk' ?a ?b ?c ?d ?e ?f
   (case a=>k_is); (case b=>k_is); (case c=>k_is); (case d=>k_is); (case e=>k_is); (case f=>rfl)
  have m180:mg "TooGreat" = some (.ref 180):=by
   apply PySem.W.mg_of KX G
   k_is
  have k180:L2.ExK (L2.KOf KX) 180:=by
   dsimp only [L2.KOf];refine' L2.ExK.mk' ?a ?b ?c ?d ?e ?f
   (case a=>k_is); (case b=>k_is); (case c=>k_is); (case d=>k_is); (case e=>k_is); (case f=>rfl)
  have sp:L2.SpK (L2.KOf KX):=by
   dsimp only [L2.KOf];refine' ⟨?a,?b⟩
   (case a=>k_is); (case b=>k_is)
  have i37:∃ ini,L2.ExCls (L2.KOf KX) 37 ini:=⟨_,c37⟩;have i49:∃ ini,L2.ExCls (L2.KOf KX) 49 ini:=⟨_,c49⟩;have i61:∃ ini,L2.ExCls (L2.KOf KX) 61 ini:=⟨_,c61⟩;have i73:∃ ini,L2.ExCls (L2.KOf KX) 73 ini:=⟨_,c73⟩;have i85:∃ ini,L2.ExCls (L2.KOf KX) 85 ini:=⟨_,c85⟩;have i104:∃ ini,L2.ExCls (L2.KOf KX) 104 ini:=by
   apply Exists.intro;refine' L2.exc_ofI ?l ?o ?s ?i c24
   (case l=>dsimp only [L2.KOf]; k_is); (case o=>dsimp only [L2.KOf]; k_is); (case s=>rfl); (case i=>dsimp only [L2.KOf]; k_is)
  have i123:∃ ini,L2.ExCls (L2.KOf KX) 123 ini:=by
   apply Exists.intro;refine' L2.exc_ofI ?l ?o ?s ?i c24
   (case l=>dsimp only [L2.KOf]; k_is); (case o=>dsimp only [L2.KOf]; k_is); (case s=>rfl); (case i=>dsimp only [L2.KOf]; k_is)
  have i142:∃ ini,L2.ExCls (L2.KOf KX) 142 ini:=by
   apply Exists.intro;refine' L2.exc_ofI ?l ?o ?s ?i c24
   (case l=>dsimp only [L2.KOf]; k_is); (case o=>dsimp only [L2.KOf]; k_is); (case s=>rfl); (case i=>dsimp only [L2.KOf]; k_is)
  have i161:∃ ini,L2.ExCls (L2.KOf KX) 161 ini:=by
   apply Exists.intro;refine' L2.exc_ofI ?l ?o ?s ?i c24
   (case l=>dsimp only [L2.KOf]; k_is); (case o=>dsimp only [L2.KOf]; k_is); (case s=>rfl); (case i=>dsimp only [L2.KOf]; k_is)
  have i180:∃ ini,L2.ExCls (L2.KOf KX) 180 ini:=by
   apply Exists.intro;refine' L2.exc_ofI ?l ?o ?s ?i c24
   (case l=>dsimp only [L2.KOf]; k_is); (case o=>dsimp only [L2.KOf]; k_is); (case s=>rfl); (case i=>dsimp only [L2.KOf]; k_is)
  have n180_many:L2.NoAttr (L2.KOf KX) 180 "many":=by
   unfold L2.NoAttr;dsimp only [L2.KOf]
   k_is
  have n180_most:L2.NoAttr (L2.KOf KX) 180 "most":=by
   unfold L2.NoAttr;dsimp only [L2.KOf]
   k_is
  have e180:L2.ExI (L2.KOf KX) 180:=by
   refine' ⟨k180,?b,?c⟩
   (case b=>dsimp only [L2.KOf]; k_is); (case c=>dsimp only [L2.KOf]; k_is)
  have r180:L2.XI (L2.KOf KX) 180 ["many","most"] "TooGreat.__init__" My.s_I_TooGreat:=by
   refine' L2.XI.mk' ?l ?o ?s ?i c24 ?t ?f ?c ?k ?b ?kc k180 e180.hd e180.sa ?na
   (case l=>dsimp only [L2.KOf]; k_is); (case o=>dsimp only [L2.KOf]; k_is); (case s=>rfl); (case i=>dsimp only [L2.KOf]; k_is); (case t=>dsimp only [L2.KOf]; k_is); (case f=>dsimp only [L2.KOf]; k_is); (case c=>dsimp only [L2.KOf]; k_is); (case k=>dsimp only [L2.KOf]; k_is); (case b=>intro _ _ _ _ _ _ us hl; obtain⟨_,_,_,rfl⟩:=L2.len3 hl; rfl); (case kc=>dsimp only [L2.KOf]; k_is)
   (case na=>intro a m; simp only [List.mem_cons,List.not_mem_nil,or_false] at m; rcases m with rfl | rfl <;> assumption)
  have a_many:L2.ExsI (L2.KOf KX) [180] "many":=by
   refine⟨fun C m=>?_,fun C m=>?_⟩
   ·simp only [List.mem_cons,List.not_mem_nil,or_false] at m;rcases m with rfl <;> assumption
   ·simp only [List.mem_cons,List.not_mem_nil,or_false] at m;rcases m with rfl <;> assumption
  have a_most:L2.ExsI (L2.KOf KX) [180] "most":=by
   refine⟨fun C m=>?_,fun C m=>?_⟩
   ·simp only [List.mem_cons,List.not_mem_nil,or_false] at m;rcases m with rfl <;> assumption
   ·simp only [List.mem_cons,List.not_mem_nil,or_false] at m;rcases m with rfl <;> assumption
  have ex:L2.Exs (L2.KOf KX):=by
   refine⟨sp,fun C m=>?_,fun C m=>?_,fun C m=>?_⟩
   ·simp only [L2.excs,List.mem_cons,List.not_mem_nil,or_false] at m;rcases m with rfl | rfl | rfl | rfl | rfl | rfl | rfl | rfl | rfl | rfl <;> assumption
   ·simp only [L2.exc0,List.mem_cons,List.not_mem_nil,or_false] at m;rcases m with rfl | rfl | rfl | rfl | rfl <;> assumption
   ·simp only [L2.excs,List.mem_cons,List.not_mem_nil,or_false] at m;rcases m with rfl | rfl | rfl | rfl | rfl | rfl | rfl | rfl | rfl | rfl <;> assumption
  have xx:My.Exx (L2.KOf KX) mg:=⟨ex,m24,m37,m49,m61,m73,m85,m104,m123,m142,m161,m180,c24,c37,c49,c61,c73,c85,r180,a_many,a_most⟩;have dd:My.Dds (L2.KOf KX) mg:=⟨d_law_cell_at,d_most_rise,d_first_row,d_stacks_that_do,d_next_row,d_rows_to_the_end,d_stack_of,d_sums_of,d_table_of,d_is_whole,d_is_same,d_table_holds,d_law_whole,d_law_stack_right,d_law_right,d_law_pen,d_law_next,d_law_draw,d_law_shims,d_law_number,d_law_way,d_law_kind,d_law_tried,d_law_refused⟩;obtain⟨f,fd,F,hm,_⟩:=d_law.ex;have e0:=hmg.symm.trans hm;cases e0;exact⟨fd,F.bind1 fun _ _ _ _ _ _ _=>rfl,fun base _ _=>My.ok_law F T dd xx⟩
#print axioms PySem.Challenge.cw_gaugewright_k65_whole_fewest_shims_holds
end