import PyProof.Rows.All
import Wide.All
import OpenK.AllK
import Wide.FinOn
import Lean
import PyProof.EqAt
import PyProof.EqKinds
import PyProof.TupleCall
import KE.KTupSum
import KE.KSortTup
import PyProof.SetKind
import PyProof.SetRoads
import PyProof.SetNew
import PyProof.DictKinds
import PyProof.NsDelKeeps
import PyProof.StrWalks
import KE.KEqDict
import KE.KDictList
import PyProof.AttrMissSeq
import PyProof.WalksMore
import KE.KDictOf
import PyProof.Rows.Range3
import KE.KItemsList
import PyProof.FactsAll.dict_3
import PySem.Challenge.RW_gaugewright_k34_whole_order_of_sets
set_option Elab.async false
set_option linter.all false
set_option maxRecDepth 100000
set_option maxHeartbeats 8000000
noncomputable section
namespace L2
open PySem PySem.Spec PyProof.Rows
section
abbrev Key:=Sum Int Str
def zji:Key->Value->Bool
 | .inl k,v=>Value.isInt k v
 | .inr x,v=>Value.isStrOf x v
def zt3 (w:World):Key->Int
 | .inl k=>hashInt k
 | .inr x=>hashStr w x
theorem zaM:∀ {k:Key} {v:Value},zji k v = true->(∃ i t,k = Sum.inl i/\v = Value.int i t)\/(∃ x t,k = Sum.inr x/\v = Value.str x t)
 | .inl i,v,h=>by
  obtain ⟨t,e⟩:=Value.isInt_shape (k:=i) (v:=v) h
  exact .inl ⟨i,t,rfl,e⟩
 | .inr x,v,h=>by
  obtain ⟨t,e⟩:=Value.isStrOf_shape (x:=x) (v:=v) h
  exact .inr ⟨x,t,rfl,e⟩
theorem znm (i:Int) (t:Tok):zji (.inl i) (.int i t) = true:=by simp [zji,Value.isInt]
theorem zna (x:Str) (t:Tok):zji (.inr x) (.str x t) = true:=by simp [zji,Value.isStrOf]
theorem zsa (a b:Int):decide ((Sum.inl a:Key) = Sum.inl b) = (a == b):=by
 by_cases e:a = b
 ·subst e; simp
 ·have h:¬ (Sum.inl a:Key) = Sum.inl b:=fun q=>e (Sum.inl.inj q)
  rw [decide_eq_false h]
  exact (beq_eq_false_iff_ne.mpr e).symm
theorem zro (a b:Str):decide ((Sum.inr a:Key) = Sum.inr b) = decide (a = b):=by
 by_cases e:a = b
 ·subst e; simp
 ·have h:¬ (Sum.inr a:Key) = Sum.inr b:=fun q=>e (Sum.inr.inj q)
  rw [decide_eq_false h,decide_eq_false e]
theorem zsm (a:Int) (b:Str):decide ((Sum.inl a:Key) = Sum.inr b) = false:=decide_eq_false (fun q=>nomatch q)
theorem zrk (a:Str) (b:Int):decide ((Sum.inr a:Key) = Sum.inl b) = false:=decide_eq_false (fun q=>nomatch q)
def zad (prog:Program) (w:World):PySem.KeyKind prog w Key where
 is:=zji
 hash:=zt3 w
 inj:=fun v a b ha hb=>by
  rcases zaM ha with ⟨i,t,rfl,rfl⟩ | ⟨x,t,rfl,rfl⟩
  ·rcases zaM hb with ⟨j,u,rfl,e⟩ | ⟨y,u,rfl,e⟩
   ·injection e with e1 _; rw [e1]
   ·exact nomatch e
  ·rcases zaM hb with ⟨j,u,rfl,e⟩ | ⟨y,u,rfl,e⟩
   ·exact nomatch e
   ·injection e with e1 _; rw [e1]
 byValue:=fun k v h=>by
  rcases zaM h with ⟨i,t,rfl,rfl⟩ | ⟨x,t,rfl,rfl⟩ <;> rfl
 pyHash:=fun hv h=>by
  rcases zaM hv with ⟨i,t,rfl,rfl⟩ | ⟨x,t,rfl,rfl⟩
  ·exact wpAny_pyHash_int h
  ·exact wpAny_pyHash_str h
 eqBool:=fun hu hv h=>by
  rcases zaM hu with ⟨i,t,rfl,rfl⟩ | ⟨x,t,rfl,rfl⟩
  ·rcases zaM hv with ⟨j,u,rfl,rfl⟩ | ⟨y,u,rfl,rfl⟩
   ·rw [zsa] at h; exact wpAny_eqBool_int h
   ·rw [zsm] at h; exact SeqAt.EqAt.int_str i t y u _ _ _ _ h
  ·rcases zaM hv with ⟨j,u,rfl,rfl⟩ | ⟨y,u,rfl,rfl⟩
   ·rw [zrk] at h; exact SeqAt.EqAt.str_int x t j u _ _ _ _ h
   ·rw [zro] at h; exact wpAny_eqBool_str h
 «strs»:=fun k x t v h=>by
  rcases zaM h with ⟨i,u,rfl,e⟩ | ⟨y,u,rfl,e⟩
  ·exact nomatch e
  ·injection e with e1 _
   subst e1
   cases v <;> rfl
theorem zi8 (prog:Program) (w:World) (i:Int) (t:Tok):(zad prog w).is (.inl i) (.int i t) = true:=znm i t
theorem zjp (prog:Program) (w:World) (x:Str) (t:Tok):(zad prog w).is (.inr x) (.str x t) = true:=zna x t
end
section
inductive V where
 | non | bl (b:Bool) | int (i:Int) | str (x:Str) | byt (b:Array UInt8) | flt (b:UInt64) | ref (a:Addr) | ty (n:String)
 deriving DecidableEq
def RelV:V->Value->Prop
 | .non,u=>u = Value.none
 | .bl b,u=>u = Value.bool b
 | .int i,u=>∃ t,u = Value.int i t
 | .str x,u=>∃ t,u = Value.str x t
 | .byt b,u=>∃ t,u = Value.bytes b t
 | .flt b,u=>∃ t,u = Value.float b t
 | .ref a,u=>u = Value.ref a
 | .ty n,u=>u = Value.type n
abbrev Vals:List V->List Value->Prop:=Paired RelV
theorem Vals.length {xs:List V} {us:List Value} (r:Vals xs us):xs.length = us.length:=Paired.length r
theorem Vals.get:∀ {xs:List V} {us:List Value} {i:Nat} {x:V},Vals xs us->xs[i]? = some x->∃ u,us[i]? = some u/\RelV x u
 | _,_,_,_,.nil,e=>by simp at e
 | _,_,0,_,.cons r _,e=>by simp at e; subst e; exact ⟨_,rfl,r⟩
 | _,_,i + 1,x,.cons _ t,e=>by
  obtain ⟨u,h1,h2⟩:=Vals.get (i:=i) (x:=x) t (by simpa using e)
  exact ⟨u,by simpa using h1,h2⟩
theorem Vals.set {x:V} {u:Value} (r:RelV x u):∀ {xs:List V} {us:List Value} (i:Nat),Vals xs us->Vals (xs.set i x) (us.set i u)
 | _,_,_,.nil=>.nil
 | _,_,0,.cons _ t=>.cons r t
 | _,_,i + 1,.cons q t=>.cons q (Vals.set r i t)
theorem Vals.append:∀ {xs ys:List V} {us ws:List Value},Vals xs us->Vals ys ws->Vals (xs ++ ys) (us ++ ws)
 | _,_,_,_,.nil,s=>s
 | _,_,_,_,.cons r t,s=>.cons r (Vals.append t s)
theorem Vals.take:∀ {xs:List V} {us:List Value} (n:Nat),Vals xs us->Vals (xs.take n) (us.take n)
 | _,_,0,_=>.nil
 | _,_,_ + 1,.nil=>.nil
 | _,_,n + 1,.cons r t=>.cons r (Vals.take n t)
theorem Vals.drop:∀ {xs:List V} {us:List Value} (n:Nat),Vals xs us->Vals (xs.drop n) (us.drop n)
 | _,_,0,r=>r
 | _,_,_ + 1,.nil=>.nil
 | _,_,n + 1,.cons _ t=>Vals.drop n t
def RelO:Option V->Option Value->Prop
 | some v,some u=>RelV v u
 | none,none=>True
 | _,_=>False
def KV {κ:Type}:List (κ × V)->List (κ × Value)->Prop:=Paired fun (p:κ × V) (q:κ × Value)=>p.1 = q.1/\RelV p.2 q.2
def kV:Key->V
 | .inl i=>.int i
 | .inr x=>.str x
inductive HO where
 | lst (xs:List V)
 | tup (xs:List V)
 | dK (kvs:List (Key × V)) | dT (kvs:List (List Key × V))
 | set (S:Int->Bool) (n:Nat)
 | ins (C dx:Addr) (fs:List (Str × V))
 | own (x:Addr)
 | xd (fs:List (Str × V))
 | met (f x:Addr)
 | rng (lo hi:Int)
 | frz (o:Obj) (u:HO)
 | tbl (ps:Array Value)
 | ext (φ:Heap->Prop)
abbrev Hp:=Addr->Option HO
def upd (H:Hp) (a:Addr) (o:HO):Hp:=fun b=>if b = a then some o else H b
theorem zag {H:Hp} {a:Addr} {o:HO}:upd H a o a = some o:=by unfold upd; rw [if_pos rfl]
theorem zY {H:Hp} {a b:Addr} {o:HO} (h:b ≠ a):upd H a o b = H b:=by unfold upd; rw [if_neg h]
theorem zhG {H:Hp} {a:Addr} {o u:HO}:upd (upd H a o) a u = upd H a u:=by
 funext b; unfold upd; split <;> rfl
theorem zte {H:Hp} {a b:Addr} {o u:HO} (h:H a = some o) (h':H b = some u) (d:o ≠ u):a ≠ b:=by
 intro e; subst e; rw [h] at h'; exact d (Option.some.inj h')
theorem zac {H:Hp} {a b:Addr} {o:HO} (h:H a = some o) (h':H b = none):a ≠ b:=by
 intro e; subst e; rw [h] at h'; cases h'
section
variable (P:Program) (w:World)
def ObjOk (H:Hp) (h:Heap) (a:Addr):HO->Prop
 | .lst xs=>xs.length <= sizeLine/\∃ (its:List Value) (n:Nat),Vals xs its/\h.get? a = some { cls:=.type "list",data:=.seq its.toArray n }
 | .tup xs=>(xs.length <= sizeLine/\∃ o:Obj,h.get? a = some o/\o.dict = none)/\∃ its:List Value,Vals xs its/\IsTup h a its.toArray
 | .dK kvs=>kvs.length <= sizeLine/\(a == sysModules) = false/\∃ vs,KV kvs vs/\h.DictOf (zad P w) a vs
 | .dT kvs=>kvs.length <= sizeLine/\(a == sysModules) = false/\∃ xs:List (List Key × Addr × Value),
   Paired (fun (p:List Key × V) (q:List Key × Addr × Value)=>p.1 = q.1/\H q.2.1 = some (.tup (p.1.map kV))/\RelV p.2 q.2.2) kvs xs /\
   ∃ o es ep,h.get? a = some o/\o.ExactDict/\o.data = .dict es ep/\es.toList = xs.map (entryOfKey (tupleKind (zad P w)))/\(xs.map (·.1)).Nodup
 | .set S n=>h.SetOf (intKind P w) a S n
 | .ins C dx fs=>H dx = some (.own a)/\fs.length <= 1000/\dx ≠ a/\h.get? a = some (PySem.W.instObj C dx) /\
   ∃ mA,h.Ns1 dx mA/\(∀ f,RelO (fs.lookup f) (mA f))/\PySem.Within mA (fs.map (·.1))
 | .own _=>∃ o,h.get? a = some o
 | .xd fs=>∃ mA,h.Ns1 a mA/\∀ f,RelO (fs.lookup f) (mA f)
 | .rng lo hi=>∃ t u v,h.get? a = some { cls:=.type "range",data:=.fields #[.int lo t,.int hi u,.int 1 v] }
 | .frz o u=>h.get? a = some o/\ObjOk H h a u
 | .tbl ps=>h.get? a = some { cls:=.none,data:=.fields ps }
 | .met f x=>h.get? a = some (PySem.W.methodObj (.ref f) (.ref x))
 | .ext φ=>φ h/\(∃ o,h.get? a = some o)/\∀ h1 h2:Heap,φ h1->(∀ o,h1.get? a = some o->h2.get? a = some o)->φ h2
def HOk (H:Hp) (h:Heap):Prop:=∀ a o,H a = some o->ObjOk P w H h a o
end
section
variable {P:Program} {w:World} {H H':Hp} {h h':Heap} {a:Addr} {o:HO}
theorem ObjOk.lt (x:ObjOk P w H h a o):a < h.objs.size:=by
 cases o with
 | lst xs=>obtain ⟨_,_,_,_,e⟩:=x; exact Heap.lt_size e
 | tup xs=>obtain ⟨_,_,_,p⟩:=x; exact p.lt
 | dK kvs=>obtain ⟨_,_,_,_,o,_,_,e,_⟩:=x; exact Heap.lt_size e
 | dT kvs=>obtain ⟨_,_,_,_,o,_,_,e,_⟩:=x; exact Heap.lt_size e
 | set S n=>obtain ⟨o,_,_,_,e,_⟩:=x; exact Heap.lt_size e
 | ins C dx fs=>obtain ⟨_,_,_,e,_⟩:=x; exact Heap.lt_size e
 | own y=>obtain ⟨_,e⟩:=x; exact Heap.lt_size e
 | xd fs=>obtain ⟨_,⟨_,_,_,e,_⟩,_⟩:=x; exact Heap.lt_size e
 | rng lo hi=>obtain ⟨_,_,_,e⟩:=x; exact Heap.lt_size e
 | frz ob u=>obtain ⟨e,_⟩:=x; exact Heap.lt_size e
 | tbl ps=>exact Heap.lt_size (show h.get? a = some _ from x)
 | met f y=>exact Heap.lt_size (show h.get? a = some _ from x)
 | ext φ=>obtain ⟨_,⟨_,e⟩,_⟩:=x; exact Heap.lt_size e
theorem Paired.mapP {α β:Type} {F G:α->β->Prop}:∀ {l₁:List α} {l₂:List β},Paired F l₁ l₂->(∀ a b,F a b->G a b)->Paired G l₁ l₂
 | _,_,.nil,_=>.nil
 | _,_,.cons r t,f=>.cons (f _ _ r) (Paired.mapP t f)
theorem ObjOk.stay (x:ObjOk P w H h a o) (k:∀ b u,(b = a\/H b = some (.own a))->h.get? b = some u->h'.get? b = some u)
  (ho:∀ b,H b = some (.own a)->H' b = some (.own a)) (ht:∀ b xs,H b = some (.tup xs)->H' b = some (.tup xs)):ObjOk P w H' h' a o:=by
 induction o with
 | lst xs=>obtain ⟨z,its,n,r,e⟩:=x; exact ⟨z,its,n,r,k _ _ (.inl rfl) e⟩
 | tup xs=>obtain ⟨⟨z,o2,e2,d2⟩,its,r,ob,e,c⟩:=x; exact ⟨⟨z,o2,k _ _ (.inl rfl) e2,d2⟩,its,r,ob,k _ _ (.inl rfl) e,c⟩
 | dK kvs=>obtain ⟨z,y,vs,r,ob,es,ep,e,c⟩:=x; exact ⟨z,y,vs,r,ob,es,ep,k _ _ (.inl rfl) e,c⟩
 | dT kvs =>
  obtain ⟨z,y,xs,r,ob,es,ep,e,c⟩:=x
  exact ⟨z,y,xs,Paired.mapP r fun p q z=>⟨z.1,ht _ _ z.2.1,z.2.2⟩,ob,es,ep,k _ _ (.inl rfl) e,c⟩
 | set S n=>obtain ⟨ob,es,ep,t,e,c⟩:=x; exact ⟨ob,es,ep,t,k _ _ (.inl rfl) e,c⟩
 | ins C dx fs =>
  obtain ⟨d,z,ne,e,mA,⟨od,es,ep,e2,c⟩,r⟩:=x
  exact ⟨ho _ d,z,ne,k _ _ (.inl rfl) e,mA,⟨od,es,ep,k _ _ (.inr d) e2,c⟩,r⟩
 | own y=>obtain ⟨ob,e⟩:=x; exact ⟨ob,k _ _ (.inl rfl) e⟩
 | xd fs=>obtain ⟨mA,⟨od,es,ep,e,c⟩,r⟩:=x; exact ⟨mA,⟨od,es,ep,k _ _ (.inl rfl) e,c⟩,r⟩
 | rng lo hi=>obtain ⟨t,u,v,e⟩:=x; exact ⟨t,u,v,k _ _ (.inl rfl) e⟩
 | frz ob u ih=>obtain ⟨e,q⟩:=x; exact ⟨k _ _ (.inl rfl) e,ih q⟩
 | tbl ps =>
  have e:h.get? a = some { cls:=.none,data:=.fields ps }:=x
  show h'.get? a = some { cls:=.none,data:=.fields ps }
  exact k a _ (.inl rfl) e
 | met f y =>
  have e:h.get? a = some (PySem.W.methodObj (.ref f) (.ref y)):=x
  show h'.get? a = some (PySem.W.methodObj (.ref f) (.ref y))
  exact k a _ (.inl rfl) e
 | ext φ=>obtain ⟨p,⟨o,e⟩,st⟩:=x; exact ⟨st _ _ p fun o q=>k _ _ (.inl rfl) q,⟨o,k _ _ (.inl rfl) e⟩,st⟩
theorem HOk.lt (x:HOk P w H h) (e:H a = some o):a < h.objs.size:=(x a o e).lt
theorem HOk.fresh (x:HOk P w H h) (e:h.objs.size <= a):H a = none:=by
 cases q:H a with
 | none=>rfl
 | some u=>exact absurd (Nat.lt_of_lt_of_le (x.lt q) e) (Nat.lt_irrefl _)
theorem HOk.kept (x:HOk P w H h) (k:∀ b u,h.get? b = some u->h'.get? b = some u):HOk P w H h':=fun a o e =>
 (x a o e).stay (fun b u _ q=>k b u q) (fun _ q=>q) fun _ _ q=>q
theorem HOk.laid (x:HOk P w H h) (k:∀ b u,h.get? b = some u->h'.get? b = some u) (hp:h.objs.size <= a) (new:ObjOk P w (upd H a o) h' a o):HOk P w (upd H a o) h':=fun b u e=>by
 have hn:=x.fresh hp
 by_cases hb:b = a
 ·subst hb; rw [zag] at e; cases e; exact new
 ·rw [zY hb] at e
  exact (x b u e).stay (fun c v _ q=>k c v q) (fun c q=>by rw [zY (zac q hn)]; exact q) fun c xs q=>by rw [zY (zac q hn)]; exact q
end
def Rd (H:Hp) (a:Addr) (u:HO):Prop:=H a = some u\/∃ o,H a = some (.frz o u)
theorem Rd.ok {P:Program} {w:World} {H:Hp} {h:Heap} {a:Addr} {u:HO} (r:Rd H a u) (x:HOk P w H h):ObjOk P w H h a u:=by
 rcases r with r | ⟨o,r⟩
 ·exact x a u r
 ·obtain ⟨_,q⟩:=x a _ r
  exact q
def Mut:Option HO->Prop
 | some (.lst _)=>True
 | some (.dK _)=>True
 | some (.dT _)=>True
 | some (.set _ _)=>True
 | some (.ins _ _ _)=>True
 | some (.ext _)=>True
 | _=>False
section
variable {P:Program} {w:World} {H:Hp} {h h':Heap} {x e:Addr} {o':HO}
theorem HOk.write (ok:HOk P w H h) (mu:Mut (H x)) (he:e = x\/H e = some (.own x)) (k:∀ b u,b ≠ e->h.get? b = some u->h'.get? b = some u) (heo:∃ u,h'.get? e = some u)
  (new:ObjOk P w (upd H x o') h' x o'):HOk P w (upd H x o') h':=fun b u q=>by
 have nown:∀ c y,H c = some (.own y)->c ≠ x:=fun c y r z=>by subst z; rw [r] at mu; exact mu
 have ntup:∀ c xs,H c = some (.tup xs)->c ≠ x:=fun c xs r z=>by subst z; rw [r] at mu; exact mu
 by_cases hb:b = x
 ·subst hb; rw [zag] at q; cases q; exact new
 ·rw [zY hb] at q
  by_cases hbe:b = e
  ·have q':H b = some (.own x):=by
    rcases he with z | z
    ·exact absurd (hbe.trans z) hb
    ·rw [hbe]; exact z
   rw [q] at q'; cases q'
   obtain ⟨v,hv⟩:=heo
   exact ⟨v,by rw [hbe]; exact hv⟩
  ·refine (ok b u q).stay (fun c v hc r=>k c v ?_ r) (fun c r=>by rw [zY (nown c b r)]; exact r) fun c xs r=>by rw [zY (ntup c xs r)]; exact r
   rcases hc with rfl | hc
   ·exact hbe
   ·rintro rfl
    rcases he with z | z
    ·exact nown c b hc z
    ·rw [hc] at z; cases z; exact hb rfl
end
structure Un (fs ex:List Addr) (H H':Hp) (h h':Heap):Prop where
 keep:∀ b o,h.get? b = some o->H b = none->b ∉ fs->b ∉ ex->h'.get? b = some o
 slot:∀ b o,h.get? b = some o->H b = none->b ∈ fs->b ∉ ex->∃ sl,h'.get? b = some { o with slots:=sl }
 free:∀ b o,h.get? b = some o->H b = none->b ∉ ex->H' b = none
 there:∀ b o,h.get? b = some o->b ∉ ex->∃ o',h'.get? b = some o'
 tups:∀ b xs,H b = some (.tup xs)->H' b = some (.tup xs)
 frzs:∀ b o u,H b = some (.frz o u)->H' b = some (.frz o u)
 tbls:∀ b ps,H b = some (.tbl ps)->∃ more,H' b = some (.tbl (ps ++ more))
section
variable {fs fs' ex ex':List Addr} {H H1 H2:Hp} {h h1 h2 h':Heap} {a x e:Addr} {o:HO}
theorem Un.any (u:Un fs ex H H1 h h1) {b:Addr} {ob:Obj} (q:h.get? b = some ob) (n:H b = none) (hx:b ∉ ex):∃ sl,h1.get? b = some { ob with slots:=sl }:=by
 by_cases hb:b ∈ fs
 ·exact u.slot b ob q n hb hx
 ·exact ⟨ob.slots,u.keep b ob q n hb hx⟩
theorem Un.trans (a:Un fs ex H H1 h h1) (b:Un fs ex H1 H2 h1 h2):Un fs ex H H2 h h2 where
 keep:=fun c ob q n hc hx=>b.keep c ob (a.keep c ob q n hc hx) (a.free c ob q n hx) hc hx
 slot:=fun c ob q n hc hx=>by
  obtain ⟨sl,e1⟩:=a.slot c ob q n hc hx
  obtain ⟨sl',e2⟩:=b.slot c _ e1 (a.free c ob q n hx) hc hx
  exact ⟨sl',e2⟩
 free:=fun c ob q n hx=>by
  obtain ⟨o',e1⟩:=a.there c ob q hx
  exact b.free c o' e1 (a.free c ob q n hx) hx
 there:=fun c ob q hx=>by
  obtain ⟨o',e1⟩:=a.there c ob q hx
  exact b.there c o' e1 hx
 tups:=fun c xs q=>b.tups c xs (a.tups c xs q)
 frzs:=fun c ob xs q=>b.frzs c ob xs (a.frzs c ob xs q)
 tbls:=fun c ps q=>by
  obtain ⟨m1,e1⟩:=a.tbls c ps q
  obtain ⟨m2,e2⟩:=b.tbls c _ e1
  exact ⟨m1 ++ m2,by rw [e2,Array.append_assoc]⟩
theorem Un.kept (k:∀ b u,h.get? b = some u->h'.get? b = some u):Un fs ex H H h h' :=
 ⟨fun b ob q _ _ _=>k b ob q,fun b ob q _ _ _=>⟨ob.slots,k b ob q⟩,fun _ _ _ n _=>n,fun b ob q _=>⟨ob,k b ob q⟩,fun _ _ q=>q,fun _ _ _ q=>q,fun _ ps q=>⟨#[],by rw [q]; simp⟩⟩
theorem Un.refl:Un fs ex H H h h:=Un.kept fun _ _ q=>q
theorem Un.laid (k:∀ b u,h.get? b = some u->h'.get? b = some u) (hp:h.objs.size <= a) (hn:H a = none):Un fs ex H (upd H a o) h h' where
 keep:=fun b u q _ _ _=>k b u q
 slot:=fun b u q _ _ _=>⟨u.slots,k b u q⟩
 free:=fun b u q n _=>by rw [zY (Nat.ne_of_lt (Nat.lt_of_lt_of_le (Heap.lt_size q) hp))]; exact n
 there:=fun b u q _=>⟨u,k b u q⟩
 tups:=fun b xs q=>by rw [zY (zac q hn)]; exact q
 frzs:=fun b u xs q=>by rw [zY (zac q hn)]; exact q
 tbls:=fun b ps q=>⟨#[],by rw [zY (zac q hn),q]; simp⟩
theorem Un.write (mu:Mut (H x)) (he:e = x\/H e = some (.own x)) (k:∀ b u,b ≠ e->h.get? b = some u->h'.get? b = some u) (heo:∃ u,h'.get? e = some u):Un fs ex H (upd H x o) h h':=by
 have hx:∀ b,H b = none->b ≠ x:=fun b n z=>by subst z; rw [n] at mu; exact mu
 have hb:∀ b,H b = none->b ≠ e:=fun b n z=>by
  subst z
  rcases he with r | r
  ·exact hx b n r
  ·rw [n] at r; cases r
 have hm:∀ b u,H b = some u->¬ Mut (some u)->b ≠ x:=fun b u q nm z=>by subst z; rw [q] at mu; exact nm mu
 refine ⟨fun b u q n _ _=>k b u (hb b n) q,fun b u q n _ _=>⟨u.slots,k b u (hb b n) q⟩,fun b u q n _=>by rw [zY (hx b n)]; exact n,fun b u q _=>?_,
  fun b xs q=>by rw [zY (hm b _ q fun z=>z)]; exact q,fun b u xs q=>by rw [zY (hm b _ q fun z=>z)]; exact q,fun b ps q=>⟨#[],by rw [zY (hm b _ q fun z=>z),q]; simp⟩⟩
 by_cases hbe:b = e
 ·subst hbe; exact heo
 ·exact ⟨u,k b u hbe q⟩
theorem Un.mono (u:Un fs ex H H1 h h1) (hs:∀ b ∈ fs,b ∈ fs') (hx:∀ b ∈ ex,b ∈ ex'):Un fs' ex' H H1 h h1 :=
 ⟨fun b ob q n hb he=>u.keep b ob q n (fun z=>hb (hs b z)) fun z=>he (hx b z),fun _ _ q n _ he=>u.any q n fun z=>he (hx _ z),fun b ob q n he=>u.free b ob q n fun z=>he (hx b z),fun b ob q he=>u.there b ob q fun z=>he (hx b z),u.tups,u.frzs,u.tbls⟩
end
def trk (h:Heap) (H:Hp):List Addr:=(List.range h.objs.size).filter fun a=>(H a).isSome
def zn8 (h:Heap) (H:Hp):Heap:=PySem.W.hideAll h (trk h H)
theorem znj (h:Heap) (H:Hp):(zn8 h H).objs.size = h.objs.size:=PySem.W.hideAll_size _ _
theorem zom {h:Heap} {H:Hp} {b:Addr} {o:Obj} (e:h.get? b = some o) (n:H b = none):(zn8 h H).get? b = some o :=
 PySem.W.hideAll_get _ e fun hm=>by
  have q:(H b).isSome = true:=(List.mem_filter.mp hm).2
  rw [n] at q; simp at q
theorem zqt {h:Heap} {H:Hp} {b:Addr} {o:Obj} (e:(zn8 h H).get? b = some o):h.get? b = some o/\H b = none:=by
 have e':h.get? b = some o:=PySem.W.of_hideAll (trk h H) e
 refine ⟨e',?_⟩
 cases q:H b with
 | none=>rfl
 | some x =>
  have hm:b ∈ trk h H:=List.mem_filter.mpr ⟨List.mem_range.mpr (Heap.lt_size e'),by simp [q]⟩
  have z:(zn8 h H).get? b = none:=PySem.W.hideAll_none (trk h H) hm
  rw [z] at e; cases e
def zql (g h:Heap) (L:Addr):List (Addr × Obj):=(List.range h.objs.size).filterMap fun a=>if a = L\/(g.get? a).isSome = true then none else (h.get? a).map fun o=>(a,o)
def rest (g h:Heap) (L d:Addr):List (Addr × Obj):=(zql g h L).filter fun p=>decide (p.1 ≠ d)
end
section
structure Mod (K:W.Frag) (mg:Str->Option Value) (base:Heap):Prop where
 kin:K.In base
 glob:base.Ns mainGlobals mg
 blt:∃ mb,base.Ns builtinsNs mb/\∀ x:Str,x ≠ "__name__"->mb x = bootBuiltins x
 nolimit:base.NoLimit
structure Cx where
 prog:Program
 w:World
 K:W.Frag
 mg:Str->Option Value
 base:Heap
 A:Around
 N:List Str
 s₀:Shared
 H₀:Hp
 env:Env
 outer:List Env
 stack:List Env
 ex:List Addr
 fn:Str->Bool
 calm:Bool
 pn:List (Addr × Obj)
 xe:Value->Shared->Prop
def frs (l:List Env):List Addr:=l.filterMap (·.frame)
abbrev Cx.fs (X:Cx):List Addr:=frs X.outer
def Vis (sc:Scope) (x:Str):Prop:=sc.names.lookup x = some .local\/sc.names.lookup x = some .cell\/sc.names.lookup x = some .free
def Loc (sc:Scope) (x:Str):Prop:=sc.names.lookup x = some .local\/sc.names.lookup x = some .cell
def Look (env:Env) (h:Heap) (m:Str->Option Value) (x:Str) (u:Value):Prop :=
 (env.kindOf x = some .local/\m x = some u)\/((env.kindOf x = some .cell\/env.kindOf x = some .free)/\∃ c,env.cells.lookup x = some c/\h.IsCell c (some u))
structure Cx.Ok (X:Cx):Prop where
 mod:Mod X.K X.mg X.base
 kind:X.env.scope.kind = .function
 glob:X.env.globals = mainGlobals
 blt:X.env.builtins = builtinsNs
 above:X.s₀.heap.objs.size <= X.env.locals
 inj:∀ x y c,X.env.cells.lookup x = some c->X.env.cells.lookup y = some c->x = y
 has:∀ x,(X.env.kindOf x = some .cell\/X.env.kindOf x = some .free)->∃ c,X.env.cells.lookup x = some c
 cab:∀ x c,X.fn x = true->X.env.cells.lookup x = some c->X.s₀.heap.objs.size <= c
 hd:X.calm = true->X.A.handled = none
 frames:X.A.frames = some X.stack
 stk:X.stack = X.outer\/(X.stack = X.env :: X.outer/\X.env.frame = some X.env.locals)
 exf:∀ b ∈ X.ex,b ≠ X.env.locals/\∀ x c,X.env.cells.lookup x = some c->c ≠ b
 bs:∀ b o,X.base.get? b = some o->X.s₀.heap.get? b = some o/\X.H₀ b = none
 bsz:X.base.objs.size <= X.s₀.heap.objs.size
 noex:∀ b o,X.base.get? b = some o->b ∉ X.ex
 exfs:∀ b ∈ X.ex,b ∉ X.fs
 funs:X.s₀.heap.FunFrames X.base X.outer
 frf:∀ b ∈ X.fs,X.H₀ b = none
structure Inv (X:Cx) (zk:List (Addr × Obj)) (σ:List (Option V)) (H:Hp) (s:Shared):Prop where
 ok:X.Ok
 os:s.os = X.s₀.os
 bare:AllBare s.gens
 base:Un X.fs X.ex X.H₀ H X.s₀.heap s.heap
 loc:∃ m,s.heap.Ns X.env.locals m/\∀ (i:Nat) (x:Str) (v:V),X.N[i]? = some x->σ[i]? = some (some v)->Vis X.env.scope x->∃ u,RelV v u/\Look X.env s.heap m x u
 cell:∀ x c,X.env.cells.lookup x = some c->∃ v,s.heap.IsCell c v
 free:H X.env.locals = none
 freeC:∀ x c,X.env.cells.lookup x = some c->H c = none
 pin:∀ p ∈ X.pn ++ zk,s.heap.get? p.1 = some p.2/\H p.1 = none/\p.1 ≠ X.env.locals/\p.1 ∉ X.fs/\∀ v,p.2.data ≠ .cell v
 hok:HOk X.prog X.w H s.heap
 len:σ.length = X.N.length
section
variable {X:Cx} {zk:List (Addr × Obj)} {σ:List (Option V)} {H H':Hp} {s:Shared} {h':Heap}
theorem Cx.Ok.nofr (ok:X.Ok) {b:Addr} {o:Obj} (e:X.base.get? b = some o):b ∉ X.fs:=fun hb=>by
 have:=(ok.funs.mem hb).1
 rw [e] at this; cases this
theorem Inv.bs (I:Inv X zk σ H s):∀ b o,X.base.get? b = some o->s.heap.get? b = some o/\H b = none:=fun b o e =>
 ⟨I.base.keep b o (I.ok.bs b o e).1 (I.ok.bs b o e).2 (I.ok.nofr e) (I.ok.noex b o e),I.base.free b o (I.ok.bs b o e).1 (I.ok.bs b o e).2 (I.ok.noex b o e)⟩
theorem Inv.bk (I:Inv X zk σ H s):∀ b o,X.base.get? b = some o->s.heap.get? b = some o:=fun b o e=>(I.bs b o e).1
theorem Inv.mod (I:Inv X zk σ H s):Mod X.K X.mg X.base:=I.ok.mod
theorem Inv.kIn (I:Inv X zk σ H s):X.K.In s.heap:=I.ok.mod.kin.keeps I.bk
theorem Inv.lt (I:Inv X zk σ H s):X.env.locals < s.heap.objs.size:=let ⟨_,hn,_⟩:=I.loc; hn.lt
theorem Inv.sz (I:Inv X zk σ H s):X.s₀.heap.objs.size <= s.heap.objs.size:=Nat.le_trans I.ok.above (Nat.le_of_lt I.lt)
theorem Inv.nofs (I:Inv X zk σ H s) {a:Addr} (h:s.heap.objs.size <= a):a ∉ X.fs:=fun hb=>by
 obtain ⟨_,o,ho,_⟩:=I.ok.funs.mem hb
 exact absurd (Nat.lt_of_lt_of_le (Heap.lt_size ho) (Nat.le_trans I.sz h)) (Nat.lt_irrefl _)
theorem Inv.cne (I:Inv X zk σ H s):∀ x c,X.env.cells.lookup x = some c->c ≠ X.env.locals:=fun x c e z=>by
 obtain ⟨v,o,ho,hd⟩:=I.cell x c e
 obtain ⟨m,⟨o',es,ep,ho',hd',_⟩,_⟩:=I.loc
 rw [z,ho'] at ho; cases ho; rw [hd'] at hd; cases hd
theorem Inv.funs (I:Inv X zk σ H s):s.heap.FunFrames X.base X.outer:=by
 have all:∀ (l:List Env),(∀ b ∈ frs l,b ∈ X.fs)->X.s₀.heap.FunFrames X.base l->s.heap.FunFrames X.base l:=by
  intro l
  induction l with
  | nil=>intro _ _; trivial
  | cons env r ih =>
   intro hs hl
   obtain ⟨hk,⟨L,o,hf,hn,ho,hd⟩,hr⟩:=hl
   have hL:L ∈ X.fs:=hs L (by unfold frs; rw [List.filterMap_cons,hf]; exact List.mem_cons_self)
   obtain ⟨sl,e⟩:=I.base.slot L o ho (I.ok.frf L hL) hL fun z=>I.ok.exfs L z hL
   exact ⟨hk,⟨L,_,hf,hn,e,hd⟩,ih (fun b hb=>hs b (by unfold frs; rw [List.filterMap_cons,hf]; exact List.mem_cons_of_mem _ hb)) hr⟩
 exact all X.outer (fun _ hb=>hb) I.ok.funs
theorem Inv.stack (I:Inv X zk σ H s):s.heap.FunFrames X.base X.stack:=by
 rcases I.ok.stk with e | ⟨e,hf⟩
 ·rw [e]; exact I.funs
 ·rw [e]
  obtain ⟨m,hn,_⟩:=I.loc
  refine .cons (by rw [I.ok.kind]; decide) hf hn ?_ I.funs
  exact Heap.get?_none_of_le (Nat.le_trans I.ok.bsz I.ok.above)
theorem Inv.stkSub (I:Inv X zk σ H s):∀ b ∈ frs X.stack,b ∈ X.env.locals :: X.fs:=fun b hb=>by
 rcases I.ok.stk with e | ⟨e,hf⟩
 ·rw [e] at hb; exact List.mem_cons_of_mem _ hb
 ·rw [e] at hb
  unfold frs at hb
  rw [List.filterMap_cons,hf] at hb
  exact hb
theorem Inv.stkFree (I:Inv X zk σ H s):∀ b ∈ frs X.stack,H b = none:=fun b hb=>by
 rcases List.mem_cons.mp (I.stkSub b hb) with e | hb
 ·rw [e]; exact I.free
 ·obtain ⟨_,o,ho,_⟩:=I.ok.funs.mem hb
  exact I.base.free b o ho (I.ok.frf b hb) fun z=>I.ok.exfs b z hb
theorem Inv.step {g':Array GenState} {t':Nat} {d':Drawn} {ch:List Addr} (I:Inv X zk σ H s)
  (hch:∀ b ∈ ch,(b ∈ X.ex\/X.s₀.heap.objs.size <= b)/\b ≠ X.env.locals/\(∀ x c,X.env.cells.lookup x = some c->c ≠ b)/\∀ p ∈ X.pn ++ zk,p.1 ≠ b)
  (keep:∀ b o,b ≠ X.env.locals->b ∉ X.fs->b ∉ ch->s.heap.get? b = some o->H b = none->h'.get? b = some o)
  (slot:∀ b o,b ≠ X.env.locals->b ∈ X.fs->b ∉ ch->s.heap.get? b = some o->H b = none->∃ sl,h'.get? b = some { o with slots:=sl }) (free:∀ b o,b ∉ ch->s.heap.get? b = some o->H b = none->H' b = none)
  (there:∀ b o,b ∉ ch->s.heap.get? b = some o->∃ o',h'.get? b = some o')
  (tups:∀ b xs,H b = some (.tup xs)->H' b = some (.tup xs)) (frzs:∀ b o u,H b = some (.frz o u)->H' b = some (.frz o u)) (tbls:∀ b ps,H b = some (.tbl ps)->∃ more,H' b = some (.tbl (ps ++ more)))
  (ns:∀ m,s.heap.Ns X.env.locals m->h'.Ns X.env.locals m) (hok:HOk X.prog X.w H' h') (hg:AllBare g') :
  Inv X zk σ H' { s with heap:=h',gens:=g',drawn:=d',toks:=t' }:=by
 have neL:∀ b o,X.s₀.heap.get? b = some o->b ≠ X.env.locals:=fun b o e=>Nat.ne_of_lt (Nat.lt_of_lt_of_le (Heap.lt_size e) I.ok.above)
 have neC:∀ b o,X.s₀.heap.get? b = some o->b ∉ X.ex->b ∉ ch:=fun b o e hx hb=>by
  rcases (hch b hb).1 with z | z
  ·exact hx z
  ·exact absurd (Nat.lt_of_lt_of_le (Heap.lt_size e) z) (Nat.lt_irrefl _)
 have cellK:∀ x c,X.env.cells.lookup x = some c->∀ v,s.heap.IsCell c v->h'.IsCell c v:=fun x c e v ⟨o,ho,hd⟩=>by
  have nch:c ∉ ch:=fun z=>(hch c z).2.2.1 x c e rfl
  by_cases hc:c ∈ X.fs
  ·obtain ⟨sl,q⟩:=slot c o (I.cne x c e) hc nch ho (I.freeC x c e)
   exact ⟨_,q,hd⟩
  ·exact ⟨o,keep c o (I.cne x c e) hc nch ho (I.freeC x c e),hd⟩
 refine ⟨I.ok,I.os,hg,⟨fun b o e n hb hx=>?_,fun b o e n hb hx=>?_,fun b o e n hx=>?_,fun b o e hx=>?_,fun b xs e=>tups b xs (I.base.tups b xs e),fun b o xs e=>frzs b o xs (I.base.frzs b o xs e),fun b ps e=>?_⟩,?_,fun x c e=>?_,?_,fun x c e=>?_,fun p hp=>?_,hok,I.len⟩
 ·exact keep b o (neL b o e) hb (neC b o e hx) (I.base.keep b o e n hb hx) (I.base.free b o e n hx)
 ·obtain ⟨sl,e1⟩:=I.base.slot b o e n hb hx
  obtain ⟨sl',e2⟩:=slot b _ (neL b o e) hb (neC b o e hx) e1 (I.base.free b o e n hx)
  exact ⟨sl',e2⟩
 ·obtain ⟨o',e1⟩:=I.base.there b o e hx
  exact free b o' (neC b o e hx) e1 (I.base.free b o e n hx)
 ·obtain ⟨o',e1⟩:=I.base.there b o e hx
  exact there b o' (neC b o e hx) e1
 ·obtain ⟨m1,e1⟩:=I.base.tbls b ps e
  obtain ⟨m2,e2⟩:=tbls b _ e1
  exact ⟨m1 ++ m2,by rw [e2,Array.append_assoc]⟩
 ·obtain ⟨m,hn,hl⟩:=I.loc
  refine ⟨m,ns m hn,fun i x v e1 e2 e3=>?_⟩
  obtain ⟨u,r,l⟩:=hl i x v e1 e2 e3
  refine ⟨u,r,?_⟩
  rcases l with l | ⟨k,c,e,z⟩
  ·exact .inl l
  ·exact .inr ⟨k,c,e,cellK x c e _ z⟩
 ·obtain ⟨v,z⟩:=I.cell x c e
  exact ⟨v,cellK x c e v z⟩
 ·obtain ⟨m,⟨o,_,_,ho,_⟩,_⟩:=I.loc
  exact free _ o (fun z=>(hch _ z).2.1 rfl) ho I.free
 ·obtain ⟨v,o,ho,hd⟩:=I.cell x c e
  exact free c o (fun z=>(hch c z).2.2.1 x c e rfl) ho (I.freeC x c e)
 ·obtain ⟨e,n,ne,nf,d⟩:=I.pin p hp
  have nch:p.1 ∉ ch:=fun z=>(hch p.1 z).2.2.2 p hp rfl
  exact ⟨keep p.1 p.2 ne nf nch e n,free p.1 p.2 nch e n,ne,nf,d⟩
theorem Inv.un {t':Nat} (I:Inv X zk σ H s) (u:Un X.fs [] H H' s.heap h') (hok:HOk X.prog X.w H' h'):Inv X zk σ H' { s with heap:=h',toks:=t' }:=by
 obtain ⟨m,⟨o,es,ep,ho,r⟩,_⟩:=id I.loc
 obtain ⟨sl,hL⟩:=u.any ho I.free (by simp)
 exact I.step (g':=s.gens) (d':=s.drawn) (ch:=[]) (fun _ z=>nomatch z) (fun b o _ hb _ e n=>u.keep b o e n hb (by simp)) (fun b o _ hb _ e n=>u.slot b o e n hb (by simp)) (fun b o _ e n=>u.free b o e n (by simp)) (fun b o _ e=>u.there b o e (by simp)) u.tups u.frzs u.tbls (fun m' hm=>by
  obtain ⟨o',es',ep',ho',r'⟩:=hm
  rw [ho] at ho'; cases ho'
  exact ⟨_,es',ep',hL,r'⟩) hok I.bare
theorem Inv.call {g':Array GenState} {t':Nat} {d':Drawn} {ch:List Addr} (I:Inv X zk σ H s) (u:Un (frs X.stack) ch H H' s.heap h') (hok:HOk X.prog X.w H' h') (hg:AllBare g')
  (hch:∀ b ∈ ch,(b ∈ X.ex\/X.s₀.heap.objs.size <= b)/\b ≠ X.env.locals/\(∀ x c,X.env.cells.lookup x = some c->c ≠ b)/\∀ p ∈ X.pn ++ zk,p.1 ≠ b) :
  Inv X zk σ H' { s with heap:=h',gens:=g',drawn:=d',toks:=t' }:=by
 obtain ⟨m,⟨o,es,ep,ho,r⟩,_⟩:=id I.loc
 obtain ⟨sl,hL⟩:=u.any ho I.free fun z=>(hch _ z).2.1 rfl
 exact I.step (ch:=ch) hch (fun b o hL hb hc e n=>u.keep b o e n (fun z=>(List.mem_cons.mp (I.stkSub b z)).elim hL hb) hc) (fun b o _ _ hc e n=>u.any e n hc) (fun b o hc e n=>u.free b o e n hc) (fun b o hc e=>u.there b o e hc) u.tups u.frzs u.tbls (fun m' hm=>by
  obtain ⟨o',es',ep',ho',r'⟩:=hm
  rw [ho] at ho'; cases ho'
  exact ⟨_,es',ep',hL,r'⟩) hok hg
theorem Inv.turned {t':Nat} {it:Addr} (I:Inv X zk σ H s) (k:∀ b o,b ≠ it->s.heap.get? b = some o->h'.get? b = some o) (hn:H it = none) (hL:it ≠ X.env.locals)
  (h1:it ∈ X.ex\/X.s₀.heap.objs.size <= it) (h2:∀ x c,X.env.cells.lookup x = some c->c ≠ it) (h3:∀ p ∈ X.pn ++ zk,p.1 ≠ it):Inv X zk σ H { s with heap:=h',toks:=t' }:=by
 have nit:∀ b u,H b = some u->b ≠ it:=fun b u e z=>by rw [z,hn] at e; cases e
 refine I.step (g':=s.gens) (d':=s.drawn) (ch:=[it]) (fun b hb=>?_) (fun b o _ _ hc e _=>k b o (fun z=>hc (by simp [z])) e) (fun b o _ _ hc e _=>⟨o.slots,k b o (fun z=>hc (by simp [z])) e⟩) (fun _ _ _ _ n=>n)
  (fun b o hc e=>⟨o,k b o (fun z=>hc (by simp [z])) e⟩) (fun _ _ e=>e) (fun _ _ _ e=>e) (fun b ps e=>⟨#[],by rw [e]; simp⟩) (fun m hm=>?_) (fun b u e=>?_) I.bare
 ·have e:b = it:=by simpa using hb
  subst e
  exact ⟨h1,hL,h2,h3⟩
 ·obtain ⟨o,es,ep,ho,r⟩:=hm
  exact ⟨o,es,ep,k _ o (Ne.symm hL) ho,r⟩
 ·refine (I.hok b u e).stay (fun c v hc q=>k c v ?_ q) (fun _ q=>q) fun _ _ q=>q
  rcases hc with z | z
  ·rw [z]; exact nit b u e
  ·exact nit c _ z
theorem Inv.tok (I:Inv X zk σ H s) (t:Nat):Inv X zk σ H { s with toks:=t }:=I.un (h':=s.heap) (t':=t) Un.refl I.hok
theorem Inv.kept {t':Nat} (I:Inv X zk σ H s) (k:∀ b u,s.heap.get? b = some u->h'.get? b = some u):Inv X zk σ H { s with heap:=h',toks:=t' }:=I.un (Un.kept k) (I.hok.kept k)
theorem Inv.laid {a:Addr} {o:HO} {t':Nat} (I:Inv X zk σ H s) (k:∀ b u,s.heap.get? b = some u->h'.get? b = some u) (hp:s.heap.objs.size <= a) (new:ObjOk X.prog X.w (upd H a o) h' a o) :
  Inv X zk σ (upd H a o) { s with heap:=h',toks:=t' }:=I.un (Un.laid k hp (I.hok.fresh hp)) (I.hok.laid k hp new)
theorem Inv.write {x e:Addr} {o:HO} {t':Nat} (I:Inv X zk σ H s) (mu:Mut (H x)) (he:e = x\/H e = some (.own x)) (k:∀ b u,b ≠ e->s.heap.get? b = some u->h'.get? b = some u) (heo:∃ u,h'.get? e = some u)
  (new:ObjOk X.prog X.w (upd H x o) h' x o):Inv X zk σ (upd H x o) { s with heap:=h',toks:=t' }:=I.un (Un.write mu he k heo) (I.hok.write mu he k heo new)
theorem Inv.pins_of {pins':List (Addr × Obj)} (I:Inv X zk σ H s) (h:∀ p ∈ pins',s.heap.get? p.1 = some p.2/\H p.1 = none/\p.1 ≠ X.env.locals/\p.1 ∉ X.fs/\∀ v,p.2.data ≠ .cell v):Inv X pins' σ H s :=
 ⟨I.ok,I.os,I.bare,I.base,I.loc,I.cell,I.free,I.freeC,fun p hp=>(List.mem_append.mp hp).elim (fun z=>I.pin p (List.mem_append_left _ z)) (h p),I.hok,I.len⟩
theorem zkn {N:List Str} (hN:N.Nodup) {i j:Nat} {x:Str} (a:N[i]? = some x) (b:N[j]? = some x):i = j:=by
 obtain ⟨h1,e1⟩:=List.getElem?_eq_some_iff.mp a
 obtain ⟨h2,e2⟩:=List.getElem?_eq_some_iff.mp b
 exact (List.getElem_inj hN).mp (e1.trans e2.symm)
theorem zlp {M:Model} {A:Around} {E:Value->Shared->Prop} {i:Nat} {x:Str} {v:V} {u:Value} {Q:Unit->Shared->Prop} (I:Inv X zk σ H s) (hN:X.N.Nodup) (hi:X.N[i]? = some x) (hx:Loc X.env.scope x) (r:RelV v u)
  (h:∀ s',Inv X zk (σ.set i (some v)) H s'->(∃ a,Heap.SameBut a s.heap s'.heap/\(a = X.env.locals\/X.env.cells.lookup x = some a))->Q () s') (hf:X.fn x = true\/X.env.scope.names.lookup x = some .local:=by first | exact .inl rfl | exact .inr rfl | assumption):wpAny M A (storeName X.env x u) Q E s:=by
 obtain ⟨m,hn,hl⟩:=id I.loc
 have hcls:(X.env.scope.kind == .class || (X.env.scope.kind == .module && X.env.locals != X.env.globals)) = false:=by rw [I.ok.kind]; rfl
 have hiσ:i < σ.length:=by rw [I.len]; exact (List.getElem?_eq_some_iff.mp hi).1
 have cne:=I.cne
 have tracked:∀ {a:Addr} {h':Heap},(∃ o,s.heap.get? a = some o/\H a = none)->Heap.SameBut a s.heap h'->HOk X.prog X.w H h':=fun {a h'} ha hs b ob e=>by
  obtain ⟨_,_,hfree⟩:=ha
  refine (I.hok b ob e).stay (fun c w' hc q=>(hs.2 c ?_).trans q) (fun _ q=>q) fun _ _ q=>q
  rintro rfl
  rcases hc with rfl | hc
  ·rw [hfree] at e; cases e
  ·rw [hfree] at hc; cases hc
 rcases hx with hk | hk
 ·refine wpAny_storeName_local hk hn (fun h' hn' hs=>?_) hcls
  obtain ⟨oL,_,_,hoL,_⟩:=id hn
  refine h _ ⟨I.ok,I.os,I.bare,⟨fun b o e n hb hx=>?_,fun b o e n hb hx=>?_,I.base.free,fun b o e hx=>?_,I.base.tups,I.base.frzs,I.base.tbls⟩,⟨_,hn',fun j y v' e1 e2 e3=>?_⟩,fun y c e=>?_,I.free,I.freeC,fun p hp=>?_,tracked ⟨oL,hoL,I.free⟩ hs,by simpa using I.len⟩ ⟨_,hs,.inl rfl⟩
  ·exact (hs.2 b (Nat.ne_of_lt (Nat.lt_of_lt_of_le (Heap.lt_size e) I.ok.above))).trans (I.base.keep b o e n hb hx)
  ·obtain ⟨sl,e1⟩:=I.base.slot b o e n hb hx
   exact ⟨sl,(hs.2 b (Nat.ne_of_lt (Nat.lt_of_lt_of_le (Heap.lt_size e) I.ok.above))).trans e1⟩
  ·obtain ⟨o',e1⟩:=I.base.there b o e hx
   exact ⟨o',(hs.2 b (Nat.ne_of_lt (Nat.lt_of_lt_of_le (Heap.lt_size e) I.ok.above))).trans e1⟩
  ·by_cases hj:j = i
   ·subst hj
    rw [hi] at e1; cases e1
    rw [List.getElem?_set_self hiσ] at e2
    cases e2
    exact ⟨u,r,.inl ⟨hk,by simp⟩⟩
   ·rw [List.getElem?_set_ne (Ne.symm hj)] at e2
    obtain ⟨u',r',q⟩:=hl j y v' e1 e2 e3
    refine ⟨u',r',?_⟩
    rcases q with ⟨k,e⟩ | ⟨k,c,e,z⟩
    ·refine .inl ⟨k,?_⟩
     have:y ≠ x:=fun e=>hj (zkn hN e1 (e ▸ hi))
     simp [this,e]
    ·exact .inr ⟨k,c,e,z.sameBut hs (cne y c e)⟩
  ·obtain ⟨w',z⟩:=I.cell y c e
   exact ⟨w',z.sameBut hs (cne y c e)⟩
  ·obtain ⟨e,n,ne,nf,d⟩:=I.pin p hp
   exact ⟨(hs.2 p.1 ne).trans e,n,ne,nf,d⟩
 ·have hfn:X.fn x = true:=by
   rcases hf with z | z
   ·exact z
   ·rw [z] at hk; cases hk
  obtain ⟨c,hc⟩:=I.ok.has x (.inl hk)
  obtain ⟨w',z⟩:=I.cell x c hc
  refine wpAny_storeName_cell I.ok.kind hk hc z (fun h' hc' hs=>?_)
  obtain ⟨oc,hoc,hocd⟩:=id z
  refine h { s with heap:=h' } ⟨I.ok,I.os,I.bare,⟨fun b o e n hb hx=>?_,fun b o e n hb hx=>?_,I.base.free,fun b o e hx=>?_,I.base.tups,I.base.frzs,I.base.tbls⟩,⟨m,hn.sameBut hs (Ne.symm (cne x c hc)),fun j y v' e1 e2 e3=>?_⟩,fun y c' e=>?_,I.free,I.freeC,fun p hp=>?_,tracked ⟨oc,hoc,I.freeC x c hc⟩ hs,by simpa using I.len⟩ ⟨c,hs,.inr hc⟩
  ·exact (hs.2 b (Nat.ne_of_lt (Nat.lt_of_lt_of_le (Heap.lt_size e) (I.ok.cab x c hfn hc)))).trans (I.base.keep b o e n hb hx)
  ·obtain ⟨sl,e1⟩:=I.base.slot b o e n hb hx
   exact ⟨sl,(hs.2 b (Nat.ne_of_lt (Nat.lt_of_lt_of_le (Heap.lt_size e) (I.ok.cab x c hfn hc)))).trans e1⟩
  ·obtain ⟨o',e1⟩:=I.base.there b o e hx
   exact ⟨o',(hs.2 b (Nat.ne_of_lt (Nat.lt_of_lt_of_le (Heap.lt_size e) (I.ok.cab x c hfn hc)))).trans e1⟩
  ·by_cases hj:j = i
   ·subst hj
    rw [hi] at e1; cases e1
    rw [List.getElem?_set_self hiσ] at e2
    cases e2
    exact ⟨u,r,.inr ⟨.inl hk,c,hc,hc'⟩⟩
   ·rw [List.getElem?_set_ne (Ne.symm hj)] at e2
    obtain ⟨u',r',q⟩:=hl j y v' e1 e2 e3
    refine ⟨u',r',?_⟩
    rcases q with q | ⟨k,c',e,z'⟩
    ·exact .inl q
    ·refine .inr ⟨k,c',e,z'.sameBut hs ?_⟩
     rintro rfl
     exact hj (zkn hN e1 (I.ok.inj _ _ _ e hc ▸ hi))
  ·by_cases hcc:c' = c
   ·subst hcc; exact ⟨_,hc'⟩
   ·obtain ⟨w2,z2⟩:=I.cell y c' e
    exact ⟨w2,z2.sameBut hs hcc⟩
  ·obtain ⟨e,n,ne,nf,d⟩:=I.pin p hp
   refine ⟨(hs.2 p.1 ?_).trans e,n,ne,nf,d⟩
   intro q
   rw [q,hoc] at e
   have q':oc = p.2:=Option.some.inj e
   exact d w' (by rw [<- q']; exact hocd)
theorem zhJ {M:Model} {A:Around} {E:Value->Shared->Prop} {i:Nat} {x:Str} {v:V} {u:Value} {Q:Unit->Shared->Prop} (I:Inv X zk σ H s) (hN:X.N.Nodup) (hi:X.N[i]? = some x) (hx:Loc X.env.scope x) (r:RelV v u)
  (h:∀ s',Inv X zk (σ.set i (some v)) H s'->Q () s') (hf:X.fn x = true\/X.env.scope.names.lookup x = some .local:=by first | exact .inl rfl | exact .inr rfl | assumption):wpAny M A (storeName X.env x u) Q E s :=
 zlp I hN hi hx r (fun s' I' _=>h s' I') hf
theorem Inv.call' {s':Shared} {ch:List Addr} (I:Inv X zk σ H s) (ho:s'.os = s.os) (u:Un (frs X.stack) ch H H' s.heap s'.heap) (hok:HOk X.prog X.w H' s'.heap) (hg:AllBare s'.gens)
  (hch:∀ b ∈ ch,(b ∈ X.ex\/X.s₀.heap.objs.size <= b)/\b ≠ X.env.locals/\(∀ x c,X.env.cells.lookup x = some c->c ≠ b)/\∀ p ∈ X.pn ++ zk,p.1 ≠ b):Inv X zk σ H' s':=by
 obtain ⟨h',g',d',t',o'⟩:=s'
 have e:o' = s.os:=ho
 subst e
 exact I.call (g':=g') (t':=t') (d':=d') u hok hg hch
end
abbrev XK:=Value->Option Addr->Hp->Prop
abbrev St:=List (Option V)
abbrev VK:=V->Hp->Prop
abbrev TE:=St->Hp->VK->Prop
abbrev TT:=St->Hp->(Bool->Hp->Prop)->Prop
abbrev TA:=St->Hp->(List V->Hp->Prop)->Prop
structure Ends where
 nx:St->Hp->Prop
 rt:VK
 bk:St->Hp->Prop:=fun _ _=>False
 ct:St->Hp->Prop:=fun _ _=>False
abbrev TS:=Ends->St->Hp->Prop
def EP (X:Cx) (zk:List (Addr × Obj)) (σ:St) (Q:VK) (u:Value) (s':Shared):Prop:=∃ v H',Inv X zk σ H' s'/\RelV v u/\Q v H'
def TP (X:Cx) (zk:List (Addr × Obj)) (σ:St) (Q:Bool->Hp->Prop) (b:Bool) (s':Shared):Prop:=∃ H',Inv X zk σ H' s'/\Q b H'
def AP (X:Cx) (zk:List (Addr × Obj)) (σ:St) (Q:List V->Hp->Prop) (us:List Value) (s':Shared):Prop:=∃ vs H',Inv X zk σ H' s'/\Vals vs us/\Q vs H'
def SP (X:Cx) (zk:List (Addr × Obj)) (D:Ends) (f:Flow) (s':Shared):Prop :=
 match f with
 | .next=>∃ σ' H',Inv X zk σ' H' s'/\D.nx σ' H'
 | .brk=>∃ σ' H',Inv X zk σ' H' s'/\D.bk σ' H'
 | .cont=>∃ σ' H',Inv X zk σ' H' s'/\D.ct σ' H'
 | .ret u=>∃ v σ' H',Inv X zk σ' H' s'/\RelV v u/\D.rt v H'
def PE (X:Cx) (e:Expr) (t:TE):Prop :=
 ∀ (zk:List (Addr × Obj)) (s:Shared) (σ:St) (H:Hp) (Q:VK),Inv X zk σ H s->t σ H Q->wpAny (model X.prog X.w) X.A (eval e X.env) (EP X zk σ Q) X.xe s
def PT (X:Cx) (e:Expr) (t:TT):Prop :=
 ∀ (zk:List (Addr × Obj)) (s:Shared) (σ:St) (H:Hp) (Q:Bool->Hp->Prop),Inv X zk σ H s->t σ H Q->wpAny (model X.prog X.w) X.A (isTrue e X.env (eval e X.env)) (TP X zk σ Q) X.xe s
def PW (X:Cx) (e:Expr) (t:TT):Prop :=
 ∀ (whole:Sem Value) (zk:List (Addr × Obj)) (s:Shared) (σ:St) (H:Hp) (Q:Bool->Hp->Prop),Inv X zk σ H s->t σ H Q->wpAny (model X.prog X.w) X.A (isTrue e X.env whole) (TP X zk σ Q) X.xe s
theorem PW.pt {X:Cx} {e:Expr} {t:TT} (h:PW X e t):PT X e t:=h _
def PA (X:Cx) (es:List Expr) (t:TA):Prop :=
 ∀ (pos:Pos) (zk:List (Addr × Obj)) (s:Shared) (σ:St) (H:Hp) (Q:List V->Hp->Prop),Inv X zk σ H s->t σ H Q->wpAny (model X.prog X.w) X.A (spliced (backTo pos (starEach es X.env))) (AP X zk σ Q) X.xe s
def PS (X:Cx) (st:Stmt) (t:TS):Prop :=
 ∀ (zk:List (Addr × Obj)) (s:Shared) (σ:St) (H:Hp) (D:Ends),Inv X zk σ H s->t D σ H->wpAny (model X.prog X.w) X.A (exec st X.env) (SP X zk D) X.xe s
def PSs (X:Cx) (st:List Stmt) (t:TS):Prop :=
 ∀ (zk:List (Addr × Obj)) (s:Shared) (σ:St) (H:Hp) (D:Ends),Inv X zk σ H s->t D σ H->wpAny (model X.prog X.w) X.A (execs st X.env) (SP X zk D) X.xe s
theorem thn {α:Type} {t:Sem α} {Q Q':α->Shared->Prop} {M:Model} {A:Around} {E:Value->Shared->Prop} {s:Shared} (h:wpAny M A t Q E s) (hQ:∀ a s,Q a s->Q' a s):wpAny M A t Q' E s:=wpAny_mono h hQ fun _ _ x=>x
end
section
section
variable {X:Cx}
def znG (i:Nat):TE:=fun σ H Q=>∃ v,σ[i]? = some (some v)/\Q v H
def tC (v:V):TE:=fun _ H Q=>Q v H
theorem zss {i:Nat} {x:Str} {pos:Pos} (hN:X.N[i]? = some x) (hv:Vis X.env.scope x) (hd:(x == ("__debug__":Str)) = false:=by decide) (hcd:(x == ("__classdict__":Str)) = false:=by decide):PE X (.Name x pos) (znG i):=by
 intro zk s σ H Q I h
 obtain ⟨v,e,h⟩:=h
 obtain ⟨m,hn,hl⟩:=I.loc
 obtain ⟨u,r,l⟩:=hl i x v hN e hv
 have fin:EP X zk σ Q u s:=⟨v,H,I,r,h⟩
 rcases l with ⟨hk,hm⟩ | ⟨hk,c,hc,hcell⟩
 ·exact wpAny_Name (wpAny_loadName_local I.ok.kind hk hn hm fin) hd
 ·rcases hk with hk | hk
  ·exact wpAny_Name (wpAny_loadName_cell I.ok.kind hk hc hcell fin) hd
  ·exact wpAny_Name (wpAny_loadName_free I.ok.kind hk hc hcell fin hcd) hd
theorem zf {i j pos}:PE X (.Constant (.int i) j pos) (tC (.int i)):=fun _ _ _ H _ I h=>wpAny_Constant_int ⟨.int i,H,I.tok _,⟨_,rfl⟩,h⟩
theorem zhB {b j pos}:PE X (.Constant (.bool b) j pos) (tC (.bl b)):=fun _ _ _ H _ I h=>Constant_bool ⟨.bl b,H,I,rfl,h⟩
theorem zd7 {x j pos}:PE X (.Constant (.str x) j pos) (tC (.str x)):=fun _ _ _ H _ I h=>Calls.Constant_str ⟨.str x,H,I.tok _,⟨_,rfl⟩,h⟩
def Gl (X:Cx) (x:Str):Prop:=X.env.kindOf x = some .globalImplicit
theorem zlw {E:Value->Shared->Prop} {zk:List (Addr × Obj)} {s:Shared} {σ:St} {H:Hp} {x:Str} {u:Value} {pos:Pos} {Q:Value->Shared->Prop} (I:Inv X zk σ H s) (hg:Gl X x) (hm:X.mg x = some u) (h:Q u s)
  (hd:(x == ("__debug__":Str)) = false:=by decide):wpAny (model X.prog X.w) X.A (eval (.Name x pos) X.env) Q E s :=
 Calls.Name_function_global I.ok.kind hg (Calls.loadGlobal_global (by rw [I.ok.glob]; exact I.mod.glob.keeps I.bk) hm h) hd
theorem zfM {E:Value->Shared->Prop} {zk:List (Addr × Obj)} {s:Shared} {σ:St} {H:Hp} {x:Str} {u:Value} {pos:Pos} {Q:Value->Shared->Prop} (I:Inv X zk σ H s) (hg:Gl X x) (hm:X.mg x = none) (hv:bootBuiltins x = some u) (h:Q u s)
  (hn:x ≠ "__name__":=by decide) (hd:(x == ("__debug__":Str)) = false:=by decide):wpAny (model X.prog X.w) X.A (eval (.Name x pos) X.env) Q E s:=by
 obtain ⟨mb,h1,h2⟩:=I.mod.blt
 exact Calls.Name_function_global I.ok.kind hg (Calls.loadGlobal_builtin (by rw [I.ok.glob]; exact I.mod.glob.keeps I.bk) hm (by rw [I.ok.blt]; exact h1.keeps I.bk) ((h2 x hn).trans hv) h) hd
theorem zqA {x:Str} {v:V} {u:Value} {pos:Pos} (hg:Gl X x) (hm:X.mg x = some u) (r:RelV v u) (hd:(x == ("__debug__":Str)) = false:=by decide):PE X (.Name x pos) (tC v) :=
 fun _ _ _ H _ I h=>zlw I hg hm ⟨v,H,I,r,h⟩ hd
theorem zjo {x:Str} {v:V} {u:Value} {pos:Pos} (hg:Gl X x) (hm:X.mg x = none) (hv:bootBuiltins x = some u) (r:RelV v u) (hn:x ≠ "__name__":=by decide) (hd:(x == ("__debug__":Str)) = false:=by decide):PE X (.Name x pos) (tC v) :=
 fun _ _ _ H _ I h=>zfM I hg hm hv ⟨v,H,I,r,h⟩ hn hd
variable {a b:Expr} {ta tb:TE} {pos:Pos}
variable {tA tB':TT} {rest:List Expr}
def ztv (t u:TT):TT:=fun σ H Q=>t σ H fun c H1=>if c = true then u σ H1 Q else Q false H1
def tOr (t u:TT):TT:=fun σ H Q=>t σ H fun c H1=>if c = true then Q true H1 else u σ H1 Q
def ztu (t:TT):TT:=fun σ H Q=>t σ H fun c H1=>Q (!c) H1
theorem zf8 (ha:PT X a tA):PW X (.BoolOp .And [a] pos) tA:=by
 intro wh zk s σ H Q I h
 refine isTrue_and (thn (ha zk s σ H Q I h) fun c s1 e=>?_)
 cases c with
 | true=>exact isTrue_and_nil e
 | false=>exact e
theorem zlW (ha:PT X a tA):PW X (.BoolOp .Or [a] pos) tA:=by
 intro wh zk s σ H Q I h
 refine isTrue_or (thn (ha zk s σ H Q I h) fun c s1 e=>?_)
 cases c with
 | false=>exact isTrue_or_nil e
 | true=>exact e
theorem ziK (ha:PT X a tA) (hb:PW X (.BoolOp .And (b :: rest) pos) tB'):PW X (.BoolOp .And (a :: b :: rest) pos) (ztv tA tB'):=by
 intro wh zk s σ H Q I h
 refine isTrue_and (thn (ha zk s σ H _ I h) fun c s1 ⟨H1,I1,q1⟩=>?_)
 cases c with
 | true=>exact hb wh zk s1 σ H1 Q I1 q1
 | false=>exact ⟨H1,I1,q1⟩
theorem zqN (ha:PT X a tA) (hb:PW X (.BoolOp .Or (b :: rest) pos) tB'):PW X (.BoolOp .Or (a :: b :: rest) pos) (tOr tA tB'):=by
 intro wh zk s σ H Q I h
 refine isTrue_or (thn (ha zk s σ H _ I h) fun c s1 ⟨H1,I1,q1⟩=>?_)
 cases c with
 | true=>exact ⟨H1,I1,q1⟩
 | false=>exact hb wh zk s1 σ H1 Q I1 q1
theorem zfl (ha:PT X a tA):PT X (.UnaryOp .Not a pos) (ztu tA):=by
 intro zk s σ H Q I h
 exact isTrue_not (ha zk s σ H (fun c H1=>Q (!c) H1) I h)
def zsk (ta tb:TE):TE:=fun σ H Q=>ta σ H fun x H1=>∃ c,x = .bl c/\if c = true then tb σ H1 Q else Q (.bl false) H1
def zsH (ta:TE):TE:=fun σ H Q=>ta σ H fun x H1=>∃ c,x = .bl c/\Q (.bl (!c)) H1
theorem znA {op} {t:TE} (h:PE X a t):PE X (.BoolOp op [a] pos) t:=fun zk s σ H Q I hw=>BoolOp_one (h zk s σ H Q I hw)
theorem zmS (ha:PE X a ta) (hb:PE X (.BoolOp .And (b :: rest) pos) tb):PE X (.BoolOp .And (a :: b :: rest) pos) (zsk ta tb):=by
 intro zk s σ H Q I h
 refine BoolOp_and (thn (ha zk s σ H _ I h) fun v s1 ⟨x,H1,I1,r1,q1⟩=>?_)
 obtain ⟨c,rfl,q1⟩:=q1
 cases r1
 refine wpAny_truthy_bool ?_
 cases c with
 | true=>exact hb zk s1 σ H1 Q I1 q1
 | false=>exact ⟨.bl false,H1,I1,rfl,q1⟩
theorem zsF (ha:PE X a ta):PE X (.UnaryOp .Not a pos) (zsH ta):=by
 intro zk s σ H Q I h
 refine UnaryOp_ (thn (ha zk s σ H _ I h) fun v s1 ⟨x,H1,I1,r1,q1⟩=>?_)
 obtain ⟨c,rfl,q1⟩:=q1
 cases r1
 exact not_of (wpAny_truthy_bool ⟨.bl (!c),H1,I1,rfl,q1⟩)
end
end
section
def SqL (K:W.Frag) (H:Hp) (a:Addr) (xs:List V):Prop :=
 Rd H a (.lst xs) \/
  ∃ (o:Obj) (its:Array Value) (n:Nat),K.lookup a = some o/\o.cls = .type "list"/\o.dict = none/\o.data = .seq its n/\its.size <= sizeLine/\Vals xs its.toList
def SqT (K:W.Frag) (H:Hp) (a:Addr) (xs:List V):Prop :=
 Rd H a (.tup xs) \/
  ∃ (o:Obj) (its:Array Value) (n:Nat),K.lookup a = some o/\o.cls = .type "tuple"/\o.data = .seq its n/\its.size <= sizeLine/\Vals xs its.toList
def zt0:Value->Option V
 | .none=>some .non
 | .bool b=>some (.bl b)
 | .int i _=>some (.int i)
 | .str x _=>some (.str x)
 | .bytes b _=>some (.byt b)
 | .float b _=>some (.flt b)
 | .ref a=>some (.ref a)
 | .type n=>some (.ty n)
 | _=>none
theorem RelV.abs {x:V} {u:Value} (r:RelV x u):zt0 u = some x:=by
 cases x with
 | non=>cases r; rfl
 | bl _=>cases r; rfl
 | int _=>obtain ⟨t,rfl⟩:=r; rfl
 | str _=>obtain ⟨t,rfl⟩:=r; rfl
 | byt _=>obtain ⟨t,rfl⟩:=r; rfl
 | flt _=>obtain ⟨t,rfl⟩:=r; rfl
 | ref _=>cases r; rfl
 | ty _=>cases r; rfl
theorem RelV.inj {x y:V} {u:Value} (r:RelV x u) (q:RelV y u):x = y:=Option.some.inj (r.abs.symm.trans q.abs)
theorem Vals.inj:∀ {xs ys:List V} {us:List Value},Vals xs us->Vals ys us->xs = ys
 | _,_,_,.nil,.nil=>rfl
 | _,_,_,.cons r t,.cons r' t'=>by rw [r.inj r',Vals.inj t t']
section
variable {X:Cx} {zk:List (Addr × Obj)} {σ:St} {H:Hp} {s:Shared} {a:Addr} {xs ys:List V}
theorem SqL.of {K:W.Frag} (h:H a = some (.lst xs)):SqL K H a xs:=.inl (.inl h)
theorem SqT.of {K:W.Frag} (h:H a = some (.tup xs)):SqT K H a xs:=.inl (.inl h)
theorem Inv.list (I:Inv X zk σ H s) (h:SqL X.K H a xs):∃ its:List Value,Vals xs its/\PlainL s.heap a its.toArray/\xs.length <= sizeLine:=by
 rcases h with h | ⟨o,its,n,hk,hc,hd,hs,hz,r⟩
 ·obtain ⟨z,its,n,r,e⟩:=h.ok I.hok
  exact ⟨its,r,⟨_,n,e,rfl,rfl,rfl⟩,z⟩
 ·refine ⟨its.toList,r,⟨o,n,I.kIn a o hk,hc,hd,by simpa using hs⟩,?_⟩
  have e:=r.length
  simp only [Array.length_toList] at e
  omega
theorem Inv.tuple (I:Inv X zk σ H s) (h:SqT X.K H a xs):∃ its:List Value,Vals xs its/\IsTup s.heap a its.toArray/\xs.length <= sizeLine:=by
 rcases h with h | ⟨o,its,n,hk,hc,hs,hz,r⟩
 ·obtain ⟨z,its,r,p⟩:=h.ok I.hok
  exact ⟨its,r,p,z.1⟩
 ·refine ⟨its.toList,r,⟨o,I.kIn a o hk,hc,n,by simpa using hs⟩,?_⟩
  have e:=r.length
  simp only [Array.length_toList] at e
  omega
theorem Inv.list_inj (I:Inv X zk σ H s) (h:SqL X.K H a xs) (h':SqL X.K H a ys):xs = ys:=by
 obtain ⟨its,r,⟨o,n,e,_,_,d⟩,_⟩:=I.list h
 obtain ⟨its',r',⟨o',n',e',_,_,d'⟩,_⟩:=I.list h'
 rw [e] at e'; cases e'
 rw [d] at d'
 injection d' with d1 _
 have:its = its':=by simpa using congrArg Array.toList d1
 subst this
 exact r.inj r'
theorem Inv.tuple_inj (I:Inv X zk σ H s) (h:SqT X.K H a xs) (h':SqT X.K H a ys):xs = ys:=by
 obtain ⟨its,r,⟨o,e,_,n,d⟩,_⟩:=I.tuple h
 obtain ⟨its',r',⟨o',e',_,n',d'⟩,_⟩:=I.tuple h'
 rw [e] at e'; cases e'
 rw [d] at d'
 injection d' with d1 _
 have:its = its':=by simpa using congrArg Array.toList d1
 subst this
 exact r.inj r'
end
abbrev Cx.wish (X:Cx) (E:Value->Shared->Prop):Cx:={ X with xe:=E }
abbrev Cx.nox (X:Cx):Cx:=X.wish fun _ _=>False
theorem Cx.Ok.wish {X:Cx} (ok:X.Ok) (E:Value->Shared->Prop):(X.wish E).Ok :=
 ⟨ok.mod,ok.kind,ok.glob,ok.blt,ok.above,ok.inj,ok.has,ok.cab,ok.hd,ok.frames,ok.stk,ok.exf,ok.bs,ok.bsz,ok.noex,ok.exfs,ok.funs,ok.frf⟩
theorem Cx.Ok.unwish {X:Cx} {E:Value->Shared->Prop} (ok:(X.wish E).Ok):X.Ok :=
 ⟨ok.mod,ok.kind,ok.glob,ok.blt,ok.above,ok.inj,ok.has,ok.cab,ok.hd,ok.frames,ok.stk,ok.exf,ok.bs,ok.bsz,ok.noex,ok.exfs,ok.funs,ok.frf⟩
section
variable {X:Cx} {zk:List (Addr × Obj)} {σ:St} {H:Hp} {s:Shared} {E:Value->Shared->Prop}
theorem Inv.wish (I:Inv X zk σ H s) (E:Value->Shared->Prop):Inv (X.wish E) zk σ H s:=⟨I.ok.wish E,I.os,I.bare,I.base,I.loc,I.cell,I.free,I.freeC,I.pin,I.hok,I.len⟩
theorem Inv.unwish (I:Inv (X.wish E) zk σ H s):Inv X zk σ H s:=⟨I.ok.unwish,I.os,I.bare,I.base,I.loc,I.cell,I.free,I.freeC,I.pin,I.hok,I.len⟩
theorem SP.unwish {D:Ends} {f:Flow} {s':Shared} (h:SP (X.wish E) zk D f s'):SP X zk D f s':=by
 cases f with
 | next=>obtain ⟨σ',H',I,q⟩:=h; exact ⟨σ',H',I.unwish,q⟩
 | brk=>obtain ⟨σ',H',I,q⟩:=h; exact ⟨σ',H',I.unwish,q⟩
 | cont=>obtain ⟨σ',H',I,q⟩:=h; exact ⟨σ',H',I.unwish,q⟩
 | ret u=>obtain ⟨v,σ',H',I,r,q⟩:=h; exact ⟨v,σ',H',I.unwish,r,q⟩
theorem PSs.nox {st:List Stmt} {t:TS} (h:PSs X.nox st t):PSs X st t:=fun zk s σ H D I hw =>
 wpAny_mono (h zk s σ H D (I.wish _) hw) (fun _ _ q=>q.unwish) fun _ _ z=>False.elim z
end
section
variable {X:Cx} {st:Stmt} {rest:List Stmt} {t u:TS} {e:Expr} {te:TE} {pos:Pos}
def zp6:TS:=fun D σ H=>D.nx σ H
def znI (t u:TS):TS:=fun D σ H=>t { D with nx:=u D } σ H
theorem zai:PSs X [] zp6:=fun _ _ σ H _ I h=>wpAny_execs_nil ⟨σ,H,I,h⟩
theorem zj (h1:PS X st t) (h2:PSs X rest u):PSs X (st :: rest) (znI t u):=by
 intro zk s σ H D I h
 refine wpAny_execs_cons (thn (h1 zk s σ H { D with nx:=u D } I h) fun f s1 q=>?_)
 cases f with
 | next =>
  obtain ⟨σ',H',I',q⟩:=q
  exact h2 zk s1 σ' H' D I' q
 | ret v=>exact q
 | brk=>exact q
 | cont=>exact q
theorem zr (h1:PS X st t):PSs X [st] t:=by
 intro zk s σ H D I h
 refine wpAny_execs_cons (thn (h1 zk s σ H D I h) fun f s1 q=>?_)
 cases f with
 | next=>exact wpAny_execs_nil q
 | ret v=>exact q
 | brk=>exact q
 | cont=>exact q
theorem Inv.quiet {zk:List (Addr × Obj)} {σ:St} {H:Hp} {s:Shared} (I:Inv X zk σ H s):interactive X.env = false:=by simp [interactive,I.ok.kind]
def zrh (te:TE):TS:=fun D σ H=>te σ H fun _ H1=>D.nx σ H1
theorem zec (he:PE X e te) (hs:swapsWith e none pos.line X.env = pure false:=by rfl):PS X (.Expr e pos) (zrh te):=by
 intro zk s σ H D I h
 exact wpAny_Expr_any (thn (he zk s σ H _ I h) fun v s1 ⟨x,H1,I1,r1,q1⟩=>⟨σ,H1,I1,q1⟩) I.quiet hs
def ztl (te:TE):TS:=fun D σ H=>te σ H D.rt
theorem zO (he:PE X e te):PS X (.Return (some e) pos) (ztl te):=by
 intro zk s σ H D I h
 exact wpAny_Return_some (thn (he zk s σ H _ I h) fun v s1 ⟨x,H1,I1,r1,q1⟩=>⟨x,σ,H1,I1,r1,q1⟩)
def zsR (c:TT) (t u:TS):TS:=fun D σ H=>c σ H fun b H1=>if b = true then t D σ H1 else u D σ H1
theorem zbQ {c:Expr} {a b:List Stmt} {tc:TT} (hc:PT X c tc) (ha:PSs X a t) (hb:PSs X b u):PS X (.If c a b pos) (zsR tc t u):=by
 intro zk s σ H D I h
 refine wpAny_If (thn (hc zk s σ H _ I h) fun d s1 ⟨H1,I1,q1⟩=>?_)
 cases d with
 | true=>exact ha zk s1 σ H1 D I1 q1
 | false=>exact hb zk s1 σ H1 D I1 q1
def zpQ:TS:=fun _ _ _=>False
theorem zhy:PS X st zpQ:=fun _ _ _ _ _ _ h=>h.elim
end
abbrev TG:=V->St->Hp->(St->Hp->Prop)->Prop
abbrev TGs:=List V->St->Hp->(St->Hp->Prop)->Prop
def PG (X:Cx) (target:Expr) (t:TG):Prop :=
 ∀ (zk:List (Addr × Obj)) (s:Shared) (σ:St) (H:Hp) (v:V) (u:Value) (Q:St->Hp->Prop),Inv X zk σ H s->RelV v u->t v σ H Q ->
  wpAny (model X.prog X.w) X.A (assign target X.env u) (fun _ s'=>∃ σ' H',Inv X zk σ' H' s'/\Q σ' H') X.xe s
def PGs (X:Cx) (ts:List Expr) (t:TGs):Prop :=
 ∀ (zk:List (Addr × Obj)) (s:Shared) (σ:St) (H:Hp) (vs:List V) (us:List Value) (Q:St->Hp->Prop),Inv X zk σ H s->Vals vs us->t vs σ H Q ->
  wpAny (model X.prog X.w) X.A (assignInOrder ((assignEach ts X.env).map (·.2)) us) (fun _ s'=>∃ σ' H',Inv X zk σ' H' s'/\Q σ' H') X.xe s
abbrev TSet:=V->V->V->Hp->(Hp->Prop)->Prop
def PSet (X:Cx) (t:TSet):Prop :=
 ∀ (zk:List (Addr × Obj)) (s:Shared) (σ:St) (H:Hp) (o i v:V) (ov iv u:Value) (Q:Hp->Prop),Inv X zk σ H s->RelV o ov->RelV i iv->RelV v u->t o i v H Q ->
  wpAny (model X.prog X.w) X.A (setItem ov iv u) (fun _ s'=>∃ H',Inv X zk σ H' s'/\Q H') X.xe s
section
variable {X:Cx} {pos:Pos}
def ziF (i:Nat):TG:=fun v σ H Q=>Q (σ.set i (some v)) H
theorem zE {i:Nat} {x:Str} (hN:X.N.Nodup) (hi:X.N[i]? = some x) (hx:Loc X.env.scope x) (hf:X.fn x = true\/X.env.scope.names.lookup x = some .local:=by first | exact .inl rfl | exact .inr rfl | assumption):PG X (.Name x pos) (ziF i):=by
 intro zk s σ H v u Q I r h
 exact wpAny_assign_Name (zhJ I hN hi hx r (fun s' I'=>⟨_,H,I',h⟩) hf)
def ztY:TGs:=fun vs σ H Q=>vs = []/\Q σ H
def zrn (t:TG) (u:TGs):TGs:=fun vs σ H Q=>∃ v r,vs = v :: r/\t v σ H fun σ' H'=>u r σ' H' Q
theorem zbv:PGs X [] ztY:=by
 intro zk s σ H vs us Q I r h
 obtain ⟨e,h⟩:=h
 subst e
 cases r
 exact assignInOrder_nil ⟨σ,H,I,h⟩
theorem zQ {e:Expr} {es:List Expr} {t:TG} {u:TGs} (h1:PG X e t) (h2:PGs X es u)
  (hs:(assignEach (e :: es) X.env).map (·.2) = assign e X.env :: (assignEach es X.env).map (·.2):=by rfl):PGs X (e :: es) (zrn t u):=by
 intro zk s σ H vs us Q I r h
 obtain ⟨v,vr,e1,h⟩:=h
 subst e1
 cases r with
 | cons r rr =>
  rw [hs]
  refine assignInOrder_cons (thn (h1 zk s σ H _ _ _ I r h) fun _ s1 ⟨σ1,H1,I1,q1⟩=>?_)
  exact h2 zk s1 σ1 H1 _ _ Q I1 rr q1
def ztW (K:W.Frag) (n:Nat) (t:TGs):TG:=fun v σ H Q=>∃ a xs,v = .ref a/\SqT K H a xs/\xs.length = n/\t xs σ H Q
theorem zcv {es:List Expr} {k:Nat} {t:TGs} {n:Nat} (hc:X.calm = true) (h:PGs X es t)
  (hn:(assignEach es X.env).length = n:=by rfl) (hst:(assignEach es X.env).findIdx? (·.1) = none:=by rfl):PG X (.Tuple es k pos) (ztW X.K n t):=by
 intro zk s σ H v u Q I r hw
 obtain ⟨a,xs,e1,hq,hl,hw⟩:=hw
 subst e1
 cases r
 obtain ⟨its,rv,ht,hz⟩:=I.tuple hq
 refine assign_Tuple_tuple (I.ok.hd hc) ht (by simp [hn,<- hl,rv.length]) hst fun h' hx=>?_
 have I1:Inv X zk σ H { s with heap:=h' }:=I.kept (t':=s.toks) fun b o e=>hx b o (Nat.ne_of_lt (Heap.lt_size e)) e
 exact h zk _ σ H xs _ Q I1 (by simpa using rv) hw
def ztQ (to ti:TE) (t:TSet):TG:=fun v σ H Q=>to σ H fun o H1=>ti σ H1 fun i H2=>t o i v H2 fun H3=>Q σ H3
theorem zo8 {o i:Expr} {to ti:TE} {t:TSet} (ho:PE X o to) (hi:PE X i ti) (hs:PSet X t)
  (ha:∀ v,assign (.Subscript o i pos) X.env v = (do
   let ov <- holding [v] (eval o X.env)
   let iv <- holding [v,ov] (eval i X.env)
   standAt pos
   holding [v,ov,iv] (setItem ov iv v)
   release [v,ov,iv] []):=by intro _; rfl):PG X (.Subscript o i pos) (ztQ to ti t):=by
 intro zk s σ H v u Q I r h
 rw [ha]
 refine wpAny_bind (wpAny_holding (thn (ho zk s σ H _ I h) fun ov s1 ⟨x,H1,I1,r1,q1⟩=>?_))
 refine wpAny_bind (wpAny_holding (thn (hi zk s1 σ H1 _ I1 q1) fun iv s2 ⟨y,H2,I2,r2,q2⟩=>?_))
 refine wpAny_bind (wpAny_standAt (wpAny_bind (wpAny_holding (thn (hs zk s2 σ H2 x y v ov iv u _ I2 r1 r2 r q2) fun _ s3 ⟨H3,I3,q3⟩=>?_))))
 exact wpAny_release ⟨σ,H3,I3,q3⟩
def zq3 (te:TE) (g:TG):TS:=fun D σ H=>te σ H fun x H1=>g x σ H1 D.nx
theorem ziC {tg e:Expr} {te:TE} {g:TG} (he:PE X e te) (hg:PG X tg g) (hs:swapsWithSole [tg] e pos.line X.env = pure false:=by rfl) (hw:swappedStores [tg] e X.env = pure none:=by rfl)
  (h1:(assignEach [tg] X.env).map (·.2) = [assign tg X.env]:=by rfl):PS X (.Assign [tg] e pos) (zq3 te g):=by
 intro zk s σ H D I h
 refine wpAny_Assign_stores (thn (he zk s σ H _ I h) fun v s1 ⟨x,H1,I1,r1,q1⟩=>?_) hs hw
 rw [h1]
 exact thn (hg zk s1 σ H1 x v _ I1 r1 q1) fun _ s2 q=>q
theorem zD {i:Nat} {x:Str} {e:Expr} {te:TE} {pos':Pos} (hN:X.N.Nodup) (hi:X.N[i]? = some x) (hx:Loc X.env.scope x) (he:PE X e te) (hs:swapsWith e (some (.Name x pos')) pos.line X.env = pure false:=by rfl) (hf:X.fn x = true\/X.env.scope.names.lookup x = some .local:=by first | exact .inl rfl | exact .inr rfl | assumption) :
  PS X (.Assign [.Name x pos'] e pos) (zq3 te (ziF i)):=by
 intro zk s σ H D I h
 refine wpAny_Assign_Name (thn (he zk s σ H _ I h) fun v s1 ⟨y,H1,I1,r1,q1⟩=>?_) hs
 exact zhJ I1 hN hi hx r1 (fun s2 I2=>⟨_,H1,I2,q1⟩) hf
end
structure It where
 go:Nat->Hp->Prop
 yld:Nat->Hp->V->Hp->Prop
 stop:Nat->Hp->Prop
def FpOk (X:Cx) (zk:List (Addr × Obj)) (H:Hp) (b:Addr):Prop :=
 H b = none/\b ≠ X.env.locals/\b ∉ X.fs/\(b ∈ X.ex\/X.s₀.heap.objs.size <= b)/\(∀ x c,X.env.cells.lookup x = some c->c ≠ b)/\∀ p ∈ X.pn ++ zk,p.1 ≠ b
theorem Inv.fpOk {X:Cx} {zk:List (Addr × Obj)} {σ:St} {H H':Hp} {s:Shared} {b:Addr} (I:Inv X zk σ H s) (hb:s.heap.objs.size <= b) (hn:H' b = none):FpOk X zk H' b:=by
 refine ⟨hn,Nat.ne_of_gt (Nat.lt_of_lt_of_le I.lt hb),I.nofs hb,.inr (Nat.le_trans I.sz hb),fun x c e z=>?_,fun p hp z=>?_⟩
 ·obtain ⟨v,q⟩:=I.cell x c e
  exact absurd (Nat.lt_of_lt_of_le q.lt (by rw [z]; exact hb)) (Nat.lt_irrefl _)
 ·exact absurd (Nat.lt_of_lt_of_le (Heap.lt_size (I.pin p hp).1) (by rw [z]; exact hb)) (Nat.lt_irrefl _)
structure Turn (P:Program) (w:World) (K:W.Frag) (tg:Expr) (J:It) (fp:List Addr) (it:Addr) (tn:Nat->Heap->Prop):Prop where
 mem:it ∈ fp
 obj:∀ i h,tn i h->∀ b ∈ fp,∃ o,h.get? b = some o/\∀ v,o.data ≠ .cell v
 keep:∀ i h h',tn i h->(∀ b ∈ fp,∀ o,h.get? b = some o->h'.get? b = some o)->tn i h'
 item:∀ (X:Cx),X.prog = P->X.w = w->X.K = K->X.calm = true->∀ (i:Nat) (zk:List (Addr × Obj)) (s:Shared) (σ:St) (H:Hp) (E:Value->Shared->Prop),Inv X zk σ H s->(∀ b ∈ fp,FpOk X zk H b)->tn i s.heap->J.go i H ->
  wpAny (model P w) X.A (pyNext (.ref it)) (fun r s1=>∃ u,r = some u /\
   wpAny (model P w) X.A (letOwnedTupleGo tg (.ref it) u) (fun _ s2=>∃ x H',Inv X zk σ H' s2/\RelV x u/\J.yld i H x H'/\tn (i + 1) s2.heap/\∀ b ∈ fp,H' b = none) E s1) E s
 done:∀ (X:Cx),X.prog = P->X.w = w->X.K = K->X.calm = true->∀ (i:Nat) (zk:List (Addr × Obj)) (s:Shared) (σ:St) (H:Hp) (E:Value->Shared->Prop),Inv X zk σ H s->(∀ b ∈ fp,FpOk X zk H b)->tn i s.heap->J.stop i H ->
  wpAny (model P w) X.A (pyNext (.ref it)) (fun r s1=>r = none/\Inv X zk σ H s1) E s
 self:∀ (A:Around) (i:Nat) (s:Shared) (Q:Value->Shared->Prop) (E:Value->Shared->Prop),tn i s.heap->Q (.ref it) s->wpAny (model P w) A (pyIter (.ref it)) Q E s
abbrev TI:=St->Hp->(It->Hp->Prop)->Prop
def PIE (X:Cx) (zk:List (Addr × Obj)) (σ:St) (tg:Expr) (R:It->Hp->Prop) (itv:Value) (s2:Shared):Prop :=
 ∃ (it:Addr) (fp:List Addr) (tn:Nat->Heap->Prop) (J:It) (H':Hp),itv = .ref it/\Inv X zk σ H' s2/\Turn X.prog X.w X.K tg J fp it tn/\tn 0 s2.heap/\(∀ b ∈ fp,FpOk X zk H' b)/\R J H'
def PI (X:Cx) (tg iter:Expr) (wi:TI):Prop :=
 ∀ (zk:List (Addr × Obj)) (s:Shared) (σ:St) (H:Hp) (R:It->Hp->Prop),Inv X zk σ H s->wi σ H R ->
  wpAny (model X.prog X.w) X.A (eval iter X.env) (fun v s1=>wpAny (model X.prog X.w) X.A (pyIter v) (PIE X zk σ tg R) X.xe s1) X.xe s
theorem zmK {M:Model} {A:Around} {E:Value->Shared->Prop} {s:Shared} {tg:Expr} {it:Addr} {u:Value} {o:Obj} {n:String} {vs:Array Value} {Q:Unit->Shared->Prop} (ho:s.heap.get? it = some o) (hc:o.cls = .type n) (hd:o.data = .fields vs)
    (hn:["enumerate","zip","dict_itemiterator","dict_reverseitemiterator","odict_iterator","itertools.zip_longest","itertools.pairwise"].contains n = false) (hQ:Q () s):wpAny M A (letOwnedTupleGo tg (.ref it) u) Q E s:=by
  unfold letOwnedTupleGo
  cases tg <;> first
    | exact wpAny_pure hQ
    | (cases u <;> first
        | exact wpAny_pure hQ
        | (refine wpAny_bind (wpAny_load ho ?_)
           rw [hc,hd]
           show wpAny M A (if (["enumerate","zip","dict_itemiterator","dict_reverseitemiterator","odict_iterator","itertools.zip_longest","itertools.pairwise"].contains n && vs[0]? == some (rawInt _)) = true then _ else _) Q E s
           rw [if_neg (by intro h; rw [hn,Bool.false_and] at h; cases h)]
           exact wpAny_pure hQ))
def Itl (K:W.Frag) (a:Addr):It :=
 ⟨fun i H=>∃ xs x,SqL K H a xs/\xs[i]? = some x,fun i H x H'=>H' = H/\∀ xs,SqL K H a xs->xs[i]? = some x,fun i H=>∃ xs,SqL K H a xs/\xs.length <= i⟩
def Itt (K:W.Frag) (a:Addr):It :=
 ⟨fun i H=>∃ xs x,SqT K H a xs/\xs[i]? = some x,fun i H x H'=>H' = H/\∀ xs,SqT K H a xs->xs[i]? = some x,fun i H=>∃ xs,SqT K H a xs/\xs.length <= i⟩
def Itr (lo:Int) (n:Nat):It:=⟨fun i _=>i < n,fun i H x H'=>H' = H/\x = .int (lo + i),fun i _=>n <= i⟩
theorem zhY {P:Program} {w:World} {K:W.Frag} {tg:Expr} (a it:Addr):Turn P w K tg (Itl K a) [it] it (fun i h=>h.IsListIter it a i) where
 mem:=by simp
 obj:=fun i h st b hb=>by
  have e:b = it:=by simpa using hb
  subst e
  obtain ⟨o,e,c,d⟩:=st
  exact ⟨o,e,fun v z=>by rw [d] at z; cases z⟩
 keep:=fun i h h' st k=>st.at fun o e=>k it (by simp) o e
 item:=by
  intro X hP hw hK hc i zk s σ H E I hf st hg
  subst hP hw hK
  obtain ⟨xs,x,hq,hx⟩:=hg
  obtain ⟨its,rv,p,hz⟩:=I.list hq
  obtain ⟨u,hu,ru⟩:=rv.get hx
  obtain ⟨f0,f1,f2,f3,f4,f5⟩:=hf it (by simp)
  refine wpAny_pyNext_list_item st p.isList (x:=u) (by simpa using hu) fun h' st' sb=>?_
  have I1:Inv X zk σ H { s with heap:=h' }:=I.turned (t':=s.toks) (fun b o hb e=>(sb.2 b hb).trans e) f0 f1 f3 f4 f5
  obtain ⟨o,e,c,d⟩:=id st'
  exact ⟨u,rfl,zmK (s:={ s with heap:=h' }) e c d (by decide) ⟨x,H,I1,ru,⟨rfl,fun ys hy=>by rw [I.list_inj hy hq]; exact hx⟩,st',fun b hb=>(hf b hb).1⟩⟩
 done:=by
  intro X hP hw hK hc i zk s σ H E I hf st hg
  subst hP hw hK
  obtain ⟨xs,hq,hx⟩:=hg
  obtain ⟨its,rv,p,hz⟩:=I.list hq
  obtain ⟨f0,f1,f2,f3,f4,f5⟩:=hf it (by simp)
  have hl:=rv.length
  exact wpAny_pyNext_list_end (I.ok.hd hc) st p.isList (by simp; omega) fun h' eb=>⟨rfl,I.turned (t':=s.toks) (fun b o hb e=>eb b o hb e) f0 f1 f3 f4 f5⟩
 self:=fun _ _ _ _ _ st h=>wpAny_pyIter_listiter st h
theorem zlb {P:Program} {w:World} {K:W.Frag} {tg:Expr} (a it:Addr):Turn P w K tg (Itt K a) [it] it (fun i h=>h.IsTupleIter it a i) where
 mem:=by simp
 obj:=fun i h st b hb=>by
  have e:b = it:=by simpa using hb
  subst e
  obtain ⟨o,e,c,d⟩:=st
  exact ⟨o,e,fun v z=>by rw [d] at z; cases z⟩
 keep:=fun i h h' st k=>st.at fun o e=>k it (by simp) o e
 item:=by
  intro X hP hw hK hc i zk s σ H E I hf st hg
  subst hP hw hK
  obtain ⟨xs,x,hq,hx⟩:=hg
  obtain ⟨its,rv,p,hz⟩:=I.tuple hq
  obtain ⟨u,hu,ru⟩:=rv.get hx
  obtain ⟨f0,f1,f2,f3,f4,f5⟩:=hf it (by simp)
  refine wpAny_pyNext_tuple_item st (show s.heap.IsTuple a its.toArray from p) (x:=u) (by simpa using hu) fun h' st' sb=>?_
  have I1:Inv X zk σ H { s with heap:=h' }:=I.turned (t':=s.toks) (fun b o hb e=>(sb.2 b hb).trans e) f0 f1 f3 f4 f5
  obtain ⟨o,e,c,d⟩:=id st'
  exact ⟨u,rfl,zmK (s:={ s with heap:=h' }) e c d (by decide) ⟨x,H,I1,ru,⟨rfl,fun ys hy=>by rw [I.tuple_inj hy hq]; exact hx⟩,st',fun b hb=>(hf b hb).1⟩⟩
 done:=by
  intro X hP hw hK hc i zk s σ H E I hf st hg
  subst hP hw hK
  obtain ⟨xs,hq,hx⟩:=hg
  obtain ⟨its,rv,p,hz⟩:=I.tuple hq
  obtain ⟨f0,f1,f2,f3,f4,f5⟩:=hf it (by simp)
  have hl:=rv.length
  exact wpAny_pyNext_tuple_end (I.ok.hd hc) st (show s.heap.IsTuple a its.toArray from p) (by simp; omega) fun h' eb=>⟨rfl,I.turned (t':=s.toks) (fun b o hb e=>eb b o hb e) f0 f1 f3 f4 f5⟩
 self:=fun _ _ _ _ _ st h=>wpAny_pyIter_tupleiter st h
theorem zkK {P:Program} {w:World} {K:W.Frag} {tg:Expr} (it:Addr) (lo:Int) (n:Nat):Turn P w K tg (Itr lo n) [it] it (fun i h=>IsRangeIter h it (lo + (i:Nat) * 1) ((n:Int) - (i:Nat)) 1) where
 mem:=by simp
 obj:=fun i h st b hb=>by
  have e:b = it:=by simpa using hb
  subst e
  exact ⟨_,st,fun v z=>by
   have z':Data.fields _ = Data.cell v:=z
   cases z'⟩
 keep:=fun i h h' st k=>k it (by simp) _ st
 item:=by
  intro X hP hw hK hc i zk s σ H E I hf st hg
  subst hP hw hK
  obtain ⟨f0,f1,f2,f3,f4,f5⟩:=hf it (by simp)
  have W:=Walks.range (prog:=X.prog) (w:=X.w) (I.ok.hd hc) it lo 1 n
  refine W.item i s _ _ hg st fun v h' tk hv st' kk=>?_
  obtain ⟨t,rfl⟩:=hv
  have I1:Inv X zk σ H { s with heap:=h',toks:=tk }:=I.turned (fun b o hb e=>kk b o (by simpa using hb) e) f0 f1 f3 f4 f5
  refine ⟨_,rfl,zmK (s:={ s with heap:=h',toks:=tk }) (n:="range_iterator") st' rfl rfl (by decide) ⟨.int (lo + i),H,I1,⟨t,?_⟩,⟨rfl,rfl⟩,st',fun b hb=>(hf b hb).1⟩⟩
  rw [Int.mul_one]
 done:=by
  intro X hP hw hK hc i zk s σ H E I hf st hg
  subst hP hw hK
  obtain ⟨f0,f1,f2,f3,f4,f5⟩:=hf it (by simp)
  exact wpAny_pyNext_range_end (I.ok.hd hc) st (by have:n <= i:=hg; omega) fun h' eb=>⟨rfl,I.turned (t':=s.toks) (fun b o hb e=>eb b o hb e) f0 f1 f3 f4 f5⟩
 self:=fun _ _ _ _ _ st h=>wpAny_pyIter_rangeiter st h
end
section
section
variable {X:Cx} {tg:Expr}
def zqr (K:W.Frag) (tl:TE):TI:=fun σ H R=>tl σ H fun x H1=>∃ a,x = .ref a/\(∃ xs,SqL K H1 a xs)/\R (Itl K a) H1
theorem zqM {l:Expr} {tl:TE} (hl:PE X l tl):PI X tg l (zqr X.K tl):=by
 intro zk s σ H R I h
 refine thn (hl zk s σ H _ I h) fun v s1 ⟨x,H1,I1,r1,q1⟩=>?_
 obtain ⟨a,e,⟨xs,hq⟩,q⟩:=q1
 subst e
 cases r1
 obtain ⟨its,rv,p,hz⟩:=I1.list hq
 refine wpAny_pyIter_list p.isList ?_
 refine ⟨s1.heap.objs.size,[s1.heap.objs.size],_,_,H1,rfl,I1.kept (t':=s1.toks) fun b o e=>Heap.get?_push_of_some _ e,zhY a _,⟨_,Heap.get?_push_size _ rfl,rfl,rfl⟩,fun b hb=>?_,q⟩
 have e:b = s1.heap.objs.size:=by simpa using hb
 subst e
 exact I1.fpOk (Nat.le_refl _) (I1.hok.fresh (Nat.le_refl _))
def zrJ (wi:TI) (g:TG) (tb:TS):TS:=fun D σ H=>wi σ H fun J H1=>∃ W:Nat->Nat->St->Hp->Prop,(∃ m,W 0 m σ H1)/\∀ i m σ H,W i m σ H ->
 (J.stop i H/\D.nx σ H)\/(J.go i H/\∃ N:St->Hp->Prop,(∀ σ' H',N σ' H'->∃ m',m' < m/\W (i + 1) m' σ' H')/\∀ x H',J.yld i H x H'->g x σ H' fun σ2 H2=>tb { D with nx:=N,ct:=N,bk:=D.nx } σ2 H2)
def ziH (fp:List Addr) (h:Heap):List (Addr × Obj):=fp.filterMap fun b=>(h.get? b).map fun o=>(b,o)
theorem zdO {fp:List Addr} {h:Heap} {b:Addr} {o:Obj} (hb:b ∈ fp) (e:h.get? b = some o):(b,o) ∈ ziH fp h:=List.mem_filterMap.mpr ⟨b,hb,by rw [e]; rfl⟩
theorem zly {fp:List Addr} {h:Heap} {p:Addr × Obj} (hp:p ∈ ziH fp h):p.1 ∈ fp/\h.get? p.1 = some p.2:=by
 obtain ⟨b,hb,e⟩:=List.mem_filterMap.mp hp
 cases q:h.get? b with
 | none=>rw [q] at e; cases e
 | some o =>
  rw [q] at e
  have e':(b,o) = p:=Option.some.inj e
  subst e'
  exact ⟨hb,q⟩
theorem Inv.pinned {zk:List (Addr × Obj)} {σ:St} {H:Hp} {s:Shared} {fp:List Addr} (I:Inv X zk σ H s) (hf:∀ b ∈ fp,FpOk X zk H b) (ho:∀ b ∈ fp,∃ o,s.heap.get? b = some o/\∀ v,o.data ≠ .cell v):Inv X (zk ++ ziH fp s.heap) σ H s :=
 I.pins_of fun p hp=>(List.mem_append.mp hp).elim (fun z=>I.pin p (List.mem_append_right _ z)) fun z=>by
  obtain ⟨hb,e⟩:=zly z
  obtain ⟨f0,f1,f2,_⟩:=hf p.1 hb
  obtain ⟨o,e',d⟩:=ho p.1 hb
  rw [e] at e'; cases e'
  exact ⟨e,f0,f1,f2,d⟩
theorem Inv.unpinned {zk pl:List (Addr × Obj)} {σ:St} {H:Hp} {s:Shared} (I:Inv X (zk ++ pl) σ H s):Inv X zk σ H s:=I.pins_of fun p hp=>I.pin p (List.mem_append_right _ (List.mem_append_left _ hp))
theorem zce {iter:Expr} {body:List Stmt} {wi:TI} {g:TG} {tb:TS} {pos:Pos} (hp:PassesOwn (model X.prog X.w) X.A X.env X.xe) (hc:X.calm = true) (hi:PI X tg iter wi) (hg:PG X tg g) (hb:PSs X body tb)
  (hs:∀ x,foldedSetIterable iter X.env x = pure x:=by intro _; rfl):PS X (.For tg iter body [] pos) (zrJ wi g tb):=by
 intro zk s σ H D I h
 refine wpAny_For (thn (hi zk s σ H _ I h) fun v s1 h1=>thn h1 fun itv s2 h2=>?_) hs
 obtain ⟨it,fp,tn,J,H2,e,I2,T,st2,f2,W,⟨m0,w0⟩,turn⟩:=h2
 subst e
 -- what stays true of the iterator's objects through the loop
 have stat:∀ {H':Hp},(∀ b ∈ fp,H' b = none)->∀ b ∈ fp,FpOk X zk H' b:=fun hn b hb=>⟨hn b hb,(f2 b hb).2⟩
 refine codeAny_forLoop_any (fun n s'=>∃ i σ' H',Inv X zk σ' H' s'/\tn i s'.heap/\(∀ b ∈ fp,H' b = none)/\W i n σ' H') ?_ m0 ⟨0,σ,H2,I2,st2,fun b hb=>(f2 b hb).1,w0⟩
 rintro n s3 ⟨i,σ3,H3,I3,st3,fr3,w3⟩
 rcases turn i n σ3 H3 w3 with ⟨stop,qn⟩ | ⟨go,N,hN,step⟩
 ·refine wpAny_passesOwn hp (thn (T.done X rfl rfl rfl hc i zk s3 σ3 H3 X.xe I3 (stat fr3) st3 stop) fun r s4 ⟨hr,I4⟩=>?_)
  subst hr
  exact wpAny_execs_nil ⟨σ3,H3,I4,qn⟩
 ·refine wpAny_passesOwn hp (thn (T.item X rfl rfl rfl hc i zk s3 σ3 H3 X.xe I3 (stat fr3) st3 go) fun r s4 ⟨u,hr,h4⟩=>?_)
  subst hr
  refine wpAny_passesOwn hp (thn h4 fun _ s5 ⟨x,H5,I5,r5,y5,st5,fr5⟩=>?_)
  have I5':=I5.pinned (stat fr5) (T.obj _ _ st5)
  refine wpAny_passesOwn hp (thn (hg _ s5 σ3 H5 x u _ I5' r5 (step x H5 y5)) fun _ s6 ⟨σ6,H6,I6,q6⟩=>?_)
  refine wpAny_passesOwn hp (thn (hb _ s6 σ6 H6 _ I6 q6) fun f s7 q7=>?_)
  have again:∀ {σ7:St} {H7:Hp},Inv X (zk ++ ziH fp s5.heap) σ7 H7 s7->N σ7 H7->∃ m,m < n/\∃ i σ' H',Inv X zk σ' H' s7/\tn i s7.heap/\(∀ b ∈ fp,H' b = none)/\W i m σ' H':=fun {σ7 H7} I7 n7=>by
   obtain ⟨m',hm,w7⟩:=hN σ7 H7 n7
   refine ⟨m',hm,i + 1,σ7,H7,I7.unpinned,T.keep _ _ _ st5 fun b hb o e=>(I7.pin (b,o) (List.mem_append_right _ (List.mem_append_right _ (zdO hb e)))).1,fun b hb=>?_,w7⟩
   obtain ⟨o,e,d⟩:=T.obj _ _ st5 b hb
   exact (I7.pin (b,o) (List.mem_append_right _ (List.mem_append_right _ (zdO hb e)))).2.1
  cases f with
  | next=>obtain ⟨σ7,H7,I7,n7⟩:=q7; exact again I7 n7
  | cont=>obtain ⟨σ7,H7,I7,n7⟩:=q7; exact again I7 n7
  | brk=>obtain ⟨σ7,H7,I7,q7⟩:=q7; exact ⟨σ7,H7,I7.unpinned,q7⟩
  | ret v=>obtain ⟨x7,σ7,H7,I7,r7,q7⟩:=q7; exact ⟨x7,σ7,H7,I7.unpinned,r7,q7⟩
end
theorem zoe {K:W.Frag} {a:Addr} {xs:List V} {g:TG} {tb:TS} {D:Ends} {σ:St} {H:Hp} (Pv:Nat->St->Hp->Prop) (h0:Pv 0 σ H) (hl:∀ i σ H,i <= xs.length->Pv i σ H->SqL K H a xs)
  (hs:∀ i x σ H,xs[i]? = some x->Pv i σ H->g x σ H fun σ2 H2=>tb { D with nx:=Pv (i + 1),ct:=Pv (i + 1),bk:=D.nx } σ2 H2) (hd:∀ σ H,Pv xs.length σ H->D.nx σ H) :
  ∃ W:Nat->Nat->St->Hp->Prop,(∃ m,W 0 m σ H)/\∀ i m σ H,W i m σ H ->
   ((Itl K a).stop i H/\D.nx σ H)\/((Itl K a).go i H/\∃ N:St->Hp->Prop,(∀ σ' H',N σ' H'->∃ m',m' < m/\W (i + 1) m' σ' H')/\∀ x H',(Itl K a).yld i H x H'->g x σ H' fun σ2 H2=>tb { D with nx:=N,ct:=N,bk:=D.nx } σ2 H2):=by
 refine ⟨fun i m σ H=>m = xs.length - i/\i <= xs.length/\Pv i σ H,⟨xs.length,by simp,Nat.zero_le _,h0⟩,?_⟩
 rintro i m σ H ⟨rfl,hi,p⟩
 have q:=hl i σ H hi p
 by_cases hlt:i < xs.length
 ·refine .inr ⟨⟨xs,xs[i],q,by simp [hlt]⟩,Pv (i + 1),fun σ' H' p'=>⟨xs.length - (i + 1),by omega,rfl,hlt,p'⟩,fun x H' y=>?_⟩
  obtain ⟨e,y⟩:=y
  subst e
  exact hs i x σ _ (y xs q) p
 ·have e:i = xs.length:=by omega
  subst e
  exact .inl ⟨⟨xs,q,Nat.le_refl _⟩,hd σ H p⟩
end
section
abbrev R2:=V->V->Hp->VK->Prop
def OpR (X:Cx) (f:Value->Value->Sem Value) (r:R2):Prop :=
 ∀ (zk:List (Addr × Obj)) (s:Shared) (σ:St) (H:Hp) (x y:V) (v u:Value) (Q:VK),Inv X zk σ H s->RelV x v->RelV y u->r x y H Q ->
  wpAny (model X.prog X.w) X.A (f v u) (EP X zk σ Q) X.xe s
def UnR (X:Cx) (f:Value->Sem Value) (r:V->Hp->VK->Prop):Prop :=
 ∀ (zk:List (Addr × Obj)) (s:Shared) (σ:St) (H:Hp) (x:V) (v:Value) (Q:VK),Inv X zk σ H s->RelV x v->r x H Q ->
  wpAny (model X.prog X.w) X.A (f v) (EP X zk σ Q) X.xe s
def CallR (X:Cx) (f:Value) (r:List V->Hp->VK->Prop):Prop :=
 ∀ (zk:List (Addr × Obj)) (s:Shared) (σ:St) (H:Hp) (xs:List V) (us:List Value) (Q:VK),Inv X zk σ H s->Vals xs us->r xs H Q ->
  wpAny (model X.prog X.w) X.A (call f us) (EP X zk σ Q) X.xe s
def TruR (X:Cx) (r:V->Hp->(Bool->Hp->Prop)->Prop):Prop :=
 ∀ (zk:List (Addr × Obj)) (s:Shared) (σ:St) (H:Hp) (x:V) (v:Value) (Q:Bool->Hp->Prop),Inv X zk σ H s->RelV x v->r x H Q ->
  wpAny (model X.prog X.w) X.A (truthy v) (TP X zk σ Q) X.xe s
def tOp (r:R2) (ta tb:TE):TE:=fun σ H Q=>ta σ H fun x H1=>tb σ H1 fun y H2=>r x y H2 Q
def tUn (r:V->Hp->VK->Prop) (ta:TE):TE:=fun σ H Q=>ta σ H fun x H1=>r x H1 Q
def rI (C:Int->Int->Prop) (g:Int->Int->V):R2:=fun x y H Q=>∃ i j,x = .int i/\y = .int j/\C i j/\Q (g i j) H
def rI0 (g:Int->Int->V):R2:=fun x y H Q=>∃ i j,x = .int i/\y = .int j/\Q (g i j) H
def rU (g:Int->V):V->Hp->VK->Prop:=fun x H Q=>∃ i,x = .int i/\Q (g i) H
section
variable {X:Cx} {a b c:Expr} {ta tb tc:TE} {pos:Pos}
theorem zsZ (ha:PE X a ta) (hb:PE X b tb) {zk:List (Addr × Obj)} {s:Shared} {σ:St} {H:Hp} {R:V->V->Hp->Prop} (I:Inv X zk σ H s)
  (h:ta σ H fun x H1=>tb σ H1 fun y H2=>R x y H2) {Q:Value->Shared->Prop} {f:Value->Value->Sem Value}
  (hf:∀ v u s2 x y H2,Inv X zk σ H2 s2->RelV x v->RelV y u->R x y H2->wpAny (model X.prog X.w) X.A (f v u) Q X.xe s2) :
  wpAny (model X.prog X.w) X.A (eval a X.env) (fun v s₁=>wpAny (model X.prog X.w) X.A (eval b X.env) (fun u s₂=>wpAny (model X.prog X.w) X.A (f v u) Q X.xe s₂) X.xe s₁) X.xe s:=by
 refine thn (ha zk s σ H _ I h) fun v s1 ⟨x,H1,I1,r1,q1⟩=>?_
 refine thn (hb zk s1 σ H1 _ I1 q1) fun u s2 ⟨y,H2,I2,r2,q2⟩=>?_
 exact hf v u s2 x y H2 I2 r1 r2 q2
theorem zA {op:Operator} {r:R2} (ho:OpR X (binaryOp op) r) (ha:PE X a ta) (hb:PE X b tb):PE X (.BinOp a op b pos) (tOp r ta tb):=by
 intro zk s σ H Q I h
 exact wpAny_BinOp (zsZ ha hb I h fun v u s2 x y H2 I2 rx ry q=>ho zk s2 σ H2 x y v u Q I2 rx ry q)
theorem zeM {op:UnaryOp} {r:V->Hp->VK->Prop} (ho:UnR X (unaryOp op) r) (ha:PE X a ta):PE X (.UnaryOp op a pos) (tUn r ta):=by
 intro zk s σ H Q I h
 exact UnaryOp_ (thn (ha zk s σ H _ I h) fun v s1 ⟨x,H1,I1,r1,q1⟩=>ho zk s1 σ H1 x v Q I1 r1 q1)
theorem opI {f:Value->Value->Sem Value} {C:Int->Int->Prop} {g:Int->Int->Int}
  (rule:∀ (i j:Int) (t u:Tok) (s:Shared) (Q:Value->Shared->Prop) (E:Value->Shared->Prop),C i j->Q (.int (g i j) s.toks) { s with toks:=s.toks + 1 }->wpAny (model X.prog X.w) X.A (f (.int i t) (.int j u)) Q E s) :
  OpR X f (rI C fun i j=>.int (g i j)):=by
 intro zk s σ H x y v u Q I rx ry h
 obtain ⟨i,j,rfl,rfl,hc,q⟩:=h
 obtain ⟨t,rfl⟩:=rx
 obtain ⟨t',rfl⟩:=ry
 exact rule i j t t' s _ _ hc ⟨.int (g i j),H,I.tok _,⟨_,rfl⟩,q⟩
theorem ztw {f:Value->Value->Sem Value} {g:Int->Int->Int}
  (rule:∀ (i j:Int) (t u:Tok) (s:Shared) (Q:Value->Shared->Prop) (E:Value->Shared->Prop),Q (.int (g i j) s.toks) { s with toks:=s.toks + 1 }->wpAny (model X.prog X.w) X.A (f (.int i t) (.int j u)) Q E s) :
  OpR X f (rI0 fun i j=>.int (g i j)):=by
 intro zk s σ H x y v u Q I rx ry h
 obtain ⟨i,j,rfl,rfl,q⟩:=h
 obtain ⟨t,rfl⟩:=rx
 obtain ⟨t',rfl⟩:=ry
 exact rule i j t t' s _ _ ⟨.int (g i j),H,I.tok _,⟨_,rfl⟩,q⟩
theorem zsU {f:Value->Value->Sem Value} {g:Int->Int->Bool}
  (rule:∀ (i j:Int) (t u:Tok) (s:Shared) (Q:Value->Shared->Prop) (E:Value->Shared->Prop),Q (.bool (g i j)) s->wpAny (model X.prog X.w) X.A (f (.int i t) (.int j u)) Q E s) :
  OpR X f (rI0 fun i j=>.bl (g i j)):=by
 intro zk s σ H x y v u Q I rx ry h
 obtain ⟨i,j,rfl,rfl,q⟩:=h
 obtain ⟨t,rfl⟩:=rx
 obtain ⟨t',rfl⟩:=ry
 exact rule i j t t' s _ _ ⟨.bl (g i j),H,I,rfl,q⟩
def CDivN (i j:Int):Prop:=j ≠ 0/\j.natAbs < 1073741824
def CPow (i j:Int):Prop:=0 <= j/\j <= 1000000/\i.natAbs < 2 ^ 64
theorem zrS:OpR X (binaryOp .Add) (rI0 fun i j=>.int (i + j)):=ztw fun _ _ _ _ _ _ _ q=>add_int q
theorem za7:OpR X (binaryOp .Sub) (rI0 fun i j=>.int (i - j)):=ztw fun _ _ _ _ _ _ _ q=>sub_int q
theorem zoh:OpR X (binaryOp .FloorDiv) (rI CDivN fun i j=>.int (i.fdiv j)):=opI fun _ _ _ _ _ _ _ hc q=>floordiv_int hc.1 q (.inl (PyProof.noPylong_small hc.2))
theorem zeG:OpR X (binaryOp .Mod) (rI (fun _ j=>0 < j) fun i j=>.int (i % j)):=opI fun i j _ _ _ _ _ hc q=>by
 have h1:(0:Int) < j:=hc
 exact mod_int' (by omega) (by rw [Int.fmod_eq_emod_of_nonneg i (by omega)]; exact q)
theorem zfJ:OpR X (binaryOp .Pow) (rI CPow fun i j=>.int (i ^ j.toNat)):=opI fun _ _ _ _ _ _ _ hc q=>pow_int_small hc.1 hc.2.1 hc.2.2 q
theorem unI {f:Value->Sem Value} {g:Int->Int}
  (rule:∀ (i:Int) (t:Tok) (s:Shared) (Q:Value->Shared->Prop) (E:Value->Shared->Prop),Q (.int (g i) s.toks) { s with toks:=s.toks + 1 }->wpAny (model X.prog X.w) X.A (f (.int i t)) Q E s) :
  UnR X f (rU fun i=>.int (g i)):=by
 intro zk s σ H x v Q I rx h
 obtain ⟨i,rfl,q⟩:=h
 obtain ⟨t,rfl⟩:=rx
 exact rule i t s _ _ ⟨.int (g i),H,I.tok _,⟨_,rfl⟩,q⟩
theorem zcD:UnR X (unaryOp .USub) (rU fun i=>.int (-i)):=unI fun _ _ _ _ _ q=>neg_int q
end
section
variable {X:Cx} {a b c:Expr} {ta tb tc:TE} {pos:Pos}
theorem zrH {zk:List (Addr × Obj)} {σ:St} {H:Hp} {s:Shared} {Q:VK} {k k':Bool} (I:Inv X zk σ H s) (q:Q (.bl k) H) (e:k = k'):EP X zk σ Q (.bool k') s:=by
 subst e
 exact ⟨.bl k,H,I,rfl,q⟩
theorem zgB:OpR X (compareOp .Lt) (rI0 fun i j=>.bl (decide (i < j))):=zsU fun _ _ _ _ _ _ _ q=>lt_int q
theorem zgi:OpR X (compareOp .LtE) (rI0 fun i j=>.bl (decide (i <= j))):=zsU fun _ _ _ _ _ _ _ q=>le_int q
theorem zqm:OpR X (compareOp .Gt) (rI0 fun i j=>.bl (decide (j < i))):=zsU fun _ _ _ _ _ _ _ q=>gt_int q
theorem zs7:OpR X (compareOp .GtE) (rI0 fun i j=>.bl (decide (j <= i))):=zsU fun _ _ _ _ _ _ _ q=>ge_int q
theorem zid:OpR X (compareOp .NotIn) (fun x y H Q=>∃ i j,x = .str i/\y = .str j/\Q (.bl (!(!(Builtin.Str.occurrences j i 0 j.length 1).isEmpty))) H):=by
 intro zk s σ H x y v u Q I rx ry h
 obtain ⟨i,j,rfl,rfl,q⟩:=h
 obtain ⟨t,rfl⟩:=rx
 obtain ⟨t',rfl⟩:=ry
 exact notIn_str (zrH I q rfl)
theorem OpR.or {f:Value->Value->Sem Value} {r r':R2} (h:OpR X f r) (h':OpR X f r'):OpR X f (fun x y H Q=>r x y H Q\/r' x y H Q):=by
 intro zk s σ H x y v u Q I rx ry q
 rcases q with q | q
 ·exact h zk s σ H x y v u Q I rx ry q
 ·exact h' zk s σ H x y v u Q I rx ry q
theorem nomark (b:Expr) {op:CmpOp} (h:op ≠ .In:=by decide) (h2:op ≠ .NotIn:=by decide):behindInMarks op b = false:=by
 have e1:(op == CmpOp.In) = false:=by cases op <;> first | rfl | exact absurd rfl h
 have e2:(op == CmpOp.NotIn) = false:=by cases op <;> first | rfl | exact absurd rfl h2
 cases b <;> simp [behindInMarks,e1,e2]
theorem zfH {op:CmpOp} {r:R2} (ho:OpR X (compareOp op) r) (ha:PE X a ta) (hb:PE X b tb) (hm:behindInMarks op b = false):PE X (.Compare a [op] [b] pos) (tOp r ta tb):=by
 intro zk s σ H Q I h
 exact wpAny_Compare1 (zsZ ha hb I h fun v u s2 x y H2 I2 rx ry q=>ho zk s2 σ H2 x y v u Q I2 rx ry q) hm
def zmi (t:TE):TT:=fun σ H Q=>t σ H fun x H'=>∃ k,x = .bl k/\Q k H'
theorem zap {op:CmpOp} {r:R2} (ho:OpR X (compareOp op) r) (ha:PE X a ta) (hb:PE X b tb) (hm:behindInMarks op b = false):PT X (.Compare a [op] [b] pos) (zmi (tOp r ta tb)):=by
 intro zk s σ H Q I h
 refine wpAny_isTrue_Compare1 (thn (ha zk s σ H _ I h) fun v s1 ⟨x,H1,I1,r1,q1⟩=>thn (hb zk s1 σ H1 _ I1 q1) fun u s2 ⟨y,H2,I2,r2,q2⟩ =>
  thn (ho zk s2 σ H2 x y v u _ I2 r1 r2 q2) fun c s3 ⟨z,H3,I3,r3,k,e,q3⟩=>?_) hm
 subst e
 cases r3
 exact wpAny_truthy_bool ⟨H3,I3,q3⟩
def znz (r r':R2) (ta tb tc:TE):TE:=fun σ H Q=>ta σ H fun x H1=>tb σ H1 fun y H2=>r x y H2 fun z H3=>∃ k,z = .bl k /\
 (if k = true then tc σ H3 fun w' H4=>r' y w' H4 Q else Q (.bl false) H3)
theorem zhj {op op':CmpOp} {r r':R2} (ho:OpR X (compareOp op) r) (ho':OpR X (compareOp op') r') (ha:PE X a ta) (hb:PE X b tb) (hc:PE X c tc)
  (hm:lastMarks [op,op'] [b,c] = false:=by with_unfolding_all rfl):PE X (.Compare a [op,op'] [b,c] pos) (znz r r' ta tb tc):=by
 intro zk s σ H Q I h
 refine Compare_chain (thn (ha zk s σ H _ I h) fun v s1 ⟨x,H1,I1,r1,q1⟩=>chain_link (thn (hb zk s1 σ H1 _ I1 q1) fun u s2 ⟨y,H2,I2,r2,q2⟩ =>
  thn (ho zk s2 σ H2 x y v u _ I2 r1 r2 q2) fun d s3 ⟨z,H3,I3,r3,k,e,q3⟩=>?_)) hm
 subst e
 cases r3
 refine wpAny_truthy_bool ?_
 cases k with
 | false=>exact ite_ff ⟨.bl false,H3,I3,rfl,q3⟩
 | true=>exact ite_tt (chain_last (thn (hc zk s3 σ H3 _ I3 q3) fun w' s4 ⟨z',H4,I4,r4,q4⟩=>ho' zk s4 σ H4 y z' u w' Q I4 r2 r4 q4))
theorem zeA {op op':CmpOp} {r r':R2} (ho:OpR X (compareOp op) r) (ho':OpR X (compareOp op') r') (ha:PE X a ta) (hb:PE X b tb) (hc:PE X c tc)
  (hm:lastMarks [op,op'] [b,c] = false:=by with_unfolding_all rfl):PT X (.Compare a [op,op'] [b,c] pos) (zmi (znz r r' ta tb tc)):=by
 intro zk s σ H Q I h
 refine isTrue_chain (thn (ha zk s σ H _ I h) fun v s1 ⟨x,H1,I1,r1,q1⟩=>test_link (thn (hb zk s1 σ H1 _ I1 q1) fun u s2 ⟨y,H2,I2,r2,q2⟩ =>
  thn (ho zk s2 σ H2 x y v u _ I2 r1 r2 q2) fun d s3 ⟨z,H3,I3,r3,k,e,q3⟩=>?_)) hm
 subst e
 cases r3
 refine wpAny_truthy_bool ?_
 cases k with
 | false =>
  obtain ⟨k',e',q'⟩:=q3
  cases e'
  exact ite_ff ⟨H3,I3,q'⟩
 | true =>
  refine ite_tt (test_last (thn (hc zk s3 σ H3 _ I3 q3) fun w' s4 ⟨z',H4,I4,r4,q4⟩=>thn (ho' zk s4 σ H4 y z' u w' _ I4 r2 r4 q4) fun d' s5 ⟨z2,H5,I5,r5,k2,e2,q5⟩=>?_))
  subst e2
  cases r5
  exact wpAny_truthy_bool ⟨H5,I5,q5⟩
def TruV (K:W.Frag) (x:V) (H:Hp) (k:Bool):Prop :=
 match x with
 | .non=>k = false
 | .bl b=>k = b
 | .int i=>k = (i != 0)
 | .str y=>y.length <= sizeLine/\k = ((y.length:Int) != 0)
 | .byt y=>y.size <= sizeLine/\k = ((y.size:Int) != 0)
 | .ref p=>(∃ xs,SqL K H p xs/\k = !xs.isEmpty)\/(∃ xs,SqT K H p xs/\k = !xs.isEmpty)\/∃ kvs,H p = some (.dK kvs)/\k = !kvs.isEmpty
 | _=>False
theorem zk7 {κ:Type} {kvs:List (κ × V)} {vs:List (κ × Value)} (r:KV kvs vs):(!vs.isEmpty) = !kvs.isEmpty:=by
 cases r <;> rfl
theorem zgE {xs:List V} {its:List Value} (r:Vals xs its):(!its.toArray.isEmpty) = !xs.isEmpty:=by
 cases r <;> simp
theorem line63:(sizeLine:Nat) < 2 ^ 63:=by rw [sizeLine_eq]; decide
theorem zsE:TruR X (fun x H Q=>∃ k,TruV X.K x H k/\Q k H):=by
 intro zk s σ H x v Q I rx h
 obtain ⟨k,e,q⟩:=h
 have hl:=line63
 have hs:sizeLine = 16777216:=sizeLine_eq
 cases x with
 | non =>
  cases rx
  have e':k = false:=e
  subst e'
  exact truthy_none ⟨H,I,q⟩
 | bl b =>
  cases rx
  have e':k = b:=e
  subst e'
  exact wpAny_truthy_bool ⟨H,I,q⟩
 | int i =>
  obtain ⟨t,rfl⟩:=rx
  have e':k = (i != 0):=e
  subst e'
  exact PySem.P.truthy_int ⟨H,I,q⟩
 | str y =>
  obtain ⟨t,rfl⟩:=rx
  obtain ⟨hy,e'⟩:y.length <= sizeLine/\k = ((y.length:Int) != 0):=e
  subst e'
  exact PySem.P.truthy_str (by omega) ⟨H,I.tok _,q⟩
 | byt y =>
  obtain ⟨t,rfl⟩:=rx
  obtain ⟨hy,e'⟩:y.size <= sizeLine/\k = ((y.size:Int) != 0):=e
  subst e'
  exact PySem.W.truthy_bytes (by omega) ⟨H,I.tok _,q⟩
 | ref p =>
  cases rx
  have e':(∃ xs,SqL X.K H p xs/\k = !xs.isEmpty)\/(∃ xs,SqT X.K H p xs/\k = !xs.isEmpty)\/∃ kvs,H p = some (.dK kvs)/\k = !kvs.isEmpty:=e
  rcases e' with ⟨xs,hx,e'⟩ | ⟨xs,hx,e'⟩ | ⟨kvs,hx,e'⟩
  ·subst e'
   obtain ⟨its,r,pl,hz⟩:=I.list hx
   have hlen:=r.length
   exact wpAny_truthy_list pl.isList (by simp only [List.size_toArray]; omega) ⟨H,I.tok _,by rw [zgE r]; exact q⟩
  ·subst e'
   obtain ⟨its,r,pl,hz⟩:=I.tuple hx
   have hlen:=r.length
   exact truthy_tuple pl (by simp only [List.size_toArray]; omega) ⟨H,I.tok _,by rw [zgE r]; exact q⟩
  ·subst e'
   obtain ⟨hz,hS,vs,r,m⟩:kvs.length <= sizeLine/\(p == sysModules) = false/\∃ vs,KV kvs vs/\s.heap.DictOf (zad X.prog X.w) p vs:=I.hok p _ hx
   have hlen:kvs.length = vs.length:=Paired.length r
   exact wpAny_truthy_dict hS m (by omega) ⟨H,I.tok _,by rw [zk7 r]; exact q⟩
 | _=>exact (show False from e).elim
theorem zb1 (ha:PE X a ta) (he:∀ whole,isTrue a X.env whole = (do let v <- whole; standAt a.pos; holding [v] (truthy v))) :
  PT X a (fun σ H Q=>ta σ H fun x H'=>∃ k,TruV X.K x H' k/\Q k H'):=by
 intro zk s σ H Q I h
 exact isTrue_plain (thn (ha zk s σ H _ I h) fun v s1 ⟨x,H1,I1,r1,q1⟩=>zsE zk s1 σ H1 x v Q I1 r1 q1) (he _)
theorem zkI:OpR X (binaryOp .Add) (fun x y H Q=>∃ i j,x = .str i/\y = .str j/\i.length + j.length <= sizeLine/\Q (.str (i ++ j)) H):=by
 intro zk s σ H x y v u Q I rx ry h
 obtain ⟨i,j,rfl,rfl,hz,q⟩:=h
 obtain ⟨t,rfl⟩:=rx
 obtain ⟨t',rfl⟩:=ry
 exact add_str (fun t' tk=>⟨.str (i ++ j),H,I.tok _,⟨_,rfl⟩,q⟩) hz
theorem vals1 {x:V} {us:List Value} (r:Vals [x] us):∃ u,us = [u]/\RelV x u:=by
 cases r with
 | cons r1 r2=>cases r2; exact ⟨_,rfl,r1⟩
theorem vals2 {x y:V} {us:List Value} (r:Vals [x,y] us):∃ u w',us = [u,w']/\RelV x u/\RelV y w':=by
 cases r with
 | cons r1 r2 =>
  cases r2 with
  | cons r3 r4=>cases r4; exact ⟨_,_,rfl,r1,r3⟩
theorem ziS (hc:X.calm = true):CallR X (.builtin "max") (fun xs H Q=>∃ i j,xs = [.int i,.int j]/\Q (.int (if j > i then j else i)) H):=by
 intro zk s σ H xs us Q I r h
 obtain ⟨i,j,rfl,q⟩:=h
 obtain ⟨u,w',rfl,⟨t,rfl⟩,⟨t',rfl⟩⟩:=vals2 r
 refine max_two_ints (I.ok.hd hc) fun h' tk k=>⟨_,H,I.kept k,?_,q⟩
 by_cases hj:j > i
 ·rw [if_pos hj,if_pos hj]; exact ⟨_,rfl⟩
 ·rw [if_neg hj,if_neg hj]; exact ⟨_,rfl⟩
theorem zlD (hc:X.calm = true):CallR X (.builtin "min") (fun xs H Q=>∃ i j,xs = [.int i,.int j]/\Q (.int (if j < i then j else i)) H):=by
 intro zk s σ H xs us Q I r h
 obtain ⟨i,j,rfl,q⟩:=h
 obtain ⟨u,w',rfl,⟨t,rfl⟩,⟨t',rfl⟩⟩:=vals2 r
 refine min_two_ints (I.ok.hd hc) fun h' tk k=>⟨_,H,I.kept k,?_,q⟩
 by_cases hj:j < i
 ·rw [if_pos hj,if_pos hj]; exact ⟨_,rfl⟩
 ·rw [if_neg hj,if_neg hj]; exact ⟨_,rfl⟩
theorem zlO:CallR X (.type "int") (fun xs H Q=>(∃ i,xs = [.int i]/\Q (.int i) H)\/∃ k,xs = [.bl k]/\Q (.int (if k then 1 else 0)) H):=by
 intro zk s σ H xs us Q I r h
 rcases h with ⟨i,rfl,q⟩ | ⟨k,rfl,q⟩
 ·obtain ⟨u,rfl,t,rfl⟩:=vals1 r
  exact call_int_int ⟨.int i,H,I,⟨_,rfl⟩,q⟩
 ·obtain ⟨u,rfl,r1⟩:=vals1 r
  cases r1
  exact call_int_bool ⟨.int (if k then 1 else 0),H,I.tok _,⟨_,rfl⟩,q⟩
end
end
section
structure ObjM (h:Heap) (x dx C:Addr) (mA:Str->Option Value):Prop where
 obj:h.get? x = some (PySem.W.instObj C dx)
 ns:h.Ns1 dx mA
 ne:dx ≠ x
theorem zlv {h:Heap} {dx:Addr} {mA:Str->Option Value} (n:h.Ns1 dx mA):∃ od,h.get? dx = some od/\∀ name,PySem.W.lookIn name od = some (mA name):=by
 obtain ⟨o,es,ep,ho,hd,hk,_,hm⟩:=n
 refine ⟨o,ho,fun name=>?_⟩
 have e:=hm name
 unfold nsFind findBy at e
 rw [<- Array.find?_toList] at e
 unfold PySem.W.lookIn
 rw [hd]
 dsimp only
 split
 ·rename_i y q
  rw [q] at e
  exact congrArg some e
 ·rename_i q
  rw [q] at e
  have a:es.toList.any (·.refKey) = false:=by
   rw [List.any_eq_false]
   intro y hy
   obtain ⟨z,t,hkey⟩:=hk y (Array.mem_toList_iff.mp hy)
   simp [DictEntry.refKey,hkey]
  have a':¬ es.toList.any (·.refKey) = true:=by rw [a]; exact Bool.false_ne_true
  rw [if_neg a']
  exact congrArg some e
theorem ObjM.look {h:Heap} {x dx C:Addr} {mA:Str->Option Value} (I:ObjM h x dx C mA):∃ od,PySem.W.InstAt h x (PySem.W.instObj C dx) C (some od)/\∀ name,PySem.W.lookIn name od = some (mA name) :=
 let ⟨od,ho,hl⟩:=zlv I.ns
 ⟨od,⟨I.obj,rfl,rfl,ho⟩,hl⟩
theorem RelO.some_of {v:V} {o:Option Value} (r:RelO (some v) o):∃ u,o = some u/\RelV v u:=by
 cases o with
 | none=>exact (show False from r).elim
 | some u=>exact ⟨u,rfl,r⟩
section
variable {P:Program} {w:World} {H H':Hp} {h h':Heap} {a C dx:Addr} {fs fs':List (Str × V)}
theorem zqa (hok:HOk P w H h) (e:H a = some (.ins C dx fs)):∃ mA,ObjM h a dx C mA/\(∀ f,RelO (fs.lookup f) (mA f))/\PySem.Within mA (fs.map (·.1))/\fs.length <= 1000/\H dx = some (.own a):=by
 obtain ⟨d,z,ne,ob,mA,n,r,q⟩:=(show ObjOk P w H h a (.ins C dx fs) from hok a _ e)
 exact ⟨mA,⟨ob,n,ne⟩,r,q,z,d⟩
end
structure Cls (K:W.Frag) (C:Addr):Prop where
 pg:PySem.W.plainGet K C Str.empty = true
 hd:PySem.W.hasDictIn K C = true
 po:PySem.W.plainOver K C = true
 sa:PySem.W.findIn K (.ref C) "__setattr__" = some (some (.builtin "object.__setattr__"))
theorem Cls.get {K:W.Frag} {C:Addr} (c:Cls K C) (f:Str):PySem.W.plainGet K C f = true:=c.pg
section
variable {X:Cx} {zk:List (Addr × Obj)} {σ:St} {H:Hp} {s:Shared} {A:Around} {E:Value->Shared->Prop} {Q:Value->Shared->Prop} {c:Value} {b:Bool}
inductive TyOf (K:W.Frag) (H:Hp):V->Value->Prop where
 | non:TyOf K H .non (.type "NoneType")
 | bl (x:Bool):TyOf K H (.bl x) (.type "bool")
 | int (i:Int):TyOf K H (.int i) (.type "int")
 | str (x:Str):TyOf K H (.str x) (.type "str")
 | flt (x:UInt64):TyOf K H (.flt x) (.type "float")
 | lst {a:Addr} {xs:List V} (e:H a = some (.lst xs)):TyOf K H (.ref a) (.type "list")
 | frz {a:Addr} {o:Obj} {xs:List V} (e:H a = some (.frz o (.lst xs))):TyOf K H (.ref a) (.type "list")
 | tup {a:Addr} {xs:List V} (e:H a = some (.tup xs)):TyOf K H (.ref a) (.type "tuple")
 | dK {a:Addr} {kvs:List (Key × V)} (e:Rd H a (.dK kvs)):TyOf K H (.ref a) (.type "dict")
 | dT {a:Addr} {kvs:List (List Key × V)} (e:H a = some (.dT kvs)):TyOf K H (.ref a) (.type "dict")
 | ins {a C dx:Addr} {fs:List (Str × V)} (e:H a = some (.ins C dx fs)) (cl:Cls K C) (ha:PySem.W.findIn K (.ref C) "__class__" = some (some (.builtin "object.__class__")))
   (hn:PySem.W.specialIn K (.builtin "object.__class__") "__get__" = some (some (.builtin "getset_descriptor.__get__"))) (htk:PySem.W.takesIn K (.builtin "object.__class__") = some true)
   (hm:PySem.W.mroIn K C (.type "object") = some true):TyOf K H (.ref a) (.ref C)
theorem zms {x:V} {u t:Value} (I:Inv X zk σ H s) (rx:RelV x u) (ty:TyOf X.K H x t) (e:PySem.W.kitOne X.K t c = some b) (h:∀ tk,Q (.bool b) { s with toks:=tk }) :
  wpAny (model X.prog X.w) A (call (.builtin "isinstance") [u,c]) Q E s:=by
 cases ty with
 | non=>cases (show u = Value.none from rx); exact PySem.W.kia_one PySem.W.kitx_none I.kIn True.intro e (fun z=>nomatch z) h
 | bl y=>cases (show u = Value.bool y from rx); exact PySem.W.kia_one PySem.W.kitx_bool I.kIn True.intro e (fun z=>nomatch z) h
 | int i=>obtain ⟨t,q⟩:=(show ∃ t,u = Value.int i t from rx); cases q; exact PySem.W.kia_one PySem.W.kitx_int I.kIn True.intro e (fun z=>nomatch z) h
 | str y=>obtain ⟨t,q⟩:=(show ∃ t,u = Value.str y t from rx); cases q; exact PySem.W.kia_one PySem.W.kitx_str I.kIn True.intro e (fun z=>nomatch z) h
 | flt y=>obtain ⟨t,q⟩:=(show ∃ t,u = Value.float y t from rx); cases q; exact PySem.W.kia_one PySem.W.kitx_float I.kIn True.intro e (fun z=>nomatch z) h
 | @lst a xs ea =>
  cases (show u = Value.ref a from rx)
  obtain ⟨_,_,n,_,h1⟩:=(show ObjOk X.prog X.w H s.heap a (.lst xs) from I.hok a _ ea)
  exact PySem.W.kia_one PySem.W.kitx_list I.kIn ⟨_,h1,rfl⟩ e (fun z=>nomatch z) h
 | @frz a ob xs ea =>
  cases (show u = Value.ref a from rx)
  obtain ⟨_,_,_,n,_,h1⟩:=(show ObjOk X.prog X.w H s.heap a (.frz ob (.lst xs)) from I.hok a _ ea)
  exact PySem.W.kia_one PySem.W.kitx_list I.kIn ⟨_,h1,rfl⟩ e (fun z=>nomatch z) h
 | @tup a xs ea =>
  cases (show u = Value.ref a from rx)
  obtain ⟨_,_,_,p⟩:=(show ObjOk X.prog X.w H s.heap a (.tup xs) from I.hok a _ ea)
  obtain ⟨o,h1,h2,_⟩:=p
  exact PySem.W.kia_one PySem.W.kitx_tuple I.kIn ⟨o,h1,h2⟩ e (fun z=>nomatch z) h
 | @dK a kvs ea =>
  cases (show u = Value.ref a from rx)
  obtain ⟨_,_,vs,_,p⟩:=(show ObjOk X.prog X.w H s.heap a (.dK kvs) from ea.ok I.hok)
  obtain ⟨o,es,ep,h1,h2,_⟩:=p
  exact PySem.W.kia_one PySem.W.kitx_dict I.kIn ⟨o,h1,h2.1⟩ e (fun z=>nomatch z) h
 | @dT a kvs ea =>
  cases (show u = Value.ref a from rx)
  obtain ⟨_,_,xs,_,o,es,ep,h1,h2,_⟩:=(show ObjOk X.prog X.w H s.heap a (.dT kvs) from I.hok a _ ea)
  exact PySem.W.kia_one PySem.W.kitx_dict I.kIn ⟨o,h1,h2.1⟩ e (fun z=>nomatch z) h
 | @ins a C dx fs ea cl ha hn htk hm =>
  cases (show u = Value.ref a from rx)
  obtain ⟨mA,O,_⟩:=zqa I.hok ea
  obtain ⟨od,J,_⟩:=O.look
  exact PySem.W.kia_one (PySem.W.kitx_own (cl.get _) cl.hd ha hn htk hm) I.kIn J e (fun z=>nomatch z) h
end
end
section
structure Room (k:Nat) (A:Around):Prop where
 hd:A.handled = none
 dp:A.depth + 3 * k + 5 < recursionLimit
 un:A.units + 16 * k + 200 < cLine
theorem Room.mono {j k:Nat} {A:Around} (r:Room k A) (h:j <= k):Room j A:=⟨r.hd,by have:=r.dp; omega,by have:=r.un; omega⟩
theorem Room.deeper {k:Nat} {A:Around} (r:Room (k + 1) A) (env:Env):Room k (A.deeper env) :=
 ⟨r.hd,by have:=r.dp; show A.depth + 1 + 3 * k + 5 < _; omega,by have:=r.un; show A.units + 3 + 16 * k + 200 < _; omega⟩
theorem Room.depth {k:Nat} {A:Around} (r:Room k A):A.depth < recursionLimit:=by have:=r.dp; omega
theorem Room.units {k:Nat} {A:Around} (r:Room k A):A.units + 64 < cLine:=by have:=r.un; omega
theorem Room.units0 {k:Nat} {A:Around} (r:Room k A):A.units < cLine:=by have:=r.un; omega
def zq8:TA:=fun _ H Q=>Q [] H
def zk5 (ta:TE) (tr:TA):TA:=fun σ H Q=>ta σ H fun x H1=>tr σ H1 fun xs H2=>Q (x :: xs) H2
section
variable {X:Cx} {e:Expr} {es:List Expr} {te:TE} {t:TA} {pos:Pos}
theorem zi:PA X [] zq8:=fun _ _ _ _ H Q I h=>Calls.spliced_nil ⟨[],H,I,.nil,h⟩
theorem zc (ha:PE X e te) (hr:PA X es t) (hs:starEach (e :: es) X.env = (false,eval e X.env) :: starEach es X.env:=by rfl):PA X (e :: es) (zk5 te t):=by
 intro pos zk s σ H Q I h
 rw [hs]
 show wpAny _ _ (spliced ((false,eval e X.env) :: backTo pos (starEach es X.env))) _ _ s
 refine Calls.spliced_cons (thn (ha zk s σ H _ I h) fun u s1 ⟨x,H1,I1,r1,q1⟩=>?_)
 exact thn (hr pos zk s1 σ H1 _ I1 q1) fun us s2 ⟨xs,H2,I2,r2,q2⟩=>⟨x :: xs,H2,I2,.cons r1 r2,q2⟩
def ztH (t:TA):TE:=fun σ H Q=>t σ H fun xs H1=>xs.length <= sizeLine/\∀ p,H1 p = none->Q (.ref p) (upd H1 p (.tup xs))
def zqi (t:TA):TE:=fun σ H Q=>t σ H fun xs H1=>xs.length <= sizeLine/\∀ p,H1 p = none->Q (.ref p) (upd H1 p (.lst xs))
theorem zcy {x1} (h:PA X es t):PE X (.Tuple es x1 pos) (ztH t):=by
 intro zk s σ H Q I hq
 refine wpAny_Tuple_spliced (thn (h pos zk s σ H _ I hq) fun us s1 ⟨xs,H1,I1,r,z,q⟩=>⟨by rw [<- r.length]; exact z,?_⟩)
 have hf:H1 s1.heap.objs.size = none:=I1.hok.fresh (Nat.le_refl _)
 refine ⟨.ref s1.heap.objs.size,upd H1 s1.heap.objs.size (.tup xs),I1.laid (t':=s1.toks) (fun b u e=>Heap.get?_push_of_some _ e) (Nat.le_refl _) ?_,rfl,q _ hf⟩
 exact ⟨⟨z,_,Heap.get?_push_size _ rfl,rfl⟩,us,r,⟨_,Heap.get?_push_size _ rfl,rfl,_,rfl⟩⟩
theorem zaD (h:PA X es t):PE X (.List es pos) (zqi t):=by
 intro zk s σ H Q I hq
 refine wpAny_List_spliced (thn (h pos zk s σ H _ I hq) fun us s1 ⟨xs,H1,I1,r,z,q⟩=>⟨by rw [<- r.length]; exact z,?_⟩)
 have hf:H1 s1.heap.objs.size = none:=I1.hok.fresh (Nat.le_refl _)
 refine ⟨.ref s1.heap.objs.size,upd H1 s1.heap.objs.size (.lst xs),I1.laid (t':=s1.toks) (fun b u e=>Heap.get?_push_of_some _ e) (Nat.le_refl _) ?_,rfl,q _ hf⟩
 exact ⟨z,us,0,r,Heap.get?_push_size _ rfl⟩
end
abbrev Sp:=List V->Hp->VK->XK->Prop
abbrev CXT:=List Env->Hp->Shared->XK->Value->Shared->Prop
structure Env0 (P:Program) (w:World) (K:W.Frag) (mg:Str->Option Value) (base:Heap) (A:Around) (outer:List Env) (s:Shared) (H:Hp):Prop where
 frames:A.frames = some outer
 mod:Mod K mg base
 bs:∀ b o,base.get? b = some o->s.heap.get? b = some o/\H b = none
 bsz:base.objs.size <= s.heap.objs.size
 funs:s.heap.FunFrames base outer
 frf:∀ b ∈ frs outer,H b = none
 hok:HOk P w H s.heap
 bare:AllBare s.gens
def CE (outer:List Env) (P:Program) (w:World) (H:Hp) (s:Shared) (Q:VK) (u:Value) (s':Shared):Prop :=
 ∃ v H',s'.os = s.os/\AllBare s'.gens/\Un (frs outer) [] H H' s.heap s'.heap/\HOk P w H' s'.heap/\RelV v u/\Q v H'
def CR (CX:CXT) (outer:List Env) (P:Program) (w:World) (H:Hp) (s:Shared) (Q:VK) (E:XK) (r:Result) (s':Shared):Prop :=
 match r with
 | .ok (.ret u)=>CE outer P w H s Q u s'
 | .ok _=>False
 | .error e=>CX outer H s E e s'
structure FnOk (P:Program) (w:World) (K:W.Frag) (mg:Str->Option Value) (base:Heap) (CX:CXT) (k:Nat) (f:Addr) (fd:FuncData) (ps:List Str) (sp:Sp):Prop where
 len:∀ vs H Q E,sp vs H Q E->vs.length = ps.length
 run:∀ (A:Around) (outer:List Env) (s:Shared) (H:Hp) (args:Args) (us:List Value) (vs:List V) (Q:VK) (E:XK),Room k A->Env0 P w K mg base A outer s H->BindsTo s fd args (ps.zip us)->Vals vs us->sp vs H Q E ->
  codeAny (model P w) A (.call (.ref f) args) (CR CX outer P w H s Q E) s
section
variable {X:Cx} {zk:List (Addr × Obj)} {σ:St} {H:Hp} {s s':Shared}
theorem Inv.env0 (I:Inv X zk σ H s):Env0 X.prog X.w X.K X.mg X.base X.A X.stack s H :=
 ⟨I.ok.frames,I.ok.mod,I.bs,Nat.le_trans I.ok.bsz I.sz,I.stack,I.stkFree,I.hok,I.bare⟩
theorem Inv.after {Q:VK} {u:Value} (I:Inv X zk σ H s) (h:CE X.stack X.prog X.w H s Q u s'):EP X zk σ Q u s':=by
 obtain ⟨v,H',os,bare,un,hok,r,q⟩:=h
 obtain ⟨hh,g,d,t,os'⟩:=s'
 obtain rfl:os' = s.os:=os
 exact ⟨v,H',I.call (h':=hh) (g':=g) (d':=d) (t':=t) (ch:=[]) un hok bare (fun b z=>absurd z (by simp)),r,q⟩
end
def znX (sp:Sp) (dvs:List V) (E:XK) (t:TA):TE:=fun σ H Q=>t σ H fun vs H1=>sp (vs ++ dvs) H1 Q E
def Binds (K:W.Frag) (fd:FuncData) (ps:List Str) (ds:List Value):Prop :=
 ∀ (s:Shared) (us:List Value),K.In s.heap->(us ++ ds).length = ps.length->BindsTo s fd ⟨us,[]⟩ (ps.zip (us ++ ds))
theorem Binds.all {K:W.Frag} {fd:FuncData} {ps:List Str} (h:∀ us:List Value,us.length = ps.length->bindArgs fd ⟨us,[]⟩ = pure (ps.zip us)):Binds K fd ps []:=fun s us _ hl=>by
 rw [List.append_nil] at hl ⊢
 exact .of_eq (h us hl)
def Passes (CX:CXT) (X:Cx) (E:XK):Prop:=∀ (zk:List (Addr × Obj)) (σ:St) (H:Hp) (s:Shared) (e:Value) (s':Shared),Inv X zk σ H s->CX X.stack H s E e s'->X.xe e s'
section
variable {X:Cx} {CX:CXT} {k:Nat} {f C:Addr} {fd:FuncData} {ps:List Str} {sp:Sp} {dvs:List V} {ds:List Value} {E:XK} {x m:Str} {p pos apos:Pos} {e o:Expr} {es:List Expr} {ta:TE} {t:TA}
theorem zsr {zk:List (Addr × Obj)} {σ:St} {H:Hp} {s:Shared} {Q:VK} {us:List Value} {vs:List V} (F:FnOk X.prog X.w X.K X.mg X.base CX k f fd ps sp) (hr:Room k X.A) (hb:Binds X.K fd ps ds) (hd:Vals dvs ds) (hx:Passes CX X E)
  (I:Inv X zk σ H s) (r:Vals vs us) (h:sp (vs ++ dvs) H Q E):wpAny (model X.prog X.w) X.A (call (.ref f) us) (EP X zk σ Q) X.xe s:=by
 have r2:Vals (vs ++ dvs) (us ++ ds):=r.append hd
 have hl:(us ++ ds).length = ps.length:=by rw [<- r2.length]; exact F.len _ _ _ _ h
 refine wpAny_call (codeAny_mono (F.run X.A X.stack s H ⟨us,[]⟩ (us ++ ds) (vs ++ dvs) Q E hr I.env0 (hb s us I.kIn hl) r2 h) fun r s' hq=>?_)
 cases r with
 | error e=>exact hx zk σ H s e s' I hq
 | ok fl =>
  cases fl with
  | ret u=>exact I.after hq
  | next=>exact False.elim hq
  | brk=>exact False.elim hq
  | cont=>exact False.elim hq
theorem zlV (F:FnOk X.prog X.w X.K X.mg X.base CX k f fd ps sp) (hr:Room k X.A) (hg:Gl X x) (hm:X.mg x = some (.ref f)) (hk:PySem.W.keepIn X.K (.ref f) = true) (hb:Binds X.K fd ps ds) (hd:Vals dvs ds) (hx:Passes CX X E)
  (ha:PA X (e :: es) t) (hdb:(x == ("__debug__":Str)) = false:=by decide) (he:starEach (e :: es) X.env = (false,eval e X.env) :: starEach es X.env:=by rfl) (hpl:(backTo pos (starEach es X.env)).any (·.1) = false:=by rfl) :
  PE X (.Call (.Name x p) (e :: es) [] pos) (znX sp dvs E t):=by
 intro zk s σ H Q I h
 refine wpAny_Call_Name_kw (zlw I hg hm ?_ hdb)
 refine PySem.W.callWith_K (h₀:=X.base) I.ok.mod.kin hk (thn (ha pos zk s σ H _ I h) fun us s1 ⟨vs,H1,I1,r,q⟩=>⟨I1.kIn,?_⟩) he hpl
 exact zsr F hr hb hd hx I1 r q
end
structure FnScope (N P:List Str) (sc:Scope):Prop where
 kind:sc.kind = .function
 co:sc.isCoroutine = false
 gen:sc.isGenerator = false
 nd:N.Nodup
 pre:N.take P.length = P
 par:∀ x ∈ P,sc.names.lookup x = some .local\/sc.names.lookup x = some .cell
 nofree:∀ y ∈ sc.names,y.2 ≠ .free
theorem ziG {kindOf:Str->Option NameKind} {x:Str}:∀ {binds:List (Str × Value)} {m:Str->Option Value},(∀ v,(x,v) ∉ binds)->bindL kindOf binds m x = m x
 | [],_,_=>rfl
 | (n,v) :: r,m,h=>by
  unfold bindL
  rw [ziG fun w hw=>h w (List.mem_cons_of_mem _ hw)]
  split
  ·have:x ≠ n:=by rintro rfl; exact h v List.mem_cons_self
   simp [this]
  ·rfl
theorem ziw {kindOf:Str->Option NameKind} {x:Str}:∀ {binds:List (Str × Value)} {m:Str->Option Value},(∀ v,(x,v) ∉ binds)->bindC kindOf binds m x = m x
 | [],_,_=>rfl
 | (n,v) :: r,m,h=>by
  unfold bindC
  rw [ziw fun w hw=>h w (List.mem_cons_of_mem _ hw)]
  split
  ·rfl
  ·have:x ≠ n:=by rintro rfl; exact h v List.mem_cons_self
   simp [this]
theorem zh0 {kindOf:Str->Option NameKind} {x:Str} {v:Value}:∀ {P:List Str} {vs:List Value} {i:Nat} {m:Str->Option Value},P.Nodup->P[i]? = some x->vs[i]? = some v->kindOf x = some .local ->
  bindL kindOf (P.zip vs) m x = some v
 | [],_,_,_,_,h,_,_=>by simp at h
 | _ :: _,[],_,_,_,_,h,_=>by simp at h
 | p :: P,w :: vs,0,m,nd,h1,h2,hk=>by
  simp at h1 h2; subst h1; subst h2
  show bindL kindOf ((p,w) :: P.zip vs) m p = _
  unfold bindL
  rw [ziG fun v hv=>(List.nodup_cons.mp nd).1 (List.of_mem_zip hv).1,if_pos hk]
  simp
 | p :: P,w :: vs,i + 1,m,nd,h1,h2,hk=>by
  show bindL kindOf ((p,w) :: P.zip vs) m x = _
  unfold bindL
  exact zh0 (i:=i) (List.nodup_cons.mp nd).2 (by simpa using h1) (by simpa using h2) hk
theorem zir {kindOf:Str->Option NameKind} {x:Str} {v:Value}:∀ {P:List Str} {vs:List Value} {i:Nat} {m:Str->Option Value},P.Nodup->P[i]? = some x->vs[i]? = some v->kindOf x ≠ some .local ->
  bindC kindOf (P.zip vs) m x = some v
 | [],_,_,_,_,h,_,_=>by simp at h
 | _ :: _,[],_,_,_,_,h,_=>by simp at h
 | p :: P,w :: vs,0,m,nd,h1,h2,hk=>by
  simp at h1 h2; subst h1; subst h2
  show bindC kindOf ((p,w) :: P.zip vs) m p = _
  unfold bindC
  rw [ziw fun v hv=>(List.nodup_cons.mp nd).1 (List.of_mem_zip hv).1,if_neg hk]
  simp
 | p :: P,w :: vs,i + 1,m,nd,h1,h2,hk=>by
  show bindC kindOf ((p,w) :: P.zip vs) m x = _
  unfold bindC
  exact zir (i:=i) (List.nodup_cons.mp nd).2 (by simpa using h1) (by simpa using h2) hk
def start (N:List Str) (vs:List V):St:=vs.map some ++ List.replicate (N.length - vs.length) none
def znH (CX:CXT) (P:Program) (w:World) (K:W.Frag) (mg:Str->Option Value) (base:Heap) (N:List Str) (qual:Str) (scope:Scope) (f:Addr) (cd:Value) (A:Around) (outer:List Env) (s:Shared) (H:Hp) (E:XK):Cx where
 prog:=P
 w:=w
 K:=K
 mg:=mg
 base:=base
 A:=A.deeper (envOfC qual scope s.heap.objs.size f cd)
 N:=N
 s₀:=s
 H₀:=H
 env:=envOfC qual scope s.heap.objs.size f cd
 outer:=outer
 stack:=envOfC qual scope s.heap.objs.size f cd :: outer
 ex:=[]
 calm:=true
 fn:=fun _=>true
 pn:=[]
 xe:=fun e s'=>wpAny (model P w) (A.deeper (envOfC qual scope s.heap.objs.size f cd)) (leaving (envOfC qual scope s.heap.objs.size f cd) e) (fun _ s''=>CX outer H s E e s'') (fun e' s''=>CX outer H s E e' s'') s'
theorem zj9 {sc:Scope} {n:Nat} {x:Str} (h:sc.names.lookup x = some .cell):∃ c,(cellsFrom n sc.names []).lookup x = some c:=by
 have q:=PySem.W.cellsFrom_some sc.names n [] (.inl h)
 exact Option.isSome_iff_exists.mp q
theorem zl5 {CX:CXT} {P:Program} {w:World} {K:W.Frag} {mg:Str->Option Value} {base:Heap} {N ps:List Str} {qual:Str} {scope:Scope} {f:Addr} {cd:Value} {A:Around} {outer:List Env} {s s1:Shared} {H:Hp} {E:XK} {us:List Value} {vs:List V}
  (S:FnScope N ps scope) (hd:A.handled = none) (e0:Env0 P w K mg base A outer s H) (hl:vs.length = ps.length) (r:Vals vs us)
  (x:InCallC s s.heap.objs.size (bindL (envOfC qual scope s.heap.objs.size f cd).kindOf (ps.zip us) fun _=>none) (cellsFrom (s.heap.objs.size + 1) scope.names []) (bindC (envOfC qual scope s.heap.objs.size f cd).kindOf (ps.zip us) fun _=>none) s1) :
  Inv (znH CX P w K mg base N qual scope f cd A outer s H E) [] (start N vs) H s1:=by
 have hpl:ps.length <= N.length:=by have:=congrArg List.length S.pre; rw [List.length_take] at this; omega
 obtain ⟨h1,tk,rfl,hk⟩:=x.done
 have noA:∀ b:Addr,b ∉ (znH CX P w K mg base N qual scope f cd A outer s H E).ex:=fun b z=>absurd (show b ∈ ([]:List Addr) from z) (by simp)
 refine ⟨⟨e0.mod,S.kind,rfl,rfl,Nat.le_refl _,fun y z c h1 h2=>?_,fun y hy=>?_,fun y c _ h=>?_,fun _=>hd,Around.frames_deeper e0.frames,.inr ⟨rfl,rfl⟩,fun b z=>absurd z (noA b),e0.bs,e0.bsz,fun b _ _=>noA b,fun b z=>absurd z (noA b),e0.funs,e0.frf⟩,
  rfl,e0.bare,Un.kept hk,⟨_,x.toInCall.ns,fun i y v h1 h2 h3=>?_⟩,fun y c h=>⟨_,x.cell y c h⟩,e0.hok.fresh (Nat.le_refl _),fun y c h=>?_,fun p hp=>absurd (show p ∈ ([]:List (Addr × Obj)) from hp) (by simp),e0.hok.kept hk,?_⟩
 ·exact name_of_addr x.apart (PySem.mem_of_lookup h1) (PySem.mem_of_lookup h2)
 ·have hy:scope.names.lookup y = some .cell\/scope.names.lookup y = some .free:=hy
  rcases hy with hy | hy
  ·exact zj9 hy
  ·exact absurd rfl (S.nofree _ (PySem.mem_of_lookup hy))
 ·exact Nat.le_of_lt (x.above y c (PySem.mem_of_lookup h))
 ·have hi:i < vs.length:=by
   unfold start at h2
   by_cases hi:i < vs.length
   ·exact hi
   ·rw [List.getElem?_append_right (by simpa using hi)] at h2
    rw [List.getElem?_replicate] at h2
    split at h2 <;> cases h2
  have ha:vs[i]? = some v:=by
   unfold start at h2
   rw [List.getElem?_append_left (by simpa using hi),List.getElem?_map] at h2
   cases e:vs[i]? with
   | none=>rw [e] at h2; cases h2
   | some a=>rw [e] at h2; cases h2; rfl
  obtain ⟨u,hu,rv⟩:=r.get ha
  have hp:ps[i]? = some y:=by
   rw [<- S.pre,List.getElem?_take_of_lt (by omega)]; exact h1
  have ndP:ps.Nodup:=by rw [<- S.pre]; exact S.nd.sublist (List.take_sublist _ _)
  refine ⟨u,rv,?_⟩
  rcases S.par y (List.mem_of_getElem? hp) with k | k
  ·exact .inl ⟨k,zh0 ndP hp hu k⟩
  ·obtain ⟨c,e⟩:=zj9 (n:=s.heap.objs.size + 1) k
   refine .inr ⟨.inl k,c,e,?_⟩
   have q:=x.cell y c e
   rw [zir ndP hp hu (by show scope.names.lookup y ≠ _; rw [k]; decide)] at q
   exact q
 ·exact e0.hok.fresh (Nat.le_of_lt (x.above y c (PySem.mem_of_lookup h)))
 ·unfold start
  show _ = N.length
  rw [List.length_append,List.length_map,List.length_replicate]
  omega
theorem ztg {CX:CXT} {P:Program} {w:World} {K:W.Frag} {mg:Str->Option Value} {base:Heap} {k:Nat} {f:Addr} {name qual:Str} {params:Arguments} {body:List Stmt} {scope:Scope} {dV kV doc pm cdv ct oc:Value} {an od:Option Addr}
  {osl:Array (Option Value)} {N ps:List Str} {sp:Sp} (lk:K.lookup f = some ⟨oc,od,.func (PySem.W.fnOf name qual params body scope dV kV doc pm an cdv ct),osl⟩) (hcd:PySem.W.codeIn K cdv qual = true) (S:FnScope N ps scope)
  (len:∀ vs H Q E,sp vs H Q E->vs.length = ps.length)
  (hbody:∀ (A:Around) (outer:List Env) (s:Shared) (H:Hp) (vs:List V) (Q:VK) (E:XK),Room k (A.deeper (envOfC qual scope s.heap.objs.size f cdv))->sp vs H Q E ->
   ∃ t,PSs (znH CX P w K mg base N qual scope f cdv A outer s H E) body t/\t { nx:=fun _ H'=>Q .non H',rt:=Q } (start N vs) H) :
  FnOk P w K mg base CX (k + 1) f (PySem.W.fnOf name qual params body scope dV kV doc pm an cdv ct) ps sp:=by
 refine ⟨len,fun A outer s H args us vs Q E hr e0 hb r hsp=>?_⟩
 have hl:=len _ _ _ _ hsp
 have KX:K.In s.heap:=e0.mod.kin.keeps fun b o e=>(e0.bs b o e).1
 have lim:s.heap.NoLimit:=e0.mod.nolimit.keeps fun b o e=>(e0.bs b o e).1
 have hkind:∀ y ∈ ps.zip us,scope.names.lookup y.1 = some .local\/(scope.names.lookup y.1 = some .cell/\((cellsFrom (s.heap.objs.size + 1) scope.names []).lookup y.1).isSome = true):=fun ⟨n,v⟩ hy=>by
  rcases S.par n (List.of_mem_zip hy).1 with q | q
  ·exact .inl q
  ·exact .inr ⟨q,PySem.W.cellsFrom_some _ _ _ (.inl q)⟩
 refine codeAny_call_function hr.depth (KX _ _ lk) rfl S.co S.gen rfl (PySem.W.codeRec_of KX hcd) (hb _ _ _ _ ?_)
 refine wpAny_newFunctionEnv_cells S.kind hkind fun env he s1 x=>?_
 subst he
 refine ⟨lim.keeps x.toInCall.keep,codeAny_func ?_⟩
 obtain ⟨t,ht,hq⟩:=hbody A outer s H vs Q E (hr.deeper _) hsp
 have I:Inv (znH CX P w K mg base N qual scope f cdv A outer s H E) [] (start N vs) H s1:=zl5 S hr.hd e0 hl r x
 refine wpAny_mono (ht [] s1 (start N vs) H _ I hq) (fun fl s' hs=>?_) fun e s' hs=>hs
 have fin:∀ {σ':St} {H':Hp} {v:V} {u:Value},Inv (znH CX P w K mg base N qual scope f cdv A outer s H E) [] σ' H' s'->RelV v u->Q v H'->CE outer P w H s Q u s' :=
  fun {σ' H' v u} J rv q=>⟨v,H',J.os,J.bare,J.base,J.hok,rv,q⟩
 cases fl with
 | ret u =>
  obtain ⟨v,σ',H',J,rv,q⟩:=hs
  exact fin J rv q
 | next =>
  obtain ⟨σ',H',J,q⟩:=hs
  exact fin (v:=V.non) (u:=Value.none) J rfl q
 | brk =>
  obtain ⟨_,_,_,q⟩:=hs
  exact False.elim q
 | cont =>
  obtain ⟨_,_,_,q⟩:=hs
  exact False.elim q
end
section
section
variable {X:Cx} {x:Str} {p pos:Pos} {e:Expr} {es:List Expr} {t:TA} {id T:String} {r:List V->Hp->VK->Prop}
def tCB (r:List V->Hp->VK->Prop) (t:TA):TE:=fun σ H Q=>t σ H fun vs H1=>r vs H1 Q
theorem zJ (hc:CallR X (.builtin id) r) (hg:Gl X x) (hm:X.mg x = none) (hv:bootBuiltins x = some (.builtin id)) (ha:PA X (e :: es) t) (hn:x ≠ "__name__":=by decide) (hdb:(x == ("__debug__":Str)) = false:=by decide)
  (he:starEach (e :: es) X.env = (false,eval e X.env) :: starEach es X.env:=by rfl) (hpl:(backTo pos (starEach es X.env)).any (·.1) = false:=by rfl):PE X (.Call (.Name x p) (e :: es) [] pos) (tCB r t):=by
 intro zk s σ H Q I h
 refine wpAny_Call_Name_kw (zfM I hg hm hv ?_ hn hdb)
 exact PyProof.Rows.callWith_builtin1 (thn (ha pos zk s σ H _ I h) fun us s1 ⟨vs,H1,I1,r1,q1⟩=>hc zk s1 σ H1 vs us Q I1 r1 q1) he hpl
theorem zbw (hc:CallR X (.type T) r) (hg:Gl X x) (hm:X.mg x = none) (hv:bootBuiltins x = some (.type T)) (ha:PA X (e :: es) t) (hn:x ≠ "__name__":=by decide) (hdb:(x == ("__debug__":Str)) = false:=by decide)
  (he:starEach (e :: es) X.env = (false,eval e X.env) :: starEach es X.env:=by rfl) (hpl:(backTo pos (starEach es X.env)).any (·.1) = false:=by rfl):PE X (.Call (.Name x p) (e :: es) [] pos) (tCB r t):=by
 intro zk s σ H Q I h
 refine wpAny_Call_Name_kw (zfM I hg hm hv ?_ hn hdb)
 exact PyProof.Rows.callWith_type1 (thn (ha pos zk s σ H _ I h) fun us s1 ⟨vs,H1,I1,r1,q1⟩=>hc zk s1 σ H1 vs us Q I1 r1 q1) he hpl
end
end
end L2
namespace HT
open PySem PyProof.Rows
def lexLt:List Int->List Int->Bool
 | [],[]=>false
 | [],_ :: _=>true
 | _ :: _,[]=>false
 | x :: xs,y :: ys=>if x = y then lexLt xs ys else decide (x < y)
theorem lexLt_cons (x y:Int) (xs ys:List Int):lexLt (x :: xs) (y :: ys) = if x = y then lexLt xs ys else decide (x < y):=rfl
theorem lexLt_nil_nil:lexLt [] [] = false:=rfl
theorem lexLt_nil_cons (y:Int) (ys:List Int):lexLt [] (y :: ys) = true:=rfl
theorem lexLt_cons_nil (x:Int) (xs:List Int):lexLt (x :: xs) [] = false:=rfl
theorem eqAt_int (A:Around) (s:Shared) (a:Int) (t:Tok) (c:Int) (u:Tok):∃ e,SeqAt.EqAt A s (.int a t) (.int c u) e/\(e = true ↔ a = c) :=
 ⟨(a == c),SeqAt.EqAt.int_int a t c u,by simp⟩
theorem zod (A:Around) (s:Shared) (a:Int) (t:Tok) (c:Int) (u:Tok) (prog:Program) (w:World) (E:Value->Shared->Prop) (Q:Value->Shared->Prop) (h:Q (.bool (decide (a < c))) s) :
  wpAny (model prog w) A (richCompare .Lt (.int a t) (.int c u)) Q E s :=
 (PyProof.Rows.lt_int h:wpAny (model prog w) A (compareOp .Lt (.int a t) (.int c u)) Q E s)
section
open PySem.SeqAt
open PySem.AutoSeq1 (wpAny_loadPart')
open PySem.MeetsSeq PySem.MeetsSeq2 PySem.MeetsSeq3
theorem zhv (l b:Addr) (items items2:Array Value) (n n2:Nat) (dd dd2:Option Addr) (sl sl2:Array (Option Value)) (ns ms:List Int) (hi:IntsAre items.toList ns) (hj:IntsAre items2.toList ms) :
  Meets (Builtin.«tuple.__lt__» ⟨[.ref l,.ref b],[]⟩)
   (fun _ R s=>s.heap.get? l = some { cls:=.type "tuple",dict:=dd,data:=.seq items n,slots:=sl }/\s.heap.get? b = some { cls:=.type "tuple",dict:=dd2,data:=.seq items2 n2,slots:=sl2 } /\
    R (.ok (.ret (.bool (lexLt ns ms)))) s) :=
 .of_wp fun prog w A R s h=>by
  obtain ⟨hp,g,d,tk,os⟩:=s; obtain ⟨hl,hb,h⟩:=h
  have f2:=AutoSeq1.sub_tuple_tuple
  have z1:items.size = ns.length:=by rw [<- hi.length]; simp
  have z2:items2.size = ms.length:=by rw [<- hj.length]; simp
  wp_walk using wpAny_loadPart' hl,wpAny_loadPart' hb,wpAny_forIn_list _ (fun rest b s'=>b.1 = none/\s' = ⟨hp,g,d,tk,os⟩/\∃ (vs ws:List Value) (ns' ms':List Int),rest = vs.zip ws /\
   IntsAre vs ns'/\IntsAre ws ms'/\ns'.length + items2.size = ms'.length + items.size/\R (.ok (.ret (.bool (lexLt ns' ms')))) ⟨hp,g,d,tk,os⟩) _
  case turn =>
   rintro ⟨y,x⟩ rest b s' ⟨hb',rfl,vs,ws,ns',ms',hz,hvi,hwi,hlen,hR⟩
   cases hvi with
   | nil=>rw [List.zip_nil_left] at hz; cases hz
   | cons a t hvi' =>
    cases hwi with
    | nil=>rw [List.zip_nil_right] at hz; cases hz
    | cons c u hwi' =>
     rw [List.zip_cons_cons] at hz
     injection hz with hyx hrest
     injection hyx with hy hx
     subst hy hx
     rw [lexLt_cons] at hR
     simp only [List.length_cons] at hlen
     obtain ⟨e,he,hiff⟩:=eqAt_int A.in1 ⟨hp,g,d,tk,os⟩ a t c u
     refine wpAny_bind (he prog w _ _ ?_)
     cases e with
     | true =>
      rw [if_pos (hiff.mp rfl)] at hR
      wp_walk
      exact ⟨rfl,rfl,_,_,_,_,hrest,hvi',hwi',by omega,hR⟩
     | false =>
      rw [if_neg (fun q=>absurd (hiff.mpr q) Bool.false_ne_true)] at hR
      have hri:=zod A.in1 ⟨hp,g,d,tk,os⟩ a t c u prog w
      wp_walk using hri
      exact ⟨_,rfl,by simpa using hR⟩
  case fin =>
   rintro ⟨b1,b2⟩ s' ⟨hb',rfl,vs,ws,ns',ms',hz,hvi,hwi,hlen,hR⟩
   simp only at hb'
   subst hb'
   have hv:lexLt ns' ms' = decide (items.size < items2.size):=by
    cases hvi with
    | nil =>
     cases hwi with
     | nil =>
      simp only [List.length_nil] at hlen
      rw [lexLt_nil_nil]
      exact (decide_eq_false (by omega)).symm
     | cons c u hw =>
      simp only [List.length_nil,List.length_cons] at hlen
      rw [lexLt_nil_cons]
      exact (decide_eq_true (by omega)).symm
    | cons a t hv =>
     cases hwi with
     | nil =>
      simp only [List.length_nil,List.length_cons] at hlen
      rw [lexLt_cons_nil]
      exact (decide_eq_false (by omega)).symm
     | cons c u hw =>
      rw [List.zip_cons_cons] at hz
      cases hz
   rw [hv] at hR
   wp_walk
   exact ⟨_,rfl,by simpa [Builtin.Tuple.tupleCompareSizes] using hR⟩
  case h =>
   exact ⟨rfl,rfl,items.toList,items2.toList,ns,ms,rfl,hi,hj,by omega,h⟩
end
section
variable {prog:Program} {w:World} {A:Around} {E:Value->Shared->Prop} {s:Shared}
theorem lt_tupInts {l b:Addr} {items items2:Array Value} {ns ms:List Int} {Q:Value->Shared->Prop} (hl:IsTup s.heap l items) (hb:IsTup s.heap b items2) (hi:IntsAre items.toList ns) (hj:IntsAre items2.toList ms)
  (hu:A.units < cLine) (h:Q (.bool (lexLt ns ms)) s):wpAny (model prog w) A (compareOp .Lt (.ref l) (.ref b)) Q E s:=by
 obtain ⟨⟨cls,dd,data,sl⟩,ho,hc,n,hd⟩:=id hl
 obtain ⟨⟨cls2,dd2,data2,sl2⟩,ho2,hc2,n2,hd2⟩:=id hb
 simp only at hc hd hc2 hd2
 subst hc hd hc2 hd2
 exact richCompare_meets_room (op:=.Lt) ⟨_,ho,rfl⟩ ⟨_,ho2,rfl⟩ PySem.F.slot_tuple_lt PySem.F.entry_tuple_lt (PySem.F.args_tuple_lt_2 _ _) (zhv l b items items2 n n2 dd dd2 sl sl2 ns ms hi hj)
  ⟨ho,ho2,show Value.bool (lexLt ns ms) ≠ Value.notImplemented/\Q (.bool (lexLt ns ms)) s from ⟨(fun x=>nomatch x),h⟩⟩ hu
theorem cat_tup {t b:Addr} {vs ws:List Value} {Q:Value->Shared->Prop} (ht:IsTup s.heap t vs.toArray) (hb:IsTup s.heap b ws.toArray) (hv:vs ≠ [])
  (h1:ws = []->Q (.ref t) s) (h2:ws ≠ []->Q (.ref s.heap.objs.size) { s with heap:=s.heap.push { cls:=.type "tuple",data:=.seq (vs ++ ws).toArray } })
  (hsz:vs.length + ws.length <= sizeLine):wpAny (model prog w) A (binaryOp .Add (.ref t) (.ref b)) Q E s:=by
 obtain ⟨⟨cls,dd,data,sl⟩,ho,hc,n,hd⟩:=id ht
 obtain ⟨⟨cls2,dd2,data2,sl2⟩,ho2,hc2,n2,hd2⟩:=id hb
 simp only at hc hd hc2 hd2
 subst hc hd hc2 hd2
 have e:vs.toArray ++ ws.toArray = (vs ++ ws).toArray:=by simp
 by_cases hw:ws = []
 ·exact concat_meets ⟨_,ho,rfl⟩ ⟨_,ho2,rfl⟩ noFill_tuple_add seq_tuple_add PySem.F.slot_tuple_add PySem.F.entry_tuple_add (PySem.F.args_tuple_add_2 _ _)
   (tuple_addW1 t b vs.toArray ws.toArray n n2 dd dd2 sl sl2 (by simpa using hv) (by simp [hw])) ⟨ho,ho2,h1 hw⟩
 ·refine concat_meets ⟨_,ho,rfl⟩ ⟨_,ho2,rfl⟩ noFill_tuple_add seq_tuple_add PySem.F.slot_tuple_add PySem.F.entry_tuple_add (PySem.F.args_tuple_add_2 _ _)
   (tuple_addW2 t b vs.toArray ws.toArray n n2 dd dd2 sl sl2 (by simpa using hv) (by simpa using hw) (by rw [List.size_toArray,List.size_toArray]; exact hsz)) ⟨ho,ho2,?_⟩
  rw [e]
  exact h2 hw
def sIx (n d:Nat):Option Int->Nat
 | none=>d
 | some v=>if v < 0 then (v + (n:Int)).toNat else min v.toNat n
theorem sIx_nat (n d k:Nat):sIx n d (some (k:Int)) = min k n:=by
 show (if (k:Int) < 0 then ((k:Int) + (n:Int)).toNat else min (k:Int).toNat n) = min k n
 rw [if_neg (by omega),Int.toNat_natCast]
theorem zrG (n d:Nat) (hd:d <= n) (o:Option Int):sIx n d o <= n:=by
 cases o with
 | none=>exact hd
 | some v =>
  show (if v < 0 then (v + (n:Int)).toNat else min v.toNat n) <= n
  by_cases hv:v < 0
  ·rw [if_pos hv]; omega
  ·rw [if_neg hv]; exact Nat.min_le_right _ _
theorem zng (v:Int) (n d:Nat):(if v < 0 then max (v + (n:Int)) 0 else min v (n:Int)) = ((sIx n d (some v):Nat):Int):=by
 show (if v < 0 then max (v + (n:Int)) 0 else min v (n:Int)) = (((if v < 0 then (v + (n:Int)).toNat else min v.toNat n):Nat):Int)
 by_cases hv:v < 0
 ·simp only [if_pos hv]; omega
 ·simp only [if_neg hv]; omega
theorem zkZ (lo hi:Option Int) (n:Nat):Builtin.Slice.sliceAdjust lo hi 1 (n:Int) = (((sIx n 0 lo:Nat):Int),((sIx n n hi:Nat):Int)):=by
 have h1:¬ ((1:Int) < 0):=by omega
 unfold Builtin.Slice.sliceAdjust
 simp only [h1,if_false]
 refine Prod.ext ?_ ?_
 ·cases lo with
  | none=>rfl
  | some v=>exact zng v n 0
 ·cases hi with
  | none=>rfl
  | some v=>exact zng v n n
theorem zk2 (i j:Nat):Builtin.Slice.slicePlaces (i:Int) (j:Int) 1 = j - i:=by
 unfold Builtin.Slice.slicePlaces
 have h1:(1:Int) > 0:=by omega
 simp only [h1,if_true,Int.ediv_one]
 split <;> omega
theorem zgK {v:Value} {o:Option Int} {Q:Option Int->Shared->Prop} (p:IsPart v o) (h:Q o s):wpAny (model prog w) A (Builtin.Slice.slicePartIndex v) Q E s:=by
 cases p with
 | none=>exact slicePart_none h
 | int i t=>exact slicePart_int h
theorem zdc {sl:Addr} {vl vu:Value} {lo hi:Option Int} {n:Nat} {Q:Int × Int × Nat->Shared->Prop} (hs:s.heap.IsSliceOf sl vl vu .none) (pl:IsPart vl lo) (pu:IsPart vu hi)
  (h:Q (((sIx n 0 lo:Nat):Int),1,sIx n n hi - sIx n 0 lo) s):wpAny (model prog w) A (Builtin.Slice.sliceApplied (.ref sl) (pure (n:Int))) Q E s:=by
 obtain ⟨os,hos,hcs,hds⟩:=id hs
 unfold Builtin.Slice.sliceApplied Builtin.Slice.sliceFields
 refine wpAny_bind (wpAny_bind (wpAny_field hos hds (x:=vl) rfl (wpAny_bind (wpAny_field hos hds (x:=vu) rfl (wpAny_bind (wpAny_field hos hds (x:=.none) rfl (wpAny_pure ?_)))))))
 refine wpAny_bind (slicePart_none ?_)
 show wpAny _ _ (if ((1:Int) == 0) = true then _ else _) _ _ s
 rw [if_neg (by decide)]
 refine wpAny_bind (zgK pl (wpAny_bind (zgK pu (wpAny_bind (wpAny_pure ?_)))))
 show wpAny _ _ (match Builtin.Slice.sliceAdjust lo hi 1 (n:Int) with | (lo,hi)=>pure (lo,(1:Int),Builtin.Slice.slicePlaces lo hi 1)) _ _ s
 rw [zkZ lo hi n]
 show wpAny _ _ (pure (((sIx n 0 lo:Nat):Int),(1:Int),Builtin.Slice.slicePlaces ((sIx n 0 lo:Nat):Int) ((sIx n n hi:Nat):Int) 1)) _ _ s
 rw [zk2]
 exact wpAny_pure h
theorem zn4 (xs:Array Value) (i k:Nat):((List.range k).filterMap fun (m:Nat)=>xs[((i:Int) + (m:Int) * 1).toNat]?).toArray = ((xs.toList.drop i).take k).toArray:=by
 have e:(fun (m:Nat)=>xs[((i:Int) + (m:Int) * 1).toNat]?) = fun m=>xs[i + m]?:=by
  funext m
  have:((i:Int) + (m:Int) * 1).toNat = i + m:=by omega
  rw [this]
 rw [e]
 have:=pick_run xs i k
 rw [List.filterMap_map] at this
 have e2:((fun x=>xs[x]?) ∘ fun x=>i + x) = fun m=>xs[i + m]?:=rfl
 rw [e2] at this
 rw [this]
theorem getItem_tuple_cut {t sl:Addr} {items:Array Value} {vl vu:Value} {lo hi:Option Int} {Q:Value->Shared->Prop} (ht:IsTup s.heap t items) (hs:s.heap.IsSliceOf sl vl vu .none) (pl:IsPart vl lo) (pu:IsPart vu hi)
  (hw:¬ (sIx items.size 0 lo = 0/\sIx items.size items.size hi = items.size))
  (h:Q (.ref s.heap.objs.size) { s with heap:=s.heap.push { cls:=.type "tuple",data:=.seq ((items.toList.drop (sIx items.size 0 lo)).take (sIx items.size items.size hi - sIx items.size 0 lo)).toArray } })
  (hsz:items.size <= sizeLine):wpAny (model prog w) A (getItem (.ref t) (.ref sl)) Q E s:=by
 have htake:sizeOk (.seq ((items.toList.drop (sIx items.size 0 lo)).take (sIx items.size items.size hi - sIx items.size 0 lo)).toArray):=by
  show ((items.toList.drop (sIx items.size 0 lo)).take (sIx items.size items.size hi - sIx items.size 0 lo)).toArray.size <= sizeLine
  rw [List.size_toArray,List.length_take,List.length_drop,Array.length_toList]
  omega
 have hj:sIx items.size items.size hi <= items.size:=zrG _ _ (Nat.le_refl _) hi
 obtain ⟨os,hos,hcs,hds⟩:=id hs
 have hTs:s.TypeIs (.ref sl) "slice":=⟨os,hos,hcs⟩
 unfold getItem
 try with_reducible refine wpAny_holding ?_
 first | refine wpAny_bind (wpAny_pure ?_) | skip
 refine wpAny_bind (wpAny_sequenceKey ht.typeIs (by decide) ?_)
 refine wpAny_bind (wpAny_callSpecial?_slot (name:=Str.ofString "__getitem__") ht.typeIs PyProof.Rows.slot_tuple_getitem
  (wpAny_call_entry PyProof.Rows.slot_tuple_getitem ht.typeIs entry_tuple_getitem ?_ (args_tuple_getitem _ _)))
 show wpAny _ _ (Builtin.Tuple.tupleItemsOf (.ref t) >>= _) _ _ s
 refine wpAny_bind (tupleItemsOf_ ht ?_)
 refine wpAny_bind (wpAny_typeOf hTs ?_)
 rw [if_pos (by decide)]
 refine wpAny_bind (zdc hs pl pu ?_)
 have hno:¬ ((((sIx items.size 0 lo:Nat):Int) == 0 && (1:Int) == 1 && (sIx items.size items.size hi - sIx items.size 0 lo) == items.size) = true):=by
  intro q
  rw [Bool.and_eq_true,Bool.and_eq_true] at q
  have q1:((sIx items.size 0 lo:Nat):Int) = 0:=eq_of_beq q.1.1
  have q2:sIx items.size items.size hi - sIx items.size 0 lo = items.size:=eq_of_beq q.2
  exact hw ⟨by omega,by omega⟩
 show wpAny _ _ (if (((sIx items.size 0 lo:Nat):Int) == 0 && (1:Int) == 1 && (sIx items.size items.size hi - sIx items.size 0 lo) == items.size) = true then _ else _) _ _ s
 rw [if_neg hno,zn4]
 first
  | exact wpAny_bind (m:=Builtin.Tuple.tupleExact _) (wpAny_newObj_type (wpAny_pure ⟨_,rfl,wpAny_pure h⟩) htake)
  | exact wpAny_bind (m:=Builtin.Tuple.tupleExact _) (wpAny_newObj_type (wpAny_bind (wpAny_pure (wpAny_pure ⟨_,rfl,wpAny_pure h⟩))) htake)
  | exact wpAny_bind (wpAny_bind (m:=Builtin.Tuple.tupleExact _) (wpAny_newObj_type (wpAny_pure (wpAny_pure ⟨_,rfl,wpAny_pure h⟩)) htake))
  | exact wpAny_bind (wpAny_bind (m:=Builtin.Tuple.tupleExact _) (wpAny_newObj_type (wpAny_pure ⟨_,rfl,wpAny_pure h⟩) htake))
end
end HT
namespace L2
open PySem PySem.Spec PyProof.Rows
section
abbrev TO:=St->Hp->(Option Int->Hp->Prop)->Prop
def PO (X:Cx) (e:Option Expr) (t:TO):Prop :=
 ∀ (zk:List (Addr × Obj)) (s:Shared) (σ:St) (H:Hp) (Q:Option Int->Hp->Prop),Inv X zk σ H s->t σ H Q ->
  wpAny (model X.prog X.w) X.A (evalPart e X.env) (fun u s'=>∃ o H',Inv X zk σ H' s'/\IsPart u o/\Q o H') X.xe s
def zmF:TO:=fun _ H Q=>Q none H
def zk1 (t:TE):TO:=fun σ H Q=>t σ H fun x H1=>∃ i,x = .int i/\Q (some i) H1
theorem zaw {ns:List Int}:∀ {us:List Value},Vals (ns.map V.int) us->IntsAre us ns:=by
 induction ns with
 | nil=>intro us r; rw [List.map_nil] at r; cases r; exact .nil
 | cons n ns ih =>
  intro us r
  rw [List.map_cons] at r
  cases r with
  | cons r1 r2 =>
   obtain ⟨t,e⟩:=r1
   subst e
   exact .cons n t (ih r2)
section
variable {X:Cx} {e:Expr} {te:TE} {lo hi:Option Expr} {tl th:TO} {pos p2:Pos}
theorem zgj:PO X none zmF:=by
 intro zk s σ H Q I h
 rw [evalPart_none]
 exact wpAny_pure ⟨none,H,I,.none,h⟩
theorem zea (h:PE X e te):PO X (some e) (zk1 te):=by
 intro zk s σ H Q I hw
 rw [evalPart_some]
 refine thn (h zk s σ H _ I hw) fun u s1 ⟨x,H1,I1,r1,q1⟩=>?_
 obtain ⟨i,rfl,q⟩:=q1
 obtain ⟨t,rfl⟩:=r1
 exact ⟨some i,H1,I1,.int i t,q⟩
def SlR (X:Cx) (r:V->Option Int->Option Int->Hp->VK->Prop):Prop :=
 ∀ (zk:List (Addr × Obj)) (s:Shared) (σ:St) (H:Hp) (x:V) (v vl vu:Value) (lo hi:Option Int) (sl:Addr) (Q:VK),Inv X zk σ H s->RelV x v->s.heap.IsSliceOf sl vl vu .none->IsPart vl lo->IsPart vu hi->r x lo hi H Q ->
  ∃ T id,typeLookup (.type T) "__getitem__" = pure (some (.builtin id))/\s.TypeIs v T/\wpAny (model X.prog X.w) X.A (getItem v (.ref sl)) (EP X zk σ Q) X.xe s
theorem SlR.or {r r':V->Option Int->Option Int->Hp->VK->Prop} (h:SlR X r) (h':SlR X r'):SlR X (fun x lo hi H Q=>r x lo hi H Q\/r' x lo hi H Q):=by
 intro zk s σ H x v vl vu lo hi sl Q I rx hs pl pu q
 rcases q with q | q
 ·exact h zk s σ H x v vl vu lo hi sl Q I rx hs pl pu q
 ·exact h' zk s σ H x v vl vu lo hi sl Q I rx hs pl pu q
def tSl (r:V->Option Int->Option Int->Hp->VK->Prop) (te:TE) (tl th:TO):TE:=fun σ H Q=>te σ H fun x H1=>tl σ H1 fun l H2=>th σ H2 fun u H3=>r x l u H3 Q
theorem zdR {r:V->Option Int->Option Int->Hp->VK->Prop} (hr:SlR X r) (he:PE X e te) (hl:PO X lo tl) (hu:PO X hi th):PE X (.Subscript e (.Slice lo hi none p2) pos) (tSl r te tl th):=by
 intro zk s σ H Q I h
 refine Subscript_ (thn (he zk s σ H _ I h) fun v s1 ⟨x,H1,I1,r1,q1⟩=>?_)
 refine wpAny_Slice (thn (hl zk s1 σ H1 _ I1 q1) fun vl s2 ⟨l,H2,I2,pl,q2⟩=>thn (hu zk s2 σ H2 _ I2 q2) fun vu s3 ⟨u,H3,I3,pu,q3⟩=>?_)
 rw [evalPart_none]
 refine wpAny_pure ?_
 have I4:Inv X zk σ H3 { s3 with heap:=s3.heap.push { cls:=.type "slice",data:=.fields #[vl,vu,.none] } }:=I3.kept (t':=s3.toks) fun b ob q=>Heap.get?_push_of_some _ q
 obtain ⟨T,id,hT,ht,hg⟩:=hr zk { s3 with heap:=s3.heap.push { cls:=.type "slice",data:=.fields #[vl,vu,.none] } } σ H3 x v vl vu l u s3.heap.objs.size Q I4 r1 (Heap.IsSliceOf.new ..) pl pu q3
 show wpAny (model X.prog X.w) X.A (subscriptTail e (.Slice lo hi none p2) v (.ref s3.heap.objs.size)) (EP X zk σ Q) X.xe { s3 with heap:=s3.heap.push { cls:=.type "slice",data:=.fields #[vl,vu,.none] } }
 exact tail_any (ops:=[.ref s3.heap.objs.size,v]) ht hT hg (by with_unfolding_all rfl)
def zkq (xs:List V) (lo hi:Option Int):List V:=(xs.drop (HT.sIx xs.length 0 lo)).take (HT.sIx xs.length xs.length hi - HT.sIx xs.length 0 lo)
theorem zej (xs:List V) (lo hi:Option Int):(zkq xs lo hi).length <= xs.length:=by
 unfold zkq
 rw [List.length_take,List.length_drop]
 omega
def zs6 (K:W.Frag):V->Option Int->Option Int->Hp->VK->Prop:=fun x lo hi H Q=>∃ a xs,x = .ref a/\SqT K H a xs /\
 ¬ (HT.sIx xs.length 0 lo = 0/\HT.sIx xs.length xs.length hi = xs.length)/\∀ p,H p = none->Q (.ref p) (upd H p (.tup (zkq xs lo hi)))
theorem zo4:SlR X (zs6 X.K):=by
 intro zk s σ H x v vl vu lo hi sl Q I rx hs pl pu h
 obtain ⟨a,xs,rfl,hx,hw,q⟩:=h
 cases rx
 obtain ⟨its,r,ht,hz⟩:=I.tuple hx
 have hlen:its.toArray.size = xs.length:=by rw [List.size_toArray]; exact r.length.symm
 refine ⟨"tuple",_,PyProof.Rows.slot_tuple_getitem.lookup,ht.typeIs,?_⟩
 refine HT.getItem_tuple_cut ht hs pl pu (by rw [hlen]; exact hw) ?_ (by rw [hlen]; exact hz)
 rw [hlen]
 refine ⟨.ref s.heap.objs.size,_,I.laid (t':=s.toks) (o:=.tup (zkq xs lo hi)) (fun b ob q=>Heap.get?_push_of_some _ q) (Nat.le_refl _) ?_,rfl,q _ (I.hok.fresh (Nat.le_refl _))⟩
 exact ⟨⟨Nat.le_trans (zej xs lo hi) hz,_,Heap.get?_push_size _ rfl,rfl⟩,_,(r.drop (HT.sIx xs.length 0 lo)).take (HT.sIx xs.length xs.length hi - HT.sIx xs.length 0 lo),IsTup.new _ _⟩
def ztE (K:W.Frag):R2:=fun x y H Q=>∃ a b ns ms,x = .ref a/\y = .ref b/\SqT K H a (ns.map V.int)/\SqT K H b (ms.map V.int)/\Q (.bl (HT.lexLt ns ms)) H
theorem zlR (hu:X.A.units < cLine):OpR X (compareOp .Lt) (ztE X.K):=by
 intro zk s σ H x y v u Q I rx ry h
 obtain ⟨a,b,ns,ms,rfl,rfl,ha,hb,q⟩:=h
 cases rx
 cases ry
 obtain ⟨its,r1,p1,_⟩:=I.tuple ha
 obtain ⟨its2,r2,p2,_⟩:=I.tuple hb
 have i1:IntsAre its.toArray.toList ns:=zaw r1
 have i2:IntsAre its2.toArray.toList ms:=zaw r2
 exact HT.lt_tupInts p1 p2 i1 i2 hu ⟨.bl (HT.lexLt ns ms),H,I,rfl,q⟩
def zp3 (K:W.Frag):R2:=fun x y H Q=>∃ a b xs ys,x = .ref a/\y = .ref b/\SqT K H a xs/\SqT K H b ys/\xs ≠ []/\xs.length + ys.length <= sizeLine /\
 (ys = []->Q (.ref a) H)/\(ys ≠ []->∀ p,H p = none->Q (.ref p) (upd H p (.tup (xs ++ ys))))
theorem Vals.nil_iff {xs:List V} {us:List Value} (r:Vals xs us):us = [] ↔ xs = []:=by
 cases r with
 | nil=>simp
 | cons _ _=>simp
theorem zqe:OpR X (binaryOp .Add) (zp3 X.K):=by
 intro zk s σ H x y v u Q I rx ry h
 obtain ⟨a,b,xs,ys,rfl,rfl,ha,hb,hx,hz,q1,q2⟩:=h
 cases rx
 cases ry
 obtain ⟨its,r1,p1,_⟩:=I.tuple ha
 obtain ⟨its2,r2,p2,_⟩:=I.tuple hb
 refine HT.cat_tup p1 p2 (fun z=>hx (r1.nil_iff.mp z)) (fun z=>⟨.ref a,H,I,rfl,q1 (r2.nil_iff.mp z)⟩) (fun z=>?_) (by rw [<- r1.length,<- r2.length]; exact hz)
 refine ⟨.ref s.heap.objs.size,_,I.laid (t':=s.toks) (o:=.tup (xs ++ ys)) (fun b ob q=>Heap.get?_push_of_some _ q) (Nat.le_refl _) ?_,rfl,q2 (fun w=>z (r2.nil_iff.mpr w)) _ (I.hok.fresh (Nat.le_refl _))⟩
 exact ⟨⟨by rw [List.length_append]; exact hz,_,Heap.get?_push_size _ rfl,rfl⟩,_,r1.append r2,IsTup.new _ _⟩
end
end
section
def ixN (n:Nat) (i:Int):Option Nat:=if 0 <= i then (if i < n then some i.toNat else none) else if -(n:Int) <= i then some (i + n).toNat else none
def atI {α:Type} (xs:List α) (i:Int):Option α:=(ixN xs.length i).bind fun j=>xs[j]?
theorem zm7 {n:Nat} {i:Int} {j:Nat} (h:ixN n i = some j):seqIndex? i n = some j/\j < n/\-(n:Int) <= i/\i < n:=by
 unfold ixN at h
 by_cases h0:0 <= i
 ·rw [if_pos h0] at h
  by_cases h1:i < n
  ·rw [if_pos h1] at h
   have e:i.toNat = j:=Option.some.inj h
   exact ⟨by rw [seqIndex_of h0 h1,e],by omega,by omega,h1⟩
  ·rw [if_neg h1] at h; cases h
 ·rw [if_neg h0] at h
  by_cases h1:-(n:Int) <= i
  ·rw [if_pos h1] at h
   have e:(i + n).toNat = j:=Option.some.inj h
   exact ⟨by rw [seqIndex_neg (by omega) h1,e],by omega,h1,by omega⟩
  ·rw [if_neg h1] at h; cases h
theorem zjb {α:Type} {xs:List α} {i:Int} {v:α} (h:atI xs i = some v):∃ j,seqIndex? i xs.length = some j/\xs[j]? = some v/\j < xs.length/\-(xs.length:Int) <= i/\i < xs.length:=by
 unfold atI at h
 cases e:ixN xs.length i with
 | none=>rw [e] at h; cases h
 | some j =>
  rw [e] at h
  obtain ⟨h1,h2,h3,h4⟩:=zm7 e
  exact ⟨j,h1,h,h2,h3,h4⟩
theorem zcV {α:Type} {xs:List α} {j:Nat} {v:α} (h:xs[j]? = some v):atI xs (j:Int) = some v:=by
 have hj:j < xs.length:=(List.getElem?_eq_some_iff.mp h).1
 have e:ixN xs.length (j:Int) = some j:=by
  unfold ixN
  rw [if_pos (by omega),if_pos (by omega)]; simp
 unfold atI; rw [e]; exact h
theorem zop {α:Type} (xs:List α) (v:α):atI (xs ++ [v]) (-1) = some v:=by
 have hl:(xs ++ [v]).length = xs.length + 1:=by simp
 have e:ixN (xs ++ [v]).length (-1) = some xs.length:=by
  unfold ixN
  rw [hl,if_neg (by decide),if_pos (by omega)]
  congr 1
  omega
 unfold atI
 rw [e]
 show (xs ++ [v])[xs.length]? = some v
 simp
def PlainIx (b:Expr):Prop:=∀ o i,subscripted b false o i = operate [o,i] (getItem o i)
def IxR (X:Cx) (r:R2):Prop :=
 ∀ (value slice:Expr) (zk:List (Addr × Obj)) (s:Shared) (σ:St) (H:Hp) (x y:V) (v u:Value) (Q:VK),Inv X zk σ H s->RelV x v->RelV y u->r x y H Q ->
  subscripted slice false v u = operate [v,u] (getItem v u)->wpAny (model X.prog X.w) X.A (subscriptTail value slice v u) (EP X zk σ Q) X.xe s
def MtR (X:Cx) (id:String) (r:V->List V->Hp->VK->Prop):Prop :=
 ∀ (zk:List (Addr × Obj)) (s:Shared) (σ:St) (H:Hp) (x:V) (xs:List V) (v:Value) (us:List Value) (Q:VK),Inv X zk σ H s->RelV x v->Vals xs us->r x xs H Q ->
  wpAny (model X.prog X.w) X.A (call (.builtin id) (v :: us)) (EP X zk σ Q) X.xe s
section
variable {X:Cx} {a b:Expr} {ta tb:TE} {pos:Pos}
theorem IxR.or {r r':R2} (h:IxR X r) (h':IxR X r'):IxR X (fun x y H Q=>r x y H Q\/r' x y H Q):=by
 intro value slice zk s σ H x y v u Q I rx ry q hs
 rcases q with q | q
 ·exact h value slice zk s σ H x y v u Q I rx ry q hs
 ·exact h' value slice zk s σ H x y v u Q I rx ry q hs
theorem zR {r:R2} (hr:IxR X r) (ha:PE X a ta) (hb:PE X b tb) (hs:PlainIx b):PE X (.Subscript a b pos) (tOp r ta tb):=by
 intro zk s σ H Q I h
 exact Subscript_ (zsZ ha hb I h fun v u s2 x y H2 I2 rx ry q=>hr a b zk s2 σ H2 x y v u Q I2 rx ry q (hs _ _))
def ztj (K:W.Frag):R2:=fun x y H Q=>∃ p xs i v,x = .ref p/\y = .int i/\SqL K H p xs/\atI xs i = some v/\Q v H
def zs5 (K:W.Frag):R2:=fun x y H Q=>∃ p xs i v,x = .ref p/\y = .int i/\SqT K H p xs/\atI xs i = some v/\Q v H
def ztf:R2:=fun x y H Q=>∃ z i c,x = .str z/\y = .int i/\z.length <= sizeLine/\atI z.cps.toList i = some c/\Q (.str ⟨#[c]⟩) H
theorem zmL:IxR X (ztj X.K):=by
 intro value slice zk s σ H x y v u Q I rx ry h hs
 obtain ⟨p,xs,i,z,rfl,rfl,hq,he,q⟩:=h
 cases rx
 obtain ⟨t,rfl⟩:=ry
 obtain ⟨its,r,pl,hz⟩:=I.list hq
 obtain ⟨j,h1,h2,h3,h4,h5⟩:=zjb he
 obtain ⟨w,ew,rw'⟩:=r.get h2
 have hl:=r.length
 have hn:=line63
 have fin:EP X zk σ Q w s:=⟨z,H,I,rw',q⟩
 by_cases h0:0 <= i
 ·have hj:i.toNat = j:=by
   rw [seqIndex_of h0 h5] at h1
   exact Option.some.inj h1
  exact item_listR pl.isList h0 (by omega) (by rw [hj]; simpa using ew) fin hs
 ·have hj:(i + (its.toArray.size:Int)).toNat = j:=by
   rw [seqIndex_neg (by omega) h4] at h1
   rw [List.size_toArray,<- hl]
   exact Option.some.inj h1
  exact subscriptTail_builtinR (x:=w) pl.isList.typeIs slot_list_getitem.lookup
   (wpAny_getItem_list_neg (Q:=fun r s'=>r = w/\EP X zk σ Q r s') pl.isList (by omega) (by rw [List.size_toArray] <;> omega) (by omega) (by rw [hj]; simpa using ew) ⟨rfl,fin⟩) hs
theorem zrA:IxR X (zs5 X.K):=by
 intro value slice zk s σ H x y v u Q I rx ry h hs
 obtain ⟨p,xs,i,z,rfl,rfl,hq,he,q⟩:=h
 cases rx
 obtain ⟨t,rfl⟩:=ry
 obtain ⟨its,r,pl,hz⟩:=I.tuple hq
 obtain ⟨j,h1,h2,h3,h4,h5⟩:=zjb he
 obtain ⟨w,ew,rw'⟩:=r.get h2
 have hl:=r.length
 have hn:=line63
 have fin:EP X zk σ Q w s:=⟨z,H,I,rw',q⟩
 exact subscriptTail_builtinR (x:=w) pl.typeIs slot_tuple_getitem.lookup
  (getItem_tuple (j:=j) (Q:=fun r s'=>r = w/\EP X zk σ Q r s') pl (by omega) (by omega) (by rw [List.size_toArray,<- hl]; exact h1) (by simpa using ew) ⟨rfl,fin⟩) hs
theorem zr6:IxR X ztf:=by
 intro value slice zk s σ H x y v u Q I rx ry h hs
 obtain ⟨z,i,c,rfl,rfl,hz,he,q⟩:=h
 obtain ⟨t,rfl⟩:=rx
 obtain ⟨t',rfl⟩:=ry
 obtain ⟨j,h1,h2,h3,h4,h5⟩:=zjb he
 have hl:z.cps.toList.length = z.length:=by simp [Str.length]
 rw [hl] at h1 h4 h5
 have hn:=line63
 exact tail_any (typeIs_str s z t) slot_str_getitem.lookup (getItem_str (c:=c) (by
  have e1:decide (i < -(2 ^ 63:Int)) = false:=decide_eq_false (by omega)
  have e2:decide (i ≥ 2 ^ 63) = false:=decide_eq_false (by omega)
  rw [e1,e2,Bool.or_false]) (by rw [h1]; simpa using h2) ⟨.str ⟨#[c]⟩,H,I.tok _,⟨_,rfl⟩,q⟩) hs
def rIx (K:W.Frag):R2:=fun x y H Q=>ztj K x y H Q\/zs5 K x y H Q\/ztf x y H Q
theorem zz:IxR X (rIx X.K):=zmL.or (zrA.or zr6)
theorem zk6 (its:List Value) (n j:Nat) (u:Value):Obj.mapSeq (·.setIfInBounds j u) { cls:=.type "list",data:=.seq its.toArray n } = { cls:=.type "list",data:=.seq (its.set j u).toArray n }:=by
 simp [Obj.mapSeq]
theorem Inv.lst {zk:List (Addr × Obj)} {σ:St} {H:Hp} {s:Shared} {p:Addr} {xs:List V} (I:Inv X zk σ H s) (h:H p = some (.lst xs)) :
  ∃ (its:List Value) (n:Nat),Vals xs its/\s.heap.get? p = some { cls:=.type "list",data:=.seq its.toArray n }/\xs.length <= sizeLine:=by
 obtain ⟨z,its,n,r,e⟩:=I.hok p _ h
 exact ⟨its,n,r,e,z⟩
theorem Inv.lstUpd {zk:List (Addr × Obj)} {σ:St} {H:Hp} {s:Shared} {p:Addr} {xs ys:List V} {its its':List Value} {n n':Nat} {f:Obj->Obj} (I:Inv X zk σ H s) (h:H p = some (.lst xs))
  (ho:s.heap.get? p = some { cls:=.type "list",data:=.seq its.toArray n }) (hf:f { cls:=.type "list",data:=.seq its.toArray n } = { cls:=.type "list",data:=.seq its'.toArray n' }) (r:Vals ys its') (hz:ys.length <= sizeLine) (t:Nat) :
  Inv X zk σ (upd H p (.lst ys)) { s with heap:=s.heap.update p f,toks:=t }:=by
 have e:(s.heap.update p f).get? p = some { cls:=.type "list",data:=.seq its'.toArray n' }:=by
  rw [Heap.get?_update_self f ho (by rw [hf] <;> rfl),hf]
 refine I.write (x:=p) (e:=p) (by rw [h]; trivial) (.inl rfl) (fun b u hb q=>(Heap.get?_update_other _ _ (Ne.symm hb)).trans q) ⟨_,e⟩ ?_
 exact ⟨hz,its',n',r,e⟩
def zsu:V->V->V->Hp->(Hp->Prop)->Prop:=fun o i v H Q=>∃ p xs k j,o = .ref p/\i = .int k/\H p = some (.lst xs)/\ixN xs.length k = some j/\Q (upd H p (.lst (xs.set j v)))
theorem zkk:PSet X zsu:=by
 intro zk s σ H o i v ov iv u Q I ro ri rv h
 obtain ⟨p,xs,k,j,rfl,rfl,hp,hj,q⟩:=h
 cases ro
 obtain ⟨t,rfl⟩:=ri
 obtain ⟨its,n,r,ho,hz⟩:=I.lst hp
 obtain ⟨h1,h2,h3,h4⟩:=zm7 hj
 have hl:=r.length
 have hn:=line63
 have I':Inv X zk σ (upd H p (.lst (xs.set j v))) { s with heap:=s.heap.update p (Obj.mapSeq (·.setIfInBounds j u)) } :=
  I.lstUpd hp ho (zk6 its n j u) (r.set rv j) (by rw [List.length_set]; exact hz) s.toks
 by_cases h0:0 <= k
 ·have hk:k.toNat = j:=by
   rw [seqIndex_of h0 h4] at h1
   exact Option.some.inj h1
  exact PySem.W.ki_setAt ho h0 (by omega) (by rw [List.size_toArray,<- hl]; exact h4) (by rw [hk]; exact ⟨_,I',q⟩)
 ·have hk:(k + (its.toArray.size:Int)).toNat = j:=by
   rw [seqIndex_neg (by omega) h3] at h1
   rw [List.size_toArray,<- hl]
   exact Option.some.inj h1
  exact PySem.W.ki_setBack ho (by omega) (by rw [List.size_toArray,<- hl]; exact h3) (by omega) (by rw [hk]; exact ⟨_,I',q⟩)
theorem zil (lo hi:Option Int) (n:Nat):(sliceBounds lo hi none n).1 = ((HT.sIx n 0 lo:Nat):Int)/\(sliceBounds lo hi none n).2.1 = ((HT.sIx n n hi:Nat):Int)/\(sliceBounds lo hi none n).2.2 = 1:=by
 refine ⟨?_,?_,rfl⟩
 ·cases lo with
  | none=>simp [sliceBounds,HT.sIx]
  | some i =>
   simp only [sliceBounds,HT.sIx,Option.getD_none,show (1:Int) > 0 by decide,if_true]
   by_cases h:i < 0
   ·simp only [h,if_true] <;> omega
   ·simp only [h,if_false] <;> omega
 ·cases hi with
  | none=>simp [sliceBounds,HT.sIx]
  | some i =>
   simp only [sliceBounds,HT.sIx,Option.getD_none,show (1:Int) > 0 by decide,if_true]
   by_cases h:i < 0
   ·simp only [h,if_true] <;> omega
   ·simp only [h,if_false] <;> omega
theorem zhh (its:List Value) (lo hi:Option Int):slicePick its.toArray lo hi none = ((its.drop (HT.sIx its.length 0 lo)).take (HT.sIx its.length its.length hi - HT.sIx its.length 0 lo)).toArray:=by
 obtain ⟨h1,h2,h3⟩:=zil lo hi its.toArray.size
 unfold slicePick
 rw [h1,h2,h3]
 simp only [sliceRange_one,pick_run,List.size_toArray] <;> rfl
def zrU (K:W.Frag):V->Option Int->Option Int->Hp->VK->Prop:=fun x lo hi H Q=>∃ a xs,x = .ref a/\SqL K H a xs/\∀ p,H p = none->Q (.ref p) (upd H p (.lst (zkq xs lo hi)))
theorem zmf:SlR X (zrU X.K):=by
 intro zk s σ H x v vl vu lo hi sl Q I rx hs pl pu h
 obtain ⟨a,xs,rfl,hx,q⟩:=h
 cases rx
 obtain ⟨its,r,ht,hz⟩:=I.list hx
 have hlen:=r.length
 refine ⟨"list",_,slot_list_getitem.lookup,ht.isList.typeIs,?_⟩
 refine wpAny_getItem_list_slice ht.isList hs pl pu .none (by simp) ?_ (by rw [List.size_toArray] <;> omega)
 rw [zhh,<- hlen]
 refine ⟨.ref s.heap.objs.size,_,I.laid (t':=s.toks) (o:=.lst (zkq xs lo hi)) (fun b ob q=>Heap.get?_push_of_some _ q) (Nat.le_refl _) ?_,rfl,q _ (I.hok.fresh (Nat.le_refl _))⟩
 exact ⟨Nat.le_trans (zej xs lo hi) hz,_,0,(r.drop (HT.sIx xs.length 0 lo)).take (HT.sIx xs.length xs.length hi - HT.sIx xs.length 0 lo),Heap.get?_push_size _ rfl⟩
theorem zfq:CallR X (.builtin "len") (fun xs H Q=>∃ p ys,xs = [.ref p]/\(SqL X.K H p ys\/SqT X.K H p ys)/\Q (.int ys.length) H):=by
 intro zk s σ H xs us Q I r h
 obtain ⟨p,ys,rfl,hq,q⟩:=h
 obtain ⟨u,rfl,rx⟩:=vals1 r
 cases rx
 have hn:=line63
 rcases hq with hq | hq
 ·obtain ⟨its,r',pl,hz⟩:=I.list hq
  have hlen:=r'.length
  exact Calls.call_len_list pl.isList (by simp only [List.size_toArray] <;> omega) ⟨.int ys.length,H,I.tok _,⟨s.toks + 1,by rw [List.size_toArray,hlen]⟩,q⟩
 ·obtain ⟨its,r',pl,hz⟩:=I.tuple hq
  have hlen:=r'.length
  exact len_tuple pl (by simp only [List.size_toArray] <;> omega) ⟨.int ys.length,H,I.tok _,⟨s.toks + 1,by rw [List.size_toArray,hlen]⟩,q⟩
theorem ziI:CallR X (.builtin "len") (fun xs H Q=>∃ z,xs = [.str z]/\z.length <= sizeLine/\Q (.int z.length) H):=by
 intro zk s σ H xs us Q I r h
 obtain ⟨z,rfl,hz,q⟩:=h
 obtain ⟨u,rfl,t,rfl⟩:=vals1 r
 have hn:=line63
 exact len_str (by omega) ⟨.int z.length,H,I.tok _,⟨_,rfl⟩,q⟩
theorem CallR.or {f:Value} {r r':List V->Hp->VK->Prop} (h:CallR X f r) (h':CallR X f r'):CallR X f (fun xs H Q=>r xs H Q\/r' xs H Q):=by
 intro zk s σ H xs us Q I rs q
 rcases q with q | q
 ·exact h zk s σ H xs us Q I rs q
 ·exact h' zk s σ H xs us Q I rs q
theorem zb3:CallR X (.type "tuple") (fun xs H Q=>∃ p ys,xs = [.ref p]/\((SqL X.K H p ys/\∀ l,H l = none->Q (.ref l) (upd H l (.tup ys)))\/(SqT X.K H p ys/\Q (.ref p) H))):=by
 intro zk s σ H xs us Q I r h
 obtain ⟨p,ys,rfl,h⟩:=h
 obtain ⟨u,rfl,rx⟩:=vals1 r
 cases rx
 rcases h with ⟨hq,q⟩ | ⟨hq,q⟩
 ·obtain ⟨its,r',pl,hz⟩:=I.list hq
  have hlen:=r'.length
  refine call_tuple_list pl.isList (fun h' kp=>?_) (by simp only [List.size_toArray] <;> omega)
  have I1:Inv X zk σ H { s with heap:=h' }:=I.kept (t':=s.toks) kp
  have I2:Inv X zk σ (upd H h'.objs.size (.tup ys)) { s with heap:=h'.push { cls:=.type "tuple",data:=.seq its.toArray } } :=
   I1.laid (t':=s.toks) (fun b o e=>Heap.get?_push_of_some _ e) (Nat.le_refl _) (show ObjOk X.prog X.w _ _ _ (.tup ys) from ⟨⟨hz,_,Heap.get?_push_size _ rfl,rfl⟩,its,r',IsTup.new _ _⟩)
  exact ⟨.ref h'.objs.size,_,I2,rfl,q _ (I1.hok.fresh (Nat.le_refl _))⟩
 ·obtain ⟨its,r',pl,hz⟩:=I.tuple hq
  exact call_tuple_same pl ⟨.ref p,H,I,rfl,q⟩
def tyV (K:W.Frag) (T:String) (x:V) (H:Hp):Prop:=match x with
 | .str _=>T = "str"
 | .int _=>T = "int"
 | .ref p=>(T = "list"/\∃ xs,SqL K H p xs)\/(T = "tuple"/\∃ o,K.lookup p = some o/\o.cls = .type "tuple"/\o.dict = none) \/
   (T = "dict"/\((∃ kvs,H p = some (.dK kvs))\/∃ kvs,H p = some (.dT kvs)))\/(T = "set"/\∃ S n,H p = some (.set S n))
 | _=>False
theorem zpn {zk:List (Addr × Obj)} {σ:St} {H:Hp} {s:Shared} {T:String} {x:V} {v:Value} (I:Inv X zk σ H s) (r:RelV x v) (ty:tyV X.K T x H) :
  s.TypeIs v T/\∀ a,v = .ref a->∃ ob,s.heap.get? a = some ob/\ob.dict = none:=by
 cases x with
 | str z =>
  obtain ⟨t,rfl⟩:=r
  cases (show T = "str" from ty)
  exact ⟨typeIs_str s z t,fun _ e=>nomatch e⟩
 | int i =>
  obtain ⟨t,rfl⟩:=r
  cases (show T = "int" from ty)
  exact ⟨typeIs_int s i t,fun _ e=>nomatch e⟩
 | ref p =>
  cases r
  rcases ty with ⟨rfl,xs,hq⟩ | ⟨rfl,o,hk,hc,hd⟩ | ⟨rfl,hk⟩ | ⟨rfl,S,n,hk⟩
  ·obtain ⟨its,_,pl,_⟩:=I.list hq
   refine ⟨pl.isList.typeIs,fun a e=>?_⟩
   cases e
   obtain ⟨o,n,e,c,hd,_⟩:=pl
   exact ⟨o,e,hd⟩
  ·refine ⟨⟨o,I.kIn p o hk,hc⟩,fun a e=>?_⟩
   cases e
   exact ⟨o,I.kIn _ o hk,hd⟩
  ·have z:∃ o,s.heap.get? p = some o/\o.ExactDict:=by
    rcases hk with ⟨kvs,hk⟩ | ⟨kvs,hk⟩
    ·obtain ⟨_,_,_,_,o,_,_,e,ex,_⟩:=I.hok p _ hk
     exact ⟨o,e,ex⟩
    ·obtain ⟨_,_,_,_,o,_,_,e,ex,_⟩:=I.hok p _ hk
     exact ⟨o,e,ex⟩
   obtain ⟨o,e,ex⟩:=z
   refine ⟨⟨o,e,ex.1⟩,fun a e2=>?_⟩
   cases e2
   exact ⟨o,e,ex.2.1⟩
  ·obtain ⟨o,_,_,_,e,ex,_⟩:=I.hok p _ hk
   refine ⟨⟨o,e,ex.1⟩,fun a e2=>?_⟩
   cases e2
   exact ⟨o,e,ex.2.1⟩
 | _=>exact False.elim ty
def ztL (K:W.Frag) (T:String) (r:V->List V->Hp->VK->Prop) (to:TE):TE:=fun σ H Q=>to σ H fun x H1=>tyV K T x H1/\r x [] H1 Q
def tBM (K:W.Frag) (T:String) (r:V->List V->Hp->VK->Prop) (to:TE) (t:TA):TE:=fun σ H Q=>to σ H fun x H1=>tyV K T x H1/\t σ H1 fun xs H2=>r x xs H2 Q
variable {o e:Expr} {es:List Expr} {to:TE} {t:TA} {name:Str} {apos cpos:Pos} {T id:String} {r:V->List V->Hp->VK->Prop}
theorem zpS (pa:PlainAttrs T) (slot:Slot T name id) (hty:typeOf (.builtin id) = pure (.type "method_descriptor")) (hm:MtR X id r) (ho:PE X o to)
  (hbase:attributeBase o name X.env (eval o X.env) = eval o X.env:=by rfl) (hline:(apos.endLine == cpos.line) = true:=by rfl):PE X (.Call (.Attribute o name apos) [] [] cpos) (ztL X.K T r to):=by
 intro zk s σ H Q I h
 refine wpAny_Call_method0_late hbase hline (thn (ho zk s σ H _ I h) fun v s1 ⟨x,H1,I1,r1,ty,q1⟩=>?_)
 obtain ⟨h1,h2⟩:=zpn I1 r1 ty
 exact ⟨T,id,pa,slot,hty,h1,h2,Calls.callWith_builtin rfl (PySem.evalArgs_none (hm zk s1 σ H1 x [] v [] Q I1 r1 .nil q1))⟩
theorem zlf (pa:PlainAttrs T) (slot:Slot T name id) (hty:typeOf (.builtin id) = pure (.type "method_descriptor")) (hm:MtR X id r) (ho:PE X o to) (ha:PA X (e :: es) t)
  (hbase:attributeBase o name X.env (eval o X.env) = eval o X.env:=by rfl)
  (hfew:((backTo cpos (starEach (e :: es) X.env)).all (fun x=>!x.1) && (backToKw cpos (keywordEach [] X.env)).all (fun x=>x.1.isSome)
   && decide ((e :: es).length + ([]:List Keyword).length + (if ([]:List Keyword).isEmpty then 0 else 1) < 30)) = true:=by rfl)
  (hline:(apos.endLine == cpos.line) = true:=by rfl) (hs:starEach (e :: es) X.env = (false,eval e X.env) :: starEach es X.env:=by rfl) (hplain:(backTo cpos (starEach es X.env)).any (·.1) = false:=by rfl) :
  PE X (.Call (.Attribute o name apos) (e :: es) [] cpos) (tBM X.K T r to t):=by
 intro zk s σ H Q I h
 refine wpAny_Call_method_late hbase hfew hline rfl (thn (ho zk s σ H _ I h) fun v s1 ⟨x,H1,I1,r1,ty,q1⟩=>?_)
 obtain ⟨h1,h2⟩:=zpn I1 r1 ty
 refine ⟨T,id,pa,slot,hty,h1,h2,?_⟩
 have hA:=ha cpos zk s1 σ H1 _ I1 q1
 rw [hs] at hA ⊢
 refine Calls.callWith_builtin (by show (false || (backTo cpos (starEach es X.env)).any (·.1)) = false; rw [hplain] <;> rfl) (Calls.evalArgs_plain ?_)
 exact thn hA fun us s2 ⟨vs,H2,I2,r2,q2⟩=>hm zk s2 σ H2 x vs v us Q I2 r1 r2 q2
end
end
section
def MtM (X:Cx) (id:String) (r:V->List V->Hp->VK->Prop):Prop :=
 ∀ (zk:List (Addr × Obj)) (s:Shared) (σ:St) (H:Hp) (x:V) (xs:List V) (v:Value) (us:List Value) (Q:VK),Inv X zk σ H s->RelV x v->Vals xs us->r x xs H Q ->
  wpAny (model X.prog X.w) X.A (call (.builtin id) (v :: us)) (EP X zk σ Q) X.xe s
theorem Vals.one:∀ {x:V} {us:List Value},Vals [x] us->∃ u,us = [u]/\RelV x u
 | _,_,.cons r .nil=>⟨_,rfl,r⟩
theorem Vals.zero:∀ {us:List Value},Vals [] us->us = []
 | _,.nil=>rfl
theorem Vals.reverse {xs:List V} {us:List Value} (h:Vals xs us):Vals xs.reverse us.reverse:=by
 induction h with
 | nil=>exact .nil
 | cons r t ih=>rw [List.reverse_cons,List.reverse_cons]; exact Vals.append ih (.cons r .nil)
theorem Vals.rep {xs:List V} {us:List Value} (h:Vals xs us):∀ k:Nat,Vals (List.replicate k xs).flatten (List.replicate k us).flatten
 | 0=>.nil
 | k + 1=>by
  rw [List.replicate_succ,List.replicate_succ,List.flatten_cons,List.flatten_cons]
  exact Vals.append h (Vals.rep h k)
theorem ziY (its:List Value):∀ (k:Nat) (acc:List Value),
  List.foldl (fun x1 x2=>x1 ++ x2) acc.toArray (List.replicate k its.toArray) = (acc ++ (List.replicate k its).flatten).toArray
 | 0,acc=>by simp
 | k + 1,acc=>by
  have e:acc.toArray ++ its.toArray = (acc ++ its).toArray:=by simp
  have e2:(acc ++ its) ++ (List.replicate k its).flatten = acc ++ (List.replicate (k + 1) its).flatten:=by
   rw [List.replicate_succ,List.flatten_cons,List.append_assoc]
  rw [<- e2,<- ziY its k (acc ++ its),<- e,List.replicate_succ,List.foldl_cons]
section
variable {X:Cx} {zk:List (Addr × Obj)} {σ:St} {H:Hp} {s:Shared} {l b:Addr} {xs ys zs:List V}
theorem Inv.lset {its its':List Value} {n:Nat} {f:Array Value->Array Value} {t':Nat} (I:Inv X zk σ H s) (hH:H l = some (.lst xs))
  (e:s.heap.get? l = some { cls:=.type "list",data:=.seq its.toArray n }) (hf:f its.toArray = its'.toArray) (hv:Vals ys its') (hz:ys.length <= sizeLine) :
  Inv X zk σ (upd H l (.lst ys)) { s with heap:=s.heap.update l (Obj.mapSeq f),toks:=t' }:=by
 have q:=PySem.IsL.update e f
 rw [hf] at q
 refine I.write (x:=l) (e:=l) (by rw [hH]; exact trivial) (.inl rfl) (fun b' u hb hu=>(Heap.get?_update_other s.heap (Obj.mapSeq f) (Ne.symm hb)).trans hu) ⟨_,q⟩ ?_
 exact ⟨hz,its',_,hv,q⟩
theorem Inv.lnew {its:List Value} {t':Nat} (I:Inv X zk σ H s) (hv:Vals ys its) (hz:ys.length <= sizeLine) :
  Inv X zk σ (upd H s.heap.objs.size (.lst ys)) { s with heap:=s.heap.push { cls:=.type "list",data:=.seq its.toArray },toks:=t' } :=
 I.laid (fun _ _ q=>Heap.get?_push_of_some _ q) (Nat.le_refl _) ⟨hz,its,0,hv,Heap.get?_push_size _ rfl⟩
theorem Inv.fresh (I:Inv X zk σ H s):H s.heap.objs.size = none:=I.hok.fresh (Nat.le_refl _)
theorem Inv.lstM (I:Inv X zk σ H s) (hH:H l = some (.lst xs)):xs.length <= sizeLine/\∃ (its:List Value) (n:Nat),Vals xs its/\xs.length = its.length/\s.heap.get? l = some { cls:=.type "list",data:=.seq its.toArray n }:=by
 obtain ⟨z,its,n,r,e⟩:=I.hok l _ hH
 exact ⟨z,its,n,r,r.length,e⟩
theorem znP {n:Nat} (h:n <= sizeLine):Builtin.List.listTooLong n = false:=by
 unfold Builtin.List.listTooLong
 exact decide_eq_false (by omega)
end
section
variable {X:Cx}
def zmQ:V->List V->Hp->VK->Prop:=fun x vs H Q=>∃ l xs y,x = .ref l/\vs = [y]/\H l = some (.lst xs)/\xs.length < sizeLine/\Q .non (upd H l (.lst (xs ++ [y])))
theorem zcJ:MtM X "list.append" zmQ:=by
 intro zk s σ H x vs v us Q I rx rv h
 obtain ⟨l,xs,y,rfl,rfl,hH,hz,q⟩:=h
 cases rx
 obtain ⟨u,rfl,ru⟩:=rv.one
 obtain ⟨z,its,n,r,hl,e⟩:=I.lstM hH
 refine call_meets F.slot_list_append ⟨_,e,rfl⟩ F.entry_list_append (F.args_list_append_2 _ _) (PySem.list_append l its.toArray n u (by rw [List.size_toArray]; omega)) ⟨e,?_⟩
 refine ⟨.non,_,I.lset (its':=its ++ [u]) hH e (by simp) (r.append (.cons ru .nil)) ?_,rfl,q⟩
 rw [List.length_append,List.length_singleton]
 omega
def zj8:V->List V->Hp->VK->Prop:=fun x vs H Q=>∃ l xs,x = .ref l/\vs = []/\H l = some (.lst xs)/\Q .non (upd H l (.lst xs.reverse))
theorem zgQ:MtM X "list.reverse" zj8:=by
 intro zk s σ H x vs v us Q I rx rv h
 obtain ⟨l,xs,rfl,rfl,hH,q⟩:=h
 cases rx
 have hus:=rv.zero
 subst hus
 obtain ⟨z,its,n,r,hl,e⟩:=I.lstM hH
 refine call_meets F.slot_list_reverse ⟨_,e,rfl⟩ F.entry_list_reverse (F.args_list_reverse_1 _) (AutoSeq1.list_reverse_list_0 l its.toArray n (by rw [List.size_toArray]; omega)) ⟨e,?_⟩
 refine ⟨.non,_,I.lset (its':=its.reverse) hH e (by simp) r.reverse ?_,rfl,q⟩
 rw [List.length_reverse]
 omega
def zq9:R2:=fun x y H Q=>∃ l b xs zs,x = .ref l/\y = .ref b/\H l = some (.lst xs)/\H b = some (.lst zs)/\xs.length + zs.length <= sizeLine/\∀ p,H p = none->Q (.ref p) (upd H p (.lst (xs ++ zs)))
theorem zlM:OpR X (binaryOp .Add) zq9:=by
 intro zk s σ H x y v u Q I rx ry h
 obtain ⟨l,b,xs,zs,rfl,rfl,hH,hB,hz,q⟩:=h
 cases rx
 cases ry
 obtain ⟨z,its,n,r,hl,e⟩:=I.lstM hH
 obtain ⟨z2,its2,n2,r2,hl2,e2⟩:=I.lstM hB
 refine PySem.P.add_list e e2 ?_ (by rw [List.size_toArray,List.size_toArray]; omega)
 have ea:its.toArray ++ its2.toArray = (its ++ its2).toArray:=by simp
 rw [ea]
 exact ⟨.ref _,_,I.lnew (t':=s.toks) (r.append r2) (by rw [List.length_append]; omega),rfl,q _ I.fresh⟩
def ztC:R2:=fun x y H Q=>∃ l k xs,x = .ref l/\y = .int k/\H l = some (.lst xs)/\-(2 ^ 63) <= k/\k < 2 ^ 63/\xs.length * k.toNat <= sizeLine /\
 ∀ p,H p = none->Q (.ref p) (upd H p (.lst (List.replicate k.toNat xs).flatten))
theorem zp0 {α:Type} (xs:List α) (k:Nat):(List.replicate k xs).flatten.length = k * xs.length:=by
 induction k with
 | zero=>simp
 | succ k ih=>rw [List.replicate_succ,List.flatten_cons,List.length_append,ih,Nat.succ_mul,Nat.add_comm]
theorem zrt:OpR X (binaryOp .Mult) ztC:=by
 intro zk s σ H x y v u Q I rx ry h
 obtain ⟨l,k,xs,rfl,rfl,hH,h1,h2,hz,q⟩:=h
 cases rx
 obtain ⟨t,rfl⟩:=ry
 obtain ⟨z,its,n,r,hl,e⟩:=I.lstM hH
 have hlen:its.toArray.size * k.toNat <= sizeLine:=by rw [List.size_toArray,<- hl]; exact hz
 have hcap:¬ its.toArray.size * k.toNat > (2 ^ 63 - 1) / 8:=by
  have:(sizeLine:Nat) <= (2 ^ 63 - 1) / 8:=by decide
  omega
 have hfit:¬ (!Builtin.List.listFitsIndex k) = true:=by
  rw [fitsIndex_both h1 h2]
  exact Bool.false_ne_true
 have hlong:¬ Builtin.List.listTooLong (its.toArray.size * k.toNat) = true:=by
  rw [znP hlen]
  exact Bool.false_ne_true
 have hnew:List.foldl (fun x1 x2=>x1 ++ x2) #[] (List.replicate (if its.toArray.isEmpty = true then 0 else k.toNat) its.toArray) = (List.replicate k.toNat its).flatten.toArray:=by
  have f0:∀ m:Nat,List.foldl (fun x1 x2=>x1 ++ x2) #[] (List.replicate m its.toArray) = (List.replicate m its).flatten.toArray:=fun m=>by
   have:=ziY its m []
   rw [List.nil_append] at this
   exact this
  rw [f0]
  cases its with
  | nil=>simp
  | cons a r'=>rw [if_neg (by simp)]
 refine wpAny_binaryOp_repeat_ref (T:="list") (U:="int") (by decide) ⟨_,e,rfl⟩ (fun s'=>typeIs_int s' k t) noFill_list_mul F.fills_int_mul F.slot_int_rmul repeat_list F.slot_int_index.lookup
  (call_meets F.slot_int_rmul (typeIs_int s k t) F.entry_int_rmul (F.args_int_rmul_2 _ _) (int___rmul___int_list k t l its.toArray n)
   ⟨e,rfl,⟨_,e,rfl⟩,call_meets F.slot_list_mul ⟨_,e,rfl⟩ F.entry_list_mul (F.args_list_mul_2 _ _) (AutoListH.list___mul___list_int_3 l its.toArray n k t hfit hcap hlong) ⟨e,?_⟩⟩)
 rw [hnew]
 exact ⟨.ref _,_,I.lnew (t':=s.toks) (r.rep k.toNat) (by rw [zp0,Nat.mul_comm]; exact hz),rfl,q _ I.fresh⟩
end
section
variable {prog:Program} {w:World} {A:Around} {E:Value->Shared->Prop} {s:Shared}
set_option maxRecDepth 100000 in
end
end
section
section
variable {κ:Type} [DecidableEq κ]
def zlk (kvs:List (κ × V)) (k:κ):Option V:=(kvs.find? fun kv=>decide (kv.1 = k)).map (·.2)
def ze0 (kvs:List (κ × V)) (k:κ) (v:V):List (κ × V) :=
 if (kvs.any fun kv=>decide (kv.1 = k)) = true then kvs.map (fun kv=>if kv.1 = k then (kv.1,v) else kv) else kvs ++ [(k,v)]
theorem zfE {p:κ × V} {r:List (κ × V)} {k:κ} (e:p.1 = k):zlk (p :: r) k = some p.2:=by simp [zlk,List.find?_cons,e]
theorem zfz {p:κ × V} {r:List (κ × V)} {k:κ} (e:¬ p.1 = k):zlk (p :: r) k = zlk r k:=by simp [zlk,List.find?_cons,e]
theorem zjX (k:κ):∀ kvs:List (κ × V),(kvs.any fun kv=>decide (kv.1 = k)) = (zlk kvs k).isSome
 | []=>rfl
 | p :: r=>by
  rw [List.any_cons]
  by_cases e:p.1 = k
  ·simp only [zfE e,decide_eq_true e,Bool.true_or,Option.isSome_some]
  ·rw [zfz e,decide_eq_false e,Bool.false_or]; exact zjX k r
theorem zem (kvs:List (κ × V)) (k:κ) (v:V):(ze0 kvs k v).length <= kvs.length + 1:=by
 unfold ze0
 split
 ·rw [List.length_map]; omega
 ·rw [List.length_append,List.length_cons,List.length_nil]; omega
theorem RelO.isSome_eq {o:Option V} {u:Option Value} (r:RelO o u):o.isSome = u.isSome:=by
 cases o with
 | none=>cases u with
  | none=>rfl
  | some _=>exact (show False from r).elim
 | some _=>cases u with
  | none=>exact (show False from r).elim
  | some _=>rfl
theorem RelO.getD {o:Option V} {u:Option Value} {d:V} {d':Value} (r:RelO o u) (rd:RelV d d'):RelV (o.getD d) (u.getD d'):=by
 cases o with
 | none=>cases u with
  | none=>exact rd
  | some _=>exact (show False from r).elim
 | some _=>cases u with
  | none=>exact (show False from r).elim
  | some _=>exact r
theorem KV.val {kvs:List (κ × V)} {vs:List (κ × Value)} (r:KV kvs vs) (k:κ):RelO (zlk kvs k) (valueAt vs k):=by
 unfold KV at r
 induction r with
 | nil=>exact True.intro
 | @cons p q ps qs h t ih =>
  obtain ⟨h1,h2⟩:=h
  by_cases e:p.1 = k
  ·have e':q.1 = k:=h1.symm.trans e
   have b:valueAt (q :: qs) k = some q.2:=by simp [valueAt,List.find?_cons,e']
   rw [zfE e,b]; exact h2
  ·have e':¬ q.1 = k:=fun z=>e (h1.trans z)
   have b:valueAt (q :: qs) k = valueAt qs k:=by simp [valueAt,List.find?_cons,e']
   rw [zfz e,b]; exact ih
theorem KV.any {kvs:List (κ × V)} {vs:List (κ × Value)} (r:KV kvs vs) (k:κ):(kvs.any fun kv=>decide (kv.1 = k)) = vs.any fun kv=>decide (kv.1 = k):=by
 unfold KV at r
 induction r with
 | nil=>rfl
 | cons h t ih=>rw [List.any_cons,List.any_cons,ih,h.1]
theorem KV.repl {kvs:List (κ × V)} {vs:List (κ × Value)} (r:KV kvs vs) (k:κ) {y:V} {u:Value} (ry:RelV y u) :
  KV (kvs.map fun kv=>if kv.1 = k then (kv.1,y) else kv) (vs.map fun kv=>if kv.1 = k then (kv.1,u) else kv):=by
 unfold KV at r ⊢
 induction r with
 | nil=>exact .nil
 | @cons p q ps qs h t ih =>
  rw [List.map_cons,List.map_cons]
  refine .cons ?_ ih
  obtain ⟨h1,h2⟩:=h
  by_cases e:p.1 = k
  ·rw [if_pos e,if_pos (h1.symm.trans e)]; exact ⟨h1,ry⟩
  ·rw [if_neg e,if_neg (fun z=>e (h1.trans z))]; exact ⟨h1,h2⟩
theorem KV.put {kvs:List (κ × V)} {vs:List (κ × Value)} (r:KV kvs vs) (k:κ) {y:V} {u:Value} (ry:RelV y u):KV (ze0 kvs k y) (stored vs k u):=by
 unfold ze0 stored
 rw [r.any k]
 by_cases e:(vs.any fun kv=>decide (kv.1 = k)) = true
 ·rw [if_pos e,if_pos e]; exact r.repl k ry
 ·rw [if_neg e,if_neg e]; exact Paired.snoc r ⟨rfl,ry⟩
theorem KV.length {kvs:List (κ × V)} {vs:List (κ × Value)} (r:KV kvs vs):kvs.length = vs.length:=Paired.length r
end
theorem zjw {P:Program} {w:World} {k:Key} {u:Value} (r:RelV (kV k) u):(zad P w).is k u = true:=by
 cases k with
 | inl i=>obtain ⟨t,e⟩:=(show ∃ t,u = Value.int i t from r); subst e; exact zi8 P w i t
 | inr x=>obtain ⟨t,e⟩:=(show ∃ t,u = Value.str x t from r); subst e; exact zjp P w x t
theorem zh1 {P:Program} {w:World}:∀ {ks:List Key} {us:List Value},Vals (ks.map kV) us->ItemsAre (zad P w) ks us
 | [],_,r=>by rw [List.map_nil] at r; cases r; exact .nil
 | k :: ks,_,r=>by
  rw [List.map_cons] at r
  cases r with
  | cons h t=>exact .cons (zjw h) (zh1 t)
abbrev KT (H:Hp):List (List Key × V)->List (List Key × Addr × Value)->Prop:=Paired fun p q=>p.1 = q.1/\H q.2.1 = some (.tup (p.1.map kV))/\RelV p.2 q.2.2
theorem KT.val {H:Hp} {kvs:List (List Key × V)} {xs:List (List Key × Addr × Value)} (r:KT H kvs xs) (k:List Key):RelO (zlk kvs k) ((atKey xs k).map (·.2)):=by
 induction r with
 | nil=>exact True.intro
 | @cons p q ps qs h t ih =>
  obtain ⟨h1,_,h2⟩:=h
  by_cases e:p.1 = k
  ·have e':q.1 = k:=h1.symm.trans e
   have b:atKey (q :: qs) k = some q.2:=by simp [atKey,List.find?_cons,e']
   rw [zfE e,b]; exact h2
  ·have e':¬ q.1 = k:=fun z=>e (h1.trans z)
   have b:atKey (q :: qs) k = atKey qs k:=by simp [atKey,List.find?_cons,e']
   rw [zfz e,b]; exact ih
theorem KT.repl {H:Hp} {kvs:List (List Key × V)} {xs:List (List Key × Addr × Value)} (r:KT H kvs xs) (k:List Key) {y:V} {u:Value} (ry:RelV y u) :
  KT H (kvs.map fun kv=>if kv.1 = k then (kv.1,y) else kv) (xs.map (putAt k u)):=by
 induction r with
 | nil=>exact .nil
 | @cons p q ps qs h t ih =>
  rw [List.map_cons,List.map_cons]
  refine .cons ?_ ih
  obtain ⟨h1,h2,h3⟩:=h
  unfold putAt
  by_cases e:p.1 = k
  ·rw [if_pos e,if_pos (h1.symm.trans e)]; exact ⟨h1,h2,ry⟩
  ·rw [if_neg e,if_neg (fun z=>e (h1.trans z))]; exact ⟨h1,h2,h3⟩
theorem KT.put {H:Hp} {kvs:List (List Key × V)} {xs:List (List Key × Addr × Value)} (r:KT H kvs xs) (k:List Key) {b:Addr} {y:V} {u:Value} (hb:H b = some (.tup (k.map kV))) (ry:RelV y u) :
  KT H (ze0 kvs k y) (storedH xs k b u):=by
 have e:(kvs.any fun kv=>decide (kv.1 = k)) = (atKey xs k).isSome:=by
  rw [zjX,(r.val k).isSome_eq,Option.isSome_map]
 unfold ze0 storedH
 rw [e]
 by_cases q:(atKey xs k).isSome = true
 ·rw [if_pos q,if_pos q]; exact r.repl k ry
 ·rw [if_neg q,if_neg q]; exact Paired.snoc r ⟨rfl,hb,ry⟩
theorem KT.keeps {H H':Hp} {kvs:List (List Key × V)} {xs:List (List Key × Addr × Value)} (r:KT H kvs xs) (ht:∀ b ys,H b = some (.tup ys)->H' b = some (.tup ys)):KT H' kvs xs :=
 Paired.mapP r fun _ _ z=>⟨z.1,ht _ _ z.2.1,z.2.2⟩
section
variable {P:Program} {w:World} {H:Hp} {h:Heap} {a:Addr}
theorem zrN {u:HO} (ok:HOk P w H h) (e:Rd H a u):ObjOk P w H h a u:=e.ok ok
theorem zlj {kvs:List (Key × V)} (ok:HOk P w H h) (e:Rd H a (.dK kvs)):kvs.length <= sizeLine/\(a == sysModules) = false/\∃ vs,KV kvs vs/\h.DictOf (zad P w) a vs :=
 show ObjOk P w H h a (.dK kvs) from zrN ok e
theorem zrC {kvs:List (Key × V)} (ok:HOk P w H h) (e:H a = some (.dK kvs)):kvs.length <= sizeLine/\(a == sysModules) = false/\∃ vs,KV kvs vs/\h.DictOf (zad P w) a vs:=zlj ok (.inl e)
theorem ziV {ks:List Key} (ok:HOk P w H h) (e:H a = some (.tup (ks.map kV))):(tupleKind (zad P w)).is h ks a:=by
 obtain ⟨_,its,r,o,h1,h2,n,h3⟩:=(show ObjOk P w H h a (.tup (ks.map kV)) from ok a _ e)
 exact ⟨o,its.toArray,n,h1,h2,h3,by simpa using zh1 r⟩
theorem zld {kvs:List (List Key × V)} (ok:HOk P w H h) (e:Rd H a (.dT kvs)):kvs.length <= sizeLine/\(a == sysModules) = false /\
  ∃ xs,KT H kvs xs/\h.DictOfH (tupleKind (zad P w)) a xs:=by
 obtain ⟨z,y,xs,r,o,es,ep,h1,h2,h3,h4,h5⟩:=(show ObjOk P w H h a (.dT kvs) from zrN ok e)
 refine ⟨z,y,xs,r,o,es,ep,h1,h2,h3,h4,fun x hx=>?_,h5⟩
 have all:∀ {l:List (List Key × V)} {m:List (List Key × Addr × Value)},KT H l m->∀ x ∈ m,(tupleKind (zad P w)).is h x.1 x.2.1:=by
  intro l m q
  induction q with
  | nil=>intro x hx; exact nomatch hx
  | @cons p q ps qs hq t ih =>
   intro x hx
   rcases List.mem_cons.mp hx with e | hx
   ·subst e
    exact ziV ok (by rw [<- hq.1]; exact hq.2.1)
   ·exact ih x hx
 exact all r x hx
theorem ztc {kvs:List (List Key × V)} (ok:HOk P w H h) (e:H a = some (.dT kvs)):kvs.length <= sizeLine/\(a == sysModules) = false /\
  ∃ xs,KT H kvs xs/\h.DictOfH (tupleKind (zad P w)) a xs:=zld ok (.inl e)
end
def DGet (H:Hp) (a:Addr) (y:V) (r:Option V):Prop :=
 (∃ kvs k,Rd H a (.dK kvs)/\y = kV k/\r = zlk kvs k)\/∃ kvs k b,Rd H a (.dT kvs)/\y = .ref b/\H b = some (.tup (k.map kV))/\r = zlk kvs k
def DPut (H:Hp) (a:Addr) (y v:V) (H':Hp):Prop :=
 (∃ kvs k,H a = some (.dK kvs)/\y = kV k/\kvs.length < sizeLine/\H' = upd H a (.dK (ze0 kvs k v))) \/
 ∃ kvs k b,H a = some (.dT kvs)/\y = .ref b/\H b = some (.tup (k.map kV))/\kvs.length < sizeLine/\H' = upd H a (.dT (ze0 kvs k v))
theorem DPut.k {H:Hp} {a:Addr} {kvs:List (Key × V)} {k:Key} {v:V} (e:H a = some (.dK kvs)) (hl:kvs.length < sizeLine):DPut H a (kV k) v (upd H a (.dK (ze0 kvs k v))):=.inl ⟨kvs,k,e,rfl,hl,rfl⟩
theorem DPut.t {H:Hp} {a b:Addr} {kvs:List (List Key × V)} {k:List Key} {v:V} (e:H a = some (.dT kvs)) (eb:H b = some (.tup (k.map kV))) (hl:kvs.length < sizeLine) :
  DPut H a (.ref b) v (upd H a (.dT (ze0 kvs k v))):=.inr ⟨kvs,k,b,e,rfl,eb,hl,rfl⟩
section
variable {X:Cx} {zk:List (Addr × Obj)} {σ:St} {H:Hp} {s:Shared} {a:Addr} {y v:V} {u r:Value} {o:Option V} {A:Around} {E:Value->Shared->Prop}
theorem Inv.big (I:Inv X zk σ H s):sysModules < s.heap.objs.size:=by
 have h:mainGlobals < s.heap.objs.size:=(I.mod.glob.keeps I.bk).lt
 exact Nat.lt_trans (by decide) h
theorem znl {Q:Value->Shared->Prop} (hu:A.units + 1 < cLine) (I:Inv X zk σ H s) (g:DGet H a y (some v)) (ry:RelV y u) (h:∀ w' s',Inv X zk σ H s'->RelV v w'->Q w' s') :
  wpAny (model X.prog X.w) A (getItem (.ref a) u) Q E s:=by
 rcases g with ⟨kvs,k,e,ey,l⟩ | ⟨kvs,k,b,e,ey,eb,l⟩
 ·subst ey
  obtain ⟨z,hd,vs,rel,dd⟩:=zlj I.hok e
  obtain ⟨w',hw,rw'⟩:=RelO.some_of (v:=v) (o:=valueAt vs k) (by rw [l]; exact rel.val k)
  exact wpAny_getItem_of (zjw ry) dd.mapOf hw (h w' _ (I.tok _) rw')
 ·subst ey
  cases (show u = Value.ref b from ry)
  obtain ⟨z,hd,xs,rel,dd⟩:=zld I.hok e
  obtain ⟨w',hw,rw'⟩:=RelO.some_of (v:=v) (o:=(atKey xs k).map (·.2)) (by rw [l]; exact rel.val k)
  obtain ⟨p,hp,hp2⟩:=Option.map_eq_some_iff.mp hw
  refine wpAny_getItem_heap (tupleKind_room_in1 hu) (ziV I.hok eb) dd hp ?_
  rw [hp2]
  exact h w' _ (I.tok _) rw'
theorem zp7 {Q:Value->Shared->Prop} (hu:A.units + 1 < cLine) (I:Inv X zk σ H s) (g:DGet H a y o) (ry:RelV y u) (h:∀ s',Inv X zk σ H s'->Q (.bool (!o.isSome)) s') :
  wpAny (model X.prog X.w) A (compareOp .NotIn u (.ref a)) Q E s:=by
 rcases g with ⟨kvs,k,e,ey,l⟩ | ⟨kvs,k,b,e,ey,eb,l⟩
 ·subst ey
  obtain ⟨z,hd,vs,rel,dd⟩:=zlj I.hok e
  refine wpAny_notIn_of (zjw ry) hd dd.mapOf ?_
  rw [<- (rel.val k).isSome_eq,<- l]
  exact h _ (I.tok _)
 ·subst ey
  cases (show u = Value.ref b from ry)
  obtain ⟨z,hd,xs,rel,dd⟩:=zld I.hok e
  refine wpAny_notIn_heap (tupleKind_room_in1 hu) (ziV I.hok eb) hd dd ?_
  have q:=(rel.val k).isSome_eq
  rw [Option.isSome_map] at q
  rw [<- q,<- l]
  exact h _ (I.tok _)
theorem zjn {h':Heap} {t':Nat} {ob:HO} (I:Inv X zk σ H s) (mu:Mut (H a)) (hs:Heap.SameBut a s.heap h') (he:∃ q,h'.get? a = some q) (new:ObjOk X.prog X.w (upd H a ob) h' a ob) :
  Inv X zk σ (upd H a ob) { s with heap:=h',toks:=t' } :=
 I.write (x:=a) (e:=a) mu (.inl rfl) (fun b q hb z=>(hs.2 b hb).trans z) he new
theorem zoR {P:Program} {w:World} {H':Hp} {h':Heap} {kvs:List (Key × V)} {vs:List (Key × Value)} (z:kvs.length <= sizeLine) (hd:(a == sysModules) = false) (rel:KV kvs vs) (dd:h'.DictOf (zad P w) a vs) :
  ObjOk P w H' h' a (.dK kvs):=⟨z,hd,vs,rel,dd⟩
theorem zlJ {H':Hp} {Q:Unit->Shared->Prop} (hu:A.units + 1 < cLine) (I:Inv X zk σ H s) (g:DPut H a y v H') (ry:RelV y u) (rv:RelV v r) (h:∀ s',Inv X zk σ H' s'->Q () s') :
  wpAny (model X.prog X.w) A (setItem (.ref a) u r) Q E s:=by
 rcases g with ⟨kvs,k,e,ey,l,eH⟩ | ⟨kvs,k,b,e,ey,eb,l,eH⟩
 ·subst ey eH
  obtain ⟨z,hd,vs,rel,dd⟩:=zrC I.hok e
  have hz:vs.length <= sizeLine:=by rw [<- rel.length]; exact z
  have hl:(ze0 kvs k v).length <= sizeLine:=by have:=zem kvs k v; omega
  refine wpAny_setItem_pairs (hsz:=hz) (zjw ry) dd fun h' dd' hs=>h _ ?_
  have he:∃ q,h'.get? a = some q:=let ⟨q,_,_,hq,_⟩:=dd'; ⟨q,hq⟩
  exact zjn I (by rw [e]; exact True.intro) hs he (zoR hl hd (rel.put k rv) dd')
 ·subst ey eH
  cases (show u = Value.ref b from ry)
  obtain ⟨z,hd,xs,rel,dd⟩:=ztc I.hok e
  have hz:xs.length <= sizeLine:=by rw [<- Paired.length rel]; exact z
  have hl:(ze0 kvs k v).length <= sizeLine:=by have:=zem kvs k v; omega
  refine wpAny_setItem_heap (hsz:=hz) (tupleKind_room_in1 hu) (ziV I.hok eb) dd fun h' dd' hs=>h _ ?_
  obtain ⟨q,es,ep,hq,h2,h3,h4,_,h5⟩:=dd'
  refine zjn I (by rw [e]; exact True.intro) hs ⟨q,hq⟩ ⟨hl,hd,_,(rel.put k eb rv).keeps fun c ys ec=>?_,q,es,ep,hq,h2,h3,h4,h5⟩
  rw [zY (zte ec e (fun z=>nomatch z))]
  exact ec
end
def NoSl (i:Expr):Prop:=∀ ov iv,subscripted i false ov iv = operate [ov,iv] (getItem ov iv)
theorem zq0 {prog:Program} {w:World} {A:Around} {E:Value->Shared->Prop} {s:Shared} {env:Env} {value slice:Expr} {pos:Pos} {T id:String} {Q:Value->Shared->Prop}
  (hl:typeLookup (.type T) "__getitem__" = pure (some (.builtin id))) (hs:NoSl slice)
  (h:wpAny (model prog w) A (eval value env) (fun o s₁=>wpAny (model prog w) A (eval slice env) (fun i s₂=>s₂.TypeIs o T/\wpAny (model prog w) A (getItem o i) Q E s₂) E s₁) E s) :
  wpAny (model prog w) A (eval (.Subscript value slice pos) env) Q E s:=by
 refine Subscript_ (wpAny_mono h (fun o s₁ h₁=>wpAny_mono h₁ (fun i s₂ h₂=>?_) fun _ _ x=>x) fun _ _ x=>x)
 obtain ⟨hT,h₂⟩:=h₂
 unfold subscriptTail
 refine wpAny_bind ?_
 rw [getitemInPython_of_ne hT.not_modules]
 refine wpAny_bind (wpAny_specialOf hT hl ?_)
 have fin:wpAny (model prog w) A (subscripted slice false o i) (fun r s₃=>wpAny (model prog w) A (letTemporaryGo value o r >>= fun _=>pure r) Q E s₃) E s₂:=by
  rw [hs o i]
  exact wpAny_operating (wpAny_mono h₂ (fun r s₃ h₃=>wpAny_bind (wpAny_letTemporaryGo (wpAny_pure h₃))) fun _ _ x=>x)
 first
  | exact wpAny_pure (wpAny_bind fin)
  | exact wpAny_bind (wpAny_pure (wpAny_bind fin))
  | exact wpAny_bind fin
theorem zjA {X:Cx} {zk:List (Addr × Obj)} {σ:St} {H:Hp} {s:Shared} {a:Addr} {y:V} {o:Option V} (I:Inv X zk σ H s) (g:DGet H a y o):s.TypeIs (.ref a) "dict":=by
 rcases g with ⟨kvs,k,e,_,_⟩ | ⟨kvs,k,b,e,_,_,_⟩
 ·obtain ⟨_,_,vs,_,dd⟩:=zlj I.hok e
  exact dd.typeIs
 ·obtain ⟨_,_,xs,_,dd⟩:=zld I.hok e
  exact dd.typeIs
def zri (td ty:TE):TE:=fun σ H Q=>td σ H fun x H1=>ty σ H1 fun y H2=>∃ a v,x = .ref a/\DGet H2 a y (some v)/\Q v H2
def zsN (td ty tv:TE):TS:=fun D σ H=>tv σ H fun v H1=>td σ H1 fun x H2=>ty σ H2 fun y H3=>∃ a H4,x = .ref a/\DPut H3 a y v H4/\D.nx σ H4
section
variable {X:Cx} {o i e value:Expr} {pos pos' tpos:Pos} {td ty tv:TE}
theorem zl6 (hu:X.A.units + 1 < cLine) (ho:PE X o td) (hi:PE X i ty) (hs:NoSl i):PE X (.Subscript o i pos) (zri td ty):=by
 intro zk s σ H Q I h
 refine zq0 PySem.F.slot_dict_getitem.lookup hs (thn (ho zk s σ H _ I h) fun u s1 ⟨x,H1,I1,rx,q1⟩=>thn (hi zk s1 σ H1 _ I1 q1) fun iv s2 ⟨y,H2,I2,ry,a,v,ex,g,q2⟩=>?_)
 subst ex
 obtain rfl:u = Value.ref a:=rx
 exact ⟨zjA I2 g,znl hu I2 g ry fun w' s3 I3 rw'=>⟨v,H2,I3,rw',q2⟩⟩
theorem zqf (hu:X.A.units + 1 < cLine) (ho:PE X o td) (hi:PE X i ty) (hv:PE X value tv) (hs:swapsWith value (some (.Subscript o i pos')) pos.line X.env = pure false) :
  PS X (.Assign [.Subscript o i pos'] value pos) (zsN td ty tv):=by
 intro zk s σ H D I h
 refine wpAny_Assign_Subscript (thn (hv zk s σ H _ I h) fun r s1 ⟨v,H1,I1,rv,q1⟩=>thn (ho zk s1 σ H1 _ I1 q1) fun u s2 ⟨x,H2,I2,rx,q2⟩=>thn (hi zk s2 σ H2 _ I2 q2) fun iv s3 ⟨y,H3,I3,ry,a,H4,ex,g,q3⟩=>?_) hs
 subst ex
 obtain rfl:u = Value.ref a:=rx
 exact zlJ hu I3 g ry rv fun s4 I4=>⟨σ,H4,I4,q3⟩
end
theorem zkc {P:Program} {w:World} {H:Hp} (h:Heap) (hb:sysModules < h.objs.size):ObjOk P w H (h.push { cls:=.type "dict",data:=.dict #[] }) h.objs.size (.dK []) :=
 ⟨Nat.zero_le _,beq_eq_false_iff_ne.mpr (Ne.symm (Nat.ne_of_lt hb)),[],.nil,Heap.DictOf.new h⟩
def zpm:TE:=fun _ H Q=>∀ p,H p = none->Q (.ref p) (upd H p (.dK []))
section
variable {X:Cx} {pos:Pos}
theorem zoA:PE X (.Dict [] [] pos) zpm:=fun zk s σ H Q I h =>
 wpAny_Dict_empty ⟨.ref s.heap.objs.size,_,I.laid (a:=s.heap.objs.size) (o:=.dK []) (t':=s.toks) (fun _ _ q=>Heap.get?_push_of_some _ q) (Nat.le_refl _) (zkc s.heap I.big),rfl,h _ (I.hok.fresh (Nat.le_refl _))⟩
end
def zm2:List (TE × TE)->St->Hp->(List (V × V)->Hp->Prop)->Prop
 | [],_,H,Q=>Q [] H
 | (tk,tv) :: r,σ,H,Q=>tk σ H fun x H1=>tv σ H1 fun y H2=>zm2 r σ H2 fun ps H3=>Q ((x,y) :: ps) H3
abbrev VV:List (V × V)->List (Value × Value)->Prop:=Paired fun p q=>RelV p.1 q.1/\RelV p.2 q.2
def PPs (X:Cx) (pos:Pos) (keys:List (Option Expr)) (values:List Expr) (trs:List (TE × TE)):Prop :=
 ∀ (zk:List (Addr × Obj)) (s:Shared) (σ:St) (H:Hp) (Q:List (V × V)->Hp->Prop),Inv X zk σ H s->zm2 trs σ H Q ->
  wpAny (model X.prog X.w) X.A (evalPairs (pairTrees keys values X.env pos)) (fun vs s'=>∃ ps H',Inv X zk σ H' s'/\VV ps vs/\Q ps H') X.xe s
theorem zpY {X:Cx} {pos:Pos}:PPs X pos [] [] []:=fun zk s σ H Q I h=>pairTrees_nil_walk ⟨[],H,I,.nil,h⟩
theorem zor {X:Cx} {pos:Pos} {k v:Expr} {ks:List (Option Expr)} {vs:List Expr} {tk tv:TE} {trs:List (TE × TE)} (hk:PE X k tk) (hv:PE X v tv) (hr:PPs X pos ks vs trs) :
  PPs X pos (some k :: ks) (v :: vs) ((tk,tv) :: trs):=fun zk s σ H Q I h =>
 pairTrees_cons_walk (thn (hk zk s σ H _ I h) fun u s1 ⟨x,H1,I1,rx,q1⟩=>thn (hv zk s1 σ H1 _ I1 q1) fun w2 s2 ⟨y,H2,I2,ry,q2⟩ =>
  thn (hr zk s2 σ H2 _ I2 q2) fun ws s3 ⟨ps,H3,I3,rel,q3⟩=>⟨(x,y) :: ps,H3,I3,.cons ⟨rx,ry⟩ rel,q3⟩)
def zfR (kvs more:List (Key × V)):List (Key × V):=more.foldl (fun acc kv=>ze0 acc kv.1 kv.2) kvs
theorem KV.merge:∀ {more:List (Key × V)} {rs:List (Key × Value)} {kvs:List (Key × V)} {vs:List (Key × Value)},KV more rs->KV kvs vs->KV (zfR kvs more) (merged vs rs):=by
 intro more rs kvs vs r
 unfold KV at r
 induction r generalizing kvs vs with
 | nil=>intro q; exact q
 | @cons p q ps qs h t ih =>
  intro r0
  have e:KV (ze0 kvs p.1 p.2) (stored vs q.1 q.2):=by
   have:=r0.put p.1 h.2
   rw [<- h.1]; exact this
  exact ih e
theorem zeQ:∀ (more kvs:List (Key × V)),(zfR kvs more).length <= kvs.length + more.length
 | [],kvs=>by show kvs.length <= kvs.length + 0; omega
 | p :: r,kvs=>by
  have h1:=zeQ r (ze0 kvs p.1 p.2)
  have h2:=zem kvs p.1 p.2
  show (zfR (ze0 kvs p.1 p.2) r).length <= _
  rw [List.length_cons]; omega
theorem zgY {P:Program} {w:World}:∀ {kvs:List (Key × V)} {ws:List (Value × Value)},VV (kvs.map fun kv=>(kV kv.1,kv.2)) ws->∃ rs,Carries (zad P w) ws rs/\KV kvs rs
 | [],_,r=>by rw [List.map_nil] at r; cases r; exact ⟨[],True.intro,.nil⟩
 | p :: kvs,_,r=>by
  rw [List.map_cons] at r
  cases r with
  | @cons a b as bs h t =>
   obtain ⟨rs,c,q⟩:=zgY (P:=P) (w:=w) t
   obtain ⟨b1,b2⟩:=b
   exact ⟨(p.1,b2) :: rs,⟨zjw h.1,rfl,c⟩,.cons ⟨rfl,h.2⟩ q⟩
def zrj (trs:List (TE × TE)):TE:=fun σ H Q=>∀ p,H p = none->zm2 trs σ (upd H p (.dK [])) fun ps H2=>H2 p = some (.dK [])/\∃ kvs:List (Key × V),ps = kvs.map (fun kv=>(kV kv.1,kv.2))/\kvs.length <= 15/\Q (.ref p) (upd H2 p (.dK (zfR [] kvs)))
theorem zqT {X:Cx} {pos:Pos} {keys:List (Option Expr)} {values:List Expr} {trs:List (TE × TE)} (h:PPs X pos keys values trs) (hall:keys.all (·.isSome) = true) (hl:keys.length = values.length) (h0:keys ≠ [])
  (h15:keys.length <= 15):PE X (.Dict keys values pos) (zrj trs):=by
 intro zk s σ H Q I q
 have hn:=I.hok.fresh (Nat.le_refl s.heap.objs.size)
 have I1:=I.laid (a:=s.heap.objs.size) (o:=.dK []) (h':=s.heap.push { cls:=.type "dict",data:=.dict #[] }) (t':=s.toks) (fun _ _ q=>Heap.get?_push_of_some _ q) (Nat.le_refl _) (zkc s.heap I.big)
 refine wpAny_Dict_walk (knd:=zad X.prog X.w) hall hl h0 h15 (thn (h zk _ σ _ _ I1 (q _ hn)) fun ws s2 ⟨ps,H2,I2,rel,e,kvs,ep,lk,q2⟩=>?_)
 subst ep
 obtain ⟨rs,c,rk⟩:=zgY (P:=X.prog) (w:=X.w) rel
 obtain ⟨z,hd,vs0,r0,dd⟩:=zrC I2.hok e
 cases r0
 refine ⟨rs,c,dd,fun h' dd' hs=>⟨.ref s.heap.objs.size,_,?_,rfl,q2⟩⟩
 have hz:(zfR [] kvs).length <= sizeLine:=by
  have h1:=zeQ kvs []
  rw [List.length_nil] at h1
  rw [sizeLine_eq]; omega
 have he:∃ q,h'.get? s.heap.objs.size = some q:=let ⟨q,_,_,hq,_⟩:=dd'; ⟨q,hq⟩
 exact zjn I2 (by rw [e]; exact True.intro) hs he (zoR hz hd (rk.merge .nil) dd')
structure M1 (X:Cx) (o:Expr) (m:Str) (apos:Pos) (e:Expr) (cpos:Pos):Prop where
 base:attributeBase o m X.env (eval o X.env) = eval o X.env
 few:((backTo cpos (starEach [e] X.env)).all (fun x=>!x.1) && (backToKw cpos (keywordEach [] X.env)).all (fun x=>x.1.isSome)
  && decide (([e]:List Expr).length + ([]:List Keyword).length + (if ([]:List Keyword).isEmpty then 0 else 1) < 30)) = true
 line:(apos.endLine == cpos.line) = true
 trees:backTo cpos (starEach [e] X.env) = [(false,eval e X.env)]
structure M2 (X:Cx) (o:Expr) (m:Str) (apos:Pos) (e f:Expr) (cpos:Pos):Prop where
 base:attributeBase o m X.env (eval o X.env) = eval o X.env
 few:((backTo cpos (starEach [e,f] X.env)).all (fun x=>!x.1) && (backToKw cpos (keywordEach [] X.env)).all (fun x=>x.1.isSome)
  && decide (([e,f]:List Expr).length + ([]:List Keyword).length + (if ([]:List Keyword).isEmpty then 0 else 1) < 30)) = true
 line:(apos.endLine == cpos.line) = true
 trees:backTo cpos (starEach [e,f] X.env) = [(false,eval e X.env),(false,eval f X.env)]
def IsD (H:Hp) (a:Addr):Prop:=(∃ kvs,Rd H a (.dK kvs))\/∃ kvs,Rd H a (.dT kvs)
theorem zsz {X:Cx} {zk:List (Addr × Obj)} {σ:St} {H:Hp} {s:Shared} {a:Addr} (I:Inv X zk σ H s) (d:IsD H a) :
  s.TypeIs (.ref a) "dict"/\(∀ b,Value.ref a = .ref b->∃ ob,s.heap.get? b = some ob/\ob.dict = none)/\(a == sysModules) = false:=by
 rcases d with ⟨kvs,e⟩ | ⟨kvs,e⟩
 ·obtain ⟨_,hd,vs,_,dd⟩:=zlj I.hok e
  refine ⟨dd.typeIs,fun b q=>?_,hd⟩
  cases q
  obtain ⟨ob,_,_,h1,h2,_⟩:=dd
  exact ⟨ob,h1,h2.2.1⟩
 ·obtain ⟨_,hd,xs,_,dd⟩:=zld I.hok e
  refine ⟨dd.typeIs,fun b q=>?_,hd⟩
  cases q
  obtain ⟨ob,_,_,h1,h2,_⟩:=dd
  exact ⟨ob,h1,h2.2.1⟩
section
variable {X:Cx} {zk:List (Addr × Obj)} {σ:St} {H:Hp} {s:Shared} {a:Addr} {y d:V} {u r:Value} {o:Option V} {A:Around} {E:Value->Shared->Prop}
theorem zsJ {Q:Value->Shared->Prop} (hu:A.units + 1 < cLine) (I:Inv X zk σ H s) (g:DGet H a y o) (ry:RelV y u) (rd:RelV d r) (h:∀ w' s',Inv X zk σ H s'->RelV (o.getD d) w'->Q w' s') :
  wpAny (model X.prog X.w) A (call (.builtin "dict.get") [.ref a,u,r]) Q E s:=by
 rcases g with ⟨kvs,k,e,ey,l⟩ | ⟨kvs,k,b,e,ey,eb,l⟩
 ·subst ey
  obtain ⟨z,hd,vs,rel,dd⟩:=zlj I.hok e
  refine call_meetsIn PySem.F.slot_dict_get dd.typeIs PySem.F.entry_dict_get (PySem.F.args_dict_get_3 _ _ _) (meets_dict_get_default (zad X.prog X.w) a (zjw ry) hd r) ⟨_,dd.mapOf,h _ _ (I.tok _) ?_⟩
  rw [l]
  exact (rel.val k).getD rd
 ·subst ey
  cases (show u = Value.ref b from ry)
  obtain ⟨z,hd,xs,rel,dd⟩:=zld I.hok e
  refine call_meetsIn PySem.F.slot_dict_get dd.typeIs PySem.F.entry_dict_get (PySem.F.args_dict_get_3 _ _ _) (meetsH_dict_get_default (tupleKind (zad X.prog X.w)) a b hd r) ⟨tupleKind_room_in1 hu,k,xs,ziV I.hok eb,dd,h _ _ (I.tok _) ?_⟩
  rw [l]
  exact (rel.val k).getD rd
end
def zoS (td ty tx:TE):TE:=fun σ H Q=>td σ H fun x H1=>∃ a,x = .ref a/\IsD H1 a/\ty σ H1 fun y H2=>tx σ H2 fun z H3=>∃ o,DGet H3 a y o/\Q (o.getD z) H3
section
variable {X:Cx} {o e f:Expr} {apos cpos:Pos} {td ty tx:TE}
theorem zku (hu:X.A.units + 1 < cLine) (ho:PE X o td) (he:PE X e ty) (hf:PE X f tx) (m:M2 X o "get" apos e f cpos):PE X (.Call (.Attribute o "get" apos) [e,f] [] cpos) (zoS td ty tx):=by
 intro zk s σ H Q I h
 refine wpAny_Call_method m.base m.few m.line PySem.F.plainAttrs_dict PySem.F.slot_dict_get PySem.F.type_dict_get (thn (ho zk s σ H _ I h) fun u s1 ⟨x,H1,I1,rx,a,ex,d,q1⟩=>?_)
 subst ex
 obtain rfl:u = Value.ref a:=rx
 obtain ⟨t1,t2,_⟩:=zsz I1 d
 refine ⟨t1,t2,?_⟩
 rw [m.trees]
 refine Calls.callWith_builtin rfl (Calls.evalArgs_plain (Calls.spliced_cons (thn (he zk s1 σ H1 _ I1 q1) fun iv s2 ⟨y,H2,I2,ry,q2⟩ =>
  Calls.spliced_cons (thn (hf zk s2 σ H2 _ I2 q2) fun fv s3 ⟨z,H3,I3,rz,ov,g,q3⟩=>Calls.spliced_nil ?_))))
 exact zsJ hu I3 g ry rz fun w' s4 I4 rw'=>⟨_,H3,I4,rw',q3⟩
end
end
end L2
namespace Att
open PySem PySem.W PySem.Calls PyProof.Rows
theorem zfP {P:Params} {h:Heap}:∀ (ns:List Int) (vs:List Value),WellAll P h vs (ns.map WData.int)->IntsAre vs ns:=by
 intro ns
 induction ns with
 | nil =>
  intro vs w
  rw [List.map_nil] at w
  cases w
  exact .nil
 | cons n ns ih =>
  intro vs w
  rw [List.map_cons] at w
  cases w with
  | cons a b =>
   cases a
   exact .cons _ _ (ih _ b)
theorem zmu {l:OpenLaw} {n:Nat} (hn:l.most = some n) {P:Params} {h:Heap} {args:List WData} {vals:List Value}
  (hpre:l.row.toRowW.claim.pre args = true) (hwl:WellAll P h vals args) :
  ∃ a vs ns,vals = [Value.ref a]/\args = [WData.list (ns.map WData.int)]/\h.get? a = some { cls:=.type "list",data:=.seq vs.toArray }/\IntsAre vs ns/\ns.length <= n:=by
 have hsh:WShape.hasAll [] args [.list .int] = true:=(pre_splitW hpre).1
 have hc:l.pre.holds [] { args:=args } = true:=(pre_splitW hpre).2
 obtain ⟨d,r,rfl,h1,h2⟩:=hasAllW_cons hsh
 obtain rfl:=hasAllW_nil h2
 obtain ⟨xs,rfl,h3⟩:=hasW_list h1
 obtain ⟨ns,rfl⟩:=items_int h3
 have hlen:ns.length <= n:=by
  unfold OpenLaw.pre at hc
  have h4:(WTm.not (.lt (.lit (.int (n:Int))) (.len (.arg 0)))).holds [] { args:=[.list (ns.map .int)] } = true:=by
   have h4:=(holds_andW hc).1
   rw [hn] at h4
   exact h4
  have h5:=condW_of h4 (w_not (w_lt w_lit (w_len_list (w_arg rfl))))
  rw [List.length_map] at h5
  refine Nat.le_of_not_lt fun q=>?_
  have q':(n:Int) < ((ns.length:Nat):Int):=by omega
  first
   | (rw [decide_eq_true q'] at h5; exact absurd h5 (by decide))
   | (simp at h5; omega)
 cases hwl with
 | cons w1 w2 =>
  cases w2
  cases w1 with
  | list ho hall=>exact ⟨_,_,ns,rfl,rfl,ho,zfP ns _ hall,hlen⟩
theorem zlt (l:OpenLaw) (args:List WData):l.row.toRowW.claim.post args (.bool true) args = true :=
 postW_of (r:=l.row.toRowW) (X:=(true == true))
  (show WShape.has [] (.bool true) .bool = true by first | rfl | decide | simp [WShape.has,WShape.arms,WShape.armsAll])
  (show (WTm.eq .res (.lit (.bool true))).value [] { args:=args,res:=some (.bool true),after:=args } = some (.bool (true == true)) from w_eq_bool (w_res rfl) w_lit) rfl
theorem attach_call {l:OpenLaw} {n:Nat} {q:Program} {loose:List Str} {XP:(Str->Option Value)->Heap->Prop} {YP:World->Heap->Prop} {d:DefRec}
  (hn:l.most = some n) (hdf:d.params.defaults = [])
  (call:∀ (w:World) (s₀ s₁:Shared) (mg mb:Str->Option Value) (fa:Addr) (o:Obj) (pm cd doc:Value) (a:Addr) (vs:List Value) (ns:List Int),
   Ground q loose [] XP w s₀ mg mb s₁.heap->YP w s₁.heap ->
   s₁.heap.get? fa = some o->o.data = .func (docDef d.name d.params d.body d.scope pm cd doc)->s₁.heap.CodeRec cd d.name->mg d.name = some (.ref fa) ->
   s₁.heap.get? a = some { cls:=.type "list",data:=.seq vs.toArray }->IntsAre vs ns->ns.length <= n->s₁.gens = #[] ->
   codeAny (model l.prog w) callerA (.call (.ref fa) ⟨[.ref a],[]⟩) (fun r s'=>r = .ok (.ret (.bool true))/\OldK s₁.heap s'.heap/\s'.os = s₁.os/\AllBare s'.gens) s₁) :
  WalkO q loose XP YP l.row.toRowW d [] (fun f vs=>PySem.call f vs):=by
 intro w s₀ s₁ mg mb G Y fa o pm cd doc dV kV ho hd hcd hD hmg hg args vals as hpre hlay hrd hwl hlo
 obtain rfl:dV = .none:=Dflts.none hD hdf
 obtain rfl:kV = .none:=Dflts.noKw hD
 obtain ⟨a,vs,ns,rfl,rfl,hobj,hints,hlen⟩:=zmu hn hpre hwl
 refine enter_call (codeAny_mono (call w s₀ s₁ mg mb fa o pm cd doc a vs ns G Y ho (fd_plain hd) hcd hmg hobj hints hlen hg) fun r s' hq=>?_)
 obtain ⟨rfl,h2,h3,h4⟩:=hq
 exact ⟨.inl ⟨.bool true,.bool true,[],rfl,fun _=>rfl,.bool true,zlt l _,fun _=>⟨List.Pairwise.nil,fun _ hm=>(nomatch hm)⟩⟩,h2,h3,h4⟩
end Att
namespace L2
open PySem PySem.Spec PyProof.Rows
section
theorem ziD:∀ {vs:List Value} {ns:List Int},IntsAre vs ns->Vals (ns.map V.int) vs
 | _,_,.nil=>.nil
 | _,_,.cons n t h=>.cons ⟨t,rfl⟩ (ziD h)
def Only (H:Hp):Prop:=∀ b,H b = none\/∃ o xs,H b = some (.frz o (.lst xs))
theorem znV {P:Program} {w:World} {K:W.Frag} {mg mb:Str->Option Value} {CX:CXT} {k:Nat} {fa a:Addr} {fd:FuncData} {x:Str} {sp:Sp} {s₁:Shared} {vs:List Value} {ns:List Int}
  (KX:K.In s₁.heap) (hns:s₁.heap.Ns mainGlobals mg) (hb:s₁.heap.Ns builtinsNs mb) (hbb:∀ x:Str,x ≠ "__name__"->mb x = bootBuiltins x) (hlim:s₁.heap.NoLimit) (hg:s₁.gens = #[])
  (ha:s₁.heap.get? a = some { cls:=.type "list",data:=.seq vs.toArray }) (hi:IntsAre vs ns) (hl:ns.length <= sizeLine) (hr:Room k callerA)
  (F:∀ base:Heap,K.In base->base.Ns mainGlobals mg->FnOk P w K mg base CX k fa fd [x] sp) (hbind:∀ (s:Shared) (u:Value),BindsTo s fd ⟨[u],[]⟩ [(x,u)])
  (hsp:∀ H:Hp,Only H->SqL K H a (ns.map V.int)->sp [.ref a] H (fun v _=>v = .bl true) fun _ _ _=>False)
  (hCX:∀ H e s',CX [] H s₁ (fun _ _ _=>False) e s'->False) :
  codeAny (model P w) callerA (.call (.ref fa) ⟨[.ref a],[]⟩) (fun r s'=>r = .ok (.ret (.bool true))/\OldK s₁.heap s'.heap/\s'.os = s₁.os/\AllBare s'.gens) s₁:=by
 have rv:=ziD hi
 have lenV:=hi.length
 -- from an abstract heap in which nothing but the script may be tracked
 have core:∀ H:Hp,Only H->SqL K H a (ns.map V.int)->HOk P w H s₁.heap->(∀ b,H b ≠ none->b = a)->(H a ≠ none->K.lookup a = none) ->
   codeAny (model P w) callerA (.call (.ref fa) ⟨[.ref a],[]⟩) (fun r s'=>r = .ok (.ret (.bool true))/\OldK s₁.heap s'.heap/\s'.os = s₁.os/\AllBare s'.gens) s₁:=by
  intro H hO hS hok hA hK
  have base_of:∀ {b:Addr} {o:Obj},s₁.heap.get? b = some o->H b = none->(zn8 s₁.heap H).get? b = some o:=fun e n=>zom e n
  have noA:∀ {b:Addr} {o:Obj} {es:Array DictEntry} {ep:Nat},s₁.heap.get? b = some o->o.data = .dict es ep->H b = none:=fun {b o es ep} e d=>by
   cases q:H b with
   | none=>rfl
   | some u =>
    have e':b = a:=hA b (by rw [q]; simp)
    subst e'
    rw [ha] at e; cases e
    have d':Data.seq vs.toArray _ = Data.dict es ep:=d
    cases d'
  have nsK:∀ {b:Addr} {m:Str->Option Value},s₁.heap.Ns b m->(zn8 s₁.heap H).Ns b m:=fun {b m} ⟨o,es,ep,e,d,r⟩=>⟨o,es,ep,base_of e (noA e d),d,r⟩
  have hKb:K.In (zn8 s₁.heap H):=fun b o e=>base_of (KX b o e) (by
   cases q:H b with
   | none=>rfl
   | some u =>
    have e':b = a:=hA b (by rw [q]; simp)
    subst e'
    rw [hK (by rw [q]; simp)] at e; cases e)
  have hM:Mod K mg (zn8 s₁.heap H):=⟨hKb,nsK hns,⟨mb,nsK hb,hbb⟩,let ⟨mc,h1,h2⟩:=hlim; ⟨mc,nsK h1,h2⟩⟩
  have e0:Env0 P w K mg (zn8 s₁.heap H) callerA [] s₁ H:=⟨rfl,hM,fun b o e=>zqt e,Nat.le_of_eq (znj _ _),trivial,fun b hb=>absurd (show b ∈ ([]:List Addr) from hb) (by simp),hok,.of_eq hg⟩
  refine codeAny_mono ((F _ hKb (nsK hns)).run callerA [] s₁ H ⟨[.ref a],[]⟩ [.ref a] [.ref a] _ _ hr e0 (hbind s₁ (.ref a)) (.cons rfl .nil) (hsp H hO hS)) fun r s' h=>?_
  cases r with
  | error e=>exact (hCX H e s' h).elim
  | ok fl =>
   cases fl with
   | next=>exact False.elim h
   | brk=>exact False.elim h
   | cont=>exact False.elim h
   | ret u =>
    obtain ⟨v,H',os,bare,un,hok',r',q⟩:=h
    have q':v = .bl true:=q
    subst q'
    obtain rfl:u = Value.bool true:=r'
    refine ⟨rfl,OldK.of_keep fun b o e=>?_,os,bare⟩
    cases q:H b with
    | none=>exact un.keep b o e q (by intro z; exact absurd (show b ∈ ([]:List Addr) from z) (by simp)) (by simp)
    | some u =>
     rcases hO b with z | ⟨ob,xs,z⟩
     ·rw [q] at z; cases z
     ·have z2:=un.frzs b ob _ z
      obtain ⟨e1,_⟩:=hok b _ z
      obtain ⟨e2,_⟩:=hok' b _ z2
      rw [e] at e1; cases e1
      exact e2
 cases hk:K.lookup a with
 | some o =>
  -- the script is one of the module's own objects
  have e:=KX a o hk
  rw [ha] at e
  cases e
  refine core (fun _=>none) (fun _=>.inl rfl) (.inr ⟨_,vs.toArray,_,hk,rfl,rfl,rfl,by rw [List.size_toArray,lenV]; exact hl,by simpa using rv⟩) (fun b u z=>by have z':(none:Option HO) = some u:=z; cases z') (fun b z=>absurd rfl z) fun z=>absurd rfl z
 | none =>
  refine core (fun b=>if b = a then some (.frz { cls:=.type "list",data:=.seq vs.toArray } (.lst (ns.map V.int))) else none) (fun b=>?_) (.inl (.inr ⟨{ cls:=.type "list",data:=.seq vs.toArray },if_pos rfl⟩)) (fun b u z=>?_) (fun b z=>?_) fun _=>hk
  ·by_cases hb:b = a
   ·exact .inr ⟨_,_,if_pos hb⟩
   ·exact .inl (if_neg hb)
  ·by_cases hb:b = a
   ·have z':=(if_pos hb).symm.trans z
    cases z'
    subst hb
    exact ⟨ha,by rw [List.length_map]; exact hl,vs,_,rv,ha⟩
   ·have z':=(if_neg hb).symm.trans z
    cases z'
  ·by_cases hb:b = a
   ·exact hb
   ·exact absurd (if_neg hb) z
end
section
abbrev KOf {K:W.Frag} {h:Heap} (_:K.In h):W.Frag:=K
theorem walk_of {l:PySem.W.OpenLaw} {n k:Nat} {q:Program} {loose:List Str} {XP:(Str->Option Value)->Heap->Prop} {YP:World->Heap->Prop} {d:DefRec} {K:Params->W.Frag} {CX:World->CXT} {sp:World->Sp} {x:Str}
  (hn:l.most = some n) (hn2:n <= sizeLine) (hdf:d.params.defaults = []) (hr:Room k callerA)
  (hY:∀ (w:World) (h:Heap),YP w h->(K w.params).In h)
  (F:∀ (w:World) (mg:Str->Option Value) (fa:Addr) (h:Heap),(K w.params).In h->h.Ns mainGlobals mg->mg d.name = some (.ref fa) ->
   ∃ fd:FuncData,(∀ (s:Shared) (u:Value),BindsTo s fd ⟨[u],[]⟩ [(x,u)]) /\
    ∀ base:Heap,(K w.params).In base->base.Ns mainGlobals mg->FnOk l.prog w (K w.params) mg base (CX w) k fa fd [x] (sp w))
  (hsp:∀ (w:World) (H:Hp) (a:Addr) (ns:List Int),ns.length <= n->Only H->SqL (K w.params) H a (ns.map V.int)->sp w [.ref a] H (fun v _=>v = .bl true) fun _ _ _=>False)
  (hCX:∀ (w:World) (H:Hp) (s:Shared) (e:Value) (s':Shared),CX w [] H s (fun _ _ _=>False) e s'->False) :
  PySem.W.WalkO q loose XP YP l.row.toRowW d [] (fun f vs=>PySem.call f vs):=by
 refine Att.attach_call hn hdf fun w s₀ s₁ mg mb fa o pm cd doc a vs ns G Y ho hd hcd hmg hobj hints hlen hg=>?_
 have KX:=hY w _ Y
 obtain ⟨fd,hb,hF⟩:=F w mg fa _ KX G.T.g hmg
 exact znV KX G.T.g G.T.b G.T.builtins G.T.nolimit hg hobj hints (Nat.le_trans hlen hn2) hr hF hb (fun H hO hS=>hsp w H a ns hlen hO hS) fun H e s'=>hCX w H s₁ e s'
end
section
def zer (s:Stmt):Arguments:=match s with
 | .FunctionDef _ a _ _ _ _ _ _ _ _=>a
 | _=>{ posonlyargs:=[],args:=[],vararg:=none,kwonlyargs:=[],kw_defaults:=[],kwarg:=none,defaults:=[] }
def zbX (s:Stmt):List Stmt:=match s with
 | .FunctionDef _ _ b _ _ _ _ _ _ _=>b
 | _=>[]
def zq (s:Stmt):Scope:=match s with
 | .FunctionDef _ _ _ _ _ _ sc _ _ _=>sc
 | _=>{ kind:=.function,names:=[],isGenerator:=false,isCoroutine:=false }
abbrev CX0:CXT:=fun _ _ _ _ _ _=>False
abbrev E0:XK:=fun _ _ _=>False
theorem pass0 {X:Cx}:Passes CX0 X E0:=fun _ _ _ _ _ _ _ h=>h.elim
structure Fun (K:W.Frag) (x qual:Str) (st:Stmt) (f:Addr) (fd:FuncData):Prop where
 ex:∃ (oc:Value) (od:Option Addr) (kV doc pm:Value) (an:Option Addr) (cdv ct:Value) (osl:Array (Option Value)),
  fd = PySem.W.fnOf x qual (zer st) (zbX st) (zq st) .none kV doc pm an cdv ct/\K.lookup f = some ⟨oc,od,.func fd,osl⟩/\PySem.W.codeIn K cdv qual = true
 kp:PySem.W.keepIn K (.ref f) = true
section
variable {P:Program} {w:World} {K:W.Frag} {mg:Str->Option Value} {base:Heap}
theorem Fun.ok {x qual:Str} {st:Stmt} {f:Addr} {fd:FuncData} {N ps:List Str} {k:Nat} {sp:Sp} (F:Fun K x qual st f fd) (S:FnScope N ps (zq st)) (len:∀ vs H Q E,sp vs H Q E->vs.length = ps.length)
  (hbody:∀ (cdv:Value) (A:Around) (outer:List Env) (s:Shared) (H:Hp) (vs:List V) (Q:VK) (E:XK),Room k (A.deeper (envOfC qual (zq st) s.heap.objs.size f cdv))->sp vs H Q E ->
   ∃ t,PSs (znH CX0 P w K mg base N qual (zq st) f cdv A outer s H E).nox (zbX st) t/\t { nx:=fun _ H'=>Q .non H',rt:=Q } (start N vs) H):FnOk P w K mg base CX0 (k + 1) f fd ps sp:=by
 obtain ⟨oc,od,kV,doc,pm,an,cdv,ct,osl,rfl,lk,hcd⟩:=F.ex
 refine ztg lk hcd S len fun A outer s H vs Q E hr hsp=>?_
 obtain ⟨t,h,q⟩:=hbody cdv A outer s H vs Q E hr hsp
 exact ⟨t,h.nox,q⟩
theorem Fun.binds {x qual:Str} {st:Stmt} {f:Addr} {fd:FuncData} {ps:List Str} (F:Fun K x qual st f fd)
  (h:∀ (kV doc pm:Value) (an:Option Addr) (cdv ct:Value) (us:List Value),us.length = ps.length->bindArgs (PySem.W.fnOf x qual (zer st) (zbX st) (zq st) .none kV doc pm an cdv ct) ⟨us,[]⟩ = pure (ps.zip us)):Binds K fd ps []:=by
 obtain ⟨oc,od,kV,doc,pm,an,cdv,ct,osl,rfl,lk,hcd⟩:=F.ex
 exact .all (h kV doc pm an cdv ct)
theorem zo1 {x qual:Str} {st:Stmt} {f:Addr} {oc:Value} {od an:Option Addr} {osl:Array (Option Value)} {kV doc pm cdv ct:Value} (l:K.lookup f = some ⟨oc,od,.func (PySem.W.fnOf x qual (zer st) (zbX st) (zq st) .none kV doc pm an cdv ct),osl⟩)
  (c:PySem.W.codeIn K cdv qual = true) (k:PySem.W.keepIn K (.ref f) = true):Fun K x qual st f (PySem.W.fnOf x qual (zer st) (zbX st) (zq st) .none kV doc pm an cdv ct):=⟨⟨oc,od,kV,doc,pm,an,cdv,ct,osl,rfl,l,c⟩,k⟩
end
theorem zmo {A:Around} {k:Nat} (hr:Room k A):A.units + 1 < cLine:=Nat.lt_of_le_of_lt (Nat.add_le_add_left (by decide:1 <= 64) _) hr.units
theorem small1000 {n:Nat} (h:n <= 1000):n < sizeLine:=Nat.lt_of_le_of_lt h (by decide)
section
variable {X:Cx}
theorem pv (i:Nat) {x:Str} {pos:Pos} (hN:X.N[i]? = some x:=by rfl) (hv:Vis X.env.scope x:=by first | exact Or.inl rfl | exact Or.inr (Or.inl rfl) | exact Or.inr (Or.inr rfl)) (hd:(x == ("__debug__":Str)) = false:=by decide)
  (hcd:(x == ("__classdict__":Str)) = false:=by decide):PE X (.Name x pos) (znG i):=zss hN hv hd hcd
end
theorem zqc {A B:Prop} (h:B):if false = true then A else B:=by
 rw [if_neg Bool.false_ne_true]
 exact h
theorem zoW {A B:Prop} (h:A):if true = true then A else B:=by
 rw [if_pos rfl]
 exact h
theorem ite2 {c A B:Prop} [Decidable c] (h1:c->A) (h2:¬ c->B):if c then A else B:=by
 by_cases h:c
 ·rw [if_pos h]
  exact h1 h
 ·rw [if_neg h]
  exact h2 h
def Same (H H':Hp):Prop:=∀ b o,H b = some o->H' b = some o
theorem Same.refl (H:Hp):Same H H:=fun _ _ h=>h
theorem Same.trans {H H1 H2:Hp} (a:Same H H1) (b:Same H1 H2):Same H H2:=fun c o h=>b c o (a c o h)
theorem Same.seq {K:W.Frag} {H H':Hp} {a:Addr} {xs:List V} (e:Same H H') (h:SqL K H a xs):SqL K H' a xs:=by
 rcases h with (h | ⟨o,h⟩) | h
 ·exact .inl (.inl (e _ _ h))
 ·exact .inl (.inr ⟨o,e _ _ h⟩)
 ·exact .inr h
end
section
section
variable {X:Cx}
def CDivX (i j:Int):Prop:=0 < j/\j.natAbs.log2 < 9000
theorem zoB:OpR X (binaryOp .FloorDiv) (rI CDivX fun i j=>.int (i / j)):=opI fun i j _ _ _ _ _ hc q=>by
 have h1:(0:Int) < j:=hc.1
 exact floordiv_int (by omega) (by rw [Int.fdiv_eq_ediv_of_nonneg i (by omega)]; exact q) (.inl (PyProof.noPylong_of_log2 hc.2))
theorem zqj:OpR X (binaryOp .Mult) (rI IntMulOk fun i j=>.int (i * j)):=opI fun _ _ _ _ _ _ _ hc q=>mul_int q hc
theorem zlE {k:Int} {n:Nat} (h:k.natAbs < 2 ^ n):Builtin.Int.intBits k <= n:=by
 unfold Builtin.Int.intBits
 split
 ·exact Nat.zero_le _
 ·rename_i h0
  have hk:k.natAbs ≠ 0:=by
   intro z
   apply h0
   rw [Int.natAbs_eq_zero.mp z]
   rfl
  have:=(Nat.log2_lt hk).mpr h
  omega
theorem zp4 {i j:Int} (n m:Nat) (hi:i.natAbs < 2 ^ n) (hj:j.natAbs < 2 ^ m) (hn:n <= 2 ^ 20:=by decide) (hm:m <= 2 ^ 20:=by decide):IntMulOk i j :=
 .of_bits (Nat.le_trans (zlE hi) hn) (Nat.le_trans (zlE hj) hm)
theorem zcC {i j:Int} (h1:-(2 ^ 64) < i) (h2:i < 2 ^ 64):IntMulOk i j:=.of_left (intBits_le_64 h1 h2)
theorem zpK {i j:Int} (h1:-(2 ^ 64) < j) (h2:j < 2 ^ 64):IntMulOk i j:=.of_right (intBits_le_64 h1 h2)
theorem zdT {n:Int} {k:Nat} (h0:0 < n) (h:n < 2 ^ k):n.natAbs.log2 < k:=by
 refine (Nat.log2_lt (by omega)).mpr ?_
 have e:((2 ^ k:Nat):Int) = (2:Int) ^ k:=by simp
 omega
end
def kD:Key->PyData
 | .inl i=>.int i
 | .inr x=>.str x
def DOf (H:Hp) (a:Addr) (ks:List PyData) (vs:List V):Prop:=∃ (ob:Obj) (m:List (Key × V)),H a = some (.frz ob (.dK m))/\ks = m.map (fun p=>kD p.1)/\vs = m.map (·.2)
mutual
def Has (H:Hp):PyData->V->Prop
 | .none,v=>v = .non
 | .bool b,v=>v = .bl b
 | .int i,v=>v = .int i
 | .str x,v=>v = .str x
 | .list ds,v=>∃ a vs,v = .ref a/\H a = some (.lst vs)/\HasL H ds vs
 | .tuple ds,v=>∃ a vs,v = .ref a/\H a = some (.tup vs)/\HasL H ds vs
 | .dict kvs,v=>∃ a vs,v = .ref a/\DOf H a (kvs.map (·.1)) vs/\HasV H kvs vs
def HasL (H:Hp):List PyData->List V->Prop
 | [],vs=>vs = []
 | d :: ds,vs=>∃ v r,vs = v :: r/\Has H d v/\HasL H ds r
def HasV (H:Hp):List (PyData × PyData)->List V->Prop
 | [],vs=>vs = []
 | p :: ps,vs=>∃ v r,vs = v :: r/\HasP H p v/\HasV H ps r
def HasP (H:Hp):PyData × PyData->V->Prop
 | (_,d),v=>Has H d v
end
mutual
theorem Has.mono {H H':Hp} (s:Same H H'):∀ (d:PyData) (v:V),Has H d v->Has H' d v
 | .none,_,h=>by simp only [Has] at h ⊢; exact h
 | .bool _,_,h=>by simp only [Has] at h ⊢; exact h
 | .int _,_,h=>by simp only [Has] at h ⊢; exact h
 | .str _,_,h=>by simp only [Has] at h ⊢; exact h
 | .list ds,v,h=>by
  simp only [Has] at h ⊢
  obtain ⟨a,vs,e,q,l⟩:=h
  exact ⟨a,vs,e,s _ _ q,HasL.mono s ds vs l⟩
 | .tuple ds,v,h=>by
  simp only [Has] at h ⊢
  obtain ⟨a,vs,e,q,l⟩:=h
  exact ⟨a,vs,e,s _ _ q,HasL.mono s ds vs l⟩
 | .dict kvs,v,h=>by
  simp only [Has] at h ⊢
  obtain ⟨a,vs,e,q,l⟩:=h
  obtain ⟨ob,m,e1,e2⟩:=q
  exact ⟨a,vs,e,⟨ob,m,s _ _ e1,e2⟩,HasV.mono s kvs vs l⟩
theorem HasL.mono {H H':Hp} (s:Same H H'):∀ (ds:List PyData) (vs:List V),HasL H ds vs->HasL H' ds vs
 | [],_,h=>by simp only [HasL] at h ⊢; exact h
 | d :: ds,vs,h=>by
  simp only [HasL] at h ⊢
  obtain ⟨v,r,e,q,l⟩:=h
  exact ⟨v,r,e,Has.mono s d v q,HasL.mono s ds r l⟩
theorem HasV.mono {H H':Hp} (s:Same H H'):∀ (ds:List (PyData × PyData)) (vs:List V),HasV H ds vs->HasV H' ds vs
 | [],_,h=>by simp only [HasV] at h ⊢; exact h
 | d :: ds,vs,h=>by
  simp only [HasV] at h ⊢
  obtain ⟨v,r,e,q,l⟩:=h
  exact ⟨v,r,e,HasP.mono s d v q,HasV.mono s ds r l⟩
theorem HasP.mono {H H':Hp} (s:Same H H'):∀ (p:PyData × PyData) (v:V),HasP H p v->HasP H' p v
 | (_,d),v,h=>by
  simp only [HasP] at h ⊢
  exact Has.mono s d v h
end
section
variable {H:Hp} {v:V}
theorem zfw:Has H .none v ↔ v = .non:=by simp only [Has]
theorem zeB {b:Bool}:Has H (.bool b) v ↔ v = .bl b:=by simp only [Has]
theorem zbU {i:Int}:Has H (.int i) v ↔ v = .int i:=by simp only [Has]
theorem zdF {x:Str}:Has H (.str x) v ↔ v = .str x:=by simp only [Has]
theorem zbH {ds:List PyData}:Has H (.list ds) v ↔ ∃ a vs,v = .ref a/\H a = some (.lst vs)/\HasL H ds vs:=by simp only [Has]
theorem zaB {ds:List PyData}:Has H (.tuple ds) v ↔ ∃ a vs,v = .ref a/\H a = some (.tup vs)/\HasL H ds vs:=by simp only [Has]
theorem zkj {kvs:List (PyData × PyData)}:Has H (.dict kvs) v ↔ ∃ a vs,v = .ref a/\DOf H a (kvs.map (·.1)) vs/\HasV H kvs vs:=by simp only [Has]
theorem znZ {vs:List V}:HasV H [] vs ↔ vs = []:=by simp only [HasV]
theorem zif {p:PyData × PyData} {ds:List (PyData × PyData)} {vs:List V}:HasV H (p :: ds) vs ↔ ∃ v r,vs = v :: r/\Has H p.2 v/\HasV H ds r:=by
 obtain ⟨k,d⟩:=p
 simp only [HasV,HasP]
theorem zL {vs:List V}:HasL H [] vs ↔ vs = []:=by simp only [HasL]
theorem zC {d:PyData} {ds:List PyData} {vs:List V}:HasL H (d :: ds) vs ↔ ∃ v r,vs = v :: r/\Has H d v/\HasL H ds r:=by simp only [HasL]
theorem HasL.length:∀ {ds:List PyData} {vs:List V},HasL H ds vs->vs.length = ds.length
 | [],_,h=>by rw [zL.mp h]; rfl
 | d :: ds,vs,h=>by
  obtain ⟨v,r,e,_,l⟩:=zC.mp h
  rw [e,List.length_cons,List.length_cons,HasL.length l]
theorem HasL.get:∀ {ds:List PyData} {vs:List V} {i:Nat} {d:PyData},HasL H ds vs->ds[i]? = some d->∃ v,vs[i]? = some v/\Has H d v
 | [],_,_,_,_,e=>by simp at e
 | c :: ds,vs,0,d,h,e=>by
  obtain ⟨v,r,rfl,q,_⟩:=zC.mp h
  simp at e
  subst e
  exact ⟨v,rfl,q⟩
 | c :: ds,vs,i + 1,d,h,e=>by
  obtain ⟨v,r,rfl,_,l⟩:=zC.mp h
  obtain ⟨u,e1,e2⟩:=HasL.get (i:=i) (d:=d) l (by simpa using e)
  exact ⟨u,by simpa using e1,e2⟩
theorem HasL.append:∀ {ds es:List PyData} {vs us:List V},HasL H ds vs->HasL H es us->HasL H (ds ++ es) (vs ++ us)
 | [],es,vs,us,h,h'=>by rw [zL.mp h]; exact h'
 | d :: ds,es,vs,us,h,h'=>by
  obtain ⟨v,r,rfl,q,l⟩:=zC.mp h
  exact zC.mpr ⟨v,r ++ us,rfl,q,HasL.append l h'⟩
theorem ziW:∀ (ns:List Int),HasL H (ns.map .int) (ns.map V.int)
 | []=>zL.mpr rfl
 | n :: ns=>zC.mpr ⟨_,_,rfl,zbU.mpr rfl,ziW ns⟩
end
def tyD:PyData->String
 | .none=>"NoneType" | .bool _=>"bool" | .int _=>"int" | .str _=>"str" | .list _=>"list" | .tuple _=>"tuple" | .dict _=>"dict"
theorem Has.ty {K:W.Frag} {H:Hp} {d:PyData} {v:V} (h:Has H d v):TyOf K H v (.type (tyD d)):=by
 cases d with
 | none=>rw [zfw.mp h]; exact .non
 | bool b=>rw [zeB.mp h]; exact .bl b
 | int i=>rw [zbU.mp h]; exact .int i
 | str x=>rw [zdF.mp h]; exact .str x
 | list ds=>obtain ⟨a,vs,rfl,e,_⟩:=zbH.mp h; exact .lst e
 | tuple ds=>obtain ⟨a,vs,rfl,e,_⟩:=zaB.mp h; exact .tup e
 | dict kvs =>
  obtain ⟨a,vs,rfl,e,_⟩:=zkj.mp h
  obtain ⟨ob,m,e,_⟩:=e
  exact .dK (.inr ⟨ob,e⟩)
def zsT:List String:=["NoneType","bool","int","str","list","tuple","dict"]
def zpL:List String:=["int","bool","str","list","tuple","dict"]
def zoP (t c:String):Bool:=t == c || (t == "bool" && c == "int")
def zra (d:PyData) (c:String):Bool:=zoP (tyD d) c
theorem zqY (d:PyData):tyD d ∈ zsT:=by cases d <;> simp [tyD,zsT]
theorem zqg (K:W.Frag) {t c:String} (ht:t ∈ zsT) (hc:c ∈ zpL):PySem.W.kitOne K (.type t) (.type c) = some (zoP t c):=by
 simp only [zsT,zpL,List.mem_cons,List.not_mem_nil,or_false] at ht hc
 rcases ht with rfl | rfl | rfl | rfl | rfl | rfl | rfl <;> rcases hc with rfl | rfl | rfl | rfl | rfl | rfl <;> rfl
def ztq:List V->Hp->VK->Prop
 | [x,.ty c],H,Q=>∃ d,Has H d x/\c ∈ zpL/\Q (.bl (zra d c)) H
 | _,_,_=>False
theorem zp8 {H:Hp} {d:PyData} {x:V} {c:String} {Q:VK} (h:Has H d x) (hc:c ∈ zpL) (q:Q (.bl (zra d c)) H):ztq [x,.ty c] H Q:=⟨d,h,hc,q⟩
section
variable {X:Cx}
theorem zhm:CallR X (.builtin "isinstance") ztq:=by
 intro zk s σ H xs us Q I r h
 match xs,h with
 | [x,.ty c],h =>
  obtain ⟨d,hx,hc,q⟩:=h
  obtain ⟨u,w',rfl,ru,rw'⟩:=vals2 r
  cases (show w' = Value.type c from rw')
  exact zms I ru hx.ty (zqg X.K (zqY d) hc) fun tk=>⟨.bl _,H,I.tok tk,rfl,q⟩
end
def sp1 (p:V->Hp->VK->Prop):Sp:=fun vs H Q _=>match vs with | [x]=>p x H Q | _=>False
def sp2 (p:V->V->Hp->VK->Prop):Sp:=fun vs H Q _=>match vs with | [x,y]=>p x y H Q | _=>False
theorem zm9 {p:V->Hp->VK->Prop}:∀ (vs:List V) (H:Hp) (Q:VK) (E:XK),sp1 p vs H Q E->∃ x,vs = [x]/\p x H Q:=by
 intro vs H Q E h
 match vs,h with
 | [x],h=>exact ⟨x,rfl,h⟩
theorem zm6 {p:V->V->Hp->VK->Prop}:∀ (vs:List V) (H:Hp) (Q:VK) (E:XK),sp2 p vs H Q E->∃ x y,vs = [x,y]/\p x y H Q:=by
 intro vs H Q E h
 match vs,h with
 | [x,y],h=>exact ⟨x,y,rfl,h⟩
structure Dd (K:W.Frag) (mg:Str->Option Value) (x:Str) (st:Stmt) (ps:List Str):Prop where
 ex:∃ f fd,Fun K x x st f fd/\mg x = some (.ref f)/\Binds K fd ps []
structure Df (P:Program) (w:World) (K:W.Frag) (mg:Str->Option Value) (base:Heap) (x:Str) (ps:List Str) (k:Nat) (sp:Sp):Prop where
 ex:∃ f fd,FnOk P w K mg base CX0 k f fd ps sp/\mg x = some (.ref f)/\PySem.W.keepIn K (.ref f) = true/\Binds K fd ps []
section
variable {P:Program} {w:World} {K:W.Frag} {mg:Str->Option Value} {base:Heap} {x a b c d e:Str} {st:Stmt} {N:List Str} {k:Nat}
theorem Df.of {ps:List Str} {sp:Sp} (D:Dd K mg x st ps) (S:FnScope N ps (zq st)) (len:∀ vs H Q E,sp vs H Q E->vs.length = ps.length)
  (hbody:∀ (f:Addr) (cdv:Value) (A:Around) (outer:List Env) (s:Shared) (H:Hp) (vs:List V) (Q:VK) (E:XK),Room k (A.deeper (envOfC x (zq st) s.heap.objs.size f cdv))->sp vs H Q E ->
   ∃ t,PSs (znH CX0 P w K mg base N x (zq st) f cdv A outer s H E).nox (zbX st) t/\t { nx:=fun _ H'=>Q .non H',rt:=Q } (start N vs) H):Df P w K mg base x ps (k + 1) sp:=by
 obtain ⟨f,fd,F,hm,hb⟩:=D.ex
 exact ⟨f,fd,F.ok S len (hbody f),hm,F.kp,hb⟩
theorem Df.of2 {p:V->V->Hp->VK->Prop} (D:Dd K mg x st [a,b]) (S:FnScope N [a,b] (zq st)) (σ0:V->V->St) (hs:∀ v u,start N [v,u] = σ0 v u)
  (hbody:∀ (f:Addr) (cdv:Value) (A:Around) (outer:List Env) (s:Shared) (H:Hp) (v u:V) (Q:VK) (E:XK),Room k (A.deeper (envOfC x (zq st) s.heap.objs.size f cdv))->p v u H Q ->
   ∃ t,PSs (znH CX0 P w K mg base N x (zq st) f cdv A outer s H E).nox (zbX st) t/\t { nx:=fun _ H'=>Q .non H',rt:=Q } (σ0 v u) H):Df P w K mg base x [a,b] (k + 1) (sp2 p):=by
 refine Df.of D S (fun vs H Q E h=>?_) fun f cdv A outer s H vs Q E hr h=>?_
 ·obtain ⟨x,y,rfl,_⟩:=zm6 vs H Q E h
  rfl
 ·obtain ⟨x,y,rfl,h⟩:=zm6 vs H Q E h
  rw [hs]
  exact hbody f cdv A outer s H x y Q E hr h
end
def tC2 (p:V->V->Hp->VK->Prop) (ta tb:TE):TE:=fun σ H Q=>ta σ H fun x H1=>tb σ H1 fun y H2=>p x y H2 Q
section
variable {X:Cx} {x a b c d e':Str} {k j:Nat} {pos pos':Pos} {e1 e2 e3 e4 e5:Expr} {t1 t2 t3 t4 t5:TE}
theorem zsl {p:V->V->Hp->VK->Prop} (D:Df X.prog X.w X.K X.mg X.base x [a,b] k (sp2 p)) (hr:Room j X.A) (hk:k <= j) (h1:PE X e1 t1) (h2:PE X e2 t2) (hg:Gl X x:=by rfl) (hdb:(x == ("__debug__":Str)) = false:=by decide)
  (q1:starEach [e1,e2] X.env = (false,eval e1 X.env) :: starEach [e2] X.env:=by rfl) (q2:starEach [e2] X.env = (false,eval e2 X.env) :: starEach [] X.env:=by rfl)
  (hpl:(backTo pos (starEach [e2] X.env)).any (·.1) = false:=by rfl):PE X (.Call (.Name x pos') [e1,e2] [] pos) (tC2 p t1 t2):=by
 obtain ⟨f,fd,F,hm,kp,hb⟩:=D.ex
 intro zk s σ H Q I h
 exact zlV (dvs:=[]) (ds:=[]) (E:=E0) F (hr.mono hk) hg hm kp hb .nil pass0 (zc h1 (zc h2 zi q2) q1) hdb q1 hpl zk s σ H Q I h
end
theorem Dd.mk' {K:W.Frag} {h:Heap} {mg:Str->Option Value} (X:K.In h) (G:h.Ns mainGlobals mg) {x:Str} {st:Stmt} {ps:List Str} {f:Addr} {oc:Value} {od an:Option Addr} {osl:Array (Option Value)} {kV doc pm cdv ct:Value}
  (a:PySem.W.nsIn K mainGlobals x = some (some (.ref f))) (l:K.lookup f = some ⟨oc,od,.func (PySem.W.fnOf x x (zer st) (zbX st) (zq st) .none kV doc pm an cdv ct),osl⟩)
  (c:PySem.W.codeIn K cdv x = true) (k:PySem.W.keepIn K (.ref f) = true)
  (hb:∀ (kV doc pm:Value) (an:Option Addr) (cdv ct:Value) (us:List Value),us.length = ps.length->bindArgs (PySem.W.fnOf x x (zer st) (zbX st) (zq st) .none kV doc pm an cdv ct) ⟨us,[]⟩ = pure (ps.zip us)):Dd K mg x st ps :=
 ⟨f,_,zo1 (st:=st) l c k,PySem.W.mg_of X G a,(zo1 (st:=st) l c k).binds hb⟩
theorem zbY:bootBuiltins "len" = some (.builtin "len"):=by decide +kernel
theorem zc4:bootBuiltins "isinstance" = some (.builtin "isinstance"):=by decide +kernel
theorem zki:bootBuiltins "max" = some (.builtin "max"):=by decide +kernel
theorem zm0:bootBuiltins "min" = some (.builtin "min"):=by decide +kernel
theorem znr:bootBuiltins "sorted" = some (.builtin "sorted"):=by decide +kernel
theorem zo3:bootBuiltins "int" = some (.type "int"):=by decide +kernel
theorem zqS:bootBuiltins "bool" = some (.type "bool"):=by decide +kernel
theorem zey:bootBuiltins "tuple" = some (.type "tuple"):=by decide +kernel
theorem zhi:bootBuiltins "dict" = some (.type "dict"):=by decide +kernel
section
variable {H:Hp} {Q:VK}
theorem zon {i:Nat} {σ:St}:znG i σ H Q ↔ match σ[i]? with | some (some v)=>Q v H | _=>False:=by
 unfold znG
 constructor
 ·rintro ⟨v,e,q⟩
  rw [e]
  exact q
 ·intro h
  split at h
  ·rename_i v e
   exact ⟨v,e,h⟩
  ·exact h.elim
theorem zme {g:Int->Int->V} {i j:Int}:rI0 g (.int i) (.int j) H Q ↔ Q (g i j) H :=
 ⟨fun ⟨_,_,e1,e2,q⟩=>by cases e1; cases e2; exact q,fun q=>⟨i,j,rfl,rfl,q⟩⟩
theorem zta {p:Bool->Prop} {b:Bool}:(∃ c,V.bl b = V.bl c/\p c) ↔ p b:=⟨fun ⟨_,e,q⟩=>by cases e; exact q,fun q=>⟨b,rfl,q⟩⟩
end
section
variable {K:W.Frag} {H:Hp} {Q:VK} {x y:V} {d:PyData} {ds:List PyData}
def ztm (K:W.Frag):List V->Hp->VK->Prop:=fun xs H Q=>∃ p ys,xs = [.ref p]/\(SqL K H p ys\/SqT K H p ys)/\Q (.int ys.length) H
end
section
variable {X:Cx}
theorem zl4:CallR X (.builtin "len") (ztm X.K):=zfq
end
def hid (a:Addr) (H:Hp):Hp:=fun b=>if b = a then none else H b
theorem zse {a b:Addr} {H:Hp} (h:b ≠ a):hid a H b = H b:=if_neg h
theorem zn5 {a:Addr} {H:Hp}:hid a H a = none:=if_pos rfl
theorem Same.laid {H:Hp} {p:Addr} {o:HO} (h:H p = none):Same H (upd H p o):=fun b u e=>by
 rw [zY (zac e h)]
 exact e
section
variable {X:Cx} {zk:List (Addr × Obj)} {σ:St} {H:Hp} {s:Shared} {a:Addr} {m:List (Key × V)}
theorem Inv.fz (I:Inv X zk σ H s) (e:H a = some (.dK m)):∃ ob,Inv X zk σ (upd H a (.frz ob (.dK m))) s:=by
 have q:=(show ObjOk X.prog X.w H s.heap a (.dK m) from I.hok a _ e)
 obtain ⟨_,_,vs,_,ob,es,ep,h1,_⟩:=id q
 exact ⟨ob,I.write (x:=a) (e:=a) (o:=.frz ob (.dK m)) (h':=s.heap) (t':=s.toks) (by rw [e]; exact True.intro) (.inl rfl) (fun b v _ z=>z) ⟨ob,h1⟩ ⟨h1,q⟩⟩
def zsV (t:TE):TE:=fun σ H Q=>t σ H fun v H1=>∃ a m,v = .ref a/\H1 a = some (.dK m)/\∀ ob,Q v (upd H1 a (.frz ob (.dK m)))
theorem zmj {e:Expr} {t:TE} (h:PE X e t):PE X e (zsV t):=fun zk s σ H Q I hw =>
 thn (h zk s σ H _ I hw) fun u s1 ⟨v,H1,I1,r1,a,m,ev,ea,q⟩=>by
  obtain ⟨ob,J⟩:=I1.fz ea
  exact ⟨v,_,J,r1,q ob⟩
def zts (i:Nat) (t:TS):TS:=fun D σ H=>t { D with nx:=fun σ' H'=>∃ a m,σ'[i]? = some (some (.ref a))/\H' a = some (.dK m)/\∀ ob,D.nx σ' (upd H' a (.frz ob (.dK m))) } σ H
theorem ztp {i:Nat} {st:Stmt} {t:TS} (h:PS X st t):PS X st (zts i t):=fun zk s σ H D I hw =>
 thn (h zk s σ H _ I hw) fun f s1 q=>by
  cases f with
  | next =>
   obtain ⟨σ1,H1,I1,a,m,e1,e2,q⟩:=q
   obtain ⟨ob,J⟩:=I1.fz e2
   exact ⟨σ1,_,J,q ob⟩
  | brk=>exact q
  | cont=>exact q
  | ret v=>exact q
end
end
section
theorem znv (d:PyData):zra d "int" = match d with | .int _=>true | .bool _=>true | _=>false:=by cases d <;> first | rfl | (show zoP _ _ = _; simp [zoP,tyD])
theorem zj5 (d:PyData):zra d "bool" = match d with | .bool _=>true | _=>false:=by cases d <;> first | rfl | (show zoP _ _ = _; simp [zoP,tyD])
theorem zij (d:PyData):zra d "tuple" = match d with | .tuple _=>true | _=>false:=by cases d <;> first | rfl | (show zoP _ _ = _; simp [zoP,tyD])
def vw:List Addr->Hp->Hp
 | [],H=>H
 | a :: r,H=>hid a (vw r H)
def zqW (K:W.Frag):V->V->Hp->VK->Prop:=fun x y H Q=>∃ (a:Addr) (ns:List Int) (i:Int),x = .ref a/\y = .int i/\SqL K H a (ns.map V.int)/\0 <= i/\∀ n,Q (.int n) H
theorem zpV {ns:List Int} {i:Int} (h0:0 <= i) (h1:i < ((ns.map V.int).length:Int)):∃ n,atI (ns.map V.int) i = some (.int n):=by
 obtain ⟨k,rfl⟩:=Int.eq_ofNat_of_zero_le h0
 have hk:k < ns.length:=by rw [List.length_map] at h1; omega
 exact ⟨ns[k],zcV (by rw [List.getElem?_map,List.getElem?_eq_getElem hk]; rfl)⟩
theorem znT {ns:List Int} {lo hi:Option Int} {x:V} (h:x ∈ zkq (ns.map V.int) lo hi):∃ n,x = .int n:=by
 have h1:=List.mem_of_mem_drop (List.mem_of_mem_take h)
 obtain ⟨n,_,e⟩:=List.mem_map.mp h1
 exact ⟨n,e.symm⟩
theorem Fun.bind1 {K:W.Frag} {x a:Str} {st:Stmt} {f:Addr} {fd:FuncData} (F:Fun K x x st f fd)
  (h:∀ (kV doc pm:Value) (an:Option Addr) (cdv ct:Value) (u:Value),bindArgs (PySem.W.fnOf x x (zer st) (zbX st) (zq st) .none kV doc pm an cdv ct) ⟨[u],[]⟩ = pure [(a,u)]):∀ (s:Shared) (u:Value),BindsTo s fd ⟨[u],[]⟩ [(a,u)]:=by
 obtain ⟨oc,od,kV,doc,pm,an,cdv,ct,osl,rfl,lk,hcd⟩:=F.ex
 exact fun s u=>.of_eq (h kV doc pm an cdv ct u)
def zs3 (K:W.Frag):V->Hp->VK->Prop:=fun x H Q=>∃ (a:Addr) (ns:List Int),x = .ref a/\SqL K H a (ns.map V.int)/\ns.length <= 63/\∀ H',Q (.bl true) H'
theorem walk_law {l:PySem.W.OpenLaw} {k:Nat} {q:Program} {loose:List Str} {XP:(Str->Option Value)->Heap->Prop} {YP:World->Heap->Prop} {d:DefRec} {K:Params->W.Frag} (hn:l.most = some 63) (hdf:d.params.defaults = [])
  (hr:Room k callerA) (hY:∀ (w:World) (h:Heap),YP w h->(K w.params).In h)
  (F:∀ (w:World) (mg:Str->Option Value) (fa:Addr) (h:Heap),(K w.params).In h->h.Ns mainGlobals mg->mg d.name = some (.ref fa) ->
   ∃ fd:FuncData,(∀ (s:Shared) (u:Value),BindsTo s fd ⟨[u],[]⟩ [("script",u)])/\∀ base:Heap,(K w.params).In base->base.Ns mainGlobals mg->FnOk l.prog w (K w.params) mg base CX0 k fa fd ["script"] (sp1 (zs3 (K w.params)))) :
  PySem.W.WalkO q loose XP YP l.row.toRowW d [] (fun f vs=>PySem.call f vs) :=
 L2.walk_of (n:=63) (k:=k) (x:="script") (CX:=fun _=>CX0) (sp:=fun w=>sp1 (zs3 (K w.params))) hn (by decide) hdf hr hY F (fun _ _ a ns hl _ hS=>⟨a,ns,rfl,hS,hl,fun _=>rfl⟩) fun _ _ _ _ _ z=>z
theorem Fun.ok1 {P:Program} {w:World} {K:W.Frag} {mg:Str->Option Value} {base:Heap} {x a:Str} {st:Stmt} {f:Addr} {fd:FuncData} {N:List Str} {k:Nat} {p:V->Hp->VK->Prop} (F:Fun K x x st f fd) (S:FnScope N [a] (zq st)) (σ0:V->St) (hs:∀ v,start N [v] = σ0 v)
  (hbody:∀ (cdv:Value) (A:Around) (outer:List Env) (s:Shared) (H:Hp) (v:V) (Q:VK) (E:XK),Room k (A.deeper (envOfC x (zq st) s.heap.objs.size f cdv))->p v H Q ->
   ∃ t,PSs (znH CX0 P w K mg base N x (zq st) f cdv A outer s H E).nox (zbX st) t/\t { nx:=fun _ H'=>Q .non H',rt:=Q } (σ0 v) H):FnOk P w K mg base CX0 (k + 1) f fd [a] (sp1 p):=by
 refine F.ok S (fun vs H Q E h=>?_) fun cdv A outer s H vs Q E hr h=>?_
 ·obtain ⟨x,rfl,_⟩:=zm9 vs H Q E h
  rfl
 ·obtain ⟨x,rfl,h⟩:=zm9 vs H Q E h
  rw [hs]
  exact hbody cdv A outer s H x Q E hr h
end
section
mutual
theorem Has.reads {X:Cx} {zk:List (Addr × Obj)} {σ:St} {H:Hp} {s:Shared} (I:Inv X zk σ H s):∀ (d:PyData) (v:V) (u:Value),Has H d v->d.canLay0 = true->RelV v u->∃ as,Reads s.heap u d as
 | .none,v,u,h,_,r=>by
  rw [zfw.mp h] at r
  cases (show u = Value.none from r)
  exact ⟨_,.none⟩
 | .bool b,v,u,h,_,r=>by
  rw [zeB.mp h] at r
  cases (show u = Value.bool b from r)
  exact ⟨_,.bool b⟩
 | .int i,v,u,h,_,r=>by
  rw [zbU.mp h] at r
  obtain ⟨t,q⟩:=(show ∃ t,u = Value.int i t from r)
  cases q
  exact ⟨_,.int i t⟩
 | .str x,v,u,h,_,r=>by
  rw [zdF.mp h] at r
  obtain ⟨t,q⟩:=(show ∃ t,u = Value.str x t from r)
  cases q
  exact ⟨_,.str x t⟩
 | .list ds,v,u,h,c,r=>by
  obtain ⟨a,vs,rfl,e,l⟩:=zbH.mp h
  cases (show u = Value.ref a from r)
  obtain ⟨_,its,n,rv,e1⟩:=(show ObjOk X.prog X.w H s.heap a (.lst vs) from I.hok a _ e)
  obtain ⟨as,q⟩:=HasL.reads I ds vs its l (by simpa only [PyData.canLay0] using c) rv
  exact ⟨_,.list e1 rfl rfl (by simpa using q)⟩
 | .tuple ds,v,u,h,c,r=>by
  obtain ⟨a,vs,rfl,e,l⟩:=zaB.mp h
  cases (show u = Value.ref a from r)
  obtain ⟨_,its,rv,o,e1,e2,n,e3⟩:=(show ObjOk X.prog X.w H s.heap a (.tup vs) from I.hok a _ e)
  obtain ⟨as,q⟩:=HasL.reads I ds vs its l (by simpa only [PyData.canLay0] using c) rv
  exact ⟨_,.tuple e1 e2 e3 (by simpa using q)⟩
 | .dict _,_,_,_,c,_=>by simp [PyData.canLay0] at c
theorem HasL.reads {X:Cx} {zk:List (Addr × Obj)} {σ:St} {H:Hp} {s:Shared} (I:Inv X zk σ H s):∀ (ds:List PyData) (vs:List V) (us:List Value),HasL H ds vs->PyData.canLayAll0 ds = true->Vals vs us->∃ as,ReadsAll s.heap us ds as
 | [],vs,us,h,_,r=>by
  rw [zL.mp h] at r
  cases r
  exact ⟨_,.nil⟩
 | d :: ds,vs,us,h,c,r=>by
  obtain ⟨v,w',rfl,h1,h2⟩:=zC.mp h
  have c':d.canLay0 = true/\PyData.canLayAll0 ds = true:=by simpa [PyData.canLayAll0] using c
  cases r with
  | cons r1 r2 =>
   obtain ⟨as,q1⟩:=Has.reads I d v _ h1 c'.1 r1
   obtain ⟨bs,q2⟩:=HasL.reads I ds w' _ h2 c'.2 r2
   exact ⟨_,.cons q1 q2⟩
end
def ztV:R2:=fun x y H Q=>∃ d e,Has H d x/\Has H e y/\SeqAt.shaped d = true/\SeqAt.shaped e = true/\Q (.bl (PyData.eqv d e)) H
def ztI:R2:=fun x y H Q=>∃ d e,Has H d x/\Has H e y/\SeqAt.shaped d = true/\SeqAt.shaped e = true/\Q (.bl (!PyData.eqv d e)) H
section
variable {X:Cx}
theorem zd2 (hu:X.A.units + 64 < cLine):OpR X (compareOp .Eq) ztV:=by
 intro zk s σ H x y v u Q I rx ry h
 obtain ⟨d,e,hd,he,sd,se,q⟩:=h
 obtain ⟨as,q1⟩:=Has.reads I d x v hd (SeqAt.canLay_of_shaped sd) rx
 obtain ⟨bs,q2⟩:=Has.reads I e y u he (SeqAt.canLay_of_shaped se) ry
 exact eq_dataH q1 q2 sd se hu ⟨.bl _,H,I,rfl,q⟩
theorem zmC (hu:X.A.units + 64 < cLine):OpR X (compareOp .NotEq) ztI:=by
 intro zk s σ H x y v u Q I rx ry h
 obtain ⟨d,e,hd,he,sd,se,q⟩:=h
 obtain ⟨as,q1⟩:=Has.reads I d x v hd (SeqAt.canLay_of_shaped sd) rx
 obtain ⟨bs,q2⟩:=Has.reads I e y u he (SeqAt.canLay_of_shaped se) ry
 exact ne_dataH q1 q2 sd se hu ⟨.bl _,H,I,rfl,q⟩
end
section
variable {prog:Program} {w:World} {A:Around} {E:Value->Shared->Prop} {s:Shared} {l:Addr}
theorem zkY {xs:Array (Int × Tok)} {Q:Value->Shared->Prop} (hh:A.handled = none) (hl:s.heap.IsTuple l (intItems xs)) (hne:0 < xs.size)
  (h:∀ v h' tk,(intItems xs)[argBest (fun i j=>decide (numAt xs i < numAt xs j)) (xs.size - 1)]? = some v->(∀ b o,s.heap.get? b = some o->h'.get? b = some o)->Q v { s with heap:=h',toks:=tk }) :
  wpAny (model prog w) A (call (.builtin "min") [.ref l]) Q E s:=by
 have hlt:l < s.heap.objs.size:=by obtain ⟨o,e,_⟩:=hl; exact Heap.lt_size e
 refine call_min_walk (wpAny_pyIter_tuple hl ?_)
 refine ⟨_,[_,l],[_],_,_,_,_,rfl,Walks.tuple (A:=A.in1) hh _ l (Nat.ne_of_lt hlt) (intItems xs),⟨⟨_,Heap.get?_push_size _ rfl,rfl,rfl⟩,hl.push _⟩,fun c hc=>?_,by simpa [intItems] using hne,CmpOf.ints_lt (numAt xs) (fun _ _=>intItems_at),fun v h' tk hP hk=>?_⟩
 ·show c < (s.heap.push _).objs.size
  rw [Heap.size_push]
  rcases List.mem_cons.mp hc with rfl | hc
  ·exact Nat.lt_succ_self _
  ·rcases List.mem_cons.mp hc with rfl | hc
   ·exact Nat.lt_succ_of_lt hlt
   ·cases hc
 ·refine h v h' tk (by simpa [intItems] using hP) fun b o e=>hk b o (fun hm=>?_) (Heap.get?_push_of_some _ e)
  rcases List.mem_cons.mp hm with e1 | hm
  ·exact absurd (e1 ▸ Heap.lt_size e) (Nat.lt_irrefl _)
  ·cases hm
theorem zkO {xs:Array (Int × Tok)} {Q:Value->Shared->Prop} (hh:A.handled = none) (hl:s.heap.IsTuple l (intItems xs)) (hne:0 < xs.size)
  (h:∀ v h' tk,(intItems xs)[argBest (fun i j=>decide (numAt xs i > numAt xs j)) (xs.size - 1)]? = some v->(∀ b o,s.heap.get? b = some o->h'.get? b = some o)->Q v { s with heap:=h',toks:=tk }) :
  wpAny (model prog w) A (call (.builtin "max") [.ref l]) Q E s:=by
 have hlt:l < s.heap.objs.size:=by obtain ⟨o,e,_⟩:=hl; exact Heap.lt_size e
 refine call_max_walk (wpAny_pyIter_tuple hl ?_)
 refine ⟨_,[_,l],[_],_,_,_,_,rfl,Walks.tuple (A:=A.in1) hh _ l (Nat.ne_of_lt hlt) (intItems xs),⟨⟨_,Heap.get?_push_size _ rfl,rfl,rfl⟩,hl.push _⟩,fun c hc=>?_,by simpa [intItems] using hne,CmpOf.ints_gt (numAt xs) (fun _ _=>intItems_at),fun v h' tk hP hk=>?_⟩
 ·show c < (s.heap.push _).objs.size
  rw [Heap.size_push]
  rcases List.mem_cons.mp hc with rfl | hc
  ·exact Nat.lt_succ_self _
  ·rcases List.mem_cons.mp hc with rfl | hc
   ·exact Nat.lt_succ_of_lt hlt
   ·cases hc
 ·refine h v h' tk (by simpa [intItems] using hP) fun b o e=>hk b o (fun hm=>?_) (Heap.get?_push_of_some _ e)
  rcases List.mem_cons.mp hm with e1 | hm
  ·exact absurd (e1 ▸ Heap.lt_size e) (Nat.lt_irrefl _)
  ·cases hm
theorem zfZ {vs:List Value} {ns:List Int} (hi:IntsAre vs ns):∃ xs:Array (Int × Tok),vs.toArray = intItems xs/\ns = xs.toList.map (·.1):=by
 obtain ⟨xs,e⟩:=hi.allInts.items
 exact ⟨xs,e,by rw [<- hi.numsOf,<- nums_intItems,<- e]⟩
end
def zs2 (K:W.Frag):List V->Hp->VK->Prop:=fun xs H Q=>∃ p ns,xs = [.ref p]/\(SqL K H p (ns.map V.int)\/SqT K H p (ns.map V.int))/\ns ≠ []/\∀ m,m ∈ ns->(∀ a,a ∈ ns->m <= a)->Q (.int m) H
def ztJ (K:W.Frag):List V->Hp->VK->Prop:=fun xs H Q=>∃ p ns,xs = [.ref p]/\(SqL K H p (ns.map V.int)\/SqT K H p (ns.map V.int))/\ns ≠ []/\∀ m,m ∈ ns->(∀ a,a ∈ ns->a <= m)->Q (.int m) H
section
variable {X:Cx}
theorem zlA (hc:X.calm = true):CallR X (.builtin "min") (zs2 X.K):=by
 intro zk s σ H xs us Q I r h
 obtain ⟨p,ns,rfl,hq,hne,q⟩:=h
 obtain ⟨u,rfl,rx⟩:=vals1 r
 cases (show u = Value.ref p from rx)
 have done:∀ (ys:Array (Int × Tok)) (v:Value) (h':Heap) (tk:Nat),ns = ys.toList.map (·.1)->0 < ys.size->(intItems ys)[argBest (fun i j=>decide (numAt ys i < numAt ys j)) (ys.size - 1)]? = some v ->
   (∀ b o,s.heap.get? b = some o->h'.get? b = some o)->EP X zk σ Q v { s with heap:=h',toks:=tk }:=by
  intro ys v h' tk hns hsz hv hk
  obtain ⟨t,rfl⟩:=intItems_at hv
  obtain ⟨h1,h2⟩:=argBest_lt (numAt ys) (ys.size - 1)
  refine ⟨.int _,H,I.kept (t':=tk) hk,⟨t,rfl⟩,q _ ?_ fun a ha=>?_⟩
  ·rw [hns,numAt_eq]; exact getD_mem (by rw [List.length_map,Array.length_toList]; omega)
  ·rw [hns] at ha
   obtain ⟨j,hj,rfl⟩:=mem_getD ha
   rw [List.length_map,Array.length_toList] at hj
   rw [<- numAt_eq]; exact h2 j (by omega)
 rcases hq with hq | hq
 ·obtain ⟨its,rv,pl,_⟩:=I.list hq
  obtain ⟨ys,e,hns⟩:=zfZ (zaw rv)
  have hsz:0 < ys.size:=by
   cases ys with
   | mk l=>cases l with
    | nil=>exact absurd hns hne
    | cons _ _=>exact Nat.succ_pos _
  exact min_intList (I.ok.hd hc) (by rw [<- e]; exact pl.isList) hsz fun v h' tk hv hk=>done ys v h' tk hns hsz hv hk
 ·obtain ⟨its,rv,pl,_⟩:=I.tuple hq
  obtain ⟨ys,e,hns⟩:=zfZ (zaw rv)
  have hsz:0 < ys.size:=by
   cases ys with
   | mk l=>cases l with
    | nil=>exact absurd hns hne
    | cons _ _=>exact Nat.succ_pos _
  exact zkY (I.ok.hd hc) (by rw [<- e]; exact pl) hsz fun v h' tk hv hk=>done ys v h' tk hns hsz hv hk
theorem zh6 (hc:X.calm = true):CallR X (.builtin "max") (ztJ X.K):=by
 intro zk s σ H xs us Q I r h
 obtain ⟨p,ns,rfl,hq,hne,q⟩:=h
 obtain ⟨u,rfl,rx⟩:=vals1 r
 cases (show u = Value.ref p from rx)
 have done:∀ (ys:Array (Int × Tok)) (v:Value) (h':Heap) (tk:Nat),ns = ys.toList.map (·.1)->0 < ys.size->(intItems ys)[argBest (fun i j=>decide (numAt ys i > numAt ys j)) (ys.size - 1)]? = some v ->
   (∀ b o,s.heap.get? b = some o->h'.get? b = some o)->EP X zk σ Q v { s with heap:=h',toks:=tk }:=by
  intro ys v h' tk hns hsz hv hk
  obtain ⟨t,rfl⟩:=intItems_at hv
  obtain ⟨h1,h2⟩:=argBest_gt (numAt ys) (ys.size - 1)
  refine ⟨.int _,H,I.kept (t':=tk) hk,⟨t,rfl⟩,q _ ?_ fun a ha=>?_⟩
  ·rw [hns,numAt_eq]; exact getD_mem (by rw [List.length_map,Array.length_toList]; omega)
  ·rw [hns] at ha
   obtain ⟨j,hj,rfl⟩:=mem_getD ha
   rw [List.length_map,Array.length_toList] at hj
   rw [<- numAt_eq]; exact h2 j (by omega)
 rcases hq with hq | hq
 ·obtain ⟨its,rv,pl,_⟩:=I.list hq
  obtain ⟨ys,e,hns⟩:=zfZ (zaw rv)
  have hsz:0 < ys.size:=by
   cases ys with
   | mk l=>cases l with
    | nil=>exact absurd hns hne
    | cons _ _=>exact Nat.succ_pos _
  exact max_intList (I.ok.hd hc) (by rw [<- e]; exact pl.isList) hsz fun v h' tk hv hk=>done ys v h' tk hns hsz hv hk
 ·obtain ⟨its,rv,pl,_⟩:=I.tuple hq
  obtain ⟨ys,e,hns⟩:=zfZ (zaw rv)
  have hsz:0 < ys.size:=by
   cases ys with
   | mk l=>cases l with
    | nil=>exact absurd hns hne
    | cons _ _=>exact Nat.succ_pos _
  exact zkO (I.ok.hd hc) (by rw [<- e]; exact pl) hsz fun v h' tk hv hk=>done ys v h' tk hns hsz hv hk
end
section
variable {K:W.Frag} {o:List Addr} {σ:St} {H0:Hp} {t t1 t2 t3 t4 t5:TE} {ta:TA} {tt tu:TT} {d d1 d2 d3 d4 d5:PyData} {ds:List PyData} {b c:Bool}
def zqw:PyData->Bool
 | .none=>true
 | _=>false
end
def spD (a b:Int):PyData:=.tuple [.int a,.int b]
end
section
theorem zmY {K:W.Frag} {a:Addr} {ns:List Int} {N:Int} {j:Nat} {tb:TS} {D:Ends} {σ:St} {H:Hp} (P:St->Prop) (h0:σ[0]? = some (some (.ref a))) (hS:SqL K H a (ns.map V.int)) (hlen:ns.length <= 63) (hP:P σ)
  (turn:∀ (n:Int) (σ:St) (H1 H2:Hp),P σ->Same H H1->Same H1 H2->tb { D with nx:=fun σ' H'=>Same H1 H'/\P σ',ct:=fun σ' H'=>Same H1 H'/\P σ',bk:=D.nx } (σ.set j (some (.int n))) H2)
  (done:∀ (σ:St) (H1:Hp),P σ->Same H H1->D.nx σ H1) :
  zrJ (zqr K (tOp zq9 (zqi (zk5 (tC2 (zqW K) (znG 0) (tC (.int 0))) zq8)) (tSl (zrU K) (znG 0) (zk1 (tC (.int 1))) (zk1 (tC (.int N)))))) (ziF j) tb D σ H:=by
 refine ⟨_,h0,a,ns,0,rfl,rfl,hS,by decide,fun n0=>⟨by show 1 <= sizeLine; decide,fun p hp=>?_⟩⟩
 have s1:Same H (upd H p (.lst [.int n0])):=Same.laid hp
 refine ⟨_,h0,_,rfl,_,rfl,a,_,rfl,s1.seq hS,fun p2 hp2=>?_⟩
 have s2:=s1.trans (Same.laid (o:=.lst (zkq (ns.map V.int) (some 1) (some N))) hp2)
 have np:p ≠ p2:=zac zag hp2
 have hz:(zkq (ns.map V.int) (some 1) (some N)).length <= 63:=Nat.le_trans (zej _ _ _) (by rw [List.length_map]; exact hlen)
 refine ⟨p,p2,_,_,rfl,rfl,by rw [zY np,zag],zag,Nat.le_of_lt (small1000 (by simp only [List.length_cons,List.length_nil]; omega)),fun p3 hp3=>?_⟩
 have s3:=s2.trans (Same.laid (o:=.lst ([V.int n0] ++ zkq (ns.map V.int) (some 1) (some N))) hp3)
 refine ⟨p3,rfl,⟨_,.of zag⟩,zoe (K:=K) (a:=p3) (xs:=[V.int n0] ++ zkq (ns.map V.int) (some 1) (some N)) (fun i σ' H'=>Same _ H'/\P σ') ⟨Same.refl _,hP⟩ (fun i σ H4 _ ⟨s4,_⟩=>.of (s4 _ _ zag)) ?_ ?_⟩
 ·rintro i x σ' H4 hi ⟨s4,p4⟩
  obtain ⟨n,rfl⟩:∃ n,x = .int n:=by
   rcases List.mem_append.mp (List.mem_of_getElem? hi) with m | m
   ·exact ⟨n0,List.mem_singleton.mp m⟩
   ·exact znT m
  exact turn n σ' _ H4 p4 s3 s4
 ·rintro σ' H4 ⟨s4,p4⟩
  exact done σ' H4 p4 (s3.trans s4)
end
section
section
variable {prog:Program} {w:World} {A:Around} {E:Value->Shared->Prop} {R:Result->Shared->Prop} {s:Shared}
theorem zii {elt target iter:Expr} {ifs:List Expr} {scope:Scope} {pos:Pos} {it acc:Value} {env:Env} (I:Nat->Shared->Prop)
  (turn:∀ n s,I n s->wpAny (model prog w) A (pyNext it) (fun r s₁=>match r with
   | none=>R (.ok .next) s₁
   | some v=>wpAny (model prog w) A (letOwnedTupleGo target it v) (fun _ s₀=>wpAny (model prog w) A (assign target env v) (fun _ s₂ =>
     wpAny (model prog w) A (forIn ifs true fun c r=>if r = true then do let ok <- isTrue c env (eval c env); pure (ForInStep.yield ok) else pure (ForInStep.yield r)) (fun ok s₃ =>
      if ok = true then wpAny (model prog w) A (eval elt env) (fun x s₄ =>
       wpAny (model prog w) A (call (.builtin "list.append") [acc,x]) (fun _ s₅=>∃ m,m < n/\I m s₅) (fun _ _=>False) s₄) (fun _ _=>False) s₃
      else ∃ m,m < n/\I m s₃) (fun _ _=>False) s₂) (fun _ _=>False) s₀) (fun _ _=>False) s₁) (fun _ _=>False) s)
  (n:Nat) (h:I n s) :
  codeAny (model prog w) A (.compLoop (.ListComp elt [⟨target,iter,ifs,0⟩] scope pos) 0 it acc env) R s:=by
 have up:∀ {α:Type} {t:Sem α} {Q:α->Shared->Prop} {E':Value->Shared->Prop} {s':Shared},wpAny (model prog w) A t Q (fun _ _=>False) s'->wpAny (model prog w) A t Q E' s':=fun h=>wpAny_mono h (fun _ _ q=>q) fun _ _ z=>z.elim
 refine codeAny_loop rfl I (fun n s hI=>?_) n h
 show wpAny _ A ((compTurn (.ListComp elt [⟨target,iter,ifs,0⟩] scope pos) 0 it acc env).onRaise (fun x=>do noteFrame x env; theTreesLotGoes x)) _ _ s
 refine wpAny_noted ?_
 rw [compTurn_list]
 refine wpAny_bind (wpAny_standAt (wpAny_bind (thn (up (turn n s hI)) fun r s₁ h₁=>?_)))
 cases r with
 | none=>exact wpAny_pure h₁
 | some v =>
  refine wpAny_bind (thn (up h₁) fun _ s₀ h₀=>?_)
  refine wpAny_bind (thn (up h₀) fun _ s₂ h₂=>wpAny_bind (thn (up h₂) fun ok s₃ h₃=>?_))
  cases ok with
  | false=>exact wpAny_pure ⟨rfl,h₃⟩
  | true =>
   exact wpAny_bind (wpAny_bind (thn (up h₃) fun x s₄ h₄=>wpAny_bind (thn (up h₄) fun _ s₅ h₅=>wpAny_pure (wpAny_pure ⟨rfl,h₅⟩))))
end
def zbI (X:Cx) (scope:Scope) (cl:List (Str × Addr)) (C:Addr) (s₃:Shared) (H₃:Hp) (fp:List Addr) (N:List Str):Cx where
 prog:=X.prog
 w:=X.w
 K:=X.K
 mg:=X.mg
 base:=X.base
 A:=X.A
 N:=N
 s₀:=s₃
 H₀:=H₃
 env:=compEnvC scope cl C X.env
 outer:=X.stack
 stack:=X.stack
 ex:=fp
 fn:=fun _=>false
 calm:=X.calm
 pn:=[]
 xe:=fun _ _=>False
def PTs (X:Cx) (ifs:List Expr) (t:TT):Prop :=
 ∀ (zk:List (Addr × Obj)) (s:Shared) (σ:St) (H:Hp) (Q:Bool->Hp->Prop),Inv X zk σ H s->t σ H Q ->
  wpAny (model X.prog X.w) X.A (forIn ifs true fun c r=>if r = true then do let ok <- isTrue c X.env (eval c X.env); pure (ForInStep.yield ok) else pure (ForInStep.yield r)) (TP X zk σ Q) X.xe s
def zry:TT:=fun _ H Q=>Q true H
theorem zbT {X:Cx}:PTs X [] zry:=fun _ _ _ H _ I h=>wpAny_tests_nil ⟨H,I,h⟩
theorem zhg {X:Cx} {c:Expr} {t:TT} (h:PT X c t):PTs X [c] t:=fun zk s σ H Q I hw=>wpAny_tests_one (h zk s σ H Q I hw)
def tau (caps:List (Option Nat)) (σ:St):St:=caps.map fun o=>o.bind fun i=>(σ[i]?).join
def zne (caps:List (Option Nat)) (wi:TI) (g:TG) (tt:TT) (te:TE):TE:=fun σ H Q=>wi σ H fun J H1=>∀ D,H1 D = none->∃ W:Nat->Nat->St->Hp->Prop,(∃ m,W 0 m (tau caps σ) (upd H1 D (.lst []))) /\
 ∀ i m τ H2,W i m τ H2->(J.stop i H2/\Q (.ref D) H2)\/(J.go i H2/\∀ x H3,J.yld i H2 x H3->g x τ H3 fun τ4 H4=>tt τ4 H4 fun b H5 =>
  if b = true then te τ4 H5 fun v H6=>∃ xs,H6 D = some (.lst xs)/\xs.length < sizeLine/\∃ m',m' < m/\W (i + 1) m' τ4 (upd H6 D (.lst (xs ++ [v]))) else ∃ m',m' < m/\W (i + 1) m' τ4 H5)
structure CompOk (X:Cx) (scope:Scope) (cl:List (Str × Addr)) (N:List Str) (caps:List (Option Nat)):Prop where
 clos:closureFor scope X.env = pure cl
 sub:∀ x c,cl.lookup x = some c->X.env.cells.lookup x = some c
 kind:scope.kind = .function
 cell:∀ y ∈ scope.names,y.2 ≠ .cell
 names:∀ y ∈ scope.names,y.2 = .local->scope.names.lookup y.1 = some .local
 has:∀ x,((relabel scope X.env).names.lookup x = some .cell\/(relabel scope X.env).names.lookup x = some .free)->∃ c,cl.lookup x = some c
 cap:∀ (j i:Nat) (x:Str),caps[j]? = some (some i)->N[j]? = some x->X.N[i]? = some x/\Vis X.env.scope x/\¬ X.env.kindOf x = some .local/\∃ c,cl.lookup x = some c/\((relabel scope X.env).names.lookup x = some .cell\/(relabel scope X.env).names.lookup x = some .free)
 len:caps.length = N.length
section
variable {X:Cx} {scope:Scope} {cl:List (Str × Addr)} {N:List Str} {caps:List (Option Nat)} {tg iter elt:Expr} {ifs:List Expr} {pos:Pos} {wi:TI} {g:TG} {tt:TT} {te:TE}
theorem zkW {zk:List (Addr × Obj)} {σ:St} {H:Hp} {s:Shared} {fp:List Addr} {h₁:Heap} {t':Nat} (c:CompOk X scope cl N caps) (I:Inv X zk σ H s) (f:∀ b ∈ fp,FpOk X zk H b) (fo:∀ b ∈ fp,∃ o,s.heap.get? b = some o)
  (hns:h₁.Ns s.heap.objs.size (fun _=>none)) (hk:∀ b o,s.heap.get? b = some o->h₁.get? b = some o) :
  Inv (zbI X scope cl s.heap.objs.size s H fp N) [] (tau caps σ) H { s with heap:=h₁,toks:=t' }:=by
 have lt:∀ b ∈ fp,b < s.heap.objs.size:=fun b hb=>by obtain ⟨o,e⟩:=fo b hb; exact Heap.lt_size e
 have cells:∀ x k,cl.lookup x = some k->∃ v,s.heap.IsCell k v:=fun x k e=>I.cell x k (c.sub x k e)
 refine ⟨⟨I.ok.mod,c.kind,I.ok.glob,I.ok.blt,Nat.le_refl _,fun x y k h1 h2=>I.ok.inj x y k (c.sub x k h1) (c.sub y k h2),fun x hx=>c.has x hx,fun x k h _=>absurd (show false = true from h) (by decide),I.ok.hd,I.ok.frames,.inl rfl,
  fun b hb=>⟨Nat.ne_of_lt (lt b hb),fun x k e=>(f b hb).2.2.2.2.1 x k (c.sub x k e)⟩,I.bs,Nat.le_trans I.ok.bsz I.sz,fun b o e hb=>?_,fun b hb z=>?_,I.stack,I.stkFree⟩,
  rfl,I.bare,Un.kept hk,⟨_,hns,fun j x v h1 h2 h3=>?_⟩,fun x k e=>?_,I.hok.fresh (Nat.le_refl _),fun x k e=>I.freeC x k (c.sub x k e),fun p hp=>absurd (show p ∈ ([]:List (Addr × Obj)) from hp) (by simp),I.hok.kept hk,?_⟩
 ·rcases (f b hb).2.2.2.1 with q | q
  ·exact I.ok.noex b o e q
  ·exact absurd (Nat.lt_of_lt_of_le (Heap.lt_size e) (Nat.le_trans I.ok.bsz q)) (Nat.lt_irrefl _)
 ·rcases List.mem_cons.mp (I.stkSub b z) with q | q
  ·exact (f b hb).2.1 q
  ·exact (f b hb).2.2.1 q
 ·have h2':(caps.map fun o=>o.bind fun i=>(σ[i]?).join)[j]? = some (some v):=h2
  rw [List.getElem?_map] at h2'
  cases e:caps[j]? with
  | none=>rw [e] at h2'; cases h2'
  | some oi =>
   rw [e] at h2'
   have h2'':(oi.bind fun i=>(σ[i]?).join) = some v:=Option.some.inj h2'
   cases oi with
   | none=>cases h2''
   | some i =>
    have h4:(σ[i]?).join = some v:=h2''
    have h5:σ[i]? = some (some v):=by
     cases q:σ[i]? with
     | none=>rw [q] at h4; cases h4
     | some w'=>rw [q] at h4; exact congrArg some h4
    obtain ⟨k1,k2,k3,cc,k4,k5⟩:=c.cap j i x e h1
    obtain ⟨m,hn,hl⟩:=I.loc
    obtain ⟨u,r,l⟩:=hl i x v k1 h5 k2
    refine ⟨u,r,.inr ⟨k5,cc,k4,?_⟩⟩
    rcases l with ⟨q,_⟩ | ⟨_,c',hc',hcell⟩
    ·exact (k3 q).elim
    ·rw [c.sub x cc k4] at hc'
     cases hc'
     exact hcell.keeps hk
 ·obtain ⟨v,q⟩:=cells x k e
  exact ⟨v,q.keeps hk⟩
 ·show (caps.map _).length = N.length
  rw [List.length_map]
  exact c.len
theorem znq {zk:List (Addr × Obj)} {σ τ:St} {H H':Hp} {s s':Shared} {h':Heap} {fp:List Addr} (I:Inv X zk σ H s) (f:∀ b ∈ fp,FpOk X zk H b) (J:Inv (zbI X scope cl s.heap.objs.size s H fp N) [] τ H' s') (hs:Heap.SameBut s.heap.objs.size s'.heap h') :
  Inv X zk σ H' { s' with heap:=h' }:=by
 have hC:H' s.heap.objs.size = none:=J.free
 have keep:∀ b o,b ≠ s.heap.objs.size->s'.heap.get? b = some o->h'.get? b = some o:=fun b o nb e=>hs.extBut b o nb e
 have u1:Un (frs X.stack) (s.heap.objs.size :: fp) H H' s.heap s'.heap:=Un.mono J.base (fun b hb=>hb) (fun b hb=>List.mem_cons_of_mem _ hb)
 have u2:Un (frs X.stack) (s.heap.objs.size :: fp) H' H' s'.heap h' :=
  ⟨fun b o e _ _ hx=>keep b o (fun z=>hx (by rw [z]; exact List.mem_cons_self)) e,fun b o e _ _ hx=>⟨o.slots,keep b o (fun z=>hx (by rw [z]; exact List.mem_cons_self)) e⟩,fun _ _ _ n _=>n,fun b o e hx=>⟨o,keep b o (fun z=>hx (by rw [z]; exact List.mem_cons_self)) e⟩,fun _ _ q=>q,fun _ _ _ q=>q,fun _ ps q=>⟨#[],by rw [q]; simp⟩⟩
 have hok:HOk X.prog X.w H' h':=fun a o e=>(J.hok a o e).stay (fun b u hb q=>keep b u (fun z=>by
  rcases hb with hb | hb
  ·rw [<- hb,z,hC] at e; cases e
  ·rw [z,hC] at hb; cases hb) q) (fun b q=>q) fun b xs q=>q
 refine I.call' (s':={ s' with heap:=h' }) (ch:=s.heap.objs.size :: fp) J.os (u1.trans u2) hok J.bare fun b hb=>?_
 rcases List.mem_cons.mp hb with rfl | hb
 ·refine ⟨.inr I.sz,Nat.ne_of_gt I.lt,fun x k e z=>?_,fun p hp z=>?_⟩
  ·obtain ⟨v,q⟩:=I.cell x k e
   exact absurd q.lt (by rw [z]; exact Nat.lt_irrefl _)
  ·exact absurd (Heap.lt_size (I.pin p hp).1) (by rw [z]; exact Nat.lt_irrefl _)
 ·obtain ⟨f0,f1,f2,f3,f4,f5⟩:=f b hb
  exact ⟨f3,f1,f4,f5⟩
theorem zgU {zk:List (Addr × Obj)} {σ:St} {H2:Hp} {s2:Shared} {it:Addr} {fp:List Addr} {tn:Nat->Heap->Prop} {J:It} {RR:Value->Addr->Result->Shared->Prop} {E:Value->Shared->Prop} (hc:X.calm = true) (c:CompOk X scope cl N caps)
  (I2:Inv X zk σ H2 s2) (T:Turn X.prog X.w X.K tg J fp it tn) (st2:tn 0 s2.heap) (f2:∀ b ∈ fp,FpOk X zk H2 b)
  (hg:∀ C s H fp,PG (zbI X scope cl C s H fp N) tg g) (ht:∀ C s H fp,PTs (zbI X scope cl C s H fp N) ifs tt) (he:∀ C s H fp,PE (zbI X scope cl C s H fp N) elt te)
  (Q:VK) (hq:∀ D,H2 D = none->∃ W:Nat->Nat->St->Hp->Prop,(∃ m,W 0 m (tau caps σ) (upd H2 D (.lst []))) /\
   ∀ i m τ H2,W i m τ H2->(J.stop i H2/\Q (.ref D) H2)\/(J.go i H2/\∀ x H3,J.yld i H2 x H3->g x τ H3 fun τ4 H4=>tt τ4 H4 fun b H5 =>
    if b = true then te τ4 H5 fun v H6=>∃ xs,H6 D = some (.lst xs)/\xs.length < sizeLine/\∃ m',m' < m/\W (i + 1) m' τ4 (upd H6 D (.lst (xs ++ [v]))) else ∃ m',m' < m/\W (i + 1) m' τ4 H5))
  (hRR:∀ (D C:Addr) (H':Hp) (s':Shared) (m:Str->Option Value),s'.heap.Ns C m->FpOk X zk H' C->(∀ h',Heap.SameBut C s'.heap h'->Inv X zk σ H' { s' with heap:=h' })->Q (.ref D) H'->RR (.ref D) C (.ok .next) s') :
  wpAny (model X.prog X.w) X.A (newList []) (fun acc s₃=>wpAny (model X.prog X.w) X.A (newFunctionEnv scope X.env.globals cl [] X.env.qual none .none (some X.env)) (fun cenv s₄ =>
   codeAny (model X.prog X.w) X.A (.compStart (.ListComp elt [⟨tg,iter,ifs,0⟩] scope pos) 0 (.ref it) acc { cenv with scope:=relabel scope X.env }) (RR acc cenv.locals) s₄) E s₃) E s2:=by
 have hD:H2 s2.heap.objs.size = none:=I2.hok.fresh (Nat.le_refl _)
 obtain ⟨W,⟨m0,w0⟩,turn⟩:=hq s2.heap.objs.size hD
 have I3:Inv X zk σ (upd H2 s2.heap.objs.size (.lst [])) { s2 with heap:=s2.heap.push { cls:=.type "list",data:=.seq ([]:List Value).toArray } }:=I2.laid (t':=s2.toks) (fun b u e=>Heap.get?_push_of_some _ e) (Nat.le_refl _) ⟨Nat.zero_le _,[],0,.nil,Heap.get?_push_size _ rfl⟩
 have fo:∀ b ∈ fp,∃ o,s2.heap.get? b = some o:=fun b hb=>by obtain ⟨o,e,_⟩:=T.obj 0 _ st2 b hb; exact ⟨o,e⟩
 have f3:∀ b ∈ fp,FpOk X zk (upd H2 s2.heap.objs.size (.lst [])) b:=fun b hb=>by
  obtain ⟨o,e⟩:=fo b hb
  refine ⟨?_,(f2 b hb).2⟩
  rw [zY (Nat.ne_of_lt (Heap.lt_size e))]
  exact (f2 b hb).1
 refine wpAny_newObj_type (wpAny_newFunctionEnv c.cell (by intro y hy; simp at hy) (fun h₁ hns₁ hsb₁=>?_) c.kind)
 have hk:∀ b o,(s2.heap.push { cls:=.type "list",data:=.seq ([]:List Value).toArray }).get? b = some o->h₁.get? b = some o:=fun b o e=>hsb₁.extBut b o (Nat.ne_of_lt (Heap.lt_size e)) (Heap.get?_push_of_some _ e)
 have st4:tn 0 h₁:=T.keep 0 _ _ st2 fun b _ o e=>hk b o (Heap.get?_push_of_some _ e)
 have I4:=zkW (t':=s2.toks + ([]:List (Str × Value)).length) c I3 f3 (fun b hb=>by obtain ⟨o,e⟩:=fo b hb; exact ⟨o,Heap.get?_push_of_some _ e⟩) hns₁ hk
 have fpok:∀ {H':Hp},(∀ b ∈ fp,H' b = none)->∀ b ∈ fp,FpOk (zbI X scope cl (s2.heap.push { cls:=.type "list",data:=.seq ([]:List Value).toArray }).objs.size { s2 with heap:=s2.heap.push { cls:=.type "list",data:=.seq ([]:List Value).toArray } } (upd H2 s2.heap.objs.size (.lst [])) fp N) [] H' b:=fun hn b hb =>
  ⟨hn b hb,(I4.ok.exf b hb).1,I4.ok.exfs b hb,.inl hb,(I4.ok.exf b hb).2,fun p hp=>absurd (show p ∈ ([]:List (Addr × Obj)) from hp) (by simp)⟩
 have loop:codeAny (model X.prog X.w) X.A (.compLoop (.ListComp elt [⟨tg,iter,ifs,0⟩] scope pos) 0 (.ref it) (.ref s2.heap.objs.size) (compEnvC scope cl (s2.heap.push { cls:=.type "list",data:=.seq ([]:List Value).toArray }).objs.size X.env))
   (RR (.ref s2.heap.objs.size) (s2.heap.push { cls:=.type "list",data:=.seq ([]:List Value).toArray }).objs.size) { s2 with heap:=h₁,toks:=s2.toks + ([]:List (Str × Value)).length }:=by
  refine zii (fun n s'=>∃ i τ H',Inv (zbI X scope cl (s2.heap.push { cls:=.type "list",data:=.seq ([]:List Value).toArray }).objs.size { s2 with heap:=s2.heap.push { cls:=.type "list",data:=.seq ([]:List Value).toArray } } (upd H2 s2.heap.objs.size (.lst [])) fp N) [] τ H' s'/\tn i s'.heap/\(∀ b ∈ fp,H' b = none)/\W i n τ H') ?_ m0 ⟨0,_,_,I4,st4,fun b hb=>(f3 b hb).1,w0⟩
  rintro n s5 ⟨i,τ,H5,I5,st5,fr5,w5⟩
  rcases turn i n τ H5 w5 with ⟨stop,qn⟩ | ⟨go,step⟩
  ·refine thn (T.done (zbI X scope cl (s2.heap.push { cls:=.type "list",data:=.seq ([]:List Value).toArray }).objs.size { s2 with heap:=s2.heap.push { cls:=.type "list",data:=.seq ([]:List Value).toArray } } (upd H2 s2.heap.objs.size (.lst [])) fp N) rfl rfl rfl hc i [] s5 τ H5 (fun _ _=>False) I5 (fpok fr5) st5 stop) fun r s6 ⟨hr,I6⟩=>?_
   subst hr
   obtain ⟨m,hn,_⟩:=id I6.loc
   exact hRR _ _ H5 s6 m hn (I3.fpOk (Nat.le_refl _) I6.free) (fun h' hs=>znq I3 f3 I6 hs) qn
  ·refine thn (T.item (zbI X scope cl (s2.heap.push { cls:=.type "list",data:=.seq ([]:List Value).toArray }).objs.size { s2 with heap:=s2.heap.push { cls:=.type "list",data:=.seq ([]:List Value).toArray } } (upd H2 s2.heap.objs.size (.lst [])) fp N) rfl rfl rfl hc i [] s5 τ H5 (fun _ _=>False) I5 (fpok fr5) st5 go) fun r s6 ⟨u,hr,h6⟩=>?_
   subst hr
   refine thn h6 fun _ s7 ⟨x,H7,I7,r7,y7,st7,fr7⟩=>?_
   have I7':=I7.pinned (fpok fr7) (T.obj _ _ st7)
   refine thn (hg _ _ _ _ _ s7 τ H7 x u _ I7' r7 (step x H7 y7)) fun _ s8 ⟨τ8,H8,I8,q8⟩=>?_
   refine thn (ht _ _ _ _ _ s8 τ8 H8 _ I8 q8) fun ok s9 ⟨H9,I9,q9⟩=>?_
   have again:∀ {H':Hp} {s':Shared} {m:Nat},Inv (zbI X scope cl (s2.heap.push { cls:=.type "list",data:=.seq ([]:List Value).toArray }).objs.size { s2 with heap:=s2.heap.push { cls:=.type "list",data:=.seq ([]:List Value).toArray } } (upd H2 s2.heap.objs.size (.lst [])) fp N) ([] ++ ziH fp s7.heap) τ8 H' s'->(m < n/\W (i + 1) m τ8 H') ->
     ∃ m,m < n/\∃ i τ H',Inv (zbI X scope cl (s2.heap.push { cls:=.type "list",data:=.seq ([]:List Value).toArray }).objs.size { s2 with heap:=s2.heap.push { cls:=.type "list",data:=.seq ([]:List Value).toArray } } (upd H2 s2.heap.objs.size (.lst [])) fp N) [] τ H' s'/\tn i s'.heap/\(∀ b ∈ fp,H' b = none)/\W i m τ H':=fun {H' s' m} I' q=>by
    refine ⟨m,q.1,i + 1,τ8,H',I'.unpinned,T.keep _ _ _ st7 fun b hb o e=>(I'.pin (b,o) (List.mem_append_right _ (List.mem_append_right _ (zdO hb e)))).1,fun b hb=>?_,q.2⟩
    obtain ⟨o,e,d⟩:=T.obj _ _ st7 b hb
    exact (I'.pin (b,o) (List.mem_append_right _ (List.mem_append_right _ (zdO hb e)))).2.1
   cases ok with
   | false =>
    rw [if_neg Bool.false_ne_true] at q9 ⊢
    obtain ⟨m',hm,w9⟩:=q9
    exact again I9 ⟨hm,w9⟩
   | true =>
    rw [if_pos rfl] at q9 ⊢
    refine thn (he _ _ _ _ _ s9 τ8 H9 _ I9 q9) fun v s10 ⟨z,H10,I10,r10,xs,hx,hz,m',hm,w10⟩=>?_
    refine thn (zcJ _ s10 τ8 H10 (.ref s2.heap.objs.size) [z] (.ref s2.heap.objs.size) [v] (fun _ H11=>W (i + 1) m' τ8 H11) I10 rfl (.cons r10 .nil) ⟨_,xs,z,rfl,rfl,hx,hz,w10⟩) fun _ s11 ⟨_,H11,I11,_,w11⟩=>?_
    exact again I11 ⟨hm,w11⟩
 exact codeAny_compStart_list loop (T.self _ 0 _ _ _ st4 loop)
theorem zcF (hx:∀ e s,X.xe e s->False) (hc:X.calm = true) (c:CompOk X scope cl N caps) (hi:PI X tg iter wi) (hg:∀ C s H fp,PG (zbI X scope cl C s H fp N) tg g) (ht:∀ C s H fp,PTs (zbI X scope cl C s H fp N) ifs tt) (he:∀ C s H fp,PE (zbI X scope cl C s H fp N) elt te)
  (hs:∀ x,foldedSetIterable iter X.env x = pure x:=by intro _; rfl):PE X (.ListComp elt [⟨tg,iter,ifs,0⟩] scope pos) (zne caps wi g tt te):=by
 intro zk s σ H Q I h
 rw [eval_ListComp]
 refine wpAny_comprehension_free (use:=none) rfl hs c.clos c.kind c.names (thn (hi zk s σ H _ I h) fun v s1 h1=>thn h1 fun itv s2 h2=>?_)
 obtain ⟨it,fp,tn,J,H2,e,I2,T,st2,f2,q2⟩:=h2
 subst e
 exact zgU (RR:=fun acc C=>compPost (model X.prog X.w) X.A X.xe none (EP X zk σ Q) acc C) hc c I2 T st2 f2 hg ht he Q q2 fun D C H' s' m hn _ hb q=>⟨m,hn,fun h' hs=>⟨.ref D,H',hb h' hs,rfl,q⟩⟩
theorem ze9 {i:Nat} {y:Str} {py spos:Pos} (hx:∀ e s,X.xe e s->False) (hc:X.calm = true) (c:CompOk X scope cl N caps) (hN:X.N.Nodup) (hyi:X.N[i]? = some y) (hl:X.env.scope.names.lookup y = some .local) (hi:PI X tg iter wi) (hg:∀ C s H fp,PG (zbI X scope cl C s H fp N) tg g)
  (ht:∀ C s H fp,PTs (zbI X scope cl C s H fp N) ifs tt) (he:∀ C s H fp,PE (zbI X scope cl C s H fp N) elt te)
  (hsw:swapsWith (.ListComp elt [⟨tg,iter,ifs,0⟩] scope pos) (some (.Name y py)) spos.line X.env = pure true:=by rfl)
  (hs:∀ x,foldedSetIterable iter X.env x = pure x:=by intro _; rfl):PS X (.Assign [.Name y py] (.ListComp elt [⟨tg,iter,ifs,0⟩] scope pos) spos) (zq3 (zne caps wi g tt te) (ziF i)):=by
 intro zk s σ H D I h
 rw [exec_Assign_Name_used _ _ _ _ hsw]
 refine wpAny_bind (wpAny_standAt (wpAny_bind ?_))
 show wpAny _ X.A (do let _ <- comprehension (.ListComp elt [⟨tg,iter,ifs,0⟩] scope pos) scope X.env _ (newList []) false (eval iter X.env) (some (assign (.Name y py) X.env))) _ _ s
 refine wpAny_bind (wpAny_mono (wpAny_comprehension_free (use:=some (assign (.Name y py) X.env)) (Q:=fun _ s'=>SP X zk D .next s') rfl hs c.clos c.kind c.names (thn (hi zk s σ H _ I h) fun v s1 h1=>thn h1 fun itv s2 h2=>?_)) (fun _ s' hq=>wpAny_pure (wpAny_pure hq)) fun _ _ e=>e)
 obtain ⟨it,fp,tn,J,H2,e,I2,T,st2,f2,q2⟩:=h2
 subst e
 refine zgU (RR:=fun acc C=>compPost (model X.prog X.w) X.A X.xe (some (assign (.Name y py) X.env)) (fun _ s'=>SP X zk D .next s') acc C) hc c I2 T st2 f2 hg ht he (fun v H'=>D.nx (σ.set i (some v)) H') q2 fun Da C H' s' m hn f hb q=>?_
 obtain ⟨o,es,ep,ho,hd,r⟩:=hn
 have I':Inv X zk σ H' s':=hb s'.heap (Heap.SameBut.refl _ _)
 have I'':Inv X (zk ++ [(C,o)]) σ H' s':=I'.pins_of fun p hp=>(List.mem_append.mp hp).elim (fun z=>I'.pin p (List.mem_append_right _ z)) fun z=>by
  cases List.mem_singleton.mp z
  exact ⟨ho,f.1,f.2.1,f.2.2.1,fun v e=>by rw [hd] at e; cases e⟩
 refine wpAny_assign_Name (zhJ I'' hN hyi (.inl hl) (show RelV (V.ref Da) (Value.ref Da) from rfl) (fun s2 J2=>?_) (.inr hl))
 refine ⟨m,⟨o,es,ep,(J2.pin (C,o) (List.mem_append_right _ (List.mem_append_right _ (List.mem_singleton.mpr rfl)))).1,hd,r⟩,fun h' hs=>?_⟩
 exact ⟨_,H',J2.unpinned.turned (t':=s2.toks) (fun b ob nb e=>hs.extBut b ob nb e) f.1 f.2.1 f.2.2.2.1 f.2.2.2.2.1 f.2.2.2.2.2,q⟩
end
def zlo (env:Env):List (Str × NameKind)->List (Str × Addr)->List (Str × Addr)
 | [],acc=>acc
 | (n,k) :: r,acc=>zlo env r (if k == .free then (n,(env.cells.lookup n).getD 0) :: acc else acc)
theorem zjW {env:Env} {x:Str} {c:Addr}:∀ {names:List (Str × NameKind)} {acc:List (Str × Addr)},(x,c) ∈ zlo env names acc->(x,c) ∈ acc\/((x,NameKind.free) ∈ names/\c = (env.cells.lookup x).getD 0)
 | [],_,h=>.inl h
 | (n,k) :: r,acc,h=>by
  rcases zjW (names:=r) h with h | ⟨h,e⟩
  ·by_cases hk:k == .free
   ·rw [if_pos hk] at h
    rcases List.mem_cons.mp h with h | h
    ·cases h
     have:k = .free:=by simpa using hk
     subst this
     exact .inr ⟨List.mem_cons_self,rfl⟩
    ·exact .inl h
   ·rw [if_neg hk] at h
    exact .inl h
  ·exact .inr ⟨List.mem_cons_of_mem _ h,e⟩
theorem zke {env:Env} {p:Str × Addr}:∀ {names:List (Str × NameKind)} {acc:List (Str × Addr)},p ∈ acc->p ∈ zlo env names acc
 | [],_,h=>h
 | (n,k) :: r,acc,h=>zke (names:=r) (by split <;> first | exact List.mem_cons_of_mem _ h | exact h)
theorem zhx {env:Env} {x:Str}:∀ {names:List (Str × NameKind)} {acc:List (Str × Addr)},(x,NameKind.free) ∈ names->∃ c,(x,c) ∈ zlo env names acc
 | (n,k) :: r,acc,h=>by
  rcases List.mem_cons.mp h with h | h
  ·cases h
   exact ⟨_,zke (names:=r) (by rw [if_pos (by decide)]; exact List.mem_cons_self)⟩
  ·exact zhx (names:=r) h
theorem zc0 {β:Type} {x:Str} {c:β}:∀ {l:List (Str × β)},(x,c) ∈ l->∃ c',l.lookup x = some c'
 | (n,v) :: r,h=>by
  cases e:x == n with
  | true=>exact ⟨v,by rw [List.lookup_cons,e]⟩
  | false =>
   rcases List.mem_cons.mp h with h | h
   ·cases h
    simp at e
   ·obtain ⟨c',q⟩:=zc0 (l:=r) h
    exact ⟨c',by rw [List.lookup_cons,e]; exact q⟩
theorem zhC {env:Env} {scope:Scope} (h:∀ y ∈ scope.names,y.2 = .free->(env.cells.lookup y.1).isSome = true):closureFor scope env = pure (zlo env scope.names []):=by
 have go:∀ (names:List (Str × NameKind)) (acc:List (Str × Addr)),(∀ y ∈ names,y.2 = .free->(env.cells.lookup y.1).isSome = true) ->
   (forIn names acc (fun (x:Str × NameKind) (cs:List (Str × Addr))=>(if x.2 == .free then (do let c <- cellOf env x.1; pure (ForInStep.yield ((x.1,c) :: cs))) else pure (ForInStep.yield cs):Sem (ForInStep (List (Str × Addr)))))) = (pure (zlo env names acc):Sem (List (Str × Addr))):=by
  intro names
  induction names with
  | nil=>intro acc _; rfl
  | cons y r ih =>
   intro acc hy
   obtain ⟨n,k⟩:=y
   rw [List.forIn_cons]
   by_cases hk:k == .free
   ·have hs:=hy (n,k) List.mem_cons_self (by simpa using hk)
    obtain ⟨c,hc⟩:=Option.isSome_iff_exists.mp hs
    have hc':env.cells.lookup n = some c:=hc
    simp only [hk,if_true,cellOf,hc',pure_bind,zlo,Option.getD_some]
    exact ih _ fun y hy'=>hy y (List.mem_cons_of_mem _ hy')
   ·simp only [hk,Bool.false_eq_true,if_false,pure_bind,zlo]
    exact ih _ fun y hy'=>hy y (List.mem_cons_of_mem _ hy')
 have g:=go scope.names [] h
 exact (bind_pure _).trans g
def zbD (DN:List Str) (dsc sc:List (Str × NameKind)) (N:List Str) (caps:List (Option Nat)):Bool :=
 (caps.length == N.length) && sc.all (fun y=>y.2 != .cell && (y.2 != .free || dsc.lookup y.1 == some .cell) && (y.2 != .local || sc.lookup y.1 == some .local)) &&
 (caps.zip N).all fun p=>match p.1 with | none=>true | some i=>DN[i]? == some p.2 && dsc.lookup p.2 == some .cell && sc.lookup p.2 == some .free
theorem zdu {dsc:List (Str × NameKind)} {env:Env} {x:Str} {k:NameKind}:∀ {names:List (Str × NameKind)},(names.map fun (n,k)=>if (k == .free && env.scope.kind == .function && env.kindOf n == some .cell) then (n,.cell) else (n,k)).lookup x = some k ->
  ∃ k',names.lookup x = some k'/\(k' = k\/(k' = .free/\k = .cell))
 | [],h=>by simp at h
 | (n,k0) :: r,h=>by
  cases e:x == n with
  | true =>
   refine ⟨k0,by rw [List.lookup_cons,e],?_⟩
   rw [List.map_cons] at h
   dsimp only at h
   split at h
   ·rename_i hc
    rw [List.lookup_cons,e] at h
    have:k0 = .free:=by simp at hc; exact hc.1.1
    cases h
    exact .inr ⟨this,rfl⟩
   ·rw [List.lookup_cons,e] at h
    cases h
    exact .inl rfl
  | false =>
   rw [List.map_cons] at h
   dsimp only at h
   have h':(r.map fun (n,k)=>if (k == NameKind.free && env.scope.kind == .function && env.kindOf n == some .cell) then (n,NameKind.cell) else (n,k)).lookup x = some k:=by
    split at h <;> (rw [List.lookup_cons,e] at h; exact h)
   obtain ⟨k',q,z⟩:=zdu (dsc:=dsc) h'
   exact ⟨k',by rw [List.lookup_cons,e]; exact q,z⟩
theorem zgG {env:Env} {x:Str} (h1:env.scope.kind = .function) (h2:env.kindOf x = some .cell):∀ {names:List (Str × NameKind)},names.lookup x = some .free ->
  (names.map fun (n,k)=>if (k == .free && env.scope.kind == .function && env.kindOf n == some .cell) then (n,.cell) else (n,k)).lookup x = some .cell
 | [],h=>by simp at h
 | (n,k0) :: r,h=>by
  rw [List.map_cons]
  cases e:x == n with
  | true =>
   rw [List.lookup_cons,e] at h
   cases h
   have en:x = n:=by simpa using e
   subst en
   dsimp only
   rw [if_pos (by rw [h1,h2]; decide),List.lookup_cons,e]
  | false =>
   rw [List.lookup_cons,e] at h
   have ih:=zgG h1 h2 (names:=r) h
   dsimp only
   split <;> (rw [List.lookup_cons,e]; exact ih)
theorem zan {X:Cx} {dsc:Scope} {L:Nat} {scope:Scope} {N:List Str} {caps:List (Option Nat)} (hd:X.env.scope = dsc) (hc:X.env.cells = cellsFrom L dsc.names []) (hdk:dsc.kind = .function) (hk:scope.kind = .function) (h:zbD X.N dsc.names scope.names N caps = true) :
  CompOk X scope (zlo X.env scope.names []) N caps:=by
 subst hd
 simp only [zbD,Bool.and_eq_true,List.all_eq_true,beq_iff_eq] at h
 obtain ⟨⟨hl,hs⟩,hz⟩:=h
 have hfree:∀ y ∈ scope.names,y.2 = .free->X.env.scope.names.lookup y.1 = some .cell:=fun y hy e=>by
  have q:=(hs y hy).1.2
  rw [e] at q
  simpa using q
 have hcell:∀ y ∈ scope.names,y.2 ≠ .cell:=fun y hy e=>by
  have q:=(hs y hy).1.1
  rw [e] at q
  simp at q
 have hsome:∀ x,X.env.scope.names.lookup x = some .cell->(X.env.cells.lookup x).isSome = true:=fun x e=>by
  rw [hc]
  exact PySem.W.cellsFrom_some _ _ _ (.inl e)
 have sub:∀ x c,(zlo X.env scope.names []).lookup x = some c->X.env.cells.lookup x = some c:=fun x c e=>by
  rcases zjW (PySem.mem_of_lookup e) with q | ⟨q,ec⟩
  ·cases q
  ·obtain ⟨c',hc'⟩:=Option.isSome_iff_exists.mp (hsome x (hfree _ q rfl))
   rw [ec,hc']
   rfl
 refine ⟨zhC fun y hy e=>hsome y.1 (hfree y hy e),sub,hk,hcell,fun y hy e=>?_,fun x hx=>?_,fun j i x h1 h2=>?_,hl⟩
 ·have q:=(hs y hy).2
  rw [e] at q
  simpa using q
 ·have fin:(x,NameKind.free) ∈ scope.names->∃ c,(zlo X.env scope.names []).lookup x = some c:=fun m=>by
   obtain ⟨c,hm⟩:=zhx (env:=X.env) (acc:=[]) m
   exact zc0 hm
  rcases hx with hx | hx
  ·obtain ⟨k',q,z⟩:=zdu (dsc:=[]) hx
   rcases z with rfl | ⟨rfl,_⟩
   ·exact absurd rfl (hcell _ (PySem.mem_of_lookup q))
   ·exact fin (PySem.mem_of_lookup q)
  ·obtain ⟨k',q,z⟩:=zdu (dsc:=[]) hx
   rcases z with rfl | ⟨_,z⟩
   ·exact fin (PySem.mem_of_lookup q)
   ·cases z
 ·have hm:(some i,x) ∈ caps.zip N:=by
   have:(caps.zip N)[j]? = some (some i,x):=by rw [List.getElem?_zip_eq_some]; exact ⟨h1,h2⟩
   exact List.mem_of_getElem? this
  have q:=hz _ hm
  simp only [Bool.and_eq_true,beq_iff_eq] at q
  obtain ⟨⟨q1,q2⟩,q3⟩:=q
  obtain ⟨c,hmc⟩:=zhx (env:=X.env) (acc:=[]) (PySem.mem_of_lookup q3)
  obtain ⟨c',hc'⟩:=zc0 hmc
  refine ⟨q1,.inr (.inl q2),fun z=>?_,c',hc',.inl (zgG hdk q2 q3)⟩
  have z':X.env.scope.names.lookup x = some .local:=z
  rw [q2] at z'
  cases z'
end
section
section
variable {X:Cx}
def zsj:R2:=fun x y H Q=>∃ z n,x = .str z/\y = .int n/\z.length <= 1000/\n <= 1000/\-1000 <= n/\Q (.str (PySem.Txt.mul z n)) H
theorem zrO {z:Str} {n:Int} (h1:z.length <= 1000) (h2:n <= 1000) (h3:-1000 <= n):PySem.MulOk z n:=by
 refine ⟨by simp; omega,fun a _ b=>?_,fun a _=>?_⟩
 ·have e:(1000:Int) <= (2 ^ 63 - 1) / n:=by
   rw [Int.le_ediv_iff_mul_le (by omega)]
   have:=Int.mul_le_mul_of_nonneg_left h2 (show (0:Int) <= 1000 by decide)
   omega
  omega
 ·have e:z.length * n.toNat <= 1000 * 1000:=Nat.mul_le_mul h1 (by omega)
  unfold Builtin.Str.tooLong
  simp only [decide_eq_false_iff_not,Nat.not_lt]
  exact Nat.le_trans e (by decide)
theorem zqz:OpR X (binaryOp .Mult) zsj:=by
 intro zk s σ H x y v u Q I rx ry h
 obtain ⟨z,n,rfl,rfl,h1,h2,h3,q⟩:=h
 obtain ⟨t,rfl⟩:=rx
 obtain ⟨t',rfl⟩:=ry
 exact PySem.SB.mul (zrO h1 h2 h3) fun _ k=>⟨.str _,H,I.tok _,⟨_,rfl⟩,q⟩
def ztO:V->Option Int->Option Int->Hp->VK->Prop:=fun x lo hi H Q=>∃ z,x = .str z/\z.length <= sizeLine/\Q (.str (PySem.Txt.slice z lo hi)) H
theorem zsw:SlR X ztO:=by
 intro zk s σ H x v vl vu lo hi sl Q I rx hs pl pu h
 obtain ⟨z,rfl,hz,q⟩:=h
 obtain ⟨t,rfl⟩:=rx
 refine ⟨"str",_,F.slot_str_getitem.lookup,typeIs_str _ _ _,?_⟩
 have fin:∀ (a b:Option (Int × Tok)),a.map (·.1) = lo->b.map (·.1) = hi->s.heap.IsSlice sl a b none->wpAny (model X.prog X.w) X.A (getItem (.str z t) (.ref sl)) (EP X zk σ Q) X.xe s:=fun a b e1 e2 hsl=>by
  subst e1 e2
  exact wpAny_getItem_str_slice (l:=a) (u:=b) (st:=none) hsl rfl (post_val_or_str ⟨Nat.le_trans (PySem.Txt.slice_le z _ _) hz,fun _ k=>⟨.str _,H,I.tok _,⟨_,rfl⟩,q⟩⟩)
 cases pl with
 | none =>
  cases pu with
  | none=>exact fin none none rfl rfl hs
  | int j tj=>exact fin none (some (j,tj)) rfl rfl hs
 | int i ti =>
  cases pu with
  | none=>exact fin (some (i,ti)) none rfl rfl hs
  | int j tj=>exact fin (some (i,ti)) (some (j,tj)) rfl rfl hs
theorem zgZ:∀ {zs:List Str} {us:List Value},Vals (zs.map V.str) us->StrsAre us zs
 | [],_,.nil=>.nil
 | z :: zs,_,.cons r t=>by
  obtain ⟨tk,rfl⟩:=r
  exact .cons z tk (zgZ t)
def zru (K:W.Frag):V->List V->Hp->VK->Prop:=fun x vs H Q=>∃ z a zs,x = .str z/\vs = [.ref a]/\SqL K H a (zs.map V.str)/\z.length <= 16/\zs.length <= 1000/\(∀ y ∈ zs,y.length <= 1000)/\Q (.str (PySem.Txt.join z zs)) H
theorem ziM {zs:List Str} (h:∀ y ∈ zs,y.length <= 1000):(zs.map (·.length)).sum <= zs.length * 1000:=by
 induction zs with
 | nil=>simp
 | cons z zs ih =>
  have h1:=h z List.mem_cons_self
  have h2:=ih fun y hy=>h y (List.mem_cons_of_mem _ hy)
  simp only [List.map_cons,List.sum_cons,List.length_cons,Nat.add_mul,Nat.one_mul]
  omega
theorem zqH:MtR X "str.join" (zru X.K):=by
 intro zk s σ H x vs v us Q I rx rv h
 obtain ⟨z,a,zs,rfl,rfl,hq,hz,hn,hl,q⟩:=h
 obtain ⟨t,rfl⟩:=rx
 obtain ⟨u,rfl,r1⟩:=rv.one
 cases r1
 obtain ⟨its,r,pl,hsz⟩:=I.list hq
 have hs:=ziM hl
 refine join_listW pl.isList (by simpa using zgZ r) hz (by omega) fun _ k=>⟨.str _,H,I.tok _,⟨_,rfl⟩,q⟩
end
section
variable {K:W.Frag} {o:List Addr} {σ:St} {H0:Hp} {t:TE} {ta:TA} {ds:List PyData}
def zi2 (lo:Int) (n:Nat):List PyData:=(List.range n).map fun k:Nat=>.int (lo + k)
theorem zaa {lo:Int} {n:Nat}:(zi2 lo n).length = n:=by simp [zi2]
theorem zbx {lo:Int} {n i:Nat} {d:PyData} (h:(zi2 lo n)[i]? = some d):i < n/\d = .int (lo + i):=by
 have hi:i < n:=by
  have:=List.getElem?_eq_some_iff.mp h
  obtain ⟨hl,_⟩:=this
  rwa [zaa] at hl
 refine ⟨hi,?_⟩
 simp only [zi2,List.getElem?_map,List.getElem?_range hi,Option.map_some,Option.some.injEq] at h
 exact h.symm
end
theorem znW {y:Str} {zs:List Str} (hy:y.length <= 16) (hz:∀ z ∈ zs,z.length <= 1000):(PySem.Txt.join y zs).length <= zs.length * 1016:=by
 show (Builtin.Str.glued y zs).length <= _
 rw [StrLaws.glued_eq_join]
 cases zs with
 | nil=>exact Nat.zero_le _
 | cons a r =>
  rw [len_join_cons]
  have h1:=ziM hz
  have h2:r.length * y.length <= r.length * 16:=Nat.mul_le_mul_left _ hy
  simp only [List.length_cons] at h1 ⊢
  omega
def zeu {α:Type} (xs:List α) (lo hi:Option Int):List α:=(xs.drop (HT.sIx xs.length 0 lo)).take (HT.sIx xs.length xs.length hi - HT.sIx xs.length 0 lo)
theorem HasL.drop {H:Hp}:∀ {ds:List PyData} {vs:List V} (n:Nat),HasL H ds vs->HasL H (ds.drop n) (vs.drop n)
 | ds,vs,0,h=>h
 | [],vs,n + 1,h=>by rw [zL.mp h]; exact zL.mpr rfl
 | d :: ds,vs,n + 1,h=>by
  obtain ⟨v,r,rfl,_,l⟩:=zC.mp h
  exact HasL.drop n l
theorem HasL.take {H:Hp}:∀ {ds:List PyData} {vs:List V} (n:Nat),HasL H ds vs->HasL H (ds.take n) (vs.take n)
 | ds,vs,0,h=>zL.mpr rfl
 | [],vs,n + 1,h=>by rw [zL.mp h]; exact zL.mpr rfl
 | d :: ds,vs,n + 1,h=>by
  obtain ⟨v,r,rfl,q,l⟩:=zC.mp h
  exact zC.mpr ⟨v,_,rfl,q,HasL.take n l⟩
theorem HasL.cut {H:Hp} {ds:List PyData} {vs:List V} (lo hi:Option Int) (h:HasL H ds vs):HasL H (zeu ds lo hi) (zkq vs lo hi):=by
 unfold zeu zkq
 rw [h.length]
 exact (h.drop _).take _
theorem HasL.rev {H:Hp}:∀ {ds:List PyData} {vs:List V},HasL H ds vs->HasL H ds.reverse vs.reverse
 | [],vs,h=>by rw [zL.mp h]; exact zL.mpr rfl
 | d :: ds,vs,h=>by
  obtain ⟨v,r,rfl,q,l⟩:=zC.mp h
  rw [List.reverse_cons,List.reverse_cons]
  exact (HasL.rev l).append (zC.mpr ⟨v,[],rfl,q,zL.mpr rfl⟩)
end
section
theorem zpF:∀ {l:List Addr} {H:Hp} {b:Addr} {u:HO},vw l H b = some u ↔ b ∉ l/\H b = some u
 | [],H,b,u=>by simp [vw]
 | a :: r,H,b,u=>by
  show hid a (vw r H) b = some u ↔ _
  by_cases h:b = a
  ·subst h; simp [zn5]
  ·rw [zse h,zpF]; simp [h]
def vx (h o:List Addr) (H:Hp):Hp:=vw (h ++ o) H
theorem zas {h o:List Addr} {H:Hp} {b:Addr} {u:HO}:vx h o H b = some u ↔ b ∉ h/\b ∉ o/\H b = some u:=by
 unfold vx
 rw [zpF]
 simp [and_assoc]
theorem zak {h o:List Addr} {H:Hp}:Same (vx h o H) H:=fun b u e=>(zas.mp e).2.2
theorem zdk {h o:List Addr} {H H':Hp} (s:Same H H'):Same (vx h o H) (vx h o H'):=fun b u e=>by
 obtain ⟨h1,h2,h3⟩:=zas.mp e
 exact zas.mpr ⟨h1,h2,s b u h3⟩
structure Ex (o:List Addr) (H:Hp) (o':List Addr) (H':Hp):Prop where
 pre:∃ r,o' = o ++ r
 kp:∀ b u,b ∉ o->H b = some u->b ∉ o'/\H' b = some u
section
variable {h o o' o'':List Addr} {H H' H'':Hp} {S:List (List PyData)} {p a:Addr}
theorem Ex.refl:Ex o H o H:=⟨⟨[],by simp⟩,fun _ _ a b=>⟨a,b⟩⟩
theorem Ex.trans (a:Ex o H o' H') (b:Ex o' H' o'' H''):Ex o H o'' H'':=by
 obtain ⟨⟨r,e⟩,ka⟩:=a
 obtain ⟨⟨t,e'⟩,kb⟩:=b
 refine ⟨⟨r ++ t,by rw [e',e,List.append_assoc]⟩,fun b u h1 h2=>?_⟩
 obtain ⟨h3,h4⟩:=ka b u h1 h2
 exact kb b u h3 h4
theorem Ex.vx (e:Ex o H o' H'):Same (L2.vx h o H) (L2.vx h o' H'):=fun b u q=>by
 obtain ⟨h1,h2,h3⟩:=zas.mp q
 obtain ⟨h4,h5⟩:=e.kp b u h2 h3
 exact zas.mpr ⟨h1,h4,h5⟩
structure ExH (h o:List Addr) (H:Hp) (o':List Addr) (H':Hp):Prop where
 pre:∃ r,o' = o ++ r
 kp:∀ b u,b ∉ h->b ∉ o->H b = some u->b ∉ o'/\H' b = some u
theorem Ex.hid (e:Ex o H o' H'):ExH h o H o' H':=⟨e.pre,fun b u _=>e.kp b u⟩
theorem ExH.refl:ExH h o H o H:=Ex.refl.hid
theorem ExH.trans (a:ExH h o H o' H') (b:ExH h o' H' o'' H''):ExH h o H o'' H'':=by
 obtain ⟨⟨r,e⟩,ka⟩:=a
 obtain ⟨⟨t,e'⟩,kb⟩:=b
 refine ⟨⟨r ++ t,by rw [e',e,List.append_assoc]⟩,fun b u h0 h1 h2=>?_⟩
 obtain ⟨h3,h4⟩:=ka b u h0 h1 h2
 exact kb b u h0 h3 h4
theorem ExH.vx (e:ExH h o H o' H'):Same (L2.vx h o H) (L2.vx h o' H'):=fun b u q=>by
 obtain ⟨h1,h2,h3⟩:=zas.mp q
 obtain ⟨h4,h5⟩:=e.kp b u h1 h2 h3
 exact zas.mpr ⟨h1,h4,h5⟩
theorem Ex.of_same (s:Same H H'):Ex o H o H':=⟨⟨[],by simp⟩,fun b u h e=>⟨h,s b u e⟩⟩
theorem zes {α:Type} {l t:List α} {k:Nat} {a:α} (q:l[k]? = some a):(l ++ t)[k]? = some a:=by
 obtain ⟨hk,_⟩:=List.getElem?_eq_some_iff.mp q
 rw [List.getElem?_append_left hk]
 exact q
def exO (a C:Addr) (d:Option Addr):HO:=.ext fun h=>∃ o,h.get? a = some o/\o.cls = .ref C/\o.dict = d/\∃ vs,o.data = .fields vs
def xw (dx:Addr) (fs:List (Str × V)):HO:=.ext fun h=>∃ mA,h.Ns1 dx mA/\(∀ f,RelO (fs.lookup f) (mA f))/\PySem.Within mA (fs.map (·.1))
def HasE (H:Hp) (C:Addr) (fs:List (Str × PyData)) (v:V):Prop:=∃ a d,v = .ref a/\H a = some (exO a C d)/\∀ f dt,fs.lookup f = some dt->∃ dx vs u,d = some dx/\H dx = some (xw dx vs)/\vs.lookup f = some u/\Has H dt u
theorem HasE.mono {H H':Hp} {C:Addr} {fs:List (Str × PyData)} {v:V} (s:Same H H') (q:HasE H C fs v):HasE H' C fs v:=by
 obtain ⟨a,d,e,ha,hf⟩:=q
 refine ⟨a,d,e,s _ _ ha,fun f dt l=>?_⟩
 obtain ⟨dx,vs,u,e1,e2,e3,e4⟩:=hf f dt l
 exact ⟨dx,vs,u,e1,s _ _ e2,e3,Has.mono s _ _ e4⟩
inductive XV where
 | d (d:PyData)
 | l (k:Nat)
 | o (v:V)
 | x (C:Addr) (fs:List (Str × PyData))
def HasX (h o:List Addr) (H:Hp):XV->V->Prop
 | .d d,v=>Has (vx h o H) d v
 | .l k,v=>∃ a,o[k]? = some a/\v = .ref a
 | .o w,v=>v = w
 | .x C fs,v=>HasE (vx h o H) C fs v
theorem HasX.mono (e:Ex o H o' H'):∀ {x:XV} {v:V},HasX h o H x v->HasX h o' H' x v
 | .d d,v,q=>Has.mono e.vx d v q
 | .l k,v,⟨a,q,r⟩=>by
  obtain ⟨t,rfl⟩:=e.pre
  exact ⟨a,zes q,r⟩
 | .o w,v,q=>q
 | .x C fs,v,q=>HasE.mono e.vx q
def HasXs (h o:List Addr) (H:Hp):List XV->List V->Prop
 | [],vs=>vs = []
 | x :: xs,vs=>∃ v r,vs = v :: r/\HasX h o H x v/\HasXs h o H xs r
abbrev Sto:=List (List PyData)
inductive MO where
 | l (vs:List V)
 | k (m:List (Key × V))
 | t (m:List (List Key × V))
def MO.ho:MO->HO
 | .l vs=>.lst vs
 | .k m=>.dK m
 | .t m=>.dT m
structure RepS (h o:List Addr) (H:Hp) (S:Sto):Prop where
 len:S.length = o.length
 nd:o.Nodup
 dis:∀ a ∈ o,a ∉ h
 hal:∀ b ∈ h,∃ u:MO,H b = some u.ho
 cont:∀ (k:Nat) (a:Addr) (ds:List PyData),o[k]? = some a->S[k]? = some ds->∃ vs,H a = some (.lst vs)/\HasL (vx h o H) ds vs
theorem zoG {α β:Type} {l:List α} {t:List β} {k:Nat} {a:α} (hl:t.length = l.length) (q:l[k]? = some a):∃ b,t[k]? = some b:=by
 obtain ⟨hk,_⟩:=List.getElem?_eq_some_iff.mp q
 exact ⟨t[k]'(by omega),List.getElem?_eq_getElem _⟩
theorem RepS.oal (r:RepS h o H S):∀ a ∈ o,∃ u,H a = some (.lst u):=fun a ha=>by
 obtain ⟨k,hk⟩:=List.mem_iff_getElem?.mp ha
 obtain ⟨ds,e⟩:=zoG r.len hk
 obtain ⟨vs,e',_⟩:=r.cont k a ds hk e
 exact ⟨_,e'⟩
theorem RepS.oam (r:RepS h o H S):∀ a ∈ o,∃ u:MO,H a = some u.ho:=fun a ha=>let ⟨u,e⟩:=r.oal a ha; ⟨.l u,e⟩
theorem RepS.fresh (r:RepS h o H S) (hp:H p = none):p ∉ h/\p ∉ o:=by
 constructor
 ·intro m
  obtain ⟨u,e⟩:=r.hal p m
  rw [hp] at e
  cases e
 ·intro m
  obtain ⟨u,e⟩:=r.oal p m
  rw [hp] at e
  cases e
theorem RepS.same (r:RepS h o H S) (s:Same H H'):RepS h o H' S where
 len:=r.len
 nd:=r.nd
 dis:=r.dis
 hal:=fun b m=>by obtain ⟨u,e⟩:=r.hal b m; exact ⟨u,s b _ e⟩
 cont:=fun k a ds e1 e2=>by
  obtain ⟨vs,e3,l⟩:=r.cont k a ds e1 e2
  exact ⟨vs,s _ _ e3,HasL.mono (zdk s) _ _ l⟩
theorem RepS.laid {u:HO} (r:RepS h o H S) (hp:H p = none):vx h o (upd H p u) p = some u:=by
 obtain ⟨h1,h2⟩:=r.fresh hp
 exact zas.mpr ⟨h1,h2,zag⟩
theorem Ex.new {u:HO} (r:RepS h o H S) (hp:H p = none):Ex o H (o ++ [p]) (upd H p u):=by
 refine ⟨⟨[p],rfl⟩,fun b w hb e=>?_⟩
 have ne:b ≠ p:=zac e hp
 exact ⟨by simp [hb,ne],by rw [zY ne]; exact e⟩
theorem zcL {α:Type} {l:List α} {a:α} (h:l.Nodup) (n:a ∉ l):(l ++ [a]).Nodup:=by
 rw [List.nodup_append]
 refine ⟨h,by simp,fun x hx y hy e=>?_⟩
 rw [List.mem_singleton] at hy
 subst hy
 subst e
 exact n hx
theorem RepS.new {ds:List PyData} {vs:List V} (r:RepS h o H S) (hp:H p = none) (l:HasL (vx h o H) ds vs):RepS h (o ++ [p]) (upd H p (.lst vs)) (S ++ [ds]):=by
 obtain ⟨h1,h2⟩:=r.fresh hp
 have ex:Ex o H (o ++ [p]) (upd H p (.lst vs)):=Ex.new r hp
 refine ⟨by simp [r.len],zcL r.nd h2,fun a ha=>?_,fun b hb=>?_,fun k a es e1 e2=>?_⟩
 ·rcases List.mem_append.mp ha with ha | ha
  ·exact r.dis a ha
  ·rw [List.mem_singleton.mp ha]; exact h1
 ·obtain ⟨u,e⟩:=r.hal b hb
  exact ⟨u,by rw [zY (zac e hp)]; exact e⟩
 ·by_cases hk:k < o.length
  ·rw [List.getElem?_append_left hk] at e1
   rw [List.getElem?_append_left (by rw [r.len]; exact hk)] at e2
   obtain ⟨ws,e3,l3⟩:=r.cont k a es e1 e2
   refine ⟨ws,?_,l3.mono ex.vx⟩
   rw [zY (zac e3 hp)]
   exact e3
  ·have hk':k = o.length:=by
    obtain ⟨q,_⟩:=List.getElem?_eq_some_iff.mp e1
    rw [List.length_append,List.length_singleton] at q
    omega
   subst hk'
   rw [List.getElem?_concat_length] at e1
   rw [<- r.len,List.getElem?_concat_length] at e2
   cases e1
   cases e2
   exact ⟨vs,zag,l.mono ex.vx⟩
theorem Ex.upd {k:Nat} {u:HO} (e:o[k]? = some a):Ex o H o (L2.upd H a u) :=
 ⟨⟨[],by simp⟩,fun b w hb eb=>⟨hb,by rw [zY (fun z=>hb (by rw [z]; exact List.mem_of_getElem? e))]; exact eb⟩⟩
theorem zeF {l:List Addr} (h:l.Nodup) {i j:Nat} {a:Addr} (e1:l[i]? = some a) (e2:l[j]? = some a):i = j:=by
 obtain ⟨hi,e1⟩:=List.getElem?_eq_some_iff.mp e1
 obtain ⟨hj,e2⟩:=List.getElem?_eq_some_iff.mp e2
 exact (List.getElem_inj h).mp (e1.trans e2.symm)
theorem RepS.upd {k:Nat} {ds:List PyData} {vs:List V} (r:RepS h o H S) (e:o[k]? = some a) (l:HasL (vx h o H) ds vs):RepS h o (L2.upd H a (.lst vs)) (S.set k ds):=by
 have ex:Ex o H o (L2.upd H a (.lst vs)):=Ex.upd e
 refine ⟨by simp [r.len],r.nd,r.dis,fun b hb=>?_,fun j b es e1 e2=>?_⟩
 ·obtain ⟨u,eb⟩:=r.hal b hb
  have ne:b ≠ a:=fun z=>r.dis a (List.mem_of_getElem? e) (z ▸ hb)
  exact ⟨u,by rw [zY ne]; exact eb⟩
 ·by_cases hj:j = k
  ·subst hj
   rw [e1] at e
   cases e
   obtain ⟨hk,_⟩:=List.getElem?_eq_some_iff.mp e1
   rw [List.getElem?_set_self (by rw [r.len]; exact hk)] at e2
   cases e2
   exact ⟨vs,zag,l.mono ex.vx⟩
  ·rw [List.getElem?_set_ne (Ne.symm hj)] at e2
   obtain ⟨ws,e3,l3⟩:=r.cont j b es e1 e2
   have ne:b ≠ a:=fun z=>hj (zeF r.nd e1 (z ▸ e))
   exact ⟨ws,by rw [zY ne]; exact e3,l3.mono ex.vx⟩
abbrev XE:=List (Option XV)
structure RepE (h o:List Addr) (H:Hp) (δ:XE) (σ:St):Prop where
 len:δ.length = σ.length
 get:∀ (i:Nat) x,δ[i]? = some (some x)->∃ v,σ[i]? = some (some v)/\HasX h o H x v
variable {δ:XE} {σ:St}
theorem RepE.mono (r:RepE h o H δ σ) (e:Ex o H o' H'):RepE h o' H' δ σ:=⟨r.len,fun i x q=>by
 obtain ⟨v,e1,e2⟩:=r.get i x q
 exact ⟨v,e1,e2.mono e⟩⟩
theorem RepE.set {i:Nat} {x:XV} {v:V} (r:RepE h o H δ σ) (q:HasX h o H x v):RepE h o H (δ.set i (some x)) (σ.set i (some v)):=by
 refine ⟨by simp [r.len],fun j y e=>?_⟩
 rw [List.getElem?_set] at e ⊢
 by_cases hij:i = j
 ·rw [if_pos hij] at e ⊢
  by_cases hl:i < δ.length
  ·rw [if_pos hl] at e
   rw [if_pos (by rw [<- r.len]; exact hl)]
   cases e
   exact ⟨v,rfl,q⟩
  ·rw [if_neg hl] at e
   cases e
 ·rw [if_neg hij] at e ⊢
  exact r.get j y e
def zpT (caps:List (Option Nat)) (δ:XE):XE:=caps.map fun o=>o.bind fun i=>(δ[i]?).join
theorem RepE.tau {caps:List (Option Nat)} (r:RepE h o H δ σ):RepE h o H (zpT caps δ) (L2.tau caps σ):=by
 refine ⟨by simp [zpT,L2.tau],fun i x e=>?_⟩
 unfold zpT at e
 unfold L2.tau
 rw [List.getElem?_map] at e ⊢
 cases hc:caps[i]? with
 | none=>rw [hc] at e; cases e
 | some c =>
  rw [hc] at e
  cases c with
  | none=>cases e
  | some j =>
   have e':(δ[j]?).join = some x:=by simpa using e
   have e2:δ[j]? = some (some x):=by
    cases hd:δ[j]? with
    | none=>rw [hd] at e'; cases e'
    | some y=>rw [hd] at e'; exact congrArg some (by simpa using e')
   obtain ⟨v,e3,e4⟩:=r.get j x e2
   exact ⟨v,by simp [e3],e4⟩
end
abbrev RX:=XV->Sto->Prop
abbrev DE:=XE->Sto->RX->Prop
abbrev DT:=XE->Sto->(Bool->Sto->Prop)->Prop
abbrev DA:=XE->Sto->(List XV->Sto->Prop)->Prop
abbrev D2:=XV->XV->Sto->RX->Prop
def Cn (h o:List Addr) (H:Hp) (R:RX) (Q:VK):Prop:=∀ o' H' S' x v,Ex o H o' H'->RepS h o' H' S'->HasX h o' H' x v->R x S'->Q v H'
theorem Cn.pre {h o o':List Addr} {H H':Hp} {R:RX} {Q:VK} (c:Cn h o H R Q) (e:Ex o H o' H'):Cn h o' H' R Q:=fun o2 H2 S2 x v e2=>c o2 H2 S2 x v (e.trans e2)
def RE (t:TE) (dt:DE):Prop:=∀ (h o:List Addr) (H:Hp) (δ:XE) (σ:St) (S:Sto) (R:RX) (Q:VK),RepE h o H δ σ->RepS h o H S->dt δ S R->Cn h o H R Q->t σ H Q
def RT (t:TT) (dt:DT):Prop:=∀ (h o:List Addr) (H:Hp) (δ:XE) (σ:St) (S:Sto) (R:Bool->Sto->Prop) (Q:Bool->Hp->Prop),RepE h o H δ σ->RepS h o H S->dt δ S R ->
 (∀ o' H' S' b,Ex o H o' H'->RepS h o' H' S'->R b S'->Q b H')->t σ H Q
def RA (t:TA) (dt:DA):Prop:=∀ (h o:List Addr) (H:Hp) (δ:XE) (σ:St) (S:Sto) (R:List XV->Sto->Prop) (Q:List V->Hp->Prop),RepE h o H δ σ->RepS h o H S->dt δ S R ->
 (∀ o' H' S' xs vs,Ex o H o' H'->RepS h o' H' S'->HasXs h o' H' xs vs->R xs S'->Q vs H')->t σ H Q
def RO (r:R2) (rd:D2):Prop:=∀ (h o:List Addr) (H:Hp) (S:Sto) (x y:XV) (v u:V) (R:RX) (Q:VK),RepS h o H S->HasX h o H x v->HasX h o H y u->rd x y S R->Cn h o H R Q->r v u H Q
def RU (r:V->Hp->VK->Prop) (rd:XV->Sto->RX->Prop):Prop:=∀ (h o:List Addr) (H:Hp) (S:Sto) (x:XV) (v:V) (R:RX) (Q:VK),RepS h o H S->HasX h o H x v->rd x S R->Cn h o H R Q->r v H Q
def RC (r:List V->Hp->VK->Prop) (rd:List XV->Sto->RX->Prop):Prop:=∀ (h o:List Addr) (H:Hp) (S:Sto) (xs:List XV) (vs:List V) (R:RX) (Q:VK),RepS h o H S->HasXs h o H xs vs->rd xs S R->Cn h o H R Q->r vs H Q
def asI:XV->(Int->Prop)->Prop
 | .d (.int i),k=>k i
 | _,_=>False
def asB:XV->(Bool->Prop)->Prop
 | .d (.bool i),k=>k i
 | _,_=>False
def asS:XV->(Str->Prop)->Prop
 | .d (.str i),k=>k i
 | _,_=>False
def asT:XV->(List PyData->Prop)->Prop
 | .d (.tuple i),k=>k i
 | _,_=>False
def znE (S:Sto):XV->Option (List PyData)
 | .d (.list ds)=>some ds
 | .l k=>S[k]?
 | _=>none
def asL (S:Sto) (x:XV) (k:List PyData->Prop):Prop:=∃ ds,znE S x = some ds/\k ds
def zfS (S:Sto):XV->Option PyData
 | .d d=>some d
 | .l k=>(S[k]?).map .list
 | .o _=>none
 | .x _ _=>none
def asD (x:XV) (k:PyData->Prop):Prop:=match x with
 | .d d=>k d
 | _=>False
theorem zba {x:XV} {k:Int->Prop} (h:asI x k):∃ i,x = .d (.int i)/\k i:=by
 unfold asI at h
 split at h
 ·exact ⟨_,rfl,h⟩
 ·exact h.elim
theorem ziX {x:XV} {k:Bool->Prop} (h:asB x k):∃ i,x = .d (.bool i)/\k i:=by
 unfold asB at h
 split at h
 ·exact ⟨_,rfl,h⟩
 ·exact h.elim
theorem zlI {x:XV} {k:Str->Prop} (h:asS x k):∃ i,x = .d (.str i)/\k i:=by
 unfold asS at h
 split at h
 ·exact ⟨_,rfl,h⟩
 ·exact h.elim
theorem zdr {x:XV} {k:List PyData->Prop} (h:asT x k):∃ i,x = .d (.tuple i)/\k i:=by
 unfold asT at h
 split at h
 ·exact ⟨_,rfl,h⟩
 ·exact h.elim
theorem zeU {x:XV} {k:PyData->Prop} (h:asD x k):∃ i,x = .d i/\k i:=by
 unfold asD at h
 split at h
 ·exact ⟨_,rfl,h⟩
 ·exact h.elim
section
variable {h o:List Addr} {H:Hp} {S:Sto} {x:XV} {v:V} {i:Int} {b:Bool} {z:Str} {ds:List PyData} {d:PyData}
theorem zaV (q:HasX h o H (.d (.int i)) v):v = .int i:=(zbU (H:=vx h o H)).mp q
theorem zet (q:HasX h o H (.d (.bool b)) v):v = .bl b:=(zeB (H:=vx h o H)).mp q
theorem zdH (q:HasX h o H (.d (.str z)) v):v = .str z:=(zdF (H:=vx h o H)).mp q
theorem zcg (q:HasX h o H (.d (.tuple ds)) v):∃ a vs,v = .ref a/\H a = some (.tup vs)/\HasL (vx h o H) ds vs:=by
 obtain ⟨a,vs,e,q,l⟩:=zaB.mp (show Has _ _ _ from q)
 exact ⟨a,vs,e,zak _ _ q,l⟩
theorem zbC (r:RepS h o H S) (e:znE S x = some ds) (q:HasX h o H x v):∃ a vs,v = .ref a/\H a = some (.lst vs)/\HasL (vx h o H) ds vs:=by
 unfold znE at e
 split at e
 ·cases e
  obtain ⟨a,vs,e,q,l⟩:=zbH.mp (show Has _ _ _ from q)
  exact ⟨a,vs,e,zak _ _ q,l⟩
 ·obtain ⟨a,e1,rfl⟩:=q
  obtain ⟨vs,e2,l⟩:=r.cont _ a ds e1 e
  exact ⟨a,vs,rfl,e2,l⟩
 ·cases e
theorem zcX (r:RepS h o H S) (e:zfS S x = some d) (q:HasX h o H x v):Has H d v:=by
 unfold zfS at e
 split at e
 ·cases e
  exact Has.mono zak _ _ q
 ·rename_i k
  obtain ⟨a,e1,rfl⟩:=q
  cases hs:S[k]? with
  | none=>rw [hs] at e; cases e
  | some es =>
   rw [hs] at e
   cases e
   obtain ⟨vs,e2,l⟩:=r.cont k a es e1 hs
   exact zbH.mpr ⟨a,vs,rfl,e2,HasL.mono zak _ _ l⟩
 ·cases e
 ·cases e
theorem xI (i:Int):HasX h o H (.d (.int i)) (.int i):=(zbU (H:=vx h o H)).mpr rfl
theorem xB (i:Bool):HasX h o H (.d (.bool i)) (.bl i):=(zeB (H:=vx h o H)).mpr rfl
theorem xS (i:Str):HasX h o H (.d (.str i)) (.str i):=(zdF (H:=vx h o H)).mpr rfl
theorem xN:HasX h o H (.d .none) .non:=(zfw (H:=vx h o H)).mpr rfl
theorem znB {vs:List V} {R:RX} {Q:VK} (r:RepS h o H S) (l:HasL (vx h o H) ds vs) (c:Cn h o H R Q) (q:R (.d (.tuple ds)) S):∀ p,H p = none->Q (.ref p) (upd H p (.tup vs)):=fun p hp =>
 c o _ S (.d (.tuple ds)) _ (Ex.of_same (Same.laid hp)) (r.same (Same.laid hp)) (zaB.mpr ⟨p,vs,rfl,r.laid hp,l.mono (zdk (Same.laid hp))⟩) q
theorem zmd {vs:List V} {R:RX} {Q:VK} (r:RepS h o H S) (l:HasL (vx h o H) ds vs) (c:Cn h o H R Q) (q:R (.d (.list ds)) S):∀ p,H p = none->Q (.ref p) (upd H p (.lst vs)):=fun p hp =>
 c o _ S (.d (.list ds)) _ (Ex.of_same (Same.laid hp)) (r.same (Same.laid hp)) (zbH.mpr ⟨p,vs,rfl,r.laid hp,l.mono (zdk (Same.laid hp))⟩) q
theorem zrc {vs:List V} {R:RX} {Q:VK} (r:RepS h o H S) (l:HasL (vx h o H) ds vs) (c:Cn h o H R Q) (q:R (.l S.length) (S ++ [ds])):∀ p,H p = none->Q (.ref p) (upd H p (.lst vs)):=fun p hp =>
 c (o ++ [p]) _ (S ++ [ds]) (.l S.length) _ (Ex.new r hp) (r.new hp l) ⟨p,by rw [r.len,List.getElem?_concat_length],rfl⟩ q
theorem zfB:∀ {xs:List XV} {vs:List V} {ds:List PyData},HasXs h o H xs vs->xs = ds.map XV.d->HasL (vx h o H) ds vs
 | [],vs,[],q,_=>zL.mpr q
 | x :: xs,vs,d :: ds,⟨v,r,e,q,l⟩,e2=>by
  rw [List.map_cons] at e2
  cases e2
  exact zC.mpr ⟨v,r,e,q,zfB l rfl⟩
 | x :: xs,vs,[],_,e2=>by cases e2
 | [],vs,d :: ds,_,e2=>by cases e2
end
def datas:List XV->Option (List PyData)
 | []=>some []
 | .d d :: r=>(datas r).map (d :: ·)
 | _ :: _=>none
theorem zc3:∀ {xs:List XV} {ds:List PyData},datas xs = some ds->xs = ds.map XV.d
 | [],ds,e=>by cases e; rfl
 | .d d :: r,ds,e=>by
  unfold datas at e
  cases hr:datas r with
  | none=>rw [hr] at e; cases e
  | some es =>
   rw [hr] at e
   cases e
   rw [zc3 hr]
   rfl
 | .l _ :: _,_,e=>by cases e
 | .o _ :: _,_,e=>by cases e
 | .x _ _ :: _,_,e=>by cases e
def zn (i:Nat):DE:=fun δ S R=>∃ x,δ[i]? = some (some x)/\R x S
def dC (d:PyData):DE:=fun _ S R=>R (.d d) S
def dO (v:V):DE:=fun _ S R=>R (.o v) S
def dOp (rd:D2) (a b:DE):DE:=fun δ S R=>a δ S fun x S1=>b δ S1 fun y S2=>rd x y S2 R
def dUn (rd:XV->Sto->RX->Prop) (a:DE):DE:=fun δ S R=>a δ S fun x S1=>rd x S1 R
def zB:DA:=fun _ S R=>R [] S
def ze (a:DE) (b:DA):DA:=fun δ S R=>a δ S fun x S1=>b δ S1 fun xs S2=>R (x :: xs) S2
def dCB (rd:List XV->Sto->RX->Prop) (a:DA):DE:=fun δ S R=>a δ S fun xs S1=>rd xs S1 R
def zg8 (a:DA):DE:=fun δ S R=>a δ S fun xs S1=>∃ ds,datas xs = some ds/\ds.length <= 1000/\R (.d (.tuple ds)) S1
def zfe (a:DA):DE:=fun δ S R=>a δ S fun xs S1=>∃ ds,datas xs = some ds/\ds.length <= 1000/\R (.d (.list ds)) S1
def ze5 (a:DA):DE:=fun δ S R=>a δ S fun xs S1=>∃ ds,datas xs = some ds/\ds.length <= 1000/\R (.l S1.length) (S1 ++ [ds])
section
variable {t ta tb tc:TE} {da db dc:DE} {tl:TA} {dl:DA} {tt tu:TT} {dt du:DT}
theorem zd {i:Nat}:RE (znG i) (zn i):=fun h o H δ σ S R Q he hs ⟨x,e,q⟩ c=>by
 obtain ⟨v,e1,e2⟩:=he.get i x e
 exact ⟨v,e1,c o H S x v Ex.refl hs e2 q⟩
theorem zg {i:Int}:RE (tC (.int i)) (dC (.int i)):=fun h o H δ σ S R Q he hs q c=>c o H S _ _ Ex.refl hs (xI i) q
theorem zh9 {i:Bool}:RE (tC (.bl i)) (dC (.bool i)):=fun h o H δ σ S R Q he hs q c=>c o H S _ _ Ex.refl hs (xB i) q
theorem zd1 {i:Str}:RE (tC (.str i)) (dC (.str i)):=fun h o H δ σ S R Q he hs q c=>c o H S _ _ Ex.refl hs (xS i) q
theorem ztn {v:V}:RE (tC v) (dO v):=fun h o H δ σ S R Q he hs q c=>c o H S (.o v) v Ex.refl hs rfl q
theorem zp {r:R2} {rd:D2} (hr:RO r rd) (ha:RE ta da) (hb:RE tb db):RE (tOp r ta tb) (dOp rd da db):=fun h o H δ σ S R Q he hs q c =>
 ha h o H δ σ S _ _ he hs q fun o1 H1 S1 x v e1 s1 x1 d1=>hb h o1 H1 δ σ S1 _ _ (he.mono e1) s1 d1 fun o2 H2 S2 y u e2 s2 y2 d2 =>
  hr h o2 H2 S2 x y v u R Q s2 (x1.mono e2) y2 d2 (c.pre (e1.trans e2))
theorem zeT {r:V->Hp->VK->Prop} {rd:XV->Sto->RX->Prop} (hr:RU r rd) (ha:RE ta da):RE (tUn r ta) (dUn rd da):=fun h o H δ σ S R Q he hs q c =>
 ha h o H δ σ S _ _ he hs q fun o1 H1 S1 x v e1 s1 x1 d1=>hr h o1 H1 S1 x v R Q s1 x1 d1 (c.pre e1)
theorem zh:RA zq8 zB:=fun h o H δ σ S R Q he hs q c=>c o H S [] [] Ex.refl hs rfl q
theorem za (ha:RE ta da) (hb:RA tl dl):RA (zk5 ta tl) (ze da dl):=fun h o H δ σ S R Q he hs q c =>
 ha h o H δ σ S _ _ he hs q fun o1 H1 S1 x v e1 s1 x1 d1=>hb h o1 H1 δ σ S1 _ _ (he.mono e1) s1 d1 fun o2 H2 S2 xs vs e2 s2 x2 d2 =>
  c o2 H2 S2 (x :: xs) (v :: vs) (e1.trans e2) s2 ⟨v,vs,rfl,x1.mono e2,x2⟩ d2
theorem zaR {r:List V->Hp->VK->Prop} {rd:List XV->Sto->RX->Prop} (hr:RC r rd) (ha:RA tl dl):RE (tCB r tl) (dCB rd dl):=fun h o H δ σ S R Q he hs q c =>
 ha h o H δ σ S _ _ he hs q fun o1 H1 S1 xs vs e1 s1 x1 d1=>hr h o1 H1 S1 xs vs R Q s1 x1 d1 (c.pre e1)
theorem zcB (ha:RA tl dl):RE (ztH tl) (zg8 dl):=fun h o H δ σ S R Q he hs q c =>
 ha h o H δ σ S _ _ he hs q fun o1 H1 S1 xs vs e1 s1 x1 ⟨ds,e,hl,d1⟩=>by
  have l:=zfB x1 (zc3 e)
  exact ⟨by rw [l.length]; exact Nat.le_of_lt (small1000 hl),znB s1 l (c.pre e1) d1⟩
theorem za6 (ha:RA tl dl):RE (zqi tl) (zfe dl):=fun h o H δ σ S R Q he hs q c =>
 ha h o H δ σ S _ _ he hs q fun o1 H1 S1 xs vs e1 s1 x1 ⟨ds,e,hl,d1⟩=>by
  have l:=zfB x1 (zc3 e)
  exact ⟨by rw [l.length]; exact Nat.le_of_lt (small1000 hl),zmd s1 l (c.pre e1) d1⟩
theorem zdx (ha:RA tl dl):RE (zqi tl) (ze5 dl):=fun h o H δ σ S R Q he hs q c =>
 ha h o H δ σ S _ _ he hs q fun o1 H1 S1 xs vs e1 s1 x1 ⟨ds,e,hl,d1⟩=>by
  have l:=zfB x1 (zc3 e)
  exact ⟨by rw [l.length]; exact Nat.le_of_lt (small1000 hl),zrc s1 l (c.pre e1) d1⟩
def dB (a:DE):DT:=fun δ S R=>a δ S fun x S1=>asB x fun b=>R b S1
def zl7 (a:DT):DT:=fun δ S R=>a δ S fun b S1=>R (!b) S1
def zpu (a b:DT):DT:=fun δ S R=>a δ S fun x S1=>if x = true then b δ S1 R else R false S1
def dOr (a b:DT):DT:=fun δ S R=>a δ S fun x S1=>if x = true then R true S1 else b δ S1 R
def zk4 (a b:DE):DE:=fun δ S R=>a δ S fun x S1=>asB x fun c=>if c = true then b δ S1 R else R (.d (.bool false)) S1
def ztx (a b:DE):DE:=fun δ S R=>a δ S fun x S1=>asB x fun c=>if c = true then R (.d (.bool true)) S1 else b δ S1 R
def znJ (a:DE):DE:=fun δ S R=>a δ S fun x S1=>asB x fun c=>R (.d (.bool (!c))) S1
def dIf (c:DT) (a b:DE):DE:=fun δ S R=>c δ S fun x S1=>if x = true then a δ S1 R else b δ S1 R
theorem zfd (ha:RE ta da):RT (zmi ta) (dB da):=fun h o H δ σ S R Q he hs q c =>
 ha h o H δ σ S _ _ he hs q fun o1 H1 S1 x v e1 s1 x1 d1=>by
  replace d1:=ziX d1
  obtain ⟨b,rfl,d1⟩:=d1
  exact ⟨b,zet x1,c o1 H1 S1 b e1 s1 d1⟩
theorem zfj (ha:RT tt dt):RT (ztu tt) (zl7 dt):=fun h o H δ σ S R Q he hs q c =>
 ha h o H δ σ S _ _ he hs q fun o1 H1 S1 b e1 s1 d1=>c o1 H1 S1 _ e1 s1 d1
theorem zh2 (ha:RT tt dt) (hb:RT tu du):RT (ztv tt tu) (zpu dt du):=fun h o H δ σ S R Q he hs q c =>
 ha h o H δ σ S _ _ he hs q fun o1 H1 S1 b e1 s1 d1=>by
  cases b with
  | true=>exact zoW (hb h o1 H1 δ σ S1 R Q (he.mono e1) s1 (by simpa using d1) fun o2 H2 S2 b e2=>c o2 H2 S2 b (e1.trans e2))
  | false=>exact zqc (c o1 H1 S1 false e1 s1 (by simpa using d1))
theorem zqE (ha:RT tt dt) (hb:RT tu du):RT (tOr tt tu) (dOr dt du):=fun h o H δ σ S R Q he hs q c =>
 ha h o H δ σ S _ _ he hs q fun o1 H1 S1 b e1 s1 d1=>by
  cases b with
  | false=>exact zqc (hb h o1 H1 δ σ S1 R Q (he.mono e1) s1 (by simpa using d1) fun o2 H2 S2 b e2=>c o2 H2 S2 b (e1.trans e2))
  | true=>exact zoW (c o1 H1 S1 true e1 s1 (by simpa using d1))
theorem zmR (ha:RE ta da) (hb:RE tb db):RE (zsk ta tb) (zk4 da db):=fun h o H δ σ S R Q he hs q c =>
 ha h o H δ σ S _ _ he hs q fun o1 H1 S1 x v e1 s1 x1 d1=>by
  replace d1:=ziX d1
  obtain ⟨b,rfl,d1⟩:=d1
  refine ⟨b,zet x1,?_⟩
  cases b with
  | true=>exact zoW (hb h o1 H1 δ σ S1 R Q (he.mono e1) s1 (by simpa using d1) (c.pre e1))
  | false=>exact zqc (c o1 H1 S1 _ _ e1 s1 (xB false) (by simpa using d1))
theorem zre (ha:RE ta da):RE (zsH ta) (znJ da):=fun h o H δ σ S R Q he hs q c =>
 ha h o H δ σ S _ _ he hs q fun o1 H1 S1 x v e1 s1 x1 d1=>by
  replace d1:=ziX d1
  obtain ⟨b,rfl,d1⟩:=d1
  exact ⟨b,zet x1,c o1 H1 S1 _ _ e1 s1 (xB _) d1⟩
def zdJ (rd rd':D2) (a b e:DE):DE:=fun δ S R=>a δ S fun x S1=>b δ S1 fun y S2=>rd x y S2 fun z S3=>asB z fun k=>if k = true then e δ S3 fun u S4=>rd' y u S4 R else R (.d (.bool false)) S3
theorem zcz {r r':R2} {rd rd':D2} (hr:RO r rd) (hr':RO r' rd') (ha:RE ta da) (hb:RE tb db) (hc:RE tc dc):RE (znz r r' ta tb tc) (zdJ rd rd' da db dc):=fun h o H δ σ S R Q he hs q c =>
 ha h o H δ σ S _ _ he hs q fun o1 H1 S1 x v e1 s1 x1 d1=>hb h o1 H1 δ σ S1 _ _ (he.mono e1) s1 d1 fun o2 H2 S2 y u e2 s2 y2 d2 =>
  hr h o2 H2 S2 x y v u _ _ s2 (x1.mono e2) y2 d2 fun o3 H3 S3 z w e3 s3 z3 d3=>by
   replace d3:=ziX d3
   obtain ⟨b,rfl,d3⟩:=d3
   refine ⟨b,zet z3,?_⟩
   cases b with
   | false=>exact zqc (c o3 H3 S3 _ _ ((e1.trans e2).trans e3) s3 (xB false) (by simpa using d3))
   | true=>exact zoW (hc h o3 H3 δ σ S3 _ _ (((he.mono e1).mono e2).mono e3) s3 (by simpa using d3) fun o4 H4 S4 k w' e4 s4 k4 d4=>hr' h o4 H4 S4 y k u w' R Q s4 ((y2.mono e3).mono e4) k4 d4 (c.pre (((e1.trans e2).trans e3).trans e4)))
end
def dI (C:Int->Int->Prop) (g:Int->Int->Int):D2:=fun x y S R=>asI x fun i=>asI y fun j=>C i j/\R (.d (.int (g i j))) S
def dI0 (g:Int->Int->Int):D2:=fun x y S R=>asI x fun i=>asI y fun j=>R (.d (.int (g i j))) S
def dIb (g:Int->Int->Bool):D2:=fun x y S R=>asI x fun i=>asI y fun j=>R (.d (.bool (g i j))) S
def dUI (g:Int->Int):XV->Sto->RX->Prop:=fun x S R=>asI x fun i=>R (.d (.int (g i))) S
def zi3:D2:=fun x y S R=>∃ d,zfS S x = some d/\∃ e,zfS S y = some e/\SeqAt.shaped d = true/\SeqAt.shaped e = true/\R (.d (.bool (PyData.eqv d e))) S
def zq1:D2:=fun x y S R=>∃ d,zfS S x = some d/\∃ e,zfS S y = some e/\SeqAt.shaped d = true/\SeqAt.shaped e = true/\R (.d (.bool (!PyData.eqv d e))) S
def ztP:D2:=fun x _ S R=>asD x fun d=>R (.d (.bool (zqw d))) S
def ztZ:D2:=fun x y S R=>asT x fun ds=>asI y fun i=>∃ d,atI ds i = some d/\R (.d d) S
def zt2:D2:=fun x y S R=>asL S x fun ds=>asI y fun i=>∃ d,atI ds i = some d/\R (.d d) S
def zua:D2:=fun x y S R=>asL S x fun ds=>asL S y fun es=>ds.length + es.length <= 1000/\R (.d (.list (ds ++ es))) S
def zs4:D2:=fun x y S R=>asT x fun ds=>asT y fun es=>ds ≠ []/\ds.length + es.length <= 1000/\R (.d (.tuple (ds ++ es))) S
section
theorem zhl {C:Int->Int->Prop} {g:Int->Int->Int}:RO (rI C fun i j=>.int (g i j)) (dI C g):=fun h o H S x y v u R Q hs hx hy q c=>by
 replace q:=zba q
 obtain ⟨i,rfl,q⟩:=q
 replace q:=zba q
 obtain ⟨j,rfl,hc,q⟩:=q
 exact ⟨i,j,zaV hx,zaV hy,hc,c o H S _ _ Ex.refl hs (xI _) q⟩
theorem zcm {g:Int->Int->Int}:RO (rI0 fun i j=>.int (g i j)) (dI0 g):=fun h o H S x y v u R Q hs hx hy q c=>by
 replace q:=zba q
 obtain ⟨i,rfl,q⟩:=q
 replace q:=zba q
 obtain ⟨j,rfl,q⟩:=q
 exact ⟨i,j,zaV hx,zaV hy,c o H S _ _ Ex.refl hs (xI _) q⟩
theorem zb2 {g:Int->Int->Bool}:RO (rI0 fun i j=>.bl (g i j)) (dIb g):=fun h o H S x y v u R Q hs hx hy q c=>by
 replace q:=zba q
 obtain ⟨i,rfl,q⟩:=q
 replace q:=zba q
 obtain ⟨j,rfl,q⟩:=q
 exact ⟨i,j,zaV hx,zaV hy,c o H S _ _ Ex.refl hs (xB _) q⟩
theorem zjC {g:Int->Int}:RU (rU fun i=>.int (g i)) (dUI g):=fun h o H S x v R Q hs hx q c=>by
 replace q:=zba q
 obtain ⟨i,rfl,q⟩:=q
 exact ⟨i,zaV hx,c o H S _ _ Ex.refl hs (xI _) q⟩
theorem zd5:RO ztV zi3:=fun h o H S x y v u R Q hs hx hy q c=>by
 obtain ⟨d,q1,e,q2,q3,q4,q⟩:=q
 exact ⟨d,e,zcX hs q1 hx,zcX hs q2 hy,q3,q4,c o H S _ _ Ex.refl hs (xB _) q⟩
theorem znx:RO ztI zq1:=fun h o H S x y v u R Q hs hx hy q c=>by
 obtain ⟨d,q1,e,q2,q3,q4,q⟩:=q
 exact ⟨d,e,zcX hs q1 hx,zcX hs q2 hy,q3,q4,c o H S _ _ Ex.refl hs (xB _) q⟩
theorem HasL.atI {H:Hp} {ds:List PyData} {vs:List V} {i:Int} {d:PyData} (l:HasL H ds vs) (e:L2.atI ds i = some d):∃ v,L2.atI vs i = some v/\Has H d v:=by
 unfold L2.atI at e ⊢
 rw [l.length]
 cases hn:ixN ds.length i with
 | none=>rw [hn] at e; cases e
 | some j =>
  rw [hn] at e
  exact l.get (show ds[j]? = some d from e)
theorem zrw {K:W.Frag}:RO (zs5 K) ztZ:=fun h o H S x y v u R Q hs hx hy q c=>by
 replace q:=zdr q
 obtain ⟨ds,rfl,q⟩:=q
 replace q:=zba q
 obtain ⟨i,rfl,d,e,q⟩:=q
 obtain ⟨a,vs,rfl,ea,l⟩:=zcg hx
 obtain ⟨w,ew,hw⟩:=l.atI e
 exact ⟨a,vs,i,w,rfl,zaV hy,.of ea,ew,c o H S (.d d) w Ex.refl hs hw q⟩
theorem zpc {K:W.Frag}:RO (ztj K) zt2:=fun h o H S x y v u R Q hs hx hy q c=>by
 obtain ⟨ds,e0,q⟩:=q
 replace q:=zba q
 obtain ⟨i,rfl,d,e,q⟩:=q
 obtain ⟨a,vs,rfl,ea,l⟩:=zbC hs e0 hx
 obtain ⟨w,ew,hw⟩:=l.atI e
 exact ⟨a,vs,i,w,rfl,zaV hy,.of ea,ew,c o H S (.d d) w Ex.refl hs hw q⟩
theorem zsL:RO zq9 zua:=fun h o H S x y v u R Q hs hx hy q c=>by
 obtain ⟨ds,e0,es,e1,hl,q⟩:=q
 obtain ⟨a,vs,rfl,ea,la⟩:=zbC hs e0 hx
 obtain ⟨b,us,rfl,eb,lb⟩:=zbC hs e1 hy
 exact ⟨a,b,vs,us,rfl,rfl,ea,eb,by rw [la.length,lb.length]; exact Nat.le_of_lt (small1000 hl),zmd hs (la.append lb) c q⟩
theorem zp1 {K:W.Frag}:RO (zp3 K) zs4:=fun h o H S x y v u R Q hs hx hy q c=>by
 replace q:=zdr q
 obtain ⟨ds,rfl,q⟩:=q
 replace q:=zdr q
 obtain ⟨es,rfl,hn,hl,q⟩:=q
 obtain ⟨a,vs,rfl,ea,la⟩:=zcg hx
 obtain ⟨b,us,rfl,eb,lb⟩:=zcg hy
 refine ⟨a,b,vs,us,rfl,rfl,.of ea,.of eb,fun z=>?_,by rw [la.length,lb.length]; exact Nat.le_of_lt (small1000 hl),fun z=>?_,fun _=>znB hs (la.append lb) c q⟩
 ·subst z
  have:=la.length
  exact hn (List.eq_nil_of_length_eq_zero this.symm)
 ·subst z
  have e:es = []:=List.eq_nil_of_length_eq_zero lb.length.symm
  subst e
  rw [List.append_nil] at q
  exact c o H S (.d (.tuple ds)) _ Ex.refl hs hx q
end
abbrev DO:=XE->Sto->(Option Int->Sto->Prop)->Prop
def RP (t:TO) (dt:DO):Prop:=∀ (h o:List Addr) (H:Hp) (δ:XE) (σ:St) (S:Sto) (R:Option Int->Sto->Prop) (Q:Option Int->Hp->Prop),RepE h o H δ σ->RepS h o H S->dt δ S R ->
 (∀ o' H' S' b,Ex o H o' H'->RepS h o' H' S'->R b S'->Q b H')->t σ H Q
def zbR:DO:=fun _ S R=>R none S
def zfs (a:DE):DO:=fun δ S R=>a δ S fun x S1=>asI x fun i=>R (some i) S1
theorem zfV:RP zmF zbR:=fun h o H δ σ S R Q he hs q c=>c o H S none Ex.refl hs q
theorem zgh {t:TE} {da:DE} (ha:RE t da):RP (zk1 t) (zfs da):=fun h o H δ σ S R Q he hs q c =>
 ha h o H δ σ S _ _ he hs q fun o1 H1 S1 x v e1 s1 x1 d1=>by
  replace d1:=zba d1
  obtain ⟨i,rfl,d1⟩:=d1
  exact ⟨i,zaV x1,c o1 H1 S1 _ e1 s1 d1⟩
abbrev D3:=XV->Option Int->Option Int->Sto->RX->Prop
def RL (r:V->Option Int->Option Int->Hp->VK->Prop) (rd:D3):Prop:=∀ (h o:List Addr) (H:Hp) (S:Sto) (x:XV) (v:V) (a b:Option Int) (R:RX) (Q:VK),RepS h o H S->HasX h o H x v->rd x a b S R->Cn h o H R Q->r v a b H Q
def dSl (rd:D3) (e:DE) (a b:DO):DE:=fun δ S R=>e δ S fun x S1=>a δ S1 fun i S2=>b δ S2 fun j S3=>rd x i j S3 R
theorem zmh {r:V->Option Int->Option Int->Hp->VK->Prop} {rd:D3} {te:TE} {de:DE} {ta tb:TO} {da db:DO} (hr:RL r rd) (he':RE te de) (ha:RP ta da) (hb:RP tb db):RE (tSl r te ta tb) (dSl rd de da db):=fun h o H δ σ S R Q he hs q c =>
 he' h o H δ σ S _ _ he hs q fun o1 H1 S1 x v e1 s1 x1 d1=>ha h o1 H1 δ σ S1 _ _ (he.mono e1) s1 d1 fun o2 H2 S2 i e2 s2 d2=>hb h o2 H2 δ σ S2 _ _ ((he.mono e1).mono e2) s2 d2 fun o3 H3 S3 j e3 s3 d3 =>
  hr h o3 H3 S3 x v i j R Q s3 ((x1.mono e2).mono e3) d3 (c.pre ((e1.trans e2).trans e3))
def zt9:D3:=fun x i j S R=>asL S x fun ds=>R (.d (.list (zeu ds i j))) S
def zub:D3:=fun x i j S R=>asT x fun ds=>¬ (HT.sIx ds.length 0 i = 0/\HT.sIx ds.length ds.length j = ds.length)/\R (.d (.tuple (zeu ds i j))) S
theorem zmw {K:W.Frag}:RL (zrU K) zt9:=fun h o H S x v a b R Q hs hx q c=>by
 obtain ⟨ds,e0,q⟩:=q
 obtain ⟨p,vs,rfl,ea,l⟩:=zbC hs e0 hx
 exact ⟨p,vs,rfl,.of ea,zmd hs (l.cut a b) c q⟩
theorem zsD {K:W.Frag}:RL (zs6 K) zub:=fun h o H S x v a b R Q hs hx q c=>by
 replace q:=zdr q
 obtain ⟨ds,rfl,hn,q⟩:=q
 obtain ⟨p,vs,rfl,ea,l⟩:=zcg hx
 exact ⟨p,vs,rfl,.of ea,by rw [l.length]; exact hn,znB hs (l.cut a b) c q⟩
def asQ (S:Sto):XV->Option (List PyData)
 | .d (.tuple ds)=>some ds
 | .d (.list ds)=>some ds
 | .l k=>S[k]?
 | _=>none
theorem zj0 {h o:List Addr} {H:Hp} {S:Sto} {x:XV} {v:V} {ds:List PyData} (r:RepS h o H S) (e:asQ S x = some ds) (q:HasX h o H x v):∃ a vs,v = .ref a/\(H a = some (.tup vs)\/H a = some (.lst vs))/\HasL (vx h o H) ds vs:=by
 unfold asQ at e
 split at e
 ·cases e
  obtain ⟨a,vs,e,q,l⟩:=zcg q
  exact ⟨a,vs,e,.inl q,l⟩
 ·cases e
  obtain ⟨a,vs,e,q,l⟩:=zbC (x:=.d (.list ds)) (ds:=ds) r rfl q
  exact ⟨a,vs,e,.inr q,l⟩
 ·rename_i k
  obtain ⟨a,vs,e,q,l⟩:=zbC (x:=.l k) r e q
  exact ⟨a,vs,e,.inr q,l⟩
 ·cases e
def arg1:List XV->(XV->Prop)->Prop
 | [x],k=>k x
 | _,_=>False
def arg2:List XV->(XV->XV->Prop)->Prop
 | [x,y],k=>k x y
 | _,_=>False
theorem zbf {xs:List XV} {k:XV->Prop} (h:arg1 xs k):∃ x,xs = [x]/\k x:=by
 unfold arg1 at h
 split at h
 ·exact ⟨_,rfl,h⟩
 ·exact h.elim
theorem zhe {xs:List XV} {k:XV->XV->Prop} (h:arg2 xs k):∃ x y,xs = [x,y]/\k x y:=by
 unfold arg2 at h
 split at h
 ·exact ⟨_,_,rfl,h⟩
 ·exact h.elim
theorem hxs1 {h o:List Addr} {H:Hp} {x:XV} {vs:List V} (q:HasXs h o H [x] vs):∃ v,vs = [v]/\HasX h o H x v:=by
 obtain ⟨v,r,e,hx,hr⟩:=q
 cases hr
 exact ⟨v,e,hx⟩
theorem hxs2 {h o:List Addr} {H:Hp} {x y:XV} {vs:List V} (q:HasXs h o H [x,y] vs):∃ v u,vs = [v,u]/\HasX h o H x v/\HasX h o H y u:=by
 obtain ⟨v,r,e,hx,q⟩:=q
 obtain ⟨u,e',hy⟩:=hxs1 q
 subst e'
 exact ⟨v,u,e,hx,hy⟩
def ztd:XV->(String->Prop)->Prop
 | .o v,k=>∃ c,v = .ty c/\k c
 | _,_=>False
def zs1:XV->(Int->Prop)->Prop
 | .d d,k=>match d with
  | .int i=>k i
  | .bool b=>k (if b then 1 else 0)
  | _=>False
 | _,_=>False
theorem zqn {x:XV} {k:String->Prop} (h:ztd x k):∃ c,x = .o (.ty c)/\k c:=by
 cases x with
 | o v =>
  obtain ⟨c,rfl,h⟩:=h
  exact ⟨c,rfl,h⟩
 | d d=>exact h.elim
 | l j=>exact h.elim
 | x _ _=>exact h.elim
theorem zqV {x:XV} {k:Int->Prop} (h:zs1 x k):(∃ i,x = .d (.int i)/\k i)\/∃ b,x = .d (.bool b)/\k (if b then 1 else 0):=by
 cases x with
 | d d =>
  cases d with
  | int i=>exact .inl ⟨i,rfl,h⟩
  | bool b=>exact .inr ⟨b,rfl,h⟩
  | _=>exact h.elim
 | _=>exact h.elim
def zt4:List XV->Sto->RX->Prop:=fun xs S R=>arg1 xs fun x=>∃ ds,asQ S x = some ds/\R (.d (.int ds.length)) S
theorem znk {K:W.Frag}:RC (ztm K) zt4:=fun h o H S xs vs R Q hs hx q c=>by
 obtain ⟨x,rfl,ds,hd,q1⟩:=zbf q
 obtain ⟨v,rfl,hx1⟩:=hxs1 hx
 obtain ⟨a,ws,rfl,ea,l⟩:=zj0 hs hd hx1
 refine ⟨a,ws,rfl,ea.elim (fun z=>.inr (.of z)) (fun z=>.inl (.of z)),?_⟩
 rw [l.length]
 exact c o H S _ _ Ex.refl hs (xI _) q1
def zq4:List XV->Sto->RX->Prop:=fun xs S R=>arg2 xs fun x y=>ztd y fun cl=>∃ d,zfS S x = some d/\cl ∈ zpL/\R (.d (.bool (zra d cl))) S
theorem zm4:RC ztq zq4:=fun h o H S xs vs R Q hs hx q c=>by
 obtain ⟨x,y,rfl,q1⟩:=zhe q
 obtain ⟨cl,rfl,d,hd,hc,q2⟩:=zqn q1
 obtain ⟨v,u,rfl,hx1,hu⟩:=hxs2 hx
 cases hu
 exact zp8 (zcX hs hd hx1) hc (c o H S _ _ Ex.refl hs (xB _) q2)
def znu:List XV->Sto->RX->Prop:=fun xs S R=>arg1 xs fun x=>zs1 x fun i=>R (.d (.int i)) S
theorem zpX:RC (fun xs H Q=>(∃ i,xs = [.int i]/\Q (.int i) H)\/∃ k,xs = [.bl k]/\Q (.int (if k then 1 else 0)) H) znu:=fun h o H S xs vs R Q hs hx q c=>by
 obtain ⟨x,rfl,q1⟩:=zbf q
 obtain ⟨v,rfl,hx1⟩:=hxs1 hx
 rcases zqV q1 with ⟨i,rfl,q2⟩ | ⟨b,rfl,q2⟩
 ·exact .inl ⟨_,by rw [zaV hx1],c o H S _ _ Ex.refl hs (xI _) q2⟩
 ·exact .inr ⟨_,by rw [zet hx1],c o H S _ _ Ex.refl hs (xI _) q2⟩
def dI2 (g:Int->Int->Int):List XV->Sto->RX->Prop:=fun xs S R=>arg2 xs fun x y=>asI x fun i=>asI y fun j=>R (.d (.int (g i j))) S
theorem zqy {g:Int->Int->Int}:RC (fun xs H Q=>∃ i j,xs = [.int i,.int j]/\Q (.int (g i j)) H) (dI2 g):=fun h o H S xs vs R Q hs hx q c=>by
 obtain ⟨x,y,rfl,q1⟩:=zhe q
 obtain ⟨v,u,rfl,hx1,hu⟩:=hxs2 hx
 obtain ⟨i,rfl,q2⟩:=zba q1
 obtain ⟨j,rfl,q3⟩:=zba q2
 exact ⟨i,j,by rw [zaV hx1,zaV hu],c o H S _ _ Ex.refl hs (xI _) q3⟩
def zf9:List XV->Sto->RX->Prop:=fun xs S R=>arg1 xs fun x=>∃ ds,asQ S x = some ds/\R (.d (.tuple ds)) S
theorem zfA {K:W.Frag}:RC (fun xs H Q=>∃ p ys,xs = [.ref p]/\((SqL K H p ys/\∀ l,H l = none->Q (.ref l) (upd H l (.tup ys)))\/(SqT K H p ys/\Q (.ref p) H))) zf9:=fun h o H S xs vs R Q hs hx q c=>by
 obtain ⟨x,rfl,ds,hd,q1⟩:=zbf q
 obtain ⟨v,rfl,hx1⟩:=hxs1 hx
 obtain ⟨a,ws,rfl,ea,l⟩:=zj0 hs hd hx1
 refine ⟨a,ws,rfl,ea.elim (fun z=>.inr ⟨.of z,?_⟩) (fun z=>.inl ⟨.of z,znB hs l c q1⟩)⟩
 have hh:HasX h o H (.d (.tuple ds)) (.ref a):=by
  unfold asQ at hd
  split at hd
  ·cases hd
   exact hx1
  ·obtain ⟨a',us,e1,e2,_⟩:=zbC (x:=.d (.list _)) hs rfl hx1
   cases e1
   rw [z] at e2
   cases e2
  ·rename_i k
   obtain ⟨a',us,e1,e2,_⟩:=zbC (x:=.l k) hs hd hx1
   cases e1
   rw [z] at e2
   cases e2
  ·cases hd
 exact c o H S _ _ Ex.refl hs hh q1
theorem zaP {H:Hp}:∀ {ns:List Int} {vs:List V},HasL H (ns.map PyData.int) vs->vs = ns.map V.int
 | [],vs,h=>zL.mp h
 | n :: ns,vs,h=>by
  obtain ⟨v,r,rfl,h1,h2⟩:=zC.mp h
  rw [zbU.mp h1,zaP h2]
  rfl
def ztF:List XV->Sto->RX->Prop:=fun xs S R=>arg1 xs fun x=>∃ ds,asQ S x = some ds/\∃ ns,ds = ns.map PyData.int/\ns ≠ []/\∀ m,m ∈ ns->(∀ a,a ∈ ns->m <= a)->R (.d (.int m)) S
def zq5:List XV->Sto->RX->Prop:=fun xs S R=>arg1 xs fun x=>∃ ds,asQ S x = some ds/\∃ ns,ds = ns.map PyData.int/\ns ≠ []/\∀ m,m ∈ ns->(∀ a,a ∈ ns->a <= m)->R (.d (.int m)) S
theorem zso {K:W.Frag}:RC (zs2 K) ztF:=fun h o H S xs vs R Q hs hx q c=>by
 obtain ⟨x,rfl,ds,hd,ns,rfl,hn,q1⟩:=zbf q
 obtain ⟨v,rfl,hx1⟩:=hxs1 hx
 obtain ⟨a,ws,rfl,ea,l⟩:=zj0 hs hd hx1
 rw [zaP l] at ea
 exact ⟨a,ns,rfl,ea.elim (fun z=>.inr (.of z)) (fun z=>.inl (.of z)),hn,fun m m1 m2=>c o H S _ _ Ex.refl hs (xI _) (q1 m m1 m2)⟩
theorem zoL {K:W.Frag}:RC (ztJ K) zq5:=fun h o H S xs vs R Q hs hx q c=>by
 obtain ⟨x,rfl,ds,hd,ns,rfl,hn,q1⟩:=zbf q
 obtain ⟨v,rfl,hx1⟩:=hxs1 hx
 obtain ⟨a,ws,rfl,ea,l⟩:=zj0 hs hd hx1
 rw [zaP l] at ea
 exact ⟨a,ns,rfl,ea.elim (fun z=>.inr (.of z)) (fun z=>.inl (.of z)),hn,fun m m1 m2=>c o H S _ _ Ex.refl hs (xI _) (q1 m m1 m2)⟩
def dBM (rd:XV->List XV->Sto->RX->Prop) (e:DE) (a:DA):DE:=fun δ S R=>e δ S fun x S1=>∃ k,x = .l k/\k < S1.length/\a δ S1 fun xs S2=>rd x xs S2 R
def zrb (rd:XV->List XV->Sto->RX->Prop) (e:DE):DE:=fun δ S R=>e δ S fun x S1=>∃ k,x = .l k/\k < S1.length/\rd x [] S1 R
def RM (r:V->List V->Hp->VK->Prop) (rd:XV->List XV->Sto->RX->Prop):Prop:=∀ (h o:List Addr) (H:Hp) (S:Sto) (x:XV) (v:V) (xs:List XV) (vs:List V) (R:RX) (Q:VK),RepS h o H S->HasX h o H x v->HasXs h o H xs vs->rd x xs S R->Cn h o H R Q->r v vs H Q
theorem zko {K:W.Frag} {H:Hp} {a:Addr} {vs:List V} (e:H a = some (.lst vs)):tyV K "list" (.ref a) H:=.inl ⟨rfl,vs,.of e⟩
theorem zpj {h o:List Addr} {H:Hp} {S:Sto} {k:Nat} {v:V} (hs:RepS h o H S) (hk:k < S.length) (hx:HasX h o H (.l k) v):∃ a vs,v = .ref a/\H a = some (.lst vs):=by
 obtain ⟨a,e,rfl⟩:=hx
 obtain ⟨vs,e2,_⟩:=hs.cont k a _ e (List.getElem?_eq_getElem hk)
 exact ⟨a,vs,rfl,e2⟩
theorem znn {K:W.Frag} {r:V->List V->Hp->VK->Prop} {rd:XV->List XV->Sto->RX->Prop} {te:TE} {de:DE} {tl:TA} {dl:DA} (hr:RM r rd) (he':RE te de) (ha:RA tl dl):RE (tBM K "list" r te tl) (dBM rd de dl):=fun h o H δ σ S R Q he hs q c =>
 he' h o H δ σ S _ _ he hs q fun o1 H1 S1 x v e1 s1 x1 ⟨k,ek,hk,d1⟩=>by
  subst ek
  obtain ⟨a,ws,rfl,ea⟩:=zpj s1 hk x1
  exact ⟨zko ea,ha h o1 H1 δ σ S1 _ _ (he.mono e1) s1 d1 fun o2 H2 S2 xs vs e2 s2 x2 d2=>hr h o2 H2 S2 (.l k) _ xs vs R Q s2 (x1.mono e2) x2 d2 (c.pre (e1.trans e2))⟩
theorem zpp {K:W.Frag} {r:V->List V->Hp->VK->Prop} {rd:XV->List XV->Sto->RX->Prop} {te:TE} {de:DE} (hr:RM r rd) (he':RE te de):RE (ztL K "list" r te) (zrb rd de):=fun h o H δ σ S R Q he hs q c =>
 he' h o H δ σ S _ _ he hs q fun o1 H1 S1 x v e1 s1 x1 ⟨k,ek,hk,d1⟩=>by
  subst ek
  obtain ⟨a,ws,rfl,ea⟩:=zpj s1 hk x1
  exact ⟨zko ea,hr h o1 H1 S1 (.l k) _ [] [] R Q s1 x1 rfl d1 (c.pre e1)⟩
def zdt:XV->List XV->Sto->RX->Prop:=fun x xs S R=>∃ k,x = .l k/\∃ ds,S[k]? = some ds/\arg1 xs fun y=>asD y fun d=>ds.length < 1000/\R (.d .none) (S.set k (ds ++ [d]))
theorem zdE:RM zmQ zdt:=fun h o H S x v xs vs R Q hs hx hxs q c=>by
 obtain ⟨k,rfl,ds,e,q1⟩:=q
 obtain ⟨y,rfl,q2⟩:=zbf q1
 obtain ⟨d,rfl,hl,q3⟩:=zeU q2
 obtain ⟨a,ea,rfl⟩:=hx
 obtain ⟨u,rfl,hu⟩:=hxs1 hxs
 obtain ⟨ws,ew,l⟩:=hs.cont k a ds ea e
 exact ⟨a,ws,u,rfl,rfl,ew,by rw [l.length]; exact small1000 (Nat.le_of_lt hl),c o _ _ (.d .none) _ (Ex.upd ea) (hs.upd ea (l.append (zC.mpr ⟨u,[],rfl,hu,zL.mpr rfl⟩))) xN q3⟩
def zdV:XV->List XV->Sto->RX->Prop:=fun x xs S R=>∃ k,x = .l k/\∃ ds,S[k]? = some ds/\xs = []/\R (.d .none) (S.set k ds.reverse)
theorem zgM:RM zj8 zdV:=fun h o H S x v xs vs R Q hs hx hxs q c=>by
 obtain ⟨k,rfl,ds,e,rfl,q1⟩:=q
 obtain ⟨a,ea,rfl⟩:=hx
 obtain ⟨ws,ew,l⟩:=hs.cont k a ds ea e
 cases hxs
 exact ⟨a,ws,rfl,rfl,ew,c o _ _ (.d .none) _ (Ex.upd ea) (hs.upd ea l.rev) xN q1⟩
def zmD:XV->List XV->Sto->RX->Prop:=fun x xs S R=>∃ k,x = .l k/\∃ ds,S[k]? = some ds/\arg1 xs fun y=>∃ es,znE S y = some es/\ds.length + es.length <= 1000/\R (.d .none) (S.set k (ds ++ es))
def ret0 (S:Sto) (R:RX):RX:=fun y S'=>match y,S' with
 | .d d,[]=>R (.d d) S
 | .l 0,[ds]=>R (.l S.length) (S ++ [ds])
 | _,_=>False
def zsX (k:Nat) (S:Sto) (R:RX):RX:=fun y S'=>match y,S' with
 | .d d,[p]=>R (.d d) (S.set k p)
 | .l 1,[p,ds]=>R (.l S.length) (S.set k p ++ [ds])
 | _,_=>False
section
variable {h o:List Addr} {H:Hp} {S:Sto} {R:RX} {Q:VK}
theorem zjq {h o h' o':List Addr} {H:Hp} (e:∀ b,(b ∈ h'\/b ∈ o') ↔ (b ∈ h\/b ∈ o)):vx h' o' H = vx h o H:=by
 funext b
 have iff:∀ u,vx h' o' H b = some u ↔ vx h o H b = some u:=fun u=>by
  rw [zas,zas]
  have:=e b
  constructor
  ·rintro ⟨a1,a2,a3⟩
   exact ⟨fun m=>(this.mpr (.inl m)).elim a1 a2,fun m=>(this.mpr (.inr m)).elim a1 a2,a3⟩
  ·rintro ⟨a1,a2,a3⟩
   exact ⟨fun m=>(this.mp (.inl m)).elim a1 a2,fun m=>(this.mp (.inr m)).elim a1 a2,a3⟩
 cases e1:vx h' o' H b with
 | some u=>exact ((iff u).mp e1).symm
 | none =>
  cases e2:vx h o H b with
  | none=>rfl
  | some u=>rw [(iff u).mpr e2] at e1; cases e1
theorem rep0 (hs:RepS h o H S):RepS (h ++ o) [] H [] where
 len:=rfl
 nd:=List.nodup_nil
 dis:=fun a ha=>by cases ha
 hal:=fun b hb=>(List.mem_append.mp hb).elim (hs.hal b) (hs.oam b)
 cont:=fun k a ds e=>by simp at e
theorem hx0 {d:PyData} {v:V} (hx:HasX h o H (.d d) v):HasX (h ++ o) [] H (.d d) v:=by
 show Has (vx (h ++ o) [] H) d v
 rw [zjq (h:=h) (o:=o) fun b=>by simp]
 exact hx
theorem hx0' {d:PyData} {v:V} (hx:HasX (h ++ o) [] H (.d d) v):HasX h o H (.d d) v:=by
 show Has (vx h o H) d v
 rw [<- zjq (h':=h ++ o) (o':=[]) (h:=h) (o:=o) fun b=>by simp]
 exact hx
theorem cn0 (hs:RepS h o H S) (c:Cn h o H R Q):Cn (h ++ o) [] H (ret0 S R) Q:=fun o' H' S' y v e s' hy q=>by
 have sm:Same H (vx [] o' H'):=fun b u eb=>by
  obtain ⟨a1,a2⟩:=e.kp b u (by simp) eb
  exact zas.mpr ⟨by simp,a1,a2⟩
 have sH:Same H H':=fun b u eb=>(zas.mp (sm b u eb)).2.2
 unfold ret0 at q
 split at q
 ·have e0:o' = []:=List.eq_nil_of_length_eq_zero s'.len.symm
  subst e0
  exact c o H' S _ v (Ex.of_same sH) (hs.same sH) (hx0' hy) q
 ·rename_i ds
  obtain ⟨a,rfl⟩:∃ a,o' = [a]:=List.length_eq_one_iff.mp s'.len.symm
  obtain ⟨a',ea,rfl⟩:=hy
  cases ea
  obtain ⟨vs,ev,l⟩:=s'.cont 0 a ds rfl rfl
  have na:a ∉ h ++ o:=s'.dis a (by simp)
  have hn:H a = none:=by
   cases eh:H a with
   | none=>rfl
   | some u=>exact absurd (e.kp a u (by simp) eh).1 (by simp)
  have e2:Ex o H (o ++ [a]) H':=⟨⟨[a],rfl⟩,fun b u hb eb=>by
   obtain ⟨a1,a2⟩:=e.kp b u (by simp) eb
   exact ⟨by simp only [List.mem_append,not_or]; exact ⟨hb,a1⟩,a2⟩⟩
  have ev':vx (h ++ o) [a] H' = vx h (o ++ [a]) H':=zjq fun b=>by simp [or_assoc]
  rw [ev'] at l
  refine c (o ++ [a]) H' (S ++ [ds]) (.l S.length) _ e2 ⟨by simp [hs.len],zcL hs.nd fun m=>na (List.mem_append_right _ m),fun b hb=>?_,fun b hb=>?_,fun k b es q1 q2=>?_⟩ ⟨a,by rw [hs.len,List.getElem?_concat_length],rfl⟩ q
  ·rcases List.mem_append.mp hb with hb | hb
   ·exact hs.dis b hb
   ·rw [List.mem_singleton.mp hb]; exact fun m=>na (List.mem_append_left _ m)
  ·obtain ⟨u,eb⟩:=hs.hal b hb
   exact ⟨u,sH b _ eb⟩
  ·by_cases hk:k < o.length
   ·rw [List.getElem?_append_left hk] at q1
    rw [List.getElem?_append_left (by rw [hs.len]; exact hk)] at q2
    obtain ⟨ws,e3,l3⟩:=hs.cont k b es q1 q2
    exact ⟨ws,sH _ _ e3,l3.mono e2.vx⟩
   ·have hk':k = o.length:=by
     obtain ⟨q,_⟩:=List.getElem?_eq_some_iff.mp q1
     rw [List.length_append,List.length_singleton] at q
     omega
    subst hk'
    rw [List.getElem?_concat_length] at q1
    rw [<- hs.len,List.getElem?_concat_length] at q2
    cases q1
    cases q2
    exact ⟨vs,ev,l⟩
 ·exact q.elim
theorem zsW {k:Nat} {a:Addr} {p:List PyData} (hs:RepS h o H S) (ea:o[k]? = some a) (ep:S[k]? = some p):RepS (h ++ o.filter (fun b=>b ≠ a)) [a] H [p] where
 len:=rfl
 nd:=by simp
 dis:=fun b hb=>by
  rw [List.mem_singleton.mp hb]
  intro m
  rcases List.mem_append.mp m with m | m
  ·exact hs.dis a (List.mem_of_getElem? ea) m
  ·have:=(List.mem_filter.mp m).2
   simp at this
 hal:=fun b hb=>(List.mem_append.mp hb).elim (hs.hal b) fun m=>hs.oam b (List.mem_filter.mp m).1
 cont:=fun j b ds e1 e2=>by
  cases j with
  | succ j=>simp at e1
  | zero =>
   cases e1
   cases e2
   obtain ⟨vs,e3,l⟩:=hs.cont k a p ea ep
   refine ⟨vs,e3,?_⟩
   rw [zjq (h:=h) (o:=o) (mem_pen ea)]
   exact l
where
 mem_pen {h o:List Addr} {k:Nat} {a:Addr} (ea:o[k]? = some a) (b:Addr):(b ∈ h ++ o.filter (fun b=>b ≠ a)\/b ∈ [a]) ↔ (b ∈ h\/b ∈ o):=by
  have ma:=List.mem_of_getElem? ea
  by_cases e:b = a
  ·subst e
   simp [ma]
  ·simp [e]
theorem hxP {k:Nat} {a:Addr} {d:PyData} {v:V} (ea:o[k]? = some a) (hx:HasX h o H (.d d) v):HasX (h ++ o.filter (fun b=>b ≠ a)) [a] H (.d d) v:=by
 show Has (vx _ _ H) d v
 rw [zjq (h:=h) (o:=o) (zsW.mem_pen ea)]
 exact hx
theorem cnP {k:Nat} {a:Addr} {p:List PyData} (hs:RepS h o H S) (ea:o[k]? = some a) (ep:S[k]? = some p) (c:Cn h o H R Q):Cn (h ++ o.filter (fun b=>b ≠ a)) [a] H (zsX k S R) Q:=fun o' H' S' y v e s' hy q=>by
 have ma:=List.mem_of_getElem? ea
 have hk:k < o.length:=(List.getElem?_eq_some_iff.mp ea).1
 unfold zsX at q
 split at q
 ·rename_i d p'
  obtain ⟨r,rfl⟩:=e.pre
  have er:r = []:=by
   have:=s'.len
   simp at this
   exact this
  subst er
  have ex:Ex o H o H':=⟨⟨[],by simp⟩,fun b u hb eb=>⟨hb,(e.kp b u (fun m=>hb (by rw [List.mem_singleton.mp m]; exact ma)) eb).2⟩⟩
  obtain ⟨vs,ev,l⟩:=s'.cont 0 a p' rfl rfl
  have ev':vx (h ++ o.filter (fun b=>b ≠ a)) ([a] ++ []) H' = vx h o H':=zjq (zsW.mem_pen ea)
  rw [ev'] at l
  refine c o H' (S.set k p') (.d d) v ex ⟨by simp [hs.len],hs.nd,hs.dis,fun b hb=>?_,fun j b es q1 q2=>?_⟩ (by
   have hy':Has (vx (h ++ o.filter (fun b=>b ≠ a)) ([a] ++ []) H') d v:=hy
   rw [ev'] at hy'
   exact hy') q
  ·obtain ⟨u,eb⟩:=hs.hal b hb
   exact ⟨u,(e.kp b _ (fun m=>hs.dis a ma (by rw [<- List.mem_singleton.mp m]; exact hb)) eb).2⟩
  ·by_cases hj:j = k
   ·subst hj
    rw [q1] at ea
    cases ea
    rw [List.getElem?_set_self (by rw [hs.len]; exact hk)] at q2
    cases q2
    exact ⟨vs,ev,l⟩
   ·rw [List.getElem?_set_ne (Ne.symm hj)] at q2
    obtain ⟨ws,e3,l3⟩:=hs.cont j b es q1 q2
    have ne:b ≠ a:=fun z=>hj (zeF hs.nd q1 (z ▸ ea))
    exact ⟨ws,(e.kp b _ (by simp [ne]) e3).2,l3.mono ex.vx⟩
 ·rename_i p' ds
  obtain ⟨r,rfl⟩:=e.pre
  obtain ⟨a2,rfl⟩:∃ a2,r = [a2]:=by
   have:=s'.len
   simp at this
   exact List.length_eq_one_iff.mp this
  obtain ⟨b2,eb2,rfl⟩:=hy
  cases eb2
  obtain ⟨vs,ev,l⟩:=s'.cont 0 a p' rfl rfl
  obtain ⟨vs2,ev2,l2⟩:=s'.cont 1 a2 ds rfl rfl
  have n2:a2 ∉ h ++ o.filter (fun b=>b ≠ a):=s'.dis a2 (by simp)
  have n3:a ≠ a2:=by
   have:=s'.nd
   simp at this
   exact this
  have n4:a2 ∉ o:=fun m=>n2 (List.mem_append_right _ (List.mem_filter.mpr ⟨m,by simp [Ne.symm n3]⟩))
  have ex:Ex o H (o ++ [a2]) H':=⟨⟨[a2],rfl⟩,fun b u hb eb=>by
   obtain ⟨z1,z2⟩:=e.kp b u (fun m=>hb (by rw [List.mem_singleton.mp m]; exact ma)) eb
   refine ⟨?_,z2⟩
   simp only [List.mem_append,not_or]
   exact ⟨hb,fun m=>z1 (by simp at m ⊢; exact .inr m)⟩⟩
  have ev':vx (h ++ o.filter (fun b=>b ≠ a)) ([a] ++ [a2]) H' = vx h (o ++ [a2]) H':=zjq fun b=>by
   have:=zsW.mem_pen (h:=h) ea b
   simp only [List.mem_append] at this ⊢
   rw [<- or_assoc,this,or_assoc]
  rw [ev'] at l l2
  refine c (o ++ [a2]) H' (S.set k p' ++ [ds]) (.l S.length) _ ex ⟨by simp [hs.len],zcL hs.nd n4,fun b hb=>?_,fun b hb=>?_,fun j b es q1 q2=>?_⟩ ⟨a2,by rw [hs.len,List.getElem?_concat_length],rfl⟩ q
  ·rcases List.mem_append.mp hb with hb | hb
   ·exact hs.dis b hb
   ·rw [List.mem_singleton.mp hb]; exact fun m=>n2 (List.mem_append_left _ m)
  ·obtain ⟨u,eb⟩:=hs.hal b hb
   exact ⟨u,(e.kp b _ (fun m=>hs.dis a ma (by rw [<- List.mem_singleton.mp m]; exact hb)) eb).2⟩
  ·by_cases hjo:j < o.length
   ·rw [List.getElem?_append_left hjo] at q1
    rw [List.getElem?_append_left (by rw [List.length_set,hs.len]; exact hjo)] at q2
    by_cases hj:j = k
    ·subst hj
     rw [q1] at ea
     cases ea
     rw [List.getElem?_set_self (by rw [hs.len]; exact hk)] at q2
     cases q2
     exact ⟨vs,ev,l⟩
    ·rw [List.getElem?_set_ne (Ne.symm hj)] at q2
     obtain ⟨ws,e3,l3⟩:=hs.cont j b es q1 q2
     have ne:b ≠ a:=fun z=>hj (zeF hs.nd q1 (z ▸ ea))
     exact ⟨ws,(e.kp b _ (by simp [ne]) e3).2,l3.mono ex.vx⟩
   ·have hk':j = o.length:=by
     obtain ⟨q,_⟩:=List.getElem?_eq_some_iff.mp q1
     rw [List.length_append,List.length_singleton] at q
     omega
    subst hk'
    rw [List.getElem?_concat_length] at q1
    rw [<- hs.len,<- List.length_set (i:=k) (a:=p'),List.getElem?_concat_length] at q2
    cases q1
    cases q2
    exact ⟨vs2,ev2,l2⟩
 ·exact q.elim
end
structure DEnds where
 nx:XE->Sto->Prop
 rt:RX
 bk:XE->Sto->Prop:=fun _ _=>False
 ct:XE->Sto->Prop:=fun _ _=>False
abbrev DS:=DEnds->XE->Sto->Prop
abbrev DG:=XV->XE->Sto->(XE->Sto->Prop)->Prop
abbrev DGs:=List PyData->XE->Sto->(XE->Sto->Prop)->Prop
def Nx (h o:List Addr) (H:Hp) (N:XE->Sto->Prop) (M:St->Hp->Prop):Prop:=∀ o' H' δ' S' σ',Ex o H o' H'->RepE h o' H' δ' σ'->RepS h o' H' S'->N δ' S'->M σ' H'
theorem Nx.pre {h o o':List Addr} {H H':Hp} {N:XE->Sto->Prop} {M:St->Hp->Prop} (c:Nx h o H N M) (e:Ex o H o' H'):Nx h o' H' N M:=fun o2 H2 δ2 S2 σ2 e2=>c o2 H2 δ2 S2 σ2 (e.trans e2)
structure EOk (h o:List Addr) (H:Hp) (E:DEnds) (D:Ends):Prop where
 nx:Nx h o H E.nx D.nx
 rt:Cn h o H E.rt D.rt
 bk:Nx h o H E.bk D.bk
 ct:Nx h o H E.ct D.ct
theorem EOk.pre {h o o':List Addr} {H H':Hp} {E:DEnds} {D:Ends} (c:EOk h o H E D) (e:Ex o H o' H'):EOk h o' H' E D:=⟨c.nx.pre e,c.rt.pre e,c.bk.pre e,c.ct.pre e⟩
def RS (t:TS) (dt:DS):Prop:=∀ (h o:List Addr) (H:Hp) (δ:XE) (σ:St) (S:Sto) (E:DEnds) (D:Ends),RepE h o H δ σ->RepS h o H S->dt E δ S->EOk h o H E D->t D σ H
def RG (t:TG) (dt:DG):Prop:=∀ (h o:List Addr) (H:Hp) (δ:XE) (σ:St) (S:Sto) (x:XV) (v:V) (N:XE->Sto->Prop) (M:St->Hp->Prop),RepE h o H δ σ->RepS h o H S->HasX h o H x v->dt x δ S N->Nx h o H N M->t v σ H M
def RGs (t:TGs) (dt:DGs):Prop:=∀ (h o:List Addr) (H:Hp) (δ:XE) (σ:St) (S:Sto) (ds:List PyData) (vs:List V) (N:XE->Sto->Prop) (M:St->Hp->Prop),RepE h o H δ σ->RepS h o H S->HasL (vx h o H) ds vs->dt ds δ S N->Nx h o H N M->t vs σ H M
def zo (i:Nat):DG:=fun x δ S N=>N (δ.set i (some x)) S
def zdb:DGs:=fun ds δ S N=>ds = []/\N δ S
def hdD:List PyData->(PyData->List PyData->Prop)->Prop
 | d :: es,k=>k d es
 | [],_=>False
theorem zrB {ds:List PyData} {k:PyData->List PyData->Prop} (h:hdD ds k):∃ d es,ds = d :: es/\k d es:=by
 cases ds with
 | nil=>exact h.elim
 | cons d es=>exact ⟨d,es,rfl,h⟩
theorem zrD {d:PyData} {es:List PyData} {k:PyData->List PyData->Prop}:hdD (d :: es) k = k d es:=rfl
def zab (g:DG) (r:DGs):DGs:=fun ds δ S N=>hdD ds fun d es=>g (.d d) δ S fun δ' S'=>r es δ' S' N
def zc5 (n:Nat) (r:DGs):DG:=fun x δ S N=>asT x fun ds=>ds.length = n/\r ds δ S N
def znD (a b:DE):DG:=fun x δ S N=>a δ S fun y S1=>b δ S1 fun z S2=>asD x fun d=>∃ k,y = .l k/\∃ ds,S2[k]? = some ds/\asI z fun i=>∃ j,ixN ds.length i = some j/\N δ (S2.set k (ds.set j d))
theorem zm {i:Nat}:RG (ziF i) (zo i):=fun h o H δ σ S x v N M he hs hx q c=>c o H _ S _ Ex.refl (he.set hx) hs q
theorem zbo:RGs ztY zdb:=fun h o H δ σ S ds vs N M he hs l ⟨e,q⟩ c=>by
 subst e
 exact ⟨zL.mp l,c o H δ S σ Ex.refl he hs q⟩
theorem zP {t:TG} {u:TGs} {g:DG} {r:DGs} (h1:RG t g) (h2:RGs u r):RGs (zrn t u) (zab g r):=fun h o H δ σ S ds vs N M he hs l q0 c=>by
 obtain ⟨d,es,rfl,q⟩:=zrB q0
 obtain ⟨v,ws,rfl,hv,l⟩:=zC.mp l
 exact ⟨v,ws,rfl,h1 h o H δ σ S (.d d) v _ _ he hs hv q fun o1 H1 δ1 S1 σ1 e1 he1 hs1 q1=>h2 h o1 H1 δ1 σ1 S1 es ws N M he1 hs1 (l.mono e1.vx) q1 (c.pre e1)⟩
theorem zcu {K:W.Frag} {n:Nat} {t:TGs} {r:DGs} (h1:RGs t r):RG (ztW K n t) (zc5 n r):=fun h o H δ σ S x v N M he hs hx q c=>by
 replace q:=zdr q
 obtain ⟨ds,rfl,hn,q⟩:=q
 obtain ⟨a,vs,rfl,ea,l⟩:=zcg hx
 exact ⟨a,vs,rfl,.of ea,by rw [l.length]; exact hn,h1 h o H δ σ S ds vs N M he hs l q c⟩
theorem HasL.setAt {H:Hp}:∀ {ds:List PyData} {vs:List V} {j:Nat} {d:PyData} {v:V},HasL H ds vs->Has H d v->HasL H (ds.set j d) (vs.set j v)
 | [],vs,j,d,v,l,_=>by rw [zL.mp l]; exact zL.mpr rfl
 | c :: ds,vs,0,d,v,l,q=>by
  obtain ⟨u,r,rfl,_,l⟩:=zC.mp l
  exact zC.mpr ⟨v,r,rfl,q,l⟩
 | c :: ds,vs,j + 1,d,v,l,q=>by
  obtain ⟨u,r,rfl,hu,l⟩:=zC.mp l
  exact zC.mpr ⟨u,r.set j v,rfl,hu,HasL.setAt l q⟩
theorem zpb {ta tb:TE} {da db:DE} (ha:RE ta da) (hb:RE tb db):RG (ztQ ta tb zsu) (znD da db):=fun h o H δ σ S x v N M he hs hx q c =>
 ha h o H δ σ S _ _ he hs q fun o1 H1 S1 y u e1 s1 y1 d1=>hb h o1 H1 δ σ S1 _ _ (he.mono e1) s1 d1 fun o2 H2 S2 z w e2 s2 z2 d0=>by
  obtain ⟨d,rfl,k,rfl,ds,es,d2⟩:=zeU d0
  replace d2:=zba d2
  obtain ⟨i,rfl,j,ej,d2⟩:=d2
  obtain ⟨a,ea,rfl⟩:=y1.mono e2
  obtain ⟨ws,ew,l⟩:=s2.cont k a ds ea es
  refine ⟨a,ws,i,j,rfl,zaV z2,ew,by rw [l.length]; exact ej,?_⟩
  exact c o2 _ δ _ σ ((e1.trans e2).trans (Ex.upd ea)) (((he.mono e1).mono e2).mono (Ex.upd ea)) (s2.upd ea (l.setAt (hx.mono (e1.trans e2)))) d2
def za8:DS:=fun E δ S=>E.nx δ S
def zZ (t u:DS):DS:=fun E δ S=>t { E with nx:=u E } δ S
def zam (e:DE) (g:DG):DS:=fun E δ S=>e δ S fun x S1=>g x δ S1 E.nx
def zf1 (e:DE):DS:=fun E δ S=>e δ S fun _ S1=>E.nx δ S1
def zbB (e:DE):DS:=fun E δ S=>e δ S E.rt
def zdZ (c:DT) (t u:DS):DS:=fun E δ S=>c δ S fun b S1=>if b = true then t E δ S1 else u E δ S1
section
variable {t u:TS} {dt du:DS} {te:TE} {de:DE}
theorem zal:RS zp6 za8:=fun h o H δ σ S E D he hs q c=>c.nx o H δ S σ Ex.refl he hs q
theorem zt (ht:RS t dt) (hu:RS u du):RS (znI t u) (zZ dt du):=fun h o H δ σ S E D he hs q c =>
 ht h o H δ σ S _ _ he hs q ⟨fun o1 H1 δ1 S1 σ1 e1 he1 hs1 q1=>hu h o1 H1 δ1 σ1 S1 E D he1 hs1 q1 (c.pre e1),c.rt,c.bk,c.ct⟩
theorem zy {g:TG} {dg:DG} (he':RE te de) (hg:RG g dg):RS (zq3 te g) (zam de dg):=fun h o H δ σ S E D he hs q c =>
 he' h o H δ σ S _ _ he hs q fun o1 H1 S1 x v e1 s1 x1 d1=>hg h o1 H1 δ σ S1 x v _ _ (he.mono e1) s1 x1 d1 (c.nx.pre e1)
theorem zef (he':RE te de):RS (zrh te) (zf1 de):=fun h o H δ σ S E D he hs q c =>
 he' h o H δ σ S _ _ he hs q fun o1 H1 S1 x v e1 s1 x1 d1=>c.nx o1 H1 δ S1 σ e1 (he.mono e1) s1 d1
theorem zU (he':RE te de):RS (ztl te) (zbB de):=fun h o H δ σ S E D he hs q c=>he' h o H δ σ S _ _ he hs q c.rt
theorem zbW {tc:TT} {dc:DT} (hc:RT tc dc) (ht:RS t dt) (hu:RS u du):RS (zsR tc t u) (zdZ dc dt du):=fun h o H δ σ S E D he hs q c =>
 hc h o H δ σ S _ _ he hs q fun o1 H1 S1 b e1 s1 d1=>by
  cases b with
  | true=>exact zoW (ht h o1 H1 δ σ S1 E D (he.mono e1) s1 (by simpa using d1) (c.pre e1))
  | false=>exact zqc (hu h o1 H1 δ σ S1 E D (he.mono e1) s1 (by simpa using d1) (c.pre e1))
def frz (n:Nat) (ds:List PyData):Option XV->Option XV
 | some (.l k)=>if k = n then some (.d (.list ds)) else some (.l k)
 | y=>y
end
abbrev DI:=XE->Sto->(List PyData->Sto->Prop)->Prop
structure WalkX (h o:List Addr) (H:Hp) (J:It) (ds:List PyData):Prop where
 stop:∀ (i:Nat) o2 H2,ExH h o H o2 H2->ds.length <= i->J.stop i H2
 go:∀ (i:Nat) d o2 H2,ExH h o H o2 H2->ds[i]? = some d->J.go i H2
 yld:∀ (i:Nat) d o2 H2 x H3 S2,ExH h o H o2 H2->RepS h o2 H2 S2->ds[i]? = some d->J.yld i H2 x H3->Same H2 H3/\Has (vx h o2 H3) d x
def RI (w:TI) (di:DI):Prop:=∀ (h o:List Addr) (H:Hp) (δ:XE) (σ:St) (S:Sto) (R:List PyData->Sto->Prop) (Q:It->Hp->Prop),RepE h o H δ σ->RepS h o H S->di δ S R ->
 (∀ o' H' S' ds J,Ex o H o' H'->RepS h o' H' S'->WalkX h o' H' J ds->R ds S'->Q J H')->w σ H Q
theorem zh3 {h o:List Addr} {H:Hp} {lo:Int} {n:Nat}:WalkX h o H (Itr lo n) (zi2 lo n) where
 stop:=fun i _ _ _ hi=>by rw [zaa] at hi; exact hi
 go:=fun i d _ _ _ hi=>(zbx hi).1
 yld:=fun i d o2 H2 x H3 S2 _ _ hi y=>by
  obtain ⟨e,ex⟩:=y
  subst e ex
  rw [(zbx hi).2]
  exact ⟨Same.refl _,zbU.mpr rfl⟩
def zkL (g:DG) (b:DS):List PyData->DS
 | [],E,δ,S=>E.nx δ S
 | d :: ds,E,δ,S=>g (.d d) δ S fun δ1 S1=>b { nx:=fun δ2 S2=>zkL g b ds E δ2 S2,ct:=fun δ2 S2=>zkL g b ds E δ2 S2,bk:=E.nx,rt:=E.rt } δ1 S1
def zhV (i:DI) (g:DG) (b:DS):DS:=fun E δ S=>i δ S fun ds S1=>zkL g b ds E δ S1
theorem zdd {wi:TI} {g:TG} {tb:TS} {di:DI} {dg:DG} {db:DS} (hi:RI wi di) (hg:RG g dg) (hb:RS tb db):RS (zrJ wi g tb) (zhV di dg db):=fun h o H δ σ S E D he hs q c =>
 hi h o H δ σ S _ _ he hs q fun o1 H1 S1 ds J e1 s1 wk d1=>by
  refine ⟨fun i m σ2 H2=>m = ds.length - i/\i <= ds.length/\∃ o2 δ2 S2,Ex o1 H1 o2 H2/\RepE h o2 H2 δ2 σ2/\RepS h o2 H2 S2/\zkL dg db (ds.drop i) E δ2 S2,⟨ds.length,by simp,Nat.zero_le _,o1,δ,S1,Ex.refl,he.mono e1,s1,d1⟩,?_⟩
  rintro i m σ2 H2 ⟨rfl,hi,o2,δ2,S2,e2,he2,hs2,d2⟩
  by_cases hlt:i < ds.length
  ·have ed:ds[i]? = some ds[i]:=List.getElem?_eq_getElem hlt
   rw [List.drop_eq_getElem_cons hlt] at d2
   refine .inr ⟨wk.go i _ o2 H2 e2.hid ed,fun σ3 H3=>∃ o3 δ3 S3,Ex o1 H1 o3 H3/\RepE h o3 H3 δ3 σ3/\RepS h o3 H3 S3/\zkL dg db (ds.drop (i + 1)) E δ3 S3,fun σ3 H3 n=>⟨ds.length - (i + 1),by omega,rfl,hlt,n⟩,fun x H3 y=>?_⟩
   obtain ⟨s3,hx⟩:=wk.yld i _ o2 H2 x H3 S2 e2.hid hs2 ed y
   have e23:Ex o2 H2 o2 H3:=Ex.of_same s3
   refine hg h o2 H3 δ2 σ2 S2 (.d ds[i]) x _ _ (he2.mono e23) (hs2.same s3) hx d2 fun o4 H4 δ4 S4 σ4 e4 he4 hs4 d4=>?_
   have e14:Ex o1 H1 o4 H4:=(e2.trans e23).trans e4
   have ce:=(c.pre e1).pre e14
   exact hb h o4 H4 δ4 σ4 S4 _ _ he4 hs4 d4 ⟨fun o5 H5 δ5 S5 σ5 e5 he5 hs5 d5=>⟨o5,δ5,S5,e14.trans e5,he5,hs5,d5⟩,ce.rt,ce.nx,fun o5 H5 δ5 S5 σ5 e5 he5 hs5 d5=>⟨o5,δ5,S5,e14.trans e5,he5,hs5,d5⟩⟩
  ·have ei:i = ds.length:=by omega
   subst ei
   rw [List.drop_length] at d2
   exact .inl ⟨wk.stop _ o2 H2 e2.hid (Nat.le_refl _),c.nx o2 H2 δ2 S2 σ2 (e1.trans e2) he2 hs2 d2⟩
def za5:DT:=fun _ S R=>R true S
theorem zbS:RT zry za5:=fun h o H δ σ S R Q he hs q c=>c o H S true Ex.refl hs q
def zfo (n:Nat) (g:DG) (tt:DT) (te:DE) (fin:Sto->Prop):List PyData->XE->Sto->Prop
 | [],_,S=>fin S
 | d :: ds,τ,S=>g (.d d) τ S fun τ1 S1=>tt τ1 S1 fun b S2=>if b = true then te τ1 S2 fun x S3=>asD x fun e=>∃ acc,S3[n]? = some acc/\acc.length < 1000/\zfo n g tt te fin ds τ1 (S3.set n (acc ++ [e])) else zfo n g tt te fin ds τ1 S2
def zfI (caps:List (Option Nat)) (i:DI) (g:DG) (tt:DT) (te:DE):DE:=fun δ S R=>i δ S fun ds S1=>zfo S1.length g tt te (fun S2=>R (.l S1.length) S2) ds (zpT caps δ) (S1 ++ [[]])
def zdf (caps:List (Option Nat)) (i:DI) (g:DG) (tt:DT) (te:DE):DE:=fun δ S R=>i δ S fun ds S1=>zfo S1.length g tt te (fun S2=>∃ S0 acc,S2 = S0 ++ [acc]/\S0.length = S1.length/\R (.d (.list acc)) S0) ds (zpT caps δ) (S1 ++ [[]])
theorem RepS.pop {h o r:List Addr} {H:Hp} {S0 T:Sto} (hs:RepS h (o ++ r) H (S0 ++ T)) (hl:S0.length = o.length):RepS h o H S0 where
 len:=hl
 nd:=(List.nodup_append.mp hs.nd).1
 dis:=fun a ha=>hs.dis a (List.mem_append_left _ ha)
 hal:=hs.hal
 cont:=fun k a ds e1 e2=>by
  obtain ⟨vs,e3,l⟩:=hs.cont k a ds (zes e1) (zes e2)
  exact ⟨vs,e3,l.mono fun b u e=>by
   obtain ⟨z1,z2,z3⟩:=zas.mp e
   exact zas.mpr ⟨z1,fun m=>z2 (List.mem_append_left _ m),z3⟩⟩
theorem zjV {h o r:List Addr} {H:Hp}:Same (vx h (o ++ r) H) (vx h o H):=fun b u e=>by
 obtain ⟨z1,z2,z3⟩:=zas.mp e
 exact zas.mpr ⟨z1,fun m=>z2 (List.mem_append_left _ m),z3⟩
theorem Ex.pop {o o' r:List Addr} {H H':Hp} (e:Ex o H (o ++ r) H'):Ex o H o H':=⟨⟨[],by simp⟩,fun b u hb eb=>⟨hb,(e.kp b u hb eb).2⟩⟩
theorem ziN {caps:List (Option Nat)} {wi:TI} {g:TG} {tt:TT} {te:TE} {di:DI} {dg:DG} {dtt:DT} {dte:DE} (hi:RI wi di) (hg:RG g dg) (ht:RT tt dtt) (he':RE te dte)
  {h o:List Addr} {H:Hp} {δ:XE} {σ:St} {S:Sto} {Q:VK} {fin:Nat->Sto->Prop} (he:RepE h o H δ σ) (hs:RepS h o H S) (q:di δ S fun ds S1=>zfo S1.length dg dtt dte (fin S1.length) ds (zpT caps δ) (S1 ++ [[]]))
  (c:∀ o1 H1 D o2 H2 S2,Ex o H o1 H1->H1 D = none->Ex (o1 ++ [D]) (upd H1 D (.lst [])) o2 H2->RepS h o2 H2 S2->fin o1.length S2->Q (.ref D) H2):zne caps wi g tt te σ H Q:=by
 refine hi h o H δ σ S _ _ he hs q fun o1 H1 S1 ds J e1 s1 wk d1 D hD=>?_
 have eN:Ex o1 H1 (o1 ++ [D]) (upd H1 D (.lst [])):=Ex.new s1 hD
 have sN:RepS h (o1 ++ [D]) (upd H1 D (.lst [])) (S1 ++ [[]]):=s1.new hD (zL.mpr rfl)
 have hn:S1.length = o1.length:=s1.len
 refine ⟨fun i m τ H2=>m = ds.length - i/\i <= ds.length/\∃ o2 δ2 S2,Ex (o1 ++ [D]) (upd H1 D (.lst [])) o2 H2/\RepE h o2 H2 δ2 τ/\RepS h o2 H2 S2/\zfo S1.length dg dtt dte (fin S1.length) (ds.drop i) δ2 S2,⟨ds.length,by simp,Nat.zero_le _,_,_,_,Ex.refl,((he.mono e1).mono eN).tau,sN,d1⟩,?_⟩
 rintro i m τ H2 ⟨rfl,hi,o2,δ2,S2,e2,he2,hs2,d2⟩
 by_cases hlt:i < ds.length
 ·have ed:ds[i]? = some ds[i]:=List.getElem?_eq_getElem hlt
  rw [List.drop_eq_getElem_cons hlt] at d2
  refine .inr ⟨wk.go i _ o2 H2 (eN.trans e2).hid ed,fun x H3 y=>?_⟩
  obtain ⟨s3,hx⟩:=wk.yld i _ o2 H2 x H3 S2 (eN.trans e2).hid hs2 ed y
  have e23:Ex o2 H2 o2 H3:=Ex.of_same s3
  refine hg h o2 H3 δ2 τ S2 (.d ds[i]) x _ _ (he2.mono e23) (hs2.same s3) hx d2 fun o4 H4 δ4 S4 τ4 e4 he4 hs4 d4=>?_
  refine ht h o4 H4 δ4 τ4 S4 _ _ he4 hs4 d4 fun o5 H5 S5 b e5 s5 d5=>?_
  have e15:=((e2.trans e23).trans e4).trans e5
  cases b with
  | false=>exact zqc ⟨ds.length - (i + 1),by omega,rfl,hlt,o5,δ4,S5,e15,he4.mono e5,s5,by simpa using d5⟩
  | true =>
   refine zoW (he' h o5 H5 δ4 τ4 S5 _ _ (he4.mono e5) s5 (by simpa using d5) fun o6 H6 S6 z v e6 s6 z6 d6=>?_)
   replace d6:=zeU d6
   obtain ⟨e,rfl,acc,ea,hl,d6⟩:=d6
   have e16:=e15.trans e6
   have eD:o6[S1.length]? = some D:=by
    obtain ⟨r,rfl⟩:=e16.pre
    rw [hn]
    exact zes (by rw [List.getElem?_concat_length])
   obtain ⟨vs,ev,l⟩:=s6.cont _ D acc eD ea
   refine ⟨vs,ev,by rw [l.length]; exact small1000 (Nat.le_of_lt hl),ds.length - (i + 1),by omega,rfl,hlt,o6,δ4,_,e16.trans (Ex.upd eD),((he4.mono e5).mono e6).mono (Ex.upd eD),s6.upd eD (l.append (zC.mpr ⟨v,[],rfl,z6,zL.mpr rfl⟩)),d6⟩
 ·have ei:i = ds.length:=by omega
  subst ei
  rw [List.drop_length] at d2
  exact .inl ⟨wk.stop _ o2 H2 (eN.trans e2).hid (Nat.le_refl _),c o1 H1 D o2 H2 S2 e1 hD e2 hs2 (hn ▸ d2)⟩
theorem zjU {caps:List (Option Nat)} {wi:TI} {g:TG} {tt:TT} {te:TE} {di:DI} {dg:DG} {dtt:DT} {dte:DE} (hi:RI wi di) (hg:RG g dg) (ht:RT tt dtt) (he':RE te dte):RE (zne caps wi g tt te) (zfI caps di dg dtt dte):=fun h o H δ σ S R Q he hs q c=>by
 refine ziN (fin:=fun n S2=>R (.l n) S2) hi hg ht he' he hs q fun o1 H1 D o2 H2 S2 e1 hD e2 s2 f=>?_
 have eN:Ex o1 H1 (o1 ++ [D]) (upd H1 D (.lst [])):=⟨⟨[D],rfl⟩,fun b w hb e=>by
  have ne:b ≠ D:=zac e hD
  exact ⟨by simp [hb,ne],by rw [zY ne]; exact e⟩⟩
 refine c o2 H2 S2 (.l o1.length) _ ((e1.trans eN).trans e2) s2 ⟨D,?_,rfl⟩ f
 obtain ⟨r,rfl⟩:=e2.pre
 exact zes (by rw [List.getElem?_concat_length])
theorem zbu {caps:List (Option Nat)} {wi:TI} {g:TG} {tt:TT} {te:TE} {di:DI} {dg:DG} {dtt:DT} {dte:DE} (hi:RI wi di) (hg:RG g dg) (ht:RT tt dtt) (he':RE te dte):RE (zne caps wi g tt te) (zdf caps di dg dtt dte):=fun h o H δ σ S R Q he hs q c=>by
 refine ziN (fin:=fun n S2=>∃ (S0:Sto) (acc:List PyData),S2 = S0 ++ [acc]/\S0.length = n/\R (.d (.list acc)) S0) hi hg ht he' he hs q fun o1 H1 D o2 H2 S2 e1 hD e2 s2 ⟨S0,acc,eS,hl,f⟩=>?_
 subst eS
 have eN:Ex o1 H1 (o1 ++ [D]) (upd H1 D (.lst [])):=⟨⟨[D],rfl⟩,fun b w hb e=>by
  have ne:b ≠ D:=zac e hD
  exact ⟨by simp [hb,ne],by rw [zY ne]; exact e⟩⟩
 have e12:=eN.trans e2
 obtain ⟨r,rfl⟩:=e2.pre
 have er:r = []:=by
  have:=s2.len
  simp only [List.length_append,List.length_singleton,hl] at this
  exact List.eq_nil_of_length_eq_zero (by omega)
 subst er
 rw [List.append_nil] at s2 e12
 have s0:RepS h o1 H2 S0:=s2.pop hl
 refine c o1 H2 S0 (.d (.list acc)) _ (e1.trans (Ex.pop (o':=o1) e12)) s0 ?_ f
 obtain ⟨vs,ev,l⟩:=s2.cont o1.length D acc (by rw [List.getElem?_concat_length]) (by rw [<- hl,List.getElem?_concat_length])
 have nD:D ∉ o1:=by
  have:=(List.nodup_append.mp s2.nd).2.2
  intro m
  exact this D m D (by simp) rfl
 exact zbH.mpr ⟨D,vs,rfl,zas.mpr ⟨s2.dis D (by simp),nD,ev⟩,l.mono zjV⟩
def fin (n:Nat) (R:RX):RX:=fun y S'=>match y with
 | .l k=>if k < n then R (.l k) (S'.take n) else ∃ ds,S'[k]? = some ds/\(R (.d (.list ds)) (S'.take n)\/R (.l n) (S'.take n ++ [ds]))
 | y=>R y (S'.take n)
theorem zpx {h o:List Addr} {H:Hp} {S:Sto} {R:RX} {Q:VK} (hs:RepS h o H S) (c:Cn h o H R Q):Cn h o H (fin S.length R) Q:=fun o' H' S' y v e s' hy q=>by
 obtain ⟨r,rfl⟩:=e.pre
 have eS:S' = S'.take S.length ++ S'.drop S.length:=(List.take_append_drop _ _).symm
 have hl:(S'.take S.length).length = o.length:=by
  have:=s'.len
  rw [List.length_append] at this
  rw [List.length_take,this,hs.len]
  omega
 have s0:RepS h o H' (S'.take S.length):=by
  rw [eS] at s'
  exact s'.pop hl
 have e0:Ex o H o H':=Ex.pop (o':=o) e
 cases y with
 | d d=>exact c o H' _ (.d d) v e0 s0 (Has.mono zjV d v hy) q
 | o w=>exact c o H' _ (.o w) v e0 s0 hy q
 | x C fs=>exact c o H' _ (.x C fs) v e0 s0 (HasE.mono zjV hy) q
 | l k =>
  unfold fin at q
  by_cases hk:k < S.length
  ·simp only [hk,↓reduceIte] at q
   obtain ⟨a,ea,rfl⟩:=hy
   exact c o H' _ (.l k) _ e0 s0 ⟨a,by rw [List.getElem?_append_left (by rw [<- hs.len]; exact hk)] at ea; exact ea,rfl⟩ q
  ·simp only [hk,↓reduceIte] at q
   obtain ⟨ds,eds,q⟩:=q
   obtain ⟨a,ea,rfl⟩:=hy
   obtain ⟨vs,ev,l⟩:=s'.cont k a ds ea eds
   have na:a ∉ o:=fun m=>by
    obtain ⟨j,ej⟩:=List.mem_iff_getElem?.mp m
    have hj:j < o.length:=(List.getElem?_eq_some_iff.mp ej).1
    have:=zeF s'.nd (zes (t:=r) ej) ea
    rw [hs.len] at hk
    omega
   have nh:a ∉ h:=s'.dis a (List.mem_of_getElem? ea)
   rcases q with q | q
   ·exact c o H' _ (.d (.list ds)) _ e0 s0 (zbH.mpr ⟨a,vs,rfl,zas.mpr ⟨nh,na,ev⟩,l.mono zjV⟩) q
   ·have hn:H a = none:=by
     cases eh:H a with
     | none=>rfl
     | some u=>exact absurd (List.mem_of_getElem? ea) (e.kp a u na eh).1
    have e1:Ex o H (o ++ [a]) H':=⟨⟨[a],rfl⟩,fun b u hb eb=>⟨by simp only [List.mem_append,List.mem_singleton,not_or]; exact ⟨hb,zac eb hn⟩,(e0.kp b u hb eb).2⟩⟩
    have sub:Same (vx h (o ++ r) H') (vx h (o ++ [a]) H'):=fun b u eb=>by
     obtain ⟨z1,z2,z3⟩:=zas.mp eb
     refine zas.mpr ⟨z1,?_,z3⟩
     simp only [List.mem_append,List.mem_singleton,not_or]
     exact ⟨fun m=>z2 (List.mem_append_left _ m),fun z=>z2 (by rw [z]; exact List.mem_of_getElem? ea)⟩
    refine c (o ++ [a]) H' _ (.l S.length) _ e1 ⟨by rw [List.length_append,List.length_append,hl]; rfl,zcL hs.nd na,fun b hb=>?_,s0.hal,fun j b es q1 q2=>?_⟩ ⟨a,by rw [hs.len,List.getElem?_concat_length],rfl⟩ q
    ·rcases List.mem_append.mp hb with hb | hb
     ·exact hs.dis b hb
     ·rw [List.mem_singleton.mp hb]; exact nh
    ·by_cases hj:j < o.length
     ·rw [List.getElem?_append_left hj] at q1
      rw [List.getElem?_append_left (by rw [hl]; exact hj),List.getElem?_take_of_lt (by rw [hs.len]; exact hj)] at q2
      obtain ⟨ws,e3,l3⟩:=s'.cont j b es (zes q1) q2
      exact ⟨ws,e3,l3.mono sub⟩
     ·have hj':j = o.length:=by
       obtain ⟨q,_⟩:=List.getElem?_eq_some_iff.mp q1
       rw [List.length_append,List.length_singleton] at q
       omega
      subst hj'
      rw [List.getElem?_concat_length] at q1
      rw [<- hl,List.getElem?_concat_length] at q2
      cases q1
      cases q2
      exact ⟨vs,ev,l.mono sub⟩
def zcE (n:Nat) (R:RX):DEnds:={ nx:=fun _ S'=>fin n R (.d .none) S',rt:=fin n R }
theorem eok {h o:List Addr} {H:Hp} {S:Sto} {R:RX} {Q:VK} (hs:RepS h o H S) (c:Cn h o H R Q):EOk h o H (zcE S.length R) { nx:=fun _ H'=>Q .non H',rt:=Q } :=
 ⟨fun o' H' δ' S' σ' e he hs' q=>zpx hs c o' H' S' _ _ e hs' xN q,zpx hs c,fun _ _ _ _ _ _ _ _ q=>q.elim,fun _ _ _ _ _ _ _ _ q=>q.elim⟩
def za1 (p:List PyData):Prop:=∃ l g s:Int,p = [.int l,.int g,.int s]/\0 <= l
end
section
def ztG (K:W.Frag):List V->Hp->VK->Prop:=fun xs H Q=>∃ (p:Addr) (ns:List Int),xs = [.ref p]/\SqL K H p (ns.map V.int)/\Q (.int ns.sum) H
def ztX (K:W.Frag):List V->Hp->VK->Prop:=fun xs H Q=>∃ (p:Addr) (bs:List Bool),xs = [.ref p]/\SqL K H p (bs.map V.bl)/\Q (.bl (bs.all id)) H
theorem ziJ:bootBuiltins "sum" = some (.builtin "sum"):=by decide +kernel
theorem zrI:bootBuiltins "all" = some (.builtin "all"):=by decide +kernel
section
variable {X:Cx}
theorem zdw (hc:X.calm = true):CallR X (.builtin "sum") (ztG X.K):=by
 intro zk s σ H xs us Q I r h
 obtain ⟨p,ns,rfl,hq,q⟩:=h
 obtain ⟨u,rfl,rx⟩:=vals1 r
 cases (show u = Value.ref p from rx)
 obtain ⟨its,rv,pl,_⟩:=I.list hq
 obtain ⟨ys,e,hns⟩:=zfZ (zaw rv)
 refine sum_intListG (I.ok.hd hc) (by rw [<- e]; exact pl.isList) fun h' tk t' hk=>⟨.int ns.sum,H,I.kept (t':=tk) hk,⟨t',?_⟩,q⟩
 have es:preSum (numAt ys) ys.size = ns.sum:=by
  rw [preSum_eq,hns,List.take_of_length_le (by simp)]
 rw [es]
theorem zjK:∀ {bs:List Bool} {us:List Value} {i:Nat} {v:Value},Vals (bs.map V.bl) us->us[i]? = some v->∃ b,bs[i]? = some b/\v = .bool b
 | [],_,i,v,.nil,e=>by simp at e
 | b :: bs,_,0,v,.cons r _,e=>by
  rw [List.getElem?_cons_zero] at e
  cases e
  exact ⟨b,rfl,r⟩
 | b :: bs,_,i + 1,v,.cons _ t,e=>by
  obtain ⟨c,e1,e2⟩:=zjK (i:=i) (v:=v) t (by simpa using e)
  exact ⟨c,by simpa using e1,e2⟩
theorem zqZ (bs:List Bool):((List.range bs.length).all fun i=>(bs[i]?).getD true) = bs.all id:=by
 rw [Bool.eq_iff_iff,List.all_eq_true,List.all_eq_true]
 constructor
 ·intro h b hb
  obtain ⟨i,hi⟩:=List.mem_iff_getElem?.mp hb
  have hl:=(List.getElem?_eq_some_iff.mp hi).1
  have:=h i (List.mem_range.mpr hl)
  rw [hi] at this
  exact this
 ·intro h i hi
  have hl:=List.mem_range.mp hi
  rw [List.getElem?_eq_getElem hl]
  exact h _ (List.getElem_mem hl)
theorem zmN (hc:X.calm = true):CallR X (.builtin "all") (ztX X.K):=by
 intro zk s σ H xs us Q I r h
 obtain ⟨p,bs,rfl,hq,q⟩:=h
 obtain ⟨u,rfl,rx⟩:=vals1 r
 cases (show u = Value.ref p from rx)
 obtain ⟨its,rv,pl,_⟩:=I.list hq
 have hl:=pl.isList
 have hlt:p < s.heap.objs.size:=by
  obtain ⟨_,e,_⟩:=hl
  exact Heap.lt_size e
 refine call_all_walk (x:=Value.ref p) (wpAny_pyIter_list hl ?_)
 refine ⟨s.heap.objs.size,[s.heap.objs.size,p],[s.heap.objs.size],its.toArray.size,_,_,fun i=>(bs[i]?).getD true,rfl,
  Walks.list (A:=X.A.in1) (I.ok.hd hc) _ p (Nat.ne_of_lt hlt) its.toArray,⟨⟨_,Heap.get?_push_size _ rfl,rfl,rfl⟩,hl.push _⟩,fun i v s' Q' E' hP hQ=>?_,fun h' tk hk=>?_⟩
 ·obtain ⟨b,e,rfl⟩:=zjK (i:=i) (v:=v) rv (by simpa using hP)
  have hQ':Q' b s':=by simpa [e] using hQ
  exact wpAny_truthy_bool hQ'
 ·have hz:its.toArray.size = bs.length:=by
   have:=rv.length
   rw [List.length_map] at this
   simp [this]
  rw [hz,zqZ]
  refine ⟨.bl _,H,I.kept (t':=tk) fun b o e=>hk b o (fun hm=>?_) (Heap.get?_push_of_some _ e),rfl,q⟩
  rw [List.mem_singleton.mp hm] at e
  exact Nat.lt_irrefl _ (Heap.lt_size e)
end
def zpM:List XV->Sto->RX->Prop:=fun xs S R=>arg1 xs fun x=>∃ ds,znE S x = some ds/\∃ ns:List Int,ds = ns.map PyData.int/\R (.d (.int ns.sum)) S
theorem zi0 {K:W.Frag}:RC (ztG K) zpM:=fun h o H S xs vs R Q hs hx q c=>by
 obtain ⟨x,rfl,ds,hd,ns,rfl,q1⟩:=zbf q
 obtain ⟨v,rfl,hx1⟩:=hxs1 hx
 obtain ⟨a,ws,rfl,ea,l⟩:=zbC hs hd hx1
 rw [zaP l] at ea
 exact ⟨a,ns,rfl,.of ea,c o H S _ _ Ex.refl hs (xI _) q1⟩
theorem ziE {H:Hp}:∀ {ns:List Bool} {vs:List V},HasL H (ns.map PyData.bool) vs->vs = ns.map V.bl
 | [],vs,h=>zL.mp h
 | n :: ns,vs,h=>by
  obtain ⟨v,r,rfl,h1,h2⟩:=zC.mp h
  rw [zeB.mp h1,ziE h2]
  rfl
def zsS:List XV->Sto->RX->Prop:=fun xs S R=>arg1 xs fun x=>∃ ds,znE S x = some ds/\∃ ns:List Bool,ds = ns.map PyData.bool/\R (.d (.bool (ns.all id))) S
theorem zsI {K:W.Frag}:RC (ztX K) zsS:=fun h o H S xs vs R Q hs hx q c=>by
 obtain ⟨x,rfl,ds,hd,ns,rfl,q1⟩:=zbf q
 obtain ⟨v,rfl,hx1⟩:=hxs1 hx
 obtain ⟨a,ws,rfl,ea,l⟩:=zbC hs hd hx1
 rw [ziE l] at ea
 exact ⟨a,ns,rfl,.of ea,c o H S _ _ Ex.refl hs (xB _) q1⟩
section
variable {S:Sto} {i:Int} {b:Bool} {z:Str} {ds:List PyData} {d:PyData} {k:Nat} {x y:XV} {R:RX} {c:String} {p:List PyData} {n:Nat} {v:V}
theorem zrm {K:Int->Prop}:asI (.d (.int i)) K = K i:=rfl
theorem zrL {K:Bool->Prop}:asB (.d (.bool b)) K = K b:=rfl
theorem zsQ {K:Str->Prop}:asS (.d (.str z)) K = K z:=rfl
theorem zsy {K:List PyData->Prop}:asT (.d (.tuple ds)) K = K ds:=rfl
theorem zsf {K:PyData->Prop}:asD (.d d) K = K d:=rfl
theorem zpz:znE S (.d (.list ds)) = some ds:=rfl
theorem zr9:asQ S (.l k) = S[k]?:=rfl
theorem zny:zfS S (.d d) = some d:=rfl
theorem zlP:zfS S (.l k) = (S[k]?).map .list:=rfl
theorem zoU:ret0 S R (.d d) [] = R (.d d) S:=rfl
theorem zpJ:ret0 S R (.l 0) [ds] = R (.l S.length) (S ++ [ds]):=rfl
theorem zpl:zsX k S R (.d d) [p] = R (.d d) (S.set k p):=rfl
theorem zr3:fin n R (.d d) S = R (.d d) (S.take n):=rfl
theorem zr8:fin n R (.l k) S = if k < n then R (.l k) (S.take n) else ∃ ds,S[k]? = some ds/\(R (.d (.list ds)) (S.take n)\/R (.l n) (S.take n ++ [ds])):=rfl
theorem zpi {K:XV->Prop}:arg1 [x] K = K x:=rfl
theorem zoJ {K:XV->XV->Prop}:arg2 [x,y] K = K x y:=rfl
theorem zoO {K:String->Prop}:ztd (.o (.ty c)) K ↔ K c:=⟨fun ⟨_,e,q⟩=>by cases e; exact q,fun q=>⟨c,rfl,q⟩⟩
theorem zpP {K:Int->Prop}:zs1 (.d (.bool b)) K = K (if b then 1 else 0):=rfl
theorem zlB:(zcE n R).rt x S = fin n R x S:=rfl
theorem ziR:datas [] = some []:=rfl
theorem zgF {r:List XV}:datas (.d d :: r) = (datas r).map (d :: ·):=rfl
end
theorem zrs {α:Type} {a:α} {l:List α}:atI (a :: l) 0 = some a:=zcV (j:=0) rfl
theorem zrQ {α:Type} {a b:α} {l:List α}:atI (a :: b :: l) 1 = some b:=zcV (j:=1) rfl
theorem zrX {α:Type} {a b c:α} {l:List α}:atI (a :: b :: c :: l) 2 = some c:=zcV (j:=2) rfl
def Shp (n:Nat) (d:PyData):Prop:=d.canLay0 = true/\d.depth <= n
theorem zhc {n:Nat} {i:Int}:Shp n (.int i):=⟨rfl,Nat.zero_le _⟩
theorem zjf {n:Nat}:∀ {ds:List PyData},(∀ d ∈ ds,Shp n d)->PyData.canLayAll0 ds = true/\PyData.depthAll ds <= n
 | [],_=>⟨by simp only [PyData.canLayAll0],by simp only [PyData.depthAll]; exact Nat.zero_le _⟩
 | d :: ds,h=>by
  obtain ⟨h1,h2⟩:=h d List.mem_cons_self
  obtain ⟨h3,h4⟩:=zjf (ds:=ds) fun e m=>h e (List.mem_cons_of_mem _ m)
  simp only [PyData.canLayAll0,PyData.depthAll,h1,h3,Bool.and_true,true_and]
  omega
theorem zjQ {n:Nat} {ds:List PyData} (h:∀ d ∈ ds,Shp n d):Shp (n + 1) (.list ds):=by
 obtain ⟨h1,h2⟩:=zjf h
 exact ⟨by simp only [PyData.canLay0]; exact h1,by simp only [PyData.depth]; omega⟩
theorem zmH {n:Nat} {ds:List PyData} (h:∀ d ∈ ds,Shp n d):Shp (n + 1) (.tuple ds):=by
 obtain ⟨h1,h2⟩:=zjf h
 exact ⟨by simp only [PyData.canLay0]; exact h1,by simp only [PyData.depth]; omega⟩
theorem zjd {α:Type} {n:Nat} {f:α->PyData} {l:List α} (h:∀ x ∈ l,Shp n (f x)):∀ d ∈ l.map f,Shp n d:=fun d m=>by
 obtain ⟨x,hx,rfl⟩:=List.mem_map.mp m
 exact h x hx
theorem ztt {n:Nat} {a b:PyData} (h1:Shp n a) (h2:Shp n b):∀ d ∈ [a,b],Shp n d:=by
 intro d m
 simp only [List.mem_cons,List.not_mem_nil,or_false] at m
 rcases m with rfl | rfl
 ·exact h1
 ·exact h2
theorem Shp.ok {n:Nat} {d:PyData} (h:Shp n d) (hn:n <= 64:=by decide):SeqAt.shaped d = true:=by
 unfold SeqAt.shaped
 rw [h.1,decide_eq_true (Nat.le_trans h.2 hn)]
 rfl
theorem za4 {g:DG} {b:DS} {E:DEnds}:∀ {ds:List PyData} {δ:XE} {S:Sto} (I:Nat->XE->Sto->Prop),I 0 δ S ->
  (∀ i d δ S (N:XE->Sto->Prop),ds[i]? = some d->I i δ S->(∀ δ' S',I (i + 1) δ' S'->N δ' S')->g (.d d) δ S fun δ1 S1=>b { nx:=N,ct:=N,bk:=E.nx,rt:=E.rt } δ1 S1) ->
  (∀ δ S,I ds.length δ S->E.nx δ S)->zkL g b ds E δ S
 | [],δ,S,I,h0,_,fin=>fin δ S h0
 | d :: ds,δ,S,I,h0,step,fin=>by
  show g (.d d) δ S fun δ1 S1=>b _ δ1 S1
  refine step 0 d δ S _ rfl h0 fun δ' S' h1=>?_
  exact za4 (ds:=ds) (fun i=>I (i + 1)) h1 (fun i e δ S N hi=>step (i + 1) e δ S N (by simpa using hi)) fin
theorem zhL {α:Type} {l:List α} {a b:α} {n:Nat} (h:l.length = n):(l ++ [a]).set n b = l ++ [b]:=by
 subst h
 rw [List.set_append_right _ _ (Nat.le_refl _),Nat.sub_self]
 rfl
theorem zpZ {H:Hp}:RepS [] [] H []:=⟨rfl,List.nodup_nil,fun _ h=>(nomatch h),fun _ h=>(nomatch h),fun _ _ _ e=>(by simp at e)⟩
theorem Ex.same_nil {o':List Addr} {H H':Hp} (e:Ex [] H o' H'):Same H H':=fun b u q=>(e.kp b u (by simp) q).2
theorem zqb {K:W.Frag} {a:Addr} {ns:List Int} {N:Int} {j m:Nat} {tb:TS} {db:DS} {D:Ends} {σ:St} {H:Hp} (hb:RS tb db) (h0:σ[0]? = some (some (.ref a))) (hl:σ.length = m + 1) (hS:SqL K H a (ns.map V.int)) (hlen:ns.length <= 63)
  (turn:∀ n:Int,db { nx:=fun δ _=>δ[0]? = some (some (.o (.ref a)))/\δ.length = m + 1,ct:=fun δ _=>δ[0]? = some (some (.o (.ref a)))/\δ.length = m + 1,rt:=fun _ _=>False } ((some (.o (.ref a)) :: List.replicate m none).set j (some (.d (.int n)))) [])
  (hj:j ≠ 0) (done:∀ (σ:St) (H1:Hp),Same H H1->D.nx σ H1) :
  zrJ (zqr K (tOp zq9 (zqi (zk5 (tC2 (zqW K) (znG 0) (tC (.int 0))) zq8)) (tSl (zrU K) (znG 0) (zk1 (tC (.int 1))) (zk1 (tC (.int N)))))) (ziF j) tb D σ H:=by
 refine zmY (a:=a) (ns:=ns) (fun σ=>σ[0]? = some (some (.ref a))/\σ.length = m + 1) h0 hS hlen ⟨h0,hl⟩ ?_ fun σ H1 _ s=>done σ H1 s
 rintro n σ1 H1 H2 ⟨z0,z1⟩ s1 s2
 refine hb [] [] H2 _ _ [] _ _ ⟨by simp [z1],fun i x e=>?_⟩ zpZ (turn n) ⟨?_,fun _ _ _ _ _ _ _ _ q=>q.elim,fun _ _ _ _ _ _ _ _ q=>q.elim,?_⟩
 ·rw [List.getElem?_set] at e ⊢
  by_cases hij:j = i
  ·rw [if_pos hij] at e ⊢
   by_cases hjl:j < m + 1
   ·rw [if_pos (by simpa using hjl)] at e
    rw [if_pos (by rw [z1]; exact hjl)]
    cases e
    exact ⟨.int n,rfl,xI n⟩
   ·rw [if_neg (by simpa using hjl)] at e
    cases e
  ·rw [if_neg hij] at e ⊢
   cases i with
   | zero =>
    cases e
    exact ⟨.ref a,z0,rfl⟩
   | succ i =>
    rw [List.getElem?_cons_succ,List.getElem?_replicate] at e
    split at e <;> cases e
 ·rintro o' H' δ' S' σ' e he hs ⟨q1,q2⟩
  obtain ⟨v,ev,hv⟩:=he.get 0 _ q1
  cases hv
  exact ⟨s2.trans e.same_nil,ev,by rw [<- he.len]; exact q2⟩
 ·rintro o' H' δ' S' σ' e he hs ⟨q1,q2⟩
  obtain ⟨v,ev,hv⟩:=he.get 0 _ q1
  cases hv
  exact ⟨s2.trans e.same_nil,ev,by rw [<- he.len]; exact q2⟩
end
section
theorem zni {P:Program} {w:World} {K:W.Frag} {tg:Expr} (it:Addr) (lo:Int) (n:Nat):Turn P w K tg (Itr lo n) [it] it (fun i h=>IsLongIter h it (lo + (i:Nat) * 1) ((n:Int) - (i:Nat)) 1) where
 mem:=by simp
 obj:=fun i h st b hb=>by
  have e:b = it:=by simpa using hb
  subst e
  exact ⟨_,st,fun v z=>by
   have z':Data.fields _ = Data.cell v:=z
   cases z'⟩
 keep:=fun i h h' st k=>k it (by simp) _ st
 item:=by
  intro X hP hw hK hc i zk s σ H E I hf st hg
  subst hP hw hK
  obtain ⟨f0,f1,f2,f3,f4,f5⟩:=hf it (by simp)
  have W:=Walks.longrange (prog:=X.prog) (w:=X.w) (I.ok.hd hc) it lo 1 n
  refine W.item i s _ _ hg st fun v h' tk hv st' kk=>?_
  obtain ⟨t,rfl⟩:=hv
  have I1:Inv X zk σ H { s with heap:=h',toks:=tk }:=I.turned (fun b o hb e=>kk b o (by simpa using hb) e) f0 f1 f3 f4 f5
  refine ⟨_,rfl,zmK (s:={ s with heap:=h',toks:=tk }) (n:="longrange_iterator") st' rfl rfl (by decide) ⟨.int (lo + i),H,I1,⟨t,?_⟩,⟨rfl,rfl⟩,st',fun b hb=>(hf b hb).1⟩⟩
  rw [Int.mul_one]
 done:=by
  intro X hP hw hK hc i zk s σ H E I hf st hg
  subst hP hw hK
  obtain ⟨f0,f1,f2,f3,f4,f5⟩:=hf it (by simp)
  exact wpAny_pyNext_long_end (I.ok.hd hc) st (by have:n <= i:=hg; omega) fun h' eb=>⟨rfl,I.turned (t':=s.toks) (fun b o hb e=>eb b o hb e) f0 f1 f3 f4 f5⟩
 self:=fun _ _ _ _ _ st h=>wpAny_pyIter_longiter st h
section
variable {X:Cx} {tg:Expr}
theorem zio {zk:List (Addr × Obj)} {σ:St} {H:Hp} {s:Shared} {R:It->Hp->Prop} {E:Value->Shared->Prop} {lo hi:Int} {t u v:Tok} {tk:Nat} (I:Inv X zk σ H s)
  (q:R (Itr lo (hi - lo).toNat) H):wpAny (model X.prog X.w) X.A (pyIter (.ref s.heap.objs.size)) (PIE X zk σ tg R) E { s with heap:=s.heap.push { cls:=.type "range",data:=.fields #[.int lo t,.int hi u,.int 1 v] },toks:=tk }:=by
 have I1:Inv X zk σ H { s with heap:=s.heap.push { cls:=.type "range",data:=.fields #[.int lo t,.int hi u,.int 1 v] },toks:=tk }:=I.kept fun b o e=>Heap.get?_push_of_some _ e
 have e1:lo + ((0:Nat):Int) * 1 = lo:=by simp
 have e2:(((hi - lo).toNat:Nat):Int) - ((0:Nat):Int) = Builtin.Range.rangeSize lo hi 1:=by rw [rangeSize_one]; split <;> omega
 cases hsm:Builtin.Range.small lo hi 1 with
 | true =>
  refine wpAny_pyIter_range (IsRange.new ..) hsm ?_
  refine ⟨(s.heap.push { cls:=.type "range",data:=.fields #[.int lo t,.int hi u,.int 1 v] }).objs.size,[(s.heap.push { cls:=.type "range",data:=.fields #[.int lo t,.int hi u,.int 1 v] }).objs.size],_,_,H,rfl,
   I1.kept (t':=tk) fun b o e=>Heap.get?_push_of_some _ e,zkK _ lo (hi - lo).toNat,?_,fun b hb=>?_,q⟩
  ·show IsRangeIter _ _ (lo + ((0:Nat):Int) * 1) ((((hi - lo).toNat:Nat):Int) - ((0:Nat):Int)) 1
   rw [e1,e2]
   exact Heap.get?_push_size _ rfl
  ·have e:b = (s.heap.push { cls:=.type "range",data:=.fields #[.int lo t,.int hi u,.int 1 v] }).objs.size:=by simpa using hb
   subst e
   exact I1.fpOk (Nat.le_refl _) (I1.hok.fresh (Nat.le_refl _))
 | false =>
  refine wpAny_pyIter_longrange (IsRange.new ..) hsm ?_
  refine ⟨(s.heap.push { cls:=.type "range",data:=.fields #[.int lo t,.int hi u,.int 1 v] }).objs.size,[(s.heap.push { cls:=.type "range",data:=.fields #[.int lo t,.int hi u,.int 1 v] }).objs.size],_,_,H,rfl,
   I1.kept (t':=tk) fun b o e=>Heap.get?_push_of_some _ e,zni _ lo (hi - lo).toNat,?_,fun b hb=>?_,q⟩
  ·show IsLongIter _ _ (lo + ((0:Nat):Int) * 1) ((((hi - lo).toNat:Nat):Int) - ((0:Nat):Int)) 1
   rw [e1,e2]
   exact Heap.get?_push_size _ rfl
  ·have e:b = (s.heap.push { cls:=.type "range",data:=.fields #[.int lo t,.int hi u,.int 1 v] }).objs.size:=by simpa using hb
   subst e
   exact I1.fpOk (Nat.le_refl _) (I1.hok.fresh (Nat.le_refl _))
def zpN (ta:TA):TI:=fun σ H R=>ta σ H fun vs H1=>∃ j:Int,vs = [.int j]/\R (Itr 0 j.toNat) H1
def zpR (ta:TA):TI:=fun σ H R=>ta σ H fun vs H1=>∃ i j:Int,vs = [.int i,.int j]/\R (Itr i (j - i).toNat) H1
theorem zaC {a:Expr} {ta:TA} {p pos:Pos} (hg:Gl X "range") (hm:X.mg "range" = none) (ha:PA X [a] ta) (hs:starEach [a] X.env = [(false,eval a X.env)]:=by rfl):PI X tg (.Call (.Name "range" p) [a] [] pos) (zpN ta):=by
 intro zk s σ H R I h
 refine Call_ (zfM I hg hm boot_range (PyProof.Rows.callWith_type1 (thn (ha pos zk s σ H _ I h) fun us s1 ⟨vs,H1,I1,r1,q1⟩=>?_) hs rfl))
 obtain ⟨j,e,q⟩:=q1
 subst e
 cases r1 with
 | cons r rr =>
  cases rr
  obtain ⟨t,rfl⟩:=r
  exact call_range_1 (zio I1 (by simpa using q))
theorem ze4 {a b:Expr} {ta:TA} {p pos:Pos} (hg:Gl X "range") (hm:X.mg "range" = none) (ha:PA X [a,b] ta) (hs:starEach [a,b] X.env = [(false,eval a X.env),(false,eval b X.env)]:=by rfl) (hs2:starEach [b] X.env = [(false,eval b X.env)]:=by rfl) :
  PI X tg (.Call (.Name "range" p) [a,b] [] pos) (zpR ta):=by
 intro zk s σ H R I h
 refine Call_ (zfM I hg hm boot_range (PyProof.Rows.callWith_type1 (thn (ha pos zk s σ H _ I h) fun us s1 ⟨vs,H1,I1,r1,q1⟩=>?_) (by rw [hs,hs2]) (by rw [hs2]; rfl)))
 obtain ⟨i,j,e,q⟩:=q1
 subst e
 cases r1 with
 | cons r rr =>
  cases rr with
  | cons r' rr =>
   cases rr
   obtain ⟨t,rfl⟩:=r
   obtain ⟨t',rfl⟩:=r'
   exact call_range_2 (zio I1 q)
end
def zaS (a:DA):DI:=fun δ S R=>a δ S fun xs S1=>arg1 xs fun x=>asI x fun j=>R (zi2 0 j.toNat) S1
def ze6 (a:DA):DI:=fun δ S R=>a δ S fun xs S1=>arg2 xs fun x y=>asI x fun i=>asI y fun j=>R (zi2 i (j - i).toNat) S1
theorem zbp {ta:TA} {da:DA} (ha:RA ta da):RI (zpN ta) (zaS da):=fun h o H δ σ S R Q he hs q c =>
 ha h o H δ σ S _ _ he hs q fun o1 H1 S1 xs vs e1 s1 x1 d0=>by
  obtain ⟨x,rfl,d2⟩:=zbf d0
  obtain ⟨j,rfl,d1⟩:=zba d2
  obtain ⟨v,rfl,hv⟩:=hxs1 x1
  rw [zaV hv]
  exact ⟨j,rfl,c o1 H1 S1 _ _ e1 s1 zh3 d1⟩
theorem zhR {ta:TA} {da:DA} (ha:RA ta da):RI (zpR ta) (ze6 da):=fun h o H δ σ S R Q he hs q c =>
 ha h o H δ σ S _ _ he hs q fun o1 H1 S1 xs vs e1 s1 x1 d0=>by
  obtain ⟨x,y,rfl,d2⟩:=zhe d0
  obtain ⟨i,rfl,d3⟩:=zba d2
  obtain ⟨j,rfl,d1⟩:=zba d3
  obtain ⟨v,u,rfl,hv,hu⟩:=hxs2 x1
  rw [zaV hv,zaV hu]
  exact ⟨i,j,rfl,c o1 H1 S1 _ _ e1 s1 zh3 d1⟩
end
section
open Sem (wp)
open AutoSeq1 (wpAny_loadPart')
section
variable {X:Cx} {zk:List (Addr × Obj)} {σ:St} {H:Hp} {s:Shared} {h':Heap}
theorem Inv.turnLaid {t':Nat} {ch:List Addr} {T:Addr} {o:HO} (I:Inv X zk σ H s) (k:∀ b u,b ∉ ch->s.heap.get? b = some u->h'.get? b = some u) (hf:∀ b ∈ ch,FpOk X zk H b) (hT:s.heap.objs.size <= T)
  (new:ObjOk X.prog X.w (upd H T o) h' T o):Inv X zk σ (upd H T o) { s with heap:=h',toks:=t' }:=by
 have hn:H T = none:=I.hok.fresh hT
 have nch:∀ b u,H b = some u->b ∉ ch:=fun b u e m=>by rw [(hf b m).1] at e; cases e
 have neT:∀ b u,s.heap.get? b = some u->b ≠ T:=fun b u e z=>absurd (Nat.lt_of_lt_of_le (Heap.lt_size e) hT) (by rw [z]; exact Nat.lt_irrefl _)
 have up:∀ b u,H b = some u->upd H T o b = some u:=fun b u e=>(zY (zac e hn)).trans e
 refine I.step (g':=s.gens) (d':=s.drawn) (ch:=ch) (fun b hb=>?_) (fun b u _ _ hc e _=>k b u hc e) (fun b u _ _ hc e _=>⟨u.slots,k b u hc e⟩) (fun b u _ e n=>(zY (neT b u e)).trans n)
  (fun b u hc e=>⟨u,k b u hc e⟩) (fun b xs e=>up b _ e) (fun b u v e=>up b _ e) (fun b ps e=>⟨#[],by rw [up b _ e]; simp⟩) (fun m hm=>?_) (fun b u e=>?_) I.bare
 ·obtain ⟨_,f1,_,f3,f4,f5⟩:=hf b hb
  exact ⟨f3,f1,f4,f5⟩
 ·obtain ⟨ob,es,ep,ho,r⟩:=hm
  exact ⟨ob,es,ep,k _ ob (fun z=>(hf _ z).2.1 rfl) ho,r⟩
 ·by_cases hb:b = T
  ·subst hb
   rw [zag] at e
   cases e
   exact new
  ·rw [zY hb] at e
   refine (I.hok b u e).stay (fun c v hc q=>k c v ?_ q) (fun c q=>up c _ q) fun c xs q=>up c _ q
   rcases hc with z | z
   ·rw [z]; exact nch b u e
   ·exact nch c _ z
theorem Inv.turnedN {t':Nat} {ch:List Addr} (I:Inv X zk σ H s) (k:∀ b u,b ∉ ch->s.heap.get? b = some u->h'.get? b = some u) (hf:∀ b ∈ ch,FpOk X zk H b):Inv X zk σ H { s with heap:=h',toks:=t' }:=by
 have nch:∀ b u,H b = some u->b ∉ ch:=fun b u e m=>by rw [(hf b m).1] at e; cases e
 refine I.step (g':=s.gens) (d':=s.drawn) (ch:=ch) (fun b hb=>?_) (fun b u _ _ hc e _=>k b u hc e) (fun b u _ _ hc e _=>⟨u.slots,k b u hc e⟩) (fun b u _ e n=>n)
  (fun b u hc e=>⟨u,k b u hc e⟩) (fun b xs e=>e) (fun b u v e=>e) (fun b ps e=>⟨#[],by rw [e]; simp⟩) (fun m hm=>?_) (fun b u e=>?_) I.bare
 ·obtain ⟨_,f1,_,f3,f4,f5⟩:=hf b hb
  exact ⟨f3,f1,f4,f5⟩
 ·obtain ⟨ob,es,ep,ho,r⟩:=hm
  exact ⟨ob,es,ep,k _ ob (fun z=>(hf _ z).2.1 rfl) ho,r⟩
 ·refine (I.hok b u e).stay (fun c v hc q=>k c v ?_ q) (fun _ q=>q) fun _ _ q=>q
  rcases hc with z | z
  ·rw [z]; exact nch b u e
  ·exact nch c _ z
end
section
variable {prog:Program} {w:World} {A:Around} {E:Value->Shared->Prop} {s:Shared}
theorem zkT {j t:Addr} {i:Nat} {vs:Array Value} {x:Value} {Q:Value->Shared->Prop} (hj:s.heap.IsTupleIter j t i) (ht:s.heap.IsTuple t vs) (hx:vs[i]? = some x)
  (hQ:∀ g,g.IsTupleIter j t (i + 1)->Heap.SameBut j s.heap g->Q x { s with heap:=g }):wpAny (model prog w) A (Builtin.SmallTypes.nextOf (.ref j)) Q E s:=by
 obtain ⟨oj,ej,cj,dj⟩:=id hj
 obtain ⟨ot,et,_,nt,dt⟩:=ht
 unfold Builtin.SmallTypes.nextOf
 refine wpAny_bind (wpAny_callSpecial?_slot (name:=Str.ofString "__next__") hj.typeIs F.slot_tuple_iterator_next (wpAny_call_entry F.slot_tuple_iterator_next hj.typeIs F.entry_tuple_iterator_next ?_ (F.args_tuple_iterator_next_1 _)))
 show wpAny _ _ (field (.ref j) 0 >>= _) _ _ s
 refine wpAny_bind (wpAny_field ej dj (x:=.ref t) rfl ?_)
 show wpAny _ _ (ite ((Value.ref t == Value.none) = true) _ _) _ _ s
 refine (if_neg (show ¬ ((Value.ref t == Value.none) = true) from Bool.false_ne_true)) ▸ ?_
 show wpAny _ _ (field (.ref j) 1 >>= _) _ _ s
 refine wpAny_bind (wpAny_field ej dj (x:=.int i 0) rfl ?_)
 refine wpAny_bind (m:=seqItems? (.ref t)) (wpAny_seqItems et dt ?_)
 simp only [hx,Int.toNat_natCast]
 refine wpAny_bind (wpAny_setField ej dj (by simp) (wpAny_pure ⟨x,rfl,wpAny_pure (hQ _ ⟨_,Heap.get?_update_self _ ej (Obj.isFreed_of_fields (Obj.data_mapFields dj _)),(Obj.cls_mapFields ..).trans cj,?_⟩ (Heap.SameBut.update ..))⟩))
 rw [Obj.data_mapFields dj]
 simp [rawInt]
theorem zgz {j t:Addr} {i:Nat} {vs:Array Value} {Q:Value->Shared->Prop} (hh:A.handled = none) (hj:s.heap.IsTupleIter j t i) (ht:s.heap.IsTuple t vs) (hx:vs[i]? = none)
  (hE:∀ g e,Heap.ExtBut j s.heap g->(∃ o,g.get? e = some o/\o.cls = .type "StopIteration")->E (.ref e) { s with heap:=g }):wpAny (model prog w) A (Builtin.SmallTypes.nextOf (.ref j)) Q E s:=by
 obtain ⟨oj,ej,cj,dj⟩:=id hj
 obtain ⟨ot,et,_,nt,dt⟩:=ht
 unfold Builtin.SmallTypes.nextOf
 refine wpAny_bind (wpAny_callSpecial?_slot (name:=Str.ofString "__next__") hj.typeIs F.slot_tuple_iterator_next (wpAny_call_entry F.slot_tuple_iterator_next hj.typeIs F.entry_tuple_iterator_next ?_ (F.args_tuple_iterator_next_1 _)))
 show wpAny _ _ (field (.ref j) 0 >>= _) _ _ s
 refine wpAny_bind (wpAny_field ej dj (x:=.ref t) rfl ?_)
 show wpAny _ _ (ite ((Value.ref t == Value.none) = true) _ _) _ _ s
 refine (if_neg (show ¬ ((Value.ref t == Value.none) = true) from Bool.false_ne_true)) ▸ ?_
 show wpAny _ _ (field (.ref j) 1 >>= _) _ _ s
 refine wpAny_bind (wpAny_field ej dj (x:=.int i 0) rfl ?_)
 refine wpAny_bind (m:=seqItems? (.ref t)) (wpAny_seqItems et dt ?_)
 simp only [hx,Int.toNat_natCast]
 refine wpAny_bind (wpAny_rule (wpAny_bind (wpAny_setField ej dj (by simp) ?_)))
 show wpAny _ _ (newExc (.type "StopIteration") [] >>= _) _ _ _
 refine wpAny_bind ?_
 simp only [newExc,newTuple]
 refine wpAny_bind (wpAny_newObj_type ?_ (by size_fits)); refine wpAny_bind (m:=firstArgMember _ _) (wpAny_of_eq (a:=Value.none) (by first | rfl | (simp only [firstArgMember]; rfl)) ?_)
 refine wpAny_newObj_type ?_ (by size_fits); simp only [raiseNew]
 refine wpAny_bind (wpAny_handled ?_)
 first | rw [show A.in1.handled = none from hh] | rw [hh]
 exact wpAny_bind (wpAny_pure (wpAny_throw (hE _ _ (((Heap.SameBut.update ..).extBut.push _).push _) ⟨_,Heap.get?_push_size _ rfl,rfl⟩)))
end
def zsB (i:Nat):List PyData->List PyData
 | []=>[]
 | d :: ds=>.tuple [.int i,d] :: zsB (i + 1) ds
theorem zol {X:Cx} {x:Str} {i:Int} {pos:Pos} (hg:Gl X x) (hm:∃ t,X.mg x = some (.int i t)) (hd:(x == ("__debug__":Str)) = false:=by decide):PE X (.Name x pos) (tC (.int i)):=by
 obtain ⟨t,e⟩:=hm
 exact zqA hg e ⟨t,rfl⟩ hd
end
section
def dIx:D2:=fun x y S R=>asI y fun i=>match x with
 | .d (.tuple ds)=>∃ d,atI ds i = some d/\R (.d d) S
 | .d (.list ds)=>∃ d,atI ds i = some d/\R (.d d) S
 | .l k=>∃ ds,S[k]? = some ds/\∃ d,atI ds i = some d/\R (.d d) S
 | .d (.str z)=>z.length <= sizeLine/\∃ c,atI z.cps.toList i = some c/\R (.d (.str ⟨#[c]⟩)) S
 | _=>False
theorem zrP:RO ztf (fun x y S R=>asS x fun z=>asI y fun i=>z.length <= sizeLine/\∃ c,atI z.cps.toList i = some c/\R (.d (.str ⟨#[c]⟩)) S):=fun h o H S x y v u R Q hs hx hy q c=>by
 replace q:=zlI q
 obtain ⟨z,rfl,q⟩:=q
 replace q:=zba q
 obtain ⟨i,rfl,hz,k,ek,q⟩:=q
 exact ⟨z,i,k,zdH hx,zaV hy,hz,ek,c o H S _ _ Ex.refl hs (xS _) q⟩
theorem zT {K:W.Frag}:RO (rIx K) dIx:=fun h o H S x y v u R Q hs hx hy q c=>by
 replace q:=zba q
 obtain ⟨i,rfl,q⟩:=q
 split at q
 ·exact .inr (.inl (zrw h o H S _ _ v u R Q hs hx hy q c))
 ·exact .inl (zpc h o H S _ _ v u R Q hs hx hy ⟨_,rfl,q⟩ c)
 ·exact .inl (zpc h o H S _ _ v u R Q hs hx hy q c)
 ·exact .inr (.inr (zrP h o H S _ _ v u R Q hs hx hy q c))
 ·exact q.elim
section
variable {S:Sto} {R:RX} {ds:List PyData} {i:Int} {k:Nat} {z:Str}
theorem zr0:dIx (.d (.tuple ds)) (.d (.int i)) S R = ∃ d,atI ds i = some d/\R (.d d) S:=rfl
theorem zr5:dIx (.d (.list ds)) (.d (.int i)) S R = ∃ d,atI ds i = some d/\R (.d d) S:=rfl
theorem zsA:dIx (.l k) (.d (.int i)) S R = ∃ ds,S[k]? = some ds/\∃ d,atI ds i = some d/\R (.d d) S:=rfl
theorem zrl:dIx (.d (.str z)) (.d (.int i)) S R = (z.length <= sizeLine/\∃ c,atI z.cps.toList i = some c/\R (.d (.str ⟨#[c]⟩)) S):=rfl
end
def ztD (K:W.Frag):V->Option Int->Option Int->Hp->VK->Prop:=fun x a b H Q=>zrU K x a b H Q\/(zs6 K x a b H Q\/ztO x a b H Q)
theorem zkA {X:Cx}:SlR X (ztD X.K):=zmf.or (zo4.or zsw)
def zll:D3:=fun x i j S R=>match x with
 | .d (.tuple ds)=>¬ (HT.sIx ds.length 0 i = 0/\HT.sIx ds.length ds.length j = ds.length)/\R (.d (.tuple (zeu ds i j))) S
 | .d (.list ds)=>R (.d (.list (zeu ds i j))) S
 | .l k=>∃ ds,S[k]? = some ds/\R (.d (.list (zeu ds i j))) S
 | .d (.str z)=>z.length <= sizeLine/\R (.d (.str (PySem.Txt.slice z i j))) S
 | _=>False
theorem zkl {K:W.Frag}:RL (ztD K) zll:=fun h o H S x v a b R Q hs hx q c=>by
 unfold zll at q
 split at q
 ·exact .inr (.inl (zsD h o H S _ v a b R Q hs hx q c))
 ·exact .inl (zmw h o H S _ v a b R Q hs hx ⟨_,rfl,q⟩ c)
 ·exact .inl (zmw h o H S _ v a b R Q hs hx q c)
 ·exact .inr (.inr ⟨_,zdH hx,q.1,c o H S _ _ Ex.refl hs (xS _) q.2⟩)
 ·exact q.elim
section
variable {S:Sto} {R:RX} {ds:List PyData} {i j:Option Int} {k:Nat} {z:Str}
theorem zpd:zll (.d (.tuple ds)) i j S R = (¬ (HT.sIx ds.length 0 i = 0/\HT.sIx ds.length ds.length j = ds.length)/\R (.d (.tuple (zeu ds i j))) S):=rfl
theorem zo7:zll (.l k) i j S R = ∃ ds,S[k]? = some ds/\R (.d (.list (zeu ds i j))) S:=rfl
theorem zoM:zll (.d (.str z)) i j S R = (z.length <= sizeLine/\R (.d (.str (PySem.Txt.slice z i j))) S):=rfl
end
def zoV (K:W.Frag):R2:=fun x y H Q=>∃ a b ys,x = .ref a/\y = .ref b/\SqT K H a []/\SqT K H b ys/\Q (.ref b) H
theorem zos {X:Cx}:OpR X (binaryOp .Add) (zoV X.K):=by
 intro zk s σ H x y v u Q I rx ry h
 obtain ⟨a,b,ys,rfl,rfl,ha,hb,q⟩:=h
 cases rx
 cases ry
 obtain ⟨its,r1,p1,_⟩:=I.tuple ha
 obtain ⟨its2,r2,p2,_⟩:=I.tuple hb
 cases r1
 obtain ⟨⟨c1,d1,e1,l1⟩,o1,w1,n1,k1⟩:=id p1
 obtain ⟨⟨c2,d2,e2,l2⟩,o2,w2,n2,k2⟩:=id p2
 simp only at w1 k1 w2 k2
 subst w1 k1 w2 k2
 exact concat_meets ⟨_,o1,rfl⟩ ⟨_,o2,rfl⟩ noFill_tuple_add seq_tuple_add PySem.F.slot_tuple_add PySem.F.entry_tuple_add (PySem.F.args_tuple_add_2 _ _) (tuple_addW0 a b _ _ n1 n2 d1 d2 l1 l2 (by simp)) ⟨o1,o2,⟨.ref b,H,I,rfl,q⟩⟩
def zsO (K:W.Frag):R2:=fun x y H Q=>rI0 (fun i j=>.int (i + j)) x y H Q\/(zq9 x y H Q\/(zp3 K x y H Q\/(zoV K x y H Q\/∃ i j,x = .str i/\y = .str j/\i.length + j.length <= sizeLine/\Q (.str (i ++ j)) H)))
theorem zH {X:Cx}:OpR X (binaryOp .Add) (zsO X.K):=zrS.or (zlM.or (zqe.or (zos.or zkI)))
def zbm:D2:=fun x y S R=>match x,y with
 | .d (.int i),.d (.int j)=>R (.d (.int (i + j))) S
 | .d (.tuple ds),.d (.tuple es)=>ds.length + es.length <= 1000/\R (.d (.tuple (ds ++ es))) S
 | .d (.str a),.d (.str b)=>a.length + b.length <= sizeLine/\R (.d (.str (a ++ b))) S
 | x,y=>asL S x fun ds=>asL S y fun es=>ds.length + es.length <= 1000/\R (.d (.list (ds ++ es))) S
theorem zX {K:W.Frag}:RO (zsO K) zbm:=fun h o H S x y v u R Q hs hx hy q c=>by
 unfold zbm at q
 split at q
 ·exact .inl (zcm h o H S _ _ v u R Q hs hx hy q c)
 ·rename_i ds es
  cases ds with
  | cons d ds=>exact .inr (.inr (.inl (zp1 h o H S _ _ v u R Q hs hx hy ⟨by simp,q⟩ c)))
  | nil =>
   obtain ⟨a,vs,rfl,ea,l⟩:=zcg hx
   obtain ⟨b,us,rfl,eb,l'⟩:=zcg hy
   rw [zL.mp l] at ea
   exact .inr (.inr (.inr (.inl ⟨a,b,us,rfl,rfl,.of ea,.of eb,c o H S (.d (.tuple es)) _ Ex.refl hs hy q.2⟩)))
 ·exact .inr (.inr (.inr (.inr ⟨_,_,zdH hx,zdH hy,q.1,c o H S _ _ Ex.refl hs (xS _) q.2⟩)))
 ·exact .inr (.inl (zsL h o H S _ _ v u R Q hs hx hy q c))
section
variable {S:Sto} {R:RX} {ds es:List PyData} {i j:Int} {k l:Nat} {a b:Str}
theorem zpy:zbm (.d (.int i)) (.d (.int j)) S R = R (.d (.int (i + j))) S:=rfl
theorem zpr:zbm (.d (.tuple ds)) (.d (.tuple es)) S R = (ds.length + es.length <= 1000/\R (.d (.tuple (ds ++ es))) S):=rfl
theorem zmW:zbm (.d (.list ds)) (.d (.list es)) S R ↔ (ds.length + es.length <= 1000/\R (.d (.list (ds ++ es))) S):=⟨fun ⟨_,e,_,e',q⟩=>by cases e; cases e'; exact q,fun q=>⟨_,rfl,_,rfl,q⟩⟩
end
def zrf:R2:=fun x y H Q=>rI IntMulOk (fun i j=>.int (i * j)) x y H Q\/(zsj x y H Q\/ztC x y H Q)
theorem zay {X:Cx}:OpR X (binaryOp .Mult) zrf:=zqj.or (zqz.or zrt)
def zdQ:D2:=fun x y S R=>asI y fun j=>match x with
 | .d (.int i)=>IntMulOk i j/\R (.d (.int (i * j))) S
 | .d (.str z)=>z.length <= 1000/\j <= 1000/\-1000 <= j/\R (.d (.str (PySem.Txt.mul z j))) S
 | .d (.list ds)=>j <= 1000/\-1000 <= j/\ds.length * j.toNat <= 1000/\R (.d (.list (List.replicate j.toNat ds).flatten)) S
 | _=>False
theorem HasL.rep {H:Hp} {ds:List PyData} {vs:List V} (l:HasL H ds vs):∀ n:Nat,HasL H (List.replicate n ds).flatten (List.replicate n vs).flatten
 | 0=>zL.mpr rfl
 | n + 1=>by
  rw [List.replicate_succ,List.replicate_succ,List.flatten_cons,List.flatten_cons]
  exact l.append (HasL.rep l n)
theorem zbb:RO zrf zdQ:=fun h o H S x y v u R Q hs hx hy q c=>by
 replace q:=zba q
 obtain ⟨j,rfl,q⟩:=q
 split at q
 ·exact .inl (zhl h o H S _ _ v u R Q hs hx hy q c)
 ·exact .inr (.inl ⟨_,_,zdH hx,zaV hy,q.1,q.2.1,q.2.2.1,c o H S _ _ Ex.refl hs (xS _) q.2.2.2⟩)
 ·obtain ⟨a,vs,rfl,ea,l⟩:=zbC (x:=.d (.list _)) hs rfl hx
  obtain ⟨h1,h2,h3,q⟩:=q
  exact .inr (.inr ⟨a,j,vs,rfl,zaV hy,ea,by omega,by omega,by rw [l.length]; exact Nat.le_of_lt (small1000 h3),zmd hs (l.rep j.toNat) c q⟩)
 ·exact q.elim
section
variable {S:Sto} {R:RX} {i j:Int} {z:Str} {ds:List PyData}
theorem zoX:zdQ (.d (.list ds)) (.d (.int j)) S R = (j <= 1000/\-1000 <= j/\ds.length * j.toNat <= 1000/\R (.d (.list (List.replicate j.toNat ds).flatten)) S):=rfl
theorem zpf:zdQ (.d (.int i)) (.d (.int j)) S R = (IntMulOk i j/\R (.d (.int (i * j))) S):=rfl
theorem zoK:zdQ (.d (.str z)) (.d (.int j)) S R = (z.length <= 1000/\j <= 1000/\-1000 <= j/\R (.d (.str (PySem.Txt.mul z j))) S):=rfl
end
def ztM:R2:=fun x y H Q=>rI CDivX (fun i j=>.int (i / j)) x y H Q\/rI CDivN (fun i j=>.int (i.fdiv j)) x y H Q
theorem zfr {X:Cx}:OpR X (binaryOp .FloorDiv) ztM:=zoB.or zoh
def dFd:D2:=fun x y S R=>asI x fun i=>asI y fun j=>(CDivX i j/\R (.d (.int (i / j))) S)\/(CDivN i j/\R (.d (.int (i.fdiv j))) S)
theorem ziP:RO ztM dFd:=fun h o H S x y v u R Q hs hx hy q c=>by
 replace q:=zba q
 obtain ⟨i,rfl,q⟩:=q
 replace q:=zba q
 obtain ⟨j,rfl,q⟩:=q
 rcases q with q | q
 ·exact .inl (zhl (C:=CDivX) (g:=fun i j=>i / j) h o H S _ _ v u R Q hs hx hy q c)
 ·exact .inr (zhl (C:=CDivN) (g:=fun i j=>i.fdiv j) h o H S _ _ v u R Q hs hx hy q c)
def zs8 (S:Sto):XV->Option Bool
 | .d .none=>some false
 | .d (.bool b)=>some b
 | .d (.int i)=>some (i != 0)
 | .d (.str z)=>if z.length <= sizeLine then some ((z.length:Int) != 0) else none
 | .d (.list ds)=>some (!ds.isEmpty)
 | .d (.tuple ds)=>some (!ds.isEmpty)
 | .l k=>(S[k]?).map fun ds=>!ds.isEmpty
 | _=>none
def zln (a:DE):DT:=fun δ S R=>a δ S fun x S1=>∃ k,zs8 S1 x = some k/\R k S1
theorem zen {H:Hp} {ds:List PyData} {vs:List V} (l:HasL H ds vs):(!ds.isEmpty) = !vs.isEmpty:=by
 have:=l.length
 cases ds <;> cases vs <;> simp_all
theorem zeD {K:W.Frag} {ta:TE} {da:DE} (ha:RE ta da):RT (fun σ H Q=>ta σ H fun x H'=>∃ k,TruV K x H' k/\Q k H') (zln da):=fun h o H δ σ S R Q he hs q c =>
 ha h o H δ σ S _ _ he hs q fun o1 H1 S1 x v e1 s1 x1 ⟨k,ek,d1⟩=>by
  refine ⟨k,?_,c o1 H1 S1 k e1 s1 d1⟩
  unfold zs8 at ek
  split at ek
  ·cases ek; rw [(zfw (H:=vx h o1 H1)).mp x1]; rfl
  ·cases ek; rw [zet x1]; rfl
  ·cases ek; rw [zaV x1]; rfl
  ·split at ek
   ·rename_i hz
    cases ek; rw [zdH x1]; exact ⟨hz,rfl⟩
   ·cases ek
  ·obtain ⟨a,vs,rfl,ea,l⟩:=zbC (x:=.d (.list _)) s1 rfl x1
   cases ek
   exact .inl ⟨vs,.of ea,zen l⟩
  ·obtain ⟨a,vs,rfl,ea,l⟩:=zcg x1
   cases ek
   exact .inr (.inl ⟨vs,.of ea,zen l⟩)
  ·rename_i j _
   cases hj:S1[j]? with
   | none=>rw [hj] at ek; cases ek
   | some ds =>
    rw [hj] at ek
    cases ek
    obtain ⟨a,vs,rfl,ea,l⟩:=zbC (x:=.l j) s1 hj x1
    exact .inl ⟨vs,.of ea,zen l⟩
  ·cases ek
section
variable {S:Sto} {b:Bool} {i:Int} {ds:List PyData} {k:Nat}
theorem zo6:zs8 S (.d (.bool b)) = some b:=rfl
end
def zg6:DS:=fun _ _ _=>False
theorem zht:RS zpQ zg6:=fun h o H δ σ S E D he hs q c=>q.elim
def ztK (K:W.Frag) (tl:TE):TI:=fun σ H R=>tl σ H fun x H1=>∃ a,x = .ref a/\(((∃ xs,SqL K H1 a xs)/\R (Itl K a) H1)\/((∃ xs,SqT K H1 a xs)/\R (Itt K a) H1))
theorem zdD {X:Cx} {tg:Expr} {l:Expr} {tl:TE} (hl:PE X l tl):PI X tg l (ztK X.K tl):=by
 intro zk s σ H R I h
 refine thn (hl zk s σ H _ I h) fun v s1 ⟨x,H1,I1,r1,q1⟩=>?_
 obtain ⟨a,e,⟨⟨xs,hq⟩,q⟩ | ⟨⟨xs,hq⟩,q⟩⟩:=q1
 ·subst e
  cases r1
  obtain ⟨its,rv,p,hz⟩:=I1.list hq
  refine wpAny_pyIter_list p.isList ?_
  refine ⟨s1.heap.objs.size,[s1.heap.objs.size],_,_,H1,rfl,I1.kept (t':=s1.toks) fun b o e=>Heap.get?_push_of_some _ e,zhY a _,⟨_,Heap.get?_push_size _ rfl,rfl,rfl⟩,fun b hb=>?_,q⟩
  have e:b = s1.heap.objs.size:=by simpa using hb
  subst e
  exact I1.fpOk (Nat.le_refl _) (I1.hok.fresh (Nat.le_refl _))
 ·subst e
  cases r1
  obtain ⟨its,rv,p,hz⟩:=I1.tuple hq
  refine wpAny_pyIter_tuple (show s1.heap.IsTuple a its.toArray from p) ?_
  refine ⟨s1.heap.objs.size,[s1.heap.objs.size],_,_,H1,rfl,I1.kept (t':=s1.toks) fun b o e=>Heap.get?_push_of_some _ e,zlb a _,⟨_,Heap.get?_push_size _ rfl,rfl,rfl⟩,fun b hb=>?_,q⟩
  have e:b = s1.heap.objs.size:=by simpa using hb
  subst e
  exact I1.fpOk (Nat.le_refl _) (I1.hok.fresh (Nat.le_refl _))
def zlm:XV->Option (List PyData)
 | .d (.list ds)=>some ds
 | .d (.tuple ds)=>some ds
 | _=>none
theorem zpw {ds:List PyData}:zlm (.d (.list ds)) = some ds:=rfl
theorem zoQ {ds:List PyData}:zlm (.d (.tuple ds)) = some ds:=rfl
def zd0 (e:DE):DI:=fun δ S R=>e δ S fun x S1=>∃ ds,zlm x = some ds/\R ds S1
theorem zdn {K:W.Frag} {te:TE} {de:DE} (he':RE te de):RI (ztK K te) (zd0 de):=fun h o H δ σ S R Q he hs q c =>
 he' h o H δ σ S _ _ he hs q fun o1 H1 S1 x v e1 s1 x1 ⟨ds,ex,d1⟩=>by
  unfold zlm at ex
  split at ex
  ·cases ex
   obtain ⟨a,vs,rfl,ea,l⟩:=zbH.mp (show Has _ _ _ from x1)
   have hl:=l.length
   refine ⟨a,rfl,.inl ⟨⟨vs,.of (zak _ _ ea)⟩,c o1 H1 S1 ds _ e1 s1 ⟨fun i o2 H2 e2 hi=>⟨vs,.of (zak _ _ (e2.vx _ _ ea)),by omega⟩,fun i d o2 H2 e2 hi=>?_,fun i d o2 H2 x H3 S2 e2 s2 hi y=>?_⟩ d1⟩⟩
   ·obtain ⟨v,ev,_⟩:=l.get hi
    exact ⟨vs,v,.of (zak _ _ (e2.vx _ _ ea)),ev⟩
   ·obtain ⟨v,ev,hv⟩:=l.get hi
    have e3:H3 = H2:=y.1
    subst e3
    have ex:=y.2 vs (.of (zak _ _ (e2.vx _ _ ea)))
    rw [ev] at ex
    cases ex
    exact ⟨Same.refl _,hv.mono e2.vx⟩
  ·cases ex
   obtain ⟨a,vs,rfl,ea,l⟩:=zaB.mp (show Has _ _ _ from x1)
   have hl:=l.length
   refine ⟨a,rfl,.inr ⟨⟨vs,.of (zak _ _ ea)⟩,c o1 H1 S1 ds _ e1 s1 ⟨fun i o2 H2 e2 hi=>⟨vs,.of (zak _ _ (e2.vx _ _ ea)),by omega⟩,fun i d o2 H2 e2 hi=>?_,fun i d o2 H2 x H3 S2 e2 s2 hi y=>?_⟩ d1⟩⟩
   ·obtain ⟨v,ev,_⟩:=l.get hi
    exact ⟨vs,v,.of (zak _ _ (e2.vx _ _ ea)),ev⟩
   ·obtain ⟨v,ev,hv⟩:=l.get hi
    have e3:H3 = H2:=y.1
    subst e3
    have ex:=y.2 vs (.of (zak _ _ (e2.vx _ _ ea)))
    rw [ev] at ex
    cases ex
    exact ⟨Same.refl _,hv.mono e2.vx⟩
  ·cases ex
end
section
abbrev PN:=List XV->Sto->RX->Prop
def lfN (q:PN):List V->Hp->VK->Prop:=fun vs H Q=>∃ h o S xs R,RepS h o H S/\HasXs h o H xs vs/\q xs S R/\Cn h o H R Q
def spN (ps:List Str) (q:PN):Sp:=fun vs H Q _=>vs.length = ps.length/\lfN q vs H Q
theorem HasXs.len {h o:List Addr} {H:Hp}:∀ {xs:List XV} {vs:List V},HasXs h o H xs vs->vs.length = xs.length
 | [],vs,q=>by rw [show vs = [] from q]; rfl
 | x :: xs,vs,⟨v,r,e,_,l⟩=>by rw [e,List.length_cons,List.length_cons,HasXs.len l]
theorem HasXs.get {h o:List Addr} {H:Hp}:∀ {xs:List XV} {vs:List V} {i:Nat} {x:XV},HasXs h o H xs vs->xs[i]? = some x->∃ v,vs[i]? = some v/\HasX h o H x v
 | [],_,i,_,_,e=>by simp at e
 | y :: xs,vs,0,x,⟨v,r,e1,q,l⟩,e=>by
  rw [List.getElem?_cons_zero] at e
  cases e
  subst e1
  exact ⟨v,rfl,q⟩
 | y :: xs,vs,i + 1,x,⟨v,r,e1,q,l⟩,e=>by
  subst e1
  rw [List.getElem?_cons_succ] at e ⊢
  exact HasXs.get l e
theorem zle {h o:List Addr} {H:Hp} {xs:List XV} {vs:List V} {n:Nat} (q:HasXs h o H xs vs):RepE h o H (xs.map some ++ List.replicate n none) (vs.map some ++ List.replicate n none):=by
 have hl:=q.len
 refine ⟨by simp [hl],fun i x e=>?_⟩
 by_cases hi:i < xs.length
 ·rw [List.getElem?_append_left (by rw [List.length_map]; exact hi),List.getElem?_map] at e
  obtain ⟨y,ey,e⟩:=Option.map_eq_some_iff.mp e
  cases e
  obtain ⟨v,ev,hv⟩:=q.get ey
  exact ⟨v,by rw [List.getElem?_append_left (by rw [List.length_map,hl]; exact hi),List.getElem?_map,ev]; rfl,hv⟩
 ·rw [List.getElem?_append_right (by rw [List.length_map]; omega),List.getElem?_replicate] at e
  split at e <;> cases e
section
variable {P:Program} {w:World} {K:W.Frag} {mg:Str->Option Value} {base:Heap} {x:Str} {st:Stmt} {N ps:List Str} {k:Nat}
theorem Df.dN {q:PN} (D:Dd K mg x st ps) (S:FnScope N ps (zq st)) (n:Nat) (hn:N.length = ps.length + n)
  (hbody:∀ (f:Addr) (cdv:Value) (A:Around) (outer:List Env) (s:Shared) (H:Hp) (E:XK),Room k (A.deeper (envOfC x (zq st) s.heap.objs.size f cdv)) ->
   ∃ t dt,PSs (znH CX0 P w K mg base N x (zq st) f cdv A outer s H E).nox (zbX st) t/\RS t dt/\∀ xs S R,q xs S R->dt (zcE S.length R) (xs.map some ++ List.replicate n none) S):Df P w K mg base x ps (k + 1) (spN ps q):=by
 refine Df.of D S (fun vs H Q E h=>h.1) fun f cdv A outer s H vs Q E hr ⟨hl,h,o,S',xs,R,hs',hx,hq,c⟩=>?_
 obtain ⟨t,dt,h1,h2,h3⟩:=hbody f cdv A outer s H E hr
 refine ⟨t,h1,h2 h o H _ _ S' _ _ ?_ hs' (h3 xs S' R hq) (eok hs' c)⟩
 have e:N.length - vs.length = n:=by omega
 unfold start
 rw [e]
 exact zle hx
end
section
variable {X:Cx} {x:Str} {ps:List Str} {k j:Nat} {pos pos':Pos} {e:Expr} {es:List Expr} {t:TA}
theorem zx {q:PN} (D:Df X.prog X.w X.K X.mg X.base x ps k (spN ps q)) (hr:Room j X.A) (hk:k <= j) (ha:PA X (e :: es) t) (hg:Gl X x:=by rfl) (hdb:(x == ("__debug__":Str)) = false:=by decide)
  (q1:starEach (e :: es) X.env = (false,eval e X.env) :: starEach es X.env:=by rfl) (q2:((backTo pos (starEach es X.env)).any fun x=>x.fst) = false:=by rfl):PE X (.Call (.Name x pos') (e :: es) [] pos) (znX (spN ps q) [] E0 t):=by
 obtain ⟨f,fd,F,hm,kp,hb⟩:=D.ex
 exact zlV (dvs:=[]) (ds:=[]) (E:=E0) F (hr.mono hk) hg hm kp hb .nil pass0 ha hdb q1 q2
end
def zaf (m:Nat) (q:PN) (da:DA):DE:=fun δ S R=>da δ S fun xs S1=>∃ ds,datas xs = some ds/\ds.length = m/\q (ds.map XV.d) [] (ret0 S1 R)
theorem hxs0 {h o:List Addr} {H:Hp}:∀ {ds:List PyData} {vs:List V},HasXs h o H (ds.map XV.d) vs->HasXs (h ++ o) [] H (ds.map XV.d) vs
 | [],_,q=>q
 | d :: ds,vs,⟨v,r,e,q,l⟩=>⟨v,r,e,hx0 q,hxs0 l⟩
theorem zG {ps:List Str} {q:PN} {m:Nat} {t:TA} {da:DA} (ha:RA t da) (hm:ps.length = m:=by rfl):RE (znX (spN ps q) [] E0 t) (zaf m q da):=fun h o H δ σ S R Q he hs w c =>
 ha h o H δ σ S _ _ he hs w fun o1 H1 S1 xs vs e1 s1 x1 ⟨ds,e,hl,d1⟩=>by
  have ex:=zc3 e
  subst ex
  have hv:=x1.len
  rw [List.append_nil]
  exact ⟨by rw [hv,List.length_map,hl,hm],h ++ o1,[],[],_,_,rep0 s1,hxs0 x1,d1,cn0 s1 (c.pre e1)⟩
def zW (i m:Nat) (q:PN) (da:DA):DE:=fun δ S R=>da δ S fun xs S1=>∃ k,xs[i]? = some (.l k)/\∃ p,S1[k]? = some p/\∃ ds,datas (xs.set i (.d .none)) = some ds/\ds.length = m/\q ((ds.map XV.d).set i (.l 0)) [p] (zsX k S1 R)
theorem ztU {h o:List Addr} {H:Hp} {k:Nat} {a:Addr} (ea:o[k]? = some a):∀ {xs:List XV} {vs:List V} {ds:List PyData} {i:Nat},HasXs h o H xs vs->xs[i]? = some (.l k)->datas (xs.set i (.d .none)) = some ds->HasXs (h ++ o.filter (fun b=>b ≠ a)) [a] H ((ds.map XV.d).set i (.l 0)) vs
 | [],_,_,i,_,e,_=>by simp at e
 | x :: xs,vs,ds,0,⟨v,r,e1,q,l⟩,e,ed=>by
  rw [List.getElem?_cons_zero] at e
  cases e
  rw [List.set_cons_zero] at ed
  obtain ⟨ds',rfl⟩:∃ ds',ds = .none :: ds':=by
   unfold datas at ed
   cases hd:datas xs with
   | none=>rw [hd] at ed; cases ed
   | some y=>rw [hd] at ed; cases ed; exact ⟨y,rfl⟩
  have ed':datas xs = some ds':=by
   unfold datas at ed
   cases hd:datas xs with
   | none=>rw [hd] at ed; cases ed
   | some y=>rw [hd] at ed; cases ed; rfl
  have ex:=zc3 ed'
  subst ex
  obtain ⟨b,eb,rfl⟩:=q
  rw [ea] at eb
  cases eb
  exact ⟨_,r,e1,⟨a,rfl,rfl⟩,go (ea:=ea) l⟩
 | x :: xs,vs,ds,i + 1,⟨v,r,e1,q,l⟩,e,ed=>by
  rw [List.getElem?_cons_succ] at e
  rw [List.set_cons_succ] at ed
  match x,q,ed with
  | .d d,q,ed =>
   unfold datas at ed
   cases hd:datas (xs.set i (.d .none)) with
   | none=>rw [hd] at ed; cases ed
   | some ds' =>
    rw [hd] at ed
    cases ed
    exact ⟨v,r,e1,hxP ea q,ztU ea l e hd⟩
  | .l j,q,ed=>cases ed
  | .o w,q,ed=>cases ed
  | .x _ _,q,ed=>cases ed
where
 go {h o:List Addr} {H:Hp} {k:Nat} {a:Addr} {ea:o[k]? = some a}:∀ {ds:List PyData} {vs:List V},HasXs h o H (ds.map XV.d) vs->HasXs (h ++ o.filter (fun b=>b ≠ a)) [a] H (ds.map XV.d) vs
 | [],_,q=>q
 | d :: ds,vs,⟨v,r,e,q,l⟩=>⟨v,r,e,hxP ea q,go (ea:=ea) l⟩
theorem zls:∀ {xs:List XV} {ds:List PyData},datas xs = some ds->xs.length = ds.length:=fun e=>by
 rw [zc3 e,List.length_map]
theorem zM {ps:List Str} {q:PN} {i m:Nat} {t:TA} {da:DA} (ha:RA t da) (hm:ps.length = m:=by rfl):RE (znX (spN ps q) [] E0 t) (zW i m q da):=fun h o H δ σ S R Q he hs w c =>
 ha h o H δ σ S _ _ he hs w fun o1 H1 S1 xs vs e1 s1 x1 ⟨k,ek,p,ep,ds,e,hl,d1⟩=>by
  have hv:=x1.len
  have hd:=zls e
  rw [List.length_set] at hd
  obtain ⟨v,_,a,ea,_⟩:=x1.get ek
  rw [List.append_nil]
  exact ⟨by rw [hv,hd,hl,hm],_,[a],[p],_,_,zsW s1 ea ep,ztU ea x1 ek e,d1,cnP s1 ea ep (c.pre e1)⟩
end
section
def zsK (K:W.Frag):List V->Hp->VK->Prop:=fun xs H Q=>ztm K xs H Q\/∃ z,xs = [.str z]/\z.length <= sizeLine/\Q (.int z.length) H
theorem zau {X:Cx}:CallR X (.builtin "len") (zsK X.K):=zfq.or ziI
def zq2 (S:Sto):XV->Option Nat
 | .d (.tuple ds)=>some ds.length
 | .d (.list ds)=>some ds.length
 | .l k=>(S[k]?).map List.length
 | .d (.str z)=>if z.length <= sizeLine then some z.length else none
 | _=>none
def zcK:List XV->Sto->RX->Prop:=fun xs S R=>arg1 xs fun x=>∃ n,zq2 S x = some n/\R (.d (.int n)) S
theorem zbg {K:W.Frag}:RC (zsK K) zcK:=fun h o H S xs vs R Q hs hx q c=>by
 obtain ⟨x,rfl,n,hd,q1⟩:=zbf q
 unfold zq2 at hd
 split at hd
 ·cases hd
  exact .inl (znk h o H S _ vs R Q hs hx ⟨_,rfl,q1⟩ c)
 ·cases hd
  exact .inl (znk h o H S _ vs R Q hs hx ⟨_,rfl,q1⟩ c)
 ·rename_i k
  cases hk:S[k]? with
  | none=>rw [hk] at hd; cases hd
  | some ds =>
   rw [hk] at hd
   cases hd
   exact .inl (znk h o H S _ vs R Q hs hx ⟨ds,hk,q1⟩ c)
 ·split at hd
  ·rename_i hz
   cases hd
   obtain ⟨v,rfl,hx1⟩:=hxs1 hx
   exact .inr ⟨_,by rw [zdH hx1],hz,c o H S _ _ Ex.refl hs (xI _) q1⟩
  ·cases hd
 ·cases hd
section
variable {S:Sto} {ds:List PyData} {k:Nat} {z:Str}
theorem zjJ:zq2 S (.d (.tuple ds)) = some ds.length:=rfl
theorem zoT:zq2 S (.d (.list ds)) = some ds.length:=rfl
end
def ztT (neg:Bool):R2:=fun x y H Q=>∃ d e ds,Has H d x/\Has H e y/\SeqAt.shaped d = true/\SeqAt.shaped (.list ds) = true/\(e = .list ds\/e = .tuple ds)/\Q (.bl (if neg then !ds.any (fun y=>PyData.eqv y d) else ds.any (fun y=>PyData.eqv y d))) H
theorem zkQ {ds:List PyData} (h:SeqAt.shaped (.list ds) = true):PyData.canLayAll0 ds = true/\PyData.depthAll ds <= 63:=by
 have h1:=SeqAt.canLay_of_shaped h
 have h2:=SeqAt.depth_of_shaped h
 simp only [PyData.canLay0,PyData.depth] at h1 h2
 exact ⟨h1,by omega⟩
theorem zlH {X:Cx} (hu:X.A.units + 64 < cLine):OpR X (compareOp .NotIn) (ztT true):=by
 intro zk s σ H x y v u Q I rx ry h
 obtain ⟨d,e,ds,hd,he,sd,se,ee,q⟩:=h
 obtain ⟨s1,s2⟩:=zkQ se
 obtain ⟨as,q1⟩:=Has.reads I d x v hd (SeqAt.canLay_of_shaped sd) rx
 have hm:X.A.units + 1 + min (PyData.depthAll ds) d.depth < cLine:=by
  have:=Nat.min_le_left (PyData.depthAll ds) d.depth
  omega
 rcases ee with rfl | rfl
 ·obtain ⟨bs,q2⟩:=Has.reads I (.list ds) y u he (by simpa only [PyData.canLay0] using s1) ry
  exact SeqAt.notIn_list_reads q2 q1 s1 (SeqAt.canLay_of_shaped sd) hm ⟨.bl _,H,I,rfl,q⟩
 ·obtain ⟨bs,q2⟩:=Has.reads I (.tuple ds) y u he (by simpa only [PyData.canLay0] using s1) ry
  exact SeqAt.notIn_tuple_reads q2 q1 s1 (SeqAt.canLay_of_shaped sd) hm ⟨.bl _,H,I,rfl,q⟩
def zmr:R2:=fun x y H Q=>ztT true x y H Q\/∃ i j,x = .str i/\y = .str j/\Q (.bl (!(!(Builtin.Str.occurrences j i 0 j.length 1).isEmpty))) H
theorem zl1 {X:Cx} (hu:X.A.units + 64 < cLine):OpR X (compareOp .NotIn) zmr:=(zlH hu).or zid
def zka:D2:=fun x y S R=>match y with
 | .d (.str b)=>asS x fun a=>R (.d (.bool (!(!(Builtin.Str.occurrences b a 0 b.length 1).isEmpty)))) S
 | y=>∃ d,zfS S x = some d/\∃ ds,asQ S y = some ds/\SeqAt.shaped d = true/\SeqAt.shaped (.list ds) = true/\R (.d (.bool (!ds.any fun y=>PyData.eqv y d))) S
theorem zqC {h o:List Addr} {H:Hp} {S:Sto} {x:XV} {v:V} {ds:List PyData} (hs:RepS h o H S) (e:asQ S x = some ds) (q:HasX h o H x v):∃ e,Has H e v/\(e = .list ds\/e = .tuple ds):=by
 unfold asQ at e
 split at e
 ·cases e; exact ⟨_,zcX (x:=.d _) hs rfl q,.inr rfl⟩
 ·cases e; exact ⟨_,zcX (x:=.d _) hs rfl q,.inl rfl⟩
 ·rename_i k
  exact ⟨.list ds,zcX (x:=.l k) hs (by show (S[k]?).map PyData.list = _; rw [e]; rfl) q,.inl rfl⟩
 ·cases e
theorem znN:RO zmr zka:=fun h o H S x y v u R Q hs hx hy q c=>by
 unfold zka at q
 split at q
 ·replace q:=zlI q
  obtain ⟨a,rfl,q⟩:=q
  exact .inr ⟨_,_,zdH hx,zdH hy,c o H S _ _ Ex.refl hs (xB _) q⟩
 ·obtain ⟨d,e1,ds,e2,s1,s2,q⟩:=q
  obtain ⟨e,he,ee⟩:=zqC hs e2 hy
  exact .inl ⟨d,e,ds,zcX hs e1 hx,he,s1,s2,ee,c o H S _ _ Ex.refl hs (xB _) q⟩
section
variable {S:Sto} {ds:List PyData} {k:Nat} {a b:Str} {x:XV} {R:RX}
theorem zkx:zka x (.d (.list ds)) S R ↔ ∃ d,zfS S x = some d/\SeqAt.shaped d = true/\SeqAt.shaped (.list ds) = true/\R (.d (.bool (!ds.any fun y=>PyData.eqv y d))) S:=⟨fun ⟨d,e,_,e',q⟩=>by cases e'; exact ⟨d,e,q⟩,fun ⟨d,e,q⟩=>⟨d,e,_,rfl,q⟩⟩
end
def zm5 (a:DA):DI:=fun δ S R=>a δ S fun xs S1=>arg1 xs fun x=>∃ ds,zlm x = some ds/\R (zsB 0 ds) S1
def ztz:XV->List XV->Sto->RX->Prop:=fun x xs S R=>∃ k,x = .l k/\∃ ds,S[k]? = some ds/\xs = []/\∃ d,ds[ds.length - 1]? = some d/\R (.d d) (S.set k ds.dropLast)
def zsv (rd:XV->List XV->Sto->RX->Prop) (e:DE) (a:DA):DE:=fun δ S R=>e δ S fun x S1=>∃ z,x = .d (.str z)/\a δ S1 fun xs S2=>rd x xs S2 R
theorem zrF {K:W.Frag} {r:V->List V->Hp->VK->Prop} {rd:XV->List XV->Sto->RX->Prop} {te:TE} {de:DE} {tl:TA} {dl:DA} (hr:RM r rd) (he':RE te de) (ha:RA tl dl):RE (tBM K "str" r te tl) (zsv rd de dl):=fun h o H δ σ S R Q he hs q c =>
 he' h o H δ σ S _ _ he hs q fun o1 H1 S1 x v e1 s1 x1 ⟨z,ez,d1⟩=>by
  subst ez
  cases zdH x1
  exact ⟨rfl,ha h o1 H1 δ σ S1 _ _ (he.mono e1) s1 d1 fun o2 H2 S2 xs vs e2 s2 x2 d2=>hr h o2 H2 S2 (.d (.str z)) _ xs vs R Q s2 (HasX.mono (x:=.d (.str z)) e2 x1) x2 d2 (c.pre (e1.trans e2))⟩
theorem zgT {H:Hp}:∀ {ns:List Str} {vs:List V},HasL H (ns.map PyData.str) vs->vs = ns.map V.str
 | [],vs,h=>zL.mp h
 | n :: ns,vs,h=>by
  obtain ⟨v,r,rfl,h1,h2⟩:=zC.mp h
  rw [zdF.mp h1,zgT h2]
  rfl
def zmT:XV->List XV->Sto->RX->Prop:=fun x xs S R=>asS x fun z=>arg1 xs fun y=>∃ ds,znE S y = some ds/\∃ zs:List Str,ds = zs.map PyData.str/\z.length <= 16/\zs.length <= 1000/\(∀ y ∈ zs,y.length <= 1000)/\R (.d (.str (PySem.Txt.join z zs))) S
theorem zow {K:W.Frag}:RM (zru K) zmT:=fun h o H S x v xs vs R Q hs hx hxs q c=>by
 replace q:=zlI q
 obtain ⟨z,rfl,q⟩:=q
 obtain ⟨y,rfl,ds,e,zs,rfl,h1,h2,h3,q1⟩:=zbf q
 obtain ⟨u,rfl,hu⟩:=hxs1 hxs
 obtain ⟨a,ws,rfl,ea,l⟩:=zbC hs e hu
 rw [zgT l] at ea
 exact ⟨z,a,zs,zdH hx,rfl,.of ea,h1,h2,h3,c o H S _ _ Ex.refl hs (xS _) q1⟩
def zmz:D2:=fun x y S R=>asL S x fun ds=>asL S y fun es=>ds.length + es.length <= 1000/\R (.l S.length) (S ++ [ds ++ es])
theorem zqs:RO zq9 zmz:=fun h o H S x y v u R Q hs hx hy q c=>by
 obtain ⟨ds,e0,es,e1,hl,q⟩:=q
 obtain ⟨a,vs,rfl,ea,la⟩:=zbC hs e0 hx
 obtain ⟨b,us,rfl,eb,lb⟩:=zbC hs e1 hy
 exact ⟨a,b,vs,us,rfl,rfl,ea,eb,by rw [la.length,lb.length]; exact Nat.le_of_lt (small1000 hl),zrc hs (la.append lb) c q⟩
abbrev zt5 (a:Addr) (m:Nat):DEnds:={ nx:=fun δ _=>δ[0]? = some (some (.o (.ref a)))/\δ.length = m + 1,ct:=fun δ _=>δ[0]? = some (some (.o (.ref a)))/\δ.length = m + 1,rt:=fun _ _=>False }
end
section
open Sem (wp)
def ItK (t:Bool) (h:Heap) (j a:Addr) (k:Nat):Prop:=match t with
 | true=>h.IsTupleIter j a k
 | false=>h.IsListIter j a k
def SqK (t:Bool) (h:Heap) (a:Addr) (xs:Array Value):Prop:=match t with
 | true=>h.IsTuple a xs
 | false=>h.IsList a xs
theorem ItK.at {t:Bool} {h g:Heap} {j a:Addr} {k:Nat} (q:ItK t h j a k) (f:∀ o,h.get? j = some o->g.get? j = some o):ItK t g j a k:=by
 cases t
 ·exact Heap.IsListIter.at (show h.IsListIter j a k from q) f
 ·exact Heap.IsTupleIter.at (show h.IsTupleIter j a k from q) f
theorem ItK.here {t:Bool} {h:Heap} {j a:Addr} {k:Nat} (q:ItK t h j a k):∃ o,h.get? j = some o/\∀ v,o.data ≠ .cell v:=by
 cases t <;> (obtain ⟨o,e,c,d⟩:=q; exact ⟨o,e,fun v z=>by rw [d] at z; cases z⟩)
theorem SqK.at {t:Bool} {h g:Heap} {a:Addr} {xs:Array Value} (q:SqK t h a xs) (f:∀ o,h.get? a = some o->g.get? a = some o):SqK t g a xs:=by
 cases t <;> (obtain ⟨o,e,r⟩:=q; exact ⟨o,f o e,r⟩)
theorem SqK.here {t:Bool} {h:Heap} {a:Addr} {xs:Array Value} (q:SqK t h a xs):∃ o,h.get? a = some o:=by
 cases t <;> (obtain ⟨o,e,r⟩:=q; exact ⟨o,e⟩)
section
variable {prog:Program} {w:World} {A:Around} {E:Value->Shared->Prop} {s:Shared}
theorem zqQ {t:Bool} {j a:Addr} {k:Nat} {xs:Array Value} {x:Value} {Q:Value->Shared->Prop} (hj:ItK t s.heap j a k) (ha:SqK t s.heap a xs) (hx:xs[k]? = some x)
  (hQ:∀ g,ItK t g j a (k + 1)->Heap.SameBut j s.heap g->Q x { s with heap:=g }):wpAny (model prog w) A (Builtin.SmallTypes.nextOf (.ref j)) Q E s:=by
 cases t
 ·exact wpAny_nextOf_list_item hj ha hx hQ
 ·exact zkT hj ha hx hQ
theorem zhZ {t:Bool} {j a:Addr} {k:Nat} {xs:Array Value} {Q:Value->Shared->Prop} (hh:A.handled = none) (hj:ItK t s.heap j a k) (ha:SqK t s.heap a xs) (hx:xs[k]? = none)
  (hE:∀ g e,Heap.ExtBut j s.heap g->(∃ o,g.get? e = some o/\o.cls = .type "StopIteration")->E (.ref e) { s with heap:=g }):wpAny (model prog w) A (Builtin.SmallTypes.nextOf (.ref j)) Q E s:=by
 cases t
 ·exact wpAny_nextOf_list_end hh hj ha hx hE
 ·exact zgz hh hj ha hx hE
theorem zr2 {t:Bool} {a:Addr} {xs:Array Value} {Q:Value->Shared->Prop} (ha:SqK t s.heap a xs) (hQ:Q (.ref s.heap.objs.size) { s with heap:=s.heap.push { cls:=.type (if t then "tuple_iterator" else "list_iterator"),data:=.fields #[.ref a,.int 0 0] } }):wpAny (model prog w) A (pyIter (.ref a)) Q E s:=by
 cases t
 ·exact wpAny_pyIter_list ha hQ
 ·exact wpAny_pyIter_tuple ha hQ
theorem zmA {T:Addr} {c d x:Value} {k:Nat} {Q:Unit->Shared->Prop} (hT:IsPair s.heap T c d) (hQ:∀ g,g.get? T = some { cls:=.type "tuple",data:=.seq ((#[c,d]:Array Value).setIfInBounds k x) }->Heap.SameBut T s.heap g->Q () { s with heap:=g }) :
  wpAny (model prog w) A (updateSeq T (·.setIfInBounds k x)) Q E s:=wpAny_updateSeq_pair hT hQ
structure ZAp (z p r i j a b:Addr):Prop where
 pz:p ≠ z
 rz:r ≠ z
 iz:i ≠ z
 jz:j ≠ z
 pr:p ≠ r
 pi:p ≠ i
 pj:p ≠ j
 ri:r ≠ i
 rj:r ≠ j
 ij:i ≠ j
 az:a ≠ z
 ar:a ≠ r
 ai:a ≠ i
 aj:a ≠ j
 bz:b ≠ z
 br:b ≠ r
 bi:b ≠ i
 bj:b ≠ j
theorem zmc {t u:Bool} {z p r i j a b:Addr} {k m:Nat} {xs ys:Array Value} {x y c d:Value} {Q:Value->Shared->Prop} (D:ZAp z p r i j a b) (hz:IsZip s.heap z p r .none) (hp:IsPair s.heap p (.ref i) (.ref j)) (hr:IsPair s.heap r c d)
  (hi:ItK t s.heap i a k) (hj:ItK u s.heap j b m) (ha:SqK t s.heap a xs) (hb:SqK u s.heap b ys) (hx:xs[k]? = some x) (hy:ys[m]? = some y)
  (hQ:∀ g,IsZip g z p r (rawInt s.heap.objs.size)->IsPair g r x y->ItK t g i a (k + 1)->ItK u g j b (m + 1)->IsPair g s.heap.objs.size x y ->
   (∀ q o,q ≠ z->q ≠ r->q ≠ i->q ≠ j->s.heap.get? q = some o->g.get? q = some o)->Q (.ref s.heap.objs.size) { s with heap:=g }) :
  wpAny (model prog w) A (Builtin.«zip.__next__» ⟨[.ref z],[]⟩) (fun fn s'=>∃ v,fn = .done (.ret v)/\Q v s') E s:=by
 obtain ⟨h0,gs,dr,tk,os⟩:=s
 show wpAny _ _ (field (.ref z) 2 >>= _) _ _ ⟨h0,gs,dr,tk,os⟩
 refine wpAny_bind (wpAny_field hz rfl (x:=.bool false) rfl ?_)
 show wpAny _ _ (field (.ref z) 3 >>= _) _ _ ⟨h0,gs,dr,tk,os⟩
 refine wpAny_bind (wpAny_field hz rfl (x:=.ref p) rfl (wpAny_bind (wpAny_seqItems hp rfl ?_)))
 show wpAny _ _ (Builtin.SmallTypes.ownedTupleIsFree (.ref z) >>= _) _ _ ⟨h0,gs,dr,tk,os⟩
 refine wpAny_bind ?_
 unfold Builtin.SmallTypes.ownedTupleIsFree
 refine wpAny_bind (wpAny_field hz rfl (x:=.none) rfl (wpAny_pure ?_))
 simp only [if_true]
 refine wpAny_bind (wpAny_rule (wpAny_bind (wpAny_field hz rfl (x:=.ref r) rfl (wpAny_bind (wpAny_setField_rec hz (by simp) fun g1 z1 b1=>?_)))))
 replace z1:IsZip g1 z p r .ellipsis:=z1
 replace b1:Heap.SameBut z h0 g1:=b1
 refine wpAny_bind ?_
 simp only [List.zipIdx_cons,List.zipIdx_nil,List.forIn_cons,List.forIn_nil]
 refine wpAny_bind (wpAny_bind (wpAny_onRaise ?_))
 show wpAny _ _ (Builtin.SmallTypes.nextOf (.ref i) >>= _) _ _ ⟨g1,gs,dr,tk,os⟩
 refine wpAny_bind (zqQ (s:=⟨g1,gs,dr,tk,os⟩) (hi.at fun o e=>b1.extBut i o D.iz e) (ha.at fun o e=>b1.extBut a o D.az e) hx fun g2 i2 b2=>wpAny_pure ?_)
 replace b2:Heap.SameBut i g1 g2:=b2
 have r2:IsPair g2 r c d:=b2.extBut r _ D.ri (b1.extBut r _ D.rz hr)
 refine wpAny_bind (wpAny_seqItems (s:=⟨g2,gs,dr,tk,os⟩) r2 rfl (wpAny_bind (zmA (s:=⟨g2,gs,dr,tk,os⟩) r2 fun g3 r3 b3=>?_)))
 replace r3:IsPair g3 r x d:=r3
 replace b3:Heap.SameBut r g2 g3:=b3
 refine wpAny_bind (wpAny_letGo (wpAny_pure (wpAny_bind (wpAny_bind (wpAny_onRaise ?_)))))
 show wpAny _ _ (Builtin.SmallTypes.nextOf (.ref j) >>= _) _ _ ⟨g3,gs,dr,tk,os⟩
 have k13:∀ q o,q ≠ z->q ≠ r->q ≠ i->h0.get? q = some o->g3.get? q = some o:=fun q o n1 n2 n3 e=>b3.extBut q o n2 (b2.extBut q o n3 (b1.extBut q o n1 e))
 refine wpAny_bind (zqQ (s:=⟨g3,gs,dr,tk,os⟩) (hj.at fun o e=>k13 j o D.jz (Ne.symm D.rj) (Ne.symm D.ij) e) (hb.at fun o e=>k13 b o D.bz D.br D.bi e) hy fun g4 j4 b4=>wpAny_pure ?_)
 replace b4:Heap.SameBut j g3 g4:=b4
 have r4:IsPair g4 r x d:=b4.extBut r _ D.rj r3
 refine wpAny_bind (wpAny_seqItems (s:=⟨g4,gs,dr,tk,os⟩) r4 rfl (wpAny_bind (zmA (s:=⟨g4,gs,dr,tk,os⟩) r4 fun g5 r5 b5=>?_)))
 replace r5:IsPair g5 r x y:=r5
 replace b5:Heap.SameBut r g4 g5:=b5
 refine wpAny_bind (wpAny_letGo (wpAny_pure (wpAny_pure (wpAny_bind (wpAny_seqItems (s:=⟨g5,gs,dr,tk,os⟩) r5 rfl (wpAny_bind (wpAny_newTuple ?_)))))))
 have sz:g5.objs.size = h0.objs.size:=by rw [b5.1,b4.1,b3.1,b2.1,b1.1]
 have z5:IsZip g5 z p r .ellipsis:=b5.extBut z _ (Ne.symm D.rz) (b4.extBut z _ (Ne.symm D.jz) (b3.extBut z _ (Ne.symm D.rz) (b2.extBut z _ (Ne.symm D.iz) z1)))
 have k5:∀ q o,q ≠ z->q ≠ r->q ≠ i->q ≠ j->h0.get? q = some o->g5.get? q = some o:=fun q o n1 n2 n3 n4 e=>b5.extBut q o n2 (b4.extBut q o n4 (k13 q o n1 n2 n3 e))
 have i5:ItK t g5 i a (k + 1):=ItK.at i2 fun o e=>b5.extBut i o (Ne.symm D.ri) (b4.extBut i o D.ij (b3.extBut i o (Ne.symm D.ri) e))
 have j5:ItK u g5 j b (m + 1):=ItK.at j4 fun o e=>b5.extBut j o (Ne.symm D.rj) e
 have zl:z < g5.objs.size:=Heap.lt_size z5
 show wpAny _ _ (Builtin.SmallTypes.ownedTupleHandOut (.ref z) (.ref g5.objs.size) >>= _) _ _ _
 refine wpAny_bind ?_
 unfold Builtin.SmallTypes.ownedTupleHandOut
 have z6:IsZip (g5.push { cls:=.type "tuple",data:=.seq #[x,y] }) z p r .ellipsis:=Heap.get?_push_of_some _ z5
 refine wpAny_bind (wpAny_setField_rec z6 (by simp) fun g7 z7 b7=>?_)
 replace z7:IsZip g7 z p r (rawInt g5.objs.size):=z7
 replace b7:Heap.SameBut z (g5.push { cls:=.type "tuple",data:=.seq #[x,y] }) g7:=b7
 refine wpAny_setField_rec z7 (by simp) fun g8 z8 b8=>?_
 replace z8:IsZip g8 z p r (rawInt g5.objs.size):=z8
 replace b8:Heap.SameBut z g7 g8:=b8
 have up:∀ q o,q ≠ z->g5.get? q = some o->g8.get? q = some o:=fun q o n e=>b8.extBut q o n (b7.extBut q o n (Heap.get?_push_of_some _ e))
 have t8:IsPair g8 g5.objs.size x y:=b8.extBut _ _ (Nat.ne_of_gt zl) (b7.extBut _ _ (Nat.ne_of_gt zl) (Heap.get?_push_size _ rfl))
 rw [sz] at z8 t8
 refine wpAny_pure ⟨_,rfl,?_⟩
 show Q (.ref g5.objs.size) _
 rw [sz]
 exact hQ g8 z8 (up r _ D.rz r5) (i5.at fun o e=>up i o D.iz e) (j5.at fun o e=>up j o D.jz e) t8 fun q o n1 n2 n3 n4 e=>up q o n1 (k5 q o n1 n2 n3 n4 e)
theorem zno {t u:Bool} {z p r i j a b:Addr} {k m:Nat} {xs ys:Array Value} {c d:Value} {Q:Fin->Shared->Prop} (hh:A.handled = none) (D:ZAp z p r i j a b) (hz:IsZip s.heap z p r .none) (hp:IsPair s.heap p (.ref i) (.ref j)) (hr:IsPair s.heap r c d)
  (hi:ItK t s.heap i a k) (hj:ItK u s.heap j b m) (ha:SqK t s.heap a xs) (hb:SqK u s.heap b ys) (hend:xs[k]? = none\/ys[m]? = none)
  (hE:∀ g e,(∀ q o,q ≠ z->q ≠ r->q ≠ i->q ≠ j->s.heap.get? q = some o->g.get? q = some o)->(∃ o,g.get? e = some o/\o.cls = .type "StopIteration")->E (.ref e) { s with heap:=g }) :
  wpAny (model prog w) A (Builtin.«zip.__next__» ⟨[.ref z],[]⟩) Q E s:=by
 obtain ⟨h0,gs,dr,tk,os⟩:=s
 show wpAny _ _ (field (.ref z) 2 >>= _) _ _ ⟨h0,gs,dr,tk,os⟩
 refine wpAny_bind (wpAny_field hz rfl (x:=.bool false) rfl ?_)
 show wpAny _ _ (field (.ref z) 3 >>= _) _ _ ⟨h0,gs,dr,tk,os⟩
 refine wpAny_bind (wpAny_field hz rfl (x:=.ref p) rfl (wpAny_bind (wpAny_seqItems hp rfl ?_)))
 show wpAny _ _ (Builtin.SmallTypes.ownedTupleIsFree (.ref z) >>= _) _ _ ⟨h0,gs,dr,tk,os⟩
 refine wpAny_bind ?_
 unfold Builtin.SmallTypes.ownedTupleIsFree
 refine wpAny_bind (wpAny_field hz rfl (x:=.none) rfl (wpAny_pure ?_))
 simp only [if_true]
 refine wpAny_bind (wpAny_rule (wpAny_bind (wpAny_field hz rfl (x:=.ref r) rfl (wpAny_bind (wpAny_setField_rec hz (by simp) fun g1 z1 b1=>?_)))))
 replace z1:IsZip g1 z p r .ellipsis:=z1
 replace b1:Heap.SameBut z h0 g1:=b1
 refine wpAny_bind ?_
 simp only [List.zipIdx_cons,List.zipIdx_nil,List.forIn_cons,List.forIn_nil]
 refine wpAny_bind (wpAny_bind (wpAny_onRaise ?_))
 show wpAny _ _ (Builtin.SmallTypes.nextOf (.ref i) >>= _) _ _ ⟨g1,gs,dr,tk,os⟩
 have notz:∀ {g:Heap} {e:Addr} {o:Obj},IsZip g z p r .ellipsis->g.get? e = some o->o.cls = .type "StopIteration"->e ≠ z:=fun h1 h2 h3 w=>by
  subst w
  rw [h1] at h2
  cases h2
  simp at h3
 cases hx:xs[k]? with
 | none =>
  refine wpAny_bind (zhZ (s:=⟨g1,gs,dr,tk,os⟩) hh (hi.at fun o e=>b1.extBut i o D.iz e) (ha.at fun o e=>b1.extBut a o D.az e) hx fun g2 e b2 he=>?_)
  obtain ⟨oe,e1,e2⟩:=he
  have z2:IsZip g2 z p r .ellipsis:=b2 z _ (Ne.symm D.iz) z1
  exact wpAny_setField_rec z2 (by simp) fun g3 _ b3=>hE g3 e (fun q o n1 _ n3 _ w=>b3.extBut q o n1 (b2 q o n3 (b1.extBut q o n1 w))) ⟨oe,b3.extBut e oe (notz z2 e1 e2) e1,e2⟩
 | some x =>
  have hy:ys[m]? = none:=hend.elim (fun w=>by rw [hx] at w; cases w) id
  refine wpAny_bind (zqQ (s:=⟨g1,gs,dr,tk,os⟩) (hi.at fun o e=>b1.extBut i o D.iz e) (ha.at fun o e=>b1.extBut a o D.az e) hx fun g2 i2 b2=>wpAny_pure ?_)
  replace b2:Heap.SameBut i g1 g2:=b2
  have r2:IsPair g2 r c d:=b2.extBut r _ D.ri (b1.extBut r _ D.rz hr)
  refine wpAny_bind (wpAny_seqItems (s:=⟨g2,gs,dr,tk,os⟩) r2 rfl (wpAny_bind (zmA (s:=⟨g2,gs,dr,tk,os⟩) r2 fun g3 r3 b3=>?_)))
  replace b3:Heap.SameBut r g2 g3:=b3
  refine wpAny_bind (wpAny_letGo (wpAny_pure (wpAny_bind (wpAny_bind (wpAny_onRaise ?_)))))
  show wpAny _ _ (Builtin.SmallTypes.nextOf (.ref j) >>= _) _ _ ⟨g3,gs,dr,tk,os⟩
  have k13:∀ q o,q ≠ z->q ≠ r->q ≠ i->h0.get? q = some o->g3.get? q = some o:=fun q o n1 n2 n3 e=>b3.extBut q o n2 (b2.extBut q o n3 (b1.extBut q o n1 e))
  refine wpAny_bind (zhZ (s:=⟨g3,gs,dr,tk,os⟩) hh (hj.at fun o e=>k13 j o D.jz (Ne.symm D.rj) (Ne.symm D.ij) e) (hb.at fun o e=>k13 b o D.bz D.br D.bi e) hy fun g4 e b4 he=>?_)
  obtain ⟨oe,e1,e2⟩:=he
  have z4:IsZip g4 z p r .ellipsis:=b4 z _ (Ne.symm D.jz) (b3.extBut z _ (Ne.symm D.rz) (b2.extBut z _ (Ne.symm D.iz) z1))
  exact wpAny_setField_rec z4 (by simp) fun g5 _ b5=>hE g5 e (fun q o n1 n2 n3 n4 w=>b5.extBut q o n1 (b4 q o n4 (k13 q o n1 n2 n3 w))) ⟨oe,b5.extBut e oe (notz z4 e1 e2) e1,e2⟩
abbrev zpA (t:Bool) (h:Heap) (a:Addr):Heap:=h.push { cls:=.type (if t then "tuple_iterator" else "list_iterator"),data:=.fields #[.ref a,.int 0 0] }
abbrev zpB (t u:Bool) (h:Heap) (a b:Addr):Heap:=(zpA t h a).push { cls:=.type (if u then "tuple_iterator" else "list_iterator"),data:=.fields #[.ref b,.int 0 0] }
abbrev zpC (t u:Bool) (h:Heap) (a b:Addr):Heap:=(zpB t u h a b).push { cls:=.type "tuple",data:=.seq #[.ref h.objs.size,.ref (zpA t h a).objs.size] }
abbrev zpD (t u:Bool) (h:Heap) (a b:Addr):Heap:=(zpC t u h a b).push { cls:=.type "tuple",data:=.seq #[.none,.none] }
abbrev zpE (t u:Bool) (h:Heap) (a b:Addr):Heap:=(zpD t u h a b).push { cls:=.type "zip",data:=.fields #[.none,.bool false,.bool false,.ref (zpB t u h a b).objs.size,.ref (zpC t u h a b).objs.size] }
theorem zqu (t u:Bool) (a b:Addr) (xs ys:Array Value):Meets (Builtin.«zip.__new__» ⟨[.type "zip",.ref a,.ref b],[]⟩) (fun _ R s=>SqK t s.heap a xs/\SqK u s.heap b ys /\
   ∀ g,IsZip g (s.heap.objs.size + 4) (s.heap.objs.size + 2) (s.heap.objs.size + 3) .none->IsPair g (s.heap.objs.size + 2) (.ref s.heap.objs.size) (.ref (s.heap.objs.size + 1))->IsPair g (s.heap.objs.size + 3) .none .none ->
    ItK t g s.heap.objs.size a 0->ItK u g (s.heap.objs.size + 1) b 0->(∀ q o,s.heap.get? q = some o->g.get? q = some o)->R (.ok (.ret (.ref (s.heap.objs.size + 4)))) { s with heap:=g }) :=
 .of_wp fun prog w A R s hyp=>by
  obtain ⟨g0,gs,dr,tk,os⟩:=s
  obtain ⟨ha,hb,hyp⟩:=hyp
  have sub:=sub_zip
  have hA:SqK t (Shared.heap ⟨g0,gs,dr,tk,os⟩) a xs:=ha
  have hB:SqK u (Shared.heap ⟨g0.push { cls:=.type (if t then "tuple_iterator" else "list_iterator"),data:=.fields #[.ref a,.int 0 0] },gs,dr,tk,os⟩) b ys:=SqK.at hb fun o e=>Heap.get?_push_of_some _ e
  wp_walk using zr2 hA,zr2 hB
  refine ⟨_,rfl,?_⟩
  have z1:(zpA t g0 a).objs.size = g0.objs.size + 1:=Heap.size_push ..
  have z2:(zpB t u g0 a b).objs.size = g0.objs.size + 2:=by rw [Heap.size_push,z1]
  have z3:(zpC t u g0 a b).objs.size = g0.objs.size + 3:=by rw [Heap.size_push,z2]
  have z4:(zpD t u g0 a b).objs.size = g0.objs.size + 4:=by rw [Heap.size_push,z3]
  have f1:=Heap.get?_push_size g0 (o:={ cls:=.type (if t then "tuple_iterator" else "list_iterator"),data:=.fields #[.ref a,.int 0 0] }) (by cases t <;> rfl)
  have f2:=Heap.get?_push_size (zpA t g0 a) (o:={ cls:=.type (if u then "tuple_iterator" else "list_iterator"),data:=.fields #[.ref b,.int 0 0] }) (by cases u <;> rfl)
  have f3:=Heap.get?_push_size (zpB t u g0 a b) (o:={ cls:=.type "tuple",data:=.seq #[.ref g0.objs.size,.ref (zpA t g0 a).objs.size] }) rfl
  have f4:=Heap.get?_push_size (zpC t u g0 a b) (o:={ cls:=.type "tuple",data:=.seq #[.none,.none] }) rfl
  have f5:=Heap.get?_push_size (zpD t u g0 a b) (o:={ cls:=.type "zip",data:=.fields #[.none,.bool false,.bool false,.ref (zpB t u g0 a b).objs.size,.ref (zpC t u g0 a b).objs.size] }) rfl
  have c1:∀ q o,g0.get? q = some o->(zpA t g0 a).get? q = some o:=fun q o e=>Heap.get?_push_of_some _ e
  have c2:∀ q o,(zpA t g0 a).get? q = some o->(zpB t u g0 a b).get? q = some o:=fun q o e=>Heap.get?_push_of_some _ e
  have c3:∀ q o,(zpB t u g0 a b).get? q = some o->(zpC t u g0 a b).get? q = some o:=fun q o e=>Heap.get?_push_of_some _ e
  have c4:∀ q o,(zpC t u g0 a b).get? q = some o->(zpD t u g0 a b).get? q = some o:=fun q o e=>Heap.get?_push_of_some _ e
  have c5:∀ q o,(zpD t u g0 a b).get? q = some o->(zpE t u g0 a b).get? q = some o:=fun q o e=>Heap.get?_push_of_some _ e
  have y1:=c5 _ _ (c4 _ _ (c3 _ _ (c2 _ _ f1)))
  have y2:=c5 _ _ (c4 _ _ (c3 _ _ f2))
  have y3:=c5 _ _ (c4 _ _ f3)
  have y4:=c5 _ _ f4
  have y5:(zpE t u g0 a b).get? (zpD t u g0 a b).objs.size = some { cls:=.type "zip",data:=.fields #[.none,.bool false,.bool false,.ref (zpB t u g0 a b).objs.size,.ref (zpC t u g0 a b).objs.size] }:=f5
  have fin:R (.ok (.ret (.ref (zpD t u g0 a b).objs.size))) ⟨zpE t u g0 a b,gs,dr,tk,os⟩:=by
   rw [z4,z2,z3] at y5
   rw [z2,z1] at y3
   rw [z3] at y4
   rw [z1] at y2
   rw [z4]
   refine hyp _ y5 y3 y4 ?_ ?_ fun q o e=>c5 q o (c4 q o (c3 q o (c2 q o (c1 q o e))))
   ·cases t <;> exact ⟨_,y1,rfl,rfl⟩
   ·cases u <;> exact ⟨_,y2,rfl,rfl⟩
  exact fin
theorem znf {t u:Bool} {a b:Addr} {xs ys:Array Value} {Q:Value->Shared->Prop} (ha:SqK t s.heap a xs) (hb:SqK u s.heap b ys)
  (hyp:∀ g,IsZip g (s.heap.objs.size + 4) (s.heap.objs.size + 2) (s.heap.objs.size + 3) .none->IsPair g (s.heap.objs.size + 2) (.ref s.heap.objs.size) (.ref (s.heap.objs.size + 1))->IsPair g (s.heap.objs.size + 3) .none .none ->
    ItK t g s.heap.objs.size a 0->ItK u g (s.heap.objs.size + 1) b 0->(∀ q o,s.heap.get? q = some o->g.get? q = some o)->Q (.ref (s.heap.objs.size + 4)) { s with heap:=g }):wpAny (model prog w) A (call (.type "zip") [.ref a,.ref b]) Q E s:=by
 refine callType_new F.called_zip (by decide) (F.typeCall_zip_2 _ _) (F.newCall_zip_2 _ _) (fun ob=>F.args_object_init_3 ob _ _) F.entry_zip_new (zqu t u a b xs ys) ⟨ha,hb,fun g h1 h2 h3 h4 h5 h6=>?_⟩
 exact ⟨⟨_,h1,rfl⟩,hyp g h1 h2 h3 h4 h5 h6⟩
end
def Itz (S1 S2:Hp->Addr->List V->Prop) (a b:Addr):It :=
 ⟨fun i H=>∃ xs ys x y,S1 H a xs/\S2 H b ys/\xs[i]? = some x/\ys[i]? = some y,fun i H x H'=>∃ p v u,H p = none/\x = .ref p/\H' = upd H p (.tup [v,u])/\(∀ xs,S1 H a xs->xs[i]? = some v)/\(∀ ys,S2 H b ys->ys[i]? = some u),fun i H=>∃ xs ys,S1 H a xs/\S2 H b ys/\(xs.length <= i\/ys.length <= i)⟩
def SqV (K:W.Frag) (t:Bool) (H:Hp) (a:Addr) (xs:List V):Prop:=match t with
 | true=>SqT K H a xs
 | false=>SqL K H a xs
theorem Inv.seqK {X:Cx} {zk:List (Addr × Obj)} {σ:St} {H:Hp} {s:Shared} {t:Bool} {a:Addr} {xs:List V} (I:Inv X zk σ H s) (h:SqV X.K t H a xs):∃ its:List Value,Vals xs its/\SqK t s.heap a its.toArray/\∀ ys,SqV X.K t H a ys->ys = xs:=by
 cases t
 ·obtain ⟨its,rv,p,_⟩:=I.list h
  exact ⟨its,rv,p.isList,fun ys hy=>I.list_inj hy h⟩
 ·obtain ⟨its,rv,p,_⟩:=I.tuple h
  exact ⟨its,rv,p,fun ys hy=>I.tuple_inj hy h⟩
theorem zot {P:Program} {w:World} {K:W.Frag} {elts:List Expr} {n:Nat} {pos:Pos} (t u:Bool) (z p r i j a b:Addr) (D:ZAp z p r i j a b):Turn P w K (.Tuple elts n pos) (Itz (SqV K t) (SqV K u) a b) [z,p,r,i,j] z
  (fun k h=>IsZip h z p r .none/\IsPair h p (.ref i) (.ref j)/\(∃ c d,IsPair h r c d)/\ItK t h i a k/\ItK u h j b k) where
 mem:=by simp
 obj:=fun k h ⟨h1,h2,⟨c,d,h3⟩,h4,h5⟩ q hq=>by
  simp only [List.mem_cons,List.not_mem_nil,or_false] at hq
  rcases hq with rfl | rfl | rfl | rfl | rfl
  ·exact ⟨_,h1,fun v e=>by cases (show Data.fields _ = Data.cell v from e)⟩
  ·exact ⟨_,h2,fun v e=>by cases (show Data.seq _ _ = Data.cell v from e)⟩
  ·exact ⟨_,h3,fun v e=>by cases (show Data.seq _ _ = Data.cell v from e)⟩
  ·exact h4.here
  ·exact h5.here
 keep:=fun k h h' ⟨h1,h2,⟨c,d,h3⟩,h4,h5⟩ f=>⟨f z (by simp) _ h1,f p (by simp) _ h2,⟨c,d,f r (by simp) _ h3⟩,h4.at fun o e=>f i (by simp) o e,h5.at fun o e=>f j (by simp) o e⟩
 item:=by
  intro X hP hw hK hc k zk s σ H E I hf st hg
  subst hP hw hK
  obtain ⟨xs,ys,x,y,q1,q2,ex,ey⟩:=hg
  obtain ⟨its,rv,sq,inj⟩:=I.seqK q1
  obtain ⟨its2,rv2,sq2,inj2⟩:=I.seqK q2
  obtain ⟨v1,e1,r1⟩:=rv.get ex
  obtain ⟨v2,e2,r2⟩:=rv2.get ey
  obtain ⟨h1,h2,⟨c,d,h3⟩,h4,h5⟩:=st
  have ty:s.TypeIs (.ref z) "zip":=⟨_,h1,rfl⟩
  unfold pyNext
  refine wpAny_bind (wpAny_attempt (wpAny_callSpecial?_slot (name:=Str.ofString "__next__") ty F.slot_zip_next (wpAny_call_entry F.slot_zip_next ty F.entry_zip_next
   (zmc D h1 h2 h3 h4 h5 sq sq2 (by simpa using e1) (by simpa using e2) fun g a1 a2 a3 a4 a5 kk=>wpAny_pure ⟨_,rfl,?_⟩) (F.args_zip_next_1 _))))
  refine wpAny_letOwnedTupleGo_zip (s:={ s with heap:=g }) a1 fun g' z' b'=>?_
  have lt:∀ {q o},s.heap.get? q = some o->s.heap.objs.size ≠ q:=fun e=>Nat.ne_of_gt (Heap.lt_size e)
  have b'':Heap.SameBut z g g':=b'
  have pT:IsPair g' s.heap.objs.size v1 v2:=b''.extBut _ _ (lt h1) a5
  have hn:=I.hok.fresh (Nat.le_refl s.heap.objs.size)
  have kk':∀ q o,q ∉ [z,r,i,j]->s.heap.get? q = some o->g'.get? q = some o:=fun q o hq e=>by
   simp only [List.mem_cons,List.not_mem_nil,or_false,not_or] at hq
   exact b''.extBut q o hq.1 (kk q o hq.1 hq.2.1 hq.2.2.1 hq.2.2.2 e)
  have I1:Inv X zk σ (upd H s.heap.objs.size (.tup [x,y])) { s with heap:=g' }:=I.turnLaid (t':=s.toks) (ch:=[z,r,i,j]) kk' (fun q hq=>hf q (by
   simp only [List.mem_cons,List.not_mem_nil,or_false] at hq ⊢
   rcases hq with h | h | h | h
   ·exact .inl h
   ·exact .inr (.inr (.inl h))
   ·exact .inr (.inr (.inr (.inl h)))
   ·exact .inr (.inr (.inr (.inr h))))) (Nat.le_refl _) ⟨⟨by show 2 <= sizeLine; decide,_,pT,rfl⟩,[v1,v2],.cons r1 (.cons r2 .nil),⟨_,pT,rfl,_,rfl⟩⟩
  have fresh:∀ q,q ∈ [z,p,r,i,j]->q ≠ s.heap.objs.size:=fun q hq w=>by
   simp only [List.mem_cons,List.not_mem_nil,or_false] at hq
   obtain ⟨o1,w1,_⟩:=h4.here
   obtain ⟨o2,w2,_⟩:=h5.here
   rcases hq with h | h | h | h | h
   ·exact lt h1 (w.symm.trans h)
   ·exact lt h2 (w.symm.trans h)
   ·exact lt h3 (w.symm.trans h)
   ·exact lt w1 (w.symm.trans h)
   ·exact lt w2 (w.symm.trans h)
  refine ⟨.ref s.heap.objs.size,_,I1,rfl,⟨_,x,y,hn,rfl,rfl,fun zs hz=>by rw [inj zs hz]; exact ex,fun zs hz=>by rw [inj2 zs hz]; exact ey⟩,⟨z',kk' p _ (by simp [D.pz,D.pr,D.pi,D.pj]) h2,⟨_,_,b''.extBut r _ D.rz a2⟩,a3.at fun o e=>b''.extBut i o D.iz e,a4.at fun o e=>b''.extBut j o D.jz e⟩,fun q hq=>?_⟩
  rw [zY (fresh q hq)]
  exact (hf q hq).1
 done:=by
  intro X hP hw hK hc k zk s σ H E I hf st hg
  subst hP hw hK
  obtain ⟨xs,ys,q1,q2,hl⟩:=hg
  obtain ⟨its,rv,sq,inj⟩:=I.seqK q1
  obtain ⟨its2,rv2,sq2,inj2⟩:=I.seqK q2
  obtain ⟨h1,h2,⟨c,d,h3⟩,h4,h5⟩:=st
  have l1:=rv.length
  have l2:=rv2.length
  have ty:s.TypeIs (.ref z) "zip":=⟨_,h1,rfl⟩
  unfold pyNext
  refine wpAny_bind (wpAny_attempt (wpAny_callSpecial?_slot (name:=Str.ofString "__next__") ty F.slot_zip_next (wpAny_call_entry F.slot_zip_next ty F.entry_zip_next
   (zno (I.ok.hd hc) D h1 h2 h3 h4 h5 sq sq2 (hl.elim (fun h=>.inl (by simp; omega)) fun h=>.inr (by simp; omega)) fun g e kk he=>?_) (F.args_zip_next_1 _))))
  obtain ⟨o,ho,hc'⟩:=he
  refine wpAny_bind (wpAny_isInstance (T:="StopIteration") (b:=true) ⟨o,ho,hc'⟩ isSubtype_stop (wpAny_pure ⟨rfl,?_⟩))
  refine I.turnedN (t':=s.toks) (ch:=[z,r,i,j]) (fun q o hq e=>?_) fun q hq=>hf q (by
   simp only [List.mem_cons,List.not_mem_nil,or_false] at hq ⊢
   rcases hq with h | h | h | h
   ·exact .inl h
   ·exact .inr (.inr (.inl h))
   ·exact .inr (.inr (.inr (.inl h)))
   ·exact .inr (.inr (.inr (.inr h))))
  simp only [List.mem_cons,List.not_mem_nil,or_false,not_or] at hq
  exact kk q o hq.1 hq.2.1 hq.2.2.1 hq.2.2.2 e
 self:=fun _ _ _ _ _ st h=>wpAny_pyIter_zip st.1 h
theorem nne {a b:Nat} (h:a < b\/b < a):(show Addr from a) ≠ (show Addr from b):=fun e=>by
 have e':a = b:=e
 omega
theorem zsM (N a b:Nat) (ha:a < N) (hb:b < N):ZAp (N + 4) (N + 2) (N + 3) N (N + 1) a b:=by
 constructor <;> exact nne (by omega)
theorem zqv (N q:Nat) (hq:q = N + 4\/q = N + 2\/q = N + 3\/q = N\/q = N + 1):N <= q:=by omega
section
variable {X:Cx} {elts:List Expr} {n:Nat} {tpos:Pos}
theorem zob:bootBuiltins "zip" = some (.type "zip"):=by decide +kernel
def zr4 (K:W.Frag) (ta:TA):TI:=fun σ H R=>ta σ H fun vs H1=>∃ a b t u,vs = [.ref a,.ref b]/\(∃ xs,SqV K t H1 a xs)/\(∃ ys,SqV K u H1 b ys)/\R (Itz (SqV K t) (SqV K u) a b) H1
theorem zqI {e1 e2:Expr} {ta:TA} {p pos:Pos} (hg:Gl X "zip") (hm:X.mg "zip" = none) (ha:PA X [e1,e2] ta) (hs:starEach [e1,e2] X.env = [(false,eval e1 X.env),(false,eval e2 X.env)]:=by rfl) (hs2:starEach [e2] X.env = [(false,eval e2 X.env)]:=by rfl) :
  PI X (.Tuple elts n tpos) (.Call (.Name "zip" p) [e1,e2] [] pos) (zr4 X.K ta):=by
 intro zk s σ H R I h
 refine Call_ (zfM I hg hm zob (PyProof.Rows.callWith_type1 (thn (ha pos zk s σ H _ I h) fun us s1 ⟨vs,H1,I1,r1,q1⟩=>?_) (by rw [hs,hs2]) (by rw [hs2]; rfl)))
 obtain ⟨a,b,t,u,e,⟨xs,q1⟩,⟨ys,q2⟩,q⟩:=q1
 subst e
 cases r1 with
 | cons r rr =>
  cases rr with
  | cons r' rr =>
   cases rr
   cases r
   cases r'
   obtain ⟨its,rv,sq,_⟩:=I1.seqK q1
   obtain ⟨its2,rv2,sq2,_⟩:=I1.seqK q2
   refine znf sq sq2 fun g h1 h2 h3 h4 h5 k=>?_
   refine wpAny_pyIter_zip (s:={ s1 with heap:=g }) h1 ?_
   have I2:Inv X zk σ H1 { s1 with heap:=g }:=I1.kept (t':=s1.toks) k
   obtain ⟨oa,fa⟩:=sq.here
   obtain ⟨ob,fb⟩:=sq2.here
   have la:=Heap.lt_size fa
   have lb:=Heap.lt_size fb
   have D:ZAp (s1.heap.objs.size + 4) (s1.heap.objs.size + 2) (s1.heap.objs.size + 3) s1.heap.objs.size (s1.heap.objs.size + 1) a b:=zsM _ _ _ la lb
   refine ⟨_,[s1.heap.objs.size + 4,s1.heap.objs.size + 2,s1.heap.objs.size + 3,s1.heap.objs.size,s1.heap.objs.size + 1],_,_,H1,rfl,I2,zot t u _ _ _ _ _ a b D,⟨h1,h2,⟨_,_,h3⟩,h4,h5⟩,fun q hq=>?_,q⟩
   have hl:s1.heap.objs.size <= q:=by
    simp only [List.mem_cons,List.not_mem_nil,or_false] at hq
    exact zqv _ _ hq
   exact I1.fpOk hl (I1.hok.fresh hl)
end
def zi4:List PyData->List PyData->List PyData
 | d :: ds,e :: es=>.tuple [d,e] :: zi4 ds es
 | _,_=>[]
theorem zhb:∀ (ds es:List PyData) (k:Nat) (x:PyData),(zi4 ds es)[k]? = some x->∃ d e,ds[k]? = some d/\es[k]? = some e/\x = .tuple [d,e]
 | [],_,_,_,h=>by simp [zi4] at h
 | _ :: _,[],_,_,h=>by simp [zi4] at h
 | d :: ds,e :: es,0,x,h=>by
  have e':PyData.tuple [d,e] = x:=by simpa [zi4] using h
  exact ⟨d,e,rfl,rfl,e'.symm⟩
 | d :: ds,e :: es,k + 1,x,h=>by
  obtain ⟨d',e',h1,h2,h3⟩:=zhb ds es k x (by simpa [zi4] using h)
  exact ⟨d',e',by simpa using h1,by simpa using h2,h3⟩
theorem zjR:∀ (ds es:List PyData),(zi4 ds es).length = min ds.length es.length
 | [],_=>by simp [zi4]
 | _ :: _,[]=>by simp [zi4]
 | d :: ds,e :: es=>by simp [zi4,zjR ds es]; try omega
theorem zjL {α β:Type} (f:α->PyData) (g:β->PyData):∀ (xs:List α) (ys:List β),zi4 (xs.map f) (ys.map g) = (xs.zip ys).map fun q=>.tuple [f q.1,g q.2]
 | [],_=>by simp [zi4]
 | _ :: _,[]=>by simp [zi4]
 | x :: xs,y :: ys=>by simp [zi4,zjL f g xs ys]
def zjD (a:DA):DI:=fun δ S R=>a δ S fun xs S1=>arg2 xs fun x y=>∃ ds,zlm x = some ds/\∃ es,zlm y = some es/\R (zi4 ds es) S1
theorem zjM {K:W.Frag} {h o:List Addr} {H:Hp} {x:XV} {v:V} {ds:List PyData} (e:zlm x = some ds) (q:HasX h o H x v):∃ t a ws,v = .ref a/\HasL (vx h o H) ds ws/\∀ {o2 H2},ExH h o H o2 H2->SqV K t H2 a ws:=by
 unfold zlm at e
 split at e
 ·cases e
  obtain ⟨a,ws,rfl,ea,l⟩:=zbH.mp (show Has (vx h o H) (.list ds) v from q)
  exact ⟨false,a,ws,rfl,l,fun e2=>(SqL.of (zak _ _ (e2.vx _ _ ea)):SqL K _ a ws)⟩
 ·cases e
  obtain ⟨a,ws,rfl,ea,l⟩:=zaB.mp (show Has (vx h o H) (.tuple ds) v from q)
  exact ⟨true,a,ws,rfl,l,fun e2=>(SqT.of (zak _ _ (e2.vx _ _ ea)):SqT K _ a ws)⟩
 ·cases e
theorem zqP {K:W.Frag} {ta:TA} {da:DA} (ha:RA ta da):RI (zr4 K ta) (zjD da):=fun h o H δ σ S R Q he hs q c =>
 ha h o H δ σ S _ _ he hs q fun o1 H1 S1 xs vs e1 s1 x1 d0=>by
  obtain ⟨x,y,rfl,ds,hd,es,hes,d1⟩:=zhe d0
  obtain ⟨v,u,rfl,hv,hu⟩:=hxs2 x1
  obtain ⟨t,a,ws,rfl,l,k1⟩:=zjM (K:=K) hd hv
  obtain ⟨t',b,zs,rfl,l',k2⟩:=zjM (K:=K) hes hu
  have hl:=l.length
  have hl':=l'.length
  refine ⟨a,b,t,t',rfl,⟨ws,k1 ExH.refl⟩,⟨zs,k2 ExH.refl⟩,c o1 H1 S1 _ _ e1 s1 ⟨fun i o2 H2 e2 hi=>⟨ws,zs,k1 e2,k2 e2,by rw [zjR] at hi; omega⟩,fun i d o2 H2 e2 hi=>?_,fun i d o2 H2 x H3 S2 e2 s2 hi y=>?_⟩ d1⟩
  ·obtain ⟨d',e',h1,h2,rfl⟩:=zhb ds es i d hi
   obtain ⟨u1,eu1,_⟩:=l.get h1
   obtain ⟨u2,eu2,_⟩:=l'.get h2
   exact ⟨ws,zs,u1,u2,k1 e2,k2 e2,eu1,eu2⟩
  ·obtain ⟨d',e',h1,h2,rfl⟩:=zhb ds es i d hi
   obtain ⟨u1,eu1,hu1⟩:=l.get h1
   obtain ⟨u2,eu2,hu2⟩:=l'.get h2
   obtain ⟨p,v,u,hp,rfl,rfl,y1,y2⟩:=y
   have f1:=y1 ws (k1 e2)
   have f2:=y2 zs (k2 e2)
   rw [eu1] at f1
   rw [eu2] at f2
   cases f1
   cases f2
   exact ⟨Same.laid hp,zaB.mpr ⟨p,_,rfl,s2.laid hp,zC.mpr ⟨_,_,rfl,(hu1.mono e2.vx).mono (zdk (Same.laid hp)),zC.mpr ⟨_,_,rfl,(hu2.mono e2.vx).mono (zdk (Same.laid hp)),zL.mpr rfl⟩⟩⟩⟩
end
section
open Sem (wp)
section
variable {prog:Program} {w:World} {A:Around} {R:Result->Shared->Prop} {I:Addr} {fp wr:List Addr} {n:Nat} {P:Nat->Value->Prop} {St:Nat->Heap->Prop}
def CmpH (prog:Program) (w:World) (A:Around) (g:Heap) (own:List Addr) (P:Nat->Value->Prop) (bt:Nat->Nat->Bool):Prop :=
 ∀ i j x y (s:Shared) (Q:Value->Shared->Prop) (E:Value->Shared->Prop),(∀ b o,b ∉ own->g.get? b = some o->s.heap.get? b = some o)->P i x->P j y->Q (.bool (bt i j)) s->wpAny (model prog w) A (richCompare .Lt x y) Q E s
theorem zm8 (W:Walks prog w A.in1 I fp wr n P St) (bt:Nat->Nat->Bool) {g:Heap} (S:Addr) (cm:CmpH prog w A.in1 g (S :: wr) P bt) (nS:S ∉ fp):∀ (d j:Nat) (s:Shared) (best:Value) (c:Nat),n = j + 1 + d->(∀ b o,b ∉ S :: wr->g.get? b = some o->s.heap.get? b = some o)->St (j + 1) s.heap->P (argBest bt j) best ->
   s.heap.get? S = some { cls:=.type "list",dict:=none,data:=.seq #[best,best] c,slots:=#[] } ->
   (∀ v h' tk,P (argBest bt (n - 1)) v->(∀ b o,b ∉ S :: wr->s.heap.get? b = some o->h'.get? b = some o)->R (.ok (.ret v)) { s with heap:=h',toks:=tk })->codeAny (model prog w) A (.builtin "min.loop" ⟨[.ref I,.none,.ref S],[]⟩) R s:=by
 have nw:S ∉ wr:=fun m=>nS (W.sub _ m)
 have nm:(toString "min" ++ toString ".loop":String) = "min.loop":=by decide
 intro d
 induction d with
 | zero =>
  intro j s best c hd kg st hb hS fin
  have hj:j + 1 = n:=by omega
  refine codeAny_builtin F.entry_min_loop ?_
  rw [Around.under_plainId F.plain_min_loop _]
  show wpAny _ A.in1 (seqItems? (.ref S) >>= _) _ _ s
  refine wpAny_bind (wpAny_seqItems hS rfl ?_)
  show wpAny _ A.in1 (tryCatch (pyNext (.ref I)) _ >>= _) _ _ s
  refine wpAny_bind (wpAny_tryCatch (W.done s _ _ (by rw [<- hj]; exact st) fun h1 t1 k1=>?_))
  have hS1:=k1 S _ nw hS
  show wpAny _ A.in1 (updateSeq S (fun _=>#[]) >>= _) _ _ _
  refine wpAny_bind (wpAny_updateSeq hS1 rfl (wpAny_bind (wpAny_letGo (wpAny_pure (fin best _ t1 (by rw [<- hj]; exact hb) fun b o hn e=>?_)))))
  rw [List.mem_cons,not_or] at hn
  exact (Heap.get?_update_other _ _ (Ne.symm hn.1)).trans (k1 b o hn.2 e)
 | succ d ih =>
  intro j s best c hd kg st hb hS fin
  refine codeAny_builtin F.entry_min_loop ?_
  rw [Around.under_plainId F.plain_min_loop _]
  show wpAny _ A.in1 (seqItems? (.ref S) >>= _) _ _ s
  refine wpAny_bind (wpAny_seqItems hS rfl ?_)
  show wpAny _ A.in1 (tryCatch (pyNext (.ref I)) _ >>= _) _ _ s
  refine wpAny_bind (wpAny_tryCatch (W.item (j + 1) s _ _ (by omega) st fun x h1 t1 hx st1 k1=>?_))
  have hS1:=k1 S _ nw hS
  have kg1:∀ b o,b ∉ S :: wr->g.get? b = some o->h1.get? b = some o:=fun b o hn e=>k1 b o (fun m=>hn (List.mem_cons_of_mem _ m)) (kg b o hn e)
  show wpAny _ A.in1 (tryCatch (holding [x,x] (richCompare .Lt x best >>= _)) _ >>= _) _ _ _
  refine wpAny_bind (wpAny_tryCatch (wpAny_holding (wpAny_bind (cm (j + 1) (argBest bt j) x best _ _ _ kg1 hx hb (wpAny_bind (wpAny_holding (wpAny_truthy_bool (wpAny_bind (wpAny_letGo (wpAny_pure ?_)))))))))) 
  cases ht:bt (j + 1) (argBest bt j) with
  | true =>
   simp only [if_true]
   refine wpAny_bind (wpAny_updateSeq hS1 rfl (wpAny_bind (wpAny_letGo ?_)))
   rw [nm]
   have keep:∀ b o,b ∉ S :: wr->s.heap.get? b = some o->(h1.update S (Obj.mapSeq fun _=>#[x,x])).get? b = some o:=fun b o hn e=>by
    rw [List.mem_cons,not_or] at hn
    exact (Heap.get?_update_other _ _ (Ne.symm hn.1)).trans (k1 b o hn.2 e)
   refine wpAny_pure ⟨plainId_quiet F.plain_min_loop _,ih (j + 1) _ x _ (by omega) (fun b o hn e=>keep b o hn (kg b o hn e)) (W.frame _ _ _ st1 fun b m o e=>?_) (by simp only [argBest,ht,if_true]; exact hx) (Heap.get?_update_self _ hS1 rfl) fun v h2 t2 hv k2=>fin v h2 t2 hv fun b o hn e=>k2 b o hn (keep b o hn e)⟩
   exact (Heap.get?_update_other _ _ (fun z:S = b=>nS (by rw [z]; exact m))).trans e
  | false =>
   simp only [Bool.false_eq_true,if_false]
   refine wpAny_bind (wpAny_letGo ?_)
   rw [nm]
   exact wpAny_pure ⟨plainId_quiet F.plain_min_loop _,ih (j + 1) _ best c (by omega) kg1 st1 (by simp only [argBest,ht,Bool.false_eq_true,if_false]; exact hb) hS1 fun v h2 t2 hv k2=>fin v h2 t2 hv fun b o hn e=>k2 b o hn (k1 b o (fun m=>hn (List.mem_cons_of_mem _ m)) e)⟩
theorem zk9 (W:Walks prog w A.in1 I fp wr n P St) (bt:Nat->Nat->Bool) (S:Addr) (nS:S ∉ fp) (hn:0 < n) {s:Shared} {c:Nat} (cm:CmpH prog w A.in1 s.heap (S :: wr) P bt) (st:St 0 s.heap) (hS:s.heap.get? S = some { cls:=.type "list",dict:=none,data:=.seq #[] c,slots:=#[] })
  (fin:∀ v h' tk,P (argBest bt (n - 1)) v->(∀ b o,b ∉ S :: wr->s.heap.get? b = some o->h'.get? b = some o)->R (.ok (.ret v)) { s with heap:=h',toks:=tk }):codeAny (model prog w) A (.builtin "min.loop" ⟨[.ref I,.none,.ref S],[]⟩) R s:=by
 have nw:S ∉ wr:=fun m=>nS (W.sub _ m)
 have nm:(toString "min" ++ toString ".loop":String) = "min.loop":=by decide
 refine codeAny_builtin F.entry_min_loop ?_
 rw [Around.under_plainId F.plain_min_loop _]
 show wpAny _ A.in1 (seqItems? (.ref S) >>= _) _ _ s
 refine wpAny_bind (wpAny_seqItems hS rfl ?_)
 show wpAny _ A.in1 (tryCatch (pyNext (.ref I)) _ >>= _) _ _ s
 refine wpAny_bind (wpAny_tryCatch (W.item 0 s _ _ hn st fun x h1 t1 hx st1 k1=>?_))
 have hS1:=k1 S _ nw hS
 show wpAny _ A.in1 (updateSeq S (fun _=>#[x,x]) >>= _) _ _ _
 refine wpAny_bind (wpAny_updateSeq hS1 rfl ?_)
 rw [nm]
 have keep:∀ b o,b ∉ S :: wr->s.heap.get? b = some o->(h1.update S (Obj.mapSeq fun _=>#[x,x])).get? b = some o:=fun b o hn e=>by
  rw [List.mem_cons,not_or] at hn
  exact (Heap.get?_update_other _ _ (Ne.symm hn.1)).trans (k1 b o hn.2 e)
 refine wpAny_pure ⟨plainId_quiet F.plain_min_loop _,zm8 W bt S cm nS (n - 1) 0 _ x _ (by omega) keep (W.frame _ _ _ st1 fun b m o e=>?_) hx (Heap.get?_update_self _ hS1 rfl) fun v h2 t2 hv k2=>fin v h2 t2 hv fun b o hn e=>k2 b o hn (keep b o hn e)⟩
 exact (Heap.get?_update_other _ _ (fun z:S = b=>nS (by rw [z]; exact m))).trans e
end
section
variable {prog:Program} {w:World} {A:Around} {E:Value->Shared->Prop} {s:Shared}
theorem zmP {l:Addr} {its:Array Value} {Q:Value->Shared->Prop} (hh:A.handled = none) (hl:s.heap.IsList l its) (hne:0 < its.size) (bt:Nat->Nat->Bool)
  (cm:∀ i j x y (s':Shared) (Q:Value->Shared->Prop) (E:Value->Shared->Prop),(∀ b o,s.heap.get? b = some o->s'.heap.get? b = some o)->its[i]? = some x->its[j]? = some y->Q (.bool (bt i j)) s'->wpAny (model prog w) A.in1 (richCompare .Lt x y) Q E s')
  (fin:∀ v h' tk,its[argBest bt (its.size - 1)]? = some v->(∀ b o,s.heap.get? b = some o->h'.get? b = some o)->Q v { s with heap:=h',toks:=tk }):wpAny (model prog w) A (call (.builtin "min") [.ref l]) Q E s:=by
 have nm:(toString "min" ++ toString ".loop":String) = "min.loop":=by decide
 have lt:l < s.heap.objs.size:=by obtain ⟨o,e,_⟩:=hl; exact Heap.lt_size e
 refine call_function_tree F.kind_min F.plain_min F.entry_min (F.args_min1 _) ?_
 show wpAny _ A.in1 (Builtin.Builtins.bindParams "min" ["key","default"] 0 ⟨[],[]⟩ >>= _) _ _ s
 refine wpAny_bind (wpAny_of_eq (show Builtin.Builtins.bindParams "min" ["key","default"] 0 ⟨[],[]⟩ = pure [none,none] from rfl) (wpAny_bind (wpAny_pure (wpAny_bind (wpAny_pyIter_list hl ?_)))))
 refine wpAny_bind (wpAny_newObj_type ?_)
 rw [nm]
 have z1:(s.heap.push { cls:=.type "list_iterator",data:=.fields #[.ref l,.int 0 0] }).objs.size = s.heap.objs.size + 1:=Heap.size_push ..
 have nS:(s.heap.push { cls:=.type "list_iterator",data:=.fields #[.ref l,.int 0 0] }).objs.size ∉ [s.heap.objs.size,l]:=by
  rw [z1]
  simp only [List.mem_cons,List.not_mem_nil,or_false,not_or]
  exact ⟨Nat.succ_ne_self _,Nat.ne_of_gt (Nat.lt_succ_of_lt lt)⟩
 have up:∀ b o,s.heap.get? b = some o->((s.heap.push { cls:=.type "list_iterator",data:=.fields #[.ref l,.int 0 0] }).push { cls:=.type "list",data:=.seq #[] }).get? b = some o:=fun b o e=>Heap.get?_push_of_some _ (Heap.get?_push_of_some _ e)
 have old:∀ b o,s.heap.get? b = some o->b ∉ (s.heap.push { cls:=.type "list_iterator",data:=.fields #[.ref l,.int 0 0] }).objs.size :: [s.heap.objs.size]:=fun b o e=>by
  rw [z1]
  simp only [List.mem_cons,List.not_mem_nil,or_false,not_or]
  have:=Heap.lt_size e
  exact ⟨Nat.ne_of_lt (Nat.lt_succ_of_lt this),Nat.ne_of_lt this⟩
 refine wpAny_pure ⟨plainId_quiet F.plain_min_loop _,zk9 (Walks.list (A:=A.in1) hh _ l (Nat.ne_of_lt lt) its) bt _ nS hne (fun i j x y s' Q' E' k hi hj q=>cm i j x y s' Q' E' (fun b o e=>k b o (old b o e) (up b o e)) hi hj q) ?_ (Heap.get?_push_size _ rfl) fun v h' tk hv k=>fin v h' tk hv fun b o e=>k b o (old b o e) (up b o e)⟩
 exact ⟨⟨_,Heap.get?_push_of_some _ (Heap.get?_push_size _ rfl),rfl,rfl⟩,(hl.push _).push _⟩
end
def zrV (K:W.Frag):List V->Hp->VK->Prop:=fun xs H Q=>∃ (p:Addr) (vs:List V) (nss:List (List Int)),xs = [.ref p]/\SqL K H p vs/\vs ≠ []/\Paired (fun (v:V) (ns:List Int)=>∃ a,v = .ref a/\H a = some (.tup (ns.map V.int))) vs nss /\
 ∀ (i:Nat) v ns,vs[i]? = some v->nss[i]? = some ns->(∀ ms ∈ nss,HT.lexLt ms ns = false)->Q v H
theorem zgn {ns:Nat->List Int} (tr:∀ a b c:List Int,HT.lexLt a b = false->HT.lexLt b c = false->HT.lexLt a c = false) (as:∀ a b:List Int,HT.lexLt a b = true->HT.lexLt b a = false):∀ k,argBest (fun i j=>HT.lexLt (ns i) (ns j)) k <= k/\∀ j,j <= k->HT.lexLt (ns j) (ns (argBest (fun i j=>HT.lexLt (ns i) (ns j)) k)) = false
 | 0=>⟨Nat.le_refl _,fun j hj=>by
   have:j = 0:=by omega
   subst this
   show HT.lexLt (ns 0) (ns 0) = false
   cases h:HT.lexLt (ns 0) (ns 0) with
   | false=>rfl
   | true=>have:=as _ _ h; rw [h] at this; cases this⟩
 | k + 1=>by
  obtain ⟨h1,h2⟩:=zgn tr as (ns:=ns) k
  simp only [argBest]
  by_cases hb:HT.lexLt (ns (k + 1)) (ns (argBest (fun i j=>HT.lexLt (ns i) (ns j)) k)) = true
  ·rw [if_pos hb]
   refine ⟨Nat.le_refl _,fun j hj=>?_⟩
   by_cases e:j = k + 1
   ·subst e
    cases h:HT.lexLt (ns (k + 1)) (ns (k + 1)) with
    | false=>rfl
    | true=>have:=as _ _ h; rw [h] at this; cases this
   ·exact tr _ _ _ (h2 j (by omega)) (as _ _ hb)
  ·rw [if_neg hb]
   refine ⟨by omega,fun j hj=>?_⟩
   by_cases e:j = k + 1
   ·subst e; exact Bool.eq_false_iff.mpr hb
   ·exact h2 j (by omega)
theorem zkg:∀ a b:List Int,HT.lexLt a b = true->HT.lexLt b a = false
 | [],[],h=>by cases h
 | [],y :: ys,_=>rfl
 | x :: xs,[],h=>by cases h
 | x :: xs,y :: ys,h=>by
  rw [HT.lexLt_cons] at h ⊢
  by_cases e:x = y
  ·subst e
   rw [if_pos rfl] at h ⊢
   exact zkg xs ys h
  ·rw [if_neg e] at h
   rw [if_neg (Ne.symm e)]
   simp only [decide_eq_true_eq] at h
   simp only [decide_eq_false_iff_not]
   omega
theorem zg2:∀ a b c:List Int,HT.lexLt a b = false->HT.lexLt b c = false->HT.lexLt a c = false
 | _,_,[],_,_=>by rename_i a b _ _; cases a <;> rfl
 | [],[],z :: zs,_,h=>by cases h
 | [],y :: ys,z :: zs,h,_=>by cases h
 | x :: xs,[],z :: zs,_,h=>by cases h
 | x :: xs,y :: ys,z :: zs,h,k=>by
  rw [HT.lexLt_cons] at h k ⊢
  by_cases e:x = y
  ·subst e
   rw [if_pos rfl] at h
   by_cases e2:x = z
   ·subst e2
    rw [if_pos rfl] at k ⊢
    exact zg2 xs ys zs h k
   ·rw [if_neg e2] at k ⊢
    exact k
  ·rw [if_neg e] at h
   by_cases e2:y = z
   ·subst e2
    rw [if_neg e]
    exact h
   ·rw [if_neg e2] at k
    simp only [decide_eq_false_iff_not] at h k
    rw [if_neg (by omega)]
    simp only [decide_eq_false_iff_not]
    omega
theorem znh {X:Cx} (hc:X.calm = true) (hu:X.A.units + 64 < cLine):CallR X (.builtin "min") (zrV X.K):=by
 intro zk s σ H xs us Q I r h
 obtain ⟨p,vs,nss,rfl,hq,hne,pr,q⟩:=h
 obtain ⟨u,rfl,rx⟩:=vals1 r
 cases (show u = Value.ref p from rx)
 obtain ⟨its,rv,pl,_⟩:=I.list hq
 have hl:=rv.length
 have hl2:=Paired.length pr
 have hsz:0 < its.toArray.size:=by
  rw [List.size_toArray,<- hl]
  exact List.length_pos_iff.mpr hne
 have at_:∀ (i:Nat) x,its.toArray[i]? = some x->∃ (v:V) (ns:List Int),vs[i]? = some v/\nss[i]? = some ns/\RelV v x/\∃ a,v = .ref a/\H a = some (.tup (ns.map V.int)):=fun i x hx=>by
  have hi:i < its.length:=by
   have:=(Array.getElem?_eq_some_iff.mp hx).1
   simpa using this
  have e1:vs[i]? = some vs[i]:=List.getElem?_eq_getElem (by omega)
  have e2:nss[i]? = some nss[i]:=List.getElem?_eq_getElem (by omega)
  obtain ⟨x',hx',rr⟩:=rv.get e1
  have:x = x':=by
   have h2:its[i]? = some x:=by simpa using hx
   rw [hx'] at h2
   exact (Option.some.inj h2).symm
  subst this
  have pg:∀ {a:List V} {b:List (List Int)} {i:Nat} {v:V} {ns:List Int},Paired (fun (v:V) (ns:List Int)=>∃ a,v = .ref a/\H a = some (.tup (ns.map V.int))) a b->a[i]? = some v->b[i]? = some ns->∃ a,v = .ref a/\H a = some (.tup (ns.map V.int)):=by
   intro a b i v ns pq
   induction pq generalizing i with
   | nil=>intro h; simp at h
   | cons r0 _ ih =>
    cases i with
    | zero =>
     intro h1 h2
     rw [List.getElem?_cons_zero] at h1 h2
     cases h1
     cases h2
     exact r0
    | succ i =>
     intro h1 h2
     rw [List.getElem?_cons_succ] at h1 h2
     exact ih h1 h2
  exact ⟨_,_,e1,e2,rr,pg pr e1 e2⟩
 refine zmP (I.ok.hd hc) pl.isList hsz (fun i j=>HT.lexLt (nss.getD i []) (nss.getD j [])) (fun i j x y s' Q' E' k hx hy q'=>?_) fun v h' tk hv k=>?_
 ·obtain ⟨v1,n1,_,f1,r1,a1,rfl,e1⟩:=at_ i x hx
  obtain ⟨v2,n2,_,f2,r2,a2,rfl,e2⟩:=at_ j y hy
  cases r1
  cases r2
  obtain ⟨_,is1,w1,t1⟩:=(show ObjOk X.prog X.w H s.heap a1 (.tup (n1.map V.int)) from I.hok a1 _ e1)
  obtain ⟨_,is2,w2,t2⟩:=(show ObjOk X.prog X.w H s.heap a2 (.tup (n2.map V.int)) from I.hok a2 _ e2)
  have g1:nss.getD i [] = n1:=by rw [List.getD_eq_getElem?_getD,f1]; rfl
  have g2:nss.getD j [] = n2:=by rw [List.getD_eq_getElem?_getD,f2]; rfl
  rw [g1,g2] at q'
  obtain ⟨o1,b1,c1⟩:=t1
  obtain ⟨o2,b2,c2⟩:=t2
  exact HT.lt_tupInts ⟨o1,k _ _ b1,c1⟩ ⟨o2,k _ _ b2,c2⟩ (zaw w1) (zaw w2) (by show X.A.units + 1 < cLine; omega) q'
 ·obtain ⟨v1,n1,e1,f1,r1,_⟩:=at_ _ v hv
  obtain ⟨_,h2⟩:=zgn (ns:=fun i=>nss.getD i []) zg2 zkg (its.toArray.size - 1)
  refine ⟨v1,H,I.kept (t':=tk) k,r1,q _ v1 n1 e1 f1 fun ms hm=>?_⟩
  obtain ⟨j,hj⟩:=List.mem_iff_getElem?.mp hm
  have hjl:=(List.getElem?_eq_some_iff.mp hj).1
  have:=h2 j (by rw [List.size_toArray]; omega)
  rw [show nss.getD j [] = ms by rw [List.getD_eq_getElem?_getD,hj]; rfl] at this
  rw [show nss.getD (argBest (fun i j=>HT.lexLt (nss.getD i []) (nss.getD j [])) (its.toArray.size - 1)) [] = n1 by rw [List.getD_eq_getElem?_getD,f1]; rfl] at this
  exact this
def zsb (K:W.Frag):List V->Hp->VK->Prop:=fun xs H Q=>zs2 K xs H Q\/zrV K xs H Q
theorem zig {X:Cx} (hc:X.calm = true) (hu:X.A.units + 64 < cLine):CallR X (.builtin "min") (zsb X.K):=(zlA hc).or (znh hc hu)
def zmV (ns:List Int):PyData:=.tuple (ns.map PyData.int)
def zkM:List XV->Sto->RX->Prop:=fun xs S R=>ztF xs S R\/arg1 xs fun x=>∃ ds,znE S x = some ds/\∃ nss:List (List Int),ds = nss.map zmV/\nss ≠ []/\∀ m,m ∈ nss->(∀ a,a ∈ nss->HT.lexLt a m = false)->R (.d (zmV m)) S
theorem zmO {K:W.Frag}:RC (zsb K) zkM:=fun h o H S xs vs R Q hs hx q c=>by
 rcases q with q | q
 ·exact .inl (zso h o H S xs vs R Q hs hx q c)
 ·obtain ⟨x,rfl,ds,hd,nss,rfl,hn,q1⟩:=zbf q
  obtain ⟨v,rfl,hx1⟩:=hxs1 hx
  obtain ⟨a,ws,rfl,ea,l⟩:=zbC hs hd hx1
  have hl:=l.length
  refine .inr ⟨a,ws,nss,rfl,.of ea,fun z=>hn ?_,?_,fun i v ns e1 e2 hm=>?_⟩
  ·subst z
   rw [List.length_map] at hl
   exact List.eq_nil_of_length_eq_zero hl.symm
  ·have go:∀ {nss:List (List Int)} {ws:List V},HasL (vx h o H) (nss.map zmV) ws->Paired (fun (v:V) (ns:List Int)=>∃ a,v = .ref a/\H a = some (.tup (ns.map V.int))) ws nss:=by
    intro nss
    induction nss with
    | nil=>intro ws l; rw [zL.mp l]; exact .nil
    | cons n nss ih =>
     intro ws l
     obtain ⟨v,r,rfl,h1,l2⟩:=zC.mp l
     obtain ⟨b,us,rfl,eb,lb⟩:=zaB.mp h1
     rw [zaP lb] at eb
     exact .cons ⟨b,rfl,zak _ _ eb⟩ (ih l2)
   exact go l
  ·obtain ⟨v',ev,hv⟩:=l.get (show (nss.map zmV)[i]? = some (zmV ns) by rw [List.getElem?_map,e2]; rfl)
   rw [e1] at ev
   cases ev
   exact c o H S (.d (zmV ns)) v Ex.refl hs hv (q1 ns (List.mem_of_getElem? e2) hm)
section
variable {S:Sto} {P:Sto->List PyData->Prop} {a b c d:List PyData} {x:List PyData}
theorem zgf {S0:Sto}:(∃ T ds,S0 ++ [x] = T ++ [ds]/\P T ds) ↔ P S0 x:=by
 constructor
 ·rintro ⟨T,ds,e,q⟩
  obtain ⟨rfl,e2⟩:=List.append_inj' e rfl
  cases e2
  exact q
 ·exact fun q=>⟨S0,x,rfl,q⟩
theorem zjF:(∃ T ds,[a] = T ++ [ds]/\P T ds) ↔ P [] a:=zgf (S0:=[])
theorem zjI:(∃ T ds,[a,b] = T ++ [ds]/\P T ds) ↔ P [a] b:=zgf (S0:=[a])
theorem zjN:(∃ T ds,[a,b,c] = T ++ [ds]/\P T ds) ↔ P [a,b] c:=zgf (S0:=[a,b])
end
section
variable {α:Type} {n:Nat} {g:DG} {tt:DT} {te:DE} {fin:Sto->Prop} {S0:Sto} {caps:XE}
theorem zpt {h:α->PyData} {f:α->PyData} (P:XE->Prop) (hn:S0.length = n) (l:List α) (τ:XE) (hP:P τ) (hl:l.length <= 1000)
  (el:∀ x ∈ l,∀ τ acc (R:XE->RX),P τ->(∀ τ',P τ'->R τ' (.d (f x)) (S0 ++ [acc]))->g (.d (h x)) τ (S0 ++ [acc]) fun τ1 S1=>te τ1 S1 (R τ1)) (hf:fin (S0 ++ [l.map f])):zfo n g za5 te fin (l.map h) τ (S0 ++ [[]]):=by
 have go:∀ (l:List α) (acc:List PyData) (τ:XE),P τ->acc.length + l.length <= 1000->(∀ x ∈ l,∀ τ acc (R:XE->RX),P τ->(∀ τ',P τ'->R τ' (.d (f x)) (S0 ++ [acc]))->g (.d (h x)) τ (S0 ++ [acc]) fun τ1 S1=>te τ1 S1 (R τ1)) ->
   fin (S0 ++ [acc ++ l.map f])->zfo n g za5 te fin (l.map h) τ (S0 ++ [acc]):=by
  intro l
  induction l with
  | nil=>intro acc τ _ _ _ h; rw [List.map_nil,List.append_nil] at h; exact h
  | cons x l ih =>
   intro acc τ hP hl el hh
   show g (.d (h x)) τ (S0 ++ [acc]) fun τ1 S1=>za5 τ1 S1 fun b S2=>if b = true then te τ1 S2 fun x S3=>asD x fun e=>∃ acc,S3[n]? = some acc/\acc.length < 1000/\zfo n g za5 te fin (l.map h) τ1 (S3.set n (acc ++ [e])) else zfo n g za5 te fin (l.map h) τ1 S2
   simp only [za5,↓reduceIte]
   rw [List.length_cons] at hl
   refine el x List.mem_cons_self τ acc (fun τ1 x S3=>asD x fun e=>∃ acc,S3[n]? = some acc/\acc.length < 1000/\zfo n g za5 te fin (l.map h) τ1 (S3.set n (acc ++ [e]))) hP fun τ' hP'=>?_
   refine ⟨acc,by rw [<- hn,List.getElem?_concat_length],by omega,?_⟩
   rw [zhL hn]
   refine ih (acc ++ [f x]) τ' hP' (by rw [List.length_append,List.length_singleton]; omega) (fun e m=>el e (List.mem_cons_of_mem _ m)) ?_
   rw [List.append_assoc]
   exact hh
 exact go l [] τ hP (by simpa using hl) el (by simpa using hf)
theorem cmp1 {h:α->PyData} (f:α->PyData) (hn:S0.length = n) (l:List α) {u:Option XV} (hl:l.length <= 1000)
  (el:∀ x ∈ l,∀ (u:Option XV) acc (R:XE->RX),(∀ u',R (u' :: caps) (.d (f x)) (S0 ++ [acc]))->g (.d (h x)) (u :: caps) (S0 ++ [acc]) fun τ1 S1=>te τ1 S1 (R τ1)) (hf:fin (S0 ++ [l.map f])):zfo n g za5 te fin (l.map h) (u :: caps) (S0 ++ [[]]) :=
 zpt (fun τ=>∃ u,τ = u :: caps) hn l _ ⟨u,rfl⟩ hl (fun x m τ acc R ⟨u,e⟩ k=>by subst e; exact el x m u acc R fun u'=>k _ ⟨u',rfl⟩) hf
theorem cmp2 {h:α->PyData} (f:α->PyData) (hn:S0.length = n) (l:List α) {u v:Option XV} (hl:l.length <= 1000)
  (el:∀ x ∈ l,∀ (u v:Option XV) acc (R:XE->RX),(∀ u' v',R (u' :: v' :: caps) (.d (f x)) (S0 ++ [acc]))->g (.d (h x)) (u :: v :: caps) (S0 ++ [acc]) fun τ1 S1=>te τ1 S1 (R τ1)) (hf:fin (S0 ++ [l.map f])):zfo n g za5 te fin (l.map h) (u :: v :: caps) (S0 ++ [[]]) :=
 zpt (fun τ=>∃ u v,τ = u :: v :: caps) hn l _ ⟨u,v,rfl⟩ hl (fun x m τ acc R ⟨u,v,e⟩ k=>by subst e; exact el x m u v acc R fun u' v'=>k _ ⟨u',v',rfl⟩) hf
theorem zoY {h:α->PyData} {f:α->PyData} {p:α->Bool} (P:XE->Prop) (hn:S0.length = n) (l:List α) (τ:XE) (hP:P τ) (hl:l.length <= 1000)
  (el:∀ x ∈ l,∀ τ acc (R:XE->Bool->Sto->Prop),P τ->(∀ τ',P τ'->(p x = true->∀ T:RX,T (.d (f x)) (S0 ++ [acc])->te τ' (S0 ++ [acc]) T)->R τ' (p x) (S0 ++ [acc]))->g (.d (h x)) τ (S0 ++ [acc]) fun τ1 S1=>tt τ1 S1 (R τ1))
  (hf:fin (S0 ++ [(l.filter p).map f])):zfo n g tt te fin (l.map h) τ (S0 ++ [[]]):=by
 have go:∀ (l:List α) (acc:List PyData) (τ:XE),P τ->acc.length + l.length <= 1000->(∀ x ∈ l,∀ τ acc (R:XE->Bool->Sto->Prop),P τ->(∀ τ',P τ'->(p x = true->∀ T:RX,T (.d (f x)) (S0 ++ [acc])->te τ' (S0 ++ [acc]) T)->R τ' (p x) (S0 ++ [acc]))->g (.d (h x)) τ (S0 ++ [acc]) fun τ1 S1=>tt τ1 S1 (R τ1)) ->
   fin (S0 ++ [acc ++ (l.filter p).map f])->zfo n g tt te fin (l.map h) τ (S0 ++ [acc]):=by
  intro l
  induction l with
  | nil=>intro acc τ _ _ _ h; rw [List.filter_nil,List.map_nil,List.append_nil] at h; exact h
  | cons x l ih =>
   intro acc τ hP hl el hh
   show g (.d (h x)) τ (S0 ++ [acc]) fun τ1 S1=>tt τ1 S1 fun b S2=>if b = true then te τ1 S2 fun x S3=>asD x fun e=>∃ acc,S3[n]? = some acc/\acc.length < 1000/\zfo n g tt te fin (l.map h) τ1 (S3.set n (acc ++ [e])) else zfo n g tt te fin (l.map h) τ1 S2
   rw [List.length_cons] at hl
   refine el x List.mem_cons_self τ acc (fun τ1 b S2=>if b = true then te τ1 S2 fun x S3=>asD x fun e=>∃ acc,S3[n]? = some acc/\acc.length < 1000/\zfo n g tt te fin (l.map h) τ1 (S3.set n (acc ++ [e])) else zfo n g tt te fin (l.map h) τ1 S2) hP fun τ' hP' ev=>?_
   cases hp:p x with
   | false =>
    rw [List.filter_cons_of_neg (by rw [hp]; exact Bool.false_ne_true)] at hh
    exact zqc (ih acc τ' hP' (by omega) (fun e m=>el e (List.mem_cons_of_mem _ m)) hh)
   | true =>
    rw [List.filter_cons_of_pos hp,List.map_cons] at hh
    refine zoW (ev hp _ ⟨acc,by rw [<- hn,List.getElem?_concat_length],by omega,?_⟩)
    rw [zhL hn]
    exact ih (acc ++ [f x]) τ' hP' (by rw [List.length_append,List.length_singleton]; omega) (fun e m=>el e (List.mem_cons_of_mem _ m)) (by rw [List.append_assoc]; exact hh)
 exact go l [] τ hP (by simpa using hl) el (by simpa using hf)
theorem cmf1 {h:α->PyData} (f:α->PyData) (p:α->Bool) (hn:S0.length = n) (l:List α) {u:Option XV} (hl:l.length <= 1000)
  (el:∀ x ∈ l,∀ (u:Option XV) acc (R:XE->Bool->Sto->Prop),(∀ u',(p x = true->∀ T:RX,T (.d (f x)) (S0 ++ [acc])->te (u' :: caps) (S0 ++ [acc]) T)->R (u' :: caps) (p x) (S0 ++ [acc]))->g (.d (h x)) (u :: caps) (S0 ++ [acc]) fun τ1 S1=>tt τ1 S1 (R τ1)) (hf:fin (S0 ++ [(l.filter p).map f])):zfo n g tt te fin (l.map h) (u :: caps) (S0 ++ [[]]) :=
 zoY (fun τ=>∃ u,τ = u :: caps) hn l _ ⟨u,rfl⟩ hl (fun x m τ acc R ⟨u,e⟩ k=>by subst e; exact el x m u acc R fun u' hh=>k _ ⟨u',rfl⟩ hh) hf
theorem cmf2 {h:α->PyData} (f:α->PyData) (p:α->Bool) (hn:S0.length = n) (l:List α) {u v:Option XV} (hl:l.length <= 1000)
  (el:∀ x ∈ l,∀ (u v:Option XV) acc (R:XE->Bool->Sto->Prop),(∀ u' v',(p x = true->∀ T:RX,T (.d (f x)) (S0 ++ [acc])->te (u' :: v' :: caps) (S0 ++ [acc]) T)->R (u' :: v' :: caps) (p x) (S0 ++ [acc]))->g (.d (h x)) (u :: v :: caps) (S0 ++ [acc]) fun τ1 S1=>tt τ1 S1 (R τ1)) (hf:fin (S0 ++ [(l.filter p).map f])):zfo n g tt te fin (l.map h) (u :: v :: caps) (S0 ++ [[]]) :=
 zoY (fun τ=>∃ u v,τ = u :: v :: caps) hn l _ ⟨u,v,rfl⟩ hl (fun x m τ acc R ⟨u,v,e⟩ k=>by subst e; exact el x m u v acc R fun u' v' hh=>k _ ⟨u',v',rfl⟩ hh) hf
end
end
section
@[irreducible] def QSs (X:Cx) (st:List Stmt) (t:TS):Prop:=PSs X st t
theorem QSs.out {X:Cx} {st:List Stmt} {t:TS} (h:QSs X st t):PSs X st t:=by unfold QSs at h; exact h
theorem QSs.mk {X:Cx} {st:List Stmt} {t:TS} (h:PSs X st t):QSs X st t:=by unfold QSs; exact h
@[irreducible] def QA (X:Cx) (es:List Expr) (t:TA):Prop:=PA X es t
theorem QA.out {X:Cx} {es:List Expr} {t:TA} (h:QA X es t):PA X es t:=by unfold QA at h; exact h
theorem QA.mk {X:Cx} {es:List Expr} {t:TA} (h:PA X es t):QA X es t:=by unfold QA; exact h
theorem zg0 {X:Cx}:QA X [] zq8:=QA.mk zi
theorem zN {X:Cx} {e:Expr} {es:List Expr} {te:TE} {t:TA} (ha:PE X e te) (hr:QA X es t) (hs:starEach (e :: es) X.env = (false,eval e X.env) :: starEach es X.env:=by rfl):QA X (e :: es) (zk5 te t):=QA.mk (zc ha hr.out hs)
theorem zf7 {X:Cx} {es:List Expr} {t:TA} {pos:Pos} (h:QA X es t):PE X (.List es pos) (zqi t):=zaD h.out
@[irreducible] def QS (X:Cx) (st:Stmt) (t:TS):Prop:=PS X st t
theorem QS.out {X:Cx} {st:Stmt} {t:TS} (h:QS X st t):PS X st t:=by unfold QS at h; exact h
theorem QS.mk {X:Cx} {st:Stmt} {t:TS} (h:PS X st t):QS X st t:=by unfold QS; exact h
theorem zlS {X:Cx} {st:Stmt} {rest:List Stmt} {t u:TS} (h1:QS X st t) (h2:QSs X rest u):QSs X (st :: rest) (znI t u):=QSs.mk (zj h1.out h2.out)
end
end L2
namespace HT
open PySem PyProof.Rows
section
variable {prog:Program} {w:World} {A:Around} {E:Value->Shared->Prop} {s:Shared}
theorem tup_whole {t sl:Addr} {items:Array Value} {vl vu:Value} {lo hi:Option Int} {Q:Value->Shared->Prop} (ht:IsTup s.heap t items) (hs:s.heap.IsSliceOf sl vl vu .none) (pl:IsPart vl lo) (pu:IsPart vu hi)
  (hw:sIx items.size 0 lo = 0/\sIx items.size items.size hi = items.size) (h:Q (.ref t) s):wpAny (model prog w) A (getItem (.ref t) (.ref sl)) Q E s:=by
 obtain ⟨os,hos,hcs,hds⟩:=id hs
 have hTs:s.TypeIs (.ref sl) "slice":=⟨os,hos,hcs⟩
 unfold getItem
 try with_reducible refine wpAny_holding ?_
 first | refine wpAny_bind (wpAny_pure ?_) | skip
 refine wpAny_bind (wpAny_sequenceKey ht.typeIs (by decide) ?_)
 refine wpAny_bind (wpAny_callSpecial?_slot (name:=Str.ofString "__getitem__") ht.typeIs PyProof.Rows.slot_tuple_getitem
  (wpAny_call_entry PyProof.Rows.slot_tuple_getitem ht.typeIs entry_tuple_getitem ?_ (args_tuple_getitem _ _)))
 show wpAny _ _ (Builtin.Tuple.tupleItemsOf (.ref t) >>= _) _ _ s
 refine wpAny_bind (tupleItemsOf_ ht (wpAny_bind (wpAny_typeOf hTs ?_)))
 rw [if_pos (by decide)]
 refine wpAny_bind (zdc hs pl pu ?_)
 rw [hw.1,hw.2]
 show wpAny _ _ (if (((0:Nat):Int) == 0 && (1:Int) == 1 && (items.size - 0) == items.size) = true then _ else _) _ _ s
 rw [if_pos (by simp)]
 unfold Builtin.Tuple.tupleIsExact
 refine wpAny_bind (wpAny_bind (wpAny_typeOf ht.typeIs (wpAny_pure ?_)))
 rw [if_pos (by decide)]
 exact wpAny_bind (wpAny_rule (wpAny_pure ⟨_,rfl,wpAny_pure h⟩))
end
end HT
namespace L2
open PySem PySem.Spec PyProof.Rows
section
section
variable {X:Cx} {e ek:Expr} {te tk:TE} {pos p2:Pos}
def ztS (K:W.Frag):V->Option Int->Option Int->Hp->VK->Prop:=fun x lo hi H Q=>∃ a xs,x = .ref a/\SqT K H a xs /\
 ((HT.sIx xs.length 0 lo = 0/\HT.sIx xs.length xs.length hi = xs.length)->Q (.ref a) H)/\∀ p,H p = none->Q (.ref p) (upd H p (.tup (zkq xs lo hi)))
theorem zp9:SlR X (ztS X.K):=by
 intro zk s σ H x v vl vu lo hi sl Q I rx hs pl pu h
 obtain ⟨a,xs,rfl,hx,hw,q⟩:=h
 by_cases z:HT.sIx xs.length 0 lo = 0/\HT.sIx xs.length xs.length hi = xs.length
 ·cases rx
  obtain ⟨its,r,ht,hz⟩:=I.tuple hx
  have hlen:its.toArray.size = xs.length:=by rw [List.size_toArray]; exact r.length.symm
  refine ⟨"tuple",_,PyProof.Rows.slot_tuple_getitem.lookup,ht.typeIs,?_⟩
  exact HT.tup_whole ht hs pl pu (by rw [hlen]; exact z) ⟨.ref a,H,I,rfl,hw z⟩
 ·exact zo4 zk s σ H _ v vl vu lo hi sl Q I rx hs pl pu ⟨a,xs,rfl,hx,z,q⟩
end
def zrg:D3:=fun x i j S R=>asT x fun ds=>R (.d (.tuple (zeu ds i j))) S
theorem zkU {α:Type} (xs:List α) (lo hi:Option Int) (h:HT.sIx xs.length 0 lo = 0/\HT.sIx xs.length xs.length hi = xs.length):zeu xs lo hi = xs:=by
 unfold zeu
 rw [h.1,h.2]
 simp
theorem zqX {K:W.Frag}:RL (ztS K) zrg:=fun h o H S x v a b R Q hs hx q c=>by
 replace q:=zdr q
 obtain ⟨ds,rfl,q⟩:=q
 obtain ⟨p,vs,rfl,ea,l⟩:=zcg hx
 refine ⟨p,vs,rfl,.of ea,fun z=>?_,znB hs (l.cut a b) c q⟩
 rw [l.length] at z
 rw [zkU ds a b z] at q
 exact c o H S _ _ Ex.refl hs hx q
end
section
@[irreducible] def QE (X:Cx) (e:Expr) (t:TE):Prop:=PE X e t
theorem QE.out {X:Cx} {e:Expr} {t:TE} (h:QE X e t):PE X e t:=by unfold QE at h; exact h
theorem zmJ {X:Cx} {st:Stmt} {rest:List Stmt} {t u:TS} (h1:PS X st t) (h2:QSs X rest u):PSs X (st :: rest) (znI t u):=zj h1 h2.out
theorem zn9 {X:Cx} {st:Stmt} {t:TS} (h1:QS X st t):QSs X [st] t:=QSs.mk (zr h1.out)
end
end L2
namespace L2
open PySem PySem.Spec PySem.Calls PyProof.Rows PySem.W
section
variable {prog:Program} {w:World} {A:Around} {E:Value->Shared->Prop} {s:Shared}
def KeptBut (a:Addr) (h h':Heap):Prop:=∀ b o,b ≠ a->h.get? b = some o->h'.get? b = some o
end
end L2
namespace L2
open PySem PySem.Spec PyProof.Rows
section
def zq6:D2:=fun x y S R=>asT x fun ds=>asT y fun es=>∃ ns,ds = ns.map PyData.int/\∃ ms,es = ms.map PyData.int/\R (.d (.bool (HT.lexLt ns ms))) S
theorem zmI {K:W.Frag}:RO (ztE K) zq6:=fun h o H S x y v u R Q hs hx hy q c=>by
 replace q:=zdr q
 obtain ⟨ds,rfl,q⟩:=q
 replace q:=zdr q
 obtain ⟨es,rfl,ns,rfl,ms,rfl,q⟩:=q
 obtain ⟨a,vs,rfl,ea,l1⟩:=zcg hx
 obtain ⟨b,ws,rfl,eb,l2⟩:=zcg hy
 have e1:=zaP l1
 have e2:=zaP l2
 subst e1 e2
 exact ⟨a,b,ns,ms,rfl,rfl,.of ea,.of eb,c o H S _ _ Ex.refl hs (xB _) q⟩
end
section
open Sem (wp)
namespace F4
end F4
end
section
namespace F4
end F4
end
section
namespace F4
end F4
end
section
namespace F4
end F4
end
end L2
namespace L2
open PySem PySem.Spec PySem.Calls PyProof.Rows PySem.W PySem.Builtin PySem.Builtin.ObjectAttr PySem.Builtin.Getset_descriptor
end L2
namespace L2
open PySem PySem.Spec PySem.Calls PyProof.Rows
end L2
namespace L2
open PySem PySem.Spec PyProof.Rows
section
abbrev EXD:=Addr->List (Str × PyData)->Prop
def CnX (h o:List Addr) (H:Hp) (EX:EXD) (E:XK):Prop:=∀ o' H' S' C a fs,Ex o H o' H'->RepS h o' H' S'->HasE (vx h o' H') C fs (.ref a)->EX C fs->E (.ref C) (some a) H'
theorem CnX.pre {h o o':List Addr} {H H':Hp} {EX:EXD} {E:XK} (c:CnX h o H EX E) (e:Ex o H o' H'):CnX h o' H' EX E:=fun o2 H2 S2 C a fs e2=>c o2 H2 S2 C a fs (e.trans e2)
def RSx (E:XK) (EX:EXD) (t:TS) (dt:DS):Prop:=∀ (h o:List Addr) (H:Hp) (δ:XE) (σ:St) (S:Sto) (En:DEnds) (D:Ends),RepE h o H δ σ->RepS h o H S->dt En δ S->EOk h o H En D->CnX h o H EX E->t D σ H
section
variable {E:XK} {EX:EXD} {t u:TS} {dt du:DS}
theorem zqk (ht:RS t dt):RSx E EX t dt:=fun h o H δ σ S En D he hs q c _=>ht h o H δ σ S En D he hs q c
end
end
end L2
namespace L2
open PySem PySem.Spec PySem.Calls PyProof.Rows PySem.W PySem.Builtin PySem.Builtin.ObjectAttr
end L2
namespace L2
open PySem PySem.Spec PySem.Calls PyProof.Rows PySem.W
end L2
namespace L2
open PySem PySem.Spec PySem.Calls PyProof.Rows
end L2
namespace L2
open PySem PySem.Spec PySem.Calls PyProof.Rows
end L2
namespace L2
open PySem PySem.Spec PyProof.Rows
end L2
namespace L2
open PySem PySem.Spec PySem.Calls PyProof.Rows
end L2
namespace L2
open PySem PySem.Spec PyProof.Rows
section
abbrev Phi:=List Addr->List Addr->Hp->Prop
class Stb (Φ:Phi):Prop where
 st:∀ {h o o':List Addr} {H H':Hp},Φ h o H->Ex o H o' H'->Φ h o' H'
def REp (Φ:Phi) (t:TE) (dt:DE):Prop:=∀ (h o:List Addr) (H:Hp) (δ:XE) (σ:St) (S:Sto) (R:RX) (Q:VK),RepE h o H δ σ->RepS h o H S->dt δ S R->Cn h o H R Q->Φ h o H->t σ H Q
def RTp (Φ:Phi) (t:TT) (dt:DT):Prop:=∀ (h o:List Addr) (H:Hp) (δ:XE) (σ:St) (S:Sto) (R:Bool->Sto->Prop) (Q:Bool->Hp->Prop),RepE h o H δ σ->RepS h o H S->dt δ S R ->
 (∀ o' H' S' b,Ex o H o' H'->RepS h o' H' S'->R b S'->Q b H')->Φ h o H->t σ H Q
def RIp (Φ:Phi) (w:TI) (di:DI):Prop:=∀ (h o:List Addr) (H:Hp) (δ:XE) (σ:St) (S:Sto) (R:List PyData->Sto->Prop) (Q:It->Hp->Prop),RepE h o H δ σ->RepS h o H S->di δ S R ->
 (∀ o' H' S' ds J,Ex o H o' H'->RepS h o' H' S'->WalkX h o' H' J ds->R ds S'->Q J H')->Φ h o H->w σ H Q
section
variable {Φ:Phi} [Stb Φ] {ta tb te:TE} {da db de:DE} {tl:TA} {dl:DA} {tt tu:TT} {dt du:DT}
theorem za9 (a:RE te de):REp Φ te de:=fun h o H δ σ S R Q he hs q c _=>a h o H δ σ S R Q he hs q c
theorem zlY {w:TI} {di:DI} (a:RI w di):RIp Φ w di:=fun h o H δ σ S R Q he hs q c _=>a h o H δ σ S R Q he hs q c
theorem zti {r:R2} {rd:D2} (hr:RO r rd) (ha:REp Φ ta da) (hb:REp Φ tb db):REp Φ (tOp r ta tb) (dOp rd da db):=fun h o H δ σ S R Q he hs q c w =>
 ha h o H δ σ S _ _ he hs q (fun o1 H1 S1 x v e1 s1 x1 d1=>hb h o1 H1 δ σ S1 _ _ (he.mono e1) s1 d1 (fun o2 H2 S2 y u e2 s2 y2 d2 =>
  hr h o2 H2 S2 x y v u R Q s2 (x1.mono e2) y2 d2 (c.pre (e1.trans e2))) (Stb.st w e1)) w
theorem ztA (ha:REp Φ ta da):RTp Φ (zmi ta) (dB da):=fun h o H δ σ S R Q he hs q c w =>
 ha h o H δ σ S _ _ he hs q (fun o1 H1 S1 x v e1 s1 x1 d1=>by
  replace d1:=ziX d1
  obtain ⟨b,rfl,d1⟩:=d1
  exact ⟨b,zet x1,c o1 H1 S1 b e1 s1 d1⟩) w
end
def zty (N P:List Str) (sc:Scope):Bool:=decide (sc.kind = .function) && !sc.isCoroutine && !sc.isGenerator && decide N.Nodup && decide (N.take P.length = P) && P.all (fun x=>decide (sc.names.lookup x = some .local) || decide (sc.names.lookup x = some .cell)) && sc.names.all fun y=>decide (y.2 ≠ .free)
theorem fsc {N P:List Str} {sc:Scope} (h:zty N P sc = true):FnScope N P sc:=by
 simp only [zty,Bool.and_eq_true,decide_eq_true_eq,Bool.not_eq_true',List.all_eq_true,Bool.or_eq_true] at h
 obtain ⟨⟨⟨⟨⟨⟨h1,h2⟩,h3⟩,h4⟩,h5⟩,h6⟩,h7⟩:=h
 exact ⟨h1,h2,h3,h4,h5,h6,h7⟩
end
section
section
variable {κ α:Type} [DecidableEq κ]
def lkA (m:List (κ × α)) (k:κ):Option α:=(m.find? fun p=>decide (p.1 = k)).map (·.2)
def ptA (m:List (κ × α)) (k:κ) (v:α):List (κ × α):=if (m.any fun p=>decide (p.1 = k)) = true then m.map (fun p=>if p.1 = k then (p.1,v) else p) else m ++ [(k,v)]
def HasM (H:Hp):List (κ × PyData)->List (κ × V)->Prop
 | [],m=>m = []
 | p :: r,m=>∃ v m',m = (p.1,v) :: m'/\Has H p.2 v/\HasM H r m'
theorem HasM.mono {H H':Hp} (s:Same H H'):∀ {m:List (κ × PyData)} {m':List (κ × V)},HasM H m m'->HasM H' m m'
 | [],_,q=>q
 | p :: r,_,⟨v,t,e,q,l⟩=>⟨v,t,e,Has.mono s _ _ q,HasM.mono s l⟩
theorem HasM.length {H:Hp}:∀ {m:List (κ × PyData)} {m':List (κ × V)},HasM H m m'->m'.length = m.length
 | [],_,q=>by rw [show _ = [] from q]; rfl
 | p :: r,_,⟨v,t,e,q,l⟩=>by rw [e,List.length_cons,List.length_cons,HasM.length l]
theorem HasM.val {H:Hp} (k:κ):∀ {m:List (κ × PyData)} {m':List (κ × V)},HasM H m m'->(lkA m k = none/\zlk m' k = none)\/∃ d v,lkA m k = some d/\zlk m' k = some v/\Has H d v
 | [],m',q=>by rw [show m' = [] from q]; exact .inl ⟨rfl,rfl⟩
 | p :: r,m',⟨v,t,e,q,l⟩=>by
  subst e
  by_cases hk:p.1 = k
  ·exact .inr ⟨p.2,v,by simp [lkA,hk],zfE hk,q⟩
  ·have e1:lkA (p :: r) k = lkA r k:=by simp [lkA,hk]
   rw [e1,zfz hk]
   exact HasM.val k l
theorem HasM.any {H:Hp} (k:κ):∀ {m:List (κ × PyData)} {m':List (κ × V)},HasM H m m'->(m'.any fun p=>decide (p.1 = k)) = m.any fun p=>decide (p.1 = k)
 | [],m',q=>by rw [show m' = [] from q]; rfl
 | p :: r,m',⟨v,t,e,q,l⟩=>by
  subst e
  rw [List.any_cons,List.any_cons,HasM.any k l]
theorem HasM.sets {H:Hp} {k:κ} {d:PyData} {v:V} (hv:Has H d v):∀ {m:List (κ × PyData)} {m':List (κ × V)},HasM H m m'->HasM H (m.map fun p=>if p.1 = k then (p.1,d) else p) (m'.map fun p=>if p.1 = k then (p.1,v) else p)
 | [],m',q=>by rw [show m' = [] from q]; rfl
 | p :: r,m',⟨u,t,e,q,l⟩=>by
  subst e
  rw [List.map_cons,List.map_cons]
  by_cases hk:p.1 = k
  ·exact ⟨v,_,by simp [hk],by simpa [hk] using hv,HasM.sets hv l⟩
  ·exact ⟨u,_,by simp [hk],by simpa [hk] using q,HasM.sets hv l⟩
theorem HasM.snoc {H:Hp} {k:κ} {d:PyData} {v:V} (hv:Has H d v):∀ {m:List (κ × PyData)} {m':List (κ × V)},HasM H m m'->HasM H (m ++ [(k,d)]) (m' ++ [(k,v)])
 | [],m',q=>by rw [show m' = [] from q]; exact ⟨v,[],rfl,hv,rfl⟩
 | p :: r,m',⟨u,t,e,q,l⟩=>by subst e; exact ⟨u,_,rfl,q,HasM.snoc hv l⟩
theorem HasM.put {H:Hp} {k:κ} {d:PyData} {v:V} {m:List (κ × PyData)} {m':List (κ × V)} (l:HasM H m m') (hv:Has H d v):HasM H (ptA m k d) (ze0 m' k v):=by
 unfold ptA ze0
 rw [l.any k]
 split
 ·exact l.sets hv
 ·exact l.snoc hv
end
inductive DD where
 | k (m:List (Key × PyData))
 | t (m:List (List Key × PyData))
def DD.pairs:DD->List (PyData × PyData)
 | .k m=>m.map fun p=>(kD p.1,p.2)
 | .t m=>m.map fun p=>(.tuple (p.1.map kD),p.2)
def DD.len:DD->Nat
 | .k m=>m.length
 | .t m=>m.length
def zoj:PyData->Option Key
 | .int i=>some (.inl i)
 | .str x=>some (.inr x)
 | _=>none
def zli:List PyData->Option (List Key)
 | []=>some []
 | d :: ds=>(zoj d).bind fun k=>(zli ds).map (k :: ·)
def zqq:PyData->Option (List Key)
 | .tuple ds=>zli ds
 | _=>none
def DD.get:DD->PyData->Option (Option PyData)
 | .k m,y=>(zoj y).map (lkA m)
 | .t m,y=>(zqq y).map (lkA m)
def DD.put:DD->PyData->PyData->Option DD
 | .k m,y,d=>(zoj y).map fun k=>.k (ptA m k d)
 | .t m,y,d=>(zqq y).map fun k=>.t (ptA m k d)
def RAt (G H:Hp) (a:Addr):DD->Prop
 | .k m=>∃ m',Rd H a (.dK m')/\HasM G m m'
 | .t m=>∃ m',Rd H a (.dT m')/\HasM G m m'
def DAt (G H:Hp) (a:Addr):DD->Prop
 | .k m=>∃ m',H a = some (.dK m')/\HasM G m m'
 | .t m=>∃ m',H a = some (.dT m')/\HasM G m m'
theorem zhd {H:Hp} {y:PyData} {v:V} {k:Key} (e:zoj y = some k) (q:Has H y v):v = kV k:=by
 cases y with
 | int i=>cases e; exact zbU.mp q
 | str x=>cases e; exact zdF.mp q
 | _=>cases e
theorem zh4 {H:Hp}:∀ {ds:List PyData} {vs:List V} {ks:List Key},zli ds = some ks->HasL H ds vs->vs = ks.map kV
 | [],vs,ks,e,l=>by cases e; exact zL.mp l
 | d :: ds,vs,ks,e,l=>by
  obtain ⟨v,r,rfl,q,l⟩:=zC.mp l
  unfold zli at e
  cases hk:zoj d with
  | none=>rw [hk] at e; cases e
  | some k =>
   rw [hk,Option.bind_some] at e
   cases hs:zli ds with
   | none=>rw [hs] at e; cases e
   | some ks' =>
    rw [hs] at e
    cases e
    rw [zhd hk q,zh4 hs l]
    rfl
theorem zjH {H:Hp} {y:PyData} {v:V} {ks:List Key} (e:zqq y = some ks) (q:Has H y v):∃ b,v = .ref b/\H b = some (.tup (ks.map kV)):=by
 cases y with
 | tuple ds =>
  obtain ⟨b,vs,rfl,eb,l⟩:=zaB.mp q
  exact ⟨b,rfl,by rw [<- zh4 (show zli ds = some ks from e) l]; exact eb⟩
 | _=>cases e
theorem DAt.mono {G G' H H':Hp} {a:Addr} {D:DD} (s:Same G G') (e:∀ u,H a = some u->H' a = some u) (q:DAt G H a D):DAt G' H' a D:=by
 cases D with
 | k m=>obtain ⟨m',e1,l⟩:=q; exact ⟨m',e _ e1,l.mono s⟩
 | t m=>obtain ⟨m',e1,l⟩:=q; exact ⟨m',e _ e1,l.mono s⟩
theorem DAt.rd {G H:Hp} {a:Addr} {D:DD} (q:DAt G H a D):RAt G H a D:=by
 cases D with
 | k m=>obtain ⟨m',e1,l⟩:=q; exact ⟨m',.inl e1,l⟩
 | t m=>obtain ⟨m',e1,l⟩:=q; exact ⟨m',.inl e1,l⟩
theorem DAt.mo {G H:Hp} {a:Addr} {D:DD} (q:DAt G H a D):∃ u:MO,H a = some u.ho:=by
 cases D with
 | k m=>obtain ⟨m',e1,l⟩:=q; exact ⟨.k m',e1⟩
 | t m=>obtain ⟨m',e1,l⟩:=q; exact ⟨.t m',e1⟩
def RelD (G:Hp):Option PyData->Option V->Prop
 | none,r=>r = none
 | some d,r=>∃ u,r = some u/\Has G d u
theorem RAt.get {G H:Hp} {a:Addr} {D:DD} {y:PyData} {v:V} {o:Option PyData} (sv:Same G H) (q:RAt G H a D) (hy:Has G y v) (e:D.get y = some o):∃ r,DGet H a v r/\RelD G o r:=by
 cases D with
 | k m =>
  obtain ⟨m',e1,l⟩:=q
  replace e:(zoj y).map (lkA m) = some o:=e
  cases hk:zoj y with
  | none=>rw [hk] at e; cases e
  | some k =>
   rw [hk] at e
   cases e
   rw [zhd hk hy]
   refine ⟨_,.inl ⟨m',k,e1,rfl,rfl⟩,?_⟩
   rcases l.val k with ⟨z1,z2⟩ | ⟨d,u,z1,z2,z3⟩
   ·rw [z1]; exact z2
   ·rw [z1]; exact ⟨u,z2,z3⟩
 | t m =>
  obtain ⟨m',e1,l⟩:=q
  replace e:(zqq y).map (lkA m) = some o:=e
  cases hk:zqq y with
  | none=>rw [hk] at e; cases e
  | some k =>
   rw [hk] at e
   cases e
   obtain ⟨b,rfl,eb⟩:=zjH hk hy
   refine ⟨_,.inr ⟨m',k,b,e1,rfl,sv _ _ eb,rfl⟩,?_⟩
   rcases l.val k with ⟨z1,z2⟩ | ⟨d,u,z1,z2,z3⟩
   ·rw [z1]; exact z2
   ·rw [z1]; exact ⟨u,z2,z3⟩
theorem RAt.isD {G H:Hp} {a:Addr} {D:DD} (q:RAt G H a D):IsD H a:=by
 cases D with
 | k m=>obtain ⟨m',e1,_⟩:=q; exact .inl ⟨m',e1⟩
 | t m=>obtain ⟨m',e1,_⟩:=q; exact .inr ⟨m',e1⟩
theorem DAt.put {G H:Hp} {a:Addr} {D D':DD} {y d:PyData} {v u:V} (sv:Same G H) (q:DAt G H a D) (hy:Has G y v) (hd:Has G d u) (e:D.put y d = some D') (hl:D.len < 1000) :
  ∃ x:MO,DPut H a v u (upd H a x.ho)/\∀ H',H' a = some x.ho->DAt G H' a D':=by
 cases D with
 | k m =>
  obtain ⟨m',e1,l⟩:=q
  replace e:((zoj y).map fun k=>DD.k (ptA m k d)) = some D':=e
  cases hk:zoj y with
  | none=>rw [hk] at e; cases e
  | some k =>
   rw [hk] at e
   cases e
   rw [zhd hk hy]
   exact ⟨.k (ze0 m' k u),DPut.k e1 (by rw [l.length]; exact small1000 (Nat.le_of_lt hl)),fun H' z=>⟨_,z,l.put hd⟩⟩
 | t m =>
  obtain ⟨m',e1,l⟩:=q
  replace e:((zqq y).map fun k=>DD.t (ptA m k d)) = some D':=e
  cases hk:zqq y with
  | none=>rw [hk] at e; cases e
  | some k =>
   rw [hk] at e
   cases e
   obtain ⟨b,rfl,eb⟩:=zjH hk hy
   exact ⟨.t (ze0 m' k u),DPut.t e1 (sv _ _ eb) (by rw [l.length]; exact small1000 (Nat.le_of_lt hl)),fun H' z=>⟨_,z,l.put hd⟩⟩
theorem zr1 {a b:Key} (e:kD a = kD b):a = b:=by
 cases a <;> cases b <;> cases e <;> rfl
theorem zmt {H:Hp}:∀ {m:List (Key × PyData)} {m':List (Key × V)},HasM H m m'->HasV H (m.map fun p=>(kD p.1,p.2)) (m'.map (·.2))/\m'.map (fun p=>kD p.1) = m.map fun p=>kD p.1
 | [],m',q=>by rw [show m' = [] from q]; exact ⟨znZ.mpr rfl,rfl⟩
 | p :: r,m',⟨v,t,e,q,l⟩=>by
  subst e
  obtain ⟨z1,z2⟩:=zmt l
  exact ⟨zif.mpr ⟨v,_,rfl,q,z1⟩,by rw [List.map_cons,List.map_cons,z2]⟩
theorem zmB {H:Hp}:∀ {m:List (Key × PyData)} {m':List (Key × V)},HasV H (m.map fun p=>(kD p.1,p.2)) (m'.map (·.2))->m.map (fun p=>kD p.1) = m'.map (fun p=>kD p.1)->HasM H m m'
 | [],[],_,_=>rfl
 | [],_ :: _,_,e=>by simp at e
 | _ :: _,[],_,e=>by simp at e
 | p :: r,q :: t,h,e=>by
  rw [List.map_cons,List.map_cons] at h
  obtain ⟨v,s,e1,e2,e3⟩:=zif.mp h
  rw [List.cons.injEq] at e1
  rw [List.map_cons,List.map_cons,List.cons.injEq] at e
  have z:=zr1 e.1
  obtain ⟨q1,q2⟩:=q
  refine ⟨q2,t,by rw [z],?_,zmB (by rw [e1.2]; exact e3) e.2⟩
  have z1:q2 = v:=e1.1
  rw [z1]
  exact e2
theorem zgL {H:Hp} {m:List (Key × PyData)} {v:V}:Has H (.dict (DD.pairs (.k m))) v ↔ ∃ a ob m',v = .ref a/\H a = some (.frz ob (.dK m'))/\HasM H m m':=by
 rw [zkj]
 constructor
 ·rintro ⟨a,vs,rfl,⟨ob,m',e,e1,e2⟩,l⟩
  subst e2
  refine ⟨a,ob,m',rfl,e,zmB l ?_⟩
  rw [<- e1]
  simp [DD.pairs]
 ·rintro ⟨a,ob,m',rfl,e,l⟩
  obtain ⟨z1,z2⟩:=zmt l
  exact ⟨a,_,rfl,⟨ob,m',e,by rw [z2]; simp [DD.pairs],rfl⟩,z1⟩
abbrev DM:=List (Addr × DD)
def ad (M:DM):List Addr:=M.map (·.1)
structure RepM (h o:List Addr) (H:Hp) (M:DM):Prop where
 nd:(ad M).Nodup
 nh:∀ a ∈ ad M,a ∉ h/\a ∉ o
 ct:∀ a D,(a,D) ∈ M->DAt (vx (h ++ ad M) o H) H a D
section
variable {h o o':List Addr} {H H':Hp} {M:DM} {S:Sto}
theorem RepM.at (r:RepM h o H M) {a:Addr} (m:a ∈ ad M):∃ D,(a,D) ∈ M/\DAt (vx (h ++ ad M) o H) H a D:=by
 obtain ⟨p,mp,e⟩:=List.mem_map.mp m
 obtain ⟨b,D⟩:=p
 cases e
 exact ⟨D,mp,r.ct _ D mp⟩
theorem RepM.mono (r:RepM h o H M) (e:Ex o H o' H'):RepM h o' H' M:=by
 have k1:∀ a ∈ ad M,∀ u,H a = some u->a ∉ o'/\H' a = some u:=fun a m u z=>e.kp a u (r.nh a m).2 z
 refine ⟨r.nd,fun a m=>⟨(r.nh a m).1,?_⟩,fun a D m=>?_⟩
 ·obtain ⟨D,_,q⟩:=r.at m
  obtain ⟨u,z⟩:=q.mo
  exact (k1 a m _ z).1
 ·exact (r.ct a D m).mono e.vx fun u z=>(k1 a (List.mem_map.mpr ⟨_,m,rfl⟩) u z).2
theorem RepM.nil:RepM h o H []:=⟨List.nodup_nil,fun a m=>(by cases m),fun a D m=>(by cases m)⟩
def zq7 (M:DM) (a:Addr) (D:DD):DM:=M.map fun p=>if p.1 = a then (a,D) else p
theorem zgo {a:Addr} {D:DD}:∀ {M:DM},ad (zq7 M a D) = ad M
 | []=>rfl
 | p :: r=>by
  have z:=zgo (a:=a) (D:=D) (M:=r)
  unfold ad zq7 at z ⊢
  rw [List.map_cons,List.map_cons,List.map_cons,z]
  by_cases e:p.1 = a <;> simp [e]
theorem zfY {a:Addr} {u:HO} (m:a ∈ h):Same (vx h o H) (vx h o (upd H a u)):=fun b w e=>by
 obtain ⟨z1,z2,z3⟩:=zas.mp e
 exact zas.mpr ⟨z1,z2,by rw [zY (fun z=>z1 (by rw [z]; exact m))]; exact z3⟩
theorem HasX.view (s:Same (vx h o H) (vx h o H')):∀ {x:XV} {v:V},HasX h o H x v->HasX h o H' x v
 | .d d,v,q=>Has.mono s d v q
 | .l k,v,q=>q
 | .o w,v,q=>q
 | .x C fs,v,q=>HasE.mono s q
theorem RepE.view {δ:XE} {σ:St} (s:Same (vx h o H) (vx h o H')) (r:RepE h o H δ σ):RepE h o H' δ σ:=⟨r.len,fun i x e=>let ⟨v,e1,e2⟩:=r.get i x e; ⟨v,e1,e2.view s⟩⟩
theorem RepS.hidden {a:Addr} {u:MO} (r:RepS h o H S) (m:a ∈ h):RepS h o (L2.upd H a u.ho) S where
 len:=r.len
 nd:=r.nd
 dis:=r.dis
 hal:=fun b mb=>by
  by_cases e:b = a
  ·subst e; exact ⟨u,zag⟩
  ·obtain ⟨w,z⟩:=r.hal b mb
   exact ⟨w,by rw [zY e]; exact z⟩
 cont:=fun k b ds e1 e2=>by
  obtain ⟨vs,e3,l⟩:=r.cont k b ds e1 e2
  have ne:b ≠ a:=fun z=>r.dis b (List.mem_of_getElem? e1) (z ▸ m)
  exact ⟨vs,by rw [zY ne]; exact e3,HasL.mono (zfY m) _ _ l⟩
theorem RepM.put {a:Addr} {D D':DD} {u:MO} (r:RepM h o H M) (m:(a,D) ∈ M) (q:∀ H',H' a = some u.ho->DAt (vx (h ++ ad M) o H) H' a D'):RepM h o (L2.upd H a u.ho) (zq7 M a D'):=by
 have ma:a ∈ ad M:=List.mem_map.mpr ⟨_,m,rfl⟩
 refine ⟨by rw [zgo]; exact r.nd,by rw [zgo]; exact r.nh,fun b D2 mb=>?_⟩
 rw [zgo]
 have sv:Same (vx (h ++ ad M) o H) (vx (h ++ ad M) o (L2.upd H a u.ho)):=zfY (List.mem_append_right _ ma)
 obtain ⟨p,mp,ep⟩:=List.mem_map.mp mb
 by_cases e:p.1 = a
 ·rw [if_pos e] at ep
  cases ep
  exact (q _ zag).mono sv fun _ z=>z
 ·rw [if_neg e] at ep
  subst ep
  exact (r.ct _ _ mp).mono sv fun w z=>by rw [zY e]; exact z
theorem RepS.less {l:List Addr} (r:RepS (h ++ l) o H S):RepS h o H S where
 len:=r.len
 nd:=r.nd
 dis:=fun a ma z=>r.dis a ma (List.mem_append_left _ z)
 hal:=fun b mb=>r.hal b (List.mem_append_left _ mb)
 cont:=fun k b ds e1 e2=>by
  obtain ⟨vs,e3,q⟩:=r.cont k b ds e1 e2
  exact ⟨vs,e3,HasL.mono (fun c u z=>let ⟨z1,z2,z3⟩:=zas.mp z; zas.mpr ⟨fun mm=>z1 (List.mem_append_left _ mm),z2,z3⟩) _ _ q⟩
theorem zgg {l:List Addr}:Same (vx (h ++ l) o H) (vx h o H):=fun c u z=>let ⟨z1,z2,z3⟩:=zas.mp z; zas.mpr ⟨fun mm=>z1 (List.mem_append_left _ mm),z2,z3⟩
theorem HasX.less {l:List Addr}:∀ {x:XV} {v:V},HasX (h ++ l) o H x v->HasX h o H x v
 | .d d,v,q=>Has.mono zgg d v q
 | .l k,v,q=>q
 | .o w,v,q=>q
 | .x C fs,v,q=>HasE.mono zgg q
end
end
section
structure DEndsM where
 nx:XE->Sto->DM->Prop
 rt:XV->Sto->DM->Prop
 bk:XE->Sto->DM->Prop:=fun _ _ _=>False
 ct:XE->Sto->DM->Prop:=fun _ _ _=>False
abbrev DSm:=DEndsM->XE->Sto->DM->Prop
def Fr (H:Hp) (M:DM):Prop:=∀ a ∈ ad M,H a = none
def NxM (h o:List Addr) (H:Hp) (A:List Addr) (N:XE->Sto->DM->Prop) (Y:St->Hp->Prop):Prop:=∀ o' H' δ' S' M' σ',Ex o H o' H'->ad M' = A->RepE (h ++ ad M') o' H' δ' σ'->RepS (h ++ ad M') o' H' S'->RepM h o' H' M'->N δ' S' M'->Y σ' H'
structure EOkM (h o:List Addr) (H:Hp) (A:List Addr) (E:DEndsM) (D:Ends):Prop where
 nx:NxM h o H A E.nx D.nx
 rt:∀ o' H' S' M' x v,Ex o H o' H'->ad M' = A->RepS (h ++ ad M') o' H' S'->RepM h o' H' M'->HasX (h ++ ad M') o' H' x v->E.rt x S' M'->D.rt v H'
 bk:NxM h o H A E.bk D.bk
 ct:NxM h o H A E.ct D.ct
def RSm (E:XK) (EX:EXD) (t:TS) (dt:DSm):Prop:=∀ (h o0:List Addr) (H0:Hp) (o:List Addr) (H:Hp) (δ:XE) (σ:St) (S:Sto) (M:DM) (En:DEndsM) (D:Ends),Ex o0 H0 o H->Fr H0 M->RepE (h ++ ad M) o H δ σ->RepS (h ++ ad M) o H S->RepM h o H M->dt En δ S M ->
 EOkM h o0 H0 (ad M) En D->CnX h o0 H0 EX E->t D σ H
theorem CnX.inn {E:XK} {EX:EXD} {h o0 o l:List Addr} {H0 H:Hp} (x:CnX h o0 H0 EX E) (e0:Ex o0 H0 o H):CnX (h ++ l) o H EX E:=fun o' H' S' C a fs e s' hE q=>x o' H' S' C a fs (e0.trans e) s'.less (HasE.mono zgg hE) q
def ziy (dt:DS):DSm:=fun En δ S M=>dt { nx:=fun δ' S'=>En.nx δ' S' M,rt:=fun x S'=>En.rt x S' M,bk:=fun δ' S'=>En.bk δ' S' M,ct:=fun δ' S'=>En.ct δ' S' M } δ S
def zoc (t u:DSm):DSm:=fun En δ S M=>t { En with nx:=u En } δ S M
def zfg (g:DG) (b:DSm):List PyData->DSm
 | [],E,δ,S,M=>E.nx δ S M
 | d :: ds,E,δ,S,M=>g (.d d) δ S fun δ1 S1=>b { nx:=fun δ2 S2 M2=>zfg g b ds E δ2 S2 M2,ct:=fun δ2 S2 M2=>zfg g b ds E δ2 S2 M2,bk:=E.nx,rt:=E.rt } δ1 S1 M
def zl9 (i:DM->DI) (g:DG) (b:DSm):DSm:=fun En δ S M=>i M δ S fun ds S1=>zfg g b ds En δ S1 M
def PhM (M:DM):Phi:=fun h' o H=>∃ h,h' = h ++ ad M/\RepM h o H M
instance {M:DM}:Stb (PhM M):=⟨fun ⟨h,e,r⟩ x=>⟨h,e,r.mono x⟩⟩
section
variable {E:XK} {EX:EXD} {t u:TS} {dt du:DSm}
theorem znL {ds:DS} (ht:RSx E EX t ds):RSm E EX t (ziy ds):=fun h o0 H0 o H δ σ S M En D e0 fr he hs rm q c x =>
 ht (h ++ ad M) o H δ σ S _ D he hs q ⟨fun o' H' δ' S' σ' e he' hs' n=>c.nx o' H' δ' S' M σ' (e0.trans e) rfl he' hs' (rm.mono e) n,fun o' H' S' y v e hs' hy n=>c.rt o' H' S' M y v (e0.trans e) rfl hs' (rm.mono e) hy n,
  fun o' H' δ' S' σ' e he' hs' n=>c.bk o' H' δ' S' M σ' (e0.trans e) rfl he' hs' (rm.mono e) n,fun o' H' δ' S' σ' e he' hs' n=>c.ct o' H' δ' S' M σ' (e0.trans e) rfl he' hs' (rm.mono e) n⟩ (x.inn e0)
theorem zqO {ds:DS} (ht:RS t ds):RSm E EX t (ziy ds):=znL (zqk ht)
theorem zsp (ht:RSm E EX t dt) (hu:RSm E EX u du):RSm E EX (znI t u) (zoc dt du):=fun h o0 H0 o H δ σ S M En D e0 fr he hs rm q c x =>
 ht h o0 H0 o H δ σ S M _ _ e0 fr he hs rm q ⟨fun o1 H1 δ1 S1 M1 σ1 e1 ea he1 hs1 rm1 q1=>hu h o0 H0 o1 H1 δ1 σ1 S1 M1 En D e1 (by unfold Fr; rw [ea]; exact fr) he1 hs1 rm1 q1 (by rw [ea]; exact c) x,c.rt,c.bk,c.ct⟩ x
theorem zpG {wi:TI} {g:TG} {tb:TS} {di:DM->DI} {dg:DG} {db:DSm} (hi:∀ M,RIp (PhM M) wi (di M)) (hg:RG g dg) (hb:RSm E EX tb db):RSm E EX (zrJ wi g tb) (zl9 di dg db):=fun h o0 H0 o H δ σ S M En D e0 fr he hs rm q c x =>
 hi M (h ++ ad M) o H δ σ S _ _ he hs q (fun o1 H1 S1 ds J e1 s1 wk d1=>by
  refine ⟨fun i m σ2 H2=>m = ds.length - i/\i <= ds.length/\∃ o2 δ2 S2 M2,Ex o0 H0 o2 H2/\ExH (h ++ ad M) o1 H1 o2 H2/\ad M2 = ad M/\RepE (h ++ ad M) o2 H2 δ2 σ2/\RepS (h ++ ad M) o2 H2 S2/\RepM h o2 H2 M2/\zfg dg db (ds.drop i) En δ2 S2 M2,
   ⟨ds.length,by simp,Nat.zero_le _,o1,δ,S1,M,e0.trans e1,ExH.refl,rfl,he.mono e1,s1,rm.mono e1,d1⟩,?_⟩
  rintro i m σ2 H2 ⟨rfl,hi,o2,δ2,S2,M2,e2,x2,ea,he2,hs2,rm2,d2⟩
  by_cases hlt:i < ds.length
  ·have ed:ds[i]? = some ds[i]:=List.getElem?_eq_getElem hlt
   rw [List.drop_eq_getElem_cons hlt] at d2
   refine .inr ⟨wk.go i _ o2 H2 x2 ed,fun σ3 H3=>∃ o3 δ3 S3 M3,Ex o0 H0 o3 H3/\ExH (h ++ ad M) o1 H1 o3 H3/\ad M3 = ad M/\RepE (h ++ ad M) o3 H3 δ3 σ3/\RepS (h ++ ad M) o3 H3 S3/\RepM h o3 H3 M3/\zfg dg db (ds.drop (i + 1)) En δ3 S3 M3,fun σ3 H3 n=>⟨ds.length - (i + 1),by omega,rfl,hlt,n⟩,fun y H3 yy=>?_⟩
   obtain ⟨s3,hx⟩:=wk.yld i _ o2 H2 y H3 S2 x2 hs2 ed yy
   have e23:Ex o2 H2 o2 H3:=Ex.of_same s3
   refine hg (h ++ ad M) o2 H3 δ2 σ2 S2 (.d ds[i]) y _ _ (he2.mono e23) (hs2.same s3) hx d2 fun o4 H4 δ4 S4 σ4 e4 he4 hs4 d4=>?_
   have e24:Ex o2 H2 o4 H4:=e23.trans e4
   have nM:∀ b u,H0 b = some u->b ∉ ad M:=fun b u z mb=>by
    rw [fr b mb] at z
    cases z
   have e04:Ex o0 H0 o4 (fun b=>if b ∈ ad M then none else H4 b):=⟨(e2.trans e24).pre,fun b u nb z=>by
    obtain ⟨z1,z2⟩:=(e2.trans e24).kp b u nb z
    exact ⟨z1,by show (if b ∈ ad M then none else H4 b) = some u; rw [if_neg (nM b u z)]; exact z2⟩⟩
   have exh:∀ {o5 H5},Ex o4 (fun b=>if b ∈ ad M then none else H4 b) o5 H5->ExH (h ++ ad M) o4 H4 o5 H5:=fun e5=>⟨e5.pre,fun b u n1 n2 z=>e5.kp b u n2 (by show (if b ∈ ad M then none else H4 b) = some u; rw [if_neg (fun mb=>n1 (List.mem_append_right _ mb))]; exact z)⟩
   have again:∀ o5 H5 δ5 S5 M5 σ5,Ex o4 (fun b=>if b ∈ ad M then none else H4 b) o5 H5->ad M5 = ad M2->RepE (h ++ ad M5) o5 H5 δ5 σ5->RepS (h ++ ad M5) o5 H5 S5->RepM h o5 H5 M5->zfg dg db (ds.drop (i + 1)) En δ5 S5 M5 ->
     ∃ o3 δ3 S3 M3,Ex o0 H0 o3 H5/\ExH (h ++ ad M) o1 H1 o3 H5/\ad M3 = ad M/\RepE (h ++ ad M) o3 H5 δ3 σ5/\RepS (h ++ ad M) o3 H5 S3/\RepM h o3 H5 M3/\zfg dg db (ds.drop (i + 1)) En δ3 S3 M3:=fun o5 H5 δ5 S5 M5 σ5 e5 a5 he5 hs5 rm5 d5 =>
    ⟨o5,δ5,S5,M5,e04.trans e5,(x2.trans e24.hid).trans (exh e5),a5.trans ea,by rw [<- ea,<- a5]; exact he5,by rw [<- ea,<- a5]; exact hs5,rm5,d5⟩
   refine hb h o4 (fun b=>if b ∈ ad M then none else H4 b) o4 H4 δ4 σ4 S4 M2 _ _ ⟨⟨[],by simp⟩,fun b u nb eb=>?_⟩ (fun a ma=>by show (if a ∈ ad M then none else H4 a) = none; rw [if_pos (by rw [<- ea]; exact ma)]) (by rw [ea]; exact he4) (by rw [ea]; exact hs4) (rm2.mono e24) d4
    ⟨again,fun o5 H5 S5 M5 y5 v5 e5 a5 hs5 rm5 hx5 q5=>c.rt o5 H5 S5 M5 y5 v5 (e04.trans e5) (a5.trans ea) hs5 rm5 hx5 q5,fun o5 H5 δ5 S5 M5 σ5 e5 a5 he5 hs5 rm5 q5=>c.nx o5 H5 δ5 S5 M5 σ5 (e04.trans e5) (a5.trans ea) he5 hs5 rm5 q5,again⟩ (x.pre e04)
   refine ⟨nb,?_⟩
   by_cases mb:b ∈ ad M
   ·simp [mb] at eb
   ·simpa [mb] using eb
  ·have ei:i = ds.length:=by omega
   subst ei
   rw [List.drop_length] at d2
   exact .inl ⟨wk.stop _ o2 H2 x2 (Nat.le_refl _),c.nx o2 H2 δ2 S2 M2 σ2 e2 ea (by rw [ea]; exact he2) (by rw [ea]; exact hs2) rm2 d2⟩) ⟨h,rfl,rm⟩
end
end
section
section
variable {h h' o:List Addr} {H H':Hp}
theorem HasX.to (s:Same (vx h o H) (vx h' o H')):∀ {x:XV} {v:V},HasX h o H x v->HasX h' o H' x v
 | .d d,v,q=>Has.mono s d v q
 | .l k,v,q=>q
 | .o w,v,q=>q
 | .x C fs,v,q=>HasE.mono s q
theorem RepE.to {δ:XE} {σ:St} (s:Same (vx h o H) (vx h' o H')) (r:RepE h o H δ σ):RepE h' o H' δ σ:=⟨r.len,fun i x e=>let ⟨v,e1,e2⟩:=r.get i x e; ⟨v,e1,e2.to s⟩⟩
end
def zqo (a:Addr) (m:List (Key × PyData)):XV->XV
 | .o (.ref b)=>if b = a then .d (.dict (DD.pairs (.k m))) else .o (.ref b)
 | x=>x
theorem zrY {h h' o:List Addr} {H H':Hp} {a:Addr} {m:List (Key × PyData)} {m':List (Key × V)} {ob:Obj} (s:Same (vx h o H) (vx h' o H')) (e:vx h' o H' a = some (.frz ob (.dK m'))) (l:HasM (vx h o H) m m'):∀ {x:XV} {v:V},HasX h o H x v->HasX h' o H' (zqo a m x) v
 | .d d,v,z=>Has.mono s d v z
 | .l k,v,z=>z
 | .x C fs,v,z=>HasE.mono s z
 | .o w,v,z=>by
  cases w with
  | ref b =>
   unfold zqo
   dsimp only
   split
   ·rename_i eb
    subst eb
    rw [show v = .ref b from z]
    exact zgL.mpr ⟨b,ob,m',rfl,e,l.mono s⟩
   ·exact z
  | _=>exact z
theorem zog {h h' o:List Addr} {H H':Hp} {a:Addr} {m:List (Key × PyData)} {m':List (Key × V)} {ob:Obj} {δ:XE} {σ:St} (s:Same (vx h o H) (vx h' o H')) (e:vx h' o H' a = some (.frz ob (.dK m'))) (l:HasM (vx h o H) m m') (r:RepE h o H δ σ):RepE h' o H' (δ.map (Option.map (zqo a m))) σ:=by
 refine ⟨by rw [List.length_map]; exact r.len,fun i x ex=>?_⟩
 rw [List.getElem?_map] at ex
 cases hd:δ[i]? with
 | none=>rw [hd] at ex; cases ex
 | some y =>
  rw [hd] at ex
  cases y with
  | none=>cases ex
  | some y =>
   cases ex
   obtain ⟨v,e1,e2⟩:=r.get i y hd
   exact ⟨v,e1,zrY s e l e2⟩
theorem zav {M:DM} {a:Addr} {D:DD}:ad (M ++ [(a,D)]) = ad M ++ [a]:=by simp [ad]
theorem RepM.init {h o:List Addr} {H:Hp} {M:DM} {a:Addr} {D:DD} (r:RepM h o H (M ++ [(a,D)])):RepM h o H M:=by
 have nd:=r.nd
 rw [zav] at nd
 refine ⟨(List.nodup_append.mp nd).1,fun b m=>r.nh b (by rw [zav]; exact List.mem_append_left _ m),fun b D2 m=>?_⟩
 have z:=r.ct b D2 (List.mem_append_left _ m)
 rw [zav,<- List.append_assoc] at z
 exact z.mono zgg fun _ z=>z
def zlL (f:Bool) (i:Nat) (D0:DD) (b:DSm):DSm:=fun En δ S M=>∀ a,a ∉ ad M->b { nx:=(fun δ' S' M'=>if f = true then (∃ M1 m,M' = M1 ++ [(a,.k m)]/\δ'[i]? = some (some (.o (.ref a)))/\En.nx (δ'.map (Option.map (zqo a m))) S' M1) else (∃ M1 D,M' = M1 ++ [(a,D)]/\En.nx δ' S' M1)),rt:=(fun x S' M'=>∃ M1 D,M' = M1 ++ [(a,D)]/\En.rt x S' M1),bk:=(fun δ' S' M'=>∃ M1 D,M' = M1 ++ [(a,D)]/\En.bk δ' S' M1),ct:=(fun δ' S' M'=>∃ M1 D,M' = M1 ++ [(a,D)]/\En.ct δ' S' M1) } (δ.set i (some (.o (.ref a)))) S (M ++ [(a,D0)])
section
variable {E:XK} {EX:EXD} {tb:TS} {db:DSm} {i:Nat}
theorem zoo {f:Bool} {u:MO} {D0:DD} (hD:∀ (G H:Hp) a,H a = some u.ho->DAt G H a D0) (hb:RSm E EX tb db) {h o0:List Addr} {H0:Hp} {o:List Addr} {H:Hp} {δ:XE} {σ:St} {S:Sto} {M:DM} {En:DEndsM} {D:Ends} (e0:Ex o0 H0 o H) (fr:Fr H0 M) (he:RepE (h ++ ad M) o H δ σ) (hs:RepS (h ++ ad M) o H S) (rm:RepM h o H M)
  (q:zlL f i D0 db En δ S M) (c:EOkM h o0 H0 (ad M) En D) (x:CnX h o0 H0 EX E) (p:Addr) (hp:H p = none):(if f = true then zts i tb else tb) D (σ.set i (some (.ref p))) (upd H p u.ho):=by
 have nM:p ∉ ad M:=fun m=>by
  obtain ⟨D2,_,z⟩:=rm.at m
  obtain ⟨w,ew⟩:=z.mo
  rw [hp] at ew
  cases ew
 have f1:=hs.fresh hp
 have nh:p ∉ h:=fun m=>f1.1 (List.mem_append_left _ m)
 have sH:Same H (upd H p u.ho):=Same.laid hp
 have e1:Ex o0 H0 o (upd H p u.ho):=e0.trans (Ex.of_same sH)
 have H0p:H0 p = none:=by
  cases z:H0 p with
  | none=>rfl
  | some w =>
   by_cases m:p ∈ o0
   ·obtain ⟨r,er⟩:=e0.pre
    exact absurd (show p ∈ o by rw [er]; exact List.mem_append_left _ m) f1.2
   ·have:=(e0.kp p w m z).2
    rw [hp] at this
    cases this
 have sv:Same (vx (h ++ ad M) o H) (vx (h ++ (ad M ++ [p])) o (upd H p u.ho)):=fun b w z=>by
  obtain ⟨z1,z2,z3⟩:=zas.mp z
  have ne:b ≠ p:=zac z3 hp
  refine zas.mpr ⟨fun m=>?_,z2,by rw [zY ne]; exact z3⟩
  rw [<- List.append_assoc] at m
  rcases List.mem_append.mp m with m | m
  ·exact z1 m
  ·exact ne (List.mem_singleton.mp m)
 have sM:RepS (h ++ ad (M ++ [(p,D0)])) o (upd H p u.ho) S:=by
  rw [zav]
  refine ⟨hs.len,hs.nd,fun a ma z=>?_,fun b mb=>?_,fun k b ds e1 e2=>?_⟩
  ·rw [<- List.append_assoc] at z
   rcases List.mem_append.mp z with z | z
   ·exact hs.dis a ma z
   ·rw [List.mem_singleton.mp z] at ma
    exact f1.2 ma
  ·rw [<- List.append_assoc] at mb
   rcases List.mem_append.mp mb with m | m
   ·obtain ⟨w,ew⟩:=hs.hal b m
    exact ⟨w,sH _ _ ew⟩
   ·rw [List.mem_singleton.mp m]
    exact ⟨u,zag⟩
  ·obtain ⟨vs,e3,l⟩:=hs.cont k b ds e1 e2
   exact ⟨vs,sH _ _ e3,HasL.mono sv _ _ l⟩
 have mM:RepM h o (upd H p u.ho) (M ++ [(p,D0)]):=by
  refine ⟨by rw [zav]; exact zcL rm.nd nM,fun a ma=>?_,fun a D2 m=>?_⟩
  ·rw [zav] at ma
   rcases List.mem_append.mp ma with m | m
   ·exact rm.nh a m
   ·rw [List.mem_singleton.mp m]
    exact ⟨nh,f1.2⟩
  ·rw [zav]
   rcases List.mem_append.mp m with m | m
   ·exact (rm.ct a D2 m).mono sv fun w z=>sH _ _ z
   ·have:=List.mem_singleton.mp m
    cases this
    exact hD _ _ _ zag
 have hE:RepE (h ++ ad (M ++ [(p,D0)])) o (upd H p u.ho) (δ.set i (some (.o (.ref p)))) (σ.set i (some (.ref p))):=by
  rw [zav]
  exact (he.to sv).set (show HasX _ _ _ (.o (.ref p)) (.ref p) from rfl)
 have fr1:Fr H0 (M ++ [(p,D0)]):=fun a ma=>by
  rw [zav] at ma
  rcases List.mem_append.mp ma with m | m
  ·exact fr a m
  ·rw [List.mem_singleton.mp m]; exact H0p
 have back:∀ {N:XE->Sto->DM->Prop} {Y:St->Hp->Prop},NxM h o0 H0 (ad M) N Y->NxM h o0 H0 (ad (M ++ [(p,D0)])) (fun δ' S' M'=>∃ M1 D,M' = M1 ++ [(p,D)]/\N δ' S' M1) Y:=fun {N Y} nx o' H' δ' S' M' σ' ex ea hE' hS' hM' ⟨M1,D2,eM,n⟩=>by
  subst eM
  rw [zav,zav] at ea
  rw [zav,<- List.append_assoc] at hE' hS'
  exact nx o' H' _ S' M1 σ' ex (List.append_inj_left' ea rfl) (hE'.to zgg) hS'.less hM'.init n
 have ret:∀ o' H' S' M' y v,Ex o0 H0 o' H'->ad M' = ad (M ++ [(p,D0)])->RepS (h ++ ad M') o' H' S'->RepM h o' H' M'->HasX (h ++ ad M') o' H' y v->(∃ M1 D,M' = M1 ++ [(p,D)]/\En.rt y S' M1)->D.rt v H':=by
  rintro o' H' S' M' y v ex ea hS' hM' hx' ⟨M1,D2,eM,n⟩
  subst eM
  rw [zav,zav] at ea
  rw [zav,<- List.append_assoc] at hx' hS'
  exact c.rt o' H' S' M1 _ v ex (List.append_inj_left' ea rfl) hS'.less hM'.init hx'.less n
 have qq:=q p nM
 cases f with
 | false =>
  refine hb h o0 H0 o _ _ _ S (M ++ [(p,D0)]) _ D e1 fr1 hE sM mM qq ⟨?_,ret,back c.bk,back c.ct⟩ x
  exact fun o' H' δ' S' M' σ' ex ea hE' hS' hM' n=>back c.nx o' H' δ' S' M' σ' ex ea hE' hS' hM' (by simpa using n)
 | true =>
  refine hb h o0 H0 o _ _ _ S (M ++ [(p,D0)]) _ { D with nx:=fun σ' H'=>∃ a m,σ'[i]? = some (some (.ref a))/\H' a = some (.dK m)/\∀ ob,D.nx σ' (upd H' a (.frz ob (.dK m))) } e1 fr1 hE sM mM qq ⟨?_,ret,back c.bk,back c.ct⟩ x
  intro o' H' δ' S' M' σ' ex ea hE' hS' hM' n
  obtain ⟨M1,m,eM,ei,n2⟩:∃ M1 m,M' = M1 ++ [(p,DD.k m)]/\δ'[i]? = some (some (.o (.ref p)))/\En.nx (δ'.map (Option.map (zqo p m))) S' M1:=by simpa using n
  subst eM
  obtain ⟨v,ev,hv⟩:=hE'.get i _ ei
  have evp:v = .ref p:=hv
  subst evp
  have nn:=hM'.nh p (by rw [zav]; simp)
  have nd:=hM'.nd
  rw [zav,zav] at ea
  rw [zav] at nd
  have pn:p ∉ ad M1:=fun m=>(List.nodup_append.mp nd).2.2 p m p (by simp) rfl
  obtain ⟨m',em,l⟩:=hM'.ct p (.k m) (by simp)
  refine ⟨p,m',ev,em,fun ob=>?_⟩
  have np:p ∉ h ++ ad M1:=fun z=>(List.mem_append.mp z).elim nn.1 pn
  have s2:Same (vx (h ++ ad (M1 ++ [(p,DD.k m)])) o' H') (vx (h ++ ad M1) o' (upd H' p (.frz ob (.dK m')))):=fun b w z=>by
   obtain ⟨z1,z2,z3⟩:=zas.mp z
   rw [zav,<- List.append_assoc] at z1
   have ne:b ≠ p:=fun z=>z1 (by rw [z]; simp)
   exact zas.mpr ⟨fun mm=>z1 (List.mem_append_left _ mm),z2,by rw [zY ne]; exact z3⟩
  refine c.nx o' _ _ S' M1 σ' ⟨ex.pre,fun b w nb zb=>?_⟩ (List.append_inj_left' ea rfl) (zog s2 (zas.mpr ⟨np,nn.2,zag⟩) l hE') ?_ ?_ n2
  ·obtain ⟨z1,z3⟩:=ex.kp b w nb zb
   exact ⟨z1,by rw [zY (fun z=>by rw [z,H0p] at zb; cases zb)]; exact z3⟩
  ·refine ⟨hS'.len,hS'.nd,fun a ma z=>hS'.dis a ma (by rw [zav,<- List.append_assoc]; exact List.mem_append_left _ z),fun b mb=>?_,fun k b ds q1 q2=>?_⟩
   ·obtain ⟨w,ew⟩:=hS'.hal b (by rw [zav,<- List.append_assoc]; exact List.mem_append_left _ mb)
    exact ⟨w,by rw [zY (fun z=>np (by rw [<- z]; exact mb))]; exact ew⟩
   ·obtain ⟨vs,q3,l3⟩:=hS'.cont k b ds q1 q2
    exact ⟨vs,by rw [zY (fun z=>nn.2 (by rw [<- z]; exact List.mem_of_getElem? q1))]; exact q3,HasL.mono s2 _ _ l3⟩
  ·have r1:=hM'.init
   refine ⟨r1.nd,r1.nh,fun b D3 mb=>?_⟩
   have nb:b ≠ p:=fun z=>pn (by rw [<- z]; exact List.mem_map.mpr ⟨_,mb,rfl⟩)
   exact (hM'.ct b D3 (List.mem_append_left _ mb)).mono s2 fun w z=>by rw [zY nb]; exact z
theorem zqD (hb:RSm E EX tb db):RSm E EX (znI (zq3 zpm (ziF i)) (zts i tb)) (zlL true i (.k []) db):=fun h o0 H0 o H δ σ S M En D e0 fr he hs rm q c x p hp =>
 zoo (f:=true) (D0:=.k []) (u:=.k []) (fun G H a z=>⟨[],z,rfl⟩) hb e0 fr he hs rm q c x p hp
def zrE (dt:DSm):DS:=fun En δ S=>dt { nx:=fun δ' S' _=>En.nx δ' S',rt:=fun x S' _=>En.rt x S',bk:=fun δ' S' _=>En.bk δ' S',ct:=fun δ' S' _=>En.ct δ' S' } δ S []
theorem zqJ {t:TS} {dt:DSm} (ht:RSm E EX t dt):RSx E EX t (zrE dt):=fun h o H δ σ S En D he hs q c x=>by
 have z:h ++ ad [] = h:=List.append_nil _
 have nx:∀ {N:XE->Sto->Prop} {Y:St->Hp->Prop},Nx h o H N Y->NxM h o H (ad []) (fun δ' S' _=>N δ' S') Y:=fun {N Y} n o' H' δ' S' M' σ' ex ea he' hs' _ q'=>by
  rw [ea,z] at he' hs'
  exact n o' H' δ' S' σ' ex he' hs' q'
 refine ht h o H o H δ σ S [] _ D Ex.refl (fun a m=>by cases m) (by rw [z]; exact he) (by rw [z]; exact hs) RepM.nil q ⟨nx c.nx,?_,nx c.bk,nx c.ct⟩ x
 rintro o' H' S' M' y v ex ea hs' _ hx' q'
 rw [ea,z] at hs' hx'
 exact c.rt o' H' S' y v ex hs' hx' q'
theorem zqp {t:TS} {dt:DSm} (ht:RSm E0 (fun _ _=>False) t dt):RS t (zrE dt):=fun h o H δ σ S En D he hs q c=>zqJ ht h o H δ σ S En D he hs q c fun _ _ _ _ _ _ _ _ _ z=>z.elim
end
end
section
def ROp (Φ:Phi) (r:R2) (rd:D2):Prop:=∀ (h o:List Addr) (H:Hp) (S:Sto) (x y:XV) (v u:V) (R:RX) (Q:VK),Φ h o H->RepS h o H S->HasX h o H x v->HasX h o H y u->rd x y S R->Cn h o H R Q->r v u H Q
section
variable {Φ:Phi} [Stb Φ] {ta tb:TE} {da db:DE}
theorem zpo {r:R2} {rd:D2} (hr:ROp Φ r rd) (ha:REp Φ ta da) (hb:REp Φ tb db):REp Φ (tOp r ta tb) (dOp rd da db):=fun h o H δ σ S R Q he hs q c w =>
 ha h o H δ σ S _ _ he hs q (fun o1 H1 S1 x v e1 s1 x1 d1=>hb h o1 H1 δ σ S1 _ _ (he.mono e1) s1 d1 (fun o2 H2 S2 y u e2 s2 y2 d2 =>
  hr h o2 H2 S2 x y v u R Q (Stb.st w (e1.trans e2)) s2 (x1.mono e2) y2 d2 (c.pre (e1.trans e2))) (Stb.st w e1)) w
end
theorem zqL {t:TE} {de:DE} (a:REp (PhM []) t de):RE t de:=fun h o H δ σ S R Q he hs q c=>a h o H δ σ S R Q he hs q c ⟨h,(List.append_nil _).symm,RepM.nil⟩
theorem zrx {t:TT} {de:DT} (a:RTp (PhM []) t de):RT t de:=fun h o H δ σ S R Q he hs q c=>a h o H δ σ S R Q he hs q c ⟨h,(List.append_nil _).symm,RepM.nil⟩
def IsDD (M:DM) (x:XV) (D:DD):Prop:=(∃ a,x = .o (.ref a)/\(a,D) ∈ M)\/∃ m,D = .k m/\x = .d (.dict (DD.pairs (.k m)))
theorem zhN {M:DM} {h o:List Addr} {H:Hp} {x:XV} {D:DD} {v:V} (φ:PhM M h o H) (q:IsDD M x D) (hx:HasX h o H x v):∃ a,v = .ref a/\RAt (vx h o H) H a D:=by
 rcases q with ⟨a,rfl,m⟩ | ⟨m,rfl,rfl⟩
 ·obtain ⟨h0,rfl,rm⟩:=φ
  exact ⟨a,hx,(rm.ct a D m).rd⟩
 ·obtain ⟨a,ob,m',rfl,e,l⟩:=zgL.mp (show Has _ _ v from hx)
  exact ⟨a,rfl,m',.inr ⟨ob,zak _ _ e⟩,l⟩
def ztB (n:Bool):R2:=fun y x H Q=>∃ a o,x = .ref a/\DGet H a y o/\Q (.bl (if n = true then !o.isSome else o.isSome)) H
theorem zik {X:Cx} (hu:X.A.units + 64 < cLine):OpR X (compareOp .NotIn) (ztB true):=fun zk s σ H y x v u Q I ry rx ⟨a,o,e,g,q⟩=>by
 subst e
 obtain rfl:u = Value.ref a:=rx
 exact zp7 (by omega) I g ry fun s3 I3=>⟨.bl (!o.isSome),H,I3,rfl,q⟩
def zrd (M:DM) (n:Bool):D2:=fun y x S R=>asD y fun k=>∃ D o,IsDD M x D/\D.get k = some o/\R (.d (.bool (if n = true then !o.isSome else o.isSome))) S
theorem zqB {G:Hp} {o:Option PyData} {r:Option V} (q:RelD G o r):r.isSome = o.isSome:=by
 cases o with
 | none=>rw [show r = none from q]; rfl
 | some d=>obtain ⟨u,rfl,_⟩:=q; rfl
theorem zpe {M:DM} {n:Bool}:ROp (PhM M) (ztB n) (zrd M n):=fun h o H S y x v u R Q φ hs hy hx q c=>by
 obtain ⟨k,rfl,D,r,hD,e,q⟩:=zeU q
 obtain ⟨a,rfl,da⟩:=zhN φ hD hx
 obtain ⟨r',g,rr⟩:=da.get zak hy e
 refine ⟨a,r',rfl,g,?_⟩
 rw [zqB rr]
 exact c o H S _ _ Ex.refl hs (xB _) q
def zmG (M:DM) (dd dy:DE):DE:=fun δ S R=>dd δ S fun x S1=>dy δ S1 fun y S2=>asD y fun k=>∃ D d,IsDD M x D/\D.get k = some (some d)/\R (.d d) S2
theorem zlz {M:DM} {td ty:TE} {dd dy:DE} (hd:REp (PhM M) td dd) (hy:REp (PhM M) ty dy):REp (PhM M) (zri td ty) (zmG M dd dy):=fun h o H δ σ S R Q he hs q c w =>
 hd h o H δ σ S _ _ he hs q (fun o1 H1 S1 x v e1 s1 x1 d1=>hy h o1 H1 δ σ S1 _ _ (he.mono e1) s1 d1 (fun o2 H2 S2 y u e2 s2 y2 d2=>by
  obtain ⟨k,rfl,D,d,hD,e,q⟩:=zeU d2
  obtain ⟨a,rfl,da⟩:=zhN (Stb.st w (e1.trans e2)) hD (x1.mono e2)
  obtain ⟨r',g,r2,rfl,h2⟩:=da.get zak y2 e
  exact ⟨a,r2,rfl,g,c o2 H2 S2 (.d d) r2 (e1.trans e2) s2 h2 q⟩) (Stb.st w e1)) w
def ziQ (M:DM) (dd dy dx:DE):DE:=fun δ S R=>dd δ S fun x S1=>∃ D,IsDD M x D/\dy δ S1 fun y S2=>dx δ S2 fun z S3=>asD y fun k=>asD z fun dz=>∃ o,D.get k = some o/\R (.d (o.getD dz)) S3
theorem zjT {M:DM} {td ty tx:TE} {dd dy dx:DE} (hd:REp (PhM M) td dd) (hy:REp (PhM M) ty dy) (hx:REp (PhM M) tx dx):REp (PhM M) (zoS td ty tx) (ziQ M dd dy dx):=fun h o H δ σ S R Q he hs q c w =>
 hd h o H δ σ S _ _ he hs q (fun o1 H1 S1 x v e1 s1 x1 ⟨D,hD,d1⟩=>by
  obtain ⟨a,rfl,da⟩:=zhN (Stb.st w e1) hD x1
  refine ⟨a,rfl,da.isD,hy h o1 H1 δ σ S1 _ _ (he.mono e1) s1 d1 (fun o2 H2 S2 y u e2 s2 y2 d2=>hx h o2 H2 δ σ S2 _ _ ((he.mono e1).mono e2) s2 d2 (fun o3 H3 S3 z t e3 s3 z3 d3=>?_) (Stb.st w (e1.trans e2))) (Stb.st w e1)⟩
  replace d3:=zeU d3
  obtain ⟨k,rfl,d3⟩:=d3
  obtain ⟨dz,rfl,r,e,q⟩:=zeU d3
  obtain ⟨a',ea,da'⟩:=zhN (Stb.st w ((e1.trans e2).trans e3)) hD (x1.mono (e2.trans e3))
  cases ea
  obtain ⟨r',g,rr⟩:=da'.get zak (y2.mono e3) e
  refine ⟨r',g,?_⟩
  cases r with
  | none =>
   rw [show r' = none from rr]
   exact c o3 H3 S3 (.d dz) t ((e1.trans e2).trans e3) s3 z3 q
  | some d =>
   obtain ⟨r2,rfl,h2⟩:=rr
   exact c o3 H3 S3 (.d d) r2 ((e1.trans e2).trans e3) s3 h2 q) w
def zoF (j:Nat) (dk dv:DM->DE):DSm:=fun En δ S M=>dv M δ S fun x S1=>asD x fun d=>zn j δ S1 fun y S2=>∃ a,y = .o (.ref a)/\dk M δ S2 fun z S3=>asD z fun k=>∃ D D',(a,D) ∈ M/\D.put k d = some D'/\D.len < 1000/\En.nx δ S3 (zq7 M a D')
theorem zrp {E:XK} {EX:EXD} {j:Nat} {ty tv:TE} {dk dv:DM->DE} (hk:∀ M,REp (PhM M) ty (dk M)) (hv:∀ M,REp (PhM M) tv (dv M)):RSm E EX (zsN (znG j) ty tv) (zoF j dk dv):=fun h o0 H0 o H δ σ S M En D e0 fr he hs rm q c x =>
 hv M (h ++ ad M) o H δ σ S _ _ he hs q (fun o1 H1 S1 y v e1 s1 x1 d1=>by
  obtain ⟨d,rfl,y1,ey,a,rfl,d2⟩:=zeU d1
  have he1:=he.mono e1
  obtain ⟨v1,ev,hv1⟩:=he1.get j _ ey
  have ev1:v1 = .ref a:=hv1
  subst ev1
  refine ⟨_,ev,hk M (h ++ ad M) o1 H1 δ σ S1 _ _ he1 s1 d2 (fun o2 H2 S2 z u e2 s2 z2 d3=>?_) ⟨h,rfl,rm.mono e1⟩⟩
  obtain ⟨k,rfl,D1,D2,mD,eD,hl,n⟩:=zeU d3
  have e12:=e1.trans e2
  have rm2:=rm.mono e12
  have ma:a ∈ ad M:=List.mem_map.mpr ⟨_,mD,rfl⟩
  obtain ⟨w,pt,fin⟩:=(rm2.ct a D1 mD).put zak z2 (x1.mono e2) eD hl
  have mh:a ∈ h ++ ad M:=List.mem_append_right _ ma
  refine ⟨a,_,rfl,pt,c.nx o2 _ δ S2 (zq7 M a D2) σ ⟨(e0.trans e12).pre,fun b w' nb zb=>?_⟩ zgo ?_ ?_ (rm2.put mD fin) n⟩
  ·obtain ⟨z1,z3⟩:=(e0.trans e12).kp b w' nb zb
   exact ⟨z1,by rw [zY (fun z=>by rw [z,fr a ma] at zb; cases zb)]; exact z3⟩
  ·rw [zgo]
   exact (he1.mono e2).view (zfY mh)
  ·rw [zgo]
   exact s2.hidden mh) ⟨h,rfl,rm⟩
theorem zp2 {t t':TS} {d:DS} (h:RS t d) (e:t' = t:=by rfl):RS t' d:=e ▸ h
end
end L2
namespace L2
open PySem PySem.Spec PySem.Calls PyProof.Rows
theorem zs9 {P:Program} {w:World} {k:Key} {u:Value} (h:(zad P w).is k u = true):RelV (kV k) u:=by
 have h':zji k u = true:=h
 cases k with
 | inl i =>
  have q:Value.isInt i u = true:=h'
  cases u <;> simp [Value.isInt] at q
  rename_i j t
  subst q
  exact ⟨t,rfl⟩
 | inr x =>
  have q:Value.isStrOf x u = true:=h'
  cases u <;> simp [Value.isStrOf] at q
  rename_i j t
  subst q
  exact ⟨t,rfl⟩
theorem zmn {P:Program} {w:World} {H:Hp} {h:Heap} {a:Addr} {ob:Obj} {m:List (Key × V)} (ok:HOk P w H h) (e:H a = some (.frz ob (.dK m))):(a == sysModules) = false/\m.length <= sizeLine/\∃ es ep vs,ob.data = .dict es ep/\KV m vs/\h.DictAt (zad P w) a vs ep:=by
 obtain ⟨e1,hz,hne,vs,kv,o,es,ep,ho,r1,r2,r3⟩:=(show ObjOk P w H h a (.frz ob (.dK m)) from ok a _ e)
 rw [e1] at ho
 cases ho
 exact ⟨hne,hz,es,ep,vs,r2,kv,_,es,e1,r1,r2,r3⟩
theorem KV.get {kvs:List (Key × V)} {vs:List (Key × Value)} (r:KV kvs vs):∀ {i:Nat} {p:Key × V},kvs[i]? = some p->∃ u,vs[i]? = some (p.1,u)/\RelV p.2 u:=by
 unfold KV at r
 induction r with
 | nil=>intro i p e; simp at e
 | @cons p q ps qs h t ih =>
  intro i x e
  cases i with
  | zero =>
   simp at e
   subst e
   exact ⟨q.2,by simp [h.1],h.2⟩
  | succ i =>
   obtain ⟨u,e1,e2⟩:=ih (i:=i) (p:=x) (by simpa using e)
   exact ⟨u,by simpa using e1,e2⟩
def Iti (a:Addr) (ob:Obj) (m:List (Key × V)):It:=⟨fun i H=>i < m.length/\H a = some (.frz ob (.dK m)),fun i H x H'=>∃ p b,m[i]? = some p/\H b = none/\x = .ref b/\H' = upd H b (.tup [kV p.1,p.2]),fun i H=>m.length <= i/\H a = some (.frz ob (.dK m))⟩
def tnI (it a:Addr) (ob:Obj) (n:Nat) (i:Nat) (h:Heap):Prop:=∃ es ep ok ov,ob.data = .dict es ep/\IsItemIter h it a i n ep ok ov
theorem zgA:entryFor table "dict_itemiterator.__iter__" = some Builtin.«dict_keyiterator.__iter__» :=
 entryFor_alias (id':="dict_keyiterator.__iter__") (by kernel_rfl) rfl (by decide +kernel) (by kernel_rfl)
theorem zgp {prog:Program} {w:World} {A:Around} {E:Value->Shared->Prop} {s:Shared} {it d:Addr} {i n ep:Nat} {ok ov:Value} {Q:Value->Shared->Prop} (hit:IsItemIter s.heap it d i n ep ok ov) (h:Q (.ref it) s):wpAny (model prog w) A (pyIter (.ref it)) Q E s:=by
 have hT:s.TypeIs (.ref it) "dict_itemiterator":=⟨_,hit,rfl⟩
 refine wpAny_pyIter_slot hT F.slot_dict_itemiterator_iter (wpAny_call_entry F.slot_dict_itemiterator_iter hT zgA ?_ (F.args_dict_itemiterator_iter_1 _))
 show wpAny _ _ (ret (.ref it)) _ _ s
 exact wpAny_pure ⟨_,rfl,"dict_itemiterator",_,hT,F.slot_dict_itemiterator_next.lookup,h⟩
theorem zlc {P:Program} {w:World} {K:W.Frag} {elts:List Expr} {n:Nat} {tpos:Pos} (a it:Addr) (ob:Obj) (m:List (Key × V)):Turn P w K (.Tuple elts n tpos) (Iti a ob m) [it] it (tnI it a ob m.length) where
 mem:=by simp
 obj:=fun i h ⟨_,_,_,_,_,st⟩ b hb=>by
  have e:b = it:=by simpa using hb
  subst e
  exact ⟨_,st,fun v z=>by cases z⟩
 keep:=fun i h h' ⟨es,ep,ok,ov,eo,st⟩ k=>⟨es,ep,ok,ov,eo,k it (by simp) _ st⟩
 item:=by
  intro X hP hw hK hc i zk s σ H E I hf st hg
  subst hP hw hK
  obtain ⟨es,ep,ok,ov,eo,st⟩:=st
  obtain ⟨hi,ea⟩:=hg
  obtain ⟨hne,hz,es',ep',vs,eo',kv,da⟩:=zmn I.hok ea
  rw [eo] at eo'
  cases eo'
  obtain ⟨u,eu,ru⟩:=kv.get (List.getElem?_eq_getElem hi)
  have hl:vs.length = m.length:=kv.length.symm
  refine wpAny_pyNext_items_item (knd:=zad X.prog X.w) (kvs:=vs) (by rw [hl]; exact st) da eu fun key h' hk st' t1 sz kp=>?_
  refine ⟨_,rfl,wpAny_letOwnedTupleGo_items (s:={ s with heap:=h' }) st' fun g' e2 b2=>?_⟩
  have lt:it < s.heap.objs.size:=Heap.lt_size st
  have t2:g'.get? s.heap.objs.size = some { cls:=.type "tuple",data:=.seq #[key,u] }:=(b2.2 _ (Nat.ne_of_gt lt)).trans t1
  have neT:H s.heap.objs.size = none:=I.hok.fresh (Nat.le_refl _)
  rw [hl] at e2
  refine ⟨.ref s.heap.objs.size,upd H s.heap.objs.size (.tup [kV m[i].1,m[i].2]),I.turnLaid (ch:=[it]) (t':=s.toks) (fun b o nb q=>(b2.2 b fun z=>nb (by simp [z])).trans (kp b o (fun z=>nb (by simp [z])) q)) hf (Nat.le_refl _) ?_,rfl,
   ⟨m[i],_,List.getElem?_eq_getElem hi,neT,rfl,rfl⟩,⟨es,ep,_,_,eo,e2⟩,fun b hb=>?_⟩
  ·refine ⟨⟨by show 2 <= sizeLine; decide,_,t2,rfl⟩,[key,u],.cons (zs9 hk) (.cons ru .nil),⟨_,t2,rfl,_,rfl⟩⟩
  ·rw [List.mem_singleton.mp hb,zY (Nat.ne_of_lt lt)]
   exact (hf _ (by simp)).1
 done:=by
  intro X hP hw hK hc i zk s σ H E I hf st hg
  subst hP hw hK
  obtain ⟨es,ep,ok,ov,eo,st⟩:=st
  obtain ⟨hi,ea⟩:=hg
  obtain ⟨hne,hz,es',ep',vs,eo',kv,da⟩:=zmn I.hok ea
  rw [eo] at eo'
  cases eo'
  have hl:vs.length = m.length:=kv.length.symm
  obtain ⟨f0,f1,f2,f3,f4,f5⟩:=hf it (by simp)
  exact wpAny_pyNext_items_end (knd:=zad X.prog X.w) (kvs:=vs) (I.ok.hd hc) (by rw [hl]; exact st) da (List.getElem?_eq_none (by omega)) fun h' eb=>⟨rfl,I.turned (t':=s.toks) (fun b o hb e=>eb b o hb e) f0 f1 f3 f4 f5⟩
 self:=fun _ _ _ _ _ ⟨_,_,_,_,_,st⟩ h=>zgp st h
section
variable {X:Cx} {elts:List Expr} {n:Nat} {tpos apos cpos:Pos}
def zpk (te:TE):TI:=fun σ H R=>te σ H fun x H1=>∃ a ob m,x = .ref a/\H1 a = some (.frz ob (.dK m))/\R (Iti a ob m) H1
theorem zhn {l:Expr} {te:TE} (hl:PE X l te) (hbase:attributeBase l "items" X.env (eval l X.env) = eval l X.env) (hline:(apos.endLine == cpos.line) = true):PI X (.Tuple elts n tpos) (.Call (.Attribute l "items" apos) [] [] cpos) (zpk te):=by
 intro zk s σ H R I h
 refine wpAny_Call_method (T:="dict") (id:="dict.items") hbase rfl hline F.plainAttrs_dict F.slot_dict_items F.type_dict_items (thn (hl zk s σ H _ I h) fun v s1 ⟨x,H1,I1,r1,q1⟩=>?_)
 obtain ⟨a,ob,m,e,ea,q⟩:=q1
 subst e
 cases r1
 obtain ⟨hne,hz,es,ep,vs,eo,kv,da⟩:=zmn I1.hok ea
 have hl':vs.length = m.length:=kv.length.symm
 have hm:=da.dictOf
 refine ⟨hm.typeIs,hm.mapOf.noDict,?_⟩
 show wpAny _ _ (callWith cpos (.builtin "dict.items") [.ref a] [] []) _ _ s1
 refine method_meetsIn F.slot_dict_items F.entry_dict_items rfl (PyProof.Rows.evalArgs_none ⟨rfl,hm.typeIs,F.args_dict_items_1 _,_,meets_dict_items (zad X.prog X.w) a hne,⟨vs,hm⟩,?_⟩)
 have da1:=da.push { cls:=.type "dict_items",data:=.fields #[.ref a] }
 refine wpAny_pyIter_items (s:={ s1 with heap:=s1.heap.push { cls:=.type "dict_items",data:=.fields #[.ref a] } }) (knd:=zad X.prog X.w) ⟨_,Heap.get?_push_size _ rfl,rfl,rfl⟩ da1 ?_
 have I2:Inv X zk σ H1 { s1 with heap:=s1.heap.push { cls:=.type "dict_items",data:=.fields #[.ref a] } }:=I1.kept (t':=s1.toks) fun b o e=>Heap.get?_push_of_some _ e
 refine ⟨_,[_],_,_,H1,rfl,I2.kept (t':=s1.toks) fun b o e=>Heap.get?_push_of_some _ e,zlc a _ ob m,⟨es,ep,_,_,eo,by rw [<- hl']; exact Heap.get?_push_size _ rfl⟩,fun b hb=>?_,q⟩
 rw [List.mem_singleton.mp hb]
 exact I2.fpOk (Nat.le_refl _) (I2.hok.fresh (Nat.le_refl _))
end
def DD.itemsD (m:List (Key × PyData)):List PyData:=m.map fun p=>.tuple [kD p.1,p.2]
def ze1 (e:DE):DI:=fun δ S R=>e δ S fun x S1=>∃ m,x = .d (.dict (DD.pairs (.k m)))/\R (DD.itemsD m) S1
theorem zsx {H:Hp} {k:Key}:Has H (kD k) (kV k):=by
 cases k with
 | inl i=>exact zbU.mpr rfl
 | inr x=>exact zdF.mpr rfl
theorem HasM.get {H:Hp}:∀ {m:List (Key × PyData)} {m':List (Key × V)} {i:Nat} {p:Key × PyData},HasM H m m'->m[i]? = some p->∃ v,m'[i]? = some (p.1,v)/\Has H p.2 v
 | [],_,_,_,_,e=>by simp at e
 | q :: r,_,0,p,⟨v,t,e1,hv,l⟩,e=>by
  simp at e
  subst e e1
  exact ⟨v,rfl,hv⟩
 | q :: r,_,i + 1,p,⟨v,t,e1,hv,l⟩,e=>by
  subst e1
  obtain ⟨u,z1,z2⟩:=HasM.get (i:=i) l (by simpa using e)
  exact ⟨u,by simpa using z1,z2⟩
theorem zhf {te:TE} {de:DE} (he':RE te de):RI (zpk te) (ze1 de):=fun h o H δ σ S R Q he hs q c =>
 he' h o H δ σ S _ _ he hs q fun o1 H1 S1 x v e1 s1 x1 ⟨m,ex,d1⟩=>by
  subst ex
  obtain ⟨a,ob,m',rfl,ea,l⟩:=zgL.mp (show Has _ _ v from x1)
  have hl:=l.length
  refine ⟨a,ob,m',rfl,zak _ _ ea,c o1 H1 S1 _ _ e1 s1 ⟨fun i o2 H2 e2 hi=>⟨by simp [DD.itemsD] at hi; omega,zak _ _ (e2.vx _ _ ea)⟩,fun i d o2 H2 e2 hi=>?_,fun i d o2 H2 y H3 S2 e2 s2 hi yy=>?_⟩ d1⟩
  ·have:=(List.getElem?_eq_some_iff.mp hi).1
   simp [DD.itemsD] at this
   exact ⟨by omega,zak _ _ (e2.vx _ _ ea)⟩
  ·obtain ⟨p,b,ep,nb,ey,e3⟩:=yy
   subst e3 ey
   unfold DD.itemsD at hi
   rw [List.getElem?_map] at hi
   obtain ⟨p2,e4,e5⟩:=Option.map_eq_some_iff.mp hi
   obtain ⟨u,z1,z2⟩:=l.get e4
   rw [ep] at z1
   cases z1
   have sm:Same H2 (upd H2 b (.tup [kV p2.1,u])):=Same.laid nb
   have fb:=s2.fresh nb
   refine ⟨sm,?_⟩
   rw [<- e5]
   refine zaB.mpr ⟨b,_,rfl,zas.mpr ⟨fb.1,fb.2,zag⟩,zC.mpr ⟨_,_,rfl,zsx,zC.mpr ⟨_,_,rfl,?_,zL.mpr rfl⟩⟩⟩
   exact Has.mono (zdk sm) _ _ (Has.mono e2.vx _ _ z2)
end L2
namespace L2
open PySem PySem.Spec PyProof.Rows
section
section
variable {E:XK} {EX:EXD} {a b c d e f u:TS} {dt du:DS} {i:Nat}
theorem zqG (h:RS (znI a b) dt) (hu:RS u du):RS (znI a (znI b u)) (zZ dt du):=zp2 (zt h hu)
end
end
end L2
namespace HT
open PySem PyProof.Rows
section
open PySem.SeqAt
open PySem.AutoSeq1 (wpAny_loadPart')
open PySem.MeetsSeq PySem.MeetsSeq2 PySem.MeetsSeq3
theorem lexLt_self:∀ ns:List Int,lexLt ns ns = false
 | []=>rfl
 | x :: xs=>by rw [lexLt_cons,if_pos rfl,lexLt_self xs]
end
end HT
namespace L2
open PySem PySem.Spec PyProof.Rows
end L2
namespace L2
open PySem PySem.Spec PySem.Calls PyProof.Rows
end L2
namespace HT
open PySem PyProof.Rows
theorem zlu:typeLookup (.type "tuple") "keys" = pure none:=am_miss_of_fast (by decide +kernel)
set_option maxRecDepth 8000 in
theorem zox {prog:Program} {w:World} {A:Around} {E:Value->Shared->Prop} {s:Shared} {a:Addr} {o:Obj} {xs:Array Value} {k:Nat} {Q:Option Value->Shared->Prop}
  (hx:s.heap.get? a = some o) (hc:o.cls = .type "tuple") (hdat:o.data = .seq xs k) (hd:o.dict = none) (hA:A.handled = none)
  (h:∀ h' tk,(∀ b ob,s.heap.get? b = some ob->h'.get? b = some ob)->Q none { s with heap:=h',toks:=tk }) :
  wpAny (model prog w) A (getAttr? (.ref a) "keys") Q E s:=by
 obtain ⟨c,dct,dat,sl⟩:=o
 simp only at hc hdat hd
 subst hc hdat hd
 obtain ⟨hp,g,d,tk,os⟩:=s
 have hT:∀ tk',(⟨hp,g,d,tk',os⟩:Shared).TypeIs (.ref a) "tuple":=fun _=>⟨_,hx,rfl⟩
 have f1:=sub_AttributeError
 have f3:=F.slot_tuple_getattribute.lookup
 have f4:=F.slot_tuple_getattribute.bind (.ref a)
 have f5:=am_tuple_getattr_none
 have hname:(["__module__","__name__","__qualname__","__doc__","__annotations__"]:List Str).contains ("keys":Str) = false:=by decide +kernel
 unfold getAttr? getAttrBy? getAttrBy
 repeat (any_goals (first | assumption | exact hT _ | ((with_reducible show wpAny _ _ (call (Value.builtin "tuple.__getattribute__") _ _) _ _ _); refine call_meets F.slot_tuple_getattribute (hT _) am_entry_tuple_getattribute (F.args_tuple_getattribute_2 _ _) (meets_getattribute_miss_tuple a xs k sl "keys" _ zlu hname) ⟨hx,hA,fun h' tk' e hx'=>?_⟩) | wp_step))
 obtain ⟨t',u',he⟩:=hx'.there
 show wpAny _ _ (getattributeRaised _ _ _ _ _ _ _) _ _ _
 unfold getattributeRaised
 repeat (any_goals (first | assumption | wp_step))
 exact h _ _ hx'.keeps
theorem zix:entryFor table "dict.update.loop" = some Builtin.«dict.update.loop»:=entryFor_of_tree (by kernel_rfl)
theorem zdy:plainId "dict.update.loop" = true:=by decide +kernel
section
variable {prog:Program} {w:World} {K:Type} [DecidableEq K] {knd:PySem.KeyKind prog w K}
def zf3 (acc kvs:List (K × Value)):List (K × Value):=kvs.foldl (fun a p=>stored a p.1 p.2) acc
def PairsAt (knd:PySem.KeyKind prog w K) (ap:List Addr) (h:Heap) (vs:List Value) (kvs:List (K × Value)):Prop:=Paired (fun v kv=>∃ b key,v = Value.ref b/\b ∉ ap/\knd.is kv.1 key = true/\IsTup h b #[key,kv.2]) vs kvs
theorem PairsAt.keeps {ap:List Addr} {h h':Heap} {vs:List Value} {kvs:List (K × Value)} (r:PairsAt knd ap h vs kvs) (k:∀ b o,b ∉ ap->h.get? b = some o->h'.get? b = some o):PairsAt knd ap h' vs kvs:=by
 unfold PairsAt at *
 induction r with
 | nil=>exact .nil
 | cons x t ih =>
  obtain ⟨b,key,e,nb,hk,o,g,c⟩:=x
  exact .cons ⟨b,key,e,nb,hk,o,k b o nb g,c⟩ ih
theorem zla (kvs:List (K × Value)) (k:K) (v:Value):(stored kvs k v).length <= kvs.length + 1:=by
 unfold stored
 split <;> simp
theorem zd3 {A:Around} {R:Result->Shared->Prop} {I S:Addr} {fp wr:List Addr} {n:Nat} {P:Nat->Value->Prop} {St:Nat->Heap->Prop} {items:List Value} (W:Walks prog w A.in1 I fp wr n P St) (hSf:S ∉ fp) (hP:∀ i v,P i v->items[i]? = some v) :
  ∀ (kvs:List (K × Value)) (i:Nat) (s:Shared) (acc:List (K × Value)),kvs.length + i = n->St i s.heap->s.heap.DictOf knd S acc->PairsAt knd (S :: wr) s.heap (items.drop i) kvs->acc.length + kvs.length <= 1000 ->
   (∀ h' tk,h'.DictOf knd S (zf3 acc kvs)->(∀ b o,b ∉ S :: wr->s.heap.get? b = some o->h'.get? b = some o)->R (.ok (.ret .none)) { s with heap:=h',toks:=tk }) ->
   codeAny (model prog w) A (.builtin "dict.update.loop" ⟨[.ref S,.ref I,rawInt i,.none],[]⟩) R s:=by
 have hSw:S ∉ wr:=fun h=>hSf (W.sub _ h)
 intro kvs
 induction kvs with
 | nil =>
  intro i s acc hn hst hS hp hl hR
  have hi:i = n:=by simpa using hn
  subst hi
  refine codeAny_builtin zix ?_
  rw [Around.under_plainId zdy _]
  show wpAny _ A.in1 (pyNext (.ref I) >>= _) _ _ s
  refine wpAny_bind (W.done s _ _ hst fun h' tk hm=>?_)
  show wpAny _ A.in1 (Builtin.Dict.addKeywords S [] >>= _) _ _ _
  refine wpAny_bind (wpAny_pure (wpAny_pure (hR h' tk ?_ fun b o nb e=>hm b o (fun z=>nb (List.mem_cons_of_mem _ z)) e)))
  obtain ⟨o,es,ep,ho,r⟩:=hS
  exact ⟨o,es,ep,hm S _ hSw ho,r⟩
 | cons kv kvs ih =>
  intro i s acc hn hst hS hp hl hR
  have hlt:i < n:=by rw [List.length_cons] at hn; omega
  refine codeAny_builtin zix ?_
  rw [Around.under_plainId zdy _]
  show wpAny _ A.in1 (pyNext (.ref I) >>= _) _ _ s
  refine wpAny_bind (W.item i s _ _ hlt hst fun v h' tk hPv hst' hm=>?_)
  have ev:=hP i v hPv
  have ed:items.drop i = v :: items.drop (i + 1):=by
   obtain ⟨hl',rfl⟩:=List.getElem?_eq_some_iff.mp ev
   exact List.drop_eq_getElem_cons hl'
  rw [ed] at hp
  have hp':=hp.keeps (h':=h') fun b o nb e=>hm b o (fun z=>nb (List.mem_cons_of_mem _ z)) e
  unfold PairsAt at hp'
  cases hp' with
  | cons x t =>
   obtain ⟨b,key,rfl,nb,hk,⟨cls,dd,data,sl⟩,ho,hc,m,hd⟩:=x
   simp only at hc hd
   subst hc hd
   have hS':h'.DictOf knd S acc:=by
    obtain ⟨o,es,ep,ho,r⟩:=hS
    exact ⟨o,es,ep,hm S _ hSw ho,r⟩
   have hT:({ s with heap:=h',toks:=tk }:Shared).TypeIs (.ref b) "tuple":=⟨_,ho,rfl⟩
   dsimp only
   refine wpAny_bind (wpAny_holding (wpAny_bind (wpAny_tryCatch ?_)))
   unfold Builtin.Dict.pairItems
   refine wpAny_bind (wpAny_typeOf hT ?_)
   rw [if_pos (by decide)]
   have hz:acc.length <= sizeLine:=by rw [List.length_cons] at hl; rw [sizeLine_eq]; omega
   have hset:∀ (Q:Unit->Shared->Prop) (E:Value->Shared->Prop),(∀ h2,h2.DictOf knd S (stored acc kv.1 kv.2)->Heap.SameBut S h' h2->Q () { s with heap:=h2,toks:=tk + 1 })->wpAny (model prog w) A.in1 (dictSet S key kv.2) Q E { s with heap:=h',toks:=tk } :=
    fun Q E hQ=>wpAny_dictSet_pairs (s:={ s with heap:=h',toks:=tk }) hk hS' hQ hz
   wp_walk using PySem.AutoSeq1.wpAny_loadPart' ho,hset
   intro h2 hD hs2
   wp_walk
   have hc:((i:Int) + 1) = ((i + 1:Nat):Int):=by push_cast; rfl
   rw [hc]
   have nS:∀ {c:Addr},c ∈ fp->c ≠ S:=fun m z=>hSf (z ▸ m)
   refine ⟨plainId_quiet zdy _,ih (i + 1) _ (stored acc kv.1 kv.2) (by rw [List.length_cons] at hn; omega) (W.frame _ _ _ hst' fun c m o e=>?_) hD (PairsAt.keeps t fun c o nc e=>?_) ?_ fun h3 tk3 hD3 k3=>hR h3 tk3 hD3 fun c o nc e=>k3 c o nc ?_⟩
   ·rw [hs2.2 c (nS m)]; exact e
   ·rw [hs2.2 c (fun z=>nc (by rw [z]; exact List.mem_cons_self))]; exact e
   ·have:=zla acc kv.1 kv.2
    rw [List.length_cons] at hl
    omega
   ·show h2.get? c = some o
    rw [hs2.2 c (fun z=>nc (by rw [z]; exact List.mem_cons_self))]
    exact hm c o (fun z=>nc (List.mem_cons_of_mem _ z)) e
theorem call_dictP {A:Around} {E:Value->Shared->Prop} {s:Shared} {p:Addr} {op:Obj} {items:Array Value} {nn:Nat} {kvs:List (K × Value)} {Q:Value->Shared->Prop} (hp:s.heap.get? p = some op) (hc:op.cls = .type "tuple") (hdat:op.data = .seq items nn) (hd:op.dict = none)
  (hh:A.handled = none) (hpr:∀ ap:List Addr,(∀ a ∈ ap,s.heap.objs.size <= a)->PairsAt knd ap s.heap items.toList kvs) (hk:kvs.length = items.size) (hl:kvs.length <= 1000)
  (h:∀ h' tk,h'.DictOf knd s.heap.objs.size (zf3 [] kvs)->(∀ b o,s.heap.get? b = some o->h'.get? b = some o)->Q (.ref s.heap.objs.size) { s with heap:=h',toks:=tk }) :
  wpAny (model prog w) A (call (.type "dict") [.ref p]) Q E s:=by
 refine callType_codes (Q₁:=fun obj s₁=>obj = .ref s.heap.objs.size/\s₁ = { s with heap:=s.heap.push { cls:=.type "dict",data:=.dict #[] } }) PySem.F.kt_called_dict (PySem.F.kt_typeCall_dict_1 _) PySem.F.entry_dict_init (kt_code_dict_new _ ⟨rfl,rfl⟩) ?_
 rintro obj s₁ ⟨rfl,rfl⟩
 have hnew:(s.heap.push { cls:=.type "dict",data:=.dict #[] }).DictOf knd s.heap.objs.size []:=Heap.DictOf.new s.heap
 have hp1:(s.heap.push { cls:=.type "dict",data:=.dict #[] }).get? p = some op:=Heap.get?_push_of_some _ hp
 have hT:({ s with heap:=s.heap.push { cls:=.type "dict",data:=.dict #[] } }:Shared).TypeIs (.ref p) "tuple":=⟨_,hp1,hc⟩
 have plt:=Heap.lt_size hp
 refine ⟨hnew.typeIs,PySem.F.args_dict_init_2 _ _,?_⟩
 unfold Builtin.«dict.__init__»
 refine wpAny_bind ?_
 unfold Builtin.Dict.selfAndRest
 refine wpAny_bind (wpAny_notOrdered_dict hnew.typeIs ?_)
 show wpAny _ _ (pure (s.heap.objs.size,[Value.ref p])) _ _ _
 refine wpAny_pure ?_
 show wpAny _ _ (Builtin.Dict.updateFrom "dict.__init__" s.heap.objs.size (.ref p) [] .none) _ _ _
 unfold Builtin.Dict.updateFrom
 refine wpAny_bind (wpAny_typeOf hT ?_)
 rw [if_pos (by decide)]
 refine wpAny_bind (zox (A:=A.in1.in1) hp1 hc hdat hd hh fun h2 tk2 k2=>?_)
 rw [if_pos (show (none:Option Value).isNone = true from rfl)]
 refine wpAny_bind (wpAny_rule ?_)
 have hp2:=k2 _ _ hp1
 have ht2:h2.IsTuple p items:=⟨_,hp2,hc,nn,hdat⟩
 refine wpAny_bind (wpAny_pyIter_tuple (s:={ s with heap:=h2,toks:=tk2 }) ht2 ?_)
 have g0:∃ o,h2.get? s.heap.objs.size = some o:=by
  obtain ⟨o,es,ep,ho,r⟩:=id hnew
  exact ⟨o,k2 _ _ ho⟩
 obtain ⟨o0,g0⟩:=g0
 have lt2:s.heap.objs.size < h2.objs.size:=Heap.lt_size g0
 have plt2:p < h2.objs.size:=Heap.lt_size hp2
 have hS:(h2.push { cls:=.type "tuple_iterator",data:=.fields #[.ref p,.int 0 0] }).DictOf knd s.heap.objs.size []:=by
  obtain ⟨o,es,ep,ho,r⟩:=hnew
  exact ⟨o,es,ep,Heap.get?_push_of_some _ (k2 _ _ ho),r⟩
 refine wpAny_pure ⟨plainId_quiet zdy _,?_⟩
 refine zd3 (knd:=knd) (A:=A.in1) (items:=items.toList) (Walks.tuple (A:=A.in1.in1) hh h2.objs.size p (Nat.ne_of_lt plt2) items) ?_ ?_ kvs 0 _ [] ?_ ?_ hS ?_ ?_ ?_
 ·simp only [List.mem_cons,List.not_mem_nil,or_false,not_or]
  exact ⟨Nat.ne_of_lt lt2,Nat.ne_of_gt plt⟩
 ·intro i v e
  rw [Array.getElem?_toList]
  exact e
 ·omega
 ·exact ⟨⟨_,Heap.get?_push_size _ rfl,rfl,rfl⟩,ht2.at fun o e=>Heap.get?_push_of_some _ e⟩
 ·rw [List.drop_zero]
  refine PairsAt.keeps (hpr _ fun a m=>?_) fun b o nb e=>Heap.get?_push_of_some _ (k2 _ _ (Heap.get?_push_of_some _ e))
  simp only [List.mem_cons,List.not_mem_nil,or_false] at m
  rcases m with rfl | rfl
  ·exact Nat.le_refl _
  ·exact Nat.le_of_lt lt2
 ·simpa using hl
 ·intro h3 tk3 hD k3
  refine ⟨rfl,h h3 tk3 hD fun b o e=>k3 b o (fun m=>?_) (Heap.get?_push_of_some _ (k2 _ _ (Heap.get?_push_of_some _ e)))⟩
  have:=Heap.lt_size e
  simp only [List.mem_cons,List.not_mem_nil,or_false] at m
  rcases m with z | z
  ·rw [z] at this
   exact absurd this (Nat.lt_irrefl _)
  ·rw [z] at this
   exact absurd (Nat.lt_trans this lt2) (Nat.lt_irrefl _)
end
end HT
namespace L2
open PySem PySem.Spec PySem.Calls PyProof.Rows
def zfh (kvs:List (Key × V)):List (Key × V):=kvs.foldl (fun a p=>ze0 a p.1 p.2) []
def PrV (H:Hp):List V->List (Key × V)->Prop:=Paired fun v kv=>∃ b,v = .ref b/\H b = some (.tup [kV kv.1,kv.2])
def zo9:List V->Hp->VK->Prop:=fun xs H Q=>∃ p ws kvs,xs = [.ref p]/\H p = some (.tup ws)/\PrV H ws kvs/\kvs.length <= 1000/\∀ l,H l = none->Q (.ref l) (upd H l (.dK (zfh kvs)))
theorem zoy (a:List (Key × V)) (k:Key) (v:V):(ze0 a k v).length <= a.length + 1:=by
 unfold ze0
 split <;> simp
theorem zeZ:∀ (kvs acc:List (Key × V)),(kvs.foldl (fun a p=>ze0 a p.1 p.2) acc).length <= acc.length + kvs.length
 | [],acc=>by simp
 | p :: r,acc=>by
  rw [List.foldl_cons,List.length_cons]
  have h1:=zeZ r (ze0 acc p.1 p.2)
  have h2:=zoy acc p.1 p.2
  omega
theorem zlq {kvs:List (Key × V)} {vs:List (Key × Value)} (r:KV kvs vs):∀ {acc:List (Key × V)} {acc':List (Key × Value)},KV acc acc'->KV (kvs.foldl (fun a p=>ze0 a p.1 p.2) acc) (vs.foldl (fun a p=>stored a p.1 p.2) acc'):=by
 unfold KV at r
 induction r with
 | nil=>intro acc acc' h; exact h
 | @cons p q ps qs h t ih =>
  intro acc acc' ha
  rw [List.foldl_cons,List.foldl_cons]
  refine ih ?_
  rw [<- h.1]
  exact ha.put p.1 h.2
section
variable {X:Cx}
theorem zkt {zk:List (Addr × Obj)} {σ:St} {H:Hp} {s:Shared} (I:Inv X zk σ H s):∀ {ws:List V} {kvs:List (Key × V)} {its:List Value},PrV H ws kvs->Vals ws its ->
  ∃ kvs':List (Key × Value),KV kvs kvs'/\∀ ap:List Addr,(∀ a ∈ ap,s.heap.objs.size <= a)->HT.PairsAt (zad X.prog X.w) ap s.heap its kvs':=by
 intro ws kvs its pr
 unfold PrV at pr
 induction pr generalizing its with
 | nil =>
  intro rv
  cases rv
  exact ⟨[],.nil,fun _ _=>.nil⟩
 | @cons v kv ws kvs h t ih =>
  intro rv
  cases rv with
  | cons r rv =>
   obtain ⟨b,rfl,hb⟩:=h
   cases r
   obtain ⟨kvs',hk,hp⟩:=ih rv
   obtain ⟨_,is,r2,o,g,c,n,e⟩:=(show ObjOk X.prog X.w H s.heap b (.tup [kV kv.1,kv.2]) from I.hok b _ hb)
   cases r2 with
   | cons ra r2=>cases r2 with
    | @cons _ u2 _ _ rb r2 =>
     cases r2
     refine ⟨(kv.1,u2) :: kvs',.cons ⟨rfl,rb⟩ hk,fun ap ha=>.cons ⟨b,_,rfl,fun m=>?_,zjw ra,o,g,c,n,e⟩ (hp ap ha)⟩
     exact absurd (Nat.lt_of_lt_of_le (Heap.lt_size g) (ha b m)) (Nat.lt_irrefl _)
theorem zcl (hc:X.calm = true):CallR X (.type "dict") zo9:=by
 intro zk s σ H xs us Q I r h
 obtain ⟨p,ws,kvs,rfl,hp,pr,hl,q⟩:=h
 obtain ⟨u,rfl,rx⟩:=vals1 r
 cases rx
 obtain ⟨⟨hz,o1,g1,d1⟩,its,rv,o2,g2,c2,n2,e2⟩:=(show ObjOk X.prog X.w H s.heap p (.tup ws) from I.hok p _ hp)
 rw [g1] at g2
 cases g2
 obtain ⟨kvs',hkv,hpa⟩:=zkt I pr rv
 have l1:kvs.length = kvs'.length:=Paired.length hkv
 have l2:ws.length = kvs.length:=Paired.length pr
 have l3:=rv.length
 refine HT.call_dictP (knd:=zad X.prog X.w) (items:=its.toArray) (kvs:=kvs') g1 c2 e2 d1 (I.ok.hd hc) (by simpa using hpa) (by simp; omega) (by omega) fun h' tk hD kp=>?_
 have ln:=zeZ kvs []
 exact ⟨.ref s.heap.objs.size,_,I.laid (t':=tk) kp (Nat.le_refl _) (show ObjOk X.prog X.w _ h' _ (.dK (zfh kvs)) from ⟨by unfold zfh; rw [sizeLine_eq]; simp at ln; omega,beq_eq_false_iff_ne.mpr (Ne.symm (Nat.ne_of_lt I.big)),_,zlq hkv .nil,hD⟩),rfl,q _ (I.hok.fresh (Nat.le_refl _))⟩
end
def zkC (kvs:List (Key × PyData)):List (Key × PyData):=kvs.foldl (fun m p=>ptA m p.1 p.2) []
theorem zgb {H:Hp}:∀ {kvs:List (Key × PyData)} {kv':List (Key × V)},HasM H kvs kv'->∀ {acc:List (Key × PyData)} {acc':List (Key × V)},HasM H acc acc'->HasM H (kvs.foldl (fun m p=>ptA m p.1 p.2) acc) (kv'.foldl (fun a p=>ze0 a p.1 p.2) acc')
 | [],_,q,acc,acc',ha=>by
  have e:_ = []:=q
  subst e
  exact ha
 | p :: r,_,⟨v,t,e,q,l⟩,acc,acc',ha=>by
  subst e
  rw [List.foldl_cons,List.foldl_cons]
  exact zgb l (ha.put q)
theorem znc {h o:List Addr} {H:Hp}:∀ {kvs:List (Key × PyData)} {ws:List V},HasL (vx h o H) (kvs.map fun p=>PyData.tuple [kD p.1,p.2]) ws->∃ kv',PrV H ws kv'/\HasM (vx h o H) kvs kv'
 | [],ws,l=>by
  have e:=zL.mp l
  subst e
  exact ⟨[],.nil,rfl⟩
 | p :: r,ws,l=>by
  obtain ⟨v,t,rfl,hv,l⟩:=zC.mp l
  obtain ⟨kv',pr,hm⟩:=znc l
  obtain ⟨b,vs,rfl,eb,lb⟩:=zaB.mp hv
  obtain ⟨v1,r1,rfl,h1,k1⟩:=zC.mp lb
  obtain ⟨v2,r2,rfl,h2,k2⟩:=zC.mp k1
  have e3:=zL.mp k2
  subst e3
  have e4:v1 = kV p.1:=by
   cases hp:p.1 with
   | inl i=>rw [hp] at h1; exact zbU.mp h1
   | inr x=>rw [hp] at h1; exact zdF.mp h1
  subst e4
  exact ⟨(p.1,v2) :: kv',.cons ⟨b,rfl,zak _ _ eb⟩ pr,⟨v2,kv',rfl,h2,hm⟩⟩
def zgW (da:DA):DE:=fun δ S R=>da δ S fun xs S1=>arg1 xs fun x=>asT x fun ds=>∃ kvs:List (Key × PyData),ds = kvs.map (fun p=>.tuple [kD p.1,p.2])/\kvs.length <= 1000/\R (.d (.dict (DD.pairs (.k (zkC kvs))))) S1
theorem zho {ta:TA} {da:DA} (ha:RA ta da):RE (zsV (tCB zo9 ta)) (zgW da):=fun h o H δ σ S R Q he hs q c =>
 ha h o H δ σ S _ _ he hs q fun o1 H1 S1 xs vs e1 s1 x1 d0=>by
  obtain ⟨x,rfl,d1⟩:=zbf d0
  replace d1:=zdr d1
  obtain ⟨ds,rfl,kvs,rfl,hl,d2⟩:=d1
  obtain ⟨v,rfl,hv⟩:=hxs1 x1
  obtain ⟨a,ws,rfl,ea,l⟩:=zcg hv
  obtain ⟨kv',pr,hm⟩:=znc l
  have ln:kv'.length <= 1000:=by rw [hm.length]; exact hl
  refine ⟨a,ws,kv',rfl,ea,pr,ln,fun p hp=>⟨p,_,rfl,zag,fun ob=>?_⟩⟩
  rw [zhG]
  refine (c.pre e1) o1 _ S1 (.d (.dict (DD.pairs (.k (zkC kvs))))) _ (Ex.of_same (Same.laid hp)) (s1.same (Same.laid hp)) ?_ d2
  show Has _ _ _
  exact zgL.mpr ⟨p,ob,zfh kv',rfl,s1.laid hp,HasM.mono (zdk (Same.laid hp)) (zgb hm rfl)⟩
end L2
namespace HT
open PySem PyProof.Rows
theorem zlg:typeLookup (.type "list") "keys" = pure none:=am_miss_of_fast (by decide +kernel)
set_option maxRecDepth 8000 in
theorem zmm {prog:Program} {w:World} {A:Around} {E:Value->Shared->Prop} {s:Shared} {a:Addr} {o:Obj} {xs:Array Value} {k:Nat} {Q:Option Value->Shared->Prop}
  (hx:s.heap.get? a = some o) (hc:o.cls = .type "list") (hdat:o.data = .seq xs k) (hd:o.dict = none) (hA:A.handled = none)
  (h:∀ h' tk,(∀ b ob,s.heap.get? b = some ob->h'.get? b = some ob)->Q none { s with heap:=h',toks:=tk }) :
  wpAny (model prog w) A (getAttr? (.ref a) "keys") Q E s:=by
 obtain ⟨c,dct,dat,sl⟩:=o
 simp only at hc hdat hd
 subst hc hdat hd
 obtain ⟨hp,g,d,tk,os⟩:=s
 have hT:∀ tk',(⟨hp,g,d,tk',os⟩:Shared).TypeIs (.ref a) "list":=fun _=>⟨_,hx,rfl⟩
 have f1:=sub_AttributeError
 have f3:=F.slot_list_getattribute.lookup
 have f4:=F.slot_list_getattribute.bind (.ref a)
 have f5:=am_list_getattr_none
 have hname:(["__module__","__name__","__qualname__","__doc__","__annotations__"]:List Str).contains ("keys":Str) = false:=by decide +kernel
 unfold getAttr? getAttrBy? getAttrBy
 repeat (any_goals (first | assumption | exact hT _ | ((with_reducible show wpAny _ _ (call (Value.builtin "list.__getattribute__") _ _) _ _ _); refine call_meets F.slot_list_getattribute (hT _) am_entry_list_getattribute (F.args_list_getattribute_2 _ _) (meets_getattribute_miss_list a xs k sl "keys" _ zlg hname) ⟨hx,hA,fun h' tk' e hx'=>?_⟩) | wp_step))
 obtain ⟨t',u',he⟩:=hx'.there
 show wpAny _ _ (getattributeRaised _ _ _ _ _ _ _) _ _ _
 unfold getattributeRaised
 repeat (any_goals (first | assumption | wp_step))
 exact h _ _ hx'.keeps
section
variable {prog:Program} {w:World} {K:Type} [DecidableEq K] {knd:PySem.KeyKind prog w K}
theorem call_dictPL {A:Around} {E:Value->Shared->Prop} {s:Shared} {p:Addr} {op:Obj} {items:Array Value} {nn:Nat} {kvs:List (K × Value)} {Q:Value->Shared->Prop} (hp:s.heap.get? p = some op) (hc:op.cls = .type "list") (hdat:op.data = .seq items nn) (hd:op.dict = none)
  (hh:A.handled = none) (hpr:∀ ap:List Addr,(∀ a ∈ ap,s.heap.objs.size <= a)->PairsAt knd ap s.heap items.toList kvs) (hk:kvs.length = items.size) (hl:kvs.length <= 1000)
  (h:∀ h' tk,h'.DictOf knd s.heap.objs.size (zf3 [] kvs)->(∀ b o,s.heap.get? b = some o->h'.get? b = some o)->Q (.ref s.heap.objs.size) { s with heap:=h',toks:=tk }) :
  wpAny (model prog w) A (call (.type "dict") [.ref p]) Q E s:=by
 refine callType_codes (Q₁:=fun obj s₁=>obj = .ref s.heap.objs.size/\s₁ = { s with heap:=s.heap.push { cls:=.type "dict",data:=.dict #[] } }) PySem.F.kt_called_dict (PySem.F.kt_typeCall_dict_1 _) PySem.F.entry_dict_init (kt_code_dict_new _ ⟨rfl,rfl⟩) ?_
 rintro obj s₁ ⟨rfl,rfl⟩
 have hnew:(s.heap.push { cls:=.type "dict",data:=.dict #[] }).DictOf knd s.heap.objs.size []:=Heap.DictOf.new s.heap
 have hp1:(s.heap.push { cls:=.type "dict",data:=.dict #[] }).get? p = some op:=Heap.get?_push_of_some _ hp
 have hT:({ s with heap:=s.heap.push { cls:=.type "dict",data:=.dict #[] } }:Shared).TypeIs (.ref p) "list":=⟨_,hp1,hc⟩
 have plt:=Heap.lt_size hp
 refine ⟨hnew.typeIs,PySem.F.args_dict_init_2 _ _,?_⟩
 unfold Builtin.«dict.__init__»
 refine wpAny_bind ?_
 unfold Builtin.Dict.selfAndRest
 refine wpAny_bind (wpAny_notOrdered_dict hnew.typeIs ?_)
 show wpAny _ _ (pure (s.heap.objs.size,[Value.ref p])) _ _ _
 refine wpAny_pure ?_
 show wpAny _ _ (Builtin.Dict.updateFrom "dict.__init__" s.heap.objs.size (.ref p) [] .none) _ _ _
 unfold Builtin.Dict.updateFrom
 refine wpAny_bind (wpAny_typeOf hT ?_)
 rw [if_pos (by decide)]
 refine wpAny_bind (zmm (A:=A.in1.in1) hp1 hc hdat hd hh fun h2 tk2 k2=>?_)
 rw [if_pos (show (none:Option Value).isNone = true from rfl)]
 refine wpAny_bind (wpAny_rule ?_)
 have hp2:=k2 _ _ hp1
 have ht2:h2.IsList p items:=⟨_,hp2,hc,nn,hdat⟩
 refine wpAny_bind (wpAny_pyIter_list (s:={ s with heap:=h2,toks:=tk2 }) ht2 ?_)
 have g0:∃ o,h2.get? s.heap.objs.size = some o:=by
  obtain ⟨o,es,ep,ho,r⟩:=id hnew
  exact ⟨o,k2 _ _ ho⟩
 obtain ⟨o0,g0⟩:=g0
 have lt2:s.heap.objs.size < h2.objs.size:=Heap.lt_size g0
 have plt2:p < h2.objs.size:=Heap.lt_size hp2
 have hS:(h2.push { cls:=.type "list_iterator",data:=.fields #[.ref p,.int 0 0] }).DictOf knd s.heap.objs.size []:=by
  obtain ⟨o,es,ep,ho,r⟩:=hnew
  exact ⟨o,es,ep,Heap.get?_push_of_some _ (k2 _ _ ho),r⟩
 refine wpAny_pure ⟨plainId_quiet zdy _,?_⟩
 refine zd3 (knd:=knd) (A:=A.in1) (items:=items.toList) (Walks.list (A:=A.in1.in1) hh h2.objs.size p (Nat.ne_of_lt plt2) items) ?_ ?_ kvs 0 _ [] ?_ ?_ hS ?_ ?_ ?_
 ·simp only [List.mem_cons,List.not_mem_nil,or_false,not_or]
  exact ⟨Nat.ne_of_lt lt2,Nat.ne_of_gt plt⟩
 ·intro i v e
  rw [Array.getElem?_toList]
  exact e
 ·omega
 ·exact ⟨⟨_,Heap.get?_push_size _ rfl,rfl,rfl⟩,ht2.at fun o e=>Heap.get?_push_of_some _ e⟩
 ·rw [List.drop_zero]
  refine PairsAt.keeps (hpr _ fun a m=>?_) fun b o nb e=>Heap.get?_push_of_some _ (k2 _ _ (Heap.get?_push_of_some _ e))
  simp only [List.mem_cons,List.not_mem_nil,or_false] at m
  rcases m with rfl | rfl
  ·exact Nat.le_refl _
  ·exact Nat.le_of_lt lt2
 ·simpa using hl
 ·intro h3 tk3 hD k3
  refine ⟨rfl,h h3 tk3 hD fun b o e=>k3 b o (fun m=>?_) (Heap.get?_push_of_some _ (k2 _ _ (Heap.get?_push_of_some _ e)))⟩
  have:=Heap.lt_size e
  simp only [List.mem_cons,List.not_mem_nil,or_false] at m
  rcases m with z | z
  ·rw [z] at this
   exact absurd this (Nat.lt_irrefl _)
  ·rw [z] at this
   exact absurd (Nat.lt_trans this lt2) (Nat.lt_irrefl _)
end
end HT
namespace L2
open PySem PySem.Spec PySem.Calls PyProof.Rows
def znb:List V->Hp->VK->Prop:=fun xs H Q=>∃ p ws kvs,xs = [.ref p]/\H p = some (.lst ws)/\PrV H ws kvs/\kvs.length <= 1000/\∀ l,H l = none->Q (.ref l) (upd H l (.dK (zfh kvs)))
theorem zfu {X:Cx} (hc:X.calm = true):CallR X (.type "dict") znb:=by
 intro zk s σ H xs us Q I r h
 obtain ⟨p,ws,kvs,rfl,hp,pr,hl,q⟩:=h
 obtain ⟨u,rfl,rx⟩:=vals1 r
 cases rx
 obtain ⟨hz,its,n,rv,g1⟩:=(show ObjOk X.prog X.w H s.heap p (.lst ws) from I.hok p _ hp)
 obtain ⟨kvs',hkv,hpa⟩:=zkt I pr rv
 have l1:kvs.length = kvs'.length:=Paired.length hkv
 have l2:ws.length = kvs.length:=Paired.length pr
 have l3:=rv.length
 refine HT.call_dictPL (knd:=zad X.prog X.w) (items:=its.toArray) (kvs:=kvs') g1 rfl rfl rfl (I.ok.hd hc) (by simpa using hpa) (by simp; omega) (by omega) fun h' tk hD kp=>?_
 have ln:=zeZ kvs []
 exact ⟨.ref s.heap.objs.size,_,I.laid (t':=tk) kp (Nat.le_refl _) (show ObjOk X.prog X.w _ h' _ (.dK (zfh kvs)) from ⟨by unfold zfh; rw [sizeLine_eq]; simp at ln; omega,beq_eq_false_iff_ne.mpr (Ne.symm (Nat.ne_of_lt I.big)),_,zlq hkv .nil,hD⟩),rfl,q _ (I.hok.fresh (Nat.le_refl _))⟩
def zhH (da:DA):DE:=fun δ S R=>da δ S fun xs S1=>arg1 xs fun x=>∃ kvs:List (Key × PyData),x = .d (.list (kvs.map fun p=>.tuple [kD p.1,p.2]))/\kvs.length <= 1000/\R (.d (.dict (DD.pairs (.k (zkC kvs))))) S1
theorem zmU {ta:TA} {da:DA} (ha:RA ta da):RE (zsV (tCB znb ta)) (zhH da):=fun h o H δ σ S R Q he hs q c =>
 ha h o H δ σ S _ _ he hs q fun o1 H1 S1 xs vs e1 s1 x1 d0=>by
  obtain ⟨x,rfl,kvs,rfl,hl,d2⟩:=zbf d0
  obtain ⟨v,rfl,hv⟩:=hxs1 x1
  obtain ⟨a,ws,rfl,ea,l⟩:=zbH.mp (show Has (vx h o1 H1) _ _ from hv)
  obtain ⟨kv',pr,hm⟩:=znc l
  have ln:kv'.length <= 1000:=by rw [hm.length]; exact hl
  refine ⟨a,ws,kv',rfl,zak _ _ ea,pr,ln,fun p hp=>⟨p,_,rfl,zag,fun ob=>?_⟩⟩
  rw [zhG]
  refine (c.pre e1) o1 _ S1 (.d (.dict (DD.pairs (.k (zkC kvs))))) _ (Ex.of_same (Same.laid hp)) (s1.same (Same.laid hp)) ?_ d2
  show Has _ _ _
  exact zgL.mpr ⟨p,ob,zfh kv',rfl,s1.laid hp,HasM.mono (zdk (Same.laid hp)) (zgb hm rfl)⟩
end L2
namespace L2
open PySem PySem.Spec PyProof.Rows
section
theorem znK {k v:Int}:RE (zsV (zrj [(tC (.int k),tC (.int v))])) (dC (.dict [(.int k,.int v)])):=fun h o H δ σ S R Q he hs q c p hp=>by
 refine ⟨zag,[(Sum.inl k,.int v)],rfl,by simp,p,zfR [] [(Sum.inl k,.int v)],rfl,zag,fun ob=>?_⟩
 rw [zhG,zhG]
 refine c o _ S (.d (.dict (DD.pairs (.k [(Sum.inl k,.int v)])))) _ (Ex.of_same (Same.laid hp)) (hs.same (Same.laid hp)) ?_ q
 show Has _ _ _
 exact zgL.mpr ⟨p,ob,zfR [] [(Sum.inl k,.int v)],rfl,hs.laid hp,⟨.int v,[],rfl,zbU.mpr rfl,rfl⟩⟩
end
section
def Itd (lo:Int) (n:Nat):It:=⟨fun i _=>i < n,fun i H x H'=>H' = H/\x = .int (lo - i),fun i _=>n <= i⟩
theorem znC {P:Program} {w:World} {K:W.Frag} {tg:Expr} (it:Addr) (lo:Int) (n:Nat):Turn P w K tg (Itd lo n) [it] it (fun i h=>IsRangeIter h it (lo + (i:Nat) * (-1)) ((n:Int) - (i:Nat)) (-1)) where
 mem:=by simp
 obj:=fun i h st b hb=>by
  have e:b = it:=by simpa using hb
  subst e
  exact ⟨_,st,fun v z=>by
   have z':Data.fields _ = Data.cell v:=z
   cases z'⟩
 keep:=fun i h h' st k=>k it (by simp) _ st
 item:=by
  intro X hP hw hK hc i zk s σ H E I hf st hg
  subst hP hw hK
  obtain ⟨f0,f1,f2,f3,f4,f5⟩:=hf it (by simp)
  have W:=Walks.range (prog:=X.prog) (w:=X.w) (I.ok.hd hc) it lo (-1) n
  refine W.item i s _ _ hg st fun v h' tk hv st' kk=>?_
  obtain ⟨t,rfl⟩:=hv
  have I1:Inv X zk σ H { s with heap:=h',toks:=tk }:=I.turned (fun b o hb e=>kk b o (by simpa using hb) e) f0 f1 f3 f4 f5
  refine ⟨_,rfl,zmK (s:={ s with heap:=h',toks:=tk }) (n:="range_iterator") st' rfl rfl (by decide) ⟨.int (lo - i),H,I1,⟨t,?_⟩,⟨rfl,rfl⟩,st',fun b hb=>(hf b hb).1⟩⟩
  rw [show lo + (i:Int) * (-1) = lo - i by omega]
 done:=by
  intro X hP hw hK hc i zk s σ H E I hf st hg
  subst hP hw hK
  obtain ⟨f0,f1,f2,f3,f4,f5⟩:=hf it (by simp)
  exact wpAny_pyNext_range_end (I.ok.hd hc) st (by have:n <= i:=hg; omega) fun h' eb=>⟨rfl,I.turned (t':=s.toks) (fun b o hb e=>eb b o hb e) f0 f1 f3 f4 f5⟩
 self:=fun _ _ _ _ _ st h=>wpAny_pyIter_rangeiter st h
section
variable {X:Cx} {tg:Expr}
theorem zkP {zk:List (Addr × Obj)} {σ:St} {H:Hp} {s:Shared} {R:It->Hp->Prop} {E:Value->Shared->Prop} {lo hi:Int} {t u v:Tok} {tk:Nat} (I:Inv X zk σ H s) (h1:-1000 <= lo/\lo <= 1000) (h2:-1000 <= hi/\hi <= 1000)
  (q:R (Itd lo (lo - hi).toNat) H):wpAny (model X.prog X.w) X.A (pyIter (.ref s.heap.objs.size)) (PIE X zk σ tg R) E { s with heap:=s.heap.push { cls:=.type "range",data:=.fields #[.int lo t,.int hi u,.int (-1) v] },toks:=tk }:=by
 have I1:Inv X zk σ H { s with heap:=s.heap.push { cls:=.type "range",data:=.fields #[.int lo t,.int hi u,.int (-1) v] },toks:=tk }:=I.kept fun b o e=>Heap.get?_push_of_some _ e
 have e1:lo + ((0:Nat):Int) * (-1) = lo:=by simp
 have e2:(((lo - hi).toNat:Nat):Int) - ((0:Nat):Int) = Builtin.Range.rangeSize lo hi (-1):=by
  unfold Builtin.Range.rangeSize
  rw [if_neg (by decide)]
  split
  ·rw [show (- -1:Int) = 1 by decide,Int.ediv_one]
   omega
  ·omega
 have hsm:Builtin.Range.small lo hi (-1) = true:=by
  unfold Builtin.Range.small
  rw [<- e2,if_neg (by decide)]
  simp only [Builtin.Range.rangeFitsLong,Bool.and_eq_true,Bool.or_eq_true,decide_eq_true_eq,beq_iff_eq]
  omega
 refine wpAny_pyIter_range (IsRange.new ..) hsm ?_
 refine ⟨(s.heap.push { cls:=.type "range",data:=.fields #[.int lo t,.int hi u,.int (-1) v] }).objs.size,[(s.heap.push { cls:=.type "range",data:=.fields #[.int lo t,.int hi u,.int (-1) v] }).objs.size],_,_,H,rfl,
  I1.kept (t':=tk) fun b o e=>Heap.get?_push_of_some _ e,znC _ lo (lo - hi).toNat,?_,fun b hb=>?_,q⟩
 ·show IsRangeIter _ _ (lo + ((0:Nat):Int) * (-1)) ((((lo - hi).toNat:Nat):Int) - ((0:Nat):Int)) (-1)
  rw [e1,e2]
  exact Heap.get?_push_size _ rfl
 ·have e:b = (s.heap.push { cls:=.type "range",data:=.fields #[.int lo t,.int hi u,.int (-1) v] }).objs.size:=by simpa using hb
  subst e
  exact I1.fpOk (Nat.le_refl _) (I1.hok.fresh (Nat.le_refl _))
def zrM (ta:TA):TI:=fun σ H R=>ta σ H fun vs H1=>∃ i j:Int,vs = [.int i,.int j,.int (-1)]/\(-1000 <= i/\i <= 1000)/\(-1000 <= j/\j <= 1000)/\R (Itd i (i - j).toNat) H1
theorem zlU {a b c:Expr} {ta:TA} {p pos:Pos} (hg:Gl X "range") (hm:X.mg "range" = none) (ha:PA X [a,b,c] ta) (hs:starEach [a,b,c] X.env = [(false,eval a X.env),(false,eval b X.env),(false,eval c X.env)]:=by rfl) (hs2:starEach [b,c] X.env = [(false,eval b X.env),(false,eval c X.env)]:=by rfl) :
  PI X tg (.Call (.Name "range" p) [a,b,c] [] pos) (zrM ta):=by
 intro zk s σ H R I h
 refine Call_ (zfM I hg hm boot_range (PyProof.Rows.callWith_type1 (thn (ha pos zk s σ H _ I h) fun us s1 ⟨vs,H1,I1,r1,q1⟩=>?_) (by rw [hs,hs2]) (by rw [hs2]; rfl)))
 obtain ⟨i,j,e,h1,h2,q⟩:=q1
 subst e
 cases r1 with
 | cons r rr =>
  cases rr with
  | cons r' rr =>
   cases rr with
   | cons r'' rr =>
    cases rr
    obtain ⟨t,rfl⟩:=r
    obtain ⟨t',rfl⟩:=r'
    obtain ⟨t'',rfl⟩:=r''
    exact call_range_3 (by decide) (zkP I1 h1 h2 q) (.inl (PyProof.noPylong_small (by omega)))
end
def zk8 (lo:Int) (n:Nat):List PyData:=(List.range n).map fun k:Nat=>.int (lo - k)
theorem zf0 {lo:Int} {n i:Nat} {d:PyData} (h:(zk8 lo n)[i]? = some d):i < n/\d = .int (lo - i):=by
 unfold zk8 at h
 rw [List.getElem?_map] at h
 by_cases hi:i < n
 ·rw [List.getElem?_range hi] at h
  exact ⟨hi,(Option.some.inj h).symm⟩
 ·rw [List.getElem?_eq_none (by simpa using Nat.le_of_not_lt hi)] at h
  cases h
theorem zkR {h o:List Addr} {H:Hp} {lo:Int} {n:Nat}:WalkX h o H (Itd lo n) (zk8 lo n) where
 stop:=fun i _ _ _ hi=>by
  have h':n <= i:=by simpa [zk8] using hi
  exact h'
 go:=fun i d _ _ _ hi=>(zf0 hi).1
 yld:=fun i d o2 H2 x H3 S2 _ _ hi y=>by
  obtain ⟨e,ex⟩:=y
  subst e ex
  rw [(zf0 hi).2]
  exact ⟨Same.refl _,zbU.mpr rfl⟩
def zjY (a:DA):DI:=fun δ S R=>a δ S fun xs S1=>∃ i j:Int,xs = [.d (.int i),.d (.int j),.d (.int (-1))]/\(-1000 <= i/\i <= 1000)/\(-1000 <= j/\j <= 1000)/\R (zk8 i (i - j).toNat) S1
theorem zqh {ta:TA} {da:DA} (ha:RA ta da):RI (zrM ta) (zjY da):=fun h o H δ σ S R Q he hs q c =>
 ha h o H δ σ S _ _ he hs q fun o1 H1 S1 xs vs e1 s1 x1 d0=>by
  obtain ⟨i,j,rfl,h1,h2,d1⟩:=d0
  obtain ⟨v1,r1,rfl,hv1,l1⟩:=x1
  obtain ⟨v2,r2,rfl,hv2,l2⟩:=l1
  obtain ⟨v3,r3,rfl,hv3,l3⟩:=l2
  have l4:r3 = []:=l3
  subst l4
  rw [zaV hv1,zaV hv2,zaV hv3]
  exact ⟨i,j,rfl,h1,h2,c o1 H1 S1 _ _ e1 s1 zkR d1⟩
end
section
theorem zrR {X:Cx} {c:Expr} {a b:List Stmt} {tc:TT} {t u:TS} {pos:Pos} (hc:PT X c tc) (ha:QSs X a t) (hb:QSs X b u):QS X (.If c a b pos) (zsR tc t u):=QS.mk (zbQ hc ha.out hb.out)
theorem zoE {X:Cx} {i:Nat} {x:Str} {es:List Expr} {b:Expr} {t:TA} {tb:TE} {pos pos' p1 p2:Pos} (hN:X.N.Nodup) (hi:X.N[i]? = some x) (hx:Loc X.env.scope x) (he:QA X es t) (hb:PE X b tb) (hm:PlainIx b)
  (hs:swapsWith (.Subscript (.List es p1) b p2) (some (.Name x pos')) pos.line X.env = pure false:=by rfl) (hf:X.fn x = true\/X.env.scope.names.lookup x = some .local:=by first | exact .inl rfl | exact .inr rfl | assumption) :
  QS X (.Assign [.Name x pos'] (.Subscript (.List es p1) b p2) pos) (zq3 (tOp (rIx X.K) (zqi t) tb) (ziF i)):=QS.mk (zD hN hi hx (zR zz (zaD he.out) hb hm) hs hf)
end
end L2
namespace L2
open PySem PyProof.Rows
def zl8:Bool->Keyed->Array Keyed->Nat->Nat->Nat->StateT SortSt Sem (Option Nat):=sortPriv% PySem.Builtin.gallop
def zn7:Array Keyed->Array Keyed->StateT SortSt Sem (Array Keyed):=sortPriv% PySem.Builtin.mergeLo
def zoa:Array Keyed->Array Keyed->StateT SortSt Sem (Array Keyed):=sortPriv% PySem.Builtin.mergeHi
structure LtOk (prog:Program) (w:World) (A:Around) (E:Value->Shared->Prop) (s:Shared) (kd:SortKind) (D:Keyed->Prop) (lt:Keyed->Keyed->Bool):Prop where
 ask:∀ x y (st:SortSt) (Q:Option Bool->SortSt->Prop),D x->D y->kindOf st = kd->Q (some (lt x y)) st->wpS (model prog w) A E s (lt' x y) Q st
 asym:∀ x y,D x->D y->lt x y = true->lt y x = false
 tr:∀ x y z,D x->D y->D z->lt y x = false->lt z y = false->lt z x = false
section
variable {prog:Program} {w:World} {A:Around} {E:Value->Shared->Prop} {s:Shared} {kd:SortKind} {D:Keyed->Prop} {lt:Keyed->Keyed->Bool}
theorem zI {arr:Array Keyed} {i:Nat} {x:Keyed} {Q:Keyed->SortSt->Prop} {st:SortSt} (h:arr[i]? = some x) (q:Q x st):wpS (model prog w) A E s (elem' arr i) Q st:=by
 rw [elem'_eq,h]
 exact wpS_pure q
def bey (lt:Keyed->Keyed->Bool) (left:Bool) (key x:Keyed):Bool:=if left = true then lt x key else !lt key x
theorem zgr (O:LtOk prog w A E s kd D lt) {left:Bool} {key x:Keyed} {arr:Array Keyed} {i:Nat} {Q:Option Bool->SortSt->Prop} {st:SortSt} (hk:kindOf st = kd) (hD:D key) (hg:arr[i]? = some x) (hx:D x) (q:Q (some (bey lt left key x)) st) :
  wpS (model prog w) A E s (do
   let y <- elem' arr i
   if left = true then lt' y key
    else do
     let r <- lt' key y
     pure (Option.map (fun b=>!b) r)) Q st:=by
 refine wpS_bind (zI hg ?_)
 unfold bey at q
 by_cases h:left = true
 ·rw [if_pos h] at q ⊢
  exact O.ask _ _ _ _ hx hD hk q
 ·rw [if_neg h] at q ⊢
  exact wpS_bind (O.ask _ _ _ _ hD hx hk (wpS_pure q))
theorem zlK {n:Nat} {p:Nat->Bool} {α:Type} {f:Nat->Option α × Nat × Nat->StateT SortSt Sem (ForInStep (Option α × Nat × Nat))} {Q:Option α × Nat × Nat->SortSt->Prop} {st:SortSt}
  (hf:∀ x lo hi (Q':ForInStep (Option α × Nat × Nat)->SortSt->Prop),hi <= n->(hi <= lo->Q' (.done (none,lo,hi)) st)->(lo < hi->p (lo + (hi - lo) / 2) = true->Q' (.yield (none,lo + (hi - lo) / 2 + 1,hi)) st) ->
   (lo < hi->p (lo + (hi - lo) / 2) = false->Q' (.yield (none,lo,lo + (hi - lo) / 2)) st)->wpS (model prog w) A E s (f x (none,lo,hi)) Q' st)
  (hmono:∀ i j,i <= j->j < n->p j = true->p i = true) {lo hi:Nat} (h1:lo <= hi) (h2:hi <= n) (h3:∀ i,i < lo->p i = true) (h4:∀ i,hi <= i->i < n->p i = false)
  (q:∀ k,k <= n->(∀ i,i < k->p i = true)->(∀ i,k <= i->i < n->p i = false)->Q (none,k,k) st):wpS (model prog w) A E s (forIn [:n] (none,lo,hi) f) Q st:=by
 refine wpS_forRange (I:=fun k c st'=>st' = st/\∃ lo hi,c = (none,lo,hi)/\lo <= hi/\hi <= n/\hi - lo + k <= n/\(∀ i,i < lo->p i = true)/\∀ i,hi <= i->i < n->p i = false) ?step ?fin ⟨rfl,lo,hi,rfl,h1,h2,by omega,h3,h4⟩
 case fin =>
  rintro c st' ⟨rfl,lo,hi,rfl,a1,a2,a3,a4,a5⟩
  have:lo = hi:=by omega
  subst this
  exact q lo a2 a4 a5
 case step =>
  rintro k c st' _ hkn ⟨rfl,lo,hi,rfl,a1,a2,a3,a4,a5⟩
  refine hf k lo hi _ a2 (fun hle=>?_) (fun hlt hp=>?_) fun hlt hp=>?_
  ·have:lo = hi:=by omega
   subst this
   exact q lo a2 a4 a5
  ·refine ⟨rfl,_,_,rfl,by omega,a2,by omega,fun i hi'=>?_,a5⟩
   exact hmono i (lo + (hi - lo) / 2) (by omega) (by omega) hp
  ·refine ⟨rfl,_,_,rfl,by omega,by omega,by omega,a4,fun i hi' hin=>?_⟩
   cases hpi:p i with
   | false=>rfl
   | true=>rw [hmono (lo + (hi - lo) / 2) i hi' hin hpi] at hp; cases hp
theorem zkV (O:LtOk prog w A E s kd D lt) {left:Bool} {key:Keyed} {arr:Array Keyed} {base n hint:Nat} {Q:Option Nat->SortSt->Prop} {st:SortSt} (hk:kindOf st = kd) (hD:D key) (g:Nat->Keyed) (hg:∀ i,i < n->arr[base + i]? = some (g i)) (hgD:∀ i,i < n->D (g i))
  (hmono:∀ i j,i <= j->j < n->bey lt left key (g j) = true->bey lt left key (g i) = true) (hh:hint < n)
  (q:∀ k,k <= n->(∀ i,i < k->bey lt left key (g i) = true)->(∀ i,k <= i->i < n->bey lt left key (g i) = false)->Q (some k) st):wpS (model prog w) A E s (zl8 left key arr base n hint) Q st:=by
 have hmF:∀ i j,i <= j->j < n->bey lt left key (g i) = false->bey lt left key (g j) = false:=fun i j h1 h2 h3=>by
  cases h:bey lt left key (g j) with
  | false=>rfl
  | true=>rw [hmono i j h1 h2 h] at h3; cases h3
 refine wpS_bind (zgr O hk hD (hg hint hh) (hgD hint hh) ?_)
 dsimp only
 cases hb:bey lt left key (g hint) with
 | true =>
  simp only [if_true]
  refine wpS_bind (wpS_mono (wpS_forRange (I:=fun k c st'=>st' = st/\∃ la of_,c = (none,la,of_)/\la < of_/\k + 1 <= of_/\hint + la < n/\bey lt left key (g (hint + la)) = true)
   (Q:=fun c st'=>st' = st/\∃ la of_,c = (none,la,of_)/\la < of_/\hint + la < n/\bey lt left key (g (hint + la)) = true/\(n - hint <= of_\/(hint + of_ < n/\bey lt left key (g (hint + of_)) = false))) ?step ?fin ⟨rfl,0,1,rfl,by omega,by omega,by omega,hb⟩) ?post)
  case step =>
   rintro k c st' _ hk2 ⟨rfl,la,of_,rfl,h1,h2,h3,h4⟩
   dsimp only
   by_cases ho:of_ ≥ n - hint
   ·rw [if_pos ho]
    exact wpS_pure ⟨rfl,la,of_,rfl,h1,h3,h4,.inl ho⟩
   ·rw [if_neg ho]
    have hn:hint + of_ < n:=by omega
    refine wpS_bind (zgr O hk hD (hg _ hn) (hgD _ hn) ?_)
    dsimp only
    cases hb2:bey lt left key (g (hint + of_)) with
    | true=>exact wpS_pure ⟨rfl,of_,2 * of_ + 1,rfl,by omega,by omega,hn,hb2⟩
    | false=>exact wpS_pure ⟨rfl,la,of_,rfl,h1,h3,h4,.inr ⟨hn,hb2⟩⟩
  case fin =>
   rintro c st' ⟨rfl,la,of_,rfl,h1,h2,h3,h4⟩
   exact ⟨rfl,la,of_,rfl,h1,h3,h4,.inl (by omega)⟩
  case post =>
   rintro c st' ⟨rfl,la,of_,rfl,h1,h3,h4,h5⟩
   dsimp only
   refine wpS_bind (zlK (p:=fun i=>bey lt left key (g i)) ?hf hmono (by omega) (by omega) (fun i hi=>hmono i (hint + la) (by omega) h3 h4) (fun i hi hin=>?_) fun k k1 k2 k3=>?_)
   case hf =>
    intro x lo hi Q' hn e1 e2 e3
    dsimp only
    by_cases ho:lo ≥ hi
    ·rw [if_pos ho]
     exact wpS_pure (e1 ho)
    ·rw [if_neg ho]
     have hm:lo + (hi - lo) / 2 < n:=by omega
     refine wpS_bind (zgr O hk hD (hg _ hm) (hgD _ hm) ?_)
     dsimp only
     cases hb2:bey lt left key (g (lo + (hi - lo) / 2)) with
     | true=>exact wpS_pure (e2 (by omega) hb2)
     | false=>exact wpS_pure (e3 (by omega) hb2)
   ·rcases h5 with h5 | ⟨h5,h6⟩
    ·omega
    ·exact hmF (hint + of_) i (by omega) hin h6
   ·exact wpS_pure (q k k1 k2 k3)
 | false =>
  simp only [Bool.false_eq_true,if_false]
  refine wpS_bind (wpS_mono (wpS_forRange (I:=fun k c st'=>st' = st/\∃ la of_,c = (none,la,of_)/\la < of_/\k + 1 <= of_/\la <= hint/\bey lt left key (g (hint - la)) = false)
   (Q:=fun c st'=>st' = st/\∃ la of_,c = (none,la,of_)/\la < of_/\la <= hint/\bey lt left key (g (hint - la)) = false/\(hint + 1 <= of_\/(of_ <= hint/\bey lt left key (g (hint - of_)) = true))) ?step ?fin ⟨rfl,0,1,rfl,by omega,by omega,by omega,hb⟩) ?post)
  case step =>
   rintro k c st' _ hk2 ⟨rfl,la,of_,rfl,h1,h2,h3,h4⟩
   dsimp only
   by_cases ho:of_ ≥ hint + 1
   ·rw [if_pos ho]
    exact wpS_pure ⟨rfl,la,of_,rfl,h1,h3,h4,.inl ho⟩
   ·rw [if_neg ho]
    have hn:hint - of_ < n:=by omega
    refine wpS_bind (zgr O hk hD (hg _ hn) (hgD _ hn) ?_)
    dsimp only
    cases hb2:bey lt left key (g (hint - of_)) with
    | true=>exact wpS_pure ⟨rfl,la,of_,rfl,h1,h3,h4,.inr ⟨by omega,hb2⟩⟩
    | false=>exact wpS_pure ⟨rfl,of_,2 * of_ + 1,rfl,by omega,by omega,by omega,hb2⟩
  case fin =>
   rintro c st' ⟨rfl,la,of_,rfl,h1,h2,h3,h4⟩
   exact ⟨rfl,la,of_,rfl,h1,h3,h4,.inl (by omega)⟩
  case post =>
   rintro c st' ⟨rfl,la,of_,rfl,h1,h3,h4,h5⟩
   dsimp only
   refine wpS_bind (zlK (p:=fun i=>bey lt left key (g i)) ?hf hmono (by omega) (by omega) (fun i hi=>?_) (fun i hi hin=>hmF (hint - la) i (by omega) hin h4) fun k k1 k2 k3=>?_)
   case hf =>
    intro x lo hi Q' hn e1 e2 e3
    dsimp only
    by_cases ho:lo ≥ hi
    ·rw [if_pos ho]
     exact wpS_pure (e1 ho)
    ·rw [if_neg ho]
     have hm:lo + (hi - lo) / 2 < n:=by omega
     refine wpS_bind (zgr O hk hD (hg _ hm) (hgD _ hm) ?_)
     dsimp only
     cases hb2:bey lt left key (g (lo + (hi - lo) / 2)) with
     | true=>exact wpS_pure (e2 (by omega) hb2)
     | false=>exact wpS_pure (e3 (by omega) hb2)
   ·rcases h5 with h5 | ⟨h5,h6⟩
    ·omega
    ·exact hmono i (hint - of_) (by omega) (by omega) h6
   ·exact wpS_pure (q k k1 k2 k3)
def SrtL (lt:Keyed->Keyed->Bool) (l:List Keyed):Prop:=l.Pairwise fun x y=>lt y x = false
structure MI (lt:Keyed->Keyed->Bool) (L0 out A B:List Keyed):Prop where
 pm:(out ++ (A ++ B)).Perm L0
 so:SrtL lt out
 le:∀ x ∈ out,∀ y ∈ A ++ B,lt y x = false
 sa:SrtL lt A
 sb:SrtL lt B
theorem zkr {l:List Keyed} {x:Keyed} (h:SrtL lt l) (k:∀ y ∈ l,lt x y = false):SrtL lt (l ++ [x]):=by
 unfold SrtL at *
 rw [List.pairwise_append]
 exact ⟨h,by simp,fun y m z mz=>by rw [List.mem_singleton.mp mz]; exact k y m⟩
theorem MI.takeA {L0 out A B:List Keyed} {x:Keyed} (h:MI lt L0 out (x :: A) B) (k:∀ y ∈ B,lt y x = false):MI lt L0 (out ++ [x]) A B:=by
 have sa:=h.sa
 unfold SrtL at sa
 rw [List.pairwise_cons] at sa
 refine ⟨by rw [List.append_assoc]; exact h.pm,zkr h.so fun y m=>h.le y m x (by simp),fun z mz y my=>?_,sa.2,h.sb⟩
 rcases List.mem_append.mp mz with mz | mz
 ·exact h.le z mz y (by rcases List.mem_append.mp my with m | m <;> simp [m])
 ·rw [List.mem_singleton.mp mz]
  rcases List.mem_append.mp my with m | m
  ·exact sa.1 y m
  ·exact k y m
theorem MI.takeB {L0 out A B:List Keyed} {y:Keyed} (h:MI lt L0 out A (y :: B)) (k:∀ x ∈ A,lt x y = false):MI lt L0 (out ++ [y]) A B:=by
 have sb:=h.sb
 unfold SrtL at sb
 rw [List.pairwise_cons] at sb
 refine ⟨?_,zkr h.so fun x m=>h.le x m y (by simp),fun z mz x mx=>?_,h.sa,sb.2⟩
 ·refine .trans ?_ h.pm
  rw [List.append_assoc]
  refine List.Perm.append_left _ ?_
  exact (List.perm_middle (a:=y) (l₁:=A) (l₂:=B)).symm
 ·rcases List.mem_append.mp mz with mz | mz
  ·exact h.le z mz x (by rcases List.mem_append.mp mx with m | m <;> simp [m])
  ·rw [List.mem_singleton.mp mz]
   rcases List.mem_append.mp mx with m | m
   ·exact k x m
   ·exact sb.1 x m
theorem MI.takesA {L0:List Keyed}:∀ {X out A B:List Keyed},MI lt L0 out (X ++ A) B->(∀ x ∈ X,∀ y ∈ B,lt y x = false)->MI lt L0 (out ++ X) A B
 | [],out,A,B,h,_=>by simpa using h
 | x :: X,out,A,B,h,k=>by
  have:=MI.takesA (MI.takeA h (k x List.mem_cons_self)) fun z m=>k z (List.mem_cons_of_mem _ m)
  simpa using this
theorem MI.takesB {L0:List Keyed}:∀ {Y out A B:List Keyed},MI lt L0 out A (Y ++ B)->(∀ y ∈ Y,∀ x ∈ A,lt x y = false)->MI lt L0 (out ++ Y) A B
 | [],out,A,B,h,_=>by simpa using h
 | y :: Y,out,A,B,h,k=>by
  have:=MI.takesB (MI.takeB h (k y List.mem_cons_self)) fun z m=>k z (List.mem_cons_of_mem _ m)
  simpa using this
def MDone (lt:Keyed->Keyed->Bool) (L0 l:List Keyed):Prop:=l.Perm L0/\SrtL lt l
theorem MI.doneA {L0 out A:List Keyed} (h:MI lt L0 out A []):MDone lt L0 (out ++ A):=by
 refine ⟨by simpa using h.pm,?_⟩
 unfold SrtL
 rw [List.pairwise_append]
 exact ⟨h.so,h.sa,fun x m y m'=>h.le x m y (by simpa using m')⟩
theorem MI.lastA {L0 out B:List Keyed} {x:Keyed} (h:MI lt L0 out [x] B) (k:∀ y ∈ B,lt x y = false):MDone lt L0 (out ++ B ++ [x]):=by
 have h2:MI lt L0 (out ++ B) [x] []:=MI.takesB (B:=[]) (by simpa using h) fun y m z mz=>by rw [List.mem_singleton.mp mz]; exact k y m
 exact h2.doneA
def sameSt (st st':SortSt):Prop:=kindOf st' = kindOf st/\arrOf st' = arrOf st/\pendingOf st' = pendingOf st/\failedOf st' = failedOf st
theorem sameSt.rfl' {st:SortSt}:sameSt st st:=⟨rfl,rfl,rfl,rfl⟩
theorem LtOk.irr (O:LtOk prog w A E s kd D lt) {x:Keyed} (h:D x):lt x x = false:=by
 cases e:lt x x with
 | false=>rfl
 | true=>rw [O.asym x x h h e] at e; cases e
theorem zaX (O:LtOk prog w A E s kd D lt) {l:List Keyed} (h:SrtL lt l) (hD:∀ x ∈ l,D x) {i j:Nat} {x y:Keyed} (ij:i <= j) (hx:l[i]? = some x) (hy:l[j]? = some y):lt y x = false:=by
 rcases Nat.lt_or_eq_of_le ij with h1 | h1
 ·obtain ⟨hi,ex⟩:=List.getElem?_eq_some_iff.mp hx
  obtain ⟨hj,ey⟩:=List.getElem?_eq_some_iff.mp hy
  have:=List.pairwise_iff_getElem.mp h i j hi hj h1
  rw [ex,ey] at this
  exact this
 ·subst h1
  rw [hx] at hy
  cases hy
  exact O.irr (hD x (List.mem_of_getElem? hx))
theorem zcO {l:List Keyed} {i:Nat} {x:Keyed} (h:l[i]? = some x):l.drop i = x :: l.drop (i + 1):=by
 obtain ⟨hi,e⟩:=List.getElem?_eq_some_iff.mp h
 rw [List.drop_eq_getElem_cons hi,e]
theorem zaT {a:Array Keyed} {i:Nat} (h:i < a.size):∃ x,a[i]? = some x/\a.toList[i]? = some x:=⟨a[i],by simp [h],by simp [h]⟩
theorem zaJ {l:List Keyed} {i:Nat} {y:Keyed} (h:y ∈ l.drop i):∃ j,i <= j/\l[j]? = some y:=by
 obtain ⟨j,hj⟩:=List.mem_iff_getElem?.mp h
 rw [List.getElem?_drop] at hj
 exact ⟨i + j,by omega,hj⟩
structure MInv (lt:Keyed->Keyed->Bool) (a b out:Array Keyed) (ia ib:Nat):Prop where
 mi:MI lt (a.toList ++ b.toList) out.toList (a.toList.drop ia) (b.toList.drop ib)
 ha:ia + 1 < a.size
 hb:ib < b.size
section
variable {a b out:Array Keyed} {ia ib:Nat}
theorem MInv.stepB (O:LtOk prog w A E s kd D lt) (haD:∀ x ∈ a.toList,D x) (hbD:∀ x ∈ b.toList,D x) (hsa:SrtL lt a.toList) {x y:Keyed} (h:MInv lt a b out ia ib) (hx:a.toList[ia]? = some x) (hy:b.toList[ib]? = some y) (l:lt y x = true) :
  MI lt (a.toList ++ b.toList) (out.push y).toList (a.toList.drop ia) (b.toList.drop (ib + 1)):=by
 have m:=h.mi
 rw [zcO hy] at m
 have:=m.takeB fun z mz=>by
  obtain ⟨j,hj,ez⟩:=zaJ mz
  have Dx:=haD x (List.mem_of_getElem? hx)
  have Dy:=hbD y (List.mem_of_getElem? hy)
  have Dz:=haD z (List.mem_of_getElem? ez)
  exact O.tr y x z Dy Dx Dz (O.asym y x Dy Dx l) (zaX O hsa haD hj hx ez)
 simpa using this
theorem MInv.stepA (O:LtOk prog w A E s kd D lt) (haD:∀ x ∈ a.toList,D x) (hbD:∀ x ∈ b.toList,D x) (hsb:SrtL lt b.toList) {x y:Keyed} (h:MInv lt a b out ia ib) (hx:a.toList[ia]? = some x) (hy:b.toList[ib]? = some y) (l:lt y x = false) :
  MI lt (a.toList ++ b.toList) (out.push x).toList (a.toList.drop (ia + 1)) (b.toList.drop ib):=by
 have m:=h.mi
 rw [zcO hx] at m
 have:=m.takeA fun z mz=>by
  obtain ⟨j,hj,ez⟩:=zaJ mz
  exact O.tr x y z (haD x (List.mem_of_getElem? hx)) (hbD y (List.mem_of_getElem? hy)) (hbD z (List.mem_of_getElem? ez)) l (zaX O hsb hbD hj hy ez)
 simpa using this
theorem zdW (a:Array Keyed) (i:Nat):(a.extract i a.size).toList = a.toList.drop i:=by
 rw [Array.toList_extract,List.extract_eq_take_drop,List.take_of_length_le (by simp)]
theorem zdL (hib:ib = b.size) (m:MI lt (a.toList ++ b.toList) out.toList (a.toList.drop ia) (b.toList.drop ib)):MDone lt (a.toList ++ b.toList) (out ++ a.extract ia a.size ++ b.extract ib b.size).toList:=by
 have e:b.toList.drop ib = []:=List.drop_of_length_le (by simp [hib])
 rw [Array.toList_append,Array.toList_append,zdW,zdW,e,List.append_nil]
 rw [e] at m
 exact m.doneA
theorem zn1 (hia:ia = a.size) (m:MI lt (a.toList ++ b.toList) out.toList (a.toList.drop ia) (b.toList.drop ib)):MDone lt (a.toList ++ b.toList) (out ++ a.extract ia a.size ++ b.extract ib b.size).toList:=by
 have e:a.toList.drop ia = []:=List.drop_of_length_le (by simp [hia])
 rw [Array.toList_append,Array.toList_append,zdW,zdW,e,List.append_nil]
 rw [e] at m
 have h2:MI lt (a.toList ++ b.toList) (out.toList ++ b.toList.drop ib) [] []:=MI.takesB (B:=[]) (by simpa using m) (fun y my x mx=>by cases mx)
 have:=h2.doneA
 simpa using this
theorem zed (hl:∀ x,a[a.size - 1]? = some x->∀ y ∈ b.toList,lt x y = false) (h1:ia + 1 = a.size) (m:MI lt (a.toList ++ b.toList) out.toList (a.toList.drop ia) (b.toList.drop ib)):MDone lt (a.toList ++ b.toList) (out ++ b.extract ib b.size ++ a.extract ia a.size).toList:=by
 obtain ⟨x,e1,e2⟩:=zaT (a:=a) (i:=ia) (by omega)
 have ed:a.toList.drop ia = [x]:=by
  rw [zcO e2,List.drop_of_length_le (by simp; omega)]
 rw [ed] at m
 have hx:=hl x (by rw [show a.size - 1 = ia by omega]; exact e1)
 have:=m.lastA fun y my=>hx y (List.mem_of_mem_drop my)
 rw [Array.toList_append,Array.toList_append,zdW,zdW,ed]
 exact this
end
theorem gal (O:LtOk prog w A E s kd D lt) {left:Bool} {key:Keyed} {arr:Array Keyed} {base n hint:Nat} {Q:Option Nat->SortSt->Prop} {st:SortSt} (hk:kindOf st = kd) (Dk:D key) (hD:∀ j,base <= j->j < base + n->∃ x,arr[j]? = some x/\D x)
  (hs:∀ i j x y,base <= i->i <= j->j < base + n->arr[i]? = some x->arr[j]? = some y->lt y x = false) (hh:hint < n)
  (q:∀ k,k <= n->(∀ j x,base <= j->j < base + k->arr[j]? = some x->bey lt left key x = true)->(∀ j x,base + k <= j->j < base + n->arr[j]? = some x->bey lt left key x = false)->Q (some k) st):wpS (model prog w) A E s (zl8 left key arr base n hint) Q st:=by
 have hg:∀ i,i < n->arr[base + i]? = some ((arr[base + i]?).getD key):=fun i hi=>by
  obtain ⟨x,e,_⟩:=hD (base + i) (by omega) (by omega)
  rw [e]
  rfl
 have hgD:∀ i,i < n->D ((arr[base + i]?).getD key):=fun i hi=>by
  obtain ⟨x,e,d⟩:=hD (base + i) (by omega) (by omega)
  rw [e]
  exact d
 refine zkV O hk Dk (fun i=>(arr[base + i]?).getD key) hg hgD (fun i j hij hj hb=>?_) hh fun k k1 k2 k3=>q k k1 (fun j x h1 h2 e=>?_) fun j x h1 h2 e=>?_
 ·have s1:=hs (base + i) (base + j) _ _ (by omega) (by omega) (by omega) (hg i (by omega)) (hg j hj)
  have Di:=hgD i (by omega)
  have Dj:=hgD j hj
  try dsimp only at hb ⊢
  generalize (arr[base + i]?).getD key = x at s1 Di ⊢
  generalize (arr[base + j]?).getD key = y at s1 Dj hb
  cases left with
  | true =>
   unfold bey at hb ⊢
   rw [if_pos rfl] at hb ⊢
   cases hx:lt x key with
   | true=>rfl
   | false=>rw [O.tr key x y Dk Di Dj hx s1] at hb; cases hb
  | false =>
   unfold bey at hb ⊢
   rw [if_neg (by decide)] at hb ⊢
   have hb':lt key y = false:=by simpa using hb
   rw [O.tr x y key Di Dj Dk s1 hb']
   rfl
 ·have:=k2 (j - base) (by omega)
  try dsimp only at this
  rw [show base + (j - base) = j by omega,e] at this
  exact this
 ·have:=k3 (j - base) (by omega) (by omega)
  try dsimp only at this
  rw [show base + (j - base) = j by omega,e] at this
  exact this
theorem zhP {a:Array Keyed} {i k:Nat}:(a.extract i (i + k)).toList = (a.toList.drop i).take k:=by
 rw [Array.toList_extract,List.extract_eq_take_drop,Nat.add_sub_cancel_left]
theorem zb5 {l:List Keyed} {i k:Nat} {x:Keyed} (h:x ∈ (l.drop i).take k):∃ j,i <= j/\j < i + k/\l[j]? = some x:=by
 obtain ⟨j,hj⟩:=List.mem_iff_getElem?.mp h
 rw [List.getElem?_take] at hj
 split at hj
 ·rw [List.getElem?_drop] at hj
  exact ⟨i + j,by omega,by omega,hj⟩
 ·cases hj
theorem ze2 (a:Array Keyed) (i:Nat):a.extract i (i + 0) = #[]:=by
 apply Array.toList_inj.mp
 rw [zhP,List.take_zero]
section
variable {a b out:Array Keyed} {ia ib k:Nat} {L0:List Keyed}
theorem zml (m:MI lt L0 out.toList (a.toList.drop ia) (b.toList.drop ib)) (h:∀ j x,ia <= j->j < ia + k->a.toList[j]? = some x->∀ y ∈ b.toList.drop ib,lt y x = false):MI lt L0 (out ++ a.extract ia (ia + k)).toList (a.toList.drop (ia + k)) (b.toList.drop ib):=by
 rw [Array.toList_append,zhP]
 refine MI.takesA ?_ fun x mx y my=>?_
 ·rw [<- List.drop_drop,List.take_append_drop]
  exact m
 ·obtain ⟨j,h1,h2,e⟩:=zb5 mx
  exact h j x h1 h2 e y my
theorem zh5 (m:MI lt L0 out.toList (a.toList.drop ia) (b.toList.drop ib)) (h:∀ j y,ib <= j->j < ib + k->b.toList[j]? = some y->∀ x ∈ a.toList.drop ia,lt x y = false):MI lt L0 (out ++ b.extract ib (ib + k)).toList (a.toList.drop ia) (b.toList.drop (ib + k)):=by
 rw [Array.toList_append,zhP]
 refine MI.takesB ?_ fun x mx y my=>?_
 ·rw [<- List.drop_drop,List.take_append_drop]
  exact m
 ·obtain ⟨j,h1,h2,e⟩:=zb5 mx
  exact h j x h1 h2 e y my
theorem zfy (m:MI lt L0 out.toList (a.toList.drop ia) (b.toList.drop ib)) {x:Keyed} (hx:a.toList[ia]? = some x) (h:∀ y ∈ b.toList.drop ib,lt y x = false):MI lt L0 (out.push x).toList (a.toList.drop (ia + 1)) (b.toList.drop ib):=by
 rw [zcO hx] at m
 have:=m.takeA h
 simpa using this
theorem zjS (m:MI lt L0 out.toList (a.toList.drop ia) (b.toList.drop ib)) {y:Keyed} (hy:b.toList[ib]? = some y) (h:∀ x ∈ a.toList.drop ia,lt x y = false):MI lt L0 (out.push y).toList (a.toList.drop ia) (b.toList.drop (ib + 1)):=by
 rw [zcO hy] at m
 have:=m.takeB h
 simpa using this
end
theorem zar {a:Array Keyed} {i:Nat} {x:Keyed}:a[i]? = some x ↔ a.toList[i]? = some x:=by simp
theorem fin3 {prog:Program} {w:World} {A:Around} {E:Value->Shared->Prop} {s:Shared} {τ:Type} {P C:Prop} {_:Decidable P} {f g:StateT SortSt Sem τ} {Q':τ->SortSt->Prop} {st':SortSt} (hf:C->wpS (model prog w) A E s f Q' st') (hg:C->wpS (model prog w) A E s g Q' st') (h:C):wpS (model prog w) A E s (if P then f else g) Q' st':=by
 split
 ·exact hf h
 ·exact hg h
theorem zjc (O:LtOk prog w A E s kd D lt) {a b:Array Keyed} {Q:Array Keyed->SortSt->Prop} {st:SortSt} (hk:kindOf st = kd) (haD:∀ x ∈ a.toList,D x) (hbD:∀ x ∈ b.toList,D x) (ha:SrtL lt a.toList) (hb:SrtL lt b.toList) (ha1:1 <= a.size) (hb1:1 <= b.size)
  (h0:∀ y,b[0]? = some y->∀ x ∈ a.toList,lt x y = false) (hl:∀ x,a[a.size - 1]? = some x->∀ y ∈ b.toList,lt x y = false)
  (q:∀ (out:Array Keyed) st',MDone lt (a.toList ++ b.toList) out.toList->sameSt st st'->Q out st'):wpS (model prog w) A E s (zn7 a b) Q st:=by
 refine wpS_bind (wpS_lift (wpAny_rule ⟨rfl,?_⟩))
 obtain ⟨y0,ey0,ey0'⟩:=zaT (a:=b) (i:=0) (by omega)
 refine wpS_bind (zI ey0 ?_)
 dsimp only
 have m0:MI lt (a.toList ++ b.toList) [] a.toList b.toList:=⟨List.Perm.refl _,List.Pairwise.nil,(fun x m=>by cases m),ha,hb⟩
 have m1:MI lt (a.toList ++ b.toList) (#[y0]:Array Keyed).toList (a.toList.drop 0) (b.toList.drop 1):=by
  have e:b.toList = y0 :: b.toList.drop 1:=by have:=zcO ey0'; simpa using this
  have m2:MI lt (a.toList ++ b.toList) [] a.toList (y0 :: b.toList.drop 1):=by
   have:=m0
   conv at this=>arg 5; rw [e]
   exact this
  have:=m2.takeB (h0 y0 ey0)
  simpa using this
 by_cases c1:1 = b.size
 ·rw [if_pos (by simpa using c1)]
  exact wpS_pure (q _ _ (zdL c1 m1) sameSt.rfl')
 rw [if_neg (by simpa using c1)]
 by_cases c2:0 + 1 = a.size
 ·rw [if_pos (by simpa using c2)]
  exact wpS_pure (q _ _ (zed hl c2 m1) sameSt.rfl')
 rw [if_neg (by simpa using c2)]
 refine wpS_bind (wpS_get ?_)
 have tot:∀ {out:Array Keyed} {ia ib:Nat},MInv lt a b out ia ib->ia + ib < a.size + b.size:=fun h=>by have:=h.ha; have:=h.hb; omega
 refine wpS_bind (wpS_mono (wpS_forRange
  (I:=fun k c st'=>sameSt st st'/\∃ out ia ib mg,c = (none,out,ia,ib,mg)/\MInv lt a b out ia ib/\k < ia + ib)
  (Q:=fun c st'=>sameSt st st'/\∃ r rest,c = (some r,rest)/\MDone lt (a.toList ++ b.toList) r.toList) ?step ?fin ⟨sameSt.rfl',#[y0],0,1,_,rfl,⟨m1,by omega,by omega⟩,by omega⟩) ?post)
 case fin =>
  rintro c st' ⟨hst,out,ia,ib,mg,rfl,hm,hlt⟩
  have:=tot hm
  omega
 case post =>
  rintro c st' ⟨hst,r,rest,rfl,hd⟩
  dsimp only
  exact wpS_pure (q r st' hd hst)
 case step =>
  rintro k c st' _ hkt ⟨hst,out,ia,ib,mg,rfl,hm,hlt⟩
  dsimp only
  refine wpS_bind (wpS_mono (wpS_forRange
   (I:=fun j c st'=>sameSt st st'/\∃ out' ia' ib' ac bc,c = (none,out',ia',ib',ac,bc)/\MInv lt a b out' ia' ib'/\j + (ia + ib) <= ia' + ib')
   (Q:=fun c st'=>sameSt st st'/\((∃ r rest,c = (some r,rest)/\MDone lt (a.toList ++ b.toList) r.toList)\/∃ out' ia' ib' ac bc,c = (none,out',ia',ib',ac,bc)/\MInv lt a b out' ia' ib'/\ia + ib < ia' + ib')) ?step1 ?fin1 ⟨hst,out,ia,ib,0,0,rfl,hm,by omega⟩) ?post1)
  case fin1 =>
   rintro c st2 ⟨hst2,out',ia',ib',ac,bc,rfl,hm',hle⟩
   have:=tot hm'
   omega
  case step1 =>
   rintro j c st2 _ hj ⟨hst2,out',ia',ib',ac,bc,rfl,hm',hle⟩
   obtain ⟨y,ey,ey'⟩:=zaT (a:=b) (i:=ib') hm'.hb
   obtain ⟨x,ex,ex'⟩:=zaT (a:=a) (i:=ia') (by have:=hm'.ha; omega)
   have Dx:=haD x (List.mem_of_getElem? ex')
   have Dy:=hbD y (List.mem_of_getElem? ey')
   have hk2:kindOf st2 = kd:=hst2.1.trans hk
   dsimp only
   refine wpS_bind (zI ey (wpS_bind (zI ex (wpS_bind (O.ask y x st2 _ Dy Dx hk2 ?_)))))
   dsimp only
   cases hlt2:lt y x with
   | true =>
    have ms:=hm'.stepB O haD hbD ha ex' ey' hlt2
    simp only [if_true]
    refine wpS_bind (zI ey ?_)
    by_cases c3:ib' + 1 = b.size
    ·rw [if_pos (by simpa using c3)]
     exact wpS_pure ⟨hst2,.inl ⟨_,_,rfl,zdL c3 ms⟩⟩
    ·rw [if_neg (by simpa using c3)]
     have hm2:MInv lt a b (out'.push y) ia' (ib' + 1):=⟨ms,hm'.ha,by have:=hm'.hb; omega⟩
     by_cases c4:bc + 1 ≥ mg
     ·rw [if_pos c4]
      exact wpS_pure ⟨hst2,.inr ⟨_,_,_,_,_,rfl,hm2,by omega⟩⟩
     ·rw [if_neg c4]
      exact wpS_pure ⟨hst2,_,_,_,_,_,rfl,hm2,by omega⟩
   | false =>
    have ms:=hm'.stepA O haD hbD hb ex' ey' hlt2
    simp only [Bool.false_eq_true,if_false]
    refine wpS_bind (zI ex ?_)
    by_cases c3:ia' + 1 + 1 = a.size
    ·rw [if_pos (by simpa using c3)]
     exact wpS_pure ⟨hst2,.inl ⟨_,_,rfl,zed hl c3 ms⟩⟩
    ·rw [if_neg (by simpa using c3)]
     have hm2:MInv lt a b (out'.push x) (ia' + 1) ib':=⟨ms,by have:=hm'.ha; omega,hm'.hb⟩
     by_cases c4:ac + 1 ≥ mg
     ·rw [if_pos c4]
      exact wpS_pure ⟨hst2,.inr ⟨_,_,_,_,_,rfl,hm2,by omega⟩⟩
     ·rw [if_neg c4]
      exact wpS_pure ⟨hst2,_,_,_,_,_,rfl,hm2,by omega⟩
  case post1 =>
   rintro c st2 ⟨hst2,hc⟩
   rcases hc with ⟨r,rest,rfl,hd⟩ | ⟨out',ia',ib',ac,bc,rfl,hm',hle⟩
   ·dsimp only
    exact wpS_pure ⟨hst2,_,_,rfl,hd⟩
   ·dsimp only
    refine wpS_bind (wpS_lift (wpAny_rule ⟨rfl,?_⟩))
    refine wpS_bind (wpS_mono (wpS_forRange
     (I:=fun j c st'=>sameSt st st'/\∃ out2 ia2 ib2 mg2 ac2 bc2,c = (none,out2,ia2,ib2,mg2,ac2,bc2)/\MInv lt a b out2 ia2 ib2/\j + (ia' + ib') <= ia2 + ib2)
     (Q:=fun c st'=>sameSt st st'/\((∃ r rest,c = (some r,rest)/\MDone lt (a.toList ++ b.toList) r.toList)\/∃ out2 ia2 ib2 mg2 ac2 bc2,c = (none,out2,ia2,ib2,mg2,ac2,bc2)/\MInv lt a b out2 ia2 ib2/\ia' + ib' <= ia2 + ib2)) ?step2 ?fin2 ⟨hst2,out',ia',ib',_,_,_,rfl,hm',by omega⟩) ?post2)
    case fin2 =>
     rintro c st3 ⟨hst3,out2,ia2,ib2,mg2,ac2,bc2,rfl,hm2,hle2⟩
     have:=tot hm2
     omega
    case post2 =>
     rintro c st3 ⟨hst3,hc⟩
     rcases hc with ⟨r,rest,rfl,hd⟩ | ⟨out2,ia2,ib2,mg2,ac2,bc2,rfl,hm2,hle2⟩
     ·dsimp only
      exact wpS_pure ⟨hst3,_,_,rfl,hd⟩
     ·dsimp only
      refine wpS_bind (wpS_modify (wpS_pure ⟨⟨hst3.1,hst3.2.1,hst3.2.2.1,hst3.2.2.2⟩,out2,ia2,ib2,_,rfl,hm2,by omega⟩))
    case step2 =>
     rintro j c st3 _ hj ⟨hst3,out2,ia2,ib2,mg2,ac2,bc2,rfl,hm2,hle2⟩
     obtain ⟨y,ey,ey'⟩:=zaT (a:=b) (i:=ib2) hm2.hb
     have hia2:=hm2.ha
     have hib2:=hm2.hb
     have Dy:=hbD y (List.mem_of_getElem? ey')
     have aD:∀ j,j < a.size->∃ x,a[j]? = some x/\D x:=fun j hj=>by
      obtain ⟨x,e,e'⟩:=zaT (a:=a) hj
      exact ⟨x,e,haD x (List.mem_of_getElem? e')⟩
     have bD:∀ j,j < b.size->∃ x,b[j]? = some x/\D x:=fun j hj=>by
      obtain ⟨x,e,e'⟩:=zaT (a:=b) hj
      exact ⟨x,e,hbD x (List.mem_of_getElem? e')⟩
     -- what is told behind both ways of the first test
     dsimp only
     have fin2:∀ (P:Prop) (_:Decidable P) (f g:StateT SortSt Sem (ForInStep (Option (Array Keyed) × Array Keyed × Nat × Nat × Nat × Nat × Nat))) (Q':ForInStep (Option (Array Keyed) × Array Keyed × Nat × Nat × Nat × Nat × Nat)->SortSt->Prop) (st':SortSt),wpS (model prog w) A E s f Q' st'->wpS (model prog w) A E s g Q' st'->wpS (model prog w) A E s (if P then f else g) Q' st':=fun P _ f g Q' st' h1 h2=>by
      split
      ·exact h1
      ·exact h2
     refine fin3 (C:=?C3) ?f3 ?g3 ?h3
     case f3=>intro h; generalize mg2 - 1 = m0; revert m0; exact h
     case g3=>intro h; generalize mg2 = m0; revert m0; exact h
     intro m0
     all_goals
      refine wpS_bind (wpS_modify ?_)
      refine wpS_bind (zI ey ?_)
      refine wpS_bind (gal O (hst3.1.trans hk) Dy (fun j h1 h2=>aD j (by omega)) (fun i j x z h1 h2 h3 e1 e2=>zaX O ha haD h2 (zar.mp e1) (zar.mp e2)) (by omega) fun k1 hk1 g1 g2=>?_)
      dsimp only
      have hst4:sameSt st st3:=hst3
      -- behind the block of a
      have bl:MI lt (a.toList ++ b.toList) (out2 ++ a.extract ia2 (ia2 + k1)).toList (a.toList.drop (ia2 + k1)) (b.toList.drop ib2):=zml hm2.mi fun j x h1 h2 e z mz=>by
       have:=g1 j x h1 h2 (zar.mpr e)
       obtain ⟨j2,hj2,ez⟩:=zaJ mz
       have l1:lt y x = false:=by simpa [bey] using this
       exact O.tr x y z (haD x (List.mem_of_getElem? e)) Dy (hbD z (List.mem_of_getElem? ez)) l1 (zaX O hb hbD hj2 ey' ez)
      have gt:∀ x ∈ a.toList.drop (ia2 + k1),lt x y = false:=fun x mx=>by
       obtain ⟨j2,hj2,ex⟩:=zaJ mx
       have hlt3:=(List.getElem?_eq_some_iff.mp ex).1
       have:=g2 j2 x hj2 (by simp at hlt3; omega) (zar.mpr ex)
       have l1:lt y x = true:=by simpa [bey] using this
       exact O.asym y x Dy (haD x (List.mem_of_getElem? ex)) l1
      have ez0:k1 = 0->(out2 ++ a.extract ia2 (ia2 + k1)) = out2:=fun z=>by subst z; rw [ze2,Array.append_empty]
      -- from here on: outA,iaA
      have go:∀ (outA:Array Keyed) (iaA:Nat) (mgA acA:Nat),MI lt (a.toList ++ b.toList) outA.toList (a.toList.drop iaA) (b.toList.drop ib2)->(∀ x ∈ a.toList.drop iaA,lt x y = false)->ia2 <= iaA->iaA + 1 < a.size->True:=fun _ _ _ _ _ _ _ _=>trivial
      by_cases c5:k1 > 0
      ·rw [if_pos c5]
       by_cases c6:ia2 + k1 + 1 = a.size
       ·rw [if_pos (by simpa using c6)]
        exact wpS_pure ⟨hst4,.inl ⟨_,_,rfl,zed hl c6 bl⟩⟩
       rw [if_neg (by simpa using c6)]
       by_cases c7:ia2 + k1 = a.size
       ·rw [if_pos (by simpa using c7)]
        exact wpS_pure ⟨hst4,.inl ⟨_,_,rfl,zn1 c7 bl⟩⟩
       rw [if_neg (by simpa using c7)]
       refine wpS_bind (zI ey ?_)
       have mb:=zjS bl ey' gt
       by_cases d1:ib2 + 1 = b.size
       ·rw [if_pos (by simpa using d1)]
        exact wpS_pure ⟨hst4,.inl ⟨_,_,rfl,zdL d1 mb⟩⟩
       rw [if_neg (by simpa using d1)]
       obtain ⟨x,ex,ex'⟩:=zaT (a:=a) (i:=(ia2 + k1)) (by omega)
       have Dx:=haD x (List.mem_of_getElem? ex')
       refine wpS_bind (zI ex ?_)
       refine wpS_bind (gal O (hst3.1.trans hk) Dx (fun j h1 h2=>bD j (by omega)) (fun i j x z h1 h2 h3 e1 e2=>zaX O hb hbD h2 (zar.mp e1) (zar.mp e2)) (by omega) fun k2 hk2 f1 f2=>?_)
       dsimp only
       have bb:=zh5 (k:=k2) mb fun j z h1 h2 e x2 mx2=>by
        have:=f1 j z h1 h2 (zar.mpr e)
        obtain ⟨j2,hj2,ex2⟩:=zaJ mx2
        have Dz:=hbD z (List.mem_of_getElem? e)
        have l1:lt z x = true:=by simpa [bey] using this
        exact O.tr z x x2 Dz Dx (haD x2 (List.mem_of_getElem? ex2)) (O.asym z x Dz Dx l1) (zaX O ha haD hj2 ex' ex2)
       have gb:∀ z ∈ b.toList.drop (ib2 + 1 + k2),lt z x = false:=fun z mz=>by
        obtain ⟨j2,hj2,ez⟩:=zaJ mz
        have hlt3:=(List.getElem?_eq_some_iff.mp ez).1
        have:=f2 j2 z hj2 (by simp at hlt3; omega) (zar.mpr ez)
        simpa [bey] using this
       by_cases d2:k2 > 0
       ·rw [if_pos d2]
        by_cases d3:ib2 + 1 + k2 = b.size
        ·rw [if_pos (by simpa using d3)]
         exact wpS_pure ⟨hst4,.inl ⟨_,_,rfl,zdL d3 bb⟩⟩
        rw [if_neg (by simpa using d3)]
        refine wpS_bind (zI ex ?_)
        have mf:=zfy bb ex' gb
        by_cases d4:(ia2 + k1) + 1 + 1 = a.size
        ·rw [if_pos (by simpa using d4)]
         exact wpS_pure ⟨hst4,.inl ⟨_,_,rfl,zed hl d4 mf⟩⟩
        rw [if_neg (by simpa using d4)]
        refine fin2 _ _ _ _ _ _ ?_ ?_
        ·exact wpS_pure ⟨hst4,.inr ⟨_,_,_,_,_,_,rfl,⟨mf,by omega,by omega⟩,by omega⟩⟩
        ·exact wpS_pure ⟨hst4,_,_,_,_,_,_,rfl,⟨mf,by omega,by omega⟩,by omega⟩
       ·rw [if_neg d2]
        have k0':k2 = 0:=by omega
        subst k0'
        have ee:∀ o:Array Keyed,o ++ b.extract (ib2 + 1) (ib2 + 1 + 0) = o:=fun o=>by rw [ze2,Array.append_empty]
        rw [ee,Nat.add_zero] at bb
        rw [Nat.add_zero] at gb
        refine wpS_bind (zI ex ?_)
        have mf:=zfy bb ex' gb
        by_cases d4:(ia2 + k1) + 1 + 1 = a.size
        ·rw [if_pos (by simpa using d4)]
         exact wpS_pure ⟨hst4,.inl ⟨_,_,rfl,zed hl d4 mf⟩⟩
        rw [if_neg (by simpa using d4)]
        refine fin2 _ _ _ _ _ _ ?_ ?_
        ·exact wpS_pure ⟨hst4,.inr ⟨_,_,_,_,_,_,rfl,⟨mf,by omega,by omega⟩,by omega⟩⟩
        ·exact wpS_pure ⟨hst4,_,_,_,_,_,_,rfl,⟨mf,by omega,by omega⟩,by omega⟩
      ·rw [if_neg c5]
       have k0:k1 = 0:=by omega
       subst k0
       rw [ez0 rfl,Nat.add_zero] at bl
       rw [Nat.add_zero] at gt
       refine wpS_bind (zI ey ?_)
       have mb:=zjS bl ey' gt
       by_cases d1:ib2 + 1 = b.size
       ·rw [if_pos (by simpa using d1)]
        exact wpS_pure ⟨hst4,.inl ⟨_,_,rfl,zdL d1 mb⟩⟩
       rw [if_neg (by simpa using d1)]
       obtain ⟨x,ex,ex'⟩:=zaT (a:=a) (i:=ia2) (by omega)
       have Dx:=haD x (List.mem_of_getElem? ex')
       refine wpS_bind (zI ex ?_)
       refine wpS_bind (gal O (hst3.1.trans hk) Dx (fun j h1 h2=>bD j (by omega)) (fun i j x z h1 h2 h3 e1 e2=>zaX O hb hbD h2 (zar.mp e1) (zar.mp e2)) (by omega) fun k2 hk2 f1 f2=>?_)
       dsimp only
       have bb:=zh5 (k:=k2) mb fun j z h1 h2 e x2 mx2=>by
        have:=f1 j z h1 h2 (zar.mpr e)
        obtain ⟨j2,hj2,ex2⟩:=zaJ mx2
        have Dz:=hbD z (List.mem_of_getElem? e)
        have l1:lt z x = true:=by simpa [bey] using this
        exact O.tr z x x2 Dz Dx (haD x2 (List.mem_of_getElem? ex2)) (O.asym z x Dz Dx l1) (zaX O ha haD hj2 ex' ex2)
       have gb:∀ z ∈ b.toList.drop (ib2 + 1 + k2),lt z x = false:=fun z mz=>by
        obtain ⟨j2,hj2,ez⟩:=zaJ mz
        have hlt3:=(List.getElem?_eq_some_iff.mp ez).1
        have:=f2 j2 z hj2 (by simp at hlt3; omega) (zar.mpr ez)
        simpa [bey] using this
       by_cases d2:k2 > 0
       ·rw [if_pos d2]
        by_cases d3:ib2 + 1 + k2 = b.size
        ·rw [if_pos (by simpa using d3)]
         exact wpS_pure ⟨hst4,.inl ⟨_,_,rfl,zdL d3 bb⟩⟩
        rw [if_neg (by simpa using d3)]
        refine wpS_bind (zI ex ?_)
        have mf:=zfy bb ex' gb
        by_cases d4:ia2 + 1 + 1 = a.size
        ·rw [if_pos (by simpa using d4)]
         exact wpS_pure ⟨hst4,.inl ⟨_,_,rfl,zed hl d4 mf⟩⟩
        rw [if_neg (by simpa using d4)]
        refine fin2 _ _ _ _ _ _ ?_ ?_
        ·exact wpS_pure ⟨hst4,.inr ⟨_,_,_,_,_,_,rfl,⟨mf,by omega,by omega⟩,by omega⟩⟩
        ·exact wpS_pure ⟨hst4,_,_,_,_,_,_,rfl,⟨mf,by omega,by omega⟩,by omega⟩
       ·rw [if_neg d2]
        have k0':k2 = 0:=by omega
        subst k0'
        have ee:∀ o:Array Keyed,o ++ b.extract (ib2 + 1) (ib2 + 1 + 0) = o:=fun o=>by rw [ze2,Array.append_empty]
        rw [ee,Nat.add_zero] at bb
        rw [Nat.add_zero] at gb
        refine wpS_bind (zI ex ?_)
        have mf:=zfy bb ex' gb
        by_cases d4:ia2 + 1 + 1 = a.size
        ·rw [if_pos (by simpa using d4)]
         exact wpS_pure ⟨hst4,.inl ⟨_,_,rfl,zed hl d4 mf⟩⟩
        rw [if_neg (by simpa using d4)]
        refine fin2 _ _ _ _ _ _ ?_ ?_
        ·exact wpS_pure ⟨hst4,.inr ⟨_,_,_,_,_,_,rfl,⟨mf,by omega,by omega⟩,by omega⟩⟩
        ·exact wpS_pure ⟨hst4,_,_,_,_,_,_,rfl,⟨mf,by omega,by omega⟩,by omega⟩
def flt (lt:Keyed->Keyed->Bool):Keyed->Keyed->Bool:=fun x y=>lt y x
theorem MDone.rev {L0 l:List Keyed} (h:MDone (flt lt) L0 l):MDone lt L0 l.reverse:=by
 refine ⟨(List.reverse_perm l).trans h.1,?_⟩
 unfold SrtL
 rw [List.pairwise_reverse]
 exact h.2
theorem zg9 {l:List Keyed} {i:Nat} {x:Keyed} (h:l[i]? = some x):(l.take (i + 1)).reverse = x :: (l.take i).reverse:=by
 rw [List.take_add_one,h]
 simp
theorem zaI {l:List Keyed} {i:Nat} {y:Keyed} (h:y ∈ (l.take i).reverse):∃ j,j < i/\l[j]? = some y:=by
 obtain ⟨j,hj⟩:=List.mem_iff_getElem?.mp (List.mem_reverse.mp h)
 rw [List.getElem?_take] at hj
 split at hj
 ·exact ⟨j,by assumption,hj⟩
 ·cases hj
theorem zcN (a:Array Keyed) (n:Nat):(a.extract 0 n).toList = a.toList.take n:=by
 rw [Array.toList_extract,List.extract_eq_take_drop]
 simp
theorem zlG {l:List Keyed} (h:SrtL lt l) (n:Nat):SrtL (flt lt) (l.take n).reverse:=by
 unfold SrtL
 rw [List.pairwise_reverse]
 exact List.Pairwise.sublist (List.take_sublist n l) h
section
variable {a b out:Array Keyed} {na nb k:Nat} {L0:List Keyed}
theorem zhp (m:MI (flt lt) L0 out.toList (a.toList.take (na + 1)).reverse (b.toList.take nb).reverse) {x:Keyed} (hx:a.toList[na]? = some x) (h:∀ y ∈ (b.toList.take nb).reverse,lt x y = false):MI (flt lt) L0 (out.push x).toList (a.toList.take na).reverse (b.toList.take nb).reverse:=by
 rw [zg9 hx] at m
 have:=m.takeA h
 simpa using this
theorem zks (m:MI (flt lt) L0 out.toList (a.toList.take na).reverse (b.toList.take (nb + 1)).reverse) {y:Keyed} (hy:b.toList[nb]? = some y) (h:∀ x ∈ (a.toList.take na).reverse,lt y x = false):MI (flt lt) L0 (out.push y).toList (a.toList.take na).reverse (b.toList.take nb).reverse:=by
 rw [zg9 hy] at m
 have:=m.takeB h
 simpa using this
theorem zeK {n:Nat} (hn:n = na + 1) (m:MI (flt lt) L0 out.toList (a.toList.take n).reverse (b.toList.take nb).reverse) {x:Keyed} (hx:a.toList[na]? = some x) (h:∀ y ∈ (b.toList.take nb).reverse,lt x y = false):MI (flt lt) L0 (out.push x).toList (a.toList.take na).reverse (b.toList.take nb).reverse:=by
 subst hn
 exact zhp m hx h
theorem zin {n:Nat} (hn:n = nb + 1) (m:MI (flt lt) L0 out.toList (a.toList.take na).reverse (b.toList.take n).reverse) {y:Keyed} (hy:b.toList[nb]? = some y) (h:∀ x ∈ (a.toList.take na).reverse,lt y x = false):MI (flt lt) L0 (out.push y).toList (a.toList.take na).reverse (b.toList.take nb).reverse:=by
 subst hn
 exact zks m hy h
theorem zgR {l:List Keyed} {i n:Nat} (h:i <= n):(l.take n).reverse = ((l.drop i).take (n - i)).reverse ++ (l.take i).reverse:=by
 rw [<- List.reverse_append]
 congr 1
 have:=List.take_add (l:=l) (i:=i) (j:=n - i)
 rw [show i + (n - i) = n by omega] at this
 exact this
theorem zl3 (a:Array Keyed) {i n:Nat} (h:i <= n):(a.extract i n).reverse.toList = ((a.toList.drop i).take (n - i)).reverse:=by
 rw [Array.toList_reverse,Array.toList_extract,List.extract_eq_take_drop]
theorem zlZ (m:MI (flt lt) L0 out.toList (a.toList.take na).reverse (b.toList.take nb).reverse) (hk:k <= na) (h:∀ j x,k <= j->j < na->a.toList[j]? = some x->∀ y ∈ (b.toList.take nb).reverse,lt x y = false):MI (flt lt) L0 (out ++ (a.extract k na).reverse).toList (a.toList.take k).reverse (b.toList.take nb).reverse:=by
 rw [Array.toList_append,zl3 a hk]
 rw [zgR hk] at m
 refine MI.takesA m fun x mx y my=>?_
 obtain ⟨j,h1,h2,e⟩:=zb5 (List.mem_reverse.mp mx)
 exact h j x h1 (by omega) e y my
theorem ziO (m:MI (flt lt) L0 out.toList (a.toList.take na).reverse (b.toList.take nb).reverse) (hk:k <= nb) (h:∀ j y,k <= j->j < nb->b.toList[j]? = some y->∀ x ∈ (a.toList.take na).reverse,lt y x = false):MI (flt lt) L0 (out ++ (b.extract k nb).reverse).toList (a.toList.take na).reverse (b.toList.take k).reverse:=by
 rw [Array.toList_append,zl3 b hk]
 rw [zgR hk] at m
 refine MI.takesB m fun x mx y my=>?_
 obtain ⟨j,h1,h2,e⟩:=zb5 (List.mem_reverse.mp mx)
 exact h j x h1 (by omega) e y my
theorem zcS (h0:na = 0) (m:MI (flt lt) L0 out.toList (a.toList.take na).reverse (b.toList.take nb).reverse):MDone lt L0 (a.extract 0 na ++ b.extract 0 nb ++ out.reverse).toList:=by
 subst h0
 have h2:MI (flt lt) L0 (out.toList ++ (b.toList.take nb).reverse) [] []:=MI.takesB (B:=[]) (by simpa using m) (fun y my x mx=>by cases mx)
 have:=h2.doneA.rev
 rw [Array.toList_append,Array.toList_append,zcN,zcN,Array.toList_reverse]
 simpa using this
theorem zkp (h0:nb = 0) (m:MI (flt lt) L0 out.toList (a.toList.take na).reverse (b.toList.take nb).reverse):MDone lt L0 (a.extract 0 na ++ b.extract 0 nb ++ out.reverse).toList:=by
 subst h0
 have h1:MI (flt lt) L0 out.toList (a.toList.take na).reverse []:=by simpa using m
 have:=h1.doneA.rev
 rw [Array.toList_append,Array.toList_append,zcN,zcN,Array.toList_reverse]
 simpa using this
theorem zdP (hf:∀ y,b[0]? = some y->∀ x ∈ a.toList,lt x y = false) (h1:nb = 1) (hb1:1 <= b.size) (m:MI (flt lt) L0 out.toList (a.toList.take na).reverse (b.toList.take nb).reverse):MDone lt L0 (b.extract 0 nb ++ a.extract 0 na ++ out.reverse).toList:=by
 subst h1
 obtain ⟨y,e1,e2⟩:=zaT (a:=b) (i:=0) (by omega)
 have ed:(b.toList.take (0 + 1)).reverse = [y]:=by rw [zg9 e2]; simp
 rw [show (1:Nat) = 0 + 1 from rfl,ed] at m
 have h2:MI (flt lt) L0 (out.toList ++ (a.toList.take na).reverse) [] [y]:=MI.takesA (A:=[]) (by simpa using m) fun x mx z mz=>by
  rw [List.mem_singleton.mp mz]
  exact hf y e1 x (List.mem_of_mem_take (List.mem_reverse.mp mx))
 have h3:MI (flt lt) L0 (out.toList ++ (a.toList.take na).reverse ++ [y]) [] []:=MI.takesB (B:=[]) (by simpa using h2) (fun y my x mx=>by cases mx)
 have:=h3.doneA.rev
 have ee:b.toList.take 1 = [y]:=by have:=congrArg List.reverse ed; simpa using this
 rw [Array.toList_append,Array.toList_append,zcN,zcN,Array.toList_reverse,ee]
 simpa using this
end
structure HInv (lt:Keyed->Keyed->Bool) (a b out:Array Keyed) (na nb:Nat):Prop where
 mi:MI (flt lt) (a.toList ++ b.toList) out.toList (a.toList.take na).reverse (b.toList.take nb).reverse
 a0:0 < na
 a1:na <= a.size
 b0:1 < nb
 b1:nb <= b.size
theorem zjm (O:LtOk prog w A E s kd D lt) {a b:Array Keyed} {Q:Array Keyed->SortSt->Prop} {st:SortSt} (hk:kindOf st = kd) (haD:∀ x ∈ a.toList,D x) (hbD:∀ x ∈ b.toList,D x) (ha:SrtL lt a.toList) (hb:SrtL lt b.toList) (ha1:1 <= a.size) (hb1:1 <= b.size)
  (h0:∀ y,b[0]? = some y->∀ x ∈ a.toList,lt x y = false) (hl:∀ x,a[a.size - 1]? = some x->∀ y ∈ b.toList,lt x y = false)
  (q:∀ (out:Array Keyed) st',MDone lt (a.toList ++ b.toList) out.toList->sameSt st st'->Q out st'):wpS (model prog w) A E s (zoa a b) Q st:=by
 refine wpS_bind (wpS_lift (wpAny_rule ⟨rfl,?_⟩))
 obtain ⟨x0,ex0,ex0'⟩:=zaT (a:=a) (i:=a.size - 1) (by omega)
 refine wpS_bind (zI ex0 ?_)
 dsimp only
 have fin2:∀ {τ:Type} (P:Prop) (_:Decidable P) (f g:StateT SortSt Sem τ) (Q':τ->SortSt->Prop) (st':SortSt),wpS (model prog w) A E s f Q' st'->wpS (model prog w) A E s g Q' st'->wpS (model prog w) A E s (if P then f else g) Q' st':=fun P _ f g Q' st' h1 h2=>by
  split
  ·exact h1
  ·exact h2
 have ta:a.toList.take a.size = a.toList:=List.take_of_length_le (by simp)
 have tb:b.toList.take b.size = b.toList:=List.take_of_length_le (by simp)
 have m0:MI (flt lt) (a.toList ++ b.toList) (#[]:Array Keyed).toList (a.toList.take a.size).reverse (b.toList.take b.size).reverse:=by
  refine ⟨?_,List.Pairwise.nil,(fun x m=>by cases m),zlG ha _,zlG hb _⟩
  rw [ta,tb]
  exact (List.reverse_perm _).append (List.reverse_perm _)
 have m1:MI (flt lt) (a.toList ++ b.toList) (#[x0]:Array Keyed).toList (a.toList.take (a.size - 1)).reverse (b.toList.take b.size).reverse:=by
  have m2:=m0
  rw [show a.size = a.size - 1 + 1 by omega] at m2
  have:=zhp m2 ex0' fun y my=>hl x0 ex0 y (List.mem_of_mem_take (List.mem_reverse.mp my))
  simpa using this
 by_cases c1:a.size - 1 = 0
 ·rw [if_pos (by simpa using c1)]
  exact wpS_pure (q _ _ (zcS c1 m1) sameSt.rfl')
 rw [if_neg (by simpa using c1)]
 by_cases c2:b.size = 1
 ·rw [if_pos (by simpa using c2)]
  exact wpS_pure (q _ _ (zdP h0 c2 hb1 m1) sameSt.rfl')
 rw [if_neg (by simpa using c2)]
 refine wpS_bind (wpS_get ?_)
 refine wpS_bind (wpS_mono (wpS_forRange (a:=0)
  (I:=fun k c st'=>sameSt st st'/\∃ out na nb mg,c = (none,na,nb,out,mg)/\HInv lt a b out na nb/\na + nb + k < a.size + b.size)
  (Q:=fun c st'=>sameSt st st'/\∃ (r:Array Keyed),∃ rest,c = (some r,rest)/\MDone lt (a.toList ++ b.toList) r.toList) ?step ?fin ⟨sameSt.rfl',#[x0],a.size - 1,b.size,_,rfl,⟨m1,by omega,by omega,by omega,by omega⟩,by omega⟩) ?post)
 case fin =>
  rintro c st' ⟨hst,out,na,nb,mg,rfl,hm,hlt⟩
  omega
 case post =>
  rintro c st' ⟨hst,r,rest,rfl,hd⟩
  dsimp only
  exact wpS_pure (q r st' hd hst)
 case step =>
  rintro k c st' _ hkt ⟨hst,out,na,nb,mg,rfl,hm,hlt⟩
  dsimp only
  refine wpS_bind (wpS_mono (wpS_forRange (a:=0)
   (I:=fun j c st'=>sameSt st st'/\∃ out' na' nb' ac bc,c = (none,na',nb',out',ac,bc)/\HInv lt a b out' na' nb'/\na' + nb' + j <= na + nb)
   (Q:=fun c st'=>sameSt st st'/\((∃ (r:Array Keyed),∃ rest,c = (some r,rest)/\MDone lt (a.toList ++ b.toList) r.toList)\/∃ out' na' nb' ac bc,c = (none,na',nb',out',ac,bc)/\HInv lt a b out' na' nb'/\na' + nb' < na + nb)) ?step1 ?fin1 ⟨hst,out,na,nb,0,0,rfl,hm,by omega⟩) ?post1)
  case fin1 =>
   rintro c st2 ⟨hst2,out',na',nb',ac,bc,rfl,hm',hle⟩
   have:=hm'.a0
   omega
  case step1 =>
   rintro j c st2 _ hj ⟨hst2,out',na',nb',ac,bc,rfl,hm',hle⟩
   have z1:=hm'.a0
   have z2:=hm'.a1
   have z3:=hm'.b0
   have z4:=hm'.b1
   obtain ⟨y,ey,ey'⟩:=zaT (a:=b) (i:=nb' - 1) (by omega)
   obtain ⟨x,ex,ex'⟩:=zaT (a:=a) (i:=na' - 1) (by omega)
   have Dx:=haD x (List.mem_of_getElem? ex')
   have Dy:=hbD y (List.mem_of_getElem? ey')
   have hk2:kindOf st2 = kd:=hst2.1.trans hk
   have mm:=hm'.mi
   dsimp only
   refine wpS_bind (zI ey (wpS_bind (zI ex (wpS_bind (O.ask y x st2 _ Dy Dx hk2 ?_)))))
   dsimp only
   cases hlt2:lt y x with
   | true =>
    have ms:MI (flt lt) (a.toList ++ b.toList) (out'.push x).toList (a.toList.take (na' - 1)).reverse (b.toList.take nb').reverse:=by
     rw [show na' = na' - 1 + 1 by omega] at mm
     exact zhp mm ex' fun z mz=>by
      obtain ⟨j2,hj2,ez⟩:=zaI mz
      exact O.tr z y x (hbD z (List.mem_of_getElem? ez)) Dy Dx (zaX O hb hbD (by omega) ez ey') (O.asym y x Dy Dx hlt2)
    simp only [if_true]
    refine wpS_bind (zI ex ?_)
    by_cases c3:na' - 1 = 0
    ·rw [if_pos (by simpa using c3)]
     exact wpS_pure ⟨hst2,.inl ⟨_,_,rfl,zcS c3 ms⟩⟩
    ·rw [if_neg (by simpa using c3)]
     have hm2:HInv lt a b (out'.push x) (na' - 1) nb':=⟨ms,by omega,by omega,z3,z4⟩
     refine fin2 _ _ _ _ _ _ ?_ ?_
     ·exact wpS_pure ⟨hst2,.inr ⟨_,_,_,_,_,rfl,hm2,by omega⟩⟩
     ·exact wpS_pure ⟨hst2,_,_,_,_,_,rfl,hm2,by omega⟩
   | false =>
    have ms:MI (flt lt) (a.toList ++ b.toList) (out'.push y).toList (a.toList.take na').reverse (b.toList.take (nb' - 1)).reverse:=by
     rw [show nb' = nb' - 1 + 1 by omega] at mm
     exact zks mm ey' fun z mz=>by
      obtain ⟨j2,hj2,ez⟩:=zaI mz
      exact O.tr z x y (haD z (List.mem_of_getElem? ez)) Dx Dy (zaX O ha haD (by omega) ez ex') hlt2
    simp only [Bool.false_eq_true,if_false]
    refine wpS_bind (zI ey ?_)
    by_cases c3:nb' - 1 = 1
    ·rw [if_pos (by simpa using c3)]
     exact wpS_pure ⟨hst2,.inl ⟨_,_,rfl,zdP h0 c3 hb1 ms⟩⟩
    ·rw [if_neg (by simpa using c3)]
     have hm2:HInv lt a b (out'.push y) na' (nb' - 1):=⟨ms,z1,z2,by omega,by omega⟩
     refine fin2 _ _ _ _ _ _ ?_ ?_
     ·exact wpS_pure ⟨hst2,.inr ⟨_,_,_,_,_,rfl,hm2,by omega⟩⟩
     ·exact wpS_pure ⟨hst2,_,_,_,_,_,rfl,hm2,by omega⟩
  case post1 =>
   rintro c st2 ⟨hst2,hc⟩
   rcases hc with ⟨r,rest,rfl,hd⟩ | ⟨out',na',nb',ac,bc,rfl,hm',hle⟩
   ·dsimp only
    exact wpS_pure ⟨hst2,_,_,rfl,hd⟩
   ·dsimp only
    refine wpS_bind (wpS_lift (wpAny_rule ⟨rfl,?_⟩))
    refine wpS_bind (wpS_mono (wpS_forRange (a:=0)
     (I:=fun j c st'=>sameSt st st'/\∃ out2 na2 nb2 mg2 ac2 bc2,c = (none,na2,nb2,out2,mg2,ac2,bc2)/\HInv lt a b out2 na2 nb2/\na2 + nb2 + j <= na' + nb')
     (Q:=fun c st'=>sameSt st st'/\((∃ (r:Array Keyed),∃ rest,c = (some r,rest)/\MDone lt (a.toList ++ b.toList) r.toList)\/∃ out2 na2 nb2 mg2 ac2 bc2,c = (none,na2,nb2,out2,mg2,ac2,bc2)/\HInv lt a b out2 na2 nb2/\na2 + nb2 <= na' + nb')) ?step2 ?fin2 ⟨hst2,out',na',nb',_,_,_,rfl,hm',by omega⟩) ?post2)
    case fin2 =>
     rintro c st3 ⟨hst3,out2,na2,nb2,mg2,ac2,bc2,rfl,hm2,hle2⟩
     have:=hm2.a0
     have:=hm'.a1
     have:=hm'.b1
     omega
    case post2 =>
     rintro c st3 ⟨hst3,hc⟩
     rcases hc with ⟨r,rest,rfl,hd⟩ | ⟨out2,na2,nb2,mg2,ac2,bc2,rfl,hm2,hle2⟩
     ·dsimp only
      exact wpS_pure ⟨hst3,_,_,rfl,hd⟩
     ·dsimp only
      refine wpS_bind (wpS_modify (wpS_pure ⟨⟨hst3.1,hst3.2.1,hst3.2.2.1,hst3.2.2.2⟩,out2,na2,nb2,_,rfl,hm2,by omega⟩))
    case step2 =>
     rintro j c st3 _ hj ⟨hst3,out2,na2,nb2,mg2,ac2,bc2,rfl,hm2,hle2⟩
     have z1:=hm2.a0
     have z2:=hm2.a1
     have z3:=hm2.b0
     have z4:=hm2.b1
     obtain ⟨y,ey,ey'⟩:=zaT (a:=b) (i:=nb2 - 1) (by omega)
     have Dy:=hbD y (List.mem_of_getElem? ey')
     have aD:∀ j,j < a.size->∃ x,a[j]? = some x/\D x:=fun j hj=>by
      obtain ⟨x,e,e'⟩:=zaT (a:=a) hj
      exact ⟨x,e,haD x (List.mem_of_getElem? e')⟩
     have bD:∀ j,j < b.size->∃ x,b[j]? = some x/\D x:=fun j hj=>by
      obtain ⟨x,e,e'⟩:=zaT (a:=b) hj
      exact ⟨x,e,hbD x (List.mem_of_getElem? e')⟩
     dsimp only
     refine fin3 (C:=?C3) ?f3 ?g3 ?h3
     case f3=>intro h; generalize mg2 - 1 = m0; revert m0; exact h
     case g3=>intro h; generalize mg2 = m0; revert m0; exact h
     intro m0
     all_goals
      refine wpS_bind (wpS_modify ?_)
      refine wpS_bind (zI ey ?_)
      refine wpS_bind (gal O (hst3.1.trans hk) Dy (fun j h1 h2=>aD j (by omega)) (fun i j x z h1 h2 h3 e1 e2=>zaX O ha haD h2 (zar.mp e1) (zar.mp e2)) (by omega) fun k1 hk1 g1 g2=>?_)
      dsimp only
      have hst4:sameSt st st3:=hst3
      have bl:MI (flt lt) (a.toList ++ b.toList) (out2 ++ (a.extract k1 na2).reverse).toList (a.toList.take k1).reverse (b.toList.take nb2).reverse:=zlZ hm2.mi hk1 fun j x h1 h2 e z mz=>by
       have:=g2 j x (by omega) (by omega) (zar.mpr e)
       obtain ⟨j2,hj2,ez⟩:=zaI mz
       have Dx:=haD x (List.mem_of_getElem? e)
       have l1:lt y x = true:=by simpa [bey] using this
       exact O.tr z y x (hbD z (List.mem_of_getElem? ez)) Dy Dx (zaX O hb hbD (by omega) ez ey') (O.asym y x Dy Dx l1)
      have gt:∀ x ∈ (a.toList.take k1).reverse,lt y x = false:=fun x mx=>by
       obtain ⟨j2,hj2,ex⟩:=zaI mx
       have:=g1 j2 x (by omega) (by omega) (zar.mpr ex)
       simpa [bey] using this
      by_cases c5:na2 - k1 > 0
      ·rw [if_pos c5]
       by_cases c6:k1 = 0
       ·rw [if_pos (by simpa using c6)]
        exact wpS_pure ⟨hst4,.inl ⟨_,_,rfl,zcS c6 bl⟩⟩
       rw [if_neg (by simpa using c6)]
       refine wpS_bind (zI ey ?_)
       have mb:MI (flt lt) (a.toList ++ b.toList) ((out2 ++ (a.extract k1 na2).reverse).push y).toList (a.toList.take k1).reverse (b.toList.take (nb2 - 1)).reverse:=zin (by omega) bl ey' gt
       by_cases d1:nb2 - 1 = 1
       ·rw [if_pos (by simpa using d1)]
        exact wpS_pure ⟨hst4,.inl ⟨_,_,rfl,zdP h0 d1 hb1 mb⟩⟩
       rw [if_neg (by simpa using d1)]
       obtain ⟨x,ex,ex'⟩:=zaT (a:=a) (i:=k1 - 1) (by omega)
       have Dx:=haD x (List.mem_of_getElem? ex')
       refine wpS_bind (zI ex ?_)
       refine wpS_bind (gal O (hst3.1.trans hk) Dx (fun j h1 h2=>bD j (by omega)) (fun i j x z h1 h2 h3 e1 e2=>zaX O hb hbD h2 (zar.mp e1) (zar.mp e2)) (by omega) fun k2 hk2 f1 f2=>?_)
       dsimp only
       have bb:=ziO (k:=k2) mb hk2 fun j z h1 h2 e x2 mx2=>by
        have:=f2 j z (by omega) (by omega) (zar.mpr e)
        obtain ⟨j2,hj2,ex2⟩:=zaI mx2
        have Dz:=hbD z (List.mem_of_getElem? e)
        have l1:lt z x = false:=by simpa [bey] using this
        exact O.tr x2 x z (haD x2 (List.mem_of_getElem? ex2)) Dx Dz (zaX O ha haD (by omega) ex2 ex') l1
       have gb:∀ z ∈ (b.toList.take k2).reverse,lt x z = false:=fun z mz=>by
        obtain ⟨j2,hj2,ez⟩:=zaI mz
        have:=f1 j2 z (by omega) (by omega) (zar.mpr ez)
        have l1:lt z x = true:=by simpa [bey] using this
        exact O.asym z x (hbD z (List.mem_of_getElem? ez)) Dx l1
       by_cases d2:nb2 - 1 - k2 > 0
       ·rw [if_pos d2]
        by_cases d3:k2 = 1
        ·rw [if_pos (by simpa using d3)]
         exact wpS_pure ⟨hst4,.inl ⟨_,_,rfl,zdP h0 d3 hb1 bb⟩⟩
        rw [if_neg (by simpa using d3)]
        by_cases d5:k2 = 0
        ·rw [if_pos (by simpa using d5)]
         exact wpS_pure ⟨hst4,.inl ⟨_,_,rfl,zkp d5 bb⟩⟩
        rw [if_neg (by simpa using d5)]
        refine wpS_bind (zI ex ?_)
        have mf:MI (flt lt) (a.toList ++ b.toList) (((out2 ++ (a.extract k1 na2).reverse).push y ++ (b.extract k2 (nb2 - 1)).reverse).push x).toList (a.toList.take (k1 - 1)).reverse (b.toList.take k2).reverse:=zeK (by omega) bb ex' gb
        by_cases d4:k1 - 1 = 0
        ·rw [if_pos (by simpa using d4)]
         exact wpS_pure ⟨hst4,.inl ⟨_,_,rfl,zcS d4 mf⟩⟩
        rw [if_neg (by simpa using d4)]
        refine fin2 _ _ _ _ _ _ ?_ ?_
        ·exact wpS_pure ⟨hst4,.inr ⟨_,_,_,_,_,_,rfl,⟨mf,by omega,by omega,by omega,by omega⟩,by omega⟩⟩
        ·exact wpS_pure ⟨hst4,_,_,_,_,_,_,rfl,⟨mf,by omega,by omega,by omega,by omega⟩,by omega⟩
       ·rw [if_neg d2]
        have k0':k2 = nb2 - 1:=by omega
        subst k0'
        have ee:∀ o:Array Keyed,o ++ (b.extract (nb2 - 1) (nb2 - 1)).reverse = o:=fun o=>by
         have:b.extract (nb2 - 1) (nb2 - 1 + 0) = #[]:=ze2 b _
         rw [Nat.add_zero] at this
         rw [this]
         simp
        rw [ee] at bb
        refine wpS_bind (zI ex ?_)
        have mf:MI (flt lt) (a.toList ++ b.toList) (((out2 ++ (a.extract k1 na2).reverse).push y).push x).toList (a.toList.take (k1 - 1)).reverse (b.toList.take (nb2 - 1)).reverse:=zeK (by omega) bb ex' gb
        by_cases d4:k1 - 1 = 0
        ·rw [if_pos (by simpa using d4)]
         exact wpS_pure ⟨hst4,.inl ⟨_,_,rfl,zcS d4 mf⟩⟩
        rw [if_neg (by simpa using d4)]
        refine fin2 _ _ _ _ _ _ ?_ ?_
        ·exact wpS_pure ⟨hst4,.inr ⟨_,_,_,_,_,_,rfl,⟨mf,by omega,by omega,by omega,by omega⟩,by omega⟩⟩
        ·exact wpS_pure ⟨hst4,_,_,_,_,_,_,rfl,⟨mf,by omega,by omega,by omega,by omega⟩,by omega⟩
      ·rw [if_neg c5]
       have k0:k1 = na2:=by omega
       subst k0
       have ez0:∀ o:Array Keyed,o ++ (a.extract k1 k1).reverse = o:=fun o=>by
        have:a.extract k1 (k1 + 0) = #[]:=ze2 a k1
        rw [Nat.add_zero] at this
        rw [this]
        simp
       rw [ez0] at bl
       refine wpS_bind (zI ey ?_)
       have mb:MI (flt lt) (a.toList ++ b.toList) (out2.push y).toList (a.toList.take k1).reverse (b.toList.take (nb2 - 1)).reverse:=zin (by omega) bl ey' gt
       by_cases d1:nb2 - 1 = 1
       ·rw [if_pos (by simpa using d1)]
        exact wpS_pure ⟨hst4,.inl ⟨_,_,rfl,zdP h0 d1 hb1 mb⟩⟩
       rw [if_neg (by simpa using d1)]
       obtain ⟨x,ex,ex'⟩:=zaT (a:=a) (i:=k1 - 1) (by omega)
       have Dx:=haD x (List.mem_of_getElem? ex')
       refine wpS_bind (zI ex ?_)
       refine wpS_bind (gal O (hst3.1.trans hk) Dx (fun j h1 h2=>bD j (by omega)) (fun i j x z h1 h2 h3 e1 e2=>zaX O hb hbD h2 (zar.mp e1) (zar.mp e2)) (by omega) fun k2 hk2 f1 f2=>?_)
       dsimp only
       have bb:=ziO (k:=k2) mb hk2 fun j z h1 h2 e x2 mx2=>by
        have:=f2 j z (by omega) (by omega) (zar.mpr e)
        obtain ⟨j2,hj2,ex2⟩:=zaI mx2
        have Dz:=hbD z (List.mem_of_getElem? e)
        have l1:lt z x = false:=by simpa [bey] using this
        exact O.tr x2 x z (haD x2 (List.mem_of_getElem? ex2)) Dx Dz (zaX O ha haD (by omega) ex2 ex') l1
       have gb:∀ z ∈ (b.toList.take k2).reverse,lt x z = false:=fun z mz=>by
        obtain ⟨j2,hj2,ez⟩:=zaI mz
        have:=f1 j2 z (by omega) (by omega) (zar.mpr ez)
        have l1:lt z x = true:=by simpa [bey] using this
        exact O.asym z x (hbD z (List.mem_of_getElem? ez)) Dx l1
       by_cases d2:nb2 - 1 - k2 > 0
       ·rw [if_pos d2]
        by_cases d3:k2 = 1
        ·rw [if_pos (by simpa using d3)]
         exact wpS_pure ⟨hst4,.inl ⟨_,_,rfl,zdP h0 d3 hb1 bb⟩⟩
        rw [if_neg (by simpa using d3)]
        by_cases d5:k2 = 0
        ·rw [if_pos (by simpa using d5)]
         exact wpS_pure ⟨hst4,.inl ⟨_,_,rfl,zkp d5 bb⟩⟩
        rw [if_neg (by simpa using d5)]
        refine wpS_bind (zI ex ?_)
        have mf:MI (flt lt) (a.toList ++ b.toList) ((out2.push y ++ (b.extract k2 (nb2 - 1)).reverse).push x).toList (a.toList.take (k1 - 1)).reverse (b.toList.take k2).reverse:=zeK (by omega) bb ex' gb
        by_cases d4:k1 - 1 = 0
        ·rw [if_pos (by simpa using d4)]
         exact wpS_pure ⟨hst4,.inl ⟨_,_,rfl,zcS d4 mf⟩⟩
        rw [if_neg (by simpa using d4)]
        refine fin2 _ _ _ _ _ _ ?_ ?_
        ·exact wpS_pure ⟨hst4,.inr ⟨_,_,_,_,_,_,rfl,⟨mf,by omega,by omega,by omega,by omega⟩,by omega⟩⟩
        ·exact wpS_pure ⟨hst4,_,_,_,_,_,_,rfl,⟨mf,by omega,by omega,by omega,by omega⟩,by omega⟩
       ·rw [if_neg d2]
        have k0':k2 = nb2 - 1:=by omega
        subst k0'
        have ee:∀ o:Array Keyed,o ++ (b.extract (nb2 - 1) (nb2 - 1)).reverse = o:=fun o=>by
         have:b.extract (nb2 - 1) (nb2 - 1 + 0) = #[]:=ze2 b _
         rw [Nat.add_zero] at this
         rw [this]
         simp
        rw [ee] at bb
        refine wpS_bind (zI ex ?_)
        have mf:MI (flt lt) (a.toList ++ b.toList) ((out2.push y).push x).toList (a.toList.take (k1 - 1)).reverse (b.toList.take (nb2 - 1)).reverse:=zeK (by omega) bb ex' gb
        by_cases d4:k1 - 1 = 0
        ·rw [if_pos (by simpa using d4)]
         exact wpS_pure ⟨hst4,.inl ⟨_,_,rfl,zcS d4 mf⟩⟩
        rw [if_neg (by simpa using d4)]
        refine fin2 _ _ _ _ _ _ ?_ ?_
        ·exact wpS_pure ⟨hst4,.inr ⟨_,_,_,_,_,_,rfl,⟨mf,by omega,by omega,by omega,by omega⟩,by omega⟩⟩
        ·exact wpS_pure ⟨hst4,_,_,_,_,_,_,rfl,⟨mf,by omega,by omega,by omega,by omega⟩,by omega⟩
def G (xs:Array Keyed) (i:Nat):Keyed:=(xs[i]?).getD (.none,.none)
theorem zto {xs:Array Keyed} {i:Nat} (h:i < xs.size):xs[i]? = some (G xs i):=by unfold G; simp [h]
def Sg (lt:Keyed->Keyed->Bool) (xs:Array Keyed) (lo hi:Nat):Prop:=∀ i j,lo <= i->i <= j->j < hi->lt (G xs j) (G xs i) = false
structure Tb (kd:SortKind) (D:Keyed->Prop) (a₀:Array Keyed) (lo:Nat) (st0 st:SortSt):Prop where
 kd:kindOf st = kd
 fl:failedOf st = none
 pm:(arrOf st).Perm a₀
 pe:pendingOf st = pendingOf st0
 lo:∀ i,i < lo->G (arrOf st) i = G (arrOf st0) i
 d:∀ x ∈ a₀.toList,D x
section
variable {a₀:Array Keyed} {lo:Nat} {st0 st st':SortSt}
theorem Tb.size (h:Tb kd D a₀ lo st0 st):(arrOf st).size = a₀.size:=h.pm.size_eq
theorem Tb.at (h:Tb kd D a₀ lo st0 st) {i:Nat} (hi:i < a₀.size):(arrOf st)[i]? = some (G (arrOf st) i):=zto (by rw [h.size]; exact hi)
theorem Tb.dd (h:Tb kd D a₀ lo st0 st) {i:Nat} (hi:i < a₀.size):D (G (arrOf st) i):=by
 have e:=h.at hi
 have m:G (arrOf st) i ∈ (arrOf st).toList:=List.mem_of_getElem? (by rw [<- zar]; exact e)
 exact h.d _ ((Array.perm_iff_toList_perm.mp h.pm).mem_iff.mp m)
theorem zcr (O:LtOk prog w A E s kd D lt) (h:Tb kd D a₀ lo st0 st) {i j:Nat} {Q:Option Bool->SortSt->Prop} (hi:i < a₀.size) (hj:j < a₀.size) (q:Q (some (lt (G (arrOf st) i) (G (arrOf st) j))) st):wpS (model prog w) A E s (ltAt' i j) Q st:=by
 rw [ltAt'_eq]
 refine wpS_bind (wpS_get ?_)
 refine wpS_bind (zI (h.at hi) (wpS_bind (zI (h.at hj) ?_)))
 exact O.ask _ _ _ _ (h.dd hi) (h.dd hj) h.kd q
theorem zda {xs:Array Keyed} {i j k:Nat} (hj:j <= xs.size):G (mirror xs i j ((j - i) / 2)) k = if i <= k/\k < j then G xs (i + j - 1 - k) else G xs k:=by
 unfold G
 rw [getElem?_mirror_all hj]
 split <;> rfl
theorem zhw {xs:Array Keyed} {src d k:Nat} (hs:src < xs.size) (hd:d <= src):G (bubble xs src d) k = if k = src - d then G xs src else if src - d < k/\k <= src then G xs (k - 1) else G xs k:=by
 unfold G
 rw [getElem?_bubble hs d hd]
 split
 ·rfl
 ·split <;> rfl
theorem Tb.mirror (h:Tb kd D a₀ lo st0 st) {i j:Nat} (hi:lo <= i) (hj:j <= a₀.size):Tb kd D a₀ lo st0 (setArr st (mirror (arrOf st) i j ((j - i) / 2))):=by
 refine ⟨h.kd,h.fl,(mirror_perm _ _ _ _).trans h.pm,h.pe,fun k hk=>?_,h.d⟩
 show G (PyProof.Rows.mirror (arrOf st) i j ((j - i) / 2)) k = _
 rw [zda (by rw [h.size]; exact hj),if_neg (by omega)]
 exact h.lo k hk
theorem Tb.bubble (h:Tb kd D a₀ lo st0 st) {src d:Nat} (hs:src < a₀.size) (hd:d <= src) (hl:lo <= src - d):Tb kd D a₀ lo st0 (setArr st (bubble (arrOf st) src d)):=by
 refine ⟨h.kd,h.fl,(bubble_perm _ _ _).trans h.pm,h.pe,fun k hk=>?_,h.d⟩
 show G (PyProof.Rows.bubble (arrOf st) src d) k = _
 rw [zhw (by rw [h.size]; exact hs) hd,if_neg (by omega),if_neg (by omega)]
 exact h.lo k hk
theorem zc9 {i j:Nat} {Q:Unit->SortSt->Prop} (q:Q () (setArr st (mirror (arrOf st) i j ((j - i) / 2)))):wpS (model prog w) A E s (reverseSlice' i j) Q st:=by
 rw [reverseSlice'_eq]
 exact wpS_modify q
theorem Sg.more (O:LtOk prog w A E s kd D lt) (h:Tb kd D a₀ lo st0 st) {l n:Nat} (hn:n < a₀.size) (hl:l < n) (hs:Sg lt (arrOf st) l n) (h1:lt (G (arrOf st) n) (G (arrOf st) (n - 1)) = false):Sg lt (arrOf st) l (n + 1):=fun i j hi hij hj=>by
 by_cases e:j < n
 ·exact hs i j hi hij e
 ·have ej:j = n:=by omega
  subst ej
  by_cases e2:i = j
  ·rw [e2]; exact O.irr (h.dd hn)
  ·exact O.tr _ (G (arrOf st) (j - 1)) _ (h.dd (by omega)) (h.dd (by omega)) (h.dd hn) (hs i (j - 1) hi (by omega) (by omega)) h1
theorem Sg.one (O:LtOk prog w A E s kd D lt) (h:Tb kd D a₀ lo st0 st) {l:Nat} (hn:l < a₀.size):Sg lt (arrOf st) l (l + 1):=fun i j hi hij hj=>by
 have e1:i = l:=by omega
 have e2:j = l:=by omega
 rw [e1,e2]
 exact O.irr (h.dd hn)
def Fg (lt:Keyed->Keyed->Bool) (xs:Array Keyed) (lo hi:Nat):Prop:=∀ i j,lo <= i->i <= j->j < hi->lt (G xs i) (G xs j) = false
theorem zeE {xs:Array Keyed} {l n:Nat} (hn:n <= xs.size) (hs:Fg lt xs l n):Sg lt (mirror xs l n ((n - l) / 2)) l n:=fun i j hi hij hj=>by
 rw [zda hn,zda hn,if_pos (by omega),if_pos (by omega)]
 exact hs _ _ (by omega) (by omega) (by omega)
end
def Eg (lt:Keyed->Keyed->Bool) (xs:Array Keyed) (lo hi:Nat):Prop:=∀ i j,lo <= i->i < hi->lo <= j->j < hi->lt (G xs i) (G xs j) = false
theorem ziT {xs:Array Keyed} {l i n:Nat} (hn:n <= xs.size) (hl:l <= i) (hf:Fg lt xs l n) (he:Eg lt xs i n):Fg lt (mirror xs i n ((n - i) / 2)) l n:=fun p q hp hpq hq=>by
 rw [zda hn,zda hn]
 by_cases h1:i <= p
 ·rw [if_pos (by omega),if_pos (by omega)]
  exact he _ _ (by omega) (by omega) (by omega) (by omega)
 ·rw [if_neg (by omega)]
  by_cases h2:i <= q
  ·rw [if_pos (by omega)]
   exact hf _ _ hp (by omega) (by omega)
  ·rw [if_neg (by omega)]
   exact hf p q hp hpq hq
theorem zdv {xs:Array Keyed} {i n k:Nat} (hn:n <= xs.size) (hk:n <= k):G (mirror xs i n ((n - i) / 2)) k = G xs k:=by
 rw [zda hn,if_neg (by omega)]
theorem zc1 {xs:Array Keyed} {i n:Nat} (hn:n <= xs.size) (hi:i < n):G (mirror xs i n ((n - i) / 2)) (n - 1) = G xs i:=by
 rw [zda hn,if_pos (by omega)]
 congr 1
 omega
theorem zdp (O:LtOk prog w A E s kd D lt) {a₀:Array Keyed} {lo:Nat} {st0 st:SortSt} (h:Tb kd D a₀ lo st0 st) {l n:Nat} (hn:n < a₀.size) (hl:l < n) (hs:Fg lt (arrOf st) l n) (h1:lt (G (arrOf st) (n - 1)) (G (arrOf st) n) = false):Fg lt (arrOf st) l (n + 1):=fun i j hi hij hj=>by
 by_cases e:j < n
 ·exact hs i j hi hij e
 ·have ej:j = n:=by omega
  subst ej
  by_cases e2:i = j
  ·rw [e2]; exact O.irr (h.dd hn)
  ·exact O.tr _ (G (arrOf st) (j - 1)) _ (h.dd hn) (h.dd (by omega)) (h.dd (by omega)) h1 (hs i (j - 1) hi (by omega) (by omega))
theorem zmZ (O:LtOk prog w A E s kd D lt) {a₀:Array Keyed} {lo nrem:Nat} {st0 st:SortSt} {Q:Option Nat->SortSt->Prop} (h:Tb kd D a₀ lo st0 st) (hn:lo + nrem <= a₀.size) (h1:1 <= nrem)
  (q:∀ m st',Tb kd D a₀ lo st0 st'->1 <= m->m <= nrem->Sg lt (arrOf st') lo (lo + m)->Q (some m) st'):wpS (model prog w) A E s (countRun' lo nrem) Q st:=by
 refine wpS_bind (wpS_mono (wpS_forRange (a:=1)
  (I:=fun k c st'=>st' = st/\c = (none,k)/\Sg lt (arrOf st) lo (lo + k))
  (Q:=fun c st'=>st' = st/\∃ n,c = (none,n)/\1 <= n/\n <= nrem/\Sg lt (arrOf st) lo (lo + n)/\(n = nrem\/lt (G (arrOf st) (lo + n)) (G (arrOf st) (lo + n - 1)) = true)) ?step ?fin ⟨rfl,rfl,Sg.one O h (by omega)⟩) ?post)
 case fin =>
  rintro c st' ⟨rfl,rfl,hs⟩
  rw [show max 1 nrem = nrem by omega] at hs ⊢
  exact ⟨rfl,nrem,rfl,h1,Nat.le_refl _,hs,.inl rfl⟩
 case step =>
  rintro k c st' hk1 hk2 ⟨rfl,rfl,hs⟩
  dsimp only
  refine wpS_bind (zcr O h (i:=lo + k) (j:=lo + k - 1) (by omega) (by omega) ?_)
  dsimp only
  cases e:lt (G (arrOf st') (lo + k)) (G (arrOf st') (lo + k - 1)) with
  | true =>
   simp only [if_true]
   exact wpS_pure ⟨rfl,k,rfl,hk1,by omega,hs,.inr e⟩
  | false =>
   simp only [Bool.false_eq_true,if_false]
   refine wpS_pure ⟨rfl,rfl,?_⟩
   exact Sg.more (n:=lo + k) O h (by omega) (by omega) hs e
 case post =>
  rintro c st' ⟨rfl,n,rfl,n1,n2,hs,hor⟩
  dsimp only
  by_cases hnn:n = nrem
  ·rw [if_pos (by simpa using hnn)]
   exact wpS_pure (q n st' h n1 n2 hs)
  rw [if_neg (by simpa using hnn)]
  have hlt:=hor.resolve_left hnn
  by_cases hgt:n > 1
  ·rw [if_pos hgt]
   refine wpS_bind (zcr O h (i:=lo) (j:=lo + n - 1) (by omega) (by omega) ?_)
   dsimp only
   cases e0:lt (G (arrOf st') lo) (G (arrOf st') (lo + n - 1)) with
   | true =>
    simp only [if_true]
    exact wpS_pure (q n st' h n1 n2 hs)
   | false =>
    simp only [Bool.false_eq_true,if_false]
    have hsz:lo + n <= (arrOf st').size:=by rw [h.size]; omega
    have hal:∀ p q,lo <= p->p < lo + n->lo <= q->q < lo + n->lt (G (arrOf st') p) (G (arrOf st') q) = false:=fun p q p1 p2 q1 q2=>by
     have s1:=hs lo q (Nat.le_refl _) q1 q2
     have s2:=hs p (lo + n - 1) p1 (by omega) (by omega)
     have d0:=h.dd (i:=lo) (by omega)
     have dn:=h.dd (i:=lo + n - 1) (by omega)
     have dp:=h.dd (i:=p) (by omega)
     have dq:=h.dd (i:=q) (by omega)
     have s3:=hs q (lo + n - 1) q1 (by omega) (by omega)
     have s4:=hs lo p (Nat.le_refl _) p1 p2
     by_cases hpq:p <= q
     ·-- G p <= G last <= G lo <= G q would want both ways
      exact O.tr _ (G (arrOf st') lo) _ dq d0 dp (O.tr _ (G (arrOf st') (lo + n - 1)) _ dq dn d0 s3 e0) s4
     ·exact hs q p q1 (by omega) p2
    have hT:=h.mirror (i:=lo) (j:=lo + n) (Nat.le_refl _) (by omega)
    have hF:Fg lt (arrOf (setArr st' (mirror (arrOf st') lo (lo + n) ((lo + n - lo) / 2)))) lo (lo + (n + 1)):=by
     have hf0:Fg lt (arrOf st') lo (lo + n):=fun p q p1 pq q2=>hal p q p1 (by omega) (by omega) q2
     have hf1:=ziT hsz (Nat.le_refl _) hf0 fun p q p1 p2 q1 q2=>hal p q p1 p2 q1 q2
     refine zdp (n:=lo + n) O hT (by omega) (by omega) hf1 ?_
     show lt (G (mirror (arrOf st') lo (lo + n) _) (lo + n - 1)) (G (mirror (arrOf st') lo (lo + n) _) (lo + n)) = false
     rw [zdv hsz (Nat.le_refl _),zc1 hsz (by omega)]
     have d1:=h.dd (i:=lo + n) (by omega)
     have d2:=h.dd (i:=lo + n - 1) (by omega)
     exact O.tr _ _ _ d1 d2 (h.dd (by omega)) (O.asym _ _ d1 d2 hlt) e0
    refine wpS_bind (zc9 ?_)
    revert hT hF
    generalize (setArr st' (mirror (arrOf st') lo (lo + n) ((lo + n - lo) / 2))) = stA
    intro hT hF
    refine wpS_bind (wpS_lift (wpAny_rule ⟨rfl,?_⟩))
    refine wpS_bind (wpS_mono (wpS_forRange (a:=n + 1)
     (I:=fun k c st'=>Tb kd D a₀ lo st0 st'/\∃ neq,c = (none,k,neq)/\Fg lt (arrOf st') lo (lo + k)/\neq + 1 <= k/\Eg lt (arrOf st') (lo + k - (neq + 1)) (lo + k))
     (Q:=fun c st'=>Tb kd D a₀ lo st0 st'/\∃ m neq,c = (none,m,neq)/\1 <= m/\m <= nrem/\Fg lt (arrOf st') lo (lo + m)/\neq + 1 <= m/\Eg lt (arrOf st') (lo + m - (neq + 1)) (lo + m)) ?step2 ?fin2 ⟨hT,0,rfl,hF,by omega,fun i j h1 h2 h3 h4=>by
      have e1:i = j:=by omega
      rw [e1]
      exact O.irr (hT.dd (by omega))⟩) ?post2)
    case fin2 =>
     rintro c st2 ⟨hT2,neq,rfl,hF2,hq2,hE2⟩
     rw [show max (n + 1) nrem = nrem by omega] at hF2 hq2 hE2 ⊢
     exact ⟨hT2,nrem,neq,rfl,by omega,Nat.le_refl _,hF2,hq2,hE2⟩
    case step2 =>
     rintro k c st2 hk1 hk2 ⟨hT2,neq,rfl,hF2,hq2,hE2⟩
     dsimp only
     refine wpS_bind (zcr O hT2 (i:=lo + k) (j:=lo + k - 1) (by omega) (by omega) ?_)
     dsimp only
     have hsz:lo + k <= (arrOf st2).size:=by rw [hT2.size]; omega
     cases e:lt (G (arrOf st2) (lo + k)) (G (arrOf st2) (lo + k - 1)) with
     | true =>
      simp only [if_true]
      by_cases hq0:neq > 0
      ·rw [if_pos hq0]
       have hT3:=hT2.mirror (i:=lo + k - (neq + 1)) (j:=lo + k) (by omega) (by omega)
       refine wpS_bind (zc9 (wpS_pure ⟨hT3,0,rfl,?_,by omega,fun i j h1 h2 h3 h4=>by
        have e1:i = j:=by omega
        rw [e1]
        exact O.irr (hT3.dd (by omega))⟩))
       refine zdp (n:=lo + k) O hT3 (by omega) (by omega) (ziT hsz (by omega) hF2 hE2) ?_
       show lt (G (mirror (arrOf st2) (lo + k - (neq + 1)) (lo + k) _) (lo + k - 1)) (G (mirror (arrOf st2) (lo + k - (neq + 1)) (lo + k) _) (lo + k)) = false
       rw [zdv hsz (Nat.le_refl _),zc1 hsz (by omega)]
       have d1:=hT2.dd (i:=lo + k) (by omega)
       have d2:=hT2.dd (i:=lo + k - 1) (by omega)
       have d3:=hT2.dd (i:=lo + k - (neq + 1)) (by omega)
       exact O.tr _ _ _ d1 d2 d3 (O.asym _ _ d1 d2 e) (hE2 _ _ (by omega) (by omega) (by omega) (by omega))
      ·rw [if_neg hq0]
       refine wpS_pure ⟨hT2,0,rfl,?_,by omega,fun i j h1 h2 h3 h4=>by
        have e1:i = j:=by omega
        rw [e1]
        exact O.irr (hT2.dd (by omega))⟩
       exact zdp (n:=lo + k) O hT2 (by omega) (by omega) hF2 (O.asym _ _ (hT2.dd (by omega)) (hT2.dd (by omega)) e)
     | false =>
      simp only [Bool.false_eq_true,if_false]
      refine wpS_bind (zcr O hT2 (i:=lo + k - 1) (j:=lo + k) (by omega) (by omega) ?_)
      dsimp only
      cases e2:lt (G (arrOf st2) (lo + k - 1)) (G (arrOf st2) (lo + k)) with
      | true =>
       simp only [if_true]
       exact wpS_pure ⟨hT2,k,neq,rfl,by omega,by omega,hF2,hq2,hE2⟩
      | false =>
       simp only [Bool.false_eq_true,if_false]
       refine wpS_pure ⟨hT2,neq + 1,rfl,zdp (n:=lo + k) O hT2 (by omega) (by omega) hF2 e2,by omega,fun i j h1 h2 h3 h4=>?_⟩
       have dk:=hT2.dd (i:=lo + k) (by omega)
       have dl:=hT2.dd (i:=lo + k - 1) (by omega)
       by_cases z1:i = lo + k
       ·rw [z1]
        by_cases z2:j = lo + k
        ·rw [z2]; exact O.irr dk
        ·exact O.tr _ _ _ (hT2.dd (by omega)) dl dk (hE2 _ _ (by omega) (by omega) (by omega) (by omega)) e
       ·by_cases z2:j = lo + k
        ·rw [z2]
         exact O.tr _ _ _ dk dl (hT2.dd (by omega)) e2 (hE2 _ _ (by omega) (by omega) (by omega) (by omega))
        ·exact hE2 i j (by omega) (by omega) (by omega) (by omega)
    case post2 =>
     rintro c st2 ⟨hT2,m,neq,rfl,m1,m2,hF2,hq2,hE2⟩
     dsimp only
     have hsz:lo + m <= (arrOf st2).size:=by rw [hT2.size]; omega
     have hT3:=hT2.mirror (i:=lo + m - (neq + 1)) (j:=lo + m) (by omega) (by omega)
     have hF3:=ziT hsz (by omega) hF2 hE2
     by_cases hq0:neq > 0
     ·rw [if_pos hq0]
      refine wpS_bind (zc9 ?_)
      have hT4:=hT3.mirror (i:=lo) (j:=lo + m) (Nat.le_refl _) (by omega)
      have hS4:Sg lt (arrOf (setArr (setArr st2 (mirror (arrOf st2) (lo + m - (neq + 1)) (lo + m) ((lo + m - (lo + m - (neq + 1))) / 2))) (mirror (mirror (arrOf st2) (lo + m - (neq + 1)) (lo + m) ((lo + m - (lo + m - (neq + 1))) / 2)) lo (lo + m) ((lo + m - lo) / 2)))) lo (lo + m):=zeE (by rw [mirror_size]; exact hsz) hF3
      refine wpS_bind (zc9 ?_)
      revert hT4 hS4
      generalize (setArr (setArr st2 (mirror (arrOf st2) (lo + m - (neq + 1)) (lo + m) ((lo + m - (lo + m - (neq + 1))) / 2))) (mirror (mirror (arrOf st2) (lo + m - (neq + 1)) (lo + m) ((lo + m - (lo + m - (neq + 1))) / 2)) lo (lo + m) ((lo + m - lo) / 2))) = st4
      intro hT4 hS4
      refine wpS_bind (wpS_mono (wpS_forRange (a:=m)
       (I:=fun k c st'=>st' = st4/\c = (none,k)/\Sg lt (arrOf st4) lo (lo + k))
       (Q:=fun c st'=>st' = st4/\∃ n,c = (none,n)/\1 <= n/\n <= nrem/\Sg lt (arrOf st4) lo (lo + n)) ?step3 ?fin3 ⟨rfl,rfl,hS4⟩) ?post3)
      case fin3 =>
       rintro c st5 ⟨rfl,rfl,hs⟩
       rw [show max m nrem = nrem by omega] at hs ⊢
       exact ⟨rfl,nrem,rfl,by omega,Nat.le_refl _,hs⟩
      case step3 =>
       rintro k c st5 hk1 hk2 ⟨rfl,rfl,hs⟩
       dsimp only
       refine wpS_bind (zcr O hT4 (i:=lo + k) (j:=lo + k - 1) (by omega) (by omega) ?_)
       dsimp only
       cases e:lt (G (arrOf st5) (lo + k)) (G (arrOf st5) (lo + k - 1)) with
       | true =>
        simp only [if_true]
        exact wpS_pure ⟨rfl,k,rfl,by omega,by omega,hs⟩
       | false =>
        simp only [Bool.false_eq_true,if_false]
        exact wpS_pure ⟨rfl,rfl,Sg.more (n:=lo + k) O hT4 (by omega) (by omega) hs e⟩
      case post3 =>
       rintro c st5 ⟨rfl,n',rfl,p1,p2,hs⟩
       dsimp only
       exact wpS_pure (q n' st5 hT4 p1 p2 hs)
     ·rw [if_neg hq0]
      have hT4:=hT2.mirror (i:=lo) (j:=lo + m) (Nat.le_refl _) (by omega)
      have hS4:Sg lt (arrOf (setArr st2 (mirror (arrOf st2) lo (lo + m) ((lo + m - lo) / 2)))) lo (lo + m):=zeE hsz hF2
      refine wpS_bind (zc9 ?_)
      revert hT4 hS4
      generalize (setArr st2 (mirror (arrOf st2) lo (lo + m) ((lo + m - lo) / 2))) = st4
      intro hT4 hS4
      refine wpS_bind (wpS_mono (wpS_forRange (a:=m)
       (I:=fun k c st'=>st' = st4/\c = (none,k)/\Sg lt (arrOf st4) lo (lo + k))
       (Q:=fun c st'=>st' = st4/\∃ n,c = (none,n)/\1 <= n/\n <= nrem/\Sg lt (arrOf st4) lo (lo + n)) ?step3 ?fin3 ⟨rfl,rfl,hS4⟩) ?post3)
      case fin3 =>
       rintro c st5 ⟨rfl,rfl,hs⟩
       rw [show max m nrem = nrem by omega] at hs ⊢
       exact ⟨rfl,nrem,rfl,by omega,Nat.le_refl _,hs⟩
      case step3 =>
       rintro k c st5 hk1 hk2 ⟨rfl,rfl,hs⟩
       dsimp only
       refine wpS_bind (zcr O hT4 (i:=lo + k) (j:=lo + k - 1) (by omega) (by omega) ?_)
       dsimp only
       cases e:lt (G (arrOf st5) (lo + k)) (G (arrOf st5) (lo + k - 1)) with
       | true =>
        simp only [if_true]
        exact wpS_pure ⟨rfl,k,rfl,by omega,by omega,hs⟩
       | false =>
        simp only [Bool.false_eq_true,if_false]
        exact wpS_pure ⟨rfl,rfl,Sg.more (n:=lo + k) O hT4 (by omega) (by omega) hs e⟩
      case post3 =>
       rintro c st5 ⟨rfl,n',rfl,p1,p2,hs⟩
       dsimp only
       exact wpS_pure (q n' st5 hT4 p1 p2 hs)
  ·rw [if_neg hgt]
   have n1':n = 1:=by omega
   have hT:=h
   have hF:Fg lt (arrOf st') lo (lo + (n + 1)):=by
    subst n1'
    refine zdp (n:=lo + 1) O h (by omega) (by omega) (fun p q p1 pq q2=>?_) (O.asym _ _ (h.dd (by omega)) (h.dd (by omega)) hlt)
    have e1:p = q:=by omega
    rw [e1]
    exact O.irr (h.dd (by omega))
   refine wpS_bind (wpS_lift (wpAny_rule ⟨rfl,?_⟩))
   refine wpS_bind (wpS_mono (wpS_forRange (a:=n + 1)
    (I:=fun k c st'=>Tb kd D a₀ lo st0 st'/\∃ neq,c = (none,k,neq)/\Fg lt (arrOf st') lo (lo + k)/\neq + 1 <= k/\Eg lt (arrOf st') (lo + k - (neq + 1)) (lo + k))
    (Q:=fun c st'=>Tb kd D a₀ lo st0 st'/\∃ m neq,c = (none,m,neq)/\1 <= m/\m <= nrem/\Fg lt (arrOf st') lo (lo + m)/\neq + 1 <= m/\Eg lt (arrOf st') (lo + m - (neq + 1)) (lo + m)) ?step2 ?fin2 ⟨hT,0,rfl,hF,by omega,fun i j h1 h2 h3 h4=>by
     have e1:i = j:=by omega
     rw [e1]
     exact O.irr (hT.dd (by omega))⟩) ?post2)
   case fin2 =>
    rintro c st2 ⟨hT2,neq,rfl,hF2,hq2,hE2⟩
    rw [show max (n + 1) nrem = nrem by omega] at hF2 hq2 hE2 ⊢
    exact ⟨hT2,nrem,neq,rfl,by omega,Nat.le_refl _,hF2,hq2,hE2⟩
   case step2 =>
    rintro k c st2 hk1 hk2 ⟨hT2,neq,rfl,hF2,hq2,hE2⟩
    dsimp only
    refine wpS_bind (zcr O hT2 (i:=lo + k) (j:=lo + k - 1) (by omega) (by omega) ?_)
    dsimp only
    have hsz:lo + k <= (arrOf st2).size:=by rw [hT2.size]; omega
    cases e:lt (G (arrOf st2) (lo + k)) (G (arrOf st2) (lo + k - 1)) with
    | true =>
     simp only [if_true]
     by_cases hq0:neq > 0
     ·rw [if_pos hq0]
      have hT3:=hT2.mirror (i:=lo + k - (neq + 1)) (j:=lo + k) (by omega) (by omega)
      refine wpS_bind (zc9 (wpS_pure ⟨hT3,0,rfl,?_,by omega,fun i j h1 h2 h3 h4=>by
       have e1:i = j:=by omega
       rw [e1]
       exact O.irr (hT3.dd (by omega))⟩))
      refine zdp (n:=lo + k) O hT3 (by omega) (by omega) (ziT hsz (by omega) hF2 hE2) ?_
      show lt (G (mirror (arrOf st2) (lo + k - (neq + 1)) (lo + k) _) (lo + k - 1)) (G (mirror (arrOf st2) (lo + k - (neq + 1)) (lo + k) _) (lo + k)) = false
      rw [zdv hsz (Nat.le_refl _),zc1 hsz (by omega)]
      have d1:=hT2.dd (i:=lo + k) (by omega)
      have d2:=hT2.dd (i:=lo + k - 1) (by omega)
      have d3:=hT2.dd (i:=lo + k - (neq + 1)) (by omega)
      exact O.tr _ _ _ d1 d2 d3 (O.asym _ _ d1 d2 e) (hE2 _ _ (by omega) (by omega) (by omega) (by omega))
     ·rw [if_neg hq0]
      refine wpS_pure ⟨hT2,0,rfl,?_,by omega,fun i j h1 h2 h3 h4=>by
       have e1:i = j:=by omega
       rw [e1]
       exact O.irr (hT2.dd (by omega))⟩
      exact zdp (n:=lo + k) O hT2 (by omega) (by omega) hF2 (O.asym _ _ (hT2.dd (by omega)) (hT2.dd (by omega)) e)
    | false =>
     simp only [Bool.false_eq_true,if_false]
     refine wpS_bind (zcr O hT2 (i:=lo + k - 1) (j:=lo + k) (by omega) (by omega) ?_)
     dsimp only
     cases e2:lt (G (arrOf st2) (lo + k - 1)) (G (arrOf st2) (lo + k)) with
     | true =>
      simp only [if_true]
      exact wpS_pure ⟨hT2,k,neq,rfl,by omega,by omega,hF2,hq2,hE2⟩
     | false =>
      simp only [Bool.false_eq_true,if_false]
      refine wpS_pure ⟨hT2,neq + 1,rfl,zdp (n:=lo + k) O hT2 (by omega) (by omega) hF2 e2,by omega,fun i j h1 h2 h3 h4=>?_⟩
      have dk:=hT2.dd (i:=lo + k) (by omega)
      have dl:=hT2.dd (i:=lo + k - 1) (by omega)
      by_cases z1:i = lo + k
      ·rw [z1]
       by_cases z2:j = lo + k
       ·rw [z2]; exact O.irr dk
       ·exact O.tr _ _ _ (hT2.dd (by omega)) dl dk (hE2 _ _ (by omega) (by omega) (by omega) (by omega)) e
      ·by_cases z2:j = lo + k
       ·rw [z2]
        exact O.tr _ _ _ dk dl (hT2.dd (by omega)) e2 (hE2 _ _ (by omega) (by omega) (by omega) (by omega))
       ·exact hE2 i j (by omega) (by omega) (by omega) (by omega)
   case post2 =>
    rintro c st2 ⟨hT2,m,neq,rfl,m1,m2,hF2,hq2,hE2⟩
    dsimp only
    have hsz:lo + m <= (arrOf st2).size:=by rw [hT2.size]; omega
    have hT3:=hT2.mirror (i:=lo + m - (neq + 1)) (j:=lo + m) (by omega) (by omega)
    have hF3:=ziT hsz (by omega) hF2 hE2
    by_cases hq0:neq > 0
    ·rw [if_pos hq0]
     refine wpS_bind (zc9 ?_)
     have hT4:=hT3.mirror (i:=lo) (j:=lo + m) (Nat.le_refl _) (by omega)
     have hS4:Sg lt (arrOf (setArr (setArr st2 (mirror (arrOf st2) (lo + m - (neq + 1)) (lo + m) ((lo + m - (lo + m - (neq + 1))) / 2))) (mirror (mirror (arrOf st2) (lo + m - (neq + 1)) (lo + m) ((lo + m - (lo + m - (neq + 1))) / 2)) lo (lo + m) ((lo + m - lo) / 2)))) lo (lo + m):=zeE (by rw [mirror_size]; exact hsz) hF3
     refine wpS_bind (zc9 ?_)
     revert hT4 hS4
     generalize (setArr (setArr st2 (mirror (arrOf st2) (lo + m - (neq + 1)) (lo + m) ((lo + m - (lo + m - (neq + 1))) / 2))) (mirror (mirror (arrOf st2) (lo + m - (neq + 1)) (lo + m) ((lo + m - (lo + m - (neq + 1))) / 2)) lo (lo + m) ((lo + m - lo) / 2))) = st4
     intro hT4 hS4
     refine wpS_bind (wpS_mono (wpS_forRange (a:=m)
      (I:=fun k c st'=>st' = st4/\c = (none,k)/\Sg lt (arrOf st4) lo (lo + k))
      (Q:=fun c st'=>st' = st4/\∃ n,c = (none,n)/\1 <= n/\n <= nrem/\Sg lt (arrOf st4) lo (lo + n)) ?step3 ?fin3 ⟨rfl,rfl,hS4⟩) ?post3)
     case fin3 =>
      rintro c st5 ⟨rfl,rfl,hs⟩
      rw [show max m nrem = nrem by omega] at hs ⊢
      exact ⟨rfl,nrem,rfl,by omega,Nat.le_refl _,hs⟩
     case step3 =>
      rintro k c st5 hk1 hk2 ⟨rfl,rfl,hs⟩
      dsimp only
      refine wpS_bind (zcr O hT4 (i:=lo + k) (j:=lo + k - 1) (by omega) (by omega) ?_)
      dsimp only
      cases e:lt (G (arrOf st5) (lo + k)) (G (arrOf st5) (lo + k - 1)) with
      | true =>
       simp only [if_true]
       exact wpS_pure ⟨rfl,k,rfl,by omega,by omega,hs⟩
      | false =>
       simp only [Bool.false_eq_true,if_false]
       exact wpS_pure ⟨rfl,rfl,Sg.more (n:=lo + k) O hT4 (by omega) (by omega) hs e⟩
     case post3 =>
      rintro c st5 ⟨rfl,n',rfl,p1,p2,hs⟩
      dsimp only
      exact wpS_pure (q n' st5 hT4 p1 p2 hs)
    ·rw [if_neg hq0]
     have hT4:=hT2.mirror (i:=lo) (j:=lo + m) (Nat.le_refl _) (by omega)
     have hS4:Sg lt (arrOf (setArr st2 (mirror (arrOf st2) lo (lo + m) ((lo + m - lo) / 2)))) lo (lo + m):=zeE hsz hF2
     refine wpS_bind (zc9 ?_)
     revert hT4 hS4
     generalize (setArr st2 (mirror (arrOf st2) lo (lo + m) ((lo + m - lo) / 2))) = st4
     intro hT4 hS4
     refine wpS_bind (wpS_mono (wpS_forRange (a:=m)
      (I:=fun k c st'=>st' = st4/\c = (none,k)/\Sg lt (arrOf st4) lo (lo + k))
      (Q:=fun c st'=>st' = st4/\∃ n,c = (none,n)/\1 <= n/\n <= nrem/\Sg lt (arrOf st4) lo (lo + n)) ?step3 ?fin3 ⟨rfl,rfl,hS4⟩) ?post3)
     case fin3 =>
      rintro c st5 ⟨rfl,rfl,hs⟩
      rw [show max m nrem = nrem by omega] at hs ⊢
      exact ⟨rfl,nrem,rfl,by omega,Nat.le_refl _,hs⟩
     case step3 =>
      rintro k c st5 hk1 hk2 ⟨rfl,rfl,hs⟩
      dsimp only
      refine wpS_bind (zcr O hT4 (i:=lo + k) (j:=lo + k - 1) (by omega) (by omega) ?_)
      dsimp only
      cases e:lt (G (arrOf st5) (lo + k)) (G (arrOf st5) (lo + k - 1)) with
      | true =>
       simp only [if_true]
       exact wpS_pure ⟨rfl,k,rfl,by omega,by omega,hs⟩
      | false =>
       simp only [Bool.false_eq_true,if_false]
       exact wpS_pure ⟨rfl,rfl,Sg.more (n:=lo + k) O hT4 (by omega) (by omega) hs e⟩
     case post3 =>
      rintro c st5 ⟨rfl,n',rfl,p1,p2,hs⟩
      dsimp only
      exact wpS_pure (q n' st5 hT4 p1 p2 hs)
theorem zl2 (O:LtOk prog w A E s kd D lt) {a₀:Array Keyed} {lo n ok:Nat} {st0 st:SortSt} {Q:Bool->SortSt->Prop} (h:Tb kd D a₀ lo st0 st) (hn:lo + n <= a₀.size) (h1:1 <= ok) (hok:ok <= n) (hs:Sg lt (arrOf st) lo (lo + ok))
  (q:∀ st',Tb kd D a₀ lo st0 st'->Sg lt (arrOf st') lo (lo + n)->Q true st'):wpS (model prog w) A E s (binarySort' lo n ok) Q st:=by
 refine wpS_bind (wpS_mono (wpS_forRange (a:=max ok 1)
  (I:=fun k c st'=>c = (none,())/\Tb kd D a₀ lo st0 st'/\Sg lt (arrOf st') lo (lo + k))
  (Q:=fun c st'=>c = (none,())/\Tb kd D a₀ lo st0 st'/\Sg lt (arrOf st') lo (lo + n)) ?step ?fin ⟨rfl,h,by rw [show max ok 1 = ok by omega]; exact hs⟩) ?post)
 case fin =>
  rintro c st' ⟨rfl,hT,hS⟩
  rw [show max (max ok 1) n = n by omega] at hS
  exact ⟨rfl,hT,hS⟩
 case post =>
  rintro c st' ⟨rfl,hT,hS⟩
  dsimp only
  exact wpS_pure (q st' hT hS)
 case step =>
  rintro k c st' hk1 hk2 ⟨rfl,hT,hS⟩
  have k1:1 <= k:=by omega
  dsimp only
  refine wpS_bind (wpS_mono (wpS_forRange (a:=0)
   (I:=fun j c st2=>st2 = st'/\∃ l r,c = (none,l,r)/\l <= r/\r <= k/\r - l + j <= k/\(∀ i,i < l->lt (G (arrOf st') (lo + k)) (G (arrOf st') (lo + i)) = false)/\∀ i,r <= i->i < k->lt (G (arrOf st') (lo + k)) (G (arrOf st') (lo + i)) = true)
   (Q:=fun c st2=>st2 = st'/\∃ l,c = (none,l,l)/\l <= k/\(∀ i,i < l->lt (G (arrOf st') (lo + k)) (G (arrOf st') (lo + i)) = false)/\∀ i,l <= i->i < k->lt (G (arrOf st') (lo + k)) (G (arrOf st') (lo + i)) = true) ?step2 ?fin2 ⟨rfl,0,k,rfl,by omega,by omega,by omega,fun i hi=>by omega,fun i h1 h2=>by omega⟩) ?post2)
  case fin2 =>
   rintro c st2 ⟨rfl,l,r,rfl,a1,a2,a3,a4,a5⟩
   have:l = r:=by omega
   subst this
   exact ⟨rfl,l,rfl,a2,a4,a5⟩
  case step2 =>
   rintro j c st2 _ hj ⟨rfl,l,r,rfl,a1,a2,a3,a4,a5⟩
   dsimp only
   by_cases hlr:l ≥ r
   ·rw [if_pos hlr]
    have:l = r:=by omega
    subst this
    exact wpS_pure ⟨rfl,l,rfl,a2,a4,a5⟩
   rw [if_neg hlr]
   have hm:(l + r) / 2 < k:=by omega
   refine wpS_bind (zcr O hT (i:=lo + k) (j:=lo + (l + r) / 2) (by omega) (by omega) ?_)
   dsimp only
   have dk:=hT.dd (i:=lo + k) (by omega)
   have dm:=hT.dd (i:=lo + (l + r) / 2) (by omega)
   cases e:lt (G (arrOf st2) (lo + k)) (G (arrOf st2) (lo + (l + r) / 2)) with
   | true =>
    simp only [if_true]
    refine wpS_pure ⟨rfl,l,(l + r) / 2,rfl,by omega,by omega,by omega,a4,fun i i1 i2=>?_⟩
    have di:=hT.dd (i:=lo + i) (by omega)
    cases e2:lt (G (arrOf st2) (lo + k)) (G (arrOf st2) (lo + i)) with
    | true=>rfl
    | false =>
     have:=O.tr _ _ _ dm di dk (hS (lo + (l + r) / 2) (lo + i) (by omega) (by omega) (by omega)) e2
     rw [this] at e
     cases e
   | false =>
    simp only [Bool.false_eq_true,if_false]
    refine wpS_pure ⟨rfl,(l + r) / 2 + 1,r,rfl,by omega,by omega,by omega,fun i i1=>?_,a5⟩
    exact O.tr _ _ _ (hT.dd (by omega)) dm dk (hS (lo + i) (lo + (l + r) / 2) (by omega) (by omega) (by omega)) e
  case post2 =>
   rintro c st2 ⟨rfl,l,rfl,l1,l2,l3⟩
   dsimp only
   have hks:lo + k < (arrOf st2).size:=by rw [hT.size]; omega
   have hd:lo + k - (lo + l) = k - l:=by omega
   refine wpS_bind (wpS_modify (wpS_pure ⟨rfl,hT.bubble (src:=lo + k) (d:=lo + k - (lo + l)) (by omega) (by omega) (by omega),?_⟩))
   intro i j hi hij hj
   show lt (G (bubble (arrOf st2) (lo + k) (lo + k - (lo + l))) j) (G (bubble (arrOf st2) (lo + k) (lo + k - (lo + l))) i) = false
   rw [zhw hks (by omega),zhw hks (by omega),show lo + k - (lo + k - (lo + l)) = lo + l by omega]
   have dk:=hT.dd (i:=lo + k) (by omega)
   by_cases i1:i = lo + l
   ·rw [if_pos i1]
    by_cases j1:j = lo + l
    ·rw [if_pos j1]; exact O.irr dk
    ·rw [if_neg j1,if_pos (by omega)]
     have:=l3 (j - 1 - lo) (by omega) (by omega)
     rw [show lo + (j - 1 - lo) = j - 1 by omega] at this
     exact O.asym _ _ dk (hT.dd (by omega)) this
   ·rw [if_neg i1]
    by_cases i2:lo + l < i/\i <= lo + k
    ·rw [if_pos i2,if_neg (by omega),if_pos (by omega)]
     exact hS _ _ (by omega) (by omega) (by omega)
    ·rw [if_neg i2]
     by_cases j1:j = lo + l
     ·rw [if_pos j1]
      have:=l2 (i - lo) (by omega)
      rw [show lo + (i - lo) = i by omega] at this
      exact this
     ·rw [if_neg j1]
      by_cases j2:lo + l < j/\j <= lo + k
      ·rw [if_pos j2]
       exact hS _ _ (by omega) (by omega) (by omega)
      ·rw [if_neg j2]
       exact hS i j hi hij (by omega)
structure Ts (kd:SortKind) (D:Keyed->Prop) (a₀:Array Keyed) (st:SortSt):Prop where
 kd:kindOf st = kd
 fl:failedOf st = none
 pm:(arrOf st).Perm a₀
 d:∀ x ∈ a₀.toList,D x
section
variable {a₀:Array Keyed} {st:SortSt}
theorem Ts.size (h:Ts kd D a₀ st):(arrOf st).size = a₀.size:=h.pm.size_eq
theorem Ts.mem (h:Ts kd D a₀ st) {x:Keyed} (m:x ∈ (arrOf st).toList):D x:=h.d x ((Array.perm_iff_toList_perm.mp h.pm).mem_iff.mp m)
theorem Ts.at (h:Ts kd D a₀ st) {i:Nat} (hi:i < a₀.size):(arrOf st)[i]? = some (G (arrOf st) i):=zto (by rw [h.size]; exact hi)
theorem Ts.dd (h:Ts kd D a₀ st) {i:Nat} (hi:i < a₀.size):D (G (arrOf st) i):=h.mem (List.mem_of_getElem? (by rw [<- zar]; exact h.at hi))
theorem Ts.tb (h:Ts kd D a₀ st) (lo:Nat):Tb kd D a₀ lo st st:=⟨h.kd,h.fl,h.pm,rfl,fun _ _=>rfl,h.d⟩
end
theorem zph {xs:Array Keyed} {i:Nat} {x:Keyed} (h:xs.toList[i]? = some x):G xs i = x:=by
 unfold G
 rw [zar.mpr h]
 rfl
theorem zgI (s:Nat):∀ (l:List Keyed) (k:Nat) (xs:Array Keyed),s + k + l.length <= xs.size->((l.zipIdx k).foldl (fun a p=>a.setIfInBounds (s + p.2) p.1) xs).toList = xs.toList.take (s + k) ++ l ++ xs.toList.drop (s + k + l.length)
 | [],k,xs,_=>by simp
 | x :: l,k,xs,h=>by
  rw [List.length_cons] at h
  rw [List.zipIdx_cons,List.foldl_cons,zgI s l (k + 1) _ (by rw [Array.size_setIfInBounds]; omega)]
  simp only [Array.toList_setIfInBounds]
  have hl:s + k < xs.toList.length:=by simp; omega
  have e1:(xs.toList.set (s + k) x).take (s + (k + 1)) = xs.toList.take (s + k) ++ [x]:=by
   rw [show s + (k + 1) = s + k + 1 by omega,List.take_add_one,List.getElem?_set_self hl,List.take_set_of_le (Nat.le_refl _)]
   rfl
  have e2:(xs.toList.set (s + k) x).drop (s + (k + 1) + l.length) = xs.toList.drop (s + k + (x :: l).length):=by
   rw [List.drop_set_of_lt (by omega),List.length_cons]
   congr 1
   omega
  rw [e1,e2]
  simp
theorem zp5 {x:SortSt} {Q:PUnit->SortSt->Prop} {st:SortSt} (h:Q ⟨⟩ x):wpS (model prog w) A E s (set x:StateT SortSt Sem PUnit) Q st:=by
 unfold wpS
 rw [StateT.run_set]
 exact wpAny_pure ⟨rfl,h⟩
theorem zeY {xs:Array Keyed} {lo hi:Nat} (hh:hi <= xs.size) {x:Keyed} (m:x ∈ (xs.extract lo hi).toList):∃ r,lo <= r/\r < hi/\G xs r = x:=by
 rw [Array.toList_extract,List.extract_eq_take_drop] at m
 obtain ⟨j,hj⟩:=List.mem_iff_getElem?.mp m
 rw [List.getElem?_take] at hj
 split at hj
 ·rw [List.getElem?_drop] at hj
  exact ⟨lo + j,by omega,by omega,zph hj⟩
 ·cases hj
theorem zm1 {xs:Array Keyed} {lo hi j:Nat} (hh:hi <= xs.size) (hj:j < hi - lo):(xs.extract lo hi)[j]? = some (G xs (lo + j)):=by
 rw [zar,Array.toList_extract,List.extract_eq_take_drop,List.getElem?_take,if_pos (by omega),List.getElem?_drop,<- zar]
 exact zto (by omega)
theorem zmg {xs:Array Keyed} {lo hi:Nat} (hh:hi <= xs.size) (h:Sg lt xs lo hi):SrtL lt (xs.extract lo hi).toList:=by
 unfold SrtL
 rw [List.pairwise_iff_getElem]
 intro i j hi' hj' hij
 have e1:=List.getElem?_eq_getElem hi'
 have e2:=List.getElem?_eq_getElem hj'
 have hl:(xs.extract lo hi).toList.length = hi - lo:=by simp; omega
 rw [<- zar,zm1 hh (by omega)] at e1 e2
 rw [<- Option.some.inj e1,<- Option.some.inj e2]
 exact h _ _ (by omega) (by omega) (by omega)
theorem zjj (O:LtOk prog w A E s kd D lt) {a₀:Array Keyed} {i sa na pw sb nb pw2:Nat} {st:SortSt} {Q:Bool->SortSt->Prop} (h:Ts kd D a₀ st) (e1:(pendingOf st)[i]? = some (sa,na,pw)) (e2:(pendingOf st)[i + 1]? = some (sb,nb,pw2)) (hsb:sb = sa + na) (na1:1 <= na) (nb1:1 <= nb) (hsz:sb + nb <= a₀.size)
  (sA:Sg lt (arrOf st) sa (sa + na)) (sB:Sg lt (arrOf st) sb (sb + nb))
  (q:∀ st',Ts kd D a₀ st'->pendingOf st' = ((pendingOf st).setIfInBounds i (sa,na + nb,pw)).eraseIdxIfInBounds (i + 1)->(∀ j,j < sa\/sa + na + nb <= j->G (arrOf st') j = G (arrOf st) j)->Sg lt (arrOf st') sa (sa + na + nb)->Q true st'):wpS (model prog w) A E s (mergeAt' i) Q st:=by
 refine wpS_bind (wpS_get ?_)
 dsimp only
 simp only [e1,e2]
 have hsA:(arrOf st).size = a₀.size:=h.size
 refine wpS_bind (zp5 ?_)
 refine wpS_bind (zI (h.at (i:=sb) (by omega)) ?_)
 refine wpS_bind (gal O (key:=G (arrOf st) sb) (hint:=0) h.kd (h.dd (by omega)) (fun j h1 h2=>⟨_,h.at (by omega),h.dd (by omega)⟩) (fun i j x y h1 h2 h3 ex ey=>by
  rw [h.at (by omega)] at ex ey
  cases ex
  cases ey
  exact sA i j h1 h2 h3) (by omega) fun k hk g1 g2=>?_)
 dsimp only
 have g1':∀ j,sa <= j->j < sa + k->lt (G (arrOf st) sb) (G (arrOf st) j) = false:=fun j h1 h2=>by
  have:=g1 j _ h1 h2 (h.at (by omega))
  simpa [bey] using this
 have g2':∀ j,sa + k <= j->j < sa + na->lt (G (arrOf st) sb) (G (arrOf st) j) = true:=fun j h1 h2=>by
  have:=g2 j _ h1 h2 (h.at (by omega))
  simpa [bey] using this
 by_cases c1:na - k = 0
 ·rw [if_pos (by simpa using c1)]
  refine wpS_pure (q _ ⟨h.kd,h.fl,h.pm,h.d⟩ rfl (fun j _=>rfl) fun p r hp hpr hr=>?_)
  show lt (G (arrOf st) r) (G (arrOf st) p) = false
  by_cases z1:r < sa + na
  ·exact sA p r hp hpr z1
  ·by_cases z2:p < sa + na
   ·exact O.tr _ _ _ (h.dd (by omega)) (h.dd (i:=sb) (by omega)) (h.dd (by omega)) (g1' p hp (by omega)) (sB sb r (Nat.le_refl _) (by omega) (by omega))
   ·exact sB p r (by omega) hpr (by omega)
 rw [if_neg (by simpa using c1)]
 have ei:sa + k + (na - k) - 1 = sb - 1:=by omega
 rw [ei]
 refine wpS_bind (zI (h.at (i:=sb - 1) (by omega)) ?_)
 refine wpS_bind (gal O (key:=G (arrOf st) (sb - 1)) (hint:=nb - 1) h.kd (h.dd (by omega)) (fun j h1 h2=>⟨_,h.at (by omega),h.dd (by omega)⟩) (fun i j x y h1 h2 h3 ex ey=>by
  rw [h.at (by omega)] at ex ey
  cases ex
  cases ey
  exact sB i j h1 h2 h3) (by omega) fun m hm f1 f2=>?_)
 dsimp only
 have f1':∀ j,sb <= j->j < sb + m->lt (G (arrOf st) j) (G (arrOf st) (sb - 1)) = true:=fun j h1 h2=>by
  have:=f1 j _ h1 h2 (h.at (by omega))
  simpa [bey] using this
 have f2':∀ j,sb + m <= j->j < sb + nb->lt (G (arrOf st) j) (G (arrOf st) (sb - 1)) = false:=fun j h1 h2=>by
  have:=f2 j _ h1 h2 (h.at (by omega))
  simpa [bey] using this
 by_cases c2:m = 0
 ·rw [if_pos (by simpa using c2)]
  refine wpS_pure (q _ ⟨h.kd,h.fl,h.pm,h.d⟩ rfl (fun j _=>rfl) fun p r hp hpr hr=>?_)
  show lt (G (arrOf st) r) (G (arrOf st) p) = false
  by_cases z1:r < sa + na
  ·exact sA p r hp hpr z1
  ·by_cases z2:p < sa + na
   ·exact O.tr _ _ _ (h.dd (by omega)) (h.dd (i:=sb - 1) (by omega)) (h.dd (by omega)) (sA p (sb - 1) hp (by omega) (by omega)) (f2' r (by omega) (by omega))
   ·exact sB p r (by omega) hpr (by omega)
 rw [if_neg (by simpa using c2)]
 have xD:∀ x ∈ ((arrOf st).extract (sa + k) sb).toList,D x:=fun x mx=>by
  obtain ⟨r,r1,r2,rfl⟩:=zeY (by omega) mx
  exact h.dd (by omega)
 have yD:∀ x ∈ ((arrOf st).extract sb (sb + m)).toList,D x:=fun x mx=>by
  obtain ⟨r,r1,r2,rfl⟩:=zeY (by omega) mx
  exact h.dd (by omega)
 have xS:=zmg (lt:=lt) (xs:=arrOf st) (lo:=sa + k) (hi:=sb) (by omega) fun p r h1 h2 h3=>sA p r (by omega) h2 (by omega)
 have yS:=zmg (lt:=lt) (xs:=arrOf st) (lo:=sb) (hi:=sb + m) (by omega) fun p r h1 h2 h3=>sB p r (by omega) h2 (by omega)
 have xz:((arrOf st).extract (sa + k) sb).size = sb - (sa + k):=by simp; omega
 have yz:((arrOf st).extract sb (sb + m)).size = m:=by simp; omega
 have y0:∀ y,((arrOf st).extract sb (sb + m))[0]? = some y->∀ x ∈ ((arrOf st).extract (sa + k) sb).toList,lt x y = false:=fun y ey x mx=>by
  rw [zm1 (by omega) (by omega)] at ey
  cases ey
  obtain ⟨r,r1,r2,rfl⟩:=zeY (by omega) mx
  exact O.asym _ _ (h.dd (by omega)) (h.dd (by omega)) (g2' r r1 (by omega))
 have xl:∀ x,((arrOf st).extract (sa + k) sb)[((arrOf st).extract (sa + k) sb).size - 1]? = some x->∀ y ∈ ((arrOf st).extract sb (sb + m)).toList,lt x y = false:=fun x ex y my=>by
  rw [xz,zm1 (by omega) (by omega)] at ex
  cases ex
  obtain ⟨r,r1,r2,rfl⟩:=zeY (by omega) my
  rw [show sa + k + (sb - (sa + k) - 1) = sb - 1 by omega]
  exact O.asym _ _ (h.dd (by omega)) (h.dd (by omega)) (f1' r r1 r2)
 have fin:∀ (out:Array Keyed) (st':SortSt) (st1:SortSt),MDone lt (((arrOf st).extract (sa + k) sb).toList ++ ((arrOf st).extract sb (sb + m)).toList) out.toList->sameSt st1 st'->arrOf st1 = arrOf st->kindOf st1 = kindOf st->failedOf st1 = failedOf st->pendingOf st1 = ((pendingOf st).setIfInBounds i (sa,na + nb,pw)).eraseIdxIfInBounds (i + 1) ->
   ∀ st2:SortSt,kindOf st2 = kindOf st'->failedOf st2 = failedOf st'->pendingOf st2 = pendingOf st'->arrOf st2 = List.foldl (fun a x=>a.setIfInBounds (sa + k + x.snd) x.fst) (arrOf st') out.toList.zipIdx->Q true st2/\failedOf st2 = none:=fun out st' st1 hd hss ea1 ek1 ef1 ep1 st2 ek ef ep ea=>by
  obtain ⟨s1,s2,s3,s4⟩:=hss
  have hol:out.toList.length = sb - (sa + k) + m:=by
   have:=hd.1.length_eq
   rw [List.length_append] at this
   simp only [Array.length_toList] at this ⊢
   omega
  rw [s2,ea1] at ea
  have hw:=zgI (sa + k) out.toList 0 (arrOf st) (by omega)
  have ht:(arrOf st2).toList = (arrOf st).toList.take (sa + k) ++ out.toList ++ (arrOf st).toList.drop (sb + m):=by
   rw [ea]
   rw [Nat.add_zero] at hw
   rw [hw]
   congr 2
   omega
  have hpm:(arrOf st2).Perm (arrOf st):=by
   rw [Array.perm_iff_toList_perm,ht]
   have e0:(arrOf st).toList = (arrOf st).toList.take (sa + k) ++ (((arrOf st).extract (sa + k) sb).toList ++ ((arrOf st).extract sb (sb + m)).toList) ++ (arrOf st).toList.drop (sb + m):=by
    rw [Array.toList_extract,Array.toList_extract,List.extract_eq_take_drop,List.extract_eq_take_drop,List.append_assoc,List.append_assoc,show sb + m - sb = m by omega]
    have q1:(arrOf st).toList.drop (sb + m) = ((arrOf st).toList.drop sb).drop m:=by rw [List.drop_drop]
    rw [q1,List.take_append_drop]
    have q2:(arrOf st).toList.drop sb = ((arrOf st).toList.drop (sa + k)).drop (sb - (sa + k)):=by rw [List.drop_drop]; congr 1; omega
    rw [q2,List.take_append_drop,List.take_append_drop]
   conv=>rhs; rw [e0]
   exact (hd.1.append_left _).append_right _
  have hTs:Ts kd D a₀ st2:=⟨ek.trans (s1.trans (ek1.trans h.kd)),ef.trans (s4.trans (ef1.trans h.fl)),hpm.trans h.pm,h.d⟩
  have tl:((arrOf st).toList.take (sa + k)).length = sa + k:=by rw [List.length_take,Array.length_toList]; omega
  have gout:∀ j,j < sa + k\/sb + m <= j->G (arrOf st2) j = G (arrOf st) j:=fun j hj=>by
   unfold G
   congr 1
   rw [<- Array.getElem?_toList,<- Array.getElem?_toList,ht]
   rcases hj with hj | hj
   ·rw [List.append_assoc,List.getElem?_append_left (by omega),List.getElem?_take,if_pos hj]
   ·rw [List.getElem?_append_right (by rw [List.length_append,tl,hol]; omega),List.length_append,tl,hol,List.getElem?_drop]
    congr 1
    omega
  have gin:∀ j,sa + k <= j->j < sb + m->∃ z,out.toList[j - (sa + k)]? = some z/\G (arrOf st2) j = z/\∃ r,sa + k <= r/\r < sb + m/\G (arrOf st) r = z:=fun j h1 h2=>by
   have hj:j - (sa + k) < out.toList.length:=by omega
   have ez:=List.getElem?_eq_getElem hj
   refine ⟨_,ez,zph ?_,?_⟩
   ·rw [ht,List.append_assoc,List.getElem?_append_right (by omega),tl,List.getElem?_append_left hj]
    exact ez
   ·have mz:=hd.1.mem_iff.mp (List.mem_of_getElem? ez)
    rcases List.mem_append.mp mz with mz | mz
    ·obtain ⟨r,r1,r2,r3⟩:=zeY (by omega) mz
     exact ⟨r,r1,by omega,r3⟩
    ·obtain ⟨r,r1,r2,r3⟩:=zeY (by omega) mz
     exact ⟨r,by omega,r2,r3⟩
  refine ⟨q st2 hTs (ep.trans (s3.trans ep1)) (fun j hj=>gout j (by omega)) fun p r hp hpr hr=>?_,hTs.fl⟩
  have up:∀ p q',sa <= p->p < sa + k->sb <= q'->q' < sb + nb->lt (G (arrOf st) q') (G (arrOf st) p) = false:=fun p q' p1 p2 q1 q2=>O.tr _ _ _ (h.dd (by omega)) (h.dd (i:=sb) (by omega)) (h.dd (by omega)) (g1' p p1 p2) (sB sb q' (Nat.le_refl _) q1 q2)
  have dn:∀ p q',sa <= p->p < sb->sb + m <= q'->q' < sb + nb->lt (G (arrOf st) q') (G (arrOf st) p) = false:=fun p q' p1 p2 q1 q2=>O.tr _ _ _ (h.dd (by omega)) (h.dd (i:=sb - 1) (by omega)) (h.dd (by omega)) (sA p (sb - 1) p1 (by omega) (by omega)) (f2' q' q1 q2)
  by_cases p1:p < sa + k
  ·rw [gout p (.inl p1)]
   by_cases r1:r < sa + k
   ·rw [gout r (.inl r1)]
    exact sA p r hp hpr (by omega)
   by_cases r2:sb + m <= r
   ·rw [gout r (.inr r2)]
    exact up p r hp p1 (by omega) (by omega)
   ·obtain ⟨z,_,ez,t,t1,t2,t3⟩:=gin r (by omega) (by omega)
    rw [ez,<- t3]
    by_cases tb:t < sb
    ·exact sA p t hp (by omega) (by omega)
    ·exact up p t hp p1 (by omega) (by omega)
  by_cases p2:sb + m <= p
  ·rw [gout p (.inr p2),gout r (.inr (by omega))]
   exact sB p r (by omega) hpr (by omega)
  obtain ⟨z,oz,ez,t,t1,t2,t3⟩:=gin p (by omega) (by omega)
  by_cases r2:sb + m <= r
  ·rw [gout r (.inr r2),ez,<- t3]
   by_cases tb:t < sb
   ·exact dn t r (by omega) tb r2 (by omega)
   ·exact sB t r (by omega) (by omega) (by omega)
  ·obtain ⟨z',oz',ez',_⟩:=gin r (by omega) (by omega)
   rw [ez,ez']
   exact zaX O hd.2 (fun x mx=>by
    rcases List.mem_append.mp (hd.1.mem_iff.mp mx) with mx | mx
    ·exact xD x mx
    ·exact yD x mx) (show p - (sa + k) <= r - (sa + k) by omega) oz oz'
 have xz1:1 <= ((arrOf st).extract (sa + k) sb).size:=by rw [xz]; omega
 have yz1:1 <= ((arrOf st).extract sb (sb + m)).size:=by rw [yz]; omega
 have xz1:1 <= ((arrOf st).extract (sa + k) sb).size:=by rw [xz]; omega
 have yz1:1 <= ((arrOf st).extract sb (sb + m)).size:=by rw [yz]; omega
 by_cases c3:na - k <= m
 ·rw [if_pos c3]
  refine wpS_bind (zjc O h.kd xD yD xS yS xz1 yz1 y0 xl fun out st' hd hss=>?_)
  refine wpS_bind (wpS_modify (wpS_bind (wpS_get ?_)))
  obtain ⟨z1,z2⟩:=fin out st' _ hd hss rfl rfl rfl rfl (setArr st' (List.foldl (fun a x=>a.setIfInBounds (sa + k + x.snd) x.fst) (arrOf st') out.toList.zipIdx)) rfl rfl rfl rfl
  refine wpS_pure ?_
  show Q (failedOf (setArr st' (List.foldl (fun a x=>a.setIfInBounds (sa + k + x.snd) x.fst) (arrOf st') out.toList.zipIdx))).isNone (setArr st' (List.foldl (fun a x=>a.setIfInBounds (sa + k + x.snd) x.fst) (arrOf st') out.toList.zipIdx))
  rw [z2]
  exact z1
 ·rw [if_neg c3]
  refine wpS_bind (zjm O h.kd xD yD xS yS xz1 yz1 y0 xl fun out st' hd hss=>?_)
  refine wpS_bind (wpS_modify (wpS_bind (wpS_get ?_)))
  obtain ⟨z1,z2⟩:=fin out st' _ hd hss rfl rfl rfl rfl (setArr st' (List.foldl (fun a x=>a.setIfInBounds (sa + k + x.snd) x.fst) (arrOf st') out.toList.zipIdx)) rfl rfl rfl rfl
  refine wpS_pure ?_
  show Q (failedOf (setArr st' (List.foldl (fun a x=>a.setIfInBounds (sa + k + x.snd) x.fst) (arrOf st') out.toList.zipIdx))).isNone (setArr st' (List.foldl (fun a x=>a.setIfInBounds (sa + k + x.snd) x.fst) (arrOf st') out.toList.zipIdx))
  rw [z2]
  exact z1
def Stk (lt:Keyed->Keyed->Bool) (xs:Array Keyed):Nat->List (Nat × Nat × Nat)->Nat->Prop
 | s,[],e=>s = e
 | s,r :: p,e=>r.1 = s/\1 <= r.2.1/\Sg lt xs s (s + r.2.1)/\Stk lt xs (s + r.2.1) p e
theorem Stk.le {xs:Array Keyed}:∀ {p:List (Nat × Nat × Nat)} {s e:Nat},Stk lt xs s p e->s + p.length <= e
 | [],s,e,h=>by have:s = e:=h; simp; omega
 | r :: p,s,e,h=>by
  obtain ⟨h1,h2,h3,h4⟩:=h
  have:=Stk.le h4
  rw [List.length_cons]
  omega
theorem Stk.mono {xs ys:Array Keyed}:∀ {p:List (Nat × Nat × Nat)} {s e:Nat},Stk lt xs s p e->(∀ i,s <= i->i < e->G ys i = G xs i)->Stk lt ys s p e
 | [],s,e,h,_=>h
 | r :: p,s,e,h,k=>by
  obtain ⟨h1,h2,h3,h4⟩:=h
  have:=Stk.le h4
  refine ⟨h1,h2,fun i j hi hij hj=>?_,Stk.mono h4 fun i hi hj=>k i (by omega) hj⟩
  rw [k i (by omega) (by omega),k j (by omega) (by omega)]
  exact h3 i j hi hij hj
theorem Stk.push {xs:Array Keyed} {n w':Nat}:∀ {p:List (Nat × Nat × Nat)} {s e:Nat},Stk lt xs s p e->1 <= n->Sg lt xs e (e + n)->Stk lt xs s (p ++ [(e,n,w')]) (e + n)
 | [],s,e,h,h1,h2=>by
  have:s = e:=h
  subst this
  exact ⟨rfl,h1,h2,rfl⟩
 | r :: p,s,e,h,k1,k2=>by
  obtain ⟨h1,h2,h3,h4⟩:=h
  exact ⟨h1,h2,h3,Stk.push h4 k1 k2⟩
theorem Stk.modLast {xs:Array Keyed} {pw:Nat}:∀ {p:List (Nat × Nat × Nat)} {s e:Nat},Stk lt xs s p e->∀ k,Stk lt xs s (p.modify k fun x=>(x.1,x.2.1,pw)) e
 | [],s,e,h,k=>by simpa using h
 | r :: p,s,e,h,0=>by
  obtain ⟨h1,h2,h3,h4⟩:=h
  exact ⟨h1,h2,h3,h4⟩
 | r :: p,s,e,h,k + 1=>by
  obtain ⟨h1,h2,h3,h4⟩:=h
  exact ⟨h1,h2,h3,Stk.modLast h4 k⟩
theorem Stk.at {xs:Array Keyed} {sa na pw sb nb pw2:Nat}:∀ {p:List (Nat × Nat × Nat)} {s e i:Nat},Stk lt xs s p e->p[i]? = some (sa,na,pw)->p[i + 1]? = some (sb,nb,pw2) ->
  s <= sa/\sb = sa + na/\1 <= na/\1 <= nb/\sb + nb <= e/\Sg lt xs sa (sa + na)/\Sg lt xs sb (sb + nb)/\∀ ys:Array Keyed,(∀ j,j < sa\/sa + na + nb <= j->G ys j = G xs j)->Sg lt ys sa (sa + na + nb)->Stk lt ys s ((p.set i (sa,na + nb,pw)).eraseIdx (i + 1)) e
 | [],s,e,i,_,h1,_=>by simp at h1
 | r :: p,s,e,0,h,e1,e2=>by
  have er:r = (sa,na,pw):=by simpa using e1
  subst er
  cases p with
  | nil=>simp at e2
  | cons r2 p =>
   have er2:r2 = (sb,nb,pw2):=by simpa using e2
   subst er2
   obtain ⟨h1,h2,h3,h5,h6,h7,h8⟩:=h
   have h1':sa = s:=h1
   have h5':sb = s + na:=h5
   subst h1'
   have hle:=Stk.le h8
   have h6':1 <= nb:=h6
   have h2':1 <= na:=h2
   subst h5'
   have h8':Stk lt xs (sa + na + nb) p e:=h8
   refine ⟨Nat.le_refl _,rfl,h2',h6',by have:sa + na + nb + p.length <= e:=hle; omega,h3,h7,fun ys k1 k2=>?_⟩
   refine ⟨rfl,by show 1 <= na + nb; omega,?_,?_⟩
   ·show Sg lt ys sa (sa + (na + nb))
    rw [<- Nat.add_assoc]
    exact k2
   ·show Stk lt ys (sa + (na + nb)) p e
    rw [<- Nat.add_assoc]
    exact Stk.mono h8' fun i hi hj=>k1 i (.inr hi)
 | r :: p,s,e,i + 1,h,e1,e2=>by
  obtain ⟨h1,h2,h3,h4⟩:=h
  obtain ⟨q1,q2,q3,q4,q5,q6,q7,q8⟩:=Stk.at h4 (by simpa using e1) (by simpa using e2)
  refine ⟨by omega,q2,q3,q4,q5,q6,q7,fun ys k1 k2=>?_⟩
  refine ⟨h1,h2,fun i j hi hij hj=>?_,q8 ys k1 k2⟩
  rw [k1 i (.inl (by omega)),k1 j (.inl (by omega))]
  exact h3 i j hi hij hj
theorem zeX (O:LtOk prog w A E s kd D lt) {a₀:Array Keyed} {i lo:Nat} {st:SortSt} {Q:Bool->SortSt->Prop} (h:Ts kd D a₀ st) (hs:Stk lt (arrOf st) 0 (pendingOf st).toList lo) (hlo:lo <= a₀.size) (hi:i + 1 < (pendingOf st).size)
  (q:∀ st',Ts kd D a₀ st'->Stk lt (arrOf st') 0 (pendingOf st').toList lo->(pendingOf st').size + 1 = (pendingOf st).size->(∀ j,lo <= j->G (arrOf st') j = G (arrOf st) j)->Q true st'):wpS (model prog w) A E s (mergeAt' i) Q st:=by
 obtain ⟨⟨sa,na,pw⟩,g1⟩:∃ r,(pendingOf st)[i]? = some r:=⟨_,Array.getElem?_eq_getElem (by omega)⟩
 obtain ⟨⟨sb,nb,pw2⟩,g2⟩:∃ r,(pendingOf st)[i + 1]? = some r:=⟨_,Array.getElem?_eq_getElem (by omega)⟩
 obtain ⟨q1,q2,q3,q4,q5,q6,q7,q8⟩:=Stk.at hs (i:=i) (by rw [<- Array.getElem?_toList] at g1; exact g1) (by rw [<- Array.getElem?_toList] at g2; exact g2)
 refine zjj O h g1 g2 q2 q3 q4 (by omega) q6 q7 fun st' hT hp hg hS=>?_
 have hpl:(pendingOf st').toList = ((pendingOf st).toList.set i (sa,na + nb,pw)).eraseIdx (i + 1):=by
  rw [hp,Array.eraseIdxIfInBounds,dif_pos (by rw [Array.size_setIfInBounds]; exact hi),Array.toList_eraseIdx,Array.toList_setIfInBounds]
 refine q st' hT ?_ ?_ fun j hj=>hg j (.inr (by omega))
 ·rw [hpl]
  exact q8 _ hg hS
 ·have:=congrArg List.length hpl
  rw [List.length_eraseIdx_of_lt (by simp; omega),List.length_set,Array.length_toList,Array.length_toList] at this
  omega
theorem zn6 (O:LtOk prog w A E s kd D lt) {a₀:Array Keyed} {st:SortSt} {Q:Unit->SortSt->Prop} (h:Ts kd D a₀ st) (hp0:pendingOf st = #[]) (h2:2 <= a₀.size)
  (q:∀ st',Ts kd D a₀ st'->Sg lt (arrOf st') 0 a₀.size->Q () st'):wpS (model prog w) A E s sortRuns' Q st:=by
 rw [sortRuns'_eq]
 refine wpS_bind (wpS_get ?_)
 dsimp only
 rw [h.size]
 generalize minRun' a₀.size a₀.size 0 = mr
 refine wpS_bind (wpS_mono (wpS_forRange (a:=0)
  (I:=fun k c st'=>∃ lo,c = (none,lo)/\k <= lo/\lo <= a₀.size/\Ts kd D a₀ st'/\Stk lt (arrOf st') 0 (pendingOf st').toList lo)
  (Q:=fun c st'=>∃ lo,c = (none,lo)/\lo = a₀.size/\Ts kd D a₀ st'/\Stk lt (arrOf st') 0 (pendingOf st').toList lo) ?step ?fin ⟨0,rfl,Nat.le_refl _,Nat.zero_le _,h,by rw [hp0]; rfl⟩) ?post)
 case fin =>
  rintro c st' ⟨lo,rfl,k1,k2,hT,hS⟩
  exact ⟨lo,rfl,by omega,hT,hS⟩
 case post =>
  rintro c st' ⟨lo,rfl,rfl,hT,hS⟩
  dsimp only
  have hz:=Stk.le hS
  rw [Array.length_toList] at hz
  refine wpS_bind (wpS_mono (wpS_forRange (a:=0)
   (I:=fun k c st2=>c = (none,())/\Ts kd D a₀ st2/\Stk lt (arrOf st2) 0 (pendingOf st2).toList a₀.size/\(pendingOf st2).size + k <= a₀.size + 0\/c = (none,())/\Ts kd D a₀ st2/\Stk lt (arrOf st2) 0 (pendingOf st2).toList a₀.size/\(pendingOf st2).size <= 1)
   (Q:=fun c st2=>c = (none,())/\Ts kd D a₀ st2/\Stk lt (arrOf st2) 0 (pendingOf st2).toList a₀.size/\(pendingOf st2).size <= 1) ?stepF ?finF (.inl ⟨rfl,hT,hS,by omega⟩)) ?postF)
  case finF =>
   rintro c st2 (⟨rfl,h3,h4,h5⟩ | hh)
   ·exact ⟨rfl,h3,h4,by omega⟩
   ·exact hh
  case stepF =>
   rintro k c st2 _ hk hh
   have hh':c = (none,())/\Ts kd D a₀ st2/\Stk lt (arrOf st2) 0 (pendingOf st2).toList a₀.size/\((pendingOf st2).size + k <= a₀.size\/(pendingOf st2).size <= 1):=by
    rcases hh with ⟨a1,a2,a3,a4⟩ | ⟨a1,a2,a3,a4⟩
    ·exact ⟨a1,a2,a3,.inl (by omega)⟩
    ·exact ⟨a1,a2,a3,.inr a4⟩
   obtain ⟨rfl,h3,h4,h5⟩:=hh'
   refine wpS_bind (wpS_get ?_)
   try dsimp only
   by_cases d1:(pendingOf st2).size <= 1
   ·rw [if_pos d1]
    exact wpS_pure ⟨rfl,h3,h4,d1⟩
   rw [if_neg d1]
   generalize hgen:(if (if (pendingOf st2).size - 2 > 0 then Option.map (fun x=>x.snd.fst) (pendingOf st2)[(pendingOf st2).size - 2 - 1]? else none).any (fun x=>decide (x < (pendingOf st2)[(pendingOf st2).size - 2 + 1]?.elim 0 fun x=>x.snd.fst)) = true then (pendingOf st2).size - 2 - 1 else (pendingOf st2).size - 2) = ii
   have hii:ii + 1 < (pendingOf st2).size:=by
    have hx:∀ (P:Prop) (_:Decidable P),(if P then (pendingOf st2).size - 2 - 1 else (pendingOf st2).size - 2) + 1 < (pendingOf st2).size:=fun P _=>by
     by_cases z:P
     ·rw [if_pos z]; omega
     ·rw [if_neg z]; omega
    rw [<- hgen]
    exact hx _ _
   refine wpS_bind (zeX O h3 h4 (Nat.le_refl _) hii fun st5 h6 s6 z6 g6=>?_)
   simp only [Bool.not_true,Bool.false_eq_true,if_false]
   exact wpS_pure (.inl ⟨rfl,h6,s6,by omega⟩)
  case postF =>
   rintro c st2 ⟨rfl,h3,h4,h5⟩
   dsimp only
   refine wpS_pure (q st2 h3 ?_)
   cases hl:(pendingOf st2).toList with
   | nil =>
    rw [hl] at h4
    have:0 = a₀.size:=h4
    omega
   | cons r rest =>
    have hr:rest = []:=by
     have:=congrArg List.length hl
     rw [Array.length_toList,List.length_cons] at this
     exact List.eq_nil_of_length_eq_zero (by omega)
    rw [hl,hr] at h4
    obtain ⟨e1,e2,e3,e4⟩:=h4
    have e4':0 + r.2.1 = a₀.size:=e4
    rw [<- e4']
    exact e3
 case step =>
  rintro k c st' _ hk ⟨lo,rfl,k1,k2,hT,hS⟩
  dsimp only
  by_cases c1:lo ≥ a₀.size
  ·rw [if_pos c1]
   exact wpS_pure ⟨lo,rfl,by omega,hT,hS⟩
  rw [if_neg c1]
  refine wpS_bind (zmZ O (hT.tb lo) (by omega) (by omega) fun m st2 hT2 m1 m2 hS2=>?_)
  dsimp only
  by_cases c2:m < mr
  ·rw [if_pos c2]
   refine wpS_bind (wpS_lift (wpAny_rule ⟨rfl,?_⟩))
   refine wpS_bind (zl2 O hT2 (n:=min (a₀.size - lo) mr) (by omega) m1 (by omega) hS2 fun stN hTN hRun=>?_)
   simp only [Bool.not_true,Bool.false_eq_true,if_false]
   have n1:1 <= min (a₀.size - lo) mr:=by omega
   have n2:lo + min (a₀.size - lo) mr <= a₀.size:=by omega
   generalize min (a₀.size - lo) mr = n at n1 n2 hRun
   have hTs:Ts kd D a₀ stN:=⟨hTN.kd,hTN.fl,hTN.pm,hTN.d⟩
   have hSN:Stk lt (arrOf stN) 0 (pendingOf stN).toList lo:=by
    rw [hTN.pe]
    exact Stk.mono hS fun i _ hi=>hTN.lo i hi
   refine wpS_bind (wpS_get ?_)
   have fin:∀ stM:SortSt,Ts kd D a₀ stM->Stk lt (arrOf stM) 0 (pendingOf stM).toList lo->(∀ j,lo <= j->G (arrOf stM) j = G (arrOf stN) j)->Stk lt (arrOf stM) 0 ((pendingOf stM).push (lo,n,0)).toList (lo + n):=fun stM hM hMS hMg=>by
    rw [Array.toList_push]
    refine Stk.push hMS n1 fun i j hi hij hj=>?_
    rw [hMg i hi,hMg j (by omega)]
    exact hRun i j hi hij hj
   cases hbk:(pendingOf stN).back? with
   | none =>
    try dsimp only
    exact wpS_bind (wpS_modify (wpS_pure ⟨lo + n,rfl,by omega,by omega,⟨hTs.kd,hTs.fl,hTs.pm,hTs.d⟩,fin stN hTs hSN fun _ _=>rfl⟩))
   | some r =>
    obtain ⟨s1,n1',w1⟩:=r
    try dsimp only
    generalize power' a₀.size (2 * s1 + n1') (2 * s1 + n1' + n1' + n) a₀.size = pw
    refine wpS_bind (wpS_mono (wpS_forRange (a:=0)
     (I:=fun _ c stM=>c = (none,())/\Ts kd D a₀ stM/\Stk lt (arrOf stM) 0 (pendingOf stM).toList lo/\∀ j,lo <= j->G (arrOf stM) j = G (arrOf stN) j)
     (Q:=fun c stM=>c = (none,())/\Ts kd D a₀ stM/\Stk lt (arrOf stM) 0 (pendingOf stM).toList lo/\∀ j,lo <= j->G (arrOf stM) j = G (arrOf stN) j) ?stepM (fun _ _ hh=>hh) ⟨rfl,hTs,hSN,fun _ _=>rfl⟩) ?postM)
    case stepM =>
     rintro kk c stM _ _ ⟨rfl,hM,hMS,hMg⟩
     refine wpS_bind (wpS_get ?_)
     try dsimp only
     by_cases d1:(pendingOf stM).size > 1
     ·rw [if_pos d1]
      obtain ⟨⟨oa,ob,oc⟩,og⟩:∃ r,(pendingOf stM)[(pendingOf stM).size - 2]? = some r:=⟨_,Array.getElem?_eq_getElem (by omega)⟩
      rw [og]
      dsimp only
      by_cases d2:oc <= pw
      ·rw [if_pos d2]
       exact wpS_pure ⟨rfl,hM,hMS,hMg⟩
      ·rw [if_neg d2]
       refine wpS_bind (zeX O hM hMS k2 (by omega) fun st5 h5 s5 z5 g5=>?_)
       simp only [Bool.not_true,Bool.false_eq_true,if_false]
       exact wpS_pure ⟨rfl,h5,s5,fun j hj=>(g5 j hj).trans (hMg j hj)⟩
     ·rw [if_neg d1]
      exact wpS_pure ⟨rfl,hM,hMS,hMg⟩
    case postM =>
     rintro c stM ⟨rfl,hM,hMS,hMg⟩
     dsimp only
     refine wpS_bind (wpS_modify (wpS_bind (wpS_modify (wpS_pure ⟨lo + n,rfl,by omega,by omega,⟨hM.kd,hM.fl,hM.pm,hM.d⟩,?_⟩))))
     refine fin (setPending stM ((pendingOf stM).modify ((pendingOf stM).size - 1) fun x=>(x.1,x.2.1,pw))) ⟨hM.kd,hM.fl,hM.pm,hM.d⟩ ?_ hMg
     show Stk lt (arrOf stM) 0 ((pendingOf stM).modify ((pendingOf stM).size - 1) fun x=>(x.1,x.2.1,pw)).toList lo
     rw [Array.toList_modify]
     exact Stk.modLast hMS _
  ·rw [if_neg c2]
   have n1:1 <= m:=m1
   have n2:lo + m <= a₀.size:=by omega
   have hRun:=hS2
   have hTN:=hT2
   generalize m = n at n1 n2 hRun
   revert hTN hRun
   generalize st2 = stN
   intro hTN hRun
   have hTs:Ts kd D a₀ stN:=⟨hTN.kd,hTN.fl,hTN.pm,hTN.d⟩
   have hSN:Stk lt (arrOf stN) 0 (pendingOf stN).toList lo:=by
    rw [hTN.pe]
    exact Stk.mono hS fun i _ hi=>hTN.lo i hi
   refine wpS_bind (wpS_get ?_)
   have fin:∀ stM:SortSt,Ts kd D a₀ stM->Stk lt (arrOf stM) 0 (pendingOf stM).toList lo->(∀ j,lo <= j->G (arrOf stM) j = G (arrOf stN) j)->Stk lt (arrOf stM) 0 ((pendingOf stM).push (lo,n,0)).toList (lo + n):=fun stM hM hMS hMg=>by
    rw [Array.toList_push]
    refine Stk.push hMS n1 fun i j hi hij hj=>?_
    rw [hMg i hi,hMg j (by omega)]
    exact hRun i j hi hij hj
   cases hbk:(pendingOf stN).back? with
   | none =>
    try dsimp only
    exact wpS_bind (wpS_modify (wpS_pure ⟨lo + n,rfl,by omega,by omega,⟨hTs.kd,hTs.fl,hTs.pm,hTs.d⟩,fin stN hTs hSN fun _ _=>rfl⟩))
   | some r =>
    obtain ⟨s1,n1',w1⟩:=r
    try dsimp only
    generalize power' a₀.size (2 * s1 + n1') (2 * s1 + n1' + n1' + n) a₀.size = pw
    refine wpS_bind (wpS_mono (wpS_forRange (a:=0)
     (I:=fun _ c stM=>c = (none,())/\Ts kd D a₀ stM/\Stk lt (arrOf stM) 0 (pendingOf stM).toList lo/\∀ j,lo <= j->G (arrOf stM) j = G (arrOf stN) j)
     (Q:=fun c stM=>c = (none,())/\Ts kd D a₀ stM/\Stk lt (arrOf stM) 0 (pendingOf stM).toList lo/\∀ j,lo <= j->G (arrOf stM) j = G (arrOf stN) j) ?stepM (fun _ _ hh=>hh) ⟨rfl,hTs,hSN,fun _ _=>rfl⟩) ?postM)
    case stepM =>
     rintro kk c stM _ _ ⟨rfl,hM,hMS,hMg⟩
     refine wpS_bind (wpS_get ?_)
     try dsimp only
     by_cases d1:(pendingOf stM).size > 1
     ·rw [if_pos d1]
      obtain ⟨⟨oa,ob,oc⟩,og⟩:∃ r,(pendingOf stM)[(pendingOf stM).size - 2]? = some r:=⟨_,Array.getElem?_eq_getElem (by omega)⟩
      rw [og]
      dsimp only
      by_cases d2:oc <= pw
      ·rw [if_pos d2]
       exact wpS_pure ⟨rfl,hM,hMS,hMg⟩
      ·rw [if_neg d2]
       refine wpS_bind (zeX O hM hMS k2 (by omega) fun st5 h5 s5 z5 g5=>?_)
       simp only [Bool.not_true,Bool.false_eq_true,if_false]
       exact wpS_pure ⟨rfl,h5,s5,fun j hj=>(g5 j hj).trans (hMg j hj)⟩
     ·rw [if_neg d1]
      exact wpS_pure ⟨rfl,hM,hMS,hMg⟩
    case postM =>
     rintro c stM ⟨rfl,hM,hMS,hMg⟩
     dsimp only
     refine wpS_bind (wpS_modify (wpS_bind (wpS_modify (wpS_pure ⟨lo + n,rfl,by omega,by omega,⟨hM.kd,hM.fl,hM.pm,hM.d⟩,?_⟩))))
     refine fin (setPending stM ((pendingOf stM).modify ((pendingOf stM).size - 1) fun x=>(x.1,x.2.1,pw))) ⟨hM.kd,hM.fl,hM.pm,hM.d⟩ ?_ hMg
     show Stk lt (arrOf stM) 0 ((pendingOf stM).modify ((pendingOf stM).size - 1) fun x=>(x.1,x.2.1,pw)).toList lo
     rw [Array.toList_modify]
     exact Stk.modLast hMS _
end
end L2
namespace L2
open PySem PySem.Spec PySem.Calls PyProof.Rows PySem.W
theorem lexLt_trans0:∀ {a b c:List Int},HT.lexLt a b = true->HT.lexLt b c = true->HT.lexLt a c = true
 | [],[],_,h,_=>by cases h
 | [],_ :: _,[],_,h=>by cases h
 | [],_ :: _,_ :: _,_,_=>rfl
 | _ :: _,[],_,h,_=>by cases h
 | _ :: _,_ :: _,[],_,h=>by cases h
 | x :: xs,y :: ys,z :: zs,h,k=>by
  rw [HT.lexLt_cons] at h k ⊢
  split at h
  ·rename_i e
   subst e
   split at k
   ·rename_i e
    subst e
    rw [if_pos rfl]
    exact lexLt_trans0 h k
   ·rename_i e
    rw [if_neg e]
    exact k
  ·rename_i e
   have h':=of_decide_eq_true h
   split at k
   ·rename_i e2
    subst e2
    rw [if_neg e]
    exact h
   ·have k':=of_decide_eq_true k
    rw [if_neg (by omega)]
    exact decide_eq_true (by omega)
theorem lexLt_tri0:∀ (a b:List Int),HT.lexLt a b = true\/a = b\/HT.lexLt b a = true
 | [],[]=>.inr (.inl rfl)
 | [],_ :: _=>.inl rfl
 | _ :: _,[]=>.inr (.inr rfl)
 | x :: xs,y :: ys=>by
  rw [HT.lexLt_cons,HT.lexLt_cons]
  by_cases e:x = y
  ·subst e
   rw [if_pos rfl,if_pos rfl]
   rcases lexLt_tri0 xs ys with h | h | h
   ·exact .inl h
   ·exact .inr (.inl (by rw [h]))
   ·exact .inr (.inr h)
  ·rw [if_neg e,if_neg (Ne.symm e)]
   by_cases hl:x < y
   ·exact .inl (decide_eq_true hl)
   ·exact .inr (.inr (decide_eq_true (by omega)))
section
variable {prog:Program} {w:World} {A:Around} {E:Value->Shared->Prop} {s:Shared}
theorem zhs {a:Addr} {vs:List Value} {n:Nat} {kd:SortKind} {lt:Keyed->Keyed->Bool} {P:PySem.Fin->Shared->Prop} (ho:s.heap.get? a = some (seqObj "list" vs.toArray n)) (hz:vs.length <= 10000000)
  (hkd:∀ h3,KeptBut a s.heap h3->∀ (Q:SortKind->Shared->Prop),2 <= vs.length->Q kd { s with heap:=h3 }->wpAny (model prog w) A (keyKind' vs.toArray) Q E { s with heap:=h3 })
  (hO:∀ h3,KeptBut a s.heap h3->LtOk prog w A E { s with heap:=h3 } kd (fun x=>x.1 = x.2/\x.1 ∈ vs) lt)
  (h:∀ h' c (out:List Value),KeptBut a s.heap h'->out.Perm vs->out.Pairwise (fun x y=>lt (y,y) (x,x) = false)->h'.get? a = some (seqObj "list" out.toArray c)->P (.done (.ret .none)) { s with heap:=h' }) :
  wpAny (model prog w) A (Builtin.«list.sort» ⟨[.ref a],[]⟩) P E s:=by
 have ha:a < s.heap.objs.size:=Heap.lt_size ho
 have s1:=Heap.SameBut.update s.heap a (Obj.mapSeq fun _=>(#[]:Array Value))
 obtain ⟨e1,ho1⟩:∃ e1,(s.heap.update a (Obj.mapSeq fun _=>(#[]:Array Value))).get? a = some (seqObj "list" #[] e1):=⟨_,get?_update_seq ho fun _=>#[]⟩
 have keep:KeptBut a s.heap (((s.heap.update a (Obj.mapSeq fun _=>(#[]:Array Value))).push (seqObj "tuple" vs.toArray 0)).push (seqObj "list" #[] 0)):=fun b o nb e =>
  Heap.get?_push_of_some _ (Heap.get?_push_of_some _ ((s1.2 b nb).trans e))
 have ha3:(((s.heap.update a (Obj.mapSeq fun _=>(#[]:Array Value))).push (seqObj "tuple" vs.toArray 0)).push (seqObj "list" #[] 0)).get? a = some (seqObj "list" #[] e1):=Heap.get?_push_of_some _ (Heap.get?_push_of_some _ ho1)
 rw [list_sort_plain]
 refine wpAny_bind (listItems_at ho rfl ?_)
 refine wpAny_bind (listUpdate_at ho rfl ?_ (by rw [List.size_toArray,sizeLine_eq]; omega) (Nat.zero_le _))
 refine wpAny_bind (seqEpoch_at ho1 rfl ?_)
 refine wpAny_bind (wpAny_newTuple ?_ (by show vs.length <= _; rw [sizeLine_eq]; omega))
 refine wpAny_bind (wpAny_newList ?_ (Nat.zero_le _))
 refine wpAny_holding ?_
 show wpAny (model prog w) A _ P E { s with heap:=((s.heap.update a (Obj.mapSeq fun _=>(#[]:Array Value))).push (seqObj "tuple" vs.toArray 0)).push (seqObj "list" #[] 0) }
 generalize ((s.heap.update a (Obj.mapSeq fun _=>(#[]:Array Value))).push (seqObj "tuple" vs.toArray 0)).push (seqObj "list" #[] 0) = h3 at keep ha3 ⊢
 dsimp only
 by_cases hn2:vs.toArray.size < 2
 ·rw [if_pos hn2,if_pos hn2]
  refine wpAny_bind (wpAny_pure ?_)
  rw [StateT.run_pure]
  refine wpAny_bind (wpAny_pure ?_)
  dsimp only
  have eo:(arrOf (SortSt.mk' general' (vs.toArray.zip vs.toArray) #[] 7 none)).map (·.2) = List.toArray vs:=by
   apply Array.toList_inj.mp
   show ((vs.toArray.zip vs.toArray).map (·.2)).toList = vs
   rw [Array.toList_map,Array.toList_zip,List.map_snd_zip (Nat.le_refl _)]
  rw [eo]
  have s2:=Heap.SameBut.update h3 a (Obj.mapSeq fun _=>List.toArray vs)
  obtain ⟨c2,hc2⟩:∃ c2,(h3.update a (Obj.mapSeq fun _=>List.toArray vs)).get? a = some (seqObj "list" (List.toArray vs) c2):=⟨_,get?_update_seq ha3 fun _=>List.toArray vs⟩
  refine wpAny_bind (seqEpoch_at ha3 rfl ?_)
  refine wpAny_bind (listUpdate_at ha3 rfl ?_ (Nat.zero_le _) (by show (List.toArray vs).size <= _; rw [List.size_toArray,sizeLine_eq]; omega))
  simp only [bne_self_eq_false,Bool.false_eq_true,if_false]
  refine wpAny_pure (h _ c2 vs (fun b o nb e=>(s2.2 b nb).trans (keep b o nb e)) (List.Perm.refl _) ?_ hc2)
  rw [List.size_toArray] at hn2
  match vs,hn2 with
  | [],_=>exact List.Pairwise.nil
  | [x],_=>exact List.pairwise_singleton _ _
 ·rw [if_neg hn2,if_neg hn2]
  rw [List.size_toArray] at hn2
  refine wpAny_bind (hkd h3 keep _ (by omega) ?_)
  have O:=hO h3 keep
  have hT:Ts kd (fun x:Keyed=>x.1 = x.2/\x.1 ∈ vs) (pairsOf vs) (SortSt.mk' kd (vs.toArray.zip vs.toArray) #[] 7 none):=⟨rfl,rfl,Array.Perm.refl _,fun x m=>by
   rw [pairsOf_toList] at m
   exact mem_zip_self m⟩
  refine wpAny_bind (wpAny_mono (zn6 O (Q:=fun _ st'=>Ts kd (fun x:Keyed=>x.1 = x.2/\x.1 ∈ vs) (pairsOf vs) st'/\Sg lt (arrOf st') 0 (pairsOf vs).size) hT rfl (by rw [pairsOf_size]; omega) fun st' a1 a2=>⟨a1,a2⟩) ?_ fun _ _ e=>e)
  rintro ⟨⟨⟩,st'⟩ s' ⟨rfl,hT',hS'⟩
  dsimp only
  have hp:((arrOf st').toList.map (·.2)).Perm vs:=by
   have h1:=(Array.perm_iff_toList_perm.mp hT'.pm).map (·.2)
   rw [pairsOf_toList,List.map_snd_zip (Nat.le_refl _)] at h1
   exact h1
  have hs:((arrOf st').toList.map (·.2)).Pairwise (fun x y=>lt (y,y) (x,x) = false):=by
   rw [List.pairwise_map,List.pairwise_iff_getElem]
   intro i j hi hj hij
   have hi':i < (pairsOf vs).size:=by rw [<- hT'.size]; simpa using hi
   have hj':j < (pairsOf vs).size:=by rw [<- hT'.size]; simpa using hj
   have g1:=hT'.at hi'
   have g2:=hT'.at hj'
   rw [zar,List.getElem?_eq_getElem hi] at g1
   rw [zar,List.getElem?_eq_getElem hj] at g2
   have d1:=(hT'.dd hi').1
   have d2:=(hT'.dd hj').1
   rw [Option.some.inj g1,Option.some.inj g2]
   have z1:((G (arrOf st') i).2,(G (arrOf st') i).2) = G (arrOf st') i:=Prod.ext d1.symm rfl
   have z2:((G (arrOf st') j).2,(G (arrOf st') j).2) = G (arrOf st') j:=Prod.ext d2.symm rfl
   rw [z1,z2]
   exact hS' i j (Nat.zero_le _) (Nat.le_of_lt hij) hj'
  have eo:(arrOf st').map (·.2) = List.toArray ((arrOf st').toList.map (·.2)):=by
   apply Array.toList_inj.mp
   rw [Array.toList_map]
  rw [eo]
  generalize (arrOf st').toList.map (·.2) = out at hp hs
  have s2:=Heap.SameBut.update h3 a (Obj.mapSeq fun _=>List.toArray out)
  obtain ⟨c2,hc2⟩:∃ c2,(h3.update a (Obj.mapSeq fun _=>List.toArray out)).get? a = some (seqObj "list" (List.toArray out) c2):=⟨_,get?_update_seq ha3 fun _=>List.toArray out⟩
  refine wpAny_bind (seqEpoch_at ha3 rfl ?_)
  refine wpAny_bind (listUpdate_at ha3 rfl ?_ (Nat.zero_le _) (by show (List.toArray out).size <= _; rw [List.size_toArray,hp.length_eq,sizeLine_eq]; omega))
  rw [hT'.fl]
  simp only [bne_self_eq_false,Bool.false_eq_true,if_false]
  exact wpAny_pure (h _ c2 out (fun b o nb e=>(s2.2 b nb).trans (keep b o nb e)) hp hs hc2)
theorem zsq {kd:SortKind} {x y:Keyed} {b:Bool} {st:SortSt} {Q:Option Bool->SortSt->Prop} (hk:kindOf st = kd) (h:wpAny (model prog w) A (keyLt' kd x.1 y.1) (fun c s'=>s' = s/\c = b) (fun _ _=>False) s) (q:Q (some b) st):wpS (model prog w) A E s (lt' x y) Q st:=by
 rw [lt'_eq]
 refine wpS_bind (wpS_get ?_)
 rw [hk]
 refine wpS_bind (wpS_lift (wpAny_attempt (wpAny_mono h (fun c s' hc=>?_) fun _ _ e=>e.elim)))
 obtain ⟨rfl,rfl⟩:=hc
 exact ⟨rfl,wpS_pure q⟩
theorem zkv {Q:Bool->Shared->Prop}:∀ {xs ys:List Value} {ns ms:List Int} (i k:Nat),IntsAre xs ns->IntsAre ys ms->Q (HT.lexLt ns ms) s->KatLex prog w A true (decide (k + xs.length < k + ys.length)) Q (xs.zip ys) i s
 | [],ys,ns,ms,i,k,h1,h2,q=>by
  cases h1
  rw [List.zip_nil_left]
  refine kat_nil ?_
  cases h2 with
  | nil =>
   rw [decide_eq_false (by simp)]
   exact q
  | cons n t h2 =>
   rw [decide_eq_true (by simp)]
   exact q
 | x :: xs,[],ns,ms,i,k,h1,h2,q=>by
  cases h2
  cases h1 with
  | cons n t h1 =>
   rw [List.zip_nil_right]
   refine kat_nil ?_
   rw [decide_eq_false (by simp)]
   exact q
 | x :: xs,y :: ys,ns,ms,i,k,h1,h2,q=>by
  cases h1 with
  | cons n t h1 =>
   cases h2 with
   | cons m u h2 =>
    rw [List.zip_cons_cons]
    refine kat_cons (wpAny_eqBool_int ?_)
    rw [HT.lexLt_cons] at q
    refine kat_go (fun e=>?_) fun e=>?_
    ·have e1:n = m:=by simpa using e
     rw [if_pos e1] at q
     refine kat_yes ?_
     have:=zkv (Q:=Q) (i + 1) (k + 1) h1 h2 q
     have ed:decide (k + ((Value.int n t) :: xs).length < k + ((Value.int m u) :: ys).length) = decide (k + 1 + xs.length < k + 1 + ys.length):=by
      rw [decide_eq_decide,List.length_cons,List.length_cons]; omega
     rw [ed]
     exact this
    ·have e1:n ≠ m:=by simpa using e
     rw [if_neg e1] at q
     refine kat_no ?_
     cases hb:(true && i == 0) with
     | true=>exact oneLt_int q
     | false=>exact kat_one _ _ (lt_int q)
def TupI (h:Heap) (v:Value) (ns:List Int):Prop:=ns ≠ []/\∃ a o xs n,v = .ref a/\h.get? a = some o/\o.cls = .type "tuple"/\o.data = .seq xs n/\IntsAre xs.toList ns
theorem zl0 {vs:List Value} (nums:Value->List Int) (hT:∀ v ∈ vs,TupI s.heap v (nums v)):LtOk prog w A E s (tuples' true) (fun x=>x.1 = x.2/\x.1 ∈ vs) (fun x y=>HT.lexLt (nums x.1) (nums y.1)) where
 ask:=fun x y st Q hx hy hk q=>by
  obtain ⟨_,a,o,xs,n,ex,g1,c1,d1,i1⟩:=hT _ hx.2
  obtain ⟨_,b,o',ys,m,ey,g2,c2,d2,i2⟩:=hT _ hy.2
  refine zsq hk ?_ q
  rw [ex,ey]
  refine kat_lt g1 d1 g2 d2 ?_
  have:=zkv (prog:=prog) (w:=w) (A:=A) (s:=s) (Q:=fun c s'=>s' = s/\c = HT.lexLt (nums (.ref a)) (nums (.ref b))) 0 0 (by rw [ex] at i1; exact i1) (by rw [ey] at i2; exact i2) ⟨rfl,rfl⟩
  simpa using this
 asym:=fun x y _ _ h=>by
  cases e:HT.lexLt (nums y.1) (nums x.1) with
  | false=>rfl
  | true =>
   have:=lexLt_trans0 h e
   rw [HT.lexLt_self] at this
   cases this
 tr:=fun x y z _ _ _ h1 h2=>by
  cases e:HT.lexLt (nums z.1) (nums x.1) with
  | false=>rfl
  | true =>
   rcases lexLt_tri0 (nums y.1) (nums x.1) with h | h | h
   ·rw [h] at h1; cases h1
   ·rw [h] at h2; rw [h2] at e; cases e
   ·have:=lexLt_trans0 e h
    rw [this] at h2
    cases h2
theorem zlC {vs:List Value} (nums:Value->List Int) (hT:∀ v ∈ vs,TupI s.heap v (nums v)) (h2:2 <= vs.length) {Q:SortKind->Shared->Prop} (h:Q (tuples' true) s):wpAny (model prog w) A (keyKind' vs.toArray) Q E s:=by
 have fs:∀ l:List Value,(∀ v ∈ l,TupI s.heap v (nums v))->∃ fs:List Value,KatTups s.heap l fs/\fs.length = l.length/\∀ f ∈ fs,∃ n t,f = Value.int n t:=by
  intro l
  induction l with
  | nil=>intro _; exact ⟨[],KatTups.nil,rfl,(fun f m=>by cases m)⟩
  | cons v l ih =>
   intro hl
   obtain ⟨fs,k,e,fi⟩:=ih fun x m=>hl x (List.mem_cons_of_mem _ m)
   obtain ⟨hne,a,o,xs,n,ev,g1,c1,d1,i1⟩:=hl v List.mem_cons_self
   subst ev
   obtain ⟨f,t,hf⟩:∃ n t,xs[0]? = some (Value.int n t):=by
    cases hx:xs.toList with
    | nil=>rw [hx] at i1; cases hn:nums (.ref a) with
     | nil=>exact absurd hn hne
     | cons x y=>rw [hn] at i1; cases i1
    | cons x r =>
     rw [hx] at i1
     obtain ⟨n,t,rfl⟩:=i1.all x List.mem_cons_self
     exact ⟨n,t,by rw [<- Array.getElem?_toList,hx]; rfl⟩
   refine ⟨.int f t :: fs,KatTups.cons g1 c1 d1 hf k,by simp [e],fun z m=>?_⟩
   rcases List.mem_cons.mp m with rfl | m
   ·exact ⟨f,t,rfl⟩
   ·exact fi z m
 obtain ⟨fs,k,e,fi⟩:=fs vs hT
 refine kat_kind (T:=.type "int") k (by omega) (fun v m=>?_) rfl ?_
 ·obtain ⟨n,t,rfl⟩:=fi v m
  exact .now
 ·rw [show (Value.type "int" != Value.type "tuple") = true by decide]
  exact h
theorem zkB {l:Addr} {vs:List Value} {kd:SortKind} {lt:Keyed->Keyed->Bool} {Q:Value->Shared->Prop} (hl:s.heap.IsList l vs.toArray) (hz:vs.length <= 10000000)
  (hkd:∀ (A':Around) (E':Value->Shared->Prop) h3,(∀ b o,s.heap.get? b = some o->h3.get? b = some o)->∀ (Q:SortKind->Shared->Prop),2 <= vs.length->Q kd { s with heap:=h3 }->wpAny (model prog w) A' (keyKind' vs.toArray) Q E' { s with heap:=h3 })
  (hO:∀ (A':Around) (E':Value->Shared->Prop) h3,(∀ b o,s.heap.get? b = some o->h3.get? b = some o)->LtOk prog w A' E' { s with heap:=h3 } kd (fun x=>x.1 = x.2/\x.1 ∈ vs) lt)
  (h:∀ D h' c (out:List Value),s.heap.objs.size <= D->(∀ b o,s.heap.get? b = some o->h'.get? b = some o)->out.Perm vs->out.Pairwise (fun x y=>lt (y,y) (x,x) = false)->h'.get? D = some (seqObj "list" out.toArray c)->Q (.ref D) { s with heap:=h' }) :
  wpAny (model prog w) A (call (.builtin "sorted") [.ref l]) Q E s:=by
 refine Calls.call_function_entry kind_sorted plain_sorted entry_sorted (args_sorted1 _) ?_
 unfold Builtin.«sorted»
 refine wpAny_bind (m:=checkCount "sorted" 1 1 _) (wpAny_pure ?_)
 refine wpAny_bind (collect_list (vs:=vs) hl ?_ (by rw [sizeLine_eq]; omega))
 refine wpAny_bind (wpAny_newList ?_ (by show vs.length <= _; rw [sizeLine_eq]; omega))
 have hsz:((s.heap.push (seqObj "list" #[] 0)).update s.heap.objs.size (Obj.mapSeq (· ++ (vs.toArray:Array Value)))).objs.size = s.heap.objs.size + 1:=by
  rw [Heap.size_update,size_push']
 have hoL:(((s.heap.push (seqObj "list" #[] 0)).update s.heap.objs.size (Obj.mapSeq (· ++ (vs.toArray:Array Value)))).push (seqObj "list" vs.toArray 0)).get? (s.heap.objs.size + 1) = some (seqObj "list" vs.toArray 0):=by
  rw [<- hsz]; exact Heap.get?_push_size _ rfl
 have keep:∀ b o,s.heap.get? b = some o->(((s.heap.push (seqObj "list" #[] 0)).update s.heap.objs.size (Obj.mapSeq (· ++ (vs.toArray:Array Value)))).push (seqObj "list" vs.toArray 0)).get? b = some o:=fun b o q=>by
  have hlt:b < s.heap.objs.size:=Heap.lt_size q
  rw [Heap.get?_push_ne _ _ _ (by rw [hsz]; exact Nat.ne_of_lt (Nat.lt_succ_of_lt hlt)),Heap.get?_update_ne _ _ _ _ (Nat.ne_of_lt hlt),Heap.get?_push_ne _ _ _ (Nat.ne_of_lt hlt)]
  exact q
 show wpAny _ _ _ _ _ { s with heap:=((s.heap.push (seqObj "list" #[] 0)).update s.heap.objs.size (Obj.mapSeq (· ++ (vs.toArray:Array Value)))).push (seqObj "list" vs.toArray 0) }
 rw [hsz]
 refine wpAny_bind (wpAny_holding (wpAny_call_entry slot_list_sort ⟨_,hoL,rfl⟩ entry_list_sort ?body (args_list_sort _)))
 case body =>
  refine zhs (s:={ s with heap:=((s.heap.push (seqObj "list" #[] 0)).update s.heap.objs.size (Obj.mapSeq (· ++ (vs.toArray:Array Value)))).push (seqObj "list" vs.toArray 0) }) (kd:=kd) (lt:=lt) hoL hz (fun h3 k=>hkd _ _ h3 fun b o e=>k b o (Nat.ne_of_lt (Nat.lt_succ_of_lt (Heap.lt_size e))) (keep b o e)) (fun h3 k=>hO _ _ h3 fun b o e=>k b o (Nat.ne_of_lt (Nat.lt_succ_of_lt (Heap.lt_size e))) (keep b o e)) fun h' c out k1 hp hs k2=>?_
  exact ⟨_,rfl,wpAny_pure ⟨_,rfl,h _ h' c out (Nat.le_succ _) (fun b o e=>k1 b o (Nat.ne_of_lt (Nat.lt_succ_of_lt (Heap.lt_size e))) (keep b o e)) hp hs k2⟩⟩
end
def ztb:V->Int
 | .int n=>n
 | _=>0
def zeL (H:Hp):Value->List Int
 | .ref a=>match H a with
  | some (.tup xs)=>xs.map ztb
  | _=>[]
 | _=>[]
theorem zkf:∀ ns:List Int,(ns.map V.int).map ztb = ns
 | []=>rfl
 | n :: r=>by rw [List.map_cons,List.map_cons,zkf r]; rfl
theorem zjO {H:Hp} {a:Addr} {ns:List Int} (e:H a = some (.tup (ns.map V.int))):zeL H (.ref a) = ns:=by
 show (match H a with | some (.tup xs)=>xs.map ztb | _=>[]) = ns
 rw [e]
 exact zkf ns
def adr:Value->Addr
 | .ref a=>a
 | _=>0
theorem zim:∀ {as:List Addr} {us:List Value},Vals (as.map V.ref) us->us = as.map Value.ref
 | [],_,.nil=>rfl
 | a :: r,_,.cons e h=>by rw [zim h,show _ = Value.ref a from e]; rfl
theorem zg5 {α:Type}:∀ zs:List (Addr × α),Vals (zs.map fun z=>V.ref z.1) (zs.map fun z=>Value.ref z.1)
 | []=>.nil
 | a :: r=>.cons rfl (zg5 r)
theorem zsg {P:Program} {w:World} {H:Hp} {h:Heap} {a:Addr} {ns:List Int} (ok:HOk P w H h) (e:H a = some (.tup (ns.map V.int))) (hn:ns ≠ []):TupI h (.ref a) ns:=by
 obtain ⟨_,us,rv,ob,hb,cb,n,db⟩:=(show ObjOk P w H h a (.tup (ns.map V.int)) from ok a _ e)
 exact ⟨hn,a,ob,us.toArray,n,rfl,hb,cb,db,by simpa using zaw rv⟩
theorem TupI.keep {h h':Heap} {v:Value} {ns:List Int} (x:TupI h v ns) (k:∀ b o,h.get? b = some o->h'.get? b = some o):TupI h' v ns:=by
 obtain ⟨hn,a,o,xs,n,e,g,r⟩:=x
 exact ⟨hn,a,o,xs,n,e,k _ _ g,r⟩
def zps (K:W.Frag):List V->Hp->VK->Prop:=fun xs H Q=>∃ (p:Addr) (zs:List (Addr × List Int)),xs = [.ref p]/\SqL K H p (zs.map fun z=>V.ref z.1)/\(∀ z ∈ zs,H z.1 = some (.tup (z.2.map V.int))/\z.2 ≠ [])/\zs.length <= 10000000 /\
 ∀ (l:Addr) (ys:List (Addr × List Int)),H l = none->ys.Perm zs->ys.Pairwise (fun x y=>HT.lexLt y.2 x.2 = false)->Q (.ref l) (upd H l (.lst (ys.map fun z=>V.ref z.1)))
theorem zmb {H:Hp} {zs:List (Addr × List Int)} {out:List Value} (hz:∀ z ∈ zs,H z.1 = some (.tup (z.2.map V.int))/\z.2 ≠ []) (hp:out.Perm (zs.map fun z=>Value.ref z.1)) (hs:out.Pairwise (fun x y=>HT.lexLt (zeL H (y,y).1) (zeL H (x,x).1) = false)) :
  (out.map fun v=>(adr v,zeL H v)).Perm zs/\(out.map fun v=>(adr v,zeL H v)).Pairwise (fun x y=>HT.lexLt y.2 x.2 = false)/\out = (out.map fun v=>(adr v,zeL H v)).map fun z=>Value.ref z.1:=by
 refine ⟨?_,?_,?_⟩
 ·refine (hp.map fun v=>(adr v,zeL H v)).trans (List.Perm.of_eq ?_)
  rw [List.map_map]
  conv=>rhs; rw [<- List.map_id zs]
  exact List.map_congr_left fun z m=>Prod.ext rfl (zjO (hz z m).1)
 ·rw [List.pairwise_map]
  exact hs
 ·rw [List.map_map]
  conv=>lhs; rw [<- List.map_id out]
  refine List.map_congr_left fun v m=>?_
  obtain ⟨z,_,rfl⟩:=List.mem_map.mp (hp.mem_iff.mp m)
  rfl
theorem zlh {X:Cx}:CallR X (.builtin "sorted") (zps X.K):=by
 intro zk s σ H xs us Q I r h
 obtain ⟨p,zs,rfl,hq,hz,hn,q⟩:=h
 obtain ⟨u,rfl,rx⟩:=vals1 r
 cases (show u = Value.ref p from rx)
 obtain ⟨its,rv,pl,_⟩:=I.list hq
 have ei:its = zs.map fun z=>Value.ref z.1:=by
  have:=zim (as:=zs.map (·.1)) (by rw [List.map_map]; exact rv)
  rw [this,List.map_map]
  rfl
 subst ei
 have hT:∀ v ∈ zs.map (fun z=>Value.ref z.1),TupI s.heap v (zeL H v):=fun v m=>by
  obtain ⟨z,mz,rfl⟩:=List.mem_map.mp m
  rw [zjO (hz z mz).1]
  exact zsg I.hok (hz z mz).1 (hz z mz).2
 refine zkB (kd:=tuples' true) (lt:=fun x y=>HT.lexLt (zeL H x.1) (zeL H y.1)) pl.isList (by rw [List.length_map]; exact hn) (fun A' E' h3 k Q h2 z=>zlC (s:={ s with heap:=h3 }) (zeL H) (fun v m=>(hT v m).keep k) h2 z) (fun A' E' h3 k=>zl0 (s:={ s with heap:=h3 }) (zeL H) fun v m=>(hT v m).keep k) fun D h' c out hD kp hp hs hg=>?_
 obtain ⟨o1,o2,o3⟩:=zmb hz hp hs
 refine ⟨.ref D,_,I.laid (t':=s.toks) kp hD (show ObjOk X.prog X.w _ h' D (.lst ((out.map fun v=>(adr v,zeL H v)).map fun z=>V.ref z.1)) from ⟨?_,out,c,?_,hg⟩),rfl,q _ _ (I.hok.fresh hD) o1 o2⟩
 ·rw [List.length_map,o1.length_eq,sizeLine_eq]
  omega
 ·have:=zg5 (out.map fun v=>(adr v,zeL H v))
  rw [<- o3] at this
  exact this
def zkz:List XV->Sto->RX->Prop:=fun xs S R=>arg1 xs fun x=>∃ ds,znE S x = some ds/\∃ nss:List (List Int),ds = nss.map zmV/\nss.length <= 10000000/\(∀ ns ∈ nss,ns ≠ [])/\∀ mss:List (List Int),mss.Perm nss->mss.Pairwise (fun x y=>HT.lexLt y x = false)->R (.d (.list (mss.map zmV))) S
theorem zih {H:Hp}:∀ {nss:List (List Int)} {ws:List V},HasL H (nss.map zmV) ws->∃ zs:List (Addr × List Int),ws = zs.map (fun z=>V.ref z.1)/\zs.map (·.2) = nss/\∀ z ∈ zs,H z.1 = some (.tup (z.2.map V.int))
 | [],ws,l=>⟨[],zL.mp l,rfl,fun z m=>by cases m⟩
 | ns :: r,ws,l=>by
  obtain ⟨v,t,rfl,h1,h2⟩:=zC.mp l
  obtain ⟨a,us,rfl,ea,la⟩:=zaB.mp h1
  rw [zaP la] at ea
  obtain ⟨zs,rfl,e2,hz⟩:=zih h2
  refine ⟨(a,ns) :: zs,rfl,by rw [List.map_cons,e2],fun z m=>?_⟩
  rcases List.mem_cons.mp m with rfl | m
  ·exact ea
  ·exact hz z m
theorem ziq {H:Hp}:∀ {zs:List (Addr × List Int)},(∀ z ∈ zs,H z.1 = some (.tup (z.2.map V.int)))->HasL H ((zs.map (·.2)).map zmV) (zs.map fun z=>V.ref z.1)
 | [],_=>zL.mpr rfl
 | z :: r,h=>zC.mpr ⟨_,_,rfl,zaB.mpr ⟨z.1,_,rfl,h z List.mem_cons_self,ziW z.2⟩,ziq fun x m=>h x (List.mem_cons_of_mem _ m)⟩
theorem zof {K:W.Frag}:RC (zps K) zkz:=fun h o H S xs vs R Q hs hx q c=>by
 obtain ⟨x,rfl,ds,hd,nss,rfl,hn,hne,q1⟩:=zbf q
 obtain ⟨v,rfl,hx1⟩:=hxs1 hx
 obtain ⟨a,ws,rfl,ea,l⟩:=zbC hs hd hx1
 obtain ⟨zs,rfl,e2,hz⟩:=zih l
 subst e2
 refine ⟨a,zs,rfl,.of ea,fun z m=>⟨zak _ _ (hz z m),hne _ (List.mem_map_of_mem m)⟩,by simpa using hn,fun l ys hl pm pw=>?_⟩
 exact zmd hs (ziq (zs:=ys) fun z m=>hz z (pm.mem_iff.mp m)) c (q1 _ (pm.map _) (by rw [List.pairwise_map]; exact pw)) l hl
end L2
namespace L2
open PySem PySem.Spec PyProof.Rows
section
section
open PySem.SeqAt
open PySem.AutoSeq1 (wpAny_loadPart')
open PySem.MeetsSeq PySem.MeetsSeq2 PySem.MeetsSeq3
theorem zkH {vs ws:List Value} {ns ms:List Int} {a b:Nat} (hz:[] = vs.zip ws) (hv:IntsAre vs ns) (hw:IntsAre ws ms) (hl:ns.length + b = ms.length + a):(!HT.lexLt ns ms) = decide (b <= a):=by
 cases hv with
 | nil=>cases hw with
  | nil=>simp only [List.length_nil] at hl; rw [HT.lexLt_nil_nil]; exact (decide_eq_true (by omega)).symm
  | cons c u _=>simp only [List.length_nil,List.length_cons] at hl; rw [HT.lexLt_nil_cons]; exact (decide_eq_false (by omega)).symm
 | cons x t _=>cases hw with
  | nil=>simp only [List.length_nil,List.length_cons] at hl; rw [HT.lexLt_cons_nil]; exact (decide_eq_true (by omega)).symm
  | cons c u _=>rw [List.zip_cons_cons] at hz; cases hz
theorem zn3 (A:Around) (s:Shared) (a:Int) (t:Tok) (c:Int) (u:Tok) (prog:Program) (w:World) (E:Value->Shared->Prop) (Q:Value->Shared->Prop) (h:Q (.bool (decide (c <= a))) s) :
  wpAny (model prog w) A (richCompare .GtE (.int a t) (.int c u)) Q E s :=
 (ge_int h:wpAny (model prog w) A (compareOp .GtE (.int a t) (.int c u)) Q E s)
theorem zhO (l b:Addr) (xs ys:Array Value) (n n2:Nat) (dd dd2:Option Addr) (sl sl2:Array (Option Value)) (ns ms:List Int) (hi:IntsAre xs.toList ns) (hj:IntsAre ys.toList ms) :
  Meets (Builtin.«tuple.__ge__» ⟨[.ref l,.ref b],[]⟩)
   (fun _ R s=>s.heap.get? l = some { cls:=.type "tuple",dict:=dd,data:=.seq xs n,slots:=sl }/\s.heap.get? b = some { cls:=.type "tuple",dict:=dd2,data:=.seq ys n2,slots:=sl2 }/\R (.ok (.ret (.bool (!HT.lexLt ns ms)))) s) :=
 .of_wp fun prog w A R s h=>by
  obtain ⟨hp,g,d,tk,os⟩:=s
  obtain ⟨hl,hb,h⟩:=h
  have f2:=AutoSeq1.sub_tuple_tuple
  have z1:xs.size = ns.length:=by rw [<- hi.length]; simp
  have z2:ys.size = ms.length:=by rw [<- hj.length]; simp
  wp_walk using wpAny_loadPart' hl,wpAny_loadPart' hb,wpAny_forIn_list _ (fun rest c s'=>c.1 = none/\s' = ⟨hp,g,d,tk,os⟩/\∃ (vs ws:List Value) (ns' ms':List Int),rest = vs.zip ws /\
   IntsAre vs ns'/\IntsAre ws ms'/\ns'.length + ys.size = ms'.length + xs.size/\R (.ok (.ret (.bool (!HT.lexLt ns' ms')))) ⟨hp,g,d,tk,os⟩) _
  case turn =>
   rintro ⟨y,x⟩ rest c s' ⟨hc,rfl,vs,ws,ns',ms',hz,hv,hw,hl2,hR⟩
   cases hv with
   | nil=>rw [List.zip_nil_left] at hz; cases hz
   | cons a t hv =>
    cases hw with
    | nil=>rw [List.zip_nil_right] at hz; cases hz
    | cons c' u hw =>
     rw [List.zip_cons_cons] at hz
     obtain ⟨hyx,hrest⟩:=List.cons.inj hz
     obtain ⟨rfl,rfl⟩:=Prod.mk.inj hyx
     rw [HT.lexLt_cons] at hR
     simp only [List.length_cons] at hl2
     obtain ⟨e,he,hiff⟩:=HT.eqAt_int A.in1 ⟨hp,g,d,tk,os⟩ a t c' u
     refine wpAny_bind (he prog w _ _ ?_)
     cases e with
     | true =>
      rw [if_pos (hiff.mp rfl)] at hR
      wp_walk
      exact ⟨rfl,rfl,_,_,_,_,hrest,hv,hw,by omega,hR⟩
     | false =>
      have ne:a ≠ c':=fun q=>absurd (hiff.mpr q) Bool.false_ne_true
      rw [if_neg ne,show (!decide (a < c')) = decide (c' <= a) by rw [<- decide_not,decide_eq_decide]; omega] at hR
      have hri:=zn3 A.in1 ⟨hp,g,d,tk,os⟩ a t c' u prog w
      wp_walk using hri
      exact ⟨_,rfl,by simpa using hR⟩
  case fin =>
   rintro ⟨b1,b2⟩ s' ⟨hc,rfl,vs,ws,ns',ms',hz,hv,hw,hl2,hR⟩
   simp only at hc
   subst hc
   rw [zkH hz hv hw hl2] at hR
   wp_walk
   exact ⟨_,rfl,by simpa [Builtin.Tuple.tupleCompareSizes] using hR⟩
  case h=>exact ⟨rfl,rfl,xs.toList,ys.toList,ns,ms,rfl,hi,hj,by omega,h⟩
end
theorem zkE {prog:Program} {w:World} {A:Around} {E:Value->Shared->Prop} {s:Shared} {l b:Addr} {xs ys:Array Value} {ns ms:List Int} {Q:Value->Shared->Prop} (hl:IsTup s.heap l xs) (hb:IsTup s.heap b ys) (hi:IntsAre xs.toList ns) (hj:IntsAre ys.toList ms)
  (hu:A.units < cLine) (h:Q (.bool (!HT.lexLt ns ms)) s):wpAny (model prog w) A (compareOp .GtE (.ref l) (.ref b)) Q E s:=by
 obtain ⟨⟨cls,dd,data,sl⟩,ho,hc,n,hd⟩:=id hl
 obtain ⟨⟨cls2,dd2,data2,sl2⟩,ho2,hc2,n2,hd2⟩:=id hb
 simp only at hc hd hc2 hd2
 subst hc hd hc2 hd2
 exact richCompare_meets_room (op:=.GtE) ⟨_,ho,rfl⟩ ⟨_,ho2,rfl⟩ PySem.F.slot_tuple_ge PySem.F.entry_tuple_ge (PySem.F.args_tuple_ge_2 _ _) (zhO l b xs ys n n2 dd dd2 sl sl2 ns ms hi hj)
  ⟨ho,ho2,show Value.bool (!HT.lexLt ns ms) ≠ Value.notImplemented/\Q (.bool (!HT.lexLt ns ms)) s from ⟨(fun x=>nomatch x),h⟩⟩ hu
def ztR (K:W.Frag):R2:=fun x y H Q=>∃ a b ns ms,x = .ref a/\y = .ref b/\SqT K H a (ns.map V.int)/\SqT K H b (ms.map V.int)/\Q (.bl (!HT.lexLt ns ms)) H
theorem zrz {X:Cx} (hu:X.A.units + 64 < cLine):OpR X (compareOp .GtE) (ztR X.K):=by
 intro zk s σ H x y v u Q I rx ry h
 obtain ⟨a,b,ns,ms,rfl,rfl,ha,hb,q⟩:=h
 cases rx
 cases ry
 obtain ⟨its,r1,p1,_⟩:=I.tuple ha
 obtain ⟨its2,r2,p2,_⟩:=I.tuple hb
 exact zkE p1 p2 (zaw r1) (zaw r2) (by omega) ⟨.bl (!HT.lexLt ns ms),H,I,rfl,q⟩
def zsY:D2:=fun x y S R=>asT x fun ds=>asT y fun es=>∃ ns,ds = ns.map PyData.int/\∃ ms,es = ms.map PyData.int/\R (.d (.bool (!HT.lexLt ns ms))) S
theorem zsd {K:W.Frag}:RO (ztR K) zsY:=fun h o H S x y v u R Q hs hx hy q c=>by
 replace q:=zdr q
 obtain ⟨ds,rfl,q⟩:=q
 replace q:=zdr q
 obtain ⟨es,rfl,ns,rfl,ms,rfl,q⟩:=q
 obtain ⟨a,vs,rfl,ea,l1⟩:=zcg hx
 obtain ⟨b,ws,rfl,eb,l2⟩:=zcg hy
 have e1:=zaP l1
 have e2:=zaP l2
 subst e1 e2
 exact ⟨a,b,ns,ms,rfl,rfl,.of ea,.of eb,c o H S _ _ Ex.refl hs (xB _) q⟩
end
end L2
namespace L2
open PySem PySem.Spec PySem.Calls PyProof.Rows
end L2
namespace L2
open PySem PySem.Spec PySem.Calls PyProof.Rows
end L2
namespace L2
open PySem PySem.Spec PySem.Calls PyProof.Rows
end L2
namespace L2
open PySem PySem.Spec PyProof.Rows
end L2
namespace L2
theorem len0 {α:Type} {l:List α} (h:l.length = 0):l = []:=List.eq_nil_of_length_eq_zero h
theorem len1 {α:Type} {l:List α} (h:l.length = 1):∃ a0,l = [a0]:=by
 cases l with
 | nil=>cases h
 | cons x r =>
  obtain rfl:=len0 (Nat.succ.inj h)
  exact ⟨x,rfl⟩
theorem len2 {α:Type} {l:List α} (h:l.length = 2):∃ a0 a1,l = [a0,a1]:=by
 cases l with
 | nil=>cases h
 | cons x r =>
  obtain ⟨a1,rfl⟩:=len1 (Nat.succ.inj h)
  exact ⟨x,a1,rfl⟩
theorem len3 {α:Type} {l:List α} (h:l.length = 3):∃ a0 a1 a2,l = [a0,a1,a2]:=by
 cases l with
 | nil=>cases h
 | cons x r =>
  obtain ⟨a1,a2,rfl⟩:=len2 (Nat.succ.inj h)
  exact ⟨x,a1,a2,rfl⟩
theorem len4 {α:Type} {l:List α} (h:l.length = 4):∃ a0 a1 a2 a3,l = [a0,a1,a2,a3]:=by
 cases l with
 | nil=>cases h
 | cons x r =>
  obtain ⟨a1,a2,a3,rfl⟩:=len3 (Nat.succ.inj h)
  exact ⟨x,a1,a2,a3,rfl⟩
theorem len5 {α:Type} {l:List α} (h:l.length = 5):∃ a0 a1 a2 a3 a4,l = [a0,a1,a2,a3,a4]:=by
 cases l with
 | nil=>cases h
 | cons x r =>
  obtain ⟨a1,a2,a3,a4,rfl⟩:=len4 (Nat.succ.inj h)
  exact ⟨x,a1,a2,a3,a4,rfl⟩
end L2
namespace My
open PySem L2
def zcH:PN:=fun xs S R=>(zbB (zk4 (dCB zq4 (ze (zn 0) (ze (dO (.ty "int")) zB))) (znJ (dCB zq4 (ze (zn 0) (ze (dO (.ty "bool")) zB)))))) (zcE S.length R) (xs.map some ++ List.replicate 0 none) S
def zcP:PN:=fun xs S R=>(zZ (zam (dOp (dI (fun _ j=>0 < j) fun i j=>i % j) (dOp zbm (zn 0) (dC (.int 7919))) (dC (.int 2147483647))) (zo 0)) (zbB (dOp (dI (fun _ j=>0 < j) fun i j=>i % j) (dOp zbm (dOp zbm (dOp zdQ (zn 0) (zn 0)) (dOp zdQ (dC (.int 48271)) (zn 0))) (dC (.int 12345))) (dC (.int 2147483629))))) (zcE S.length R) (xs.map some ++ List.replicate 0 none) S
def zff:PN:=fun xs S R=>(zZ (zam (dCB (dI2 fun i j=>if j > i then j else i) (ze (zn 0) (ze (dOp (dI0 fun i j=>i - j) (dC (.int 0)) (zn 0)) zB))) (zo 1)) (zbB (ze5 (ze (zn 1) (ze (dCB znu (ze (dOp (dIb fun i j=>decide (j <= i)) (zn 1) (dOp (dI CPow fun i j=>i ^ j.toNat) (dC (.int 10)) (dC (.int 18)))) zB)) (ze (dOp (dI (fun _ j=>0 < j) fun i j=>i % j) (zn 1) (dC (.int 1000003))) zB)))))) (zcE S.length R) (xs.map some ++ List.replicate 1 none) S
def zw:PN:=fun xs S R=>(zZ (zdZ (dB (dOp zi3 (dOp dIx (zn 0) (dC (.int 1))) (dC (.int 1)))) (zZ (zam (dOp (dI (fun _ j=>0 < j) fun i j=>i % j) (dOp dIx (zn 0) (dC (.int 0))) (zn 1)) (zo 2)) (zZ (zam (dOp dFd (dOp dIx (zn 0) (dC (.int 0))) (zn 1)) (znD (zn 0) (dC (.int 0)))) (zbB (zn 2)))) za8) (zZ (zam (zaf 1 zcP (ze (dOp zbm (zaf 1 zcP (ze (dOp dIx (zn 0) (dC (.int 2))) zB)) (dC (.int 7))) zB)) (znD (zn 0) (dC (.int 2)))) (zbB (dOp (dI (fun _ j=>0 < j) fun i j=>i % j) (dOp dFd (dOp dIx (zn 0) (dC (.int 2))) (dC (.int 64))) (zn 1))))) (zcE S.length R) (xs.map some ++ List.replicate 1 none) S
def zdG:PN:=fun xs S R=>(zZ (zam (zW 0 2 zw (ze (zn 0) (ze (dC (.int 8)) zB))) (zo 1)) (zZ (zdZ (dB (dOp (dIb fun i j=>decide (i < j)) (zn 1) (dC (.int 5)))) (zbB (dOp (dI0 fun i j=>i - j) (zW 0 2 zw (ze (zn 0) (ze (dC (.int 13)) zB))) (dC (.int 6)))) za8) (zZ (zdZ (dB (dOp (dIb fun i j=>decide (i < j)) (zn 1) (dC (.int 7)))) (zbB (dOp (dI0 fun i j=>i - j) (zW 0 2 zw (ze (zn 0) (ze (dC (.int 2001)) zB))) (dC (.int 1000)))) za8) (zbB (dOp zdQ (dOp (dI0 fun i j=>i - j) (zW 0 2 zw (ze (zn 0) (ze (dOp zdQ (dC (.int 2)) (dOp (dI CPow fun i j=>i ^ j.toNat) (dC (.int 10)) (dC (.int 30)))) zB))) (dOp (dI CPow fun i j=>i ^ j.toNat) (dC (.int 10)) (dC (.int 30)))) (dOp (dI CPow fun i j=>i ^ j.toNat) (dC (.int 10)) (dC (.int 28)))))))) (zcE S.length R) (xs.map some ++ List.replicate 1 none) S
def zj7:PN:=fun xs S R=>(zbB (zg8 (ze (dOp zbm (dOp dIx (zn 0) (dC (.int 0))) (dOp dIx (zn 1) (dC (.int 0)))) (ze (dOp zbm (dOp dIx (zn 0) (dC (.int 1))) (dOp dIx (zn 1) (dC (.int 1)))) zB)))) (zcE S.length R) (xs.map some ++ List.replicate 0 none) S
def zcA:PN:=fun xs S R=>(zZ (zam (zg8 (ze (dOp zdQ (dOp dIx (zn 0) (dC (.int 0))) (zn 1)) (ze (dOp zdQ (dOp dIx (zn 0) (dC (.int 1))) (zn 1)) zB))) (zo 2)) (zbB (zg8 (ze (dCB zkM (ze (zn 2) zB)) (ze (dCB zq5 (ze (zn 2) zB)) zB))))) (zcE S.length R) (xs.map some ++ List.replicate 1 none) S
def zdj:PN:=fun xs S R=>(zZ (zam (zW 0 2 zw (ze (zn 0) (ze (dC (.int 8)) zB))) (zo 1)) (zZ (zdZ (dB (dOp (dIb fun i j=>decide (i < j)) (zn 1) (dC (.int 5)))) (zbB (dOp (dI0 fun i j=>i - j) (zW 0 2 zw (ze (zn 0) (ze (dC (.int 13)) zB))) (dC (.int 6)))) za8) (zZ (zdZ (dB (dOp (dIb fun i j=>decide (i < j)) (zn 1) (dC (.int 7)))) (zbB (dOp (dI0 fun i j=>i - j) (zW 0 2 zw (ze (zn 0) (ze (dC (.int 2001)) zB))) (dC (.int 1000)))) za8) (zbB (dOp zdQ (dOp (dI0 fun i j=>i - j) (zW 0 2 zw (ze (zn 0) (ze (dOp zdQ (dC (.int 2)) (dOp (dI CPow fun i j=>i ^ j.toNat) (dC (.int 10)) (dC (.int 30)))) zB))) (dOp (dI CPow fun i j=>i ^ j.toNat) (dC (.int 10)) (dC (.int 30)))) (dOp (dI CPow fun i j=>i ^ j.toNat) (dC (.int 10)) (dC (.int 28)))))))) (zcE S.length R) (xs.map some ++ List.replicate 1 none) S
def zdh:PN:=fun xs S R=>(zbB (dOp zbm (dOp (dI0 fun i j=>i - j) (dOp dIx (zn 0) (dC (.int 1))) (dOp dIx (zn 0) (dC (.int 0)))) (dC (.int 1)))) (zcE S.length R) (xs.map some ++ List.replicate 0 none) S
def zd8:PN:=fun xs S R=>(zZ (zam (dC (.str "abcdefghijklmnopqrstuvwxyz")) (zo 1)) (zZ (zam (zW 0 2 zw (ze (zn 0) (ze (dC (.int 3)) zB))) (zo 2)) (zZ (zam (zW 0 2 zw (ze (zn 0) (ze (dC (.int 26)) zB))) (zo 3)) (zZ (zam (zfI [none,some 1,some 3] (zaS (ze (dC (.int 8)) zB)) (zo 0) za5 (dOp zdQ (dOp dIx (zn 1) (dOp (dI (fun _ j=>0 < j) fun i j=>i % j) (dOp zbm (zn 2) (dOp zdQ (dC (.int 5)) (zn 0))) (dC (.int 26)))) (dOp zbm (dC (.int 1)) (dOp (dI (fun _ j=>0 < j) fun i j=>i % j) (dOp zbm (zn 2) (dOp zdQ (dC (.int 3)) (zn 0))) (dC (.int 8)))))) (zo 4)) (zZ (zdZ (dB (dOp zi3 (zn 2) (dC (.int 0)))) (zZ (zam (zsv zmT (dC (.str "")) (ze (zdf [none,some 1,some 3] (zaS (ze (dC (.int 8)) zB)) (zo 0) za5 (dOp dIx (zn 1) (dOp (dI (fun _ j=>0 < j) fun i j=>i % j) (dOp zbm (zn 2) (dOp zdQ (dC (.int 7)) (zn 0))) (dC (.int 26))))) zB)) (zo 5)) (zam (zfI [none,some 5] (zaS (ze (dC (.int 8)) zB)) (zo 0) za5 (dSl zll (zn 1) zbR (zfs (dOp zbm (zn 0) (dC (.int 1)))))) (zo 4))) za8) (zZ (zdZ (dB (dOp zi3 (zn 2) (dC (.int 1)))) (zam (ze5 (ze (dC (.str "part")) (ze (dC (.str "gap")) (ze (dC (.str "cut")) (ze (dC (.str "a")) (ze (dC (.str "aa")) (ze (dC (.str "dear")) (ze (dC (.str "b")) (ze (dC (.str "keeps")) zB))))))))) (zo 4)) za8) (zZ (zam (zW 0 2 zw (ze (zn 0) (ze (dC (.int 8)) zB))) (zo 6)) (zZ (zam (dOp zmz (dSl zll (zn 4) (zfs (zn 6)) zbR) (dSl zll (zn 4) zbR (zfs (zn 6)))) (zo 4)) (zZ (zdZ (dB (dOp zi3 (zW 0 2 zw (ze (zn 0) (ze (dC (.int 2)) zB))) (dC (.int 1)))) (zf1 (zrb zdV (zn 4))) za8) (zbB (zn 4))))))))))) (zcE S.length R) (xs.map some ++ List.replicate 6 none) S
def zfF:PN:=fun xs S R=>(zZ (zdZ (dOr (zl7 (zln (dCB zq4 (ze (zn 1) (ze (dO (.ty "tuple")) zB))))) (dB (dOp zq1 (dCB zcK (ze (zn 1) zB)) (dCB zcK (ze (zn 0) zB))))) (zbB (dC (.bool false))) za8) (zbB (dCB zsS (ze (zdf [none,none] (zjD (ze (zn 1) (ze (zn 0) zB))) (zc5 2 (zab (zo 0) (zab (zo 1) zdb))) za5 (zk4 (zaf 1 zcH (ze (zn 0) zB)) (zdJ (dIb fun i j=>decide (i <= j)) (dIb fun i j=>decide (i <= j)) (dOp dIx (zn 1) (dC (.int 1))) (zn 0) (dOp dIx (zn 1) (dC (.int 2)))))) zB)))) (zcE S.length R) (xs.map some ++ List.replicate 0 none) S
def zcQ:PN:=fun xs S R=>(zbB (zg8 (ze (dOp dIx (zn 0) (dC (.int 1))) (ze (dOp dIx (zn 0) (dC (.int 2))) zB)))) (zcE S.length R) (xs.map some ++ List.replicate 0 none) S
def zge:PN:=fun xs S R=>(zZ (zam (dCB (dI2 fun i j=>if j > i then j else i) (ze (zn 0) (ze (dOp (dI0 fun i j=>i - j) (dC (.int 0)) (zn 0)) zB))) (zo 1)) (zbB (ze5 (ze (zn 1) (ze (dCB znu (ze (dOp (dIb fun i j=>decide (j <= i)) (zn 1) (dOp (dI CPow fun i j=>i ^ j.toNat) (dC (.int 10)) (dC (.int 18)))) zB)) (ze (dOp (dI (fun _ j=>0 < j) fun i j=>i % j) (zn 1) (dC (.int 1000003))) zB)))))) (zcE S.length R) (xs.map some ++ List.replicate 1 none) S
def zdK:PN:=fun xs S R=>(zZ (zam (dC (.int 0)) (zo 2)) (zZ (zam (dC (.int 0)) (zo 3)) (zZ (zhV (zd0 (zn 1)) (zc5 2 (zab (zo 4) (zab (zo 5) zdb))) (zZ (zam (zfe (ze (dOp zdQ (zn 5) (dOp dIx (dOp dIx (zn 0) (zn 4)) (dC (.int 1)))) (ze (dOp zdQ (zn 5) (dOp dIx (dOp dIx (zn 0) (zn 4)) (dC (.int 2)))) zB))) (zo 6)) (zZ (zam (dOp zbm (zn 2) (dCB zkM (ze (zn 6) zB))) (zo 2)) (zam (dOp zbm (zn 3) (dCB zq5 (ze (zn 6) zB))) (zo 3))))) (zbB (zg8 (ze (zn 2) (ze (zn 3) zB))))))) (zcE S.length R) (xs.map some ++ List.replicate 5 none) S
def zeh:PN:=fun xs S R=>(zZ (zam (dC (.str "abcdefghijklmnopqrstuvwxyz")) (zo 1)) (zZ (zam (zW 0 2 zw (ze (zn 0) (ze (dC (.int 3)) zB))) (zo 2)) (zZ (zam (zW 0 2 zw (ze (zn 0) (ze (dC (.int 26)) zB))) (zo 3)) (zZ (zam (zfI [none,some 1,some 3] (zaS (ze (dC (.int 8)) zB)) (zo 0) za5 (dOp zdQ (dOp dIx (zn 1) (dOp (dI (fun _ j=>0 < j) fun i j=>i % j) (dOp zbm (zn 2) (dOp zdQ (dC (.int 5)) (zn 0))) (dC (.int 26)))) (dOp zbm (dC (.int 1)) (dOp (dI (fun _ j=>0 < j) fun i j=>i % j) (dOp zbm (zn 2) (dOp zdQ (dC (.int 3)) (zn 0))) (dC (.int 8)))))) (zo 4)) (zZ (zdZ (dB (dOp zi3 (zn 2) (dC (.int 0)))) (zZ (zam (zsv zmT (dC (.str "")) (ze (zdf [none,some 1,some 3] (zaS (ze (dC (.int 8)) zB)) (zo 0) za5 (dOp dIx (zn 1) (dOp (dI (fun _ j=>0 < j) fun i j=>i % j) (dOp zbm (zn 2) (dOp zdQ (dC (.int 7)) (zn 0))) (dC (.int 26))))) zB)) (zo 5)) (zam (zfI [none,some 5] (zaS (ze (dC (.int 8)) zB)) (zo 0) za5 (dSl zll (zn 1) zbR (zfs (dOp zbm (zn 0) (dC (.int 1)))))) (zo 4))) za8) (zZ (zdZ (dB (dOp zi3 (zn 2) (dC (.int 1)))) (zam (ze5 (ze (dC (.str "part")) (ze (dC (.str "gap")) (ze (dC (.str "cut")) (ze (dC (.str "a")) (ze (dC (.str "aa")) (ze (dC (.str "dear")) (ze (dC (.str "b")) (ze (dC (.str "keeps")) zB))))))))) (zo 4)) za8) (zZ (zam (zW 0 2 zw (ze (zn 0) (ze (dC (.int 8)) zB))) (zo 6)) (zZ (zam (dOp zmz (dSl zll (zn 4) (zfs (zn 6)) zbR) (dSl zll (zn 4) zbR (zfs (zn 6)))) (zo 4)) (zZ (zdZ (dB (dOp zi3 (zW 0 2 zw (ze (zn 0) (ze (dC (.int 2)) zB))) (dC (.int 1)))) (zf1 (zrb zdV (zn 4))) za8) (zbB (zn 4))))))))))) (zcE S.length R) (xs.map some ++ List.replicate 6 none) S
def zc7:PN:=fun xs S R=>(zZ (zam (dOp dIx (zfe (ze (zfe (ze (dC (.int 1)) (ze (dUn (dUI fun i=>-i) (dC (.int 1))) (ze (dC (.int 2)) (ze (dUn (dUI fun i=>-i) (dC (.int 2))) (ze (dC (.int 3)) (ze (dUn (dUI fun i=>-i) (dC (.int 3))) zB))))))) (ze (zfe (ze (dC (.int 1)) (ze (dUn (dUI fun i=>-i) (dC (.int 1))) zB))) (ze (zfe (ze (dC (.int 2)) (ze (dUn (dUI fun i=>-i) (dC (.int 2))) zB))) (ze (zfe (ze (dC (.int 3)) (ze (dUn (dUI fun i=>-i) (dC (.int 3))) zB))) (ze (zfe (ze (dC (.int 2)) (ze (dC (.int 3)) (ze (dUn (dUI fun i=>-i) (dC (.int 2))) (ze (dUn (dUI fun i=>-i) (dC (.int 3))) zB))))) (ze (zfe (ze (dC (.int 1)) (ze (dC (.int 3)) (ze (dUn (dUI fun i=>-i) (dC (.int 1))) (ze (dUn (dUI fun i=>-i) (dC (.int 3))) zB))))) zB))))))) (zW 0 2 zw (ze (zn 0) (ze (dC (.int 6)) zB)))) (zo 2)) (zZ (zam (ze5 zB) (zo 3)) (zZ (zhV (zaS (ze (dCB zcK (ze (zn 1) zB)) zB)) (zo 4) (zdZ (dB (dOp (dIb fun i j=>decide (j < i)) (zW 0 2 zw (ze (zn 0) (ze (dC (.int 3)) zB))) (dC (.int 0)))) (zf1 (dBM zdt (zn 3) (ze (zg8 (ze (zn 4) (ze (dOp dIx (zn 2) (zW 0 2 zw (ze (zn 0) (ze (dCB zcK (ze (zn 2) zB)) zB)))) zB))) zB))) za8)) (zZ (zdZ (dB (dOp zi3 (zn 3) (zfe zB))) (zam (ze5 (ze (zg8 (ze (zW 0 2 zw (ze (zn 0) (ze (dCB zcK (ze (zn 1) zB)) zB))) (ze (dOp dIx (zn 2) (zW 0 2 zw (ze (zn 0) (ze (dCB zcK (ze (zn 2) zB)) zB)))) zB))) zB)) (zo 3)) za8) (zbB (dCB zf9 (ze (zn 3) zB))))))) (zcE S.length R) (xs.map some ++ List.replicate 3 none) S
def zex:PN:=fun xs S R=>(zZ (zam (zW 0 2 zc7 (ze (zn 0) (ze (zn 1) zB))) (zo 2)) (zZ (zam (zaf 2 zdK (ze (zn 1) (ze (zn 2) zB))) (zc5 2 (zab (zo 3) (zab (zo 4) zdb)))) (zZ (zam (dOp (dI0 fun i j=>i - j) (zn 4) (zn 3)) (zo 5)) (zZ (zam (dOp zbm (zn 3) (dOp dIx (zfe (ze (dC (.int 0)) (ze (dC (.int 1)) (ze (dUn (dUI fun i=>-i) (dC (.int 1))) (ze (dOp dFd (zn 5) (dC (.int 2))) (ze (dOp dFd (zn 5) (dC (.int 3))) (ze (dOp zbm (zn 5) (dC (.int 1))) (ze (zn 5) (ze (dOp (dI0 fun i j=>i - j) (zn 5) (dC (.int 1))) zB))))))))) (zW 0 2 zw (ze (zn 0) (ze (dC (.int 8)) zB))))) (zo 6)) (zZ (zam (dOp zbm (zn 6) (dOp dIx (zfe (ze (dC (.int 0)) (ze (dC (.int 1)) (ze (dC (.int 2)) (ze (dOp dFd (zn 5) (dC (.int 2))) (ze (zn 5) (ze (dOp zbm (zn 5) (dC (.int 2))) zB))))))) (zW 0 2 zw (ze (zn 0) (ze (dC (.int 6)) zB))))) (zo 7)) (zbB (zg8 (ze (zn 2) (ze (zn 6) (ze (zn 7) zB)))))))))) (zcE S.length R) (xs.map some ++ List.replicate 6 none) S
def zdN:PN:=fun xs S R=>(zbB (dCB zpM (ze (zdf [none,none,some 1] (zd0 (dOp dIx (zn 0) (dC (.int 0)))) (zc5 2 (zab (zo 0) (zab (zo 1) zdb))) za5 (dOp zdQ (zn 1) (dOp dIx (zn 2) (zn 0)))) zB))) (zcE S.length R) (xs.map some ++ List.replicate 0 none) S
def zhk:PN:=fun xs S R=>(zbB (zdJ (dIb fun i j=>decide (i <= j)) (dIb fun i j=>decide (i <= j)) (dOp dIx (zn 0) (dC (.int 1))) (zaf 2 zdN (ze (zn 0) (ze (zn 1) zB))) (dOp dIx (zn 0) (dC (.int 2))))) (zcE S.length R) (xs.map some ++ List.replicate 0 none) S
def zew:PN:=fun xs S R=>(zZ (zam (ze5 zB) (zo 2)) (zZ (zhV (zd0 (zn 1)) (zc5 3 (zab (zo 3) (zab (zo 4) (zab (zo 5) zdb)))) (zZ (zam (zfe (ze (zn 4) (ze (zn 5) (ze (dOp zbm (zn 4) (dOp dFd (dOp (dI0 fun i j=>i - j) (zn 5) (zn 4)) (dC (.int 2)))) (ze (dCB (dI2 fun i j=>if j < i then j else i) (ze (zn 5) (ze (dOp zbm (zn 4) (dC (.int 1))) zB))) (ze (dCB (dI2 fun i j=>if j > i then j else i) (ze (zn 4) (ze (dOp (dI0 fun i j=>i - j) (zn 5) (dC (.int 1))) zB))) zB)))))) (zo 6)) (zf1 (dBM zdt (zn 2) (ze (dOp dIx (dOp zbm (zn 6) (zfe (ze (dOp zbm (zn 4) (dOp (dI (fun _ j=>0 < j) fun i j=>i % j) (zW 0 2 zw (ze (zn 0) (ze (dOp (dI CPow fun i j=>i ^ j.toNat) (dC (.int 10)) (dC (.int 12))) zB))) (dOp zbm (dOp (dI0 fun i j=>i - j) (zn 5) (zn 4)) (dC (.int 1))))) zB))) (zW 0 2 zw (ze (zn 0) (ze (dC (.int 6)) zB)))) zB))))) (zbB (dCB zf9 (ze (zn 2) zB))))) (zcE S.length R) (xs.map some ++ List.replicate 5 none) S
def zbc:PN:=fun xs S R=>(zZ (zam (zg8 (ze (dC (.int 0)) (ze (dC (.int 0)) zB))) (zo 2)) (zZ (zhV (zd0 (zn 1)) (zc5 2 (zab (zo 3) (zab (zo 4) zdb))) (zam (zaf 2 zj7 (ze (zn 2) (ze (zaf 2 zcA (ze (zaf 1 zcQ (ze (dOp dIx (zn 0) (zn 3)) zB)) (ze (zn 4) zB))) zB))) (zo 2))) (zbB (zn 2)))) (zcE S.length R) (xs.map some ++ List.replicate 3 none) S
def zhF:PN:=fun xs S R=>(zbB (zaf 2 zbc (ze (zn 0) (ze (dOp dIx (zn 1) (dC (.int 0))) zB)))) (zcE S.length R) (xs.map some ++ List.replicate 0 none) S
def zeq:PN:=fun xs S R=>(zZ (zam (dC (.int 0)) (zo 2)) (zZ (zhV (zd0 (dOp dIx (zn 0) (dC (.int 0)))) (zc5 2 (zab (zo 3) (zab (zo 4) zdb))) (zam (dOp zbm (zn 2) (dOp zdQ (zn 4) (dOp dIx (zn 1) (zn 3)))) (zo 2))) (zbB (zn 2)))) (zcE S.length R) (xs.map some ++ List.replicate 3 none) S
def zeV:PN:=fun xs S R=>(zZ (zam (dC (.int 0)) (zo 2)) (zZ (zam (dC (.int 0)) (zo 3)) (zZ (zhV (zd0 (zn 1)) (zc5 2 (zab (zo 4) (zab (zo 5) zdb))) (zZ (zam (zfe (ze (dOp zdQ (zn 5) (dOp dIx (dOp dIx (zn 0) (zn 4)) (dC (.int 1)))) (ze (dOp zdQ (zn 5) (dOp dIx (dOp dIx (zn 0) (zn 4)) (dC (.int 2)))) zB))) (zo 6)) (zZ (zam (dOp zbm (zn 2) (dCB zkM (ze (zn 6) zB))) (zo 2)) (zam (dOp zbm (zn 3) (dCB zq5 (ze (zn 6) zB))) (zo 3))))) (zbB (zg8 (ze (zn 2) (ze (zn 3) zB))))))) (zcE S.length R) (xs.map some ++ List.replicate 5 none) S
def zd9:PN:=fun xs S R=>(zZ (zam (dC (.int 0)) (zo 2)) (zZ (zhV (zd0 (dOp dIx (zn 0) (dC (.int 0)))) (zc5 2 (zab (zo 3) (zab (zo 4) zdb))) (zam (dOp zbm (zn 2) (dOp zdQ (zn 4) (dOp dIx (zn 1) (zn 3)))) (zo 2))) (zbB (zn 2)))) (zcE S.length R) (xs.map some ++ List.replicate 3 none) S
def zae:PN:=fun xs S R=>(zbB (dCB zpM (ze (zdf [none,none,some 1,some 2] (ze1 (zn 0)) (zc5 2 (zab (zo 0) (zab (zo 1) zdb))) (dB (zdJ (dIb fun i j=>decide (i <= j)) (dIb fun i j=>decide (i <= j)) (dOp dIx (zn 2) (dC (.int 1))) (dOp zbm (zn 3) (zn 0)) (dOp dIx (zn 2) (dC (.int 2))))) (zn 1)) zB))) (zcE S.length R) (xs.map some ++ List.replicate 0 none) S
def zc8:PN:=fun xs S R=>(zZ (zdZ (dB (dOp zi3 (zn 2) (dC (.int 0)))) (zbB (zhH (ze (zdf [none,none,some 1] (ze1 (zn 0)) (zc5 2 (zab (zo 0) (zab (zo 1) zdb))) za5 (zg8 (ze (zn 0) (ze (dOp zdQ (zn 1) (zaf 1 zdh (ze (zn 2) zB))) zB)))) zB))) za8) (zZ (zrE (zlL true 3 (.k []) (zl9 (fun M=>(ze6 (ze (dOp dIx (zn 1) (dC (.int 0))) (ze (dOp zbm (dOp dIx (zn 1) (dC (.int 1))) (dC (.int 1))) zB)))) (zo 4) (zl9 (fun M=>(ze1 (zn 0))) (zc5 2 (zab (zo 5) (zab (zo 6) zdb))) (zoc (ziy (zam (dOp zbm (zn 5) (dOp zdQ (zn 2) (zn 4))) (zo 7))) (zoF 3 (fun M=>(zn 7)) (fun M=>(dOp zbm (ziQ M (zn 3) (zn 7) (dC (.int 0))) (zn 6))))))))) (zbB (zn 3)))) (zcE S.length R) (xs.map some ++ List.replicate 5 none) S
def zbF:PN:=fun xs S R=>(zbB (zdJ (dIb fun i j=>decide (i <= j)) (dIb fun i j=>decide (i <= j)) (dOp dIx (zn 0) (dC (.int 1))) (zaf 2 zeq (ze (zn 0) (ze (zn 1) zB))) (dOp dIx (zn 0) (dC (.int 2))))) (zcE S.length R) (xs.map some ++ List.replicate 0 none) S
def zbi:PN:=fun xs S R=>(zZ (zam (zaf 1 zdh (ze (zaf 2 zhF (ze (zn 0) (ze (zn 1) zB))) zB)) (zo 2)) (zZ (zdZ (dB (dOp (dIb fun i j=>decide (j < i)) (zn 2) (dC (.int 400)))) zg6 za8) (zZ (zam (zgW (ze (dOp dIx (zn 1) (dC (.int 0))) zB)) (zo 3)) (zZ (zam (ze5 (ze (dC (.dict [(.int 0,.int 1)])) zB)) (zo 4)) (zZ (zhV (zjY (ze (dOp (dI0 fun i j=>i - j) (dCB zcK (ze (zn 0) zB)) (dC (.int 1))) (ze (dUn (dUI fun i=>-i) (dC (.int 1))) (ze (dUn (dUI fun i=>-i) (dC (.int 1))) zB)))) (zo 5) (zf1 (dBM zdt (zn 4) (ze (zaf 3 zc8 (ze (dOp dIx (zn 4) (dUn (dUI fun i=>-i) (dC (.int 1)))) (ze (zaf 1 zcQ (ze (dOp dIx (zn 0) (zn 5)) zB)) (ze (ziQ [] (zn 3) (zn 5) (dC (.int 0))) zB)))) zB)))) (zZ (zf1 (zrb zdV (zn 4))) (zbB (zn 4)))))))) (zcE S.length R) (xs.map some ++ List.replicate 4 none) S
def zcw:PN:=fun xs S R=>(zbB (zaf 3 zae (ze (dOp dIx (zaf 2 zbi (ze (zn 0) (ze (zn 1) zB))) (dC (.int 0))) (ze (zn 1) (ze (dC (.int 0)) zB))))) (zcE S.length R) (xs.map some ++ List.replicate 0 none) S
def zc6:PN:=fun xs S R=>(zZ (zam (zdf [none,none] (zd0 (dOp dIx (zn 2) (dC (.int 0)))) (zc5 2 (zab (zo 0) (zab (zo 1) zdb))) za5 (zn 0)) (zo 3)) (zZ (zam (ze5 zB) (zo 4)) (zZ (zhV (zaS (ze (dCB zcK (ze (zn 1) zB)) zB)) (zo 5) (zZ (zam (dOp dIx (zn 1) (zn 5)) (zc5 3 (zab (zo 6) (zab (zo 7) (zab (zo 8) zdb))))) (zZ (zdZ (zpu (dB (dOp zka (zn 5) (zn 3))) (dB (dOp zi3 (zW 0 2 zw (ze (zn 0) (ze (dC (.int 2)) zB))) (dC (.int 0))))) (zam (dOp zbm (zn 7) (zW 0 2 zw (ze (zn 0) (ze (dOp (dI CPow fun i j=>i ^ j.toNat) (dC (.int 10)) (dC (.int 40))) zB)))) (zo 8)) za8) (zf1 (dBM zdt (zn 4) (ze (zg8 (ze (zn 6) (ze (zn 7) (ze (zn 8) zB)))) zB)))))) (zbB (dCB zf9 (ze (zn 4) zB)))))) (zcE S.length R) (xs.map some ++ List.replicate 6 none) S
def zbZ:PN:=fun xs S R=>(zZ (zam (zW 0 1 zeh (ze (zn 0) zB)) (zo 1)) (zZ (zam (zdf [none,some 0] (zaS (ze (dOp zbm (dC (.int 1)) (zW 0 2 zw (ze (zn 0) (ze (dC (.int 8)) zB)))) zB)) (zo 0) za5 (dOp zbm (dC (.int 1)) (zW 0 2 zw (ze (zn 1) (ze (dC (.int 4)) zB))))) (zo 2)) (zZ (zdZ (dB (dOp zi3 (zW 0 2 zw (ze (zn 0) (ze (dC (.int 6)) zB))) (dC (.int 0)))) (zam (dOp dIx (zfe (ze (zfe (ze (dC (.int 400)) zB)) (ze (zfe (ze (dC (.int 134)) zB)) (ze (zfe (ze (dC (.int 200)) zB)) (ze (zfe (ze (dC (.int 60)) (ze (dC (.int 7)) (ze (dC (.int 1)) zB)))) (ze (dOp zdQ (zfe (ze (dC (.int 2)) zB)) (dC (.int 8))) (ze (zfe (ze (dC (.int 1)) (ze (dC (.int 100)) zB))) zB))))))) (zW 0 2 zw (ze (zn 0) (ze (dC (.int 6)) zB)))) (zo 2)) za8) (zZ (zam (ze5 zB) (zo 3)) (zZ (zhV (zaS (ze (dCB zcK (ze (zn 2) zB)) zB)) (zo 4) (zZ (zam (zW 0 1 zdG (ze (zn 0) zB)) (zo 5)) (zf1 (dBM zdt (zn 3) (ze (zg8 (ze (dOp dIx (zn 1) (zn 4)) (ze (zn 5) (ze (dOp (dI0 fun i j=>i - j) (dOp zbm (zn 5) (dOp dIx (zn 2) (zn 4))) (dC (.int 1))) zB)))) zB))))) (zbB (dCB zf9 (ze (zn 3) zB)))))))) (zcE S.length R) (xs.map some ++ List.replicate 5 none) S
def zao:PN:=fun xs S R=>(zbB (dCB zpM (ze (zdf [none,none,some 1] (zd0 (dOp dIx (zn 0) (dC (.int 0)))) (zc5 2 (zab (zo 0) (zab (zo 1) zdb))) (dB (dOp (dIb fun i j=>decide (i < j)) (zn 0) (dCB zcK (ze (zn 2) zB)))) (dOp zdQ (zn 1) (dOp dIx (zn 2) (zn 0)))) zB))) (zcE S.length R) (xs.map some ++ List.replicate 0 none) S
def zco:PN:=fun xs S R=>(zZ (zam (dCB zcK (ze (zn 2) zB)) (zo 5)) (zZ (zam (zaf 1 zcQ (ze (dOp dIx (zn 0) (zn 5)) zB)) (zo 6)) (zZ (zam (zgW (ze (dOp dIx (zn 1) (dC (.int 0))) zB)) (zo 7)) (zZ (zam (zaf 2 zao (ze (zn 1) (ze (zn 2) zB))) (zo 8)) (zZ (zdZ (dB (dOp (zrd [] true) (zn 5) (zn 7))) (zbB (dOp zbm (dOp dIx (zn 6) (dC (.int 0))) (dOp dFd (zn 4) (zaf 3 zae (ze (zn 3) (ze (zn 1) (ze (zn 8) zB))))))) za8) (zhV (ze6 (ze (dOp dIx (zn 6) (dC (.int 0))) (ze (dOp zbm (dOp dIx (zn 6) (dC (.int 1))) (dC (.int 1))) zB))) (zo 9) (zZ (zam (zaf 3 zae (ze (zn 3) (ze (zn 1) (ze (dOp zbm (zn 8) (dOp zdQ (zmG [] (zn 7) (zn 5)) (zn 9))) zB)))) (zo 10)) (zZ (zdZ (dB (dOp (dIb fun i j=>decide (i < j)) (zn 4) (zn 10))) (zbB (zn 9)) za8) (zam (dOp (dI0 fun i j=>i - j) (zn 4) (zn 10)) (zo 4)))))))))) (zcE S.length R) (xs.map some ++ List.replicate 6 none) S
def za0:PN:=fun xs S R=>(zZ (zam (dOp (dI0 fun i j=>i - j) (dCB zcK (ze (zn 2) zB)) (dC (.int 1))) (zo 4)) (zZ (zam (dOp dIx (dOp dIx (zn 0) (zn 4)) (dC (.int 1))) (zo 5)) (zZ (zam (zgW (ze (dOp dIx (zn 1) (dC (.int 0))) zB)) (zo 6)) (zZ (zam (zaf 2 zao (ze (zn 1) (ze (dSl zll (zn 2) zbR (zfs (zn 4))) zB))) (zo 7)) (zZ (zdZ (dB (dOp (zrd [] true) (zn 4) (zn 6))) (zbB (dOp zdQ (dOp (dI0 fun i j=>i - j) (dOp dIx (zn 2) (zn 4)) (zn 5)) (zaf 3 zae (ze (zn 3) (ze (zn 1) (ze (zn 7) zB)))))) za8) (zbB (dCB zpM (ze (zdf [none,some 3,some 1,some 7,some 6,some 4] (ze6 (ze (zn 5) (ze (dOp dIx (zn 2) (zn 4)) zB))) (zo 0) za5 (zaf 3 zae (ze (zn 1) (ze (zn 2) (ze (dOp zbm (zn 3) (dOp zdQ (zmG [] (zn 4) (zn 5)) (zn 0))) zB))))) zB)))))))) (zcE S.length R) (xs.map some ++ List.replicate 4 none) S
def zjg:PN:=fun xs S R=>(zZ (zam (zaf 2 zbi (ze (zn 0) (ze (zn 1) zB))) (zo 3)) (zZ (zdZ (dOr (zl7 (zln (zaf 1 zcH (ze (zn 2) zB)))) (zl7 (dB (zdJ (dIb fun i j=>decide (i <= j)) (dIb fun i j=>decide (i < j)) (dC (.int 0)) (zn 2) (zaf 3 zae (ze (dOp dIx (zn 3) (dC (.int 0))) (ze (zn 1) (ze (dC (.int 0)) zB)))))))) zg6 za8) (zZ (zam (zg8 zB) (zo 4)) (zZ (zam (zn 2) (zo 5)) (zZ (zhV (zaS (ze (dCB zcK (ze (zn 0) zB)) zB)) (zo 6) (zZ (zam (zaf 5 zco (ze (zn 0) (ze (zn 1) (ze (zn 4) (ze (dOp dIx (zn 3) (dOp zbm (zn 6) (dC (.int 1)))) (ze (zn 5) zB)))))) (zo 7)) (zZ (zam (dOp zbm (zn 4) (zg8 (ze (zn 7) zB))) (zo 4)) (zam (dOp (dI0 fun i j=>i - j) (zn 5) (zaf 4 za0 (ze (zn 0) (ze (zn 1) (ze (zn 4) (ze (dOp dIx (zn 3) (dOp zbm (zn 6) (dC (.int 1)))) zB)))))) (zo 5))))) (zbB (zn 4))))))) (zcE S.length R) (xs.map some ++ List.replicate 5 none) S
def zcd:PN:=fun xs S R=>(zZ (zam (zaf 2 zbi (ze (zn 0) (ze (zn 1) zB))) (zo 3)) (zZ (zdZ (dOr (zl7 (zln (zaf 2 zfF (ze (zn 0) (ze (zn 2) zB))))) (zl7 (zln (zaf 2 zhk (ze (zn 1) (ze (zn 2) zB)))))) zg6 za8) (zbB (dCB zpM (ze (zdf [none,some 0,some 1,some 2,some 3] (zaS (ze (dCB zcK (ze (zn 0) zB)) zB)) (zo 0) za5 (zaf 4 za0 (ze (zn 1) (ze (zn 2) (ze (dSl zrg (zn 3) zbR (zfs (dOp zbm (zn 0) (dC (.int 1))))) (ze (dOp dIx (zn 4) (dOp zbm (zn 0) (dC (.int 1)))) zB)))))) zB))))) (zcE S.length R) (xs.map some ++ List.replicate 1 none) S
def zaU:PN:=fun xs S R=>(zZ (zam (zaf 3 zjg (ze (zn 0) (ze (zn 1) (ze (zn 2) zB)))) (zo 3)) (zbB (zk4 (zaf 2 zbF (ze (zn 1) (ze (zn 3) zB))) (dOp zi3 (zaf 3 zcd (ze (zn 0) (ze (zn 1) (ze (zn 3) zB)))) (zn 2))))) (zcE S.length R) (xs.map some ++ List.replicate 1 none) S
def zbd:PN:=fun xs S R=>(zZ (zam (dCB zkz (ze (zdf [none,some 1] (zd0 (zn 2)) (zo 0) (zln (zaf 2 zbF (ze (zn 1) (ze (zn 0) zB)))) (zn 0)) zB)) (zo 3)) (zZ (zam (zdf [none,some 0,some 1] (zd0 (zn 3)) (zo 0) za5 (zaf 3 zcd (ze (zn 1) (ze (zn 2) (ze (zn 0) zB))))) (zo 4)) (zZ (zhV (zaS (ze (dCB zcK (ze (zn 3) zB)) zB)) (zo 5) (zZ (zdZ (dB (dOp zq1 (zaf 3 zjg (ze (zn 0) (ze (zn 1) (ze (dOp dIx (zn 4) (zn 5)) zB)))) (dOp dIx (zn 3) (zn 5)))) (zbB (dC (.bool false))) za8) (zdZ (zpu (dB (dOp (dIb fun i j=>decide (j < i)) (zn 5) (dC (.int 0)))) (dB (dOp zq1 (dOp (dIb fun i j=>decide (i < j)) (dOp dIx (zn 4) (dOp (dI0 fun i j=>i - j) (zn 5) (dC (.int 1)))) (dOp dIx (zn 4) (zn 5))) (dOp zq6 (dOp dIx (zn 3) (dOp (dI0 fun i j=>i - j) (zn 5) (dC (.int 1)))) (dOp dIx (zn 3) (zn 5)))))) (zbB (dC (.bool false))) za8))) (zbB (dC (.bool true)))))) (zcE S.length R) (xs.map some ++ List.replicate 3 none) S
def zaW:PN:=fun xs S R=>(zZ (zam (zaf 3 zjg (ze (zn 0) (ze (zn 1) (ze (zn 2) zB)))) (zo 4)) (zZ (zam (zaf 3 zjg (ze (zn 0) (ze (zn 1) (ze (dOp zbm (zn 2) (dC (.int 1))) zB)))) (zo 5)) (zZ (zdZ (dB (dOp zsY (zn 4) (zn 5))) (zbB (dC (.bool false))) za8) (zbB (dOp zi3 (zdf [none,some 4,some 5,some 1] (zd0 (zn 3)) (zo 0) (zpu (dB (zdJ zq6 zq6 (zn 1) (zn 0) (zn 2))) (zln (zaf 2 zbF (ze (zn 3) (ze (zn 0) zB))))) (zn 0)) (zfe zB)))))) (zcE S.length R) (xs.map some ++ List.replicate 2 none) S
def zqU:DS:=(zZ (zam (zaf 1 zge (ze (zn 1) zB)) (zo 2)) (zZ (zam (zW 0 1 zbZ (ze (zn 2) zB)) (zo 3)) (zZ (zam (zW 0 2 zex (ze (zn 2) (ze (zn 3) zB))) (zo 4)) (zZ (zam (zW 0 3 zc6 (ze (zn 2) (ze (zn 3) (ze (zn 4) zB)))) (zo 3)) (zZ (zam (zaf 2 zdK (ze (zn 3) (ze (dOp dIx (zn 4) (dC (.int 0))) zB))) (zc5 2 (zab (zo 5) (zab (zo 6) zdb)))) (zZ (zam (zdf [none,some 2,some 3] (zaS (ze (dC (.int 8)) zB)) (zo 0) za5 (zW 0 2 zew (ze (zn 1) (ze (zn 2) zB)))) (zo 7)) (zdZ (dB (dOp (dIb fun i j=>decide (i < j)) (dOp (dI0 fun i j=>i - j) (zn 6) (zn 5)) (dC (.int 400)))) (zZ (zam (zaf 2 zcw (ze (zn 3) (ze (zn 4) zB))) (zo 8)) (zZ (zdZ (zl7 (zln (zaf 3 zbd (ze (zn 3) (ze (zn 4) (ze (zn 7) zB)))))) (zbB (dC (.bool false))) za8) (zhV (zd0 (zfe (ze (dC (.int 0)) (ze (dC (.int 1)) (ze (dOp (dI0 fun i j=>i - j) (zn 8) (dC (.int 2))) (ze (dOp (dI0 fun i j=>i - j) (zn 8) (dC (.int 1))) (ze (dOp dFd (zn 8) (dC (.int 2))) (ze (zW 0 2 zw (ze (zn 2) (ze (dOp (dI CPow fun i j=>i ^ j.toNat) (dC (.int 10)) (dC (.int 15))) zB))) zB)))))))) (zo 9) (zZ (zdZ (zpu (dB (zdJ (dIb fun i j=>decide (i <= j)) (dIb fun i j=>decide (i < j)) (dC (.int 0)) (zn 9) (zn 8))) (zl7 (zln (zaf 3 zaU (ze (zn 3) (ze (zn 4) (ze (zn 9) zB))))))) (zbB (dC (.bool false))) za8) (zdZ (zpu (dB (zdJ (dIb fun i j=>decide (i <= j)) (dIb fun i j=>decide (i < j)) (dC (.int 0)) (zn 9) (dOp (dI0 fun i j=>i - j) (zn 8) (dC (.int 1))))) (zl7 (zln (zaf 4 zaW (ze (zn 3) (ze (zn 4) (ze (zn 9) (ze (zn 7) zB)))))))) (zbB (dC (.bool false))) za8))))) za8)))))))
end My
namespace My
open PySem L2
theorem seq1 {t u:DS} {E:DEnds} {δ:XE} {S:Sto} (h:t { E with nx:=u E } δ S):zZ t u E δ S:=h
theorem seqm {t u:DSm} {E:DEndsM} {δ:XE} {S:Sto} {M:DM} (h:t { E with nx:=u E } δ S M):zoc t u E δ S M:=h
theorem cut {t u:DS} {E:DEnds} {δ:XE} {S:Sto} (I:XE->Sto->Prop) (h1:∀ N:XE->Sto->Prop,(∀ δ' S',I δ' S'->N δ' S')->t { E with nx:=N } δ S) (h2:∀ δ' S',I δ' S'->u E δ' S'):zZ t u E δ S:=h1 _ h2
theorem zhT (i j:Int):PyData.eqv (.int i) (.int j) = decide (i = j):=rfl
theorem zj2 (i j:Bool):PyData.eqv (.bool i) (.bool j) = decide (i = j):=by cases i <;> cases j <;> rfl
theorem zsC (i:Int):SeqAt.shaped (.int i) = true:=rfl
theorem zrT (i:Bool):SeqAt.shaped (.bool i) = true:=rfl
theorem zns:("int" ∈ zpL) = True:=eq_true (by decide)
theorem zj1:("bool" ∈ zpL) = True:=eq_true (by decide)
theorem ziu:("tuple" ∈ zpL) = True:=eq_true (by decide)
end My
namespace My
open PySem L2
local macro_rules | `(tactic| walk_at "d")=>`(tactic| (try simp -implicitDefEqProofs only [zam,zhH,zjY,zgW,List.all_cons,List.all_nil,Bool.and_self,zrE,zlL,ziy,zl9,zoF,zmG,ziQ,zrd,ze1,zkz,zq6,zrg,zo,zn,dC,dO,dOp,dUn,zB,ze,dCB,zg8,zfe,ze5,dB,zl7,zpu,dOr,zk4,ztx,znJ,dIf,zdJ,dI,dI0,dIb,dUI,zi3,zq1,ztP,zr0,zr5,zsA,zrl,zpd,zo7,zoM,zpy,zpr,zmW,zpf,zoK,zoX,dFd,zln,zo6,zbR,zfs,dSl,zcK,zjJ,zoT,zq4,znu,dI2,zf9,dBM,zrb,zsv,zdt,zdV,zmD,ztz,zmT,zmz,zpM,zsS,zaf,zW,zkx,zrm,zrL,zsy,zsQ,asL,zpz,zr9,zsf,zny,zlP,zoU,zpJ,zpl,zr3,zr8,zlB,zpi,zoJ,zoO,zpP,zbB,zdZ,zf1,za8,zg6,zhV,zd0,zpw,zoQ,zaS,ze6,zm5,zjD,zc5,zab,zrD,zrs,zrQ,zrX,zdb,znD,zdf,zfI,za5,zpT,zgf,zjF,zjI,zjN,ziR,zgF,List.replicate,List.map_cons,List.map_nil,Option.map_some,Option.bind_some,Option.bind_none,Option.join_some,List.getElem?_cons_zero,List.getElem?_cons_succ,List.set_cons_zero,List.set_cons_succ,List.take_succ_cons,List.take_zero,List.take_nil,List.length_cons,List.length_nil,List.nil_append,List.cons_append,Option.some.injEq,exists_eq_left',exists_eq_left,List.cons.injEq,XV.d.injEq,XV.l.injEq,XV.o.injEq,PyData.int.injEq,PyData.list.injEq,PyData.tuple.injEq,PyData.bool.injEq,PyData.str.injEq,and_true,true_and,decide_eq_true_eq,Bool.not_true,Bool.not_false,Bool.false_eq_true,Bool.true_eq_false,not_true_eq_false,not_false_eq_true,↓reduceIte,decide_true,decide_false,Bool.not_eq_true',zqw,decide_eq_false_iff_not,Nat.reduceAdd,Nat.reduceMul,Nat.zero_add,Nat.reduceLT,Nat.reduceLeDiff,Nat.reduceEqDiff,Int.reduceLT,Int.reduceLE,Int.reduceNeg,Int.reducePow,Int.reduceToNat,Int.reduceEq,Int.reduceAdd,Int.reduceSub,Int.reduceMul,Nat.le_refl,Nat.zero_le,List.length_append,List.length_map,zhT,zj2,zsC,zrT,List.isEmpty_nil,List.isEmpty_cons,Int.cast_ofNat_Int,Int.natCast_zero,Int.natCast_one,zns,zj1,ziu,znv,zj5,zij,zsY]))
local macro_rules | `(tactic| walk_at "e")=>`(tactic| (try simp -implicitDefEqProofs only [zZ,zam,zhH,zjY,zgW,List.all_cons,List.all_nil,Bool.and_self,zrE,zlL,ziy,zoc,zl9,zoF,zmG,ziQ,zrd,ze1,zkz,zq6,zrg,zo,zn,dC,dO,dOp,dUn,zB,ze,dCB,zg8,zfe,ze5,dB,zl7,zpu,dOr,zk4,ztx,znJ,dIf,zdJ,dI,dI0,dIb,dUI,zi3,zq1,ztP,zr0,zr5,zsA,zrl,zpd,zo7,zoM,zpy,zpr,zmW,zpf,zoK,zoX,dFd,zln,zo6,zbR,zfs,dSl,zcK,zjJ,zoT,zq4,znu,dI2,zf9,dBM,zrb,zsv,zdt,zdV,zmD,ztz,zmT,zmz,zpM,zsS,zaf,zW,zkx,zrm,zrL,zsy,zsQ,asL,zpz,zr9,zsf,zny,zlP,zoU,zpJ,zpl,zr3,zr8,zlB,zpi,zoJ,zoO,zpP,zbB,zdZ,zf1,za8,zg6,zhV,zd0,zpw,zoQ,zaS,ze6,zm5,zjD,zc5,zab,zrD,zrs,zrQ,zrX,zdb,znD,zdf,zfI,za5,zpT,zgf,zjF,zjI,zjN,ziR,zgF,List.replicate,List.map_cons,List.map_nil,Option.map_some,Option.bind_some,Option.bind_none,Option.join_some,List.getElem?_cons_zero,List.getElem?_cons_succ,List.set_cons_zero,List.set_cons_succ,List.take_succ_cons,List.take_zero,List.take_nil,List.length_cons,List.length_nil,List.nil_append,List.cons_append,Option.some.injEq,exists_eq_left',exists_eq_left,List.cons.injEq,XV.d.injEq,XV.l.injEq,XV.o.injEq,PyData.int.injEq,PyData.list.injEq,PyData.tuple.injEq,PyData.bool.injEq,PyData.str.injEq,and_true,true_and,decide_eq_true_eq,Bool.not_true,Bool.not_false,Bool.false_eq_true,Bool.true_eq_false,not_true_eq_false,not_false_eq_true,↓reduceIte,decide_true,decide_false,Bool.not_eq_true',zqw,decide_eq_false_iff_not,Nat.reduceAdd,Nat.reduceMul,Nat.zero_add,Nat.reduceLT,Nat.reduceLeDiff,Nat.reduceEqDiff,Int.reduceLT,Int.reduceLE,Int.reduceNeg,Int.reducePow,Int.reduceToNat,Int.reduceEq,Int.reduceAdd,Int.reduceSub,Int.reduceMul,Nat.le_refl,Nat.zero_le,List.length_append,List.length_map,zhT,zj2,zsC,zrT,List.isEmpty_nil,List.isEmpty_cons,Int.cast_ofNat_Int,Int.natCast_zero,Int.natCast_one,zns,zj1,ziu,znv,zj5,zij,zsY]))
section
variable {R:RX}
theorem zgq {n:Int} (q:∀ m,0 <= m->R (.d (.int m)) []):zcP [.d (.int n)] [] R:=by
 unfold zcP
 walk_at "e"
 have h1:=Int.emod_nonneg (n + 7919) (show (2147483647:Int) ≠ 0 by decide)
 have h2:=Int.emod_lt_of_pos (n + 7919) (show (0:Int) < 2147483647 by decide)
 exact ⟨zcC (by omega) (by omega),zcC (by decide) (by decide),q _ (Int.emod_nonneg _ (by decide))⟩
theorem zF {p:List PyData} {n:Int} (hp:za1 p) (hn:0 < n) (hb:n.natAbs.log2 < 9000) (q:∀ r p',0 <= r->r < n->za1 p'->R (.d (.int r)) [p']):zw [.l 0,.d (.int n)] [p] R:=by
 obtain ⟨l,g,sd,rfl,hl⟩:=hp
 unfold zw
 walk_at "e"
 split
 ·refine ⟨hn,.inl ⟨⟨hn,hb⟩,0,rfl,?_⟩⟩
  walk_at "e"
  exact q _ _ (Int.emod_nonneg _ (by omega)) (Int.emod_lt_of_pos _ hn) ⟨_,_,_,rfl,Int.ediv_nonneg hl (by omega)⟩
 ·refine zgq fun m _=>?_
  walk_at "e"
  refine zgq fun m' h'=>?_
  walk_at "e"
  refine ⟨2,rfl,?_⟩
  walk_at "e"
  exact .inl ⟨⟨by decide,by decide +kernel⟩,hn,q _ _ (Int.emod_nonneg _ (by omega)) (Int.emod_lt_of_pos _ hn) ⟨_,_,_,rfl,hl⟩⟩
theorem zhS {n:Int} (q:∀ p,za1 p->R (.l 0) [p]):zff [.d (.int n)] [] R:=by
 unfold zff
 walk_at "e"
 refine ⟨⟨by decide,by decide,by decide⟩,?_⟩
 refine .inr (q _ ⟨_,_,_,rfl,?_⟩)
 split <;> omega
theorem zkS {n:Int} (q:∀ p,za1 p->R (.l 0) [p]):zge [.d (.int n)] [] R:=zhS q
theorem zft {p:List PyData} (hp:za1 p) (q:∀ r p',-10 ^ 58 <= r->r <= 10 ^ 58->za1 p'->R (.d (.int r)) [p']):zdj [.l 0] [p] R:=by
 unfold zdj
 walk_at "e"
 refine zF hp (by decide) (by decide +kernel) fun r p1 r0 r1 hp1=>?_
 walk_at "e"
 split
 ·refine zF hp1 (by decide) (by decide +kernel) fun r p2 r0 r1 hp2=>?_
  walk_at "e"
  exact q _ _ (by omega) (by omega) hp2
 ·split
  ·refine zF hp1 (by decide) (by decide +kernel) fun r p2 r0 r1 hp2=>?_
   walk_at "e"
   exact q _ _ (by omega) (by omega) hp2
  ·refine ⟨⟨by decide,by decide,by decide⟩,zcC (by decide) (by decide),?_⟩
   have k1:(10:Int) ^ 30 = 1000000000000000000000000000000:=by decide +kernel
   have k2:(10:Int) ^ 28 = 10000000000000000000000000000:=by decide +kernel
   refine zF hp1 (by decide +kernel) (by decide +kernel) fun r p2 r0 r1 hp2=>?_
   walk_at "e"
   try simp only [k1,k2] at r1 ⊢
   refine ⟨⟨by decide,by decide,by decide⟩,⟨by decide,by decide,by decide⟩,zp4 128 128 (by omega) (by decide +kernel),q _ _ (by omega) (by omega) hp2⟩
theorem zhA {p:List PyData} (hp:za1 p) (q:∀ r p',-10 ^ 58 <= r->r <= 10 ^ 58->za1 p'->R (.d (.int r)) [p']):zdG [.l 0] [p] R:=zft hp q
end
section
variable {R:RX}
theorem zr7 {α:Type} [Inhabited α] {l:List α} {i:Int} (h0:0 <= i) (h1:i < l.length) (d:α):atI l i = some (l.getD i.toNat d):=by
 obtain ⟨k,rfl⟩:=Int.eq_ofNat_of_zero_le h0
 have hk:k < l.length:=by omega
 rw [zcV (List.getElem?_eq_getElem hk)]
 simp [List.getD_eq_getElem?_getD,hk]
theorem zkb:("abcdefghijklmnopqrstuvwxyz":Str).length = 26:=by decide
theorem zok:("abcdefghijklmnopqrstuvwxyz":Str).cps.toList.length = 26:=by rw [<- zkb]; simp [Str.length]
theorem zh7:("abcdefghijklmnopqrstuvwxyz":Str).length <= sizeLine:=Nat.le_of_lt (small1000 (by rw [zkb]; decide))
theorem len1 (c:Nat):(⟨#[c]⟩:Str).length = 1:=rfl
abbrev lsgn (i:Int):Str:=⟨#[("abcdefghijklmnopqrstuvwxyz":Str).cps.toList.getD i.toNat 0]⟩
theorem zmM {i:Int} (h0:0 <= i) (h1:i < 26):atI ("abcdefghijklmnopqrstuvwxyz":Str).cps.toList i = some (("abcdefghijklmnopqrstuvwxyz":Str).cps.toList.getD i.toNat 0):=zr7 h0 (by rw [zok]; exact h1) 0
theorem znw {ds:List PyData} {a b:Option Int} {d:PyData} (m:d ∈ zeu ds a b):d ∈ ds:=by
 unfold zeu at m
 exact List.mem_of_mem_drop (List.mem_of_mem_take m)
def zfi (z:Str):Bool:=decide (z.length <= 100) && PyData.strOk z && !decide (z = "zy")
theorem zrv:∀ f < 26,∀ k < 8,zfi (PySem.Txt.mul (lsgn (((f:Nat) + 5 * (0 + ((k:Nat):Int))) % 26)) (1 + ((f:Nat) + 3 * (0 + ((k:Nat):Int))) % 8)) = true:=by decide +kernel
theorem zrZ:∀ f < 26,∀ k < 8,zfi (PySem.Txt.slice (PySem.Txt.join "" ((List.range 8).map fun k:Nat=>lsgn (((f:Nat) + 7 * (0 + (k:Int))) % 26))) none (some (0 + ((k:Nat):Int) + 1))) = true:=by decide +kernel
theorem zpU {ds:List PyData} (h:∀ d ∈ ds,∃ z:Str,d = .str z/\zfi z = true):∃ zs:List Str,ds = zs.map PyData.str/\zs.length = ds.length/\∀ z ∈ zs,zfi z = true:=by
 induction ds with
 | nil=>exact ⟨[],rfl,rfl,by simp⟩
 | cons d ds ih =>
  obtain ⟨z,rfl,hz⟩:=h d List.mem_cons_self
  obtain ⟨zs,rfl,hl,hzs⟩:=ih fun d m=>h d (List.mem_cons_of_mem _ m)
  refine ⟨z :: zs,rfl,by simp,fun y m=>?_⟩
  rcases List.mem_cons.mp m with rfl | m
  ·exact hz
  ·exact hzs y m
theorem zlT (a b:Str):(a ++ b).length = a.length + b.length:=strLen_append a b
theorem ziL:∀ zs:List Str,(∀ z ∈ zs,z.length <= 1)->(Str.join "" zs).length <= zs.length
 | [],_=>Nat.le_refl 0
 | [a],h=>h a List.mem_cons_self
 | a :: b :: r,h=>by
  show (a ++ "" ++ Str.join "" (b :: r)).length <= _
  rw [zlT,zlT]
  have e:("":Str).length = 0:=rfl
  have h1:=h a List.mem_cons_self
  have h2:=ziL (b :: r) fun z m=>h z (List.mem_cons_of_mem _ m)
  rw [e]
  simp only [List.length_cons] at h2 ⊢
  omega
def ziv (ds:List PyData):Prop:=∀ d ∈ ds,∃ z:Str,d = .str z/\zfi z = true
theorem zje {ds:List PyData} {a:Int} (h0:0 <= a) (h1:a <= ds.length):(zeu ds (some a) none ++ zeu ds none (some a)).length = ds.length:=by
 obtain ⟨k,rfl⟩:=Int.eq_ofNat_of_zero_le h0
 have e1:HT.sIx ds.length 0 (some (k:Int)) = k:=by rw [HT.sIx_nat]; omega
 have e2:HT.sIx ds.length ds.length (some (k:Int)) = k:=by rw [HT.sIx_nat]; omega
 have e3:HT.sIx ds.length ds.length none = ds.length:=rfl
 have e4:HT.sIx ds.length 0 none = 0:=rfl
 unfold zeu
 rw [e1,e2,e3,e4,List.length_append,List.length_take,List.length_take,List.length_drop,List.length_drop]
 omega
def zm3:List Str:=["part","gap","cut","a","aa","dear","b","keeps"]
set_option maxHeartbeats 8000000 in
theorem zfQ {p:List PyData} (hp:za1 p) (q:∀ (ns:List Str) p',ns.length = 8->(∀ z ∈ ns,zfi z = true)->za1 p'->R (.d (.list (ns.map PyData.str))) [p']):zd8 [.l 0] [p] R:=by
 unfold zd8
 walk_at "d"
 (refine seq1 ?_; walk_at "d")
 (refine seq1 ?_; walk_at "d")
 refine zF hp (by decide) (by decide +kernel) fun way p1 w0 w1 hp1=>?_
 walk_at "d"
 (refine seq1 ?_; walk_at "d")
 refine zF hp1 (by decide) (by decide +kernel) fun fst p2 f0 f1 hp2=>?_
 walk_at "d"
 refine cut (fun δ' S'=>∃ (ds:List PyData),ziv ds/\ds.length = 8/\S' = [p2,ds]/\δ' = [some (.l 0),some (.d (.str ("abcdefghijklmnopqrstuvwxyz":Str))),some (.d (.int way)),some (.d (.int fst)),some (.l 1),none,none]) (fun N hN=>?_) ?_
 ·walk_at "d"
  refine cmp1 (S0:=[p2]) (fun k:Nat=>.str (PySem.Txt.mul (lsgn ((fst + 5 * (0 + k)) % 26)) (1 + (fst + 3 * (0 + k)) % 8))) rfl (List.range 8) (by simp) ?_ ?_
  ·intro k mk u acc R' hk
   have b1:=Int.emod_nonneg (fst + 5 * (0 + (k:Int))) (show (26:Int) ≠ 0 by decide)
   have b2:=Int.emod_lt_of_pos (fst + 5 * (0 + (k:Int))) (show (0:Int) < 26 by decide)
   have b3:=Int.emod_nonneg (fst + 3 * (0 + (k:Int))) (show (8:Int) ≠ 0 by decide)
   have b4:=Int.emod_lt_of_pos (fst + 3 * (0 + (k:Int))) (show (0:Int) < 8 by decide)
   walk_at "d"
   refine ⟨zcC (by decide) (by decide),zh7,_,zmM b1 b2,?_⟩
   walk_at "d"
   refine ⟨zcC (by decide) (by decide),?_⟩
   walk_at "d"
   exact ⟨by rw [len1]; decide,by omega,by omega,hk _⟩
  ·refine hN _ _ ⟨_,?_,by simp,rfl,rfl⟩
   intro d m
   obtain ⟨k,mk,rfl⟩:=List.mem_map.mp m
   obtain ⟨f,rfl⟩:=Int.eq_ofNat_of_zero_le f0
   exact ⟨_,rfl,zrv f (by omega) k (List.mem_range.mp mk)⟩
 rintro _ _ ⟨ds,hds,hl,rfl,rfl⟩
 refine cut (fun δ' S'=>∃ (ds:List PyData) (T:Sto) (k:Nat) (u:Option XV),ziv ds/\ds.length = 8/\T[k]? = some ds/\S' = p2 :: T/\δ' = [some (.l 0),some (.d (.str ("abcdefghijklmnopqrstuvwxyz":Str))),some (.d (.int way)),some (.d (.int fst)),some (.l (k + 1)),u,none]) (fun N hN=>?_) ?_
 ·walk_at "d"
  split
  ·refine seq1 ?_
   walk_at "d"
   refine cmp1 (S0:=[p2,ds]) (fun k:Nat=>.str (lsgn ((fst + 7 * (0 + k)) % 26))) rfl (List.range 8) (by simp) ?_ ?_
   ·intro k mk u acc R' hk
    have b1:=Int.emod_nonneg (fst + 7 * (0 + (k:Int))) (show (26:Int) ≠ 0 by decide)
    have b2:=Int.emod_lt_of_pos (fst + 7 * (0 + (k:Int))) (show (0:Int) < 26 by decide)
    walk_at "d"
    refine ⟨zcC (by decide) (by decide),zh7,_,zmM b1 b2,?_⟩
    exact hk _
   ·walk_at "d"
    refine ⟨(List.range 8).map fun k:Nat=>lsgn ((fst + 7 * (0 + k)) % 26),by rw [List.map_map]; rfl,by decide,by simp,fun y m=>?_,?_⟩
    ·obtain ⟨k,_,rfl⟩:=List.mem_map.mp m
     show 1 <= 1000
     decide
    ·have wl:(PySem.Txt.join "" ((List.range 8).map fun k:Nat=>lsgn ((fst + 7 * (0 + k)) % 26))).length <= 8 * 1016:=by
      have:=znW (y:=("":Str)) (zs:=(List.range 8).map fun k:Nat=>lsgn ((fst + 7 * (0 + k)) % 26)) (by decide) (fun y m=>by
       obtain ⟨k,_,rfl⟩:=List.mem_map.mp m
       show 1 <= 1000
       decide)
      simpa using this
     have wl':(PySem.Txt.join "" ((List.range 8).map fun k:Nat=>lsgn ((fst + 7 * (0 + k)) % 26))).length <= 8:=by
      show (Builtin.Str.glued _ _).length <= _
      rw [StrLaws.glued_eq_join]
      have:=ziL ((List.range 8).map fun k:Nat=>lsgn ((fst + 7 * (0 + k)) % 26)) (fun y m=>by
       obtain ⟨k,_,rfl⟩:=List.mem_map.mp m
       exact Nat.le_refl 1)
      simpa using this
     walk_at "d"
     refine cmp1 (S0:=[p2,ds]) (fun k:Nat=>.str (PySem.Txt.slice (PySem.Txt.join "" ((List.range 8).map fun k:Nat=>lsgn ((fst + 7 * (0 + k)) % 26))) none (some (0 + k + 1)))) rfl (List.range 8) (by simp) ?_ ?_
     ·intro k mk u acc R' hk
      walk_at "d"
      exact ⟨Nat.le_trans wl (by rw [sizeLine_eq]; decide),hk _⟩
     ·refine hN _ _ ⟨_,[ds,_],1,_,?_,?_,rfl,rfl,rfl⟩
      ·intro d m
       obtain ⟨k,mk,rfl⟩:=List.mem_map.mp m
       obtain ⟨f,rfl⟩:=Int.eq_ofNat_of_zero_le f0
       exact ⟨_,rfl,zrZ f (by omega) k (List.mem_range.mp mk)⟩
      ·simp
  ·exact hN _ _ ⟨ds,[ds],0,none,hds,hl,rfl,rfl,rfl⟩
 rintro _ _ ⟨ds,T,k,u,hds,hl,hk,rfl,rfl⟩
 refine cut (fun δ' S'=>∃ (ds:List PyData) (T:Sto) (k:Nat),ziv ds/\ds.length = 8/\T[k]? = some ds/\S' = p2 :: T/\δ' = [some (.l 0),some (.d (.str ("abcdefghijklmnopqrstuvwxyz":Str))),some (.d (.int way)),some (.d (.int fst)),some (.l (k + 1)),u,none]) (fun N hN=>?_) ?_
 ·walk_at "d"
  split
  ·refine hN _ _ ⟨zm3.map PyData.str,T ++ [zm3.map PyData.str],T.length,?_,rfl,by rw [List.getElem?_concat_length],rfl,rfl⟩
   intro d m
   obtain ⟨z,hz,rfl⟩:=List.mem_map.mp m
   refine ⟨z,rfl,?_⟩
   simp only [zm3,List.mem_cons,List.not_mem_nil,or_false] at hz
   rcases hz with rfl | rfl | rfl | rfl | rfl | rfl | rfl | rfl <;> decide +kernel
  ·exact hN _ _ ⟨ds,T,k,hds,hl,hk,rfl,rfl⟩
 rintro _ _ ⟨ds,T,k,hds,hl,hk,rfl,rfl⟩
 (refine seq1 ?_; walk_at "d")
 refine zF hp2 (by decide) (by decide +kernel) fun at' p3 a0 a1 hp3=>?_
 walk_at "d"
 (refine seq1 ?_; walk_at "d")
 refine ⟨ds,hk,ds,hk,?_⟩
 have hc:=zje (ds:=ds) a0 (by omega)
 rw [List.length_append] at hc
 refine ⟨by omega,?_⟩
 have hk2:(T ++ [zeu ds (some at') none ++ zeu ds none (some at')])[T.length]? = some (zeu ds (some at') none ++ zeu ds none (some at')):=by rw [List.getElem?_concat_length]
 have hs2:ziv (zeu ds (some at') none ++ zeu ds none (some at')):=fun d m=>(List.mem_append.mp m).elim (fun m=>hds d (znw m)) fun m=>hds d (znw m)
 have hl2:(zeu ds (some at') none ++ zeu ds none (some at')).length = 8:=by rw [List.length_append]; omega
 generalize zeu ds (some at') none ++ zeu ds none (some at') = es at hk2 hs2 hl2 ⊢
 refine seq1 ?_
 walk_at "d"
 refine zF hp3 (by decide) (by decide +kernel) fun r p4 r0 r1 hp4=>?_
 walk_at "d"
 have fin':∀ (fs:List PyData),ziv fs->fs.length = 8->R (.d (.list fs)) [p4]:=by
  intro fs h1 h2
  obtain ⟨zs,rfl,z1,z2⟩:=zpU h1
  exact q zs p4 (by omega) z2 hp4
 split
 ·refine ⟨by simp,es,hk2,?_⟩
  walk_at "d"
  rw [if_neg (by omega)]
  refine ⟨es.reverse,by simp [zhL],.inl (fin' _ (fun d m=>hs2 d (List.mem_reverse.mp m)) (by simpa using hl2))⟩
 ·rw [if_neg (by omega)]
  exact ⟨es,hk2,.inl (fin' _ hs2 hl2)⟩
theorem zia {p:List PyData} (hp:za1 p) (q:∀ (ns:List Str) p',ns.length = 8->(∀ z ∈ ns,zfi z = true)->za1 p'->R (.d (.list (ns.map PyData.str))) [p']):zeh [.l 0] [p] R:=zfQ hp q
abbrev Part:=Str × Int × Int
def zev (p:Part):PyData:=.tuple [.str p.1,.int p.2.1,.int p.2.2]
def zcs (ps:List Part):PyData:=.tuple (ps.map zev)
structure Prt (p:Part):Prop where
 nm:zfi p.1 = true
 le:p.2.1 <= p.2.2
 lo:-10 ^ 58 <= p.2.1
 hi:p.2.2 <= 10 ^ 59
structure Drw (ps:List Part):Prop where
 l1:1 <= ps.length
 l8:ps.length <= 8
 all:∀ p ∈ ps,Prt p
theorem zbl {α:Type} {f:α->PyData} {l:List α} {k:Nat} {x:α} (e:l[k]? = some x):atI (l.map f) (k:Int) = some (f x):=zcV (by rw [List.getElem?_map,e]; rfl)
end
section
variable {R:RX} {S:Sto}
theorem zpv {a b m:Int} (h1:m ∈ [a,b]) (h2:∀ x,x ∈ [a,b]->m <= x):m = min a b:=by
 have ha:=h2 a (by simp)
 have hb:=h2 b (by simp)
 simp only [List.mem_cons,List.not_mem_nil,or_false] at h1
 omega
theorem zpg {a b m:Int} (h1:m ∈ [a,b]) (h2:∀ x,x ∈ [a,b]->x <= m):m = max a b:=by
 have ha:=h2 a (by simp)
 have hb:=h2 b (by simp)
 simp only [List.mem_cons,List.not_mem_nil,or_false] at h1
 omega
theorem zt1 {a b:Int} (q:R (.d (.int (min a b))) S):zkM [.d (.list [.int a,.int b])] S R:=.inl ⟨_,rfl,[a,b],rfl,by simp,fun m h1 h2=>by rw [zpv h1 h2]; exact q⟩
theorem zt7 {a b:Int} (q:R (.d (.int (min a b))) S):zkM [.d (.tuple [.int a,.int b])] S R:=.inl ⟨_,rfl,[a,b],rfl,by simp,fun m h1 h2=>by rw [zpv h1 h2]; exact q⟩
theorem zt8 {a b:Int} (q:R (.d (.int (max a b))) S):zq5 [.d (.list [.int a,.int b])] S R:=⟨_,rfl,[a,b],rfl,by simp,fun m h1 h2=>by rw [zpg h1 h2]; exact q⟩
theorem zt6 {a b:Int} (q:R (.d (.int (max a b))) S):zq5 [.d (.tuple [.int a,.int b])] S R:=⟨_,rfl,[a,b],rfl,by simp,fun m h1 h2=>by rw [zpg h1 h2]; exact q⟩
abbrev Term:=Nat × Int
def tmD (t:Term):PyData:=.tuple [.int t.1,.int t.2]
def zjP (ts:List Term):PyData:=.tuple (ts.map tmD)
structure Gap where
 ts:List Term
 lo:Int
 hi:Int
def zdU (g:Gap):PyData:=.tuple [zjP g.ts,.int g.lo,.int g.hi]
theorem zcb (g:Gap):zdU g = .tuple [zjP g.ts,.int g.lo,.int g.hi]:=rfl
theorem zic (t:Term):tmD t = .tuple [.int t.1,.int t.2]:=rfl
theorem zg7 (p:Part):zev p = .tuple [.str p.1,.int p.2.1,.int p.2.2]:=rfl
def zct (ns:List Int):PyData:=.tuple (ns.map PyData.int)
structure Tms (n:Nat) (ts:List Term):Prop where
 ne:ts ≠ []
 len:ts.length <= n
 ok:∀ t ∈ ts,t.1 < n/\t.2 ≠ 0/\-3 <= t.2/\t.2 <= 3
 srt:ts.Pairwise fun t u=>t.1 < u.1
structure Tm3 (n:Nat) (ts:List Term):Prop where
 len:ts.length <= 100
 ok:∀ t ∈ ts,t.1 < n/\-3 <= t.2/\t.2 <= 3
theorem Tms.tm3 {n:Nat} {ts:List Term} (h:Tms n ts) (hn:n <= 8):Tm3 n ts:=⟨by have:=h.len; omega,fun t m=>⟨(h.ok t m).1,(h.ok t m).2.2⟩⟩
def worth (ts:List Term) (ns:List Int):Int:=(ts.map fun t=>t.2 * ns.getD t.1 0).sum
theorem zf5 {ns:List Int} {k:Nat} (h:k < ns.length):ns[k]? = some (ns.getD k 0):=by
 rw [List.getElem?_eq_getElem h,List.getD_eq_getElem?_getD,List.getElem?_eq_getElem h]
 rfl
def part (ps:List Part) (k:Nat):Part:=ps.getD k ("",0,0)
theorem zds {ps:List Part} {k:Nat} (h:k < ps.length):ps[k]? = some (part ps k):=by
 unfold part
 rw [List.getElem?_eq_getElem h,List.getD_eq_getElem?_getD,List.getElem?_eq_getElem h]
 rfl
theorem zbq {ps:List Part} {k:Nat} (h:k < ps.length):part ps k ∈ ps:=List.mem_of_getElem? (zds h)
def plo (ps:List Part) (k:Nat):Int:=(part ps k).2.1
def phi (ps:List Part) (k:Nat):Int:=(part ps k).2.2
def tLo (ps:List Part) (t:Term):Int:=min (t.2 * plo ps t.1) (t.2 * phi ps t.1)
def tHi (ps:List Part) (t:Term):Int:=max (t.2 * plo ps t.1) (t.2 * phi ps t.1)
def zV (ps:List Part) (ts:List Term):Int:=(ts.map (tLo ps)).sum
def zaA (ps:List Part) (ts:List Term):Int:=(ts.map (tHi ps)).sum
theorem zja {ps:List Part} {t:Term} {ts:List Term}:zV ps (t :: ts) = tLo ps t + zV ps ts:=by simp [zV]
theorem zk3 {ps:List Part} {t:Term} {ts:List Term}:zaA ps (t :: ts) = tHi ps t + zaA ps ts:=by simp [zaA]
theorem zfU {ps:List Part} {ts:List Term} {i:Nat} {t:Term} (h:ts[i]? = some t):zV ps (ts.take (i + 1)) = zV ps (ts.take i) + tLo ps t:=by
 unfold zV
 rw [List.take_add_one,h]
 simp
theorem zgV {ps:List Part} {ts:List Term} {i:Nat} {t:Term} (h:ts[i]? = some t):zaA ps (ts.take (i + 1)) = zaA ps (ts.take i) + tHi ps t:=by
 unfold zaA
 rw [List.take_add_one,h]
 simp
theorem zkN {ns:List Int} {ts:List Term} {i:Nat} {t:Term} (h:ts[i]? = some t):worth (ts.take (i + 1)) ns = worth (ts.take i) ns + t.2 * ns.getD t.1 0:=by
 unfold worth
 rw [List.take_add_one,h]
 simp
theorem zeC (ps:List Part):∀ ts:List Term,zV ps ts <= zaA ps ts
 | []=>by simp [zV,zaA]
 | t :: ts=>by
  have:=zeC ps ts
  rw [zja,zk3]
  unfold tLo tHi
  omega
theorem zfT {α:Type} {f:α->PyData} {l:List α} {i:Nat} {d:PyData} (h:(l.map f)[i]? = some d):∃ x,l[i]? = some x/\d = f x:=by
 rw [List.getElem?_map] at h
 obtain ⟨x,e,rfl⟩:=Option.map_eq_some_iff.mp h
 exact ⟨x,e,rfl⟩
theorem zgD {ps:List Part} {ts:List Term} {t:PyData} (ht:zlm (.d t) = some (ts.map tmD)) (h3:Tm3 ps.length ts) (q:R (.d (spD (zV ps ts) (zaA ps ts))) []):zeV [.d (zcs ps),.d t] [] R:=by
 unfold zeV zcs
 walk_at "d"
 (refine seq1 ?_; walk_at "d")
 (refine seq1 ?_; walk_at "d")
 refine seq1 ?_
 walk_at "d"
 refine ⟨_,ht,?_⟩
 refine za4 (fun i δ S=>∃ (u1 u2 u3:Option XV),S = []/\δ = [some (.d (.tuple (ps.map zev))),some (.d t),some (.d (.int (zV ps (ts.take i)))),some (.d (.int (zaA ps (ts.take i)))),u1,u2,u3]) ⟨_,_,_,rfl,rfl⟩ ?_ ?_
 ·rintro i d _ _ N hi ⟨u1,u2,u3,rfl,rfl⟩ hN
  obtain ⟨t,ht,rfl⟩:=zfT hi
  obtain ⟨t1,t2,t3⟩:=h3.ok t (List.mem_of_getElem? ht)
  have ep:=zbl (f:=zev) (zds t1)
  unfold tmD
  walk_at "d"
  (refine seq1 ?_; walk_at "d")
  refine ⟨_,ep,?_⟩
  unfold zev
  walk_at "d"
  refine ⟨zcC (by omega) (by omega),_,ep,?_⟩
  unfold zev
  walk_at "d"
  refine ⟨zcC (by omega) (by omega),?_⟩
  (refine seq1 ?_; walk_at "d")
  refine zt1 ?_
  walk_at "d"
  refine zt8 ?_
  walk_at "d"
  exact hN _ _ ⟨_,_,_,rfl,by rw [zfU ht,zgV ht]; rfl⟩
 ·rintro _ _ ⟨u1,u2,u3,rfl,rfl⟩
  rw [List.length_map,List.take_length]
  walk_at "d"
  exact q
theorem zgu {ps:List Part} {ts:List Term} {t:PyData} (ht:zlm (.d t) = some (ts.map tmD)) (h3:Tm3 ps.length ts) (q:R (.d (spD (zV ps ts) (zaA ps ts))) []):zdK [.d (zcs ps),.d t] [] R:=zgD ht h3 q
theorem zmq {ds:List PyData} {r:Int} {P:PyData->Prop} (h0:0 <= r) (h1:r < ds.length) (hP:∀ d ∈ ds,P d):∃ d,atI ds r = some d/\P d:=by
 obtain ⟨k,rfl⟩:=Int.eq_ofNat_of_zero_le h0
 have hk:k < ds.length:=by omega
 exact ⟨ds[k],zcV (List.getElem?_eq_getElem hk),hP _ (List.getElem_mem hk)⟩
theorem zqx (ds:List PyData):PyData.eqv (.list ds) (.list []) = decide (ds = []):=by
 cases ds with
 | nil=>rfl
 | cons d ds=>rfl
theorem zrr (t:Term):Shp 1 (tmD t):=zmH (ztt zhc zhc)
theorem zkX (ts:List Term):SeqAt.shaped (.list (ts.map tmD)) = true:=(zjQ (zjd fun t _=>zrr t)).ok
structure GapOk (n:Nat) (g:Gap):Prop where
 ts:Tms n g.ts
 le:g.lo <= g.hi
theorem ztr {g:DG} {te:DE} {fin:Sto->Prop} {α:Type} (F:α->Prop) (f:α->PyData) (P:XE->Prop):∀ (ds:List PyData) (acc:List α) (p:List PyData) (τ:XE),P τ->za1 p->acc.length + ds.length <= 1000 ->
  (∀ d ∈ ds,∀ τ p acc (R:XE->RX),P τ->za1 p->(∀ τ' x p',P τ'->za1 p'->F x->R τ' (.d (f x)) [p',acc])->g (.d d) τ [p,acc] fun τ1 S1=>te τ1 S1 (R τ1)) ->
  (∀ xs p',za1 p'->(∀ x ∈ xs,F x)->xs.length = ds.length->fin [p',(acc ++ xs).map f])->zfo 1 g za5 te fin ds τ [p,acc.map f]
 | [],acc,p,τ,_,hp,_,_,h=>by
  have:=h [] p hp (by simp) rfl
  rw [List.append_nil] at this
  exact this
 | d :: ds,acc,p,τ,hP,hp,hl,el,h=>by
  show g (.d d) τ [p,acc.map f] fun τ1 S1=>za5 τ1 S1 fun b S2=>if b = true then te τ1 S2 fun x S3=>asD x fun e=>∃ acc,S3[1]? = some acc/\acc.length < 1000/\zfo 1 g za5 te fin ds τ1 (S3.set 1 (acc ++ [e])) else zfo 1 g za5 te fin ds τ1 S2
  simp only [za5,↓reduceIte]
  rw [List.length_cons] at hl
  refine el d List.mem_cons_self τ p (acc.map f) (fun τ1 x S3=>asD x fun e=>∃ acc,S3[1]? = some acc/\acc.length < 1000/\zfo 1 g za5 te fin ds τ1 (S3.set 1 (acc ++ [e]))) hP hp fun τ' x p' hP' hp' hF=>?_
  refine ⟨acc.map f,rfl,by rw [List.length_map]; omega,?_⟩
  have e:([p',acc.map f]:Sto).set 1 (acc.map f ++ [f x]) = [p',(acc ++ [x]).map f]:=by simp
  rw [e]
  refine ztr F f P ds (acc ++ [x]) p' τ' hP' hp' (by rw [List.length_append,List.length_singleton]; omega) (fun e m=>el e (List.mem_cons_of_mem _ m)) fun xs p'' hp'' fs hl=>?_
  rw [List.append_assoc]
  exact h (x :: xs) p'' hp'' (fun y m=>(List.mem_cons.mp m).elim (fun e=>e ▸ hF) (fs y)) (by simp [hl])
end
section
variable {R:RX} {S:Sto}
theorem zqR {a b c d:Int} (q:R (.d (spD (a + c) (b + d))) []):zj7 [.d (spD a b),.d (spD c d)] [] R:=by
 unfold zj7 spD
 walk_at "e"
 exact q
theorem zhM {a b n:Int} (h1:-3 <= n) (h2:n <= 3) (q:R (.d (spD (min (a * n) (b * n)) (max (a * n) (b * n)))) []):zcA [.d (spD a b),.d (.int n)] [] R:=by
 unfold zcA spD
 walk_at "e"
 refine ⟨zpK (by omega) (by omega),zpK (by omega) (by omega),?_⟩
 refine zt7 ?_
 walk_at "e"
 refine zt6 ?_
 walk_at "e"
 exact q
theorem ze3 {p:Part} (q:R (.d (spD p.2.1 p.2.2)) []):zcQ [.d (zev p)] [] R:=by
 unfold zcQ zev
 walk_at "e"
 exact q
theorem zg1 {a b:Int} (q:R (.d (.int (b - a + 1))) []):zdh [.d (spD a b)] [] R:=by
 unfold zdh spD
 walk_at "e"
 exact q
theorem ztk {ps:List Part} {t:Term}:min ((part ps t.1).2.1 * t.2) ((part ps t.1).2.2 * t.2) = tLo ps t:=by
 unfold tLo plo phi
 rw [Int.mul_comm t.2,Int.mul_comm t.2]
theorem zth {ps:List Part} {t:Term}:max ((part ps t.1).2.1 * t.2) ((part ps t.1).2.2 * t.2) = tHi ps t:=by
 unfold tHi plo phi
 rw [Int.mul_comm t.2,Int.mul_comm t.2]
theorem ze7 {ps:List Part} {ts:List Term} {t:PyData} (ht:zlm (.d t) = some (ts.map tmD)) (h3:Tm3 ps.length ts) (q:R (.d (spD (zV ps ts) (zaA ps ts))) []):zbc [.d (zcs ps),.d t] [] R:=by
 unfold zbc zcs
 walk_at "d"
 (refine seq1 ?_; walk_at "d")
 refine seq1 ?_
 walk_at "d"
 refine ⟨_,ht,?_⟩
 refine za4 (fun i δ S=>∃ (u1 u2:Option XV),S = []/\δ = [some (.d (.tuple (ps.map zev))),some (.d t),some (.d (spD (zV ps (ts.take i)) (zaA ps (ts.take i)))),u1,u2]) ⟨_,_,rfl,rfl⟩ ?_ ?_
 ·rintro i d _ _ N hi ⟨u1,u2,rfl,rfl⟩ hN
  obtain ⟨t,ht,rfl⟩:=zfT hi
  obtain ⟨t1,t2,t3⟩:=h3.ok t (List.mem_of_getElem? ht)
  have ep:=zbl (f:=zev) (zds t1)
  rw [zic]
  walk_at "d"
  refine ⟨_,ep,?_⟩
  refine ze3 ?_
  walk_at "d"
  refine zhM t2 t3 ?_
  walk_at "d"
  refine zqR ?_
  walk_at "d"
  exact hN _ _ ⟨_,_,rfl,by rw [zfU ht,zgV ht,<- ztk,<- zth]⟩
 ·rintro _ _ ⟨u1,u2,rfl,rfl⟩
  rw [List.length_map,List.take_length]
  walk_at "d"
  exact q
theorem zi6 {g:Gap} {ns:List Int} (h3:Tm3 ns.length g.ts) (q:R (.d (.int (worth g.ts ns))) []):zdN [.d (zdU g),.d (zct ns)] [] R:=by
 unfold zdN zct
 rw [zcb,zjP]
 walk_at "e"
 refine cmp2 (S0:=[]) (fun t:Term=>.int (t.2 * ns.getD t.1 0)) rfl g.ts (by have:=h3.len; omega) ?_ ?_
 ·intro t mt u v acc R' hk
  obtain ⟨t1,t2,t3⟩:=h3.ok t mt
  have e:=zbl (f:=PyData.int) (zf5 t1)
  rw [zic]
  walk_at "e"
  refine ⟨_,e,?_⟩
  walk_at "e"
  exact ⟨zcC (by omega) (by omega),hk _ _⟩
 ·walk_at "e"
  refine ⟨g.ts.map fun t:Term=>t.2 * ns.getD t.1 0,by rw [List.map_map]; rfl,q⟩
def zaG (g:Gap) (ns:List Int):Bool:=decide (g.lo <= worth g.ts ns/\worth g.ts ns <= g.hi)
theorem zoD {g:Gap} {ns:List Int} (h3:Tm3 ns.length g.ts) (q:R (.d (.bool (zaG g ns))) []):zhk [.d (zdU g),.d (zct ns)] [] R:=by
 unfold zhk
 walk_at "e"
 rw [zcb]
 walk_at "e"
 rw [<- zcb]
 refine zi6 h3 ?_
 walk_at "e"
 unfold zaG at q
 by_cases h:g.lo <= worth g.ts ns
 ·simp only [h,true_and] at q
  rw [if_pos h]
  exact q
 ·simp only [h,false_and,decide_false] at q
  rw [if_neg h]
  exact q
structure InBox (ps:List Part) (ns:List Int):Prop where
 len:ns.length = ps.length
 ok:∀ k,k < ps.length->plo ps k <= ns.getD k 0/\ns.getD k 0 <= phi ps k
def Ord (ps:List Part):Prop:=∀ p ∈ ps,p.2.1 <= p.2.2
theorem Drw.ord {ps:List Part} (h:Drw ps):Ord ps:=fun p m=>(h.all p m).le
end
section
variable {R:RX} {S:Sto}
def zeW:PyData->Bool
 | .int _=>true
 | _=>false
end
section
variable {R:RX} {S:Sto}
def rng (lo:Int) (n:Nat):List Int:=(List.range n).map fun k:Nat=>lo + k
theorem znd {lo x:Int} {n:Nat}:x ∈ rng lo n ↔ lo <= x/\x < lo + n:=by
 unfold rng
 rw [List.mem_map]
 constructor
 ·rintro ⟨k,hk,rfl⟩
  have:=List.mem_range.mp hk
  omega
 ·rintro ⟨h1,h2⟩
  exact ⟨(x - lo).toNat,List.mem_range.mpr (by omega),by omega⟩
def zrK (p:Part):List Int:=rng p.2.1 (p.2.2 - p.2.1 + 1).toNat
def zpa:List Part->List (List Int)
 | []=>[[]]
 | p :: ps=>(zrK p).flatMap fun x=>(zpa ps).map (x :: ·)
def ext (found:List (List Int)) (p:Part):List (List Int):=found.flatMap fun a=>(zrK p).map fun x=>a ++ [x]
theorem zgm {ms:List Int}:InBox [] ms ↔ ms = []:=⟨fun h=>List.eq_nil_of_length_eq_zero h.len,fun h=>by subst h; exact ⟨rfl,fun k hk=>by simp at hk⟩⟩
theorem zi1 {p:Part} {ps:List Part} {k:Nat}:part (p :: ps) (k + 1) = part ps k:=by simp [part]
theorem zdX {p:Part} {ps:List Part} {ms:List Int}:InBox (p :: ps) ms ↔ ∃ x t,ms = x :: t/\p.2.1 <= x/\x <= p.2.2/\InBox ps t:=by
 constructor
 ·intro h
  cases ms with
  | nil=>have:=h.len; simp at this
  | cons x t =>
   have h0:=h.ok 0 (by simp)
   refine ⟨x,t,rfl,h0.1,h0.2,by have:=h.len; simpa using this,fun k hk=>?_⟩
   have:=h.ok (k + 1) (by simpa using hk)
   unfold plo phi at this ⊢
   rw [zi1] at this
   simpa using this
 ·rintro ⟨x,t,rfl,h1,h2,h3⟩
  refine ⟨by simp [h3.len],fun k hk=>?_⟩
  cases k with
  | zero=>exact ⟨h1,h2⟩
  | succ k =>
   have:=h3.ok k (by simpa using hk)
   unfold plo phi at this ⊢
   rw [zi1]
   simpa using this
theorem zfC:∀ {ps:List Part} {ms:List Int},ms ∈ zpa ps ↔ InBox ps ms
 | [],ms=>by rw [zgm]; simp [zpa]
 | p :: ps,ms=>by
  rw [zdX,zpa,List.mem_flatMap]
  constructor
  ·rintro ⟨x,hx,h⟩
   obtain ⟨t,ht,rfl⟩:=List.mem_map.mp h
   unfold zrK at hx
   rw [znd] at hx
   exact ⟨x,t,rfl,by omega,by omega,zfC.mp ht⟩
  ·rintro ⟨x,t,rfl,h1,h2,h3⟩
   exact ⟨x,by unfold zrK; rw [znd]; omega,List.mem_map.mpr ⟨t,zfC.mpr h3,rfl⟩⟩
end
section
variable {R:RX} {S:Sto}
theorem zfW {g:Gap} {ns:List Int} (h3:Tm3 ns.length g.ts) (q:R (.d (.int (worth g.ts ns))) []):zd9 [.d (zdU g),.d (zct ns)] [] R:=by
 unfold zd9 zct
 rw [zcb,zjP]
 walk_at "d"
 (refine seq1 ?_; walk_at "d")
 refine seq1 ?_
 walk_at "d"
 refine za4 (fun i δ S=>∃ (u1 u2:Option XV),S = []/\δ = [some (.d (.tuple [.tuple (g.ts.map tmD),.int g.lo,.int g.hi])),some (.d (.tuple (ns.map PyData.int))),some (.d (.int (worth (g.ts.take i) ns))),u1,u2]) ⟨_,_,rfl,rfl⟩ ?_ ?_
 ·rintro i d _ _ N hi ⟨u1,u2,rfl,rfl⟩ hN
  obtain ⟨t,ht,rfl⟩:=zfT hi
  obtain ⟨t1,t2,t3⟩:=h3.ok t (List.mem_of_getElem? ht)
  have e:=zbl (f:=PyData.int) (zf5 t1)
  rw [zic]
  walk_at "d"
  refine ⟨_,e,?_⟩
  walk_at "d"
  exact ⟨zcC (by omega) (by omega),hN _ _ ⟨_,_,rfl,by rw [zkN ht]⟩⟩
 ·rintro _ _ ⟨u1,u2,rfl,rfl⟩
  rw [List.length_map,List.take_length]
  walk_at "d"
  exact q
theorem ziB {g:Gap} {ns:List Int} (h3:Tm3 ns.length g.ts) (q:R (.d (.int (worth g.ts ns))) []):zeq [.d (zdU g),.d (zct ns)] [] R:=zfW h3 q
end
section
variable {R:RX} {S:Sto}
def few0 (s1 s2 r:Int):Int:=if (r - (s1 + 2 * s2) + 2) / 3 > 0 then (r - (s1 + 2 * s2) + 2) / 3 else 0
def few (s1 s2 r:Int):Int:=if s1 = 0/\(r - few0 s1 s2 r) % 2 = 1 then few0 s1 s2 r + 1 else few0 s1 s2 r
theorem zoq {ps:List Part} {g:Gap} (h3:Tm3 ps.length g.ts) (q:R (.d (spD (zV ps g.ts) (zaA ps g.ts))) []):zhF [.d (zcs ps),.d (zdU g)] [] R:=by
 unfold zhF
 rw [zcb]
 walk_at "d"
 refine ze7 rfl h3 ?_
 walk_at "d"
 exact q
end
section
variable {R:RX} {S:Sto}
structure TimesL (l:List Int):Prop where
 l1:1 <= l.length
 l6:l.length <= 6
 ok:∀ x ∈ l,x ≠ 0/\-3 <= x/\x <= 3
theorem zdM {l:List Int} (h:(decide (1 <= l.length) && decide (l.length <= 6) && l.all fun x=>decide (x ≠ 0/\-3 <= x/\x <= 3)) = true):TimesL l:=by
 simp only [Bool.and_eq_true,decide_eq_true_eq,List.all_eq_true] at h
 exact ⟨h.1.1,h.1.2,h.2⟩
theorem TimesL.at {l:List Int} (h:TimesL l) {r:Int} (r0:0 <= r) (r1:r < l.length):∃ n,atI (l.map PyData.int) r = some (.int n)/\n ≠ 0/\-3 <= n/\n <= 3:=by
 obtain ⟨k,rfl⟩:=Int.eq_ofNat_of_zero_le r0
 have hk:k < l.length:=by omega
 exact ⟨l[k],zbl (List.getElem?_eq_getElem hk),h.ok _ (List.getElem_mem hk)⟩
theorem zib {p:List PyData} {ps:List Part} (hp:za1 p) (hd:Drw ps) (q:∀ ts p',Tms ps.length ts->za1 p'->R (.d (zjP ts)) [p']):zc7 [.l 0,.d (zcs ps)] [p] R:=by
 have h8:=hd.l8
 have h1:=hd.l1
 unfold zc7
 walk_at "d"
 (refine seq1 ?_; walk_at "d")
 refine zF hp (by decide) (by decide +kernel) fun r p1 r0 r1 hp1=>?_
 obtain ⟨d,ed,l,rfl,hl⟩:=zmq (P:=fun d=>∃ l:List Int,d = .list (l.map PyData.int)/\TimesL l) (ds:=[PyData.list [.int 1,.int (-1),.int 2,.int (-2),.int 3,.int (-3)],.list [.int 1,.int (-1)],.list [.int 2,.int (-2)],.list [.int 3,.int (-3)],.list [.int 2,.int 3,.int (-2),.int (-3)],.list [.int 1,.int 3,.int (-1),.int (-3)]]) r0 r1 (by
  intro d m
  simp only [List.mem_cons,List.not_mem_nil,or_false] at m
  rcases m with rfl | rfl | rfl | rfl | rfl | rfl
  ·exact ⟨[1,-1,2,-2,3,-3],rfl,zdM (by decide)⟩
  ·exact ⟨[1,-1],rfl,zdM (by decide)⟩
  ·exact ⟨[2,-2],rfl,zdM (by decide)⟩
  ·exact ⟨[3,-3],rfl,zdM (by decide)⟩
  ·exact ⟨[2,3,-2,-3],rfl,zdM (by decide)⟩
  ·exact ⟨[1,3,-1,-3],rfl,zdM (by decide)⟩)
 have l1:=hl.l1
 have l6:=hl.l6
 walk_at "d"
 refine ⟨_,ed,?_⟩
 walk_at "d"
 (refine seq1 ?_; walk_at "d")
 refine cut (fun δ S=>∃ (p:List PyData) (ts:List Term) (u1:Option XV),za1 p/\ts.length <= ps.length/\(∀ t ∈ ts,t.1 < ps.length/\t.2 ≠ 0/\-3 <= t.2/\t.2 <= 3)/\(ts.Pairwise fun t u=>t.1 < u.1)/\S = [p,ts.map tmD]/\δ = [some (.l 0),some (.d (zcs ps)),some (.d (.list (l.map PyData.int))),some (.l 1),u1]) (fun N hN=>?_) ?_
 ·walk_at "d"
  refine ⟨ps.length,by unfold zcs; walk_at "d",?_⟩
  refine za4 (fun i δ S=>∃ (p:List PyData) (ts:List Term) (u1:Option XV),za1 p/\ts.length <= i/\(∀ t ∈ ts,t.1 < i/\t.2 ≠ 0/\-3 <= t.2/\t.2 <= 3)/\(ts.Pairwise fun t u=>t.1 < u.1)/\S = [p,ts.map tmD]/\δ = [some (.l 0),some (.d (zcs ps)),some (.d (.list (l.map PyData.int))),some (.l 1),u1]) ⟨p1,[],_,hp1,Nat.le_refl _,by simp,.nil,rfl,rfl⟩ ?_ ?_
  ·rintro i d _ _ N hi ⟨p,ts,u1,hp,hl',ht,hw,rfl,rfl⟩ hN
   obtain ⟨hi',rfl⟩:=zbx hi
   have hi8:i < ps.length:=by simpa using hi'
   walk_at "d"
   refine zF hp (by decide) (by decide +kernel) fun r p2 r0 r1 hp2=>?_
   walk_at "d"
   split
   ·refine zF hp2 (by omega) (zdT (by omega) (by omega)) fun r3 p3 r30 r31 hp3=>?_
    obtain ⟨n,en,hn⟩:=hl.at r30 r31
    walk_at "d"
    refine ⟨_,en,?_⟩
    walk_at "d"
    refine ⟨by omega,hN _ _ ⟨p3,ts ++ [(i,n)],_,hp3,by simp; omega,fun t m=>?_,?_,by simp [tmD],rfl⟩⟩
    ·rcases List.mem_append.mp m with m | m
     ·exact ⟨by have:=(ht t m).1; omega,(ht t m).2⟩
     ·rw [List.mem_singleton.mp m]
      exact ⟨by simp,hn⟩
    ·rw [List.pairwise_append]
     exact ⟨hw,by simp,fun t m u m'=>by rw [List.mem_singleton.mp m']; exact (ht t m).1⟩
   ·exact hN _ _ ⟨p2,ts,_,hp2,by omega,fun t m=>⟨by have:=(ht t m).1; omega,(ht t m).2⟩,hw,rfl,rfl⟩
  ·rintro _ _ ⟨p,ts,u1,hp,hl',ht,hw,rfl,rfl⟩
   rw [zaa] at hl' ht
   have hz:(ps.length:Int).toNat = ps.length:=by simp
   rw [hz] at hl' ht
   exact hN _ _ ⟨p,ts,u1,hp,hl',ht,hw,rfl,rfl⟩
 rintro _ _ ⟨p,ts,u1,hp,hl',ht,hw,rfl,rfl⟩
 refine cut (fun δ S=>∃ (p:List PyData) (ts:List Term) (T:Sto) (k:Nat),za1 p/\Tms ps.length ts/\T[k]? = some (ts.map tmD)/\S = p :: T/\δ = [some (.l 0),some (.d (zcs ps)),some (.d (.list (l.map PyData.int))),some (.l (k + 1)),u1]) (fun N hN=>?_) ?_
 ·walk_at "d"
  refine ⟨zkX ts,rfl,?_⟩
  rw [zqx]
  walk_at "d"
  split
  ·refine ⟨ps.length,by unfold zcs; walk_at "d",?_⟩
   refine zF hp (by omega) (zdT (by omega) (by omega)) fun r p2 r0 r1 hp2=>?_
   walk_at "d"
   refine zF hp2 (by omega) (zdT (by omega) (by omega)) fun r3 p3 r30 r31 hp3=>?_
   obtain ⟨n,en,hn⟩:=hl.at r30 r31
   obtain ⟨k,rfl⟩:=Int.eq_ofNat_of_zero_le r0
   walk_at "d"
   refine ⟨_,en,?_⟩
   walk_at "d"
   refine hN _ _ ⟨p3,[(k,n)],[ts.map tmD,[tmD (k,n)]],1,hp3,⟨by simp,by simpa using h1,fun t m=>by rw [List.mem_singleton.mp m]; exact ⟨by simp only; omega,hn⟩,by simp⟩,rfl,rfl,rfl⟩
  ·rename_i hne
   exact hN _ _ ⟨p,ts,[ts.map tmD],0,hp,⟨fun z=>hne (by rw [z]; rfl),hl',ht,hw⟩,rfl,rfl,rfl⟩
 rintro _ _ ⟨p,ts,T,k,hp,hts,hk,rfl,rfl⟩
 walk_at "d"
 exact ⟨_,hk,q ts p hts hp⟩
theorem zk0 {p:List PyData} {ps:List Part} (hp:za1 p) (hd:Drw ps) (q:∀ g p',GapOk ps.length g->za1 p'->R (.d (zdU g)) [p']):zex [.l 0,.d (zcs ps)] [p] R:=by
 have h8:=hd.l8
 unfold zex
 walk_at "d"
 (refine seq1 ?_; walk_at "d")
 refine zib hp hd fun ts p1 hts hp1=>?_
 walk_at "d"
 (refine seq1 ?_; walk_at "d")
 refine zgu rfl (hts.tm3 h8) ?_
 have lm:=zeC ps ts
 unfold spD
 walk_at "d"
 (refine seq1 ?_; walk_at "d")
 (refine seq1 ?_; walk_at "d")
 refine .inl ⟨⟨by decide,by decide +kernel⟩,.inl ⟨⟨by decide,by decide +kernel⟩,?_⟩⟩
 walk_at "d"
 refine zF hp1 (by decide) (by decide +kernel) fun r p2 r0 r1 hp2=>?_
 obtain ⟨d,ed,n,rfl⟩:=zmq (P:=fun d=>∃ n,d = .int n) (ds:=[PyData.int 0,PyData.int 1,PyData.int (-1),PyData.int ((zaA ps ts - zV ps ts) / 2),PyData.int ((zaA ps ts - zV ps ts) / 3),PyData.int (zaA ps ts - zV ps ts + 1),PyData.int (zaA ps ts - zV ps ts),PyData.int (zaA ps ts - zV ps ts - 1)]) r0 r1 (by simp)
 walk_at "d"
 refine ⟨_,ed,?_⟩
 walk_at "d"
 (refine seq1 ?_; walk_at "d")
 refine .inl ⟨⟨by decide,by decide +kernel⟩,?_⟩
 walk_at "d"
 refine zF hp2 (by decide) (by decide +kernel) fun r' p3 r2 r3 hp3=>?_
 obtain ⟨d,ed,n',rfl,h0⟩:=zmq (P:=fun d=>∃ n,d = .int n/\0 <= n) (ds:=[PyData.int 0,PyData.int 1,PyData.int 2,PyData.int ((zaA ps ts - zV ps ts) / 2),PyData.int (zaA ps ts - zV ps ts),PyData.int (zaA ps ts - zV ps ts + 2)]) r2 r3 (by simp; omega)
 walk_at "d"
 refine ⟨_,ed,?_⟩
 walk_at "d"
 exact q ⟨ts,_,_⟩ p3 ⟨hts,by simp only; omega⟩ hp3
end
section
variable {R:RX} {S:Sto}
theorem zsc {κ α:Type} [DecidableEq κ] {p:κ × α} {r:List (κ × α)} {k:κ} {v:α} (h:p.1 ≠ k):ptA (p :: r) k v = p :: ptA r k v:=by
 unfold ptA
 simp only [List.any_cons,decide_eq_false h,Bool.false_or]
 split
 ·simp [h]
 ·simp
theorem zsi {κ α:Type} [DecidableEq κ] {p:κ × α} {r:List (κ × α)} {k:κ} {v:α} (h:p.1 = k) (hn:∀ q ∈ r,q.1 ≠ k):ptA (p :: r) k v = (k,v) :: r:=by
 unfold ptA
 rw [if_pos (by simp [h]),List.map_cons,if_pos h,h]
 congr 1
 have e:List.map (fun p:κ × α=>if p.1 = k then (p.1,v) else p) r = List.map id r:=List.map_congr_left fun q m=>if_neg (hn q m)
 rw [e,List.map_id]
abbrev Tal:=List (Int × Int)
def zbs (t:Tal):List (Key × PyData):=t.map fun p=>((Sum.inl p.1:Key),PyData.int p.2)
def zgw (t:Tal):PyData:=.dict (DD.pairs (.k (zbs t)))
def tsum (t:Tal) (f:Int->Int):Int:=(t.map fun p=>p.2 * f p.1).sum
def ind (k:Int):Int->Int:=fun w=>if w = k then 1 else 0
def tget (t:Tal) (k:Int):Int:=tsum t (ind k)
def tadd:Tal->Int->Int->Tal
 | [],k,n=>[(k,n)]
 | p :: r,k,n=>if p.1 = k then (k,p.2 + n) :: r else p :: tadd r k n
def kys (t:Tal):List Int:=t.map (·.1)
theorem zn2 (f:Int->Int):tsum [] f = 0:=rfl
theorem zaj (p:Int × Int) (t:Tal) (f:Int->Int):tsum (p :: t) f = p.2 * f p.1 + tsum t f:=by simp [tsum]
theorem zn0 (t u:Tal) (f:Int->Int):tsum (t ++ u) f = tsum t f + tsum u f:=by simp [tsum]
theorem zbr (p:Int × Int) (t:Tal):kys (p :: t) = p.1 :: kys t:=rfl
theorem zhq {p:Int × Int} {t:Tal} (h:p ∈ t):p.1 ∈ kys t:=List.mem_map.mpr ⟨p,h,rfl⟩
theorem zcc:∀ {t:Tal} {k:Int},k ∉ kys t->tget t k = 0
 | [],_,_=>rfl
 | p :: t,k,h=>by
  rw [zbr,List.mem_cons,not_or] at h
  unfold tget
  rw [zaj,ind,if_neg (Ne.symm h.1)]
  have:=zcc h.2
  unfold tget at this
  omega
theorem zj4:∀ {t:Tal} {k:Int},(kys t).Nodup->(lkA (zbs t) (Sum.inl k)).getD (.int 0) = .int (tget t k)
 | [],_,_=>rfl
 | p :: t,k,h=>by
  rw [zbr,List.nodup_cons] at h
  by_cases e:p.1 = k
  ·subst e
   have h0:=zcc h.1
   unfold tget at h0 ⊢
   rw [zaj,h0,ind,if_pos rfl]
   simp [zbs,lkA]
  ·have e2:lkA (zbs (p :: t)) (Sum.inl k) = lkA (zbs t) (Sum.inl k):=by simp [zbs,lkA,e]
   rw [e2,zj4 h.2]
   unfold tget
   rw [zaj,ind,if_neg e,Int.mul_zero,Int.zero_add]
theorem zs0 {t:Tal} {k:Int} (hk:k ∈ kys t) (h:(kys t).Nodup):lkA (zbs t) (Sum.inl k) = some (.int (tget t k)):=by
 have e:=zj4 (k:=k) h
 cases hl:lkA (zbs t) (Sum.inl k) with
 | some d=>rw [hl] at e; exact congrArg some e
 | none =>
  exfalso
  obtain ⟨p,m,rfl⟩:=List.mem_map.mp hk
  unfold lkA at hl
  rw [Option.map_eq_none_iff,List.find?_eq_none] at hl
  exact hl ((Sum.inl p.1:Key),.int p.2) (List.mem_map.mpr ⟨p,m,rfl⟩) (by simp)
theorem zo5:∀ {t:Tal} {k n:Int},(kys t).Nodup->ptA (zbs t) (Sum.inl k) (.int (tget t k + n)) = zbs (tadd t k n)
 | [],k,n,_=>by
  have:tget [] k = 0:=rfl
  rw [this,Int.zero_add]
  rfl
 | p :: t,k,n,h=>by
  rw [zbr,List.nodup_cons] at h
  unfold tadd
  by_cases e:p.1 = k
  ·rw [if_pos e]
   subst e
   have h0:=zcc h.1
   have hg:tget (p :: t) p.1 = p.2:=by
    unfold tget at h0 ⊢
    rw [zaj,h0,ind,if_pos rfl]
    omega
   rw [hg]
   refine zsi rfl fun q m z=>?_
   obtain ⟨x,mx,rfl⟩:=List.mem_map.mp m
   have z':x.1 = p.1:=by simpa using z
   exact h.1 (z' ▸ zhq mx)
  ·rw [if_neg e]
   have hg:tget (p :: t) k = tget t k:=by
    unfold tget
    rw [zaj,ind,if_neg e,Int.mul_zero,Int.zero_add]
   rw [hg]
   show ptA (((Sum.inl p.1:Key),PyData.int p.2) :: zbs t) _ _ = ((Sum.inl p.1:Key),PyData.int p.2) :: zbs (tadd t k n)
   rw [zsc (by simpa using e),zo5 h.2]
theorem zjE:∀ (t:Tal) (k n:Int) (f:Int->Int),tsum (tadd t k n) f = tsum t f + n * f k
 | [],k,n,f=>by simp [tadd,tsum]
 | p :: t,k,n,f=>by
  unfold tadd
  split
  ·rename_i e
   rw [zaj,zaj,e]
   show (p.2 + n) * f k + tsum t f = p.2 * f k + tsum t f + n * f k
   rw [Int.add_mul]
   omega
  ·rw [zaj,zaj,zjE t k n f]
   omega
theorem zjr:∀ {t:Tal} {k n x:Int},x ∈ kys (tadd t k n) ↔ x ∈ kys t\/x = k
 | [],k,n,x=>by simp [tadd,kys]
 | p :: t,k,n,x=>by
  unfold tadd
  split
  ·rename_i e
   rw [zbr,zbr,List.mem_cons,List.mem_cons,e]
   constructor
   ·rintro (h | h)
    ·exact .inr h
    ·exact .inl (.inr h)
   ·rintro ((h | h) | h)
    ·exact .inl h
    ·exact .inr h
    ·exact .inl h
  ·rw [zbr,zbr,List.mem_cons,List.mem_cons,zjr]
   exact or_assoc.symm
theorem zpq:∀ {t:Tal} {k n:Int},(kys t).Nodup->(kys (tadd t k n)).Nodup
 | [],k,n,_=>by simp [tadd,kys]
 | p :: t,k,n,h=>by
  rw [zbr,List.nodup_cons] at h
  unfold tadd
  split
  ·rename_i e
   rw [zbr,List.nodup_cons]
   exact ⟨e ▸ h.1,h.2⟩
  ·rename_i e
   rw [zbr,List.nodup_cons]
   refine ⟨fun m=>?_,zpq h.2⟩
   rcases zjr.mp m with m | m
   ·exact h.1 m
   ·exact e m
theorem zlX:∀ {t:Tal} {k n:Int},(∀ p ∈ t,0 < p.2)->0 < n->∀ p ∈ tadd t k n,0 < p.2
 | [],k,n,_,hn,p,m=>by
  rw [tadd,List.mem_singleton] at m
  rw [m]
  exact hn
 | x :: t,k,n,h,hn,p,m=>by
  unfold tadd at m
  split at m
  ·rcases List.mem_cons.mp m with rfl | m
   ·have:=h x List.mem_cons_self
    show 0 < x.2 + n
    omega
   ·exact h p (List.mem_cons_of_mem _ m)
  ·rcases List.mem_cons.mp m with rfl | m
   ·exact h _ List.mem_cons_self
   ·exact zlX (fun q mq=>h q (List.mem_cons_of_mem _ mq)) hn p m
theorem zoN:∀ (n:Nat) (lo:Int) (l:List Int),l.Nodup->(∀ x ∈ l,lo <= x/\x < lo + n)->l.length <= n
 | 0,lo,l,_,h=>by
  cases l with
  | nil=>exact Nat.le_refl _
  | cons x l=>have:=h x List.mem_cons_self; omega
 | n + 1,lo,l,hn,h=>by
  have ih:=zoN n lo (l.erase (lo + n)) (hn.erase _) fun x m=>by
   rw [hn.mem_erase_iff] at m
   have:=h x m.2
   omega
  have:=List.length_erase (a:=lo + (n:Int)) (l:=l)
  split at this <;> omega
structure Tl (t:Tal) (lo hi:Int):Prop where
 nd:(kys t).Nodup
 bd:∀ x ∈ kys t,lo <= x/\x <= hi
 pos:∀ p ∈ t,0 < p.2
theorem Tl.len {t:Tal} {lo hi:Int} (h:Tl t lo hi):t.length <= (hi - lo + 1).toNat:=by
 have:=zoN (hi - lo + 1).toNat lo (kys t) h.nd fun x m=>by
  have:=h.bd x m
  omega
 simpa [kys] using this
theorem Tl.add {t:Tal} {lo hi k n:Int} (h:Tl t lo hi) (h1:lo <= k) (h2:k <= hi) (hn:0 < n):Tl (tadd t k n) lo hi:=⟨zpq h.nd,fun x m=>by
 rcases zjr.mp m with m | m
 ·exact h.bd x m
 ·rw [m]; exact ⟨h1,h2⟩,zlX h.pos hn⟩
theorem Tl.one:Tl [(0,1)] 0 0:=⟨by simp [kys],by simp [kys],by simp⟩
theorem Tl.nil {lo hi:Int}:Tl [] lo hi:=⟨by simp [kys],by simp [kys],by simp⟩
def rsum (a:Int) (n:Nat) (f:Int->Int):Int:=((List.range n).map fun k:Nat=>f (a + k)).sum
theorem zez (a:Int) (f:Int->Int):rsum a 0 f = 0:=rfl
theorem zaF (a:Int) (n:Nat) (f:Int->Int):rsum a (n + 1) f = rsum a n f + f (a + n):=by
 unfold rsum
 rw [List.range_succ,List.map_append,List.sum_append]
 simp
theorem zb7 {a:Int}:∀ {n:Nat} {f g:Int->Int},(∀ x,a <= x->x < a + n->f x = g x)->rsum a n f = rsum a n g
 | 0,f,g,_=>rfl
 | n + 1,f,g,h=>by
  rw [zaF,zaF,zb7 (n:=n) fun x h1 h2=>h x h1 (by omega),h (a + n) (by omega) (by omega)]
theorem zjG (a c:Int) (f:Int->Int):∀ n:Nat,rsum a n (fun x=>c * f x) = c * rsum a n f
 | 0=>by simp [zez]
 | n + 1=>by rw [zaF,zaF,zjG a c f n,Int.mul_add]
theorem zbj (a c:Int):∀ n:Nat,rsum a n (fun _=>c) = n * c
 | 0=>by simp [zez]
 | n + 1=>by
  rw [zaF,zbj a c n,Int.natCast_add,Int.add_mul]
  simp
theorem zgl {a:Int} {f g:Int->Int}:∀ {n:Nat},(∀ x,a <= x->x < a + n->f x <= g x)->rsum a n f <= rsum a n g
 | 0,_=>Int.le_refl _
 | n + 1,h=>by
  rw [zaF,zaF]
  have h1:=zgl (n:=n) fun x h1 h2=>h x h1 (by omega)
  have h2:=h (a + n) (by omega) (by omega)
  omega
theorem zfX {f:Int->Int} (hf:∀ x,0 <= f x):∀ {t:Tal},(∀ p ∈ t,0 < p.2)->0 <= tsum t f
 | [],_=>Int.le_refl _
 | p :: t,h=>by
  rw [zaj]
  have h1:=zfX hf fun q m=>h q (List.mem_cons_of_mem _ m)
  have h2:=Int.mul_nonneg (Int.le_of_lt (h p List.mem_cons_self)) (hf p.1)
  omega
theorem zpH {f:Int->Int} (hf:∀ x,0 <= f x):∀ {t:Tal} {p:Int × Int},(∀ p ∈ t,0 < p.2)->p ∈ t->p.2 * f p.1 <= tsum t f
 | q :: t,p,h,m=>by
  rw [zaj]
  have h1:=zfX hf fun q m=>h q (List.mem_cons_of_mem _ m)
  have h2:=Int.mul_nonneg (Int.le_of_lt (h q List.mem_cons_self)) (hf q.1)
  rcases List.mem_cons.mp m with rfl | m
  ·omega
  ·have:=zpH hf (fun q m=>h q (List.mem_cons_of_mem _ m)) m
   omega
theorem zkh {t:Tal} (nd:(kys t).Nodup) {p:Int × Int} (m:p ∈ t):tget t p.1 = p.2:=by
 induction t with
 | nil=>cases m
 | cons q t ih =>
  rw [zbr,List.nodup_cons] at nd
  unfold tget at ih ⊢
  rw [zaj]
  rcases List.mem_cons.mp m with rfl | m
  ·have:=zcc nd.1
   unfold tget at this
   rw [this,ind,if_pos rfl]
   omega
  ·have ne:q.1 ≠ p.1:=fun z=>nd.1 (z ▸ zhq m)
   rw [ih nd.2 m,ind,if_neg ne]
   omega
abbrev Row:=Int × Nat × Int
def fw:List Row->(Int->Int)->Int
 | [],f=>f 0
 | r :: rs,f=>rsum r.1 r.2.1 fun x=>fw rs fun w=>f (w + r.2.2 * x)
theorem zpO (c:Int):∀ (rs:List Row) (f:Int->Int),fw rs (fun w=>c * f w) = c * fw rs f
 | [],f=>rfl
 | r :: rs,f=>by
  unfold fw
  rw [<- zjG]
  exact zb7 fun x _ _=>zpO c rs _
theorem zjs:∀ (rs:List Row) {f g:Int->Int},(∀ w,f w <= g w)->fw rs f <= fw rs g
 | [],f,g,h=>h 0
 | r :: rs,f,g,h=>by
  unfold fw
  exact zgl fun x _ _=>zjs rs fun w=>h _
def busy (rs:List Row):List Row:=rs.filter fun r=>r.2.2 != 0
theorem zpI:∀ rs:List Row,fw rs (fun _=>1) = (rs.map fun r=>(r.2.1:Int)).prod
 | []=>rfl
 | r :: rs=>by
  show (rsum r.1 r.2.1 fun x=>fw rs fun _=>1) = _
  rw [zpI rs,zbj,List.map_cons,List.prod_cons]
def rLo (r:Row):Int:=min (r.2.2 * r.1) (r.2.2 * (r.1 + r.2.1 - 1))
def rHi (r:Row):Int:=max (r.2.2 * r.1) (r.2.2 * (r.1 + r.2.1 - 1))
def zhX (rs:List Row):Int:=(rs.map rLo).sum
def zhW (rs:List Row):Int:=(rs.map rHi).sum
theorem zo0 (r:Row):rLo r <= rHi r:=by unfold rLo rHi; omega
theorem zst {r:Row} {x:Int} (h1:r.1 <= x) (h2:x < r.1 + r.2.1):rLo r <= r.2.2 * x/\r.2.2 * x <= rHi r:=by
 unfold rLo rHi
 have h3:x <= r.1 + r.2.1 - 1:=by omega
 rcases Int.le_total 0 r.2.2 with h | h
 ·have a1:=Int.mul_le_mul_of_nonneg_left h1 h
  have a2:=Int.mul_le_mul_of_nonneg_left h3 h
  omega
 ·have a1:=Int.mul_le_mul_of_nonpos_left h h1
  have a2:=Int.mul_le_mul_of_nonpos_left h h3
  omega
theorem ze8 (t:Tal):DD.itemsD (zbs t) = t.map fun p=>PyData.tuple [.int p.1,.int p.2]:=by
 unfold DD.itemsD zbs
 rw [List.map_map]
 rfl
theorem zfK {g:DG} {b:DSm} {E:DEndsM}:∀ {ds:List PyData} {δ:XE} {S:Sto} {M:DM} (I:Nat->XE->Sto->DM->Prop),I 0 δ S M ->
  (∀ i d δ S M (N:XE->Sto->DM->Prop),ds[i]? = some d->I i δ S M->(∀ δ' S' M',I (i + 1) δ' S' M'->N δ' S' M')->g (.d d) δ S fun δ1 S1=>b { nx:=N,ct:=N,bk:=E.nx,rt:=E.rt } δ1 S1 M) ->
  (∀ δ S M,I ds.length δ S M->E.nx δ S M)->zfg g b ds E δ S M
 | [],δ,S,M,I,h0,_,fin=>fin δ S M h0
 | d :: ds,δ,S,M,I,h0,step,fin=>by
  show g (.d d) δ S fun δ1 S1=>b _ δ1 S1 M
  refine step 0 d δ S M _ rfl h0 fun δ' S' M' h1=>?_
  exact zfK (ds:=ds) (fun i=>I (i + 1)) h1 (fun i e δ S M N hi=>step (i + 1) e δ S M N (by simpa using hi)) fin
theorem zmx (g:Gap) (w:Int):∀ t:Tal,((t.filter fun p=>decide (g.lo <= w + p.1) && decide (w + p.1 <= g.hi)).map (·.2)).sum = tsum t fun x=>if g.lo <= w + x/\w + x <= g.hi then 1 else 0
 | []=>rfl
 | p :: t=>by
  rw [zaj,<- zmx g w t]
  by_cases h1:g.lo <= w + p.1 <;> by_cases h2:w + p.1 <= g.hi <;> simp [h1,h2]
def inG (g:Gap) (w:Int):Int->Int:=fun x=>if g.lo <= w + x/\w + x <= g.hi then 1 else 0
theorem zd6 {t:Tal} {g:Gap} {w:Int} (hl:t.length <= 1000) (q:R (.d (.int (tsum t (inG g w)))) []):zae [.d (zgw t),.d (zdU g),.d (.int w)] [] R:=by
 unfold zae
 rw [zgw,zcb]
 walk_at "d"
 refine ⟨_,rfl,?_⟩
 rw [ze8]
 refine cmf2 (S0:=[]) (fun p:Int × Int=>PyData.int p.2) (fun p=>decide (g.lo <= w + p.1) && decide (w + p.1 <= g.hi)) rfl t hl ?_ ?_
 ·intro p m u v acc R' hk
  walk_at "d"
  by_cases h1:g.lo <= w + p.1
  ·simp only [h1,decide_true,↓reduceIte,Bool.true_and] at hk ⊢
   walk_at "d"
   refine hk _ _ fun _ T hT=>?_
   walk_at "d"
   exact hT
  ·simp only [h1,decide_false,Bool.false_and,Bool.false_eq_true,↓reduceIte] at hk ⊢
   walk_at "d"
   exact hk _ _ fun z=>by cases z
 ·refine ⟨[],_,rfl,rfl,?_⟩
  walk_at "d"
  refine ⟨(t.filter fun p=>decide (g.lo <= w + p.1) && decide (w + p.1 <= g.hi)).map (·.2),by rw [List.map_map]; rfl,?_⟩
  rw [zmx g w t]
  exact q
theorem zkd:∀ (kvs acc:List (Key × PyData)),((acc ++ kvs).map (·.1)).Nodup->kvs.foldl (fun m p=>ptA m p.1 p.2) acc = acc ++ kvs
 | [],acc,_=>by simp
 | p :: r,acc,h=>by
  have e:ptA acc p.1 p.2 = acc ++ [p]:=by
   unfold ptA
   rw [if_neg]
   rw [List.any_eq_true]
   rintro ⟨x,m,e⟩
   rw [List.map_append,List.nodup_append] at h
   exact h.2.2 x.1 (List.mem_map.mpr ⟨x,m,rfl⟩) p.1 (List.mem_map.mpr ⟨p,List.mem_cons_self,rfl⟩) (of_decide_eq_true e)
  rw [List.foldl_cons,e,zkd r (acc ++ [p]) (by rw [List.append_assoc]; exact h),List.append_assoc]
  rfl
theorem zfD {kvs:List (Key × PyData)} (h:(kvs.map (·.1)).Nodup):zkC kvs = kvs:=by
 unfold zkC
 rw [zkd kvs [] (by simpa using h)]
 rfl
theorem zoC (t:Tal):(zbs t).map (·.1) = (kys t).map fun x=>(Sum.inl x:Key):=by
 unfold zbs kys
 rw [List.map_map,List.map_map]
 rfl
theorem zha {t:Tal} (h:(kys t).Nodup):((zbs t).map (·.1)).Nodup:=by
 rw [zoC]
 exact List.Pairwise.map _ (fun a b ne e=>ne (by injection e)) h
def cnt (a b:Int):Nat:=(b - a + 1).toNat
theorem zgN (c:Int) (f:Int->Int):∀ t:Tal,tsum (t.map fun p=>(p.1,p.2 * c)) f = c * tsum t f
 | []=>by simp [tsum]
 | p :: t=>by
  rw [List.map_cons,zaj,zaj,zgN c f t,Int.mul_add]
  simp only
  rw [Int.mul_assoc,Int.mul_left_comm]
theorem zjy {α:Type} {l:List α} {i:Nat} {x:α} (h:l[i]? = some x):l.take (i + 1) = l.take i ++ [x]:=by
 rw [List.take_add_one,h]
 rfl
theorem zh8 {t:Tal} {a b m lo hi:Int} (ht:Tl t lo hi) (hab:a <= b) (hl:t.length <= 900) (hv:m = 0->(∀ p ∈ t,p.2 < 2 ^ 1700)/\b - a + 1 < 2 ^ 1700)
  (hm:m ≠ 0->-3 <= m/\m <= 3) (hw:m ≠ 0->hi + rHi (a,cnt a b,m) - (lo + rLo (a,cnt a b,m)) < 900)
  (q:∀ t',Tl t' (lo + rLo (a,cnt a b,m)) (hi + rHi (a,cnt a b,m))->(∀ f,tsum t' f = rsum a (cnt a b) fun x=>tsum t fun w=>f (w + m * x))->R (.d (zgw t')) []):zc8 [.d (zgw t),.d (spD a b),.d (.int m)] [] R:=by
 unfold zc8
 rw [zgw]
 walk_at "d"
 refine seq1 ?_
 walk_at "d"
 by_cases h0:m = 0
 ·subst h0
  obtain ⟨hv1,hv2⟩:=hv rfl
  walk_at "d"
  refine ⟨_,rfl,?_⟩
  rw [ze8]
  refine cmp2 (S0:=[]) (fun p:Int × Int=>PyData.tuple [.int p.1,.int (p.2 * (b - a + 1))]) rfl t (by omega) ?_ ?_
  ·intro p mp u v acc R' hk
   walk_at "d"
   refine zg1 ?_
   walk_at "d"
   have hp:=ht.pos p mp
   have hb:=hv1 p mp
   exact ⟨zp4 1700 1700 (by omega) (by omega),hk _ _⟩
  ·refine ⟨[],_,rfl,rfl,?_⟩
   walk_at "d"
   refine ⟨zbs (t.map fun p=>(p.1,p.2 * (b - a + 1))),by unfold zbs; rw [List.map_map,List.map_map]; rfl,by simp [zbs]; omega,?_⟩
   have nk:(kys (t.map fun p=>(p.1,p.2 * (b - a + 1)))) = kys t:=by unfold kys; rw [List.map_map]; rfl
   rw [zfD (zha (by rw [nk]; exact ht.nd))]
   have z0:rLo (a,cnt a b,0) = 0:=by simp [rLo]
   have z1:rHi (a,cnt a b,0) = 0:=by simp [rHi]
   refine q _ ⟨by rw [nk]; exact ht.nd,by rw [nk,z0,z1]; simpa using ht.bd,fun p mp=>?_⟩ fun f=>?_
   ·obtain ⟨x,mx,rfl⟩:=List.mem_map.mp mp
    exact Int.mul_pos (ht.pos x mx) (by omega)
   ·have e:(fun x:Int=>tsum t fun w=>f (w + 0 * x)) = fun _=>tsum t f:=by
     funext x
     congr 1
     funext w
     simp
    rw [zgN,e,zbj]
    congr 1
    unfold cnt
    omega
 ·obtain ⟨m1,m2⟩:=hm h0
  have hw':=hw h0
  rw [if_neg h0]
  refine seq1 ?_
  walk_at "d"
  intro ad _
  unfold spD
  walk_at "d"
  have ec:(b + 1 - a).toNat = cnt a b:=by unfold cnt; congr 1; omega
  rw [ec]
  refine zfK (fun i δ S M=>∃ (t':Tal) (u4 u5 u6 u7:Option XV),S = []/\M = [(ad,.k (zbs t'))]/\Tl t' (lo + rLo (a,cnt a b,m)) (hi + rHi (a,cnt a b,m))/\(∀ f,tsum t' f = rsum a i fun x=>tsum t fun w=>f (w + m * x))/\δ = [some (.d (.dict (DD.pairs (.k (zbs t))))),some (.d (.tuple [.int a,.int b])),some (.d (.int m)),some (.o (.ref ad)),u4,u5,u6,u7]) ⟨[],_,_,_,_,rfl,rfl,Tl.nil,fun f=>rfl,rfl⟩ ?_ ?_
  ·rintro i d _ _ _ N hii ⟨t1,u4,u5,u6,u7,rfl,rfl,ht1,hs1,rfl⟩ hN
   obtain ⟨hi',rfl⟩:=zbx hii
   walk_at "d"
   refine ⟨_,rfl,?_⟩
   rw [ze8]
   refine zfK (fun j δ S M=>∃ (t':Tal) (u5 u6 u7:Option XV),S = []/\M = [(ad,.k (zbs t'))]/\Tl t' (lo + rLo (a,cnt a b,m)) (hi + rHi (a,cnt a b,m))/\(∀ f,tsum t' f = tsum t1 f + tsum (t.take j) fun w=>f (w + m * (a + i)))/\δ = [some (.d (.dict (DD.pairs (.k (zbs t))))),some (.d (.tuple [.int a,.int b])),some (.d (.int m)),some (.o (.ref ad)),some (.d (.int (a + i))),u5,u6,u7]) ⟨t1,_,_,_,rfl,rfl,ht1,fun f=>by simp [tsum],rfl⟩ ?_ ?_
   ·rintro j d _ _ _ N2 hj ⟨t2,v5,v6,v7,rfl,rfl,ht2,hs2,rfl⟩ hN2
    obtain ⟨p,ep,rfl⟩:=zfT hj
    have mp:=List.mem_of_getElem? ep
    have hpos:=ht.pos p mp
    have hbd:=ht.bd p.1 (zhq mp)
    have hr:=zst (r:=(a,cnt a b,m)) (x:=a + i) (by show a <= a + i; omega) (by show a + (i:Int) < a + (cnt a b:Nat); omega)
    have hr1:rLo (a,cnt a b,m) <= m * (a + i):=hr.1
    have hr2:m * (a + i) <= rHi (a,cnt a b,m):=hr.2
    have h3:=ht2.add (k:=p.1 + m * (a + i)) (n:=p.2) (by omega) (by omega) hpos
    have hlen:=ht2.len
    walk_at "d"
    refine seqm ?_
    walk_at "d"
    refine ⟨zcC (by omega) (by omega),?_⟩
    walk_at "d"
    refine ⟨.k (zbs t2),.inl ⟨ad,rfl,by simp⟩,?_⟩
    walk_at "d"
    refine ⟨lkA (zbs t2) (Sum.inl (p.1 + m * (a + i))),rfl,?_⟩
    rw [zj4 ht2.nd]
    walk_at "d"
    refine ⟨ad,rfl,?_⟩
    walk_at "d"
    refine ⟨.k (zbs t2),.k (zbs (tadd t2 (p.1 + m * (a + i)) p.2)),by simp,?_,?_,hN2 _ _ _ ⟨tadd t2 (p.1 + m * (a + i)) p.2,_,_,_,rfl,?_,h3,fun f=>?_,rfl⟩⟩
    ·show some (DD.k (ptA (zbs t2) (Sum.inl (p.1 + m * (a + i))) (.int (tget t2 (p.1 + m * (a + i)) + p.2)))) = _
     rw [zo5 ht2.nd]
    ·show (zbs t2).length < 1000
     unfold zbs
     rw [List.length_map]
     omega
    ·simp [zq7]
    ·rw [zjE,hs2 f,zjy ep,zn0,zaj,zn2]
     omega
   ·rintro _ _ _ ⟨t2,v5,v6,v7,rfl,rfl,ht2,hs2,rfl⟩
    refine hN _ _ _ ⟨t2,_,_,_,_,rfl,rfl,ht2,fun f=>?_,rfl⟩
    rw [List.length_map,List.take_length] at hs2
    rw [hs2 f,hs1 f,zaF]
  ·rintro _ _ _ ⟨t2,u4,u5,u6,u7,rfl,rfl,ht2,hs2,rfl⟩
   rw [zaa] at hs2
   refine ⟨[],zbs t2,rfl,rfl,_,rfl,?_⟩
   have e:zqo ad (zbs t2) (XV.o (V.ref ad)) = .d (zgw t2):=by simp [zqo,zgw]
   rw [e]
   walk_at "d"
   exact q t2 ht2 hs2
def tmT (ts:List Term):Tal:=ts.map fun t:Term=>((t.1:Int),t.2)
def zcR (ts:List Term) (k:Nat):Int:=tget (tmT ts) k
theorem zhE (ts:List Term):kys (tmT ts) = ts.map fun t:Term=>(t.1:Int):=by
 unfold kys tmT
 rw [List.map_map]
 rfl
theorem zgs {ts:List Term} (h:ts.Pairwise fun t u=>t.1 < u.1):(kys (tmT ts)).Nodup:=by
 rw [zhE]
 exact List.Pairwise.map _ (fun a b l e=>by omega) h
def zb4 (ps:List Part) (ts:List Term) (k:Nat):Row:=(plo ps k,cnt (plo ps k) (phi ps k),zcR ts k)
def znF (ps:List Part) (t:Term):Row:=(plo ps t.1,cnt (plo ps t.1) (phi ps t.1),t.2)
def zde (ps:List Part) (ts:List Term) (s n:Nat):List Row:=(List.range' s n).map (zb4 ps ts)
def zv (ps:List Part) (ts:List Term):List Row:=zde ps ts 0 ps.length
theorem zf4 (t:Term) (ts:List Term) (k:Nat):zcR (t :: ts) k = (if t.1 = k then t.2 else 0) + zcR ts k:=by
 unfold zcR tget tmT
 rw [List.map_cons,zaj]
 unfold ind
 by_cases h:t.1 = k
 ·simp [h]
 ·have:¬ ((t.1:Int) = (k:Int)):=by omega
  simp [h,this]
theorem zit {ts:List Term} {k:Nat} (h:∀ t ∈ ts,t.1 ≠ k):zcR ts k = 0:=by
 refine zcc fun m=>?_
 rw [zhE] at m
 obtain ⟨t,mt,e⟩:=List.mem_map.mp m
 exact h t mt (by omega)
theorem zfO (ps:List Part):∀ (n s:Nat) (ts:List Term),(∀ t ∈ ts,s <= t.1/\t.1 < s + n/\t.2 ≠ 0)->(ts.Pairwise fun t u=>t.1 < u.1)->busy (zde ps ts s n) = ts.map (znF ps)
 | 0,s,ts,h,_=>by
  cases ts with
  | nil=>rfl
  | cons t ts=>have:=h t List.mem_cons_self; omega
 | n + 1,s,ts,h,hp=>by
  have hc:∀ ts':List Term,(∀ k,s + 1 <= k->zcR ts k = zcR ts' k)->zde ps ts (s + 1) n = zde ps ts' (s + 1) n:=fun ts' e=>by
   unfold zde
   refine List.map_congr_left fun k m=>?_
   rw [List.mem_range'] at m
   obtain ⟨i,_,e'⟩:=m
   unfold zb4
   rw [e k (by omega)]
  have er:zde ps ts s (n + 1) = zb4 ps ts s :: zde ps ts (s + 1) n:=by
   unfold zde
   rw [List.range'_succ,List.map_cons]
  rw [er]
  have skip:(∀ t ∈ ts,s + 1 <= t.1)->busy (zb4 ps ts s :: zde ps ts (s + 1) n) = ts.map (znF ps):=fun h1=>by
   have e0:zcR ts s = 0:=zit fun t m=>by have:=h1 t m; omega
   have eb:busy (zb4 ps ts s :: zde ps ts (s + 1) n) = busy (zde ps ts (s + 1) n):=by simp [busy,zb4,e0]
   rw [eb]
   exact zfO ps n (s + 1) ts (fun t m=>⟨h1 t m,by have:=h t m; omega,(h t m).2.2⟩) hp
  cases ts with
  | nil=>exact skip fun t m=>by cases m
  | cons t ts =>
   rw [List.pairwise_cons] at hp
   have ht:=h t List.mem_cons_self
   by_cases e:t.1 = s
   ·have e0:zcR (t :: ts) s = t.2:=by
     rw [zf4,if_pos e,zit fun u m=>by have:=hp.1 u m; omega]
     omega
    have eb:busy (zb4 ps (t :: ts) s :: zde ps (t :: ts) (s + 1) n) = znF ps t :: busy (zde ps (t :: ts) (s + 1) n):=by
     have:zb4 ps (t :: ts) s = znF ps t:=by unfold zb4 znF; rw [e0,e]
     rw [this]
     simp [busy,znF,ht.2.2]
    rw [eb,hc ts fun k hk=>by rw [zf4,if_neg (by omega),Int.zero_add],zfO ps n (s + 1) ts (fun u m=>⟨by have:=hp.1 u m; omega,by have:=h u (List.mem_cons_of_mem _ m); omega,(h u (List.mem_cons_of_mem _ m)).2.2⟩) hp.2]
    rfl
   ·exact skip fun u m=>by
     rcases List.mem_cons.mp m with rfl | m
     ·omega
     ·have:=hp.1 u m; omega
theorem zi9 {ps:List Part} {ts:List Term} (h:Tms ps.length ts):busy (zv ps ts) = ts.map (znF ps) :=
 zfO ps ps.length 0 ts (fun t m=>⟨Nat.zero_le _,by have:=(h.ok t m).1; omega,(h.ok t m).2.1⟩) h.srt
theorem znY {r:Row} (h:r.2.2 = 0):rLo r = 0:=by unfold rLo; rw [h]; simp
theorem zou {r:Row} (h:r.2.2 = 0):rHi r = 0:=by unfold rHi; rw [h]; simp
theorem zkw:∀ rs:List Row,zhX rs = zhX (busy rs)/\zhW rs = zhW (busy rs)
 | []=>⟨rfl,rfl⟩
 | r :: rs=>by
  have ih:=zkw rs
  unfold zhX zhW at *
  by_cases h:r.2.2 = 0
  ·have eb:busy (r :: rs) = busy rs:=by simp [busy,h]
   rw [eb,List.map_cons,List.map_cons,List.sum_cons,List.sum_cons,znY h,zou h,Int.zero_add,Int.zero_add]
   exact ih
  ·have eb:busy (r :: rs) = r :: busy rs:=by simp [busy,h]
   rw [eb,List.map_cons,List.map_cons,List.map_cons,List.map_cons,List.sum_cons,List.sum_cons,List.sum_cons,List.sum_cons,ih.1,ih.2]
   exact ⟨rfl,rfl⟩
theorem ziU {ps:List Part} {t:Term} (h:plo ps t.1 <= phi ps t.1):rLo (znF ps t) = tLo ps t/\rHi (znF ps t) = tHi ps t:=by
 unfold rLo rHi znF tLo tHi cnt
 have e:plo ps t.1 + ((phi ps t.1 - plo ps t.1 + 1).toNat:Int) - 1 = phi ps t.1:=by omega
 simp only
 rw [e]
 exact ⟨rfl,rfl⟩
theorem zhz {ps:List Part} {ts:List Term} (ho:Ord ps) (h:Tms ps.length ts):zhX (zv ps ts) = zV ps ts/\zhW (zv ps ts) = zaA ps ts:=by
 have hb:=zkw (zv ps ts)
 rw [zi9 h] at hb
 rw [hb.1,hb.2]
 unfold zhX zhW zV zaA
 rw [List.map_map,List.map_map]
 constructor
 ·congr 1
  exact List.map_congr_left fun t m=>(ziU (ho _ (zbq (h.ok t m).1))).1
 ·congr 1
  exact List.map_congr_left fun t m=>(ziU (ho _ (zbq (h.ok t m).1))).2
theorem zca (ps:List Part) (ts:List Term):(zv ps ts).length = ps.length:=by simp [zv,zde]
theorem zei {ps:List Part} {ts:List Term} {k:Nat} (h:k < ps.length):(zv ps ts).drop k = zb4 ps ts k :: (zv ps ts).drop (k + 1):=by
 rw [List.drop_eq_getElem_cons (by rw [zca]; exact h)]
 congr 1
 simp [zv,zde]
theorem zfx (rs:List Row):∀ k,zhW (rs.drop k) - zhX (rs.drop k) <= zhW rs - zhX rs
 | 0=>by simp
 | k + 1=>by
  cases rs with
  | nil=>simp
  | cons r rs =>
   have:=zfx rs k
   have h2:=zo0 r
   rw [List.drop_succ_cons]
   unfold zhW zhX at *
   rw [List.map_cons,List.map_cons,List.sum_cons,List.sum_cons]
   omega
theorem zgS:∀ rs:List Row,zhX rs <= zhW rs
 | []=>Int.le_refl _
 | r :: rs=>by
  have:=zgS rs
  have:=zo0 r
  unfold zhW zhX at *
  rw [List.map_cons,List.map_cons,List.sum_cons,List.sum_cons]
  omega
structure Gd (ps:List Part) (ts:List Term) (k:Nat) (t:Tal):Prop where
 tl:Tl t (zhX ((zv ps ts).drop k)) (zhW ((zv ps ts).drop k))
 fw:∀ f,tsum t f = My.fw ((zv ps ts).drop k) f
def Bnd (ps:List Part):Prop:=∀ p ∈ ps,p.2.2 - p.2.1 + 1 < 2 ^ 200
theorem znp {B:Int} (hB:1 <= B):∀ l:List Int,(∀ x ∈ l,0 <= x/\x <= B)->0 <= l.prod/\l.prod <= B ^ l.length
 | [],_=>by simp
 | x :: l,h=>by
  have ih:=znp hB l fun y m=>h y (List.mem_cons_of_mem _ m)
  have hx:=h x List.mem_cons_self
  rw [List.prod_cons,List.length_cons,Int.pow_succ,Int.mul_comm _ B]
  exact ⟨Int.mul_nonneg hx.1 ih.1,Int.mul_le_mul hx.2 ih.2 ih.1 (by omega)⟩
theorem znO {B:Int} (hB:1 <= B) {n m:Nat} (h:n <= m):B ^ n <= B ^ m:=by
 obtain ⟨k,rfl⟩:=Nat.exists_eq_add_of_le h
 rw [Int.pow_add]
 have h1:1 <= B ^ k:=by
  have:0 < B ^ k:=Int.pow_pos (by omega)
  omega
 have h2:0 < B ^ n:=Int.pow_pos (by omega)
 have:=Int.mul_le_mul_of_nonneg_left h1 (Int.le_of_lt h2)
 omega
theorem zo2 {ps:List Part} {ts:List Term} (ho:Ord ps) (hb:Bnd ps) (h8:ps.length <= 8) (k:Nat):fw ((zv ps ts).drop k) (fun _=>1) < 2 ^ 1700:=by
 rw [zpI]
 have h:=znp (B:=2 ^ 200) (by decide) (((zv ps ts).drop k).map fun r=>(r.2.1:Int)) fun x m=>by
  obtain ⟨r,mr,rfl⟩:=List.mem_map.mp m
  have mr:=List.mem_of_mem_drop mr
  unfold zv zde at mr
  obtain ⟨j,mj,rfl⟩:=List.mem_map.mp mr
  have hj:j < ps.length:=by rw [List.mem_range'] at mj; omega
  have h1:=ho _ (zbq hj)
  have h2:=hb _ (zbq hj)
  unfold zb4 cnt plo phi
  simp only
  omega
 have hl:(((zv ps ts).drop k).map fun r=>(r.2.1:Int)).length <= 8:=by rw [List.length_map,List.length_drop,zca]; omega
 have:=znO (B:=2 ^ 200) (by decide) hl
 have e:((2:Int) ^ 140) ^ 8 < 2 ^ 1700:=by decide +kernel
 omega
theorem Gd.val {ps:List Part} {ts:List Term} {k:Nat} {t:Tal} (g:Gd ps ts k t) (ho:Ord ps) (hb:Bnd ps) (h8:ps.length <= 8):∀ p ∈ t,p.2 < 2 ^ 1700:=fun p m=>by
 have h:=zpH (f:=fun _=>1) (fun _=>by decide) g.tl.pos m
 have h2:=zo2 (ts:=ts) ho hb h8 k
 rw [<- g.fw] at h2
 omega
theorem Gd.len {ps:List Part} {ts:List Term} {k:Nat} {t:Tal} (g:Gd ps ts k t) (ho:Ord ps) (ht:Tms ps.length ts) (hr:zaA ps ts - zV ps ts < 400):t.length <= 400:=by
 have h1:=g.tl.len
 have h2:=zfx (zv ps ts) k
 have h3:=zhz ho ht
 rw [h3.1,h3.2] at h2
 omega
theorem zi7 {n:Nat} {ts:List Term} (h:Tms n ts) (k:Nat):zcR ts k = 0\/∃ t ∈ ts,t.1 = k/\zcR ts k = t.2:=by
 by_cases hk:(k:Int) ∈ kys (tmT ts)
 ·rw [zhE] at hk
  obtain ⟨t,mt,e⟩:=List.mem_map.mp hk
  refine .inr ⟨t,mt,by omega,?_⟩
  have:=zkh (zgs h.srt) (p:=((t.1:Int),t.2)) (List.mem_map.mpr ⟨t,mt,rfl⟩)
  unfold zcR
  rw [<- e]
  exact this
 ·exact .inl (zcc hk)
theorem zcW {ps:List Part} {g:Gap} (ho:Ord ps) (hb:Bnd ps) (h8:ps.length <= 8) (ht:Tms ps.length g.ts) (hr:zaA ps g.ts - zV ps g.ts < 400)
  (q:∀ T:List Tal,T.length = ps.length + 1->(∀ k t,T[k]? = some t->Gd ps g.ts k t)->R (.d (.list (T.map zgw))) []):zbi [.d (zcs ps),.d (zdU g)] [] R:=by
 unfold zbi
 rw [zcb,zcs]
 walk_at "d"
 (refine seq1 ?_; walk_at "d")
 refine zoq (ps:=ps) (g:=g) (ht.tm3 h8) ?_
 walk_at "d"
 refine zg1 ?_
 walk_at "d"
 refine seq1 ?_
 walk_at "d"
 rw [if_neg (by omega)]
 refine seq1 ?_
 unfold zjP
 walk_at "d"
 refine ⟨zbs (tmT g.ts),by unfold zbs tmT; rw [List.map_map,List.map_map]; rfl,by have:=ht.len; simp [zbs,tmT]; omega,?_⟩
 rw [zfD (zha (zgs ht.srt))]
 (refine seq1 ?_; walk_at "d")
 refine cut (fun δ S=>∃ (L:List Tal) (u5:Option XV),L.length = ps.length + 1/\(∀ j t,L[j]? = some t->Gd ps g.ts (ps.length - j) t)/\S = [L.map zgw]/\δ = [some (.d (.tuple (ps.map zev))),some (.d (.tuple [.tuple (g.ts.map tmD),.int g.lo,.int g.hi])),some (.d (.int (zaA ps g.ts - zV ps g.ts + 1))),some (.d (.dict (DD.pairs (.k (zbs (tmT g.ts)))))),some (.l 0),u5]) (fun N hN=>?_) ?_
 ·walk_at "d"
  refine ⟨_,_,⟨rfl,rfl⟩,⟨by omega,by omega⟩,by decide,?_⟩
  have en:((ps.length:Int) - 1 - -1).toNat = ps.length:=by omega
  rw [en]
  have er:zhX ([]:List Row) = 0/\zhW ([]:List Row) = 0:=⟨rfl,rfl⟩
  refine za4 (fun i δ S=>∃ (L:List Tal) (u5:Option XV),L.length = i + 1/\(∀ j t,L[j]? = some t->Gd ps g.ts (ps.length - j) t)/\S = [L.map zgw]/\δ = [some (.d (.tuple (ps.map zev))),some (.d (.tuple [.tuple (g.ts.map tmD),.int g.lo,.int g.hi])),some (.d (.int (zaA ps g.ts - zV ps g.ts + 1))),some (.d (.dict (DD.pairs (.k (zbs (tmT g.ts)))))),some (.l 0),u5]) ⟨[[(0,1)]],_,rfl,fun j t e=>?_,rfl,rfl⟩ ?_ ?_
  ·cases j with
   | succ j=>cases e
   | zero =>
    cases e
    have ed:(zv ps g.ts).drop (ps.length - 0) = []:=List.drop_of_length_le (by rw [zca]; omega)
    refine ⟨by rw [ed]; exact Tl.one,fun f=>?_⟩
    rw [ed]
    show 1 * f 0 + 0 = f 0
    omega
  ·rintro i d _ _ N hii ⟨L,u5,hl,hL,rfl,rfl⟩ hN
   obtain ⟨hi',rfl⟩:=zf0 hii
   have hk:ps.length - 1 - i < ps.length:=by omega
   have ek:((ps.length:Int) - 1 - i) = ((ps.length - 1 - i:Nat):Int):=by omega
   rw [ek]
   have hli:i < L.length:=by omega
   have el:=List.getElem?_eq_getElem hli
   have gd:=hL i _ el
   have e1:ps.length - i = ps.length - 1 - i + 1:=by omega
   rw [e1] at gd
   generalize L[i] = t at el gd
   generalize hkk:ps.length - 1 - i = k at *
   have edr:=zei (ts:=g.ts) hk
   walk_at "d"
   refine ⟨zgw t,?_,?_⟩
   ·obtain ⟨r,er⟩:=List.getLast?_eq_some_iff.mp (show (L.map zgw).getLast? = some (zgw t) by
     rw [List.getLast?_eq_getElem?,List.length_map,hl,Nat.add_sub_cancel,List.getElem?_map,el]
     rfl)
    rw [er]
    exact zop _ _
   ·walk_at "d"
    refine ⟨_,zbl (zds hk),?_⟩
    walk_at "d"
    refine ze3 ?_
    walk_at "d"
    refine ⟨.k (zbs (tmT g.ts)),.inr ⟨_,rfl,rfl⟩,?_⟩
    walk_at "d"
    refine ⟨lkA (zbs (tmT g.ts)) (Sum.inl (k:Int)),rfl,?_⟩
    rw [zj4 (zgs ht.srt)]
    walk_at "d"
    have hbd:zcR g.ts k = 0\/∃ t ∈ g.ts,t.1 = k/\zcR g.ts k = t.2:=zi7 ht k
    have hcons:zhX ((zv ps g.ts).drop k) = rLo (zb4 ps g.ts k) + zhX ((zv ps g.ts).drop (k + 1))/\zhW ((zv ps g.ts).drop k) = rHi (zb4 ps g.ts k) + zhW ((zv ps g.ts).drop (k + 1)):=by
     rw [edr]
     unfold zhX zhW
     simp
    have hdr:=zfx (zv ps g.ts) k
    have hen:=zhz ho ht
    rw [hen.1,hen.2] at hdr
    refine zh8 (t:=t) (a:=plo ps k) (b:=phi ps k) (m:=zcR g.ts k) gd.tl (ho _ (zbq hk)) (by have:=gd.len ho ht hr; omega) (fun _=>⟨gd.val ho hb h8,by have:=hb _ (zbq hk); unfold phi plo; omega⟩) (fun h0=>?_) (fun h0=>?_) fun t' ht' hs'=>?_
    ·rcases hbd with h | ⟨u,mu,_,e⟩
     ·exact absurd h h0
     ·rw [e]
      exact (ht.ok u mu).2.2
    ·show _ + rHi (zb4 ps g.ts k) - (_ + rLo (zb4 ps g.ts k)) < 900
     omega
    ·walk_at "d"
     refine ⟨by first | omega | (simp; omega),hN _ _ ⟨L ++ [t'],_,by simp [hl],fun j u ej=>?_,by simp,rfl⟩⟩
     by_cases hj:j < L.length
     ·rw [List.getElem?_append_left hj] at ej
      exact hL j u ej
     ·have hj2:j = L.length:=by
       have:=(List.getElem?_eq_some_iff.mp ej).1
       simp at this
       omega
      subst hj2
      rw [List.getElem?_concat_length] at ej
      cases ej
      have e4:ps.length - L.length = k:=by omega
      rw [e4]
      refine ⟨?_,fun f=>?_⟩
      ·rw [hcons.1,hcons.2,Int.add_comm (rLo _),Int.add_comm (rHi _)]
       exact ht'
      ·rw [hs' f,edr]
       show _ = rsum (plo ps k) (cnt (plo ps k) (phi ps k)) fun x=>fw ((zv ps g.ts).drop (k + 1)) fun w=>f (w + zcR g.ts k * x)
       exact zb7 fun x _ _=>gd.fw _
  ·rintro _ _ ⟨L,u5,hl,hL,rfl,rfl⟩
   refine hN _ _ ⟨L,u5,?_,hL,rfl,rfl⟩
   simpa [zk8] using hl
 rintro _ _ ⟨L,u5,hl,hL,rfl,rfl⟩
 refine seq1 ?_
 walk_at "d"
 refine .inl ?_
 rw [<- List.map_reverse]
 refine q L.reverse (by simpa using hl) fun k t ek=>?_
 have hk:k < L.length:=by simpa using (List.getElem?_eq_some_iff.mp ek).1
 rw [List.getElem?_reverse hk] at ek
 have:=hL _ t ek
 rwa [show ps.length - (L.length - 1 - k) = k by omega] at this
theorem zgO (g:Gap) (w x:Int):0 <= inG g w x/\inG g w x <= 1:=by
 unfold inG
 split <;> omega
def zdY (ps:List Part) (g:Gap):Int:=fw (zv ps g.ts) (inG g 0)
theorem zhU {ps:List Part} {g:Gap} (ho:Ord ps) (hb:Bnd ps) (h8:ps.length <= 8) (ht:Tms ps.length g.ts) (hr:zaA ps g.ts - zV ps g.ts < 400) (q:R (.d (.int (zdY ps g))) []):zcw [.d (zcs ps),.d (zdU g)] [] R:=by
 unfold zcw
 walk_at "d"
 refine zcW ho hb h8 ht hr fun T hl hT=>?_
 have e0:=List.getElem?_eq_getElem (l:=T) (i:=0) (by omega)
 have gd:=hT 0 _ e0
 walk_at "d"
 refine ⟨_,zcV (j:=0) (by rw [List.getElem?_map,e0]; rfl),?_⟩
 walk_at "d"
 refine zd6 (by have:=gd.len ho ht hr; omega) ?_
 walk_at "d"
 rw [gd.fw]
 exact q
end
section
variable {R:RX} {S:Sto}
theorem zqK (ps:List Part):zcs ps = .tuple (ps.map zev):=rfl
theorem zfn {d:PyData} (q:R (.d (.bool (zeW d))) []):zcH [.d d] [] R:=by
 unfold zcH
 cases d <;> (walk_at "e"; exact q)
def inP (p:Part):PyData->Bool
 | .int k=>decide (p.2.1 <= k/\k <= p.2.2)
 | _=>false
def zkm (ps:List Part):PyData->Bool
 | .tuple ds=>decide (ds.length = ps.length) && ((ds.zip ps).map fun q=>inP q.2 q.1).all id
 | _=>false
theorem zeI (ps:List Part) (ds:List PyData):zkm ps (.tuple ds) = (decide (ds.length = ps.length) && ((ds.zip ps).map fun q=>inP q.2 q.1).all id):=rfl
theorem zlx {ps:List Part} {d:PyData} (hl:ps.length <= 100) (q:R (.d (.bool (zkm ps d))) []):zfF [.d (zcs ps),.d d] [] R:=by
 unfold zfF
 rw [zqK]
 cases d with
 | tuple ds =>
  walk_at "d"
  (refine seq1 ?_; walk_at "d")
  by_cases h:ds.length = ps.length
  ·rw [if_neg (by omega)]
   rw [zeI,decide_eq_true h,Bool.true_and] at q
   have ez:zi4 ds (ps.map zev) = (ds.zip ps).map fun q=>.tuple [q.1,zev q.2]:=by
    have:=zjL (fun d:PyData=>d) zev ds ps
    rwa [List.map_id'] at this
   walk_at "d"
   rw [ez]
   refine cmp2 (S0:=[]) (fun q:PyData × Part=>.bool (inP q.2 q.1)) rfl (ds.zip ps) (by simp; omega) ?_ ?_
   ·intro x mx u v acc R' hk
    obtain ⟨d,p⟩:=x
    rw [zg7]
    walk_at "d"
    refine zfn ?_
    cases d with
    | int k =>
     simp only [zeW]
     walk_at "d"
     have e0:inP p (.int k) = decide (p.2.1 <= k/\k <= p.2.2):=rfl
     have hk':=hk (some (.d (.int k))) (some (.d (.tuple [.str p.1,.int p.2.1,.int p.2.2])))
     rw [e0] at hk'
     split
     ·rename_i h1
      simpa [h1] using hk'
     ·rename_i h1
      simpa [h1] using hk'
    | none=>(simp only [zeW]; walk_at "d"; exact hk _ _)
    | bool b=>(simp only [zeW]; walk_at "d"; exact hk _ _)
    | str b=>(simp only [zeW]; walk_at "d"; exact hk _ _)
    | list b=>(simp only [zeW]; walk_at "d"; exact hk _ _)
    | dict b=>(simp only [zeW]; walk_at "d"; exact hk _ _)
    | tuple b=>(simp only [zeW]; walk_at "d"; exact hk _ _)
   ·walk_at "d"
    exact ⟨_,by rw [List.map_map]; rfl,q⟩
  ·rw [if_pos (by omega)]
   rw [zeI,decide_eq_false h] at q
   exact q
 | none=>(walk_at "d"; (refine seq1 ?_; walk_at "d"); exact q)
 | bool b=>(walk_at "d"; (refine seq1 ?_; walk_at "d"); exact q)
 | int b=>(walk_at "d"; (refine seq1 ?_; walk_at "d"); exact q)
 | str b=>(walk_at "d"; (refine seq1 ?_; walk_at "d"); exact q)
 | list b=>(walk_at "d"; (refine seq1 ?_; walk_at "d"); exact q)
 | dict b=>(walk_at "d"; (refine seq1 ?_; walk_at "d"); exact q)
theorem zjl:∀ {ps:List Part} {ds:List PyData},(ds.length = ps.length/\((ds.zip ps).map fun q=>inP q.2 q.1).all id = true) ↔ ∃ one:List Int,ds = one.map PyData.int/\InBox ps one
 | [],[]=>by
  constructor
  ·intro _
   exact ⟨[],rfl,zgm.mpr rfl⟩
  ·intro _
   exact ⟨rfl,rfl⟩
 | [],d :: ds=>by
  constructor
  ·intro h
   cases h.1
  ·rintro ⟨one,e,h⟩
   rw [zgm.mp h] at e
   cases e
 | p :: ps,[]=>by
  constructor
  ·intro h
   cases h.1
  ·rintro ⟨one,e,h⟩
   obtain ⟨x,t,rfl,_⟩:=zdX.mp h
   cases e
 | p :: ps,d :: ds=>by
  have ih:=zjl (ps:=ps) (ds:=ds)
  constructor
  ·rintro ⟨h1,h2⟩
   rw [List.zip_cons_cons,List.map_cons,List.all_cons,Bool.and_eq_true] at h2
   obtain ⟨h2,h3⟩:=h2
   obtain ⟨one,e,hb⟩:=ih.mp ⟨by simpa using h1,h3⟩
   cases d with
   | int k =>
    have h2':decide (p.2.1 <= k/\k <= p.2.2) = true:=h2
    have:=of_decide_eq_true h2'
    exact ⟨k :: one,by rw [e]; rfl,zdX.mpr ⟨k,one,rfl,this.1,this.2,hb⟩⟩
   | _=>cases h2
  ·rintro ⟨one,e,h⟩
   obtain ⟨x,t,rfl,h1,h2,h3⟩:=zdX.mp h
   rw [List.map_cons] at e
   injection e with e1 e2
   have:=ih.mpr ⟨t,e2,h3⟩
   refine ⟨by simpa using this.1,?_⟩
   rw [List.zip_cons_cons,List.map_cons,List.all_cons,this.2,Bool.and_true,e1]
   exact decide_eq_true ⟨h1,h2⟩
theorem zkD {ps:List Part} {d:PyData}:zkm ps d = true ↔ ∃ one,d = zct one/\InBox ps one:=by
 constructor
 ·intro h
  cases d with
  | tuple ds =>
   rw [zeI,Bool.and_eq_true,decide_eq_true_eq] at h
   obtain ⟨one,e,hb⟩:=zjl.mp h
   exact ⟨one,by rw [e]; rfl,hb⟩
  | _=>cases h
 ·rintro ⟨one,rfl,hb⟩
  have h:=zjl.mpr ⟨one,rfl,hb⟩
  show zkm ps (.tuple (one.map PyData.int)) = true
  rw [zeI,Bool.and_eq_true,decide_eq_true_eq]
  exact h
end
section
variable {R:RX} {S:Sto}
def wR:List Row->List Int->Int
 | r :: rs,x :: xs=>r.2.2 * x + wR rs xs
 | _,_=>0
def inR:List Row->List Int->Prop
 | [],[]=>True
 | r :: rs,x :: xs=>r.1 <= x/\x < r.1 + r.2.1/\inR rs xs
 | _,_=>False
def bef:List Row->List Int->(Int->Int)->Int
 | r :: rs,x :: xs,f=>rsum r.1 (x - r.1).toNat (fun v=>fw rs fun w=>f (w + r.2.2 * v)) + bef rs xs (fun w=>f (w + r.2.2 * x))
 | _,_,_=>0
theorem zeP {f:Int->Int} (hf:∀ w,0 <= f w) (rs:List Row):0 <= fw rs f:=by
 have:=zjs rs (f:=fun w=>0 * f w) (g:=f) fun w=>by have:=hf w; omega
 rw [zpO] at this
 omega
theorem zjv {a:Int} {n:Nat} {f:Int->Int} (hf:∀ x,0 <= f x):0 <= rsum a n f:=by
 have:=zgl (a:=a) (n:=n) (f:=fun _=>0) (g:=f) fun x _ _=>hf x
 rw [zbj] at this
 omega
theorem zmk {a:Int} {f:Int->Int} (hf:∀ x,0 <= f x) {n m:Nat} (h:n <= m):rsum a n f <= rsum a m f:=by
 induction h with
 | refl=>exact Int.le_refl _
 | step _ ih=>rw [zaF]; have:=hf (a + (‹Nat›:Nat)); omega
theorem zfa:∀ (rs:List Row) (xs:List Int) (f:Int->Int),(∀ w,0 <= f w)->0 <= bef rs xs f
 | [],xs,f,_=>by cases xs <;> exact Int.le_refl _
 | r :: rs,[],f,_=>Int.le_refl _
 | r :: rs,x :: xs,f,hf=>by
  unfold bef
  have h1:=zjv (a:=r.1) (n:=(x - r.1).toNat) (f:=fun v=>fw rs fun w=>f (w + r.2.2 * v)) fun v=>zeP (fun w=>hf _) rs
  have h2:=zfa rs xs (fun w=>f (w + r.2.2 * x)) fun w=>hf _
  omega
theorem zmy:∀ (rs:List Row) (xs:List Int) (f:Int->Int),(∀ w,0 <= f w)->inR rs xs->bef rs xs f + f (wR rs xs) <= fw rs f
 | [],[],f,_,_=>by show 0 + f 0 <= f 0; omega
 | [],_ :: _,f,_,h=>h.elim
 | r :: rs,[],f,_,h=>h.elim
 | r :: rs,x :: xs,f,hf,⟨h1,h2,h3⟩=>by
  have ih:=zmy rs xs (fun w=>f (w + r.2.2 * x)) (fun w=>hf _) h3
  show rsum r.1 (x - r.1).toNat (fun v=>fw rs fun w=>f (w + r.2.2 * v)) + bef rs xs (fun w=>f (w + r.2.2 * x)) + f (r.2.2 * x + wR rs xs) <= rsum r.1 r.2.1 fun v=>fw rs fun w=>f (w + r.2.2 * v)
  have hs:=zaF r.1 (x - r.1).toNat fun v=>fw rs fun w=>f (w + r.2.2 * v)
  rw [show r.1 + ((x - r.1).toNat:Int) = x by omega] at hs
  have hl:=zmk (a:=r.1) (f:=fun v=>fw rs fun w=>f (w + r.2.2 * v)) (fun v=>zeP (fun w=>hf _) rs) (show (x - r.1).toNat + 1 <= r.2.1 by omega)
  have e:f (r.2.2 * x + wR rs xs) = f (wR rs xs + r.2.2 * x):=by rw [Int.add_comm]
  rw [e]
  omega
theorem zj6:∀ (rs:List Row) (xs ys:List Int) (f:Int->Int),(∀ w,0 <= f w)->inR rs xs->inR rs ys->HT.lexLt xs ys = true->bef rs xs f + f (wR rs xs) <= bef rs ys f
 | [],[],[],f,_,_,_,h=>by cases h
 | [],_ :: _,_,f,_,h,_,_=>h.elim
 | [],[],_ :: _,f,_,_,h,_=>h.elim
 | r :: rs,[],_,f,_,h,_,_=>h.elim
 | r :: rs,_ :: _,[],f,_,_,h,_=>h.elim
 | r :: rs,x :: xs,y :: ys,f,hf,hx,hy,h=>by
  obtain ⟨x1,x2,x3⟩:=hx
  obtain ⟨y1,y2,y3⟩:=hy
  have e:f (r.2.2 * x + wR rs xs) = f (wR rs xs + r.2.2 * x):=by rw [Int.add_comm]
  unfold bef wR
  rw [e]
  rw [HT.lexLt_cons] at h
  split at h
  ·rename_i exy
   subst exy
   have ih:=zj6 rs xs ys (fun w=>f (w + r.2.2 * x)) (fun w=>hf _) x3 y3 h
   omega
  ·rename_i exy
   have hlt:=of_decide_eq_true h
   have hb:=zmy rs xs (fun w=>f (w + r.2.2 * x)) (fun w=>hf _) x3
   have hs:=zaF r.1 (x - r.1).toNat fun v=>fw rs fun w=>f (w + r.2.2 * v)
   rw [show r.1 + ((x - r.1).toNat:Int) = x by omega] at hs
   have hl:=zmk (a:=r.1) (f:=fun v=>fw rs fun w=>f (w + r.2.2 * v)) (fun v=>zeP (fun w=>hf _) rs) (show (x - r.1).toNat + 1 <= (y - r.1).toNat by omega)
   have hn:=zfa rs ys (fun w=>f (w + r.2.2 * y)) fun w=>hf _
   omega
theorem zf2:∀ {a b:List Int},a ≠ b->HT.lexLt a b = true\/HT.lexLt b a = true
 | [],[],h=>absurd rfl h
 | [],_ :: _,_=>.inl rfl
 | _ :: _,[],_=>.inr rfl
 | x :: xs,y :: ys,h=>by
  rw [HT.lexLt_cons,HT.lexLt_cons]
  by_cases e:x = y
  ·subst e
   rw [if_pos rfl,if_pos rfl]
   exact zf2 fun z=>h (by rw [z])
  ·rw [if_neg e,if_neg (Ne.symm e)]
   by_cases hl:x < y
   ·exact .inl (decide_eq_true hl)
   ·exact .inr (decide_eq_true (by omega))
theorem zqF {rs:List Row} {xs ys:List Int} {f:Int->Int} (hf:∀ w,0 <= f w) (hx:inR rs xs) (hy:inR rs ys) (fx:0 < f (wR rs xs)) (fy:0 < f (wR rs ys)) (h:bef rs xs f = bef rs ys f):xs = ys:=by
 by_cases e:xs = ys
 ·exact e
 ·exfalso
  rcases zf2 e with l | l
  ·have:=zj6 rs xs ys f hf hx hy l
   omega
  ·have:=zj6 rs ys xs f hf hy hx l
   omega
theorem zjh:∀ (rs:List Row) (b:List Int) (v:Int) (r:Row),rs[b.length]? = some r->wR rs (b ++ [v]) = wR rs b + r.2.2 * v
 | [],b,v,r,h=>by simp at h
 | x :: rs,[],v,r,h=>by
  have:x = r:=by simpa using h
  subst this
  show x.2.2 * v + wR rs [] = 0 + x.2.2 * v
  have:wR rs [] = 0:=by cases rs <;> rfl
  omega
 | x :: rs,y :: b,v,r,h=>by
  have ih:=zjh rs b v r (by simpa using h)
  show x.2.2 * y + wR rs (b ++ [v]) = x.2.2 * y + wR rs b + r.2.2 * v
  omega
theorem zky:∀ (rs:List Row) (b:List Int) (v:Int) (r:Row) (f:Int->Int),rs[b.length]? = some r->bef rs (b ++ [v]) f = bef rs b f + rsum r.1 (v - r.1).toNat (fun u=>fw (rs.drop (b.length + 1)) fun w=>f (w + r.2.2 * u + wR rs b))
 | [],b,v,r,f,h=>by simp at h
 | x :: rs,[],v,r,f,h=>by
  have:x = r:=by simpa using h
  subst this
  have e1:bef rs [] (fun w=>f (w + x.2.2 * v)) = 0:=by cases rs <;> rfl
  show rsum x.1 (v - x.1).toNat (fun u=>fw rs fun w=>f (w + x.2.2 * u)) + bef rs [] (fun w=>f (w + x.2.2 * v)) = 0 + rsum x.1 (v - x.1).toNat (fun u=>fw rs fun w=>f (w + x.2.2 * u + 0))
  rw [e1]
  simp only [Int.add_zero,Int.zero_add]
 | x :: rs,y :: b,v,r,f,h=>by
  have ih:=zky rs b v r (fun w=>f (w + x.2.2 * y)) (by simpa using h)
  show _ + bef rs (b ++ [v]) (fun w=>f (w + x.2.2 * y)) = _ + bef rs b (fun w=>f (w + x.2.2 * y)) + rsum r.1 (v - r.1).toNat (fun u=>fw (rs.drop (b.length + 1)) fun w=>f (w + r.2.2 * u + (x.2.2 * y + wR rs b)))
  rw [ih,Int.add_assoc]
  congr 2
  refine zb7 fun u _ _=>?_
  congr 1
  funext w
  congr 1
  omega
def zoZ:List Row->List (List Int)
 | []=>[[]]
 | r :: rs=>((List.range r.2.1).map fun k:Nat=>r.1 + k).flatMap fun x=>(zoZ rs).map (x :: ·)
theorem zhD:∀ {rs:List Row} {xs:List Int},xs ∈ zoZ rs ↔ inR rs xs
 | [],xs=>by
  unfold zoZ
  cases xs with
  | nil=>simp [inR]
  | cons x xs=>simp [inR]
 | r :: rs,[]=>by
  unfold zoZ
  simp [inR]
 | r :: rs,x :: xs=>by
  unfold zoZ
  rw [List.mem_flatMap]
  show _ ↔ r.1 <= x/\x < r.1 + r.2.1/\inR rs xs
  constructor
  ·rintro ⟨y,my,m⟩
   obtain ⟨k,mk,rfl⟩:=List.mem_map.mp my
   obtain ⟨t,mt,e⟩:=List.mem_map.mp m
   injection e with e1 e2
   subst e1 e2
   have:=List.mem_range.mp mk
   exact ⟨by omega,by omega,zhD.mp mt⟩
  ·rintro ⟨h1,h2,h3⟩
   exact ⟨x,List.mem_map.mpr ⟨(x - r.1).toNat,List.mem_range.mpr (by omega),by omega⟩,List.mem_map.mpr ⟨xs,zhD.mpr h3,rfl⟩⟩
theorem zmp:∀ (ps:List Part) (rs:List Row),rs.map (fun r=>(r.1,r.2.1)) = ps.map (fun p=>(p.2.1,(p.2.2 - p.2.1 + 1).toNat))->zoZ rs = zpa ps
 | [],[],_=>rfl
 | [],_ :: _,h=>by cases h
 | _ :: _,[],h=>by cases h
 | p :: ps,r :: rs,h=>by
  rw [List.map_cons,List.map_cons] at h
  injection h with h1 h2
  injection h1 with h3 h4
  unfold zoZ zpa zrK rng
  rw [zmp ps rs h2,h3,h4]
theorem zoz (ps:List Part) (ts:List Term):zoZ (zv ps ts) = zpa ps:=by
 refine zmp ps _ ?_
 apply List.ext_getElem
 ·simp [zca]
 ·intro i h1 h2
  have hi:i < ps.length:=by simpa using h2
  simp [zv,zde,zb4,cnt,plo,phi,part,hi]
theorem zfL {ps:List Part} {ts:List Term} {ms:List Int}:inR (zv ps ts) ms ↔ InBox ps ms:=by rw [<- zhD,zoz,zfC]
def wB (ts:List Term) (b:List Int):Int:=((ts.filter fun t:Term=>decide (t.1 < b.length)).map fun t:Term=>t.2 * b.getD t.1 0).sum
theorem zmX (t:Term) (ts:List Term) (b:List Int):wB (t :: ts) b = (if t.1 < b.length then t.2 * b.getD t.1 0 else 0) + wB ts b:=by
 unfold wB
 by_cases h:t.1 < b.length
 ·rw [List.filter_cons_of_pos (by simpa using h),List.map_cons,List.sum_cons,if_pos h]
 ·rw [List.filter_cons_of_neg (by simpa using h),if_neg h,Int.zero_add]
theorem zlr (b:List Int) (v:Int):∀ ts:List Term,wB ts (b ++ [v]) = wB ts b + zcR ts b.length * v
 | []=>by
  have:zcR [] b.length = 0:=rfl
  rw [this]
  simp [wB]
 | t :: ts=>by
  rw [zmX,zmX,zlr b v ts,zf4,Int.add_mul]
  have e:(if t.1 < (b ++ [v]).length then t.2 * (b ++ [v]).getD t.1 0 else 0) = (if t.1 < b.length then t.2 * b.getD t.1 0 else 0) + (if t.1 = b.length then t.2 else 0) * v:=by
   rw [List.length_append,List.length_singleton]
   by_cases h1:t.1 < b.length
   ·rw [if_pos (by omega),if_pos h1,if_neg (by omega),Int.zero_mul,Int.add_zero]
    congr 1
    simp [List.getD_eq_getElem?_getD,List.getElem?_append_left h1]
   ·by_cases h2:t.1 = b.length
    ·rw [if_pos (by omega),if_neg h1,if_pos h2,Int.zero_add]
     congr 1
     rw [h2]
     simp [List.getD_eq_getElem?_getD]
    ·rw [if_neg (by omega),if_neg h1,if_neg h2]
     simp
  omega
theorem zi5 {ps:List Part} {ts:List Term} {k:Nat} (h:k < ps.length):(zv ps ts)[k]? = some (zb4 ps ts k):=by
 rw [List.getElem?_eq_getElem (by rw [zca]; exact h)]
 simp [zv,zde]
theorem znQ {α:Type} {P:List α->Prop} (h0:P []) (h1:∀ l a,P l->P (l ++ [a])) (l:List α):P l:=by
 have:∀ l:List α,P l.reverse:=by
  intro l
  induction l with
  | nil=>exact h0
  | cons a l ih=>rw [List.reverse_cons]; exact h1 _ _ ih
 rw [<- List.reverse_reverse l]
 exact this _
theorem zsG {ps:List Part} {ts:List Term} (b:List Int):b.length <= ps.length->wR (zv ps ts) b = wB ts b:=by
 refine znQ (P:=fun b=>b.length <= ps.length->wR (zv ps ts) b = wB ts b) (fun _=>?_) (fun b v ih h=>?_) b
 ·have:wR (zv ps ts) [] = 0:=by cases zv ps ts <;> rfl
  rw [this]
  unfold wB
  rw [List.filter_eq_nil_iff.mpr (fun t m=>by simp)]
  rfl
 ·rw [List.length_append,List.length_singleton] at h
  rw [zjh _ b v _ (zi5 (by omega)),zlr,ih (by omega)]
  rfl
theorem znS {n:Nat} {ts:List Term} {one:List Int} (h:∀ t ∈ ts,t.1 < n) (hl:one.length = n):worth ts one = wB ts one:=by
 unfold worth wB
 rw [List.filter_eq_self.mpr fun t m=>by simpa [hl] using h t m]
theorem zeJ {ps:List Part} {ts:List Term} {one:List Int} (ht:Tms ps.length ts) (hl:one.length = ps.length):wR (zv ps ts) one = worth ts one:=by
 rw [zsG one (by omega),znS (fun t m=>(ht.ok t m).1) hl]
theorem zbM {ps:List Part} {g:Gap} {b:List Int} (h8:ps.length <= 8) (ht:Tms ps.length g.ts) (hl:b.length <= ps.length) (q:R (.d (.int (wR (zv ps g.ts) b))) []):zao [.d (zdU g),.d (zct b)] [] R:=by
 have l1:=ht.len
 unfold zao
 rw [zcb,zjP,zct]
 walk_at "d"
 refine cmf2 (S0:=[]) (fun t:Term=>PyData.int (t.2 * b.getD t.1 0)) (fun t=>decide (t.1 < b.length)) rfl g.ts (by omega) ?_ ?_
 ·intro t m u v acc R' hk
  have h3:=(ht.ok t m).2.2
  rw [zic]
  walk_at "d"
  have e:decide ((t.1:Int) < (b.length:Int)) = decide (t.1 < b.length):=by rw [decide_eq_decide]; omega
  rw [e]
  refine hk _ _ fun hp T hT=>?_
  have hb:t.1 < b.length:=by simpa using hp
  walk_at "d"
  refine ⟨_,zbl (zf5 hb),?_⟩
  walk_at "d"
  exact ⟨zcC (by omega) (by omega),hT⟩
 refine ⟨[],_,rfl,rfl,?_⟩
 walk_at "d"
 refine ⟨(g.ts.filter fun t:Term=>decide (t.1 < b.length)).map fun t:Term=>t.2 * b.getD t.1 0,by rw [List.map_map]; rfl,?_⟩
 rw [zsG b hl] at q
 exact q
def ahd (ps:List Part) (g:Gap) (b:List Int) (u:Int):Int:=fw ((zv ps g.ts).drop (b.length + 1)) (inG g (wR (zv ps g.ts) b + zcR g.ts b.length * u))
theorem zjx (g:Gap) (a w:Int):inG g a w = inG g 0 (w + a):=by
 unfold inG
 congr 2
 ·rw [show 0 + (w + a) = a + w by omega]
 ·rw [show 0 + (w + a) = a + w by omega]
theorem zoI {α:Type} {ds:List α} {k:Nat} (h:k <= ds.length):zeu ds none (some (k:Int)) = ds.take k:=by
 have e1:HT.sIx ds.length ds.length (some (k:Int)) = k:=by rw [HT.sIx_nat]; omega
 have e2:HT.sIx ds.length 0 none = 0:=rfl
 unfold zeu
 rw [e1,e2]
 simp
theorem zov {ps:List Part} {g:Gap} (ho:Ord ps) (ht:Tms ps.length g.ts) (hr:zaA ps g.ts - zV ps g.ts < 400) {k:Nat} (hk:k < ps.length) (hm:zcR g.ts k ≠ 0):phi ps k - plo ps k < 400:=by
 have h1:=zfx (zv ps g.ts) k
 have h2:=zhz ho ht
 rw [h2.1,h2.2,zei hk] at h1
 have h3:=zgS ((zv ps g.ts).drop (k + 1))
 have h4:zhW (zb4 ps g.ts k :: (zv ps g.ts).drop (k + 1)) = rHi (zb4 ps g.ts k) + zhW ((zv ps g.ts).drop (k + 1)):=by simp [zhW]
 have h5:zhX (zb4 ps g.ts k :: (zv ps g.ts).drop (k + 1)) = rLo (zb4 ps g.ts k) + zhX ((zv ps g.ts).drop (k + 1)):=by simp [zhX]
 have o:plo ps k <= phi ps k:=ho _ (zbq hk)
 have h6:phi ps k - plo ps k <= rHi (zb4 ps g.ts k) - rLo (zb4 ps g.ts k):=by
  unfold rHi rLo zb4 cnt
  simp only
  have e:plo ps k + ((phi ps k - plo ps k + 1).toNat:Int) - 1 = phi ps k:=by omega
  rw [e]
  have e2:zcR g.ts k * phi ps k = zcR g.ts k * plo ps k + zcR g.ts k * (phi ps k - plo ps k):=by rw [<- Int.mul_add]; congr 1; omega
  rw [e2]
  generalize phi ps k - plo ps k = d at *
  have hd:0 <= d:=by omega
  rcases Int.lt_or_gt_of_ne hm with h | h
  ·have:=Int.mul_le_mul_of_nonneg_right (show zcR g.ts k <= -1 by omega) hd
   omega
  ·have:=Int.mul_le_mul_of_nonneg_right (show 1 <= zcR g.ts k by omega) hd
   omega
 omega
theorem zdA {ps:List Part} {g:Gap} {t:Tal} {k:Nat} {w:Int} (ho:Ord ps) (ht:Tms ps.length g.ts) (hr:zaA ps g.ts - zV ps g.ts < 400) (gd:Gd ps g.ts k t) (q:R (.d (.int (fw ((zv ps g.ts).drop k) (inG g w)))) []):zae [.d (zgw t),.d (zdU g),.d (.int w)] [] R:=by
 refine zd6 (by have:=gd.len ho ht hr; omega) ?_
 rw [gd.fw]
 exact q
theorem zlF {ps:List Part} {g:Gap} {k:Nat} {w:Int} (ho:Ord ps) (hb:Bnd ps) (h8:ps.length <= 8):0 <= fw ((zv ps g.ts).drop k) (inG g w)/\fw ((zv ps g.ts).drop k) (inG g w) < 2 ^ 1700:=by
 have h1:=zeP (fun x=>(zgO g w x).1) ((zv ps g.ts).drop k)
 have h2:=zjs ((zv ps g.ts).drop k) (f:=inG g w) (g:=fun _=>1) fun x=>(zgO g w x).2
 have h3:=zo2 (ts:=g.ts) ho hb h8 k
 exact ⟨h1,by omega⟩
theorem zrq {ts:List Term} {n:Nat} (ht:Tms n ts) (k:Nat):(zcR ts k = 0/\lkA (zbs (tmT ts)) (Sum.inl (k:Int)) = none)\/(zcR ts k ≠ 0/\lkA (zbs (tmT ts)) (Sum.inl (k:Int)) = some (.int (zcR ts k))):=by
 by_cases hk:(k:Int) ∈ kys (tmT ts)
 ·refine .inr ⟨?_,zs0 hk (zgs ht.srt)⟩
  rw [zhE] at hk
  obtain ⟨t,mt,e⟩:=List.mem_map.mp hk
  have:=zkh (zgs ht.srt) (p:=((t.1:Int),t.2)) (List.mem_map.mpr ⟨t,mt,rfl⟩)
  unfold zcR
  rw [<- e,this]
  exact (ht.ok t mt).2.1
 ·refine .inl ⟨zcc hk,?_⟩
  unfold lkA
  rw [Option.map_eq_none_iff,List.find?_eq_none]
  intro x m e
  obtain ⟨p,mp,rfl⟩:=List.mem_map.mp m
  have:p.1 = (k:Int):=by simpa using e
  exact hk (this ▸ zhq mp)
theorem znM {E:DEnds} {δ:XE} {S:Sto} {i j:Nat} {L:List PyData} (h:δ[i]? = some (some (.d (.tuple L)))) (q:∀ n:Int,n = (L.length:Int) - 1->E.nx (δ.set j (some (.d (.int n)))) S):zam (dOp (dI0 fun i j=>i - j) (dCB zcK (ze (zn i) zB)) (dC (.int 1))) (zo j) E δ S:=⟨_,h,L.length,rfl,q _ rfl⟩
theorem zeR {ps:List Part} {g:Gap} {b:List Int} {v:Int} {t:Tal} (ho:Ord ps) (hb:Bnd ps) (h8:ps.length <= 8) (ht:Tms ps.length g.ts) (hr:zaA ps g.ts - zV ps g.ts < 400) (hl:b.length < ps.length) (gd:Gd ps g.ts (b.length + 1) t) (v1:plo ps b.length <= v) (v2:v <= phi ps b.length)
  (q:R (.d (.int (rsum (plo ps b.length) (v - plo ps b.length).toNat (ahd ps g b)))) []):za0 [.d (zcs ps),.d (zdU g),.d (zct (b ++ [v])),.d (zgw t)] [] R:=by
 have l1:=ht.len
 have bp:=hb _ (zbq hl)
 have eb:(part ps b.length).2.1 = plo ps b.length:=rfl
 have eb2:(part ps b.length).2.2 = phi ps b.length:=rfl
 rw [eb,eb2] at bp
 have es:zct (b ++ [v]) = .tuple ((b ++ [v]).map PyData.int):=rfl
 have ev:atI ((b ++ [v]).map PyData.int) (b.length:Int) = some (.int v):=zbl (by rw [List.getElem?_concat_length])
 have hcl:zeu ((b ++ [v]).map PyData.int) none (some (b.length:Int)) = b.map PyData.int:=by
  rw [zoI (by simp)]
  rw [List.map_append,List.take_left' (by simp)]
 have hLl:((b ++ [v]).map PyData.int).length = b.length + 1:=by simp
 have hnw:¬ (HT.sIx ((b ++ [v]).map PyData.int).length 0 none = 0/\HT.sIx ((b ++ [v]).map PyData.int).length ((b ++ [v]).map PyData.int).length (some (b.length:Int)) = ((b ++ [v]).map PyData.int).length):=by
  rw [hLl,HT.sIx_nat]
  omega
 unfold za0
 rw [es,zcs,zcb,zjP]
 generalize (b ++ [v]).map PyData.int = L at ev hcl hLl hnw ⊢
 walk_at "d"
 refine seq1 (znM rfl fun n en=>?_)
 obtain rfl:n = (b.length:Int):=by omega
 walk_at "d"
 (refine seq1 ?_; walk_at "d")
 refine ⟨_,zbl (zds hl),?_⟩
 rw [zg7,eb]
 walk_at "d"
 refine seq1 ?_
 walk_at "d"
 refine ⟨zbs (tmT g.ts),by unfold zbs tmT; rw [List.map_map,List.map_map]; rfl,by simp [zbs,tmT]; omega,?_⟩
 rw [zfD (zha (zgs ht.srt))]
 (refine seq1 ?_; walk_at "d")
 refine ⟨hnw,?_⟩
 rw [hcl]
 refine zbM (ps:=ps) (g:=g) (b:=b) h8 ht (by omega) ?_
 walk_at "d"
 refine seq1 ?_
 walk_at "d"
 rcases zrq ht b.length with ⟨h0,hn⟩ | ⟨h0,hn⟩
 ·refine ⟨.k (zbs (tmT g.ts)),none,.inr ⟨_,rfl,rfl⟩,?_,?_⟩
  ·show some (lkA (zbs (tmT g.ts)) (Sum.inl (b.length:Int))) = _
   rw [hn]
  walk_at "d"
  refine ⟨_,ev,?_⟩
  walk_at "d"
  refine zdA (g:=g) ho ht hr gd ?_
  walk_at "d"
  have hbd:=zlF (g:=g) (k:=b.length + 1) (w:=wR (zv ps g.ts) b) ho hb h8
  refine ⟨zp4 200 1700 (by omega) (by omega),?_⟩
  have ea:ahd ps g b = fun _=>fw ((zv ps g.ts).drop (b.length + 1)) (inG g (wR (zv ps g.ts) b)):=by
   funext u
   unfold ahd
   rw [h0,Int.zero_mul,Int.add_zero]
  rw [ea,zbj,Int.toNat_of_nonneg (by omega)] at q
  exact q
 ·refine ⟨.k (zbs (tmT g.ts)),some (.int (zcR g.ts b.length)),.inr ⟨_,rfl,rfl⟩,?_,?_⟩
  ·show some (lkA (zbs (tmT g.ts)) (Sum.inl (b.length:Int))) = _
   rw [hn]
  have hw:=zov ho ht hr hl h0
  have ht3:-3 <= zcR g.ts b.length/\zcR g.ts b.length <= 3:=by
   rcases zi7 ht b.length with z | ⟨u,mu,_,e⟩
   ·exact absurd z h0
   ·rw [e]; exact (ht.ok u mu).2.2
  walk_at "d"
  refine ⟨_,ev,?_⟩
  walk_at "d"
  refine cmp1 (S0:=[]) (fun k:Nat=>PyData.int (ahd ps g b (plo ps b.length + k))) rfl (List.range (v - plo ps b.length).toNat) (by rw [List.length_range]; omega) ?_ ?_
  ·intro k mk u acc R' hk
   walk_at "d"
   refine ⟨.k (zbs (tmT g.ts)),_,.inr ⟨_,rfl,rfl⟩,congrArg some hn,?_⟩
   walk_at "d"
   refine ⟨zcC (by omega) (by omega),?_⟩
   walk_at "d"
   refine zdA (g:=g) ho ht hr gd ?_
   walk_at "d"
   exact hk _
  refine ⟨[],_,rfl,rfl,?_⟩
  walk_at "d"
  refine ⟨(List.range (v - plo ps b.length).toNat).map fun k:Nat=>ahd ps g b (plo ps b.length + k),by rw [List.map_map]; rfl,?_⟩
  exact q
theorem zsn {n:Nat} {ts:List Term} (ht:Tms n ts) (k:Nat):-3 <= zcR ts k/\zcR ts k <= 3:=by
 rcases zi7 ht k with z | ⟨u,mu,_,e⟩
 ·rw [z]; decide
 ·rw [e]; exact (ht.ok u mu).2.2
theorem ziZ {ps:List Part} {g:Gap} {b:List Int} {left:Int} {t:Tal} (ho:Ord ps) (hb:Bnd ps) (h8:ps.length <= 8) (ht:Tms ps.length g.ts) (hr:zaA ps g.ts - zV ps g.ts < 400) (hl:b.length < ps.length) (gd:Gd ps g.ts (b.length + 1) t) (l0:0 <= left) (l1:left < rsum (plo ps b.length) (cnt (plo ps b.length) (phi ps b.length)) (ahd ps g b))
  (q:∀ v,plo ps b.length <= v->v <= phi ps b.length->rsum (plo ps b.length) (v - plo ps b.length).toNat (ahd ps g b) <= left->left < rsum (plo ps b.length) ((v - plo ps b.length).toNat + 1) (ahd ps g b)->R (.d (.int v)) []):zco [.d (zcs ps),.d (zdU g),.d (zct b),.d (zgw t),.d (.int left)] [] R:=by
 have hl2:=ht.len
 have o:plo ps b.length <= phi ps b.length:=ho _ (zbq hl)
 have eb:(part ps b.length).2.1 = plo ps b.length:=rfl
 have eb2:(part ps b.length).2.2 = phi ps b.length:=rfl
 have ec:(phi ps b.length + 1 - plo ps b.length).toNat = cnt (plo ps b.length) (phi ps b.length):=by unfold cnt; congr 1; omega
 have hcn:((cnt (plo ps b.length) (phi ps b.length):Nat):Int) = phi ps b.length - plo ps b.length + 1:=by unfold cnt; omega
 unfold zco
 rw [zcs,zcb,zjP,zct]
 walk_at "d"
 (refine seq1 ?_; walk_at "d")
 (refine seq1 ?_; walk_at "d")
 refine ⟨_,zbl (zds hl),?_⟩
 walk_at "d"
 refine ze3 ?_
 rw [eb,eb2]
 walk_at "d"
 refine seq1 ?_
 walk_at "d"
 refine ⟨zbs (tmT g.ts),by unfold zbs tmT; rw [List.map_map,List.map_map]; rfl,by simp [zbs,tmT]; omega,?_⟩
 rw [zfD (zha (zgs ht.srt))]
 (refine seq1 ?_; walk_at "d")
 refine zbM (ps:=ps) (g:=g) (b:=b) h8 ht (by omega) ?_
 walk_at "d"
 refine seq1 ?_
 walk_at "d"
 have ht3:=zsn ht b.length
 rcases zrq ht b.length with ⟨h0,hn⟩ | ⟨h0,hn⟩
 ·refine ⟨.k (zbs (tmT g.ts)),none,.inr ⟨_,rfl,rfl⟩,?_,?_⟩
  ·show some (lkA (zbs (tmT g.ts)) (Sum.inl (b.length:Int))) = _
   rw [hn]
  unfold spD
  walk_at "d"
  refine zdA (g:=g) ho ht hr gd ?_
  walk_at "d"
  have hbd:=zlF (g:=g) (k:=b.length + 1) (w:=wR (zv ps g.ts) b) ho hb h8
  have ea:ahd ps g b = fun _=>fw ((zv ps g.ts).drop (b.length + 1)) (inG g (wR (zv ps g.ts) b)):=by
   funext u
   unfold ahd
   rw [h0,Int.zero_mul,Int.add_zero]
  rw [ea] at l1 q
  generalize fw ((zv ps g.ts).drop (b.length + 1)) (inG g (wR (zv ps g.ts) b)) = c at *
  rw [zbj] at l1
  have hc:0 < c:=by
   rcases Int.lt_or_eq_of_le hbd.1 with h | h
   ·exact h
   ·rw [<- h,Int.mul_zero] at l1
    omega
  have d0:=Int.ediv_nonneg l0 (Int.le_of_lt hc)
  have d1:left / c < cnt (plo ps b.length) (phi ps b.length):=Int.ediv_lt_of_lt_mul hc l1
  have d2:=Int.emod_add_mul_ediv left c
  have d3:=Int.emod_nonneg left (show c ≠ 0 by omega)
  have d4:=Int.emod_lt_of_pos left hc
  refine .inl ⟨⟨hc,?_⟩,?_⟩
  ·have:=zdT hc hbd.2
   omega
  ·refine q _ (by omega) (by omega) ?_ ?_
   ·rw [zbj,show ((plo ps b.length + left / c - plo ps b.length).toNat:Int) = left / c by omega,Int.mul_comm]
    omega
   ·rw [zbj,Int.natCast_add,show ((plo ps b.length + left / c - plo ps b.length).toNat:Int) = left / c by omega,Int.add_mul,Int.mul_comm]
    omega
 ·refine ⟨.k (zbs (tmT g.ts)),some (.int (zcR g.ts b.length)),.inr ⟨_,rfl,rfl⟩,?_,?_⟩
  ·show some (lkA (zbs (tmT g.ts)) (Sum.inl (b.length:Int))) = _
   rw [hn]
  unfold spD
  walk_at "d"
  rw [ec]
  refine za4 (fun i δ S=>∃ (u9 u10:Option XV),rsum (plo ps b.length) i (ahd ps g b) <= left/\S = []/\δ = [some (.d (.tuple (ps.map zev))),some (.d (.tuple [.tuple (g.ts.map tmD),.int g.lo,.int g.hi])),some (.d (.tuple (b.map PyData.int))),some (.d (zgw t)),some (.d (.int (left - rsum (plo ps b.length) i (ahd ps g b)))),some (.d (.int b.length)),some (.d (.tuple [.int (plo ps b.length),.int (phi ps b.length)])),some (.d (.dict (DD.pairs (.k (zbs (tmT g.ts)))))),some (.d (.int (wR (zv ps g.ts) b))),u9,u10]) ⟨_,_,by rw [zez]; exact l0,rfl,by rw [zez,Int.sub_zero]⟩ ?_ ?_
  ·rintro i d _ _ N hi ⟨u9,u10,hs,rfl,rfl⟩ hN
   obtain ⟨hi',rfl⟩:=zbx hi
   walk_at "d"
   refine seq1 ?_
   walk_at "d"
   refine ⟨.k (zbs (tmT g.ts)),_,.inr ⟨_,rfl,rfl⟩,congrArg some hn,?_⟩
   walk_at "d"
   refine ⟨zcC (by omega) (by omega),?_⟩
   walk_at "d"
   refine zdA (g:=g) ho ht hr gd ?_
   walk_at "d"
   have ea:fw ((zv ps g.ts).drop (b.length + 1)) (inG g (wR (zv ps g.ts) b + zcR g.ts b.length * (plo ps b.length + i))) = ahd ps g b (plo ps b.length + i):=rfl
   rw [ea]
   have hsc:=zaF (plo ps b.length) i (ahd ps g b)
   refine seq1 ?_
   walk_at "d"
   by_cases hlt:left - rsum (plo ps b.length) i (ahd ps g b) < ahd ps g b (plo ps b.length + i)
   ·rw [if_pos hlt]
    refine q _ (by omega) (by omega) ?_ ?_
    ·rw [show (plo ps b.length + (i:Int) - plo ps b.length).toNat = i by omega]
     exact hs
    ·rw [show (plo ps b.length + (i:Int) - plo ps b.length).toNat = i by omega,hsc]
     omega
   ·rw [if_neg hlt]
    walk_at "d"
    have e5:left - rsum (plo ps b.length) i (ahd ps g b) - ahd ps g b (plo ps b.length + i) = left - rsum (plo ps b.length) (i + 1) (ahd ps g b):=by rw [hsc]; omega
    rw [e5]
    exact hN _ _ ⟨_,_,by rw [hsc]; omega,rfl,rfl⟩
  ·rintro _ _ ⟨u9,u10,hs,rfl,rfl⟩
   rw [zaa] at hs
   omega
theorem zma {ps:List Part} {g:Gap} {b:List Int} {v:Int} (hl:b.length < ps.length):bef (zv ps g.ts) (b ++ [v]) (inG g 0) = bef (zv ps g.ts) b (inG g 0) + rsum (plo ps b.length) (v - plo ps b.length).toNat (ahd ps g b):=by
 rw [zky _ b v _ _ (zi5 hl)]
 congr 1
 show rsum (plo ps b.length) (v - plo ps b.length).toNat _ = _
 refine zb7 fun u _ _=>?_
 unfold ahd
 congr 1
 funext w
 show inG g 0 (w + zcR g.ts b.length * u + wR (zv ps g.ts) b) = _
 rw [zjx g (wR (zv ps g.ts) b + zcR g.ts b.length * u) w]
 congr 1
 omega
def nbr (ps:List Part) (g:Gap) (one:List Int):Int:=bef (zv ps g.ts) one (inG g 0)
theorem zmv {ps:List Part} {g:Gap} {one:List Int} (hl:one.length = ps.length):∀ n,n <= ps.length->((List.range n).map fun k:Nat=>rsum (plo ps k) (one.getD k 0 - plo ps k).toNat (ahd ps g (one.take k))).sum = nbr ps g (one.take n)
 | 0,_=>by
  unfold nbr
  rw [List.take_zero]
  cases zv ps g.ts <;> rfl
 | n + 1,h=>by
  have hn:n < one.length:=by omega
  have et:one.take (n + 1) = one.take n ++ [one.getD n 0]:=zjy (zf5 hn)
  have el:(one.take n).length = n:=by rw [List.length_take]; omega
  rw [List.range_succ,List.map_append,List.sum_append,zmv hl n (by omega),et]
  unfold nbr
  rw [zma (by rw [el]; omega),el]
  simp
theorem zhI {ps:List Part} {g:Gap} {one:List Int} {T:List Tal} (ho:Ord ps) (hb:Bnd ps) (h8:ps.length <= 8) (ht:Tms ps.length g.ts) (hr:zaA ps g.ts - zV ps g.ts < 400) (hT:T.length = ps.length + 1) (hG:∀ k t,T[k]? = some t->Gd ps g.ts k t) (hbx:InBox ps one) (q:R (.d (.int (nbr ps g one))) []) :
  ∃ n:Nat,zq2 [] (.d (zcs ps)) = some n/\zfo 0 (zo 0) za5 (zaf 4 za0 (ze (zn 1) (ze (zn 2) (ze (dSl zrg (zn 3) zbR (zfs (dOp zbm (zn 0) (dC (.int 1))))) (ze (dOp dIx (zn 4) (dOp zbm (zn 0) (dC (.int 1)))) zB))))) (fun S2=>∃ S0 acc,S2 = S0 ++ [acc]/\List.length S0 = 0/\∃ ns:List Int,acc = ns.map PyData.int/\R (.d (.int ns.sum)) []) (zi2 0 (n:Int).toNat) [none,some (.d (zcs ps)),some (.d (zdU g)),some (.d (zct one)),some (.d (.list (T.map zgw)))] [[]]:=by
 have hl:=hbx.len
 have ed:zcs ps = .tuple (ps.map zev):=rfl
 refine ⟨ps.length,by rw [ed,zjJ,List.length_map],?_⟩
 refine cmp1 (S0:=[]) (fun k:Nat=>PyData.int (rsum (plo ps k) (one.getD k 0 - plo ps k).toNat (ahd ps g (one.take k)))) rfl (List.range ps.length) (by rw [List.length_range]; omega) ?_ ?_
 ·intro k mk u acc R' hk
  have hkl:=List.mem_range.mp mk
  have hko:k < one.length:=by omega
  have e0:(0:Int) + (k:Int) + 1 = ((k + 1:Nat):Int):=by omega
  have es:zct one = .tuple (one.map PyData.int):=rfl
  have et:one.take (k + 1) = one.take k ++ [one.getD k 0]:=zjy (zf5 hko)
  have eln:(one.take k).length = k:=by rw [List.length_take]; omega
  have eT:=List.getElem?_eq_getElem (l:=T) (i:=k + 1) (by omega)
  have gd:=hG (k + 1) _ eT
  rw [es]
  walk_at "d"
  rw [e0]
  refine ⟨_,zbl eT,?_⟩
  walk_at "d"
  rw [zoI (by simp; omega),<- List.map_take,et]
  refine zeR (ps:=ps) (g:=g) (b:=one.take k) (v:=one.getD k 0) ho hb h8 ht hr (by rw [eln]; omega) (by rw [eln]; exact gd) (by rw [eln]; exact (hbx.ok k hkl).1) (by rw [eln]; exact (hbx.ok k hkl).2) ?_
  walk_at "d"
  rw [eln]
  exact hk _
 refine ⟨[],_,rfl,rfl,?_⟩
 refine ⟨(List.range ps.length).map fun k:Nat=>rsum (plo ps k) (one.getD k 0 - plo ps k).toNat (ahd ps g (one.take k)),by rw [List.map_map]; rfl,?_⟩
 rw [zmv hl ps.length (Nat.le_refl _),List.take_of_length_le (by omega)]
 exact q
theorem zfk {ps:List Part} {g:Gap} {one:List Int} (ho:Ord ps) (hb:Bnd ps) (h8:ps.length <= 8) (ht:Tms ps.length g.ts) (hr:zaA ps g.ts - zV ps g.ts < 400) (hbx:InBox ps one) (hk:zaG g one = true) (q:R (.d (.int (nbr ps g one))) []):zcd [.d (zcs ps),.d (zdU g),.d (zct one)] [] R:=by
 unfold zcd
 walk_at "d"
 (refine seq1 ?_; walk_at "d")
 refine zcW ho hb h8 ht hr fun T hT hG=>?_
 walk_at "d"
 refine seq1 ?_
 walk_at "d"
 refine zlx (by omega) ?_
 rw [zkD.mpr ⟨one,rfl,hbx⟩]
 walk_at "d"
 refine zoD (by rw [hbx.len]; exact ht.tm3 h8) ?_
 rw [hk]
 walk_at "d"
 refine zhI ho hb h8 ht hr hT hG hbx ?_
 walk_at "d"
 exact q
theorem zsP {ps:List Part} {g:Gap} {b:List Int} (hl:b.length < ps.length):fw ((zv ps g.ts).drop b.length) (inG g (wR (zv ps g.ts) b)) = rsum (plo ps b.length) (cnt (plo ps b.length) (phi ps b.length)) (ahd ps g b):=by
 rw [zei hl]
 show (rsum (plo ps b.length) (cnt (plo ps b.length) (phi ps b.length)) fun x=>fw ((zv ps g.ts).drop (b.length + 1)) fun w=>inG g (wR (zv ps g.ts) b) (w + zcR g.ts b.length * x)) = _
 refine zb7 fun u _ _=>?_
 unfold ahd
 congr 1
 funext w
 rw [zjx g (wR (zv ps g.ts) b),zjx g (wR (zv ps g.ts) b + _)]
 congr 1
 omega
def ztN (ps:List Part):DEnds->XE->Sto->Prop:=(zhV (zaS (ze (dCB zcK (ze (zn 0) zB)) zB)) (zo 6) (zZ (zam (zaf 5 zco (ze (zn 0) (ze (zn 1) (ze (zn 4) (ze (dOp dIx (zn 3) (dOp zbm (zn 6) (dC (.int 1)))) (ze (zn 5) zB)))))) (zo 7)) (zZ (zam (dOp zbm (zn 4) (zg8 (ze (zn 7) zB))) (zo 4)) (zam (dOp (dI0 fun i j=>i - j) (zn 5) (zaf 4 za0 (ze (zn 0) (ze (zn 1) (ze (zn 4) (ze (dOp dIx (zn 3) (dOp zbm (zn 6) (dC (.int 1)))) zB)))))) (zo 5)))))
theorem zjz {E:DEnds} {ps:List Part} {g:Gap} {n:Int} {T:List Tal} {u6 u7:Option XV} (ho:Ord ps) (hb:Bnd ps) (h8:ps.length <= 8) (ht:Tms ps.length g.ts) (hr:zaA ps g.ts - zV ps g.ts < 400) (hT:T.length = ps.length + 1) (hG:∀ k t,T[k]? = some t->Gd ps g.ts k t) (n0:0 <= n) (n1:n < zdY ps g)
  (q:∀ one u5 u6 u7,InBox ps one->zaG g one = true->nbr ps g one = n->E.nx [some (.d (zcs ps)),some (.d (zdU g)),some (.d (.int n)),some (.d (.list (T.map zgw))),some (.d (zct one)),u5,u6,u7] []) :
  ztN ps E [some (.d (zcs ps)),some (.d (zdU g)),some (.d (.int n)),some (.d (.list (T.map zgw))),some (.d (.tuple [])),some (.d (.int n)),u6,u7] []:=by
 have ed:zcs ps = .tuple (ps.map zev):=rfl
 have en:∀ S':Sto,zq2 S' (.d (zcs ps)) = some ps.length:=fun S'=>by rw [ed,zjJ,List.length_map]
 unfold ztN
 walk_at "d"
 refine ⟨ps.length,en _,?_⟩
 refine za4 (fun i δ S=>∃ (b:List Int) (u6 u7:Option XV),b.length = i/\(∀ k,k < i->plo ps k <= b.getD k 0/\b.getD k 0 <= phi ps k)/\0 <= n - nbr ps g b/\n - nbr ps g b < fw ((zv ps g.ts).drop i) (inG g (wR (zv ps g.ts) b))/\S = []/\δ = [some (.d (zcs ps)),some (.d (zdU g)),some (.d (.int n)),some (.d (.list (T.map zgw))),some (.d (zct b)),some (.d (.int (n - nbr ps g b))),u6,u7]) ⟨[],u6,u7,rfl,fun k h=>by omega,?_,?_,rfl,?_⟩ ?_ ?_
 ·have:nbr ps g [] = 0:=by unfold nbr; cases zv ps g.ts <;> rfl
  omega
 ·have e1:nbr ps g [] = 0:=by unfold nbr; cases zv ps g.ts <;> rfl
  have e2:wR (zv ps g.ts) [] = 0:=by cases zv ps g.ts <;> rfl
  rw [e1,e2,List.drop_zero]
  unfold zdY at n1
  omega
 ·have e1:nbr ps g [] = 0:=by unfold nbr; cases zv ps g.ts <;> rfl
  rw [e1,Int.sub_zero]
  rfl
 ·rintro i d _ _ N hii ⟨b,u6,u7,hbl,hbx,h0,h1,rfl,rfl⟩ hN
  obtain ⟨hi',rfl⟩:=zbx hii
  have hi2:i < ps.length:=by omega
  subst hbl
  have eT:=List.getElem?_eq_getElem (l:=T) (i:=b.length + 1) (by omega)
  have gd:=hG _ _ eT
  have e0:(0:Int) + (b.length:Int) + 1 = ((b.length + 1:Nat):Int):=by omega
  rw [zsP hi2] at h1
  walk_at "d"
  refine seq1 ?_
  walk_at "d"
  rw [e0]
  refine ⟨_,zbl eT,?_⟩
  walk_at "d"
  refine ziZ (g:=g) (b:=b) ho hb h8 ht hr hi2 gd h0 h1 fun v v1 v2 v3 v4=>?_
  have es:zct b = .tuple (b.map PyData.int):=rfl
  rw [es]
  walk_at "d"
  refine seq1 ?_
  walk_at "d"
  refine ⟨by omega,?_⟩
  walk_at "d"
  have es2:PyData.tuple (b.map PyData.int ++ [.int v]) = zct (b ++ [v]):=by unfold zct; rw [List.map_append]; rfl
  rw [es2,e0]
  refine ⟨_,zbl eT,?_⟩
  walk_at "d"
  refine zeR (g:=g) (b:=b) (v:=v) ho hb h8 ht hr hi2 gd v1 v2 ?_
  walk_at "d"
  have ea:=zma (g:=g) (v:=v) hi2
  have ea2:nbr ps g (b ++ [v]) = nbr ps g b + rsum (plo ps b.length) (v - plo ps b.length).toNat (ahd ps g b):=ea
  have hsc:=zaF (plo ps b.length) (v - plo ps b.length).toNat (ahd ps g b)
  rw [show plo ps b.length + ((v - plo ps b.length).toNat:Int) = v by omega] at hsc
  have e7:n - nbr ps g b - rsum (plo ps b.length) (v - plo ps b.length).toNat (ahd ps g b) = n - nbr ps g (b ++ [v]):=by rw [ea2]; omega
  rw [e7]
  have ew:wR (zv ps g.ts) (b ++ [v]) = wR (zv ps g.ts) b + zcR g.ts b.length * v:=zjh _ b v _ (zi5 hi2)
  refine hN _ _ ⟨b ++ [v],_,_,by simp,fun k hk=>?_,by omega,?_,rfl,rfl⟩
  ·by_cases hkb:k < b.length
   ·have:=hbx k hkb
    rw [List.getD_eq_getElem?_getD,List.getElem?_append_left hkb,<- List.getD_eq_getElem?_getD]
    exact this
   ·have:k = b.length:=by omega
    subst this
    rw [List.getD_eq_getElem?_getD,List.getElem?_concat_length]
    exact ⟨v1,v2⟩
  ·rw [ew]
   show _ < ahd ps g b v
   omega
 ·rintro _ _ ⟨b,u6,u7,hbl,hbx,h0,h1,rfl,rfl⟩
  rw [zaa] at hbl h1
  have hbl2:b.length = ps.length:=by omega
  have hbox:InBox ps b:=⟨hbl2,fun k hk=>hbx k (by rw [zaa]; omega)⟩
  have ed2:(zv ps g.ts).drop ((ps.length:Int)).toNat = []:=List.drop_of_length_le (by rw [zca]; omega)
  rw [ed2,zeJ ht hbl2] at h1
  have h1':n - nbr ps g b < inG g (worth g.ts b) 0:=h1
  have hkp:zaG g b = true/\inG g (worth g.ts b) 0 = 1:=by
   unfold inG at h1' ⊢
   unfold zaG
   split at h1'
   ·rename_i hin
    rw [if_pos hin]
    simp only [Int.add_zero] at hin
    exact ⟨by simp [hin.1,hin.2],rfl⟩
   ·omega
  rw [hkp.2] at h1'
  exact q b _ _ _ hbox hkp.1 (by omega)
theorem zjZ {ps:List Part} {g:Gap} {n:Int} (ho:Ord ps) (hb:Bnd ps) (h8:ps.length <= 8) (ht:Tms ps.length g.ts) (hr:zaA ps g.ts - zV ps g.ts < 400) (n0:0 <= n) (n1:n < zdY ps g) (q:∀ one,InBox ps one->zaG g one = true->nbr ps g one = n->R (.d (zct one)) []):zjg [.d (zcs ps),.d (zdU g),.d (.int n)] [] R:=by
 unfold zjg
 walk_at "d"
 (refine seq1 ?_; walk_at "d")
 refine zcW ho hb h8 ht hr fun T hT hG=>?_
 have eT:=List.getElem?_eq_getElem (l:=T) (i:=0) (by omega)
 have gd:=hG _ _ eT
 walk_at "d"
 refine seq1 ?_
 walk_at "d"
 refine zfn ?_
 simp only [zeW]
 walk_at "d"
 rw [if_pos n0]
 refine ⟨_,zcV (j:=0) (by rw [List.getElem?_map,eT]; rfl),?_⟩
 walk_at "d"
 refine zdA ho ht hr gd ?_
 rw [List.drop_zero]
 unfold zdY at n1
 walk_at "d"
 rw [if_neg (by omega)]
 (refine seq1 ?_; walk_at "d")
 (refine seq1 ?_; walk_at "d")
 refine cut (fun δ S=>∃ one u5 u6 u7,InBox ps one/\zaG g one = true/\nbr ps g one = n/\S = []/\δ = [some (.d (zcs ps)),some (.d (zdU g)),some (.d (.int n)),some (.d (.list (T.map zgw))),some (.d (zct one)),u5,u6,u7]) (fun N hN=>?_) ?_
 ·exact zjz ho hb h8 ht hr hT hG n0 n1 fun one u5 u6 u7 h1 h2 h3=>hN _ _ ⟨one,u5,u6,u7,h1,h2,h3,rfl,rfl⟩
 ·rintro _ _ ⟨one,u5,u6,u7,h1,h2,h3,rfl,rfl⟩
  walk_at "d"
  exact q one h1 h2 h3
end
section
variable {R:RX} {S:Sto}
theorem Drw.bnd {ps:List Part} (h:Drw ps):Bnd ps:=fun p m=>by
 have:=h.all p m
 have h1:=this.lo
 have h2:=this.hi
 have e1:(10:Int) ^ 58 < 2 ^ 195:=by decide +kernel
 have e2:(10:Int) ^ 59 < 2 ^ 197:=by decide +kernel
 have e3:(2:Int) ^ 195 + 2 ^ 197 + 1 < 2 ^ 200:=by decide +kernel
 omega
structure Wid (ws:List Int):Prop where
 l1:1 <= ws.length
 l8:ws.length <= 8
 ok:∀ x ∈ ws,1 <= x/\x <= 400
theorem zgJ {ws:List Int} (h:(decide (1 <= ws.length) && decide (ws.length <= 8) && ws.all fun x=>decide (1 <= x/\x <= 400)) = true):Wid ws:=by
 simp only [Bool.and_eq_true,decide_eq_true_eq,List.all_eq_true] at h
 exact ⟨h.1.1,h.1.2,h.2⟩
theorem zgC {p:List PyData} (hp:za1 p) (q:∀ (ps:List Part) p',Drw ps->(∀ p ∈ ps,p.2.1 <= 10 ^ 58)->za1 p'->R (.d (zcs ps)) [p']):zbZ [.l 0] [p] R:=by
 unfold zbZ
 walk_at "d"
 (refine seq1 ?_; walk_at "d")
 refine zia hp fun ns p1 hn hz hp1=>?_
 walk_at "d"
 (refine seq1 ?_; walk_at "d")
 refine zF hp1 (by decide) (by decide +kernel) fun r p2 r0 r1 hp2=>?_
 walk_at "d"
 refine ztr (α:=Int) (fun x=>1 <= x/\x <= 4) PyData.int (fun τ=>∃ u,τ = [u,some (.l 0)]) _ [] p2 _ ⟨_,rfl⟩ hp2 (by rw [zaa]; simp; omega) ?_ ?_
 ·rintro d md _ p acc R' ⟨u,rfl⟩ hp hk
  walk_at "d"
  refine zF hp (by decide) (by decide +kernel) fun r p' r0 r1 hp'=>?_
  walk_at "d"
  exact hk _ _ p' ⟨_,rfl⟩ hp' ⟨by omega,by omega⟩
 ·intro ws p3 hp3 hw hl
  rw [zaa] at hl
  have hws:Wid ws:=⟨by omega,by omega,fun x m=>by have:=hw x m; omega⟩
  rw [List.nil_append]
  walk_at "d"
  refine cut (fun δ S=>∃ (p:List PyData) (ws:List Int),za1 p/\Wid ws/\S = [p]/\δ = [some (.l 0),some (.d (.list (ns.map PyData.str))),some (.d (.list (ws.map PyData.int))),none,none,none]) (fun N hN=>?_) ?_
  ·walk_at "d"
   refine zF hp3 (by decide) (by decide +kernel) fun r4 p4 r40 r41 hp4=>?_
   walk_at "d"
   split
   ·walk_at "d"
    refine zF hp4 (by decide) (by decide +kernel) fun r5 p5 r6 r7 hp5=>?_
    obtain ⟨d,ed,ws',rfl,hw'⟩:=zmq (P:=fun d=>∃ ws:List Int,d = .list (ws.map PyData.int)/\Wid ws) (ds:=[PyData.list [.int 400],.list [.int 134],.list [.int 200],.list [.int 60,.int 7,.int 1],.list (List.replicate 8 [PyData.int 2]).flatten,.list [.int 1,.int 100]]) r6 r7 (by
     intro d m
     simp only [List.mem_cons,List.not_mem_nil,or_false] at m
     rcases m with rfl | rfl | rfl | rfl | rfl | rfl
     ·exact ⟨[400],rfl,zgJ (by decide)⟩
     ·exact ⟨[134],rfl,zgJ (by decide)⟩
     ·exact ⟨[200],rfl,zgJ (by decide)⟩
     ·exact ⟨[60,7,1],rfl,zgJ (by decide)⟩
     ·exact ⟨[2,2,2,2,2,2,2,2],rfl,zgJ (by decide)⟩
     ·exact ⟨[1,100],rfl,zgJ (by decide)⟩)
    walk_at "d"
    refine ⟨_,ed,hN _ _ ⟨p5,ws',hp5,hw',rfl,rfl⟩⟩
   ·exact hN _ _ ⟨p4,ws,hp4,hws,rfl,rfl⟩
  rintro _ _ ⟨p,ws,hp,hws,rfl,rfl⟩
  have w8:=hws.l8
  have w1:=hws.l1
  (refine seq1 ?_; walk_at "d")
  refine seq1 ?_
  walk_at "d"
  refine za4 (fun i δ S=>∃ (p:List PyData) (ps:List Part) (u1 u2:Option XV),za1 p/\ps.length = i/\(∀ p ∈ ps,Prt p/\p.2.1 <= 10 ^ 58)/\S = [p,ps.map zev]/\δ = [some (.l 0),some (.d (.list (ns.map PyData.str))),some (.d (.list (ws.map PyData.int))),some (.l 1),u1,u2]) ⟨p,[],_,_,hp,rfl,by simp,rfl,rfl⟩ ?_ ?_
  ·rintro i d _ _ N hi ⟨p,ps,u1,u2,hp,hl,ha,rfl,rfl⟩ hN
   obtain ⟨hi',rfl⟩:=zbx hi
   have iw:i < ws.length:=by simpa using hi'
   have i8:i < ns.length:=by omega
   have e:=zbl (f:=PyData.str) (List.getElem?_eq_getElem i8)
   have ew:=zbl (f:=PyData.int) (List.getElem?_eq_getElem iw)
   have wb:=hws.ok _ (List.getElem_mem iw)
   have e0:(0:Int) + (i:Int) = (i:Int):=by omega
   walk_at "d"
   (refine seq1 ?_; walk_at "d")
   refine zhA hp fun lo p3 h1 h2 hp3=>?_
   walk_at "d"
   rw [e0]
   refine ⟨_,e,?_⟩
   walk_at "d"
   refine ⟨_,ew,?_⟩
   walk_at "d"
   refine ⟨by omega,hN _ _ ⟨p3,ps ++ [(ns[i],lo,lo + ws[i] - 1)],_,_,hp3,by simp [hl],fun x hx=>?_,by simp [zev],rfl⟩⟩
   rcases List.mem_append.mp hx with hx | hx
   ·exact ha x hx
   ·rw [List.mem_singleton.mp hx]
    exact ⟨⟨hz _ (List.getElem_mem i8),by simp only; omega,h1,by simp only; omega⟩,h2⟩
  ·rintro _ _ ⟨p,ps,u1,u2,hp,hl,ha,rfl,rfl⟩
   rw [zaa] at hl
   walk_at "d"
   exact q ps p ⟨by omega,by omega,fun x m=>(ha x m).1⟩ (fun x m=>(ha x m).2) hp
def znt (ts:List Term):PyData:=.list (ts.map fun t:Term=>PyData.int t.1)
theorem zoH {ts:List Term} {k:Nat}:((ts.map fun t:Term=>PyData.int t.1).any fun y=>PyData.eqv y (.int (k:Int))) = decide (∃ t ∈ ts,t.1 = k):=by
 rw [Bool.eq_iff_iff]
 simp only [List.any_map,List.any_eq_true,Function.comp,decide_eq_true_eq]
 constructor
 ·rintro ⟨t,m,e⟩
  rw [zhT] at e
  exact ⟨t,m,by have:=of_decide_eq_true e; omega⟩
 ·rintro ⟨t,m,e⟩
  exact ⟨t,m,by rw [zhT,e]; exact decide_eq_true rfl⟩
theorem zlQ (ts:List Term):SeqAt.shaped (.list (ts.map fun t:Term=>PyData.int t.1)) = true:=(zjQ (n:=0) (zjd fun k m=>zhc)).ok
theorem zis {p:List PyData} {ps:List Part} {g:Gap} (hp:za1 p) (hd:Drw ps) (h58:∀ p ∈ ps,p.2.1 <= 10 ^ 58) (ht:Tms ps.length g.ts) (q:∀ (ps':List Part) p',Drw ps'->ps'.length = ps.length->za1 p'->R (.d (zcs ps')) [p']):zc6 [.l 0,.d (zcs ps),.d (zdU g)] [p] R:=by
 have h8:=hd.l8
 have h1:=hd.l1
 have l1:=ht.len
 unfold zc6
 rw [zcb,zcs,zjP]
 walk_at "d"
 (refine seq1 ?_; walk_at "d")
 refine cmp2 (S0:=[p]) (fun t:Term=>PyData.int t.1) rfl g.ts (by omega) ?_ ?_
 ·intro t m u v acc R' hk
  rw [zic]
  walk_at "d"
  exact hk _ _
 refine ⟨[p],_,rfl,rfl,?_⟩
 (refine seq1 ?_; walk_at "d")
 refine seq1 ?_
 walk_at "d"
 refine za4 (fun i δ S=>∃ (p:List PyData) (qs:List Part) (u1 u2 u3 u4:Option XV),za1 p/\qs.length = i/\(∀ p ∈ qs,Prt p)/\S = [p,qs.map zev]/\δ = [some (.l 0),some (.d (.tuple (ps.map zev))),some (.d (.tuple [.tuple (g.ts.map tmD),.int g.lo,.int g.hi])),some (.d (znt g.ts)),some (.l 1),u1,u2,u3,u4]) ⟨p,[],_,_,_,_,hp,rfl,by simp,rfl,rfl⟩ ?_ ?_
 ·rintro i d _ _ N hi ⟨p,qs,u1,u2,u3,u4,hp,hl,ha,rfl,rfl⟩ hN
  obtain ⟨hi',rfl⟩:=zbx hi
  have ip:i < ps.length:=by simpa using hi'
  have e:=zbl (f:=zev) (zds ip)
  have e0:(0:Int) + (i:Int) = (i:Int):=by omega
  have pk:=hd.all _ (zbq ip)
  have k2:=h58 _ (zbq ip)
  generalize part ps i = pt at e pk k2
  have hle:=pk.le
  walk_at "d"
  (refine seq1 ?_; walk_at "d")
  rw [e0]
  refine ⟨_,e,?_⟩
  rw [zg7]
  walk_at "d"
  have fin:∀ (hi2:Int) p',za1 p'->pt.2.1 <= hi2->hi2 <= 10 ^ 59->∃ qs':List Part,qs'.length = i + 1/\(∀ p ∈ qs',Prt p)/\qs'.map zev = qs.map zev ++ [.tuple [.str pt.1,.int pt.2.1,.int hi2]]:=fun hi2 p' hp' h2 h3=>⟨qs ++ [(pt.1,pt.2.1,hi2)],by simp [hl],fun x hx=>by
   rcases List.mem_append.mp hx with hx | hx
   ·exact ha x hx
   ·rw [List.mem_singleton.mp hx]
    exact ⟨pk.nm,h2,pk.lo,h3⟩,by simp [zev]⟩
  refine cut (fun δ S=>∃ (p:List PyData) (hi2:Int),za1 p/\pt.2.1 <= hi2/\hi2 <= 10 ^ 59/\S = [p,qs.map zev]/\δ = [some (.l 0),some (.d (.tuple (ps.map zev))),some (.d (.tuple [.tuple (g.ts.map tmD),.int g.lo,.int g.hi])),some (.d (znt g.ts)),some (.l 1),some (.d (.int i)),some (.d (.str pt.1)),some (.d (.int pt.2.1)),some (.d (.int hi2))]) (fun N2 hN2=>?_) ?_
  ·unfold znt at hN2 ⊢
   walk_at "d"
   refine ⟨zlQ g.ts,?_⟩
   rw [zoH]
   split
   ·walk_at "d"
    refine zF hp (by decide) (by decide +kernel) fun r p3 r0 r1 hp3=>?_
    walk_at "d"
    split
    ·walk_at "d"
     refine ⟨⟨by decide,by decide,by decide⟩,?_⟩
     walk_at "d"
     refine zF hp3 (by decide +kernel) (by decide +kernel) fun r4 p4 r40 r41 hp4=>?_
     walk_at "d"
     have k1:(10:Int) ^ 40 + 10 ^ 58 <= 10 ^ 59:=by decide +kernel
     exact hN2 _ _ ⟨p4,pt.2.1 + r4,hp4,by omega,by omega,rfl,rfl⟩
    ·exact hN2 _ _ ⟨p3,pt.2.2,hp3,hle,pk.hi,rfl,rfl⟩
   ·exact hN2 _ _ ⟨p,pt.2.2,hp,hle,pk.hi,rfl,rfl⟩
  rintro _ _ ⟨p',hi2,hp',h2,h3,rfl,rfl⟩
  obtain ⟨qs',a1,a2,a3⟩:=fin hi2 p' hp' h2 h3
  walk_at "d"
  refine ⟨by omega,hN _ _ ⟨p',qs',_,_,_,_,hp',a1,a2,by rw [a3],rfl⟩⟩
 ·rintro _ _ ⟨p,qs,u1,u2,u3,u4,hp,hl,ha,rfl,rfl⟩
  rw [zaa] at hl
  walk_at "d"
  exact q qs p ⟨by omega,by omega,ha⟩ (by omega) hp
end
section
variable {R:RX} {S:Sto}
theorem zkJ {p:List PyData} {ps:List Part} (hp:za1 p) (hd:Drw ps) (q:∀ ns p',InBox ps ns->za1 p'->R (.d (zct ns)) [p']):zew [.l 0,.d (zcs ps)] [p] R:=by
 have l8:=hd.l8
 unfold zew
 rw [zcs]
 walk_at "d"
 (refine seq1 ?_; walk_at "d")
 refine seq1 ?_
 walk_at "d"
 refine za4 (fun i δ S=>∃ (p:List PyData) (ns:List Int) (u1 u2 u3 u4:Option XV),S = [p,ns.map PyData.int]/\za1 p/\δ = [some (.l 0),some (.d (.tuple (ps.map zev))),some (.l 1),u1,u2,u3,u4]/\ns.length = i/\∀ j,j < i->plo ps j <= ns.getD j 0/\ns.getD j 0 <= phi ps j) ⟨p,[],_,_,_,_,rfl,hp,rfl,rfl,fun j hj=>by omega⟩ ?_ ?_
 ·rintro i d _ _ N hi ⟨p,ns,u1,u2,u3,u4,rfl,hp,rfl,hl,hns⟩ hN
  obtain ⟨t,ht,rfl⟩:=zfT hi
  have mt:=List.mem_of_getElem? ht
  have lo:=(hd.all t mt).le
  have il:i < ps.length:=(List.getElem?_eq_some_iff.mp ht).1
  have et:part ps i = t:=Option.some.inj ((zds il).symm.trans ht)
  rw [zg7]
  walk_at "d"
  refine seq1 ?_
  walk_at "d"
  refine .inl ⟨⟨by decide,by decide +kernel⟩,?_⟩
  walk_at "d"
  refine ⟨⟨by decide,by decide,by decide⟩,?_⟩
  refine zF hp (by decide) (by decide +kernel) fun r p1 r0 r1 hp1=>?_
  walk_at "d"
  refine ⟨by omega,?_⟩
  refine zF hp1 (by decide) (by decide +kernel) fun r' p2 r2 r3 hp2=>?_
  have b1:=Int.emod_nonneg r (show t.2.2 - t.2.1 + 1 ≠ 0 by omega)
  have b2:=Int.emod_lt_of_pos r (show 0 < t.2.2 - t.2.1 + 1 by omega)
  obtain ⟨d,ed,n,rfl,n0,n1⟩:=zmq (P:=fun d=>∃ n,d = .int n/\t.2.1 <= n/\n <= t.2.2) (ds:=[PyData.int t.2.1,PyData.int t.2.2,PyData.int (t.2.1 + (t.2.2 - t.2.1) / 2),PyData.int (if t.2.1 + 1 < t.2.2 then t.2.1 + 1 else t.2.2),PyData.int (if t.2.2 - 1 > t.2.1 then t.2.2 - 1 else t.2.1),PyData.int (t.2.1 + r % (t.2.2 - t.2.1 + 1))]) r2 r3 (by
   intro d m
   simp only [List.mem_cons,List.not_mem_nil,or_false] at m
   rcases m with rfl | rfl | rfl | rfl | rfl | rfl
   ·exact ⟨_,rfl,by omega,by omega⟩
   ·exact ⟨_,rfl,by omega,by omega⟩
   ·exact ⟨_,rfl,by omega,by omega⟩
   ·exact ⟨_,rfl,by split <;> omega,by split <;> omega⟩
   ·exact ⟨_,rfl,by split <;> omega,by split <;> omega⟩
   ·exact ⟨_,rfl,by omega,by omega⟩)
  walk_at "d"
  refine ⟨_,ed,?_⟩
  walk_at "d"
  refine ⟨by omega,hN _ _ ⟨p2,ns ++ [n],_,_,_,_,by simp,hp2,rfl,by simp [hl],fun j hj=>?_⟩⟩
  by_cases hji:j < i
  ·have e:(ns ++ [n]).getD j 0 = ns.getD j 0:=by
    rw [List.getD_eq_getElem?_getD,List.getD_eq_getElem?_getD,List.getElem?_append_left (by omega)]
   rw [e]
   exact hns j hji
  ·have hj2:j = ns.length:=by omega
   subst hj2
   have e:(ns ++ [n]).getD ns.length 0 = n:=by
    rw [List.getD_eq_getElem?_getD,List.getElem?_concat_length]
    rfl
   rw [e,hl]
   unfold plo phi
   rw [et]
   exact ⟨n0,n1⟩
 ·rintro _ _ ⟨p,ns,u1,u2,u3,u4,rfl,hp,rfl,hl,hns⟩
  rw [List.length_map] at hl hns
  walk_at "d"
  exact q ns p ⟨hl,hns⟩ hp
end
section
variable {R:RX} {S:Sto} {EX:EXD}
theorem zdo {g:Gap} {ns:List Int} (h3:Tm3 ns.length g.ts) (q:R (.d (.bool (zaG g ns))) []):zbF [.d (zdU g),.d (zct ns)] [] R:=by
 unfold zbF
 have eg:zdU g = .tuple [zjP g.ts,.int g.lo,.int g.hi]:=rfl
 have k1:∀ (S:Sto) (R':RX),R' (.d (.int g.lo)) S->dIx (.d (zdU g)) (.d (.int 1)) S R':=fun S R' h=>by rw [eg]; walk_at "d"; exact h
 have k2:∀ (S:Sto) (R':RX),R' (.d (.int g.hi)) S->dIx (.d (zdU g)) (.d (.int 2)) S R':=fun S R' h=>by rw [eg]; walk_at "d"; exact h
 walk_at "d"
 refine k1 _ _ ?_
 walk_at "d"
 refine ziB h3 ?_
 walk_at "d"
 by_cases h1:g.lo <= worth g.ts ns
 ·rw [if_pos h1]
  refine k2 _ _ ?_
  walk_at "d"
  unfold zaG at q
  simpa [h1] using q
 ·rw [if_neg h1]
  walk_at "d"
  unfold zaG at q
  simpa [h1] using q
theorem zrW {ps:List Part} {g:Gap} {one:List Int} (ht:Tms ps.length g.ts) (hbx:InBox ps one) (hk:zaG g one = true):0 <= nbr ps g one/\nbr ps g one < zdY ps g:=by
 have h1:=zfa (zv ps g.ts) one (inG g 0) fun w=>(zgO g 0 w).1
 have h2:=zmy (zv ps g.ts) one (inG g 0) (fun w=>(zgO g 0 w).1) (zfL.mpr hbx)
 rw [zeJ ht hbx.len] at h2
 have h3:inG g 0 (worth g.ts one) = 1:=by
  unfold zaG at hk
  have:=of_decide_eq_true hk
  unfold inG
  rw [if_pos (by omega)]
 rw [h3] at h2
 unfold nbr zdY
 omega
end
section
variable {R:RX} {S:Sto} {EX:EXD}
def kpt (ps:List Part) (g:Gap):List (List Int):=(zpa ps).filter (zaG g)
theorem zgd {g:Gap} {one:List Int}:inG g 0 (worth g.ts one) = if zaG g one = true then 1 else 0:=by
 unfold inG zaG
 simp only [Int.zero_add,decide_eq_true_eq]
theorem zeo {ps:List Part} {g:Gap} {one:List Int}:one ∈ kpt ps g ↔ InBox ps one/\zaG g one = true:=by
 unfold kpt
 rw [List.mem_filter,zfC]
theorem zj3 {ps:List Part} {g:Gap} {a b:List Int} (ht:Tms ps.length g.ts) (ha:a ∈ kpt ps g) (hb:b ∈ kpt ps g) (h:HT.lexLt a b = true):nbr ps g a + 1 <= nbr ps g b:=by
 obtain ⟨a1,a2⟩:=zeo.mp ha
 obtain ⟨b1,b2⟩:=zeo.mp hb
 have:=zj6 (zv ps g.ts) a b (inG g 0) (fun w=>(zgO g 0 w).1) (zfL.mpr a1) (zfL.mpr b1) h
 rw [zeJ ht a1.len,zgd,if_pos a2] at this
 exact this
theorem zqd {ps:List Part} {g:Gap} {a b:List Int} (ht:Tms ps.length g.ts) (a1:InBox ps a) (a2:zaG g a = true) (b1:InBox ps b) (b2:zaG g b = true) (h:nbr ps g a = nbr ps g b):a = b :=
 zqF (fun w=>(zgO g 0 w).1) (zfL.mpr a1) (zfL.mpr b1) (by rw [zeJ ht a1.len,zgd,if_pos a2]; decide) (by rw [zeJ ht b1.len,zgd,if_pos b2]; decide) h
end
section
variable {R:RX} {S:Sto}
theorem zsh {a b:List Int} (h:HT.lexLt a b = true) (k:HT.lexLt b a = true):False:=by
 have:=L2.lexLt_trans0 h k
 rw [HT.lexLt_self] at this
 cases this
end
section
variable {R:RX} {S:Sto}
theorem zmE {ps:List Part} {ts:List Term} {one:List Int} (ht:Tms ps.length ts) (h8:ps.length <= 8) (hb:InBox ps one):Tm3 one.length ts:=by rw [hb.len]; exact ht.tm3 h8
theorem zgX {ps:List Part} {g:Gap} {a b:List Int} (ht:Tms ps.length g.ts) (a1:InBox ps a) (a2:zaG g a = true) (b1:InBox ps b) (b2:zaG g b = true):decide (nbr ps g a < nbr ps g b) = HT.lexLt a b:=by
 have ha:=zeo.mpr ⟨a1,a2⟩
 have hb:=zeo.mpr ⟨b1,b2⟩
 rcases L2.lexLt_tri0 a b with h | h | h
 ·have:=zj3 ht ha hb h
  rw [h]
  exact decide_eq_true (by omega)
 ·subst h
  rw [HT.lexLt_self]
  exact decide_eq_false (by omega)
 ·have:=zj3 ht hb ha h
  cases h2:HT.lexLt a b with
  | true=>exact (zsh h h2).elim
  | false=>exact decide_eq_false (by omega)
theorem zdI {one:List Int} {K:List PyData->Prop} (h:K (one.map PyData.int)):asT (.d (zct one)) K:=h
theorem zhK (one:List Int):SeqAt.shaped (zct one) = true:=(zmH (zjd fun _ _=>(zhc:Shp 0 _)):Shp 1 (zct one)).ok
theorem zoi (one:List Int):PyData.eqv (zct one) (zct one) = true:=SeqAt.eqv_refl _ (SeqAt.canLay_of_shaped (zhK one))
theorem zeb {ps:List Part} {g:Gap} {n:Int} (ho:Ord ps) (hb:Bnd ps) (h8:ps.length <= 8) (ht:Tms ps.length g.ts) (hr:zaA ps g.ts - zV ps g.ts < 400) (n0:0 <= n) (n1:n < zdY ps g) (q:R (.d (.bool true)) []):zaU [.d (zcs ps),.d (zdU g),.d (.int n)] [] R:=by
 unfold zaU
 walk_at "d"
 (refine seq1 ?_; walk_at "d")
 refine zjZ ho hb h8 ht hr n0 n1 fun one hbx hk hn=>?_
 walk_at "d"
 refine zdo (zmE ht h8 hbx) ?_
 rw [hk]
 walk_at "d"
 refine zfk ho hb h8 ht hr hbx hk ?_
 rw [hn]
 walk_at "d"
 exact q
theorem zek {ps:List Part} {g:Gap} {n:Int} {sets:List (List Int)} (ho:Ord ps) (hb:Bnd ps) (h8:ps.length <= 8) (ht:Tms ps.length g.ts) (hr:zaA ps g.ts - zV ps g.ts < 400) (n0:0 <= n) (n1:n + 1 < zdY ps g) (hl:sets.length <= 1000) (hs:∀ x ∈ sets,InBox ps x) (q:R (.d (.bool true)) []) :
  zaW [.d (zcs ps),.d (zdU g),.d (.int n),.d (.list (sets.map zct))] [] R:=by
 unfold zaW
 walk_at "d"
 (refine seq1 ?_; walk_at "d")
 refine zjZ ho hb h8 ht hr n0 (by omega) fun one hbx hk hn=>?_
 walk_at "d"
 (refine seq1 ?_; walk_at "d")
 refine zjZ ho hb h8 ht hr (by omega) n1 fun two hbx2 hk2 hn2=>?_
 have l12:=zgX ht hbx hk hbx2 hk2
 rw [hn,hn2,decide_eq_true (by omega)] at l12
 walk_at "d"
 (refine seq1 ?_; walk_at "d")
 refine zdI (zdI ⟨one,rfl,two,rfl,?_⟩)
 rw [<- l12,if_neg (by simp)]
 refine cmf1 (S0:=[]) (h:=zct) zct (fun x=>HT.lexLt one x && (HT.lexLt x two && zaG g x)) rfl sets hl ?_ ?_
 ·intro x mx u acc R' hk'
  walk_at "d"
  refine zdI (zdI ⟨one,rfl,x,rfl,?_⟩)
  cases e1:HT.lexLt one x with
  | false =>
   rw [e1] at hk'
   exact hk' _ (fun h=>by cases h)
  | true =>
   rw [e1] at hk'
   refine zoW (zdI (zdI ⟨x,rfl,two,rfl,?_⟩))
   cases e2:HT.lexLt x two with
   | false =>
    rw [e2] at hk'
    exact hk' _ (fun h=>by cases h)
   | true =>
    rw [e2] at hk'
    walk_at "d"
    refine zdo (zmE ht h8 (hs x mx)) ?_
    walk_at "d"
    refine hk' _ fun _ T hT=>?_
    walk_at "d"
    exact hT
 ·walk_at "d"
  have:sets.filter (fun x=>HT.lexLt one x && (HT.lexLt x two && zaG g x)) = []:=by
   rw [List.filter_eq_nil_iff]
   intro x mx h
   rw [Bool.and_eq_true,Bool.and_eq_true] at h
   have hx:=zeo.mpr ⟨hs x mx,h.2.2⟩
   have z1:=zj3 ht (zeo.mpr ⟨hbx,hk⟩) hx h.1
   have z2:=zj3 ht hx (zeo.mpr ⟨hbx2,hk2⟩) h.2.1
   omega
  rw [this]
  exact ⟨rfl,rfl,q⟩
theorem zfb {ps:List Part} {g:Gap} {sets:List (List Int)} (ho:Ord ps) (hb:Bnd ps) (h1:1 <= ps.length) (h8:ps.length <= 8) (ht:Tms ps.length g.ts) (hr:zaA ps g.ts - zV ps g.ts < 400) (hl:sets.length <= 1000) (hs:∀ x ∈ sets,InBox ps x) (q:R (.d (.bool true)) []) :
  zbd [.d (zcs ps),.d (zdU g),.d (.list (sets.map zct))] [] R:=by
 unfold zbd
 walk_at "d"
 (refine seq1 ?_; walk_at "d")
 refine cmf1 (S0:=[]) (h:=zct) zct (zaG g) rfl sets hl ?_ ?_
 ·intro x mx u acc R' hk
  walk_at "d"
  refine zdo (zmE ht h8 (hs x mx)) ?_
  walk_at "d"
  refine hk _ fun _ T hT=>?_
  walk_at "d"
  exact hT
 ·walk_at "d"
  refine ⟨sets.filter (zaG g),rfl,Nat.le_trans (List.length_filter_le _ _) (by omega),?_,fun good pm pw=>?_⟩
  ·intro ns mn e
   have:=(hs ns (List.mem_filter.mp mn).1).len
   rw [e] at this
   simp at this
   omega
  have gd:∀ x ∈ good,InBox ps x/\zaG g x = true:=fun x mx=>by
   have:=List.mem_filter.mp (pm.mem_iff.mp mx)
   exact ⟨hs x this.1,this.2⟩
  have gl:good.length <= 1000:=by
   rw [pm.length_eq]
   exact Nat.le_trans (List.length_filter_le _ _) hl
  walk_at "d"
  (refine seq1 ?_; walk_at "d")
  have et:good.map zmV = good.map zct:=rfl
  rw [et]
  refine cmp1 (S0:=[]) (h:=zct) (fun x=>.int (nbr ps g x)) rfl good gl ?_ ?_
  ·intro x mx u acc R' hk
   walk_at "d"
   refine zfk ho hb h8 ht hr (gd x mx).1 (gd x mx).2 ?_
   walk_at "d"
   exact hk _
  ·walk_at "d"
   refine seq1 ?_
   walk_at "d"
   have en:(good.map fun x=>PyData.int (nbr ps g x)) = (good.map (nbr ps g)).map PyData.int:=by rw [List.map_map]; rfl
   refine za4 (fun i δ S=>∃ (u:Option XV),S = []/\δ = [some (.d (zcs ps)),some (.d (zdU g)),some (.d (.list (sets.map zct))),some (.d (.list (good.map zct))),some (.d (.list (good.map fun x=>PyData.int (nbr ps g x)))),u]) ⟨_,rfl,rfl⟩ ?_ ?_
   ·rintro i d _ _ N hi ⟨u,rfl,rfl⟩ hN
    obtain ⟨hi',rfl⟩:=zbx hi
    rw [Int.toNat_natCast] at hi'
    rw [Int.zero_add]
    have gi:good[i]? = some good[i]:=List.getElem?_eq_getElem hi'
    have g1:=gd _ (List.getElem_mem hi')
    have b1:=zrW ht g1.1 g1.2
    have ix3:=zbl (f:=zct) gi
    have ix4:=zbl (f:=fun x=>PyData.int (nbr ps g x)) gi
    walk_at "d"
    (refine seq1 ?_; walk_at "d")
    refine ⟨_,ix4,?_⟩
    refine zjZ ho hb h8 ht hr b1.1 b1.2 fun one hbx hk hn=>?_
    have eo:one = good[i]:=zqd ht hbx hk g1.1 g1.2 hn
    subst eo
    walk_at "d"
    refine ⟨_,ix3,?_⟩
    rw [zoi]
    refine ⟨zhK _,zhK _,?_⟩
    walk_at "d"
    by_cases i0:i = 0
    ·rw [if_neg (by omega)]
     exact hN _ _ ⟨_,rfl,rfl⟩
    ·obtain ⟨j,rfl⟩:∃ j,i = j + 1:=⟨i - 1,by omega⟩
     have gj:good[j]? = some good[j]:=List.getElem?_eq_getElem (by omega)
     have g2:=gd _ (List.getElem_mem (show j < good.length by omega))
     have iy3:=zbl (f:=zct) gj
     have iy4:=zbl (f:=fun x=>PyData.int (nbr ps g x)) gj
     rw [if_pos (by omega),show ((j + 1:Nat):Int) - 1 = (j:Int) by omega]
     refine ⟨_,iy4,_,ix4,?_⟩
     walk_at "d"
     refine ⟨_,iy3,_,ix3,?_⟩
     refine zdI (zdI ⟨_,rfl,_,rfl,?_⟩)
     rw [if_neg (by rw [zgX ht g2.1 g2.2 g1.1 g1.2]; simp)]
     exact hN _ _ ⟨_,rfl,rfl⟩
   ·rintro _ _ ⟨u,rfl,rfl⟩
    walk_at "d"
    exact q
theorem zjt (a:Addr) (n:Int):zqU (zt5 a 9) ((some (.o (.ref a)) :: List.replicate 9 none).set 1 (some (.d (.int n)))) []:=by
 unfold zqU
 walk_at "d"
 (refine seq1 ?_; walk_at "d")
 refine zkS fun p hp=>?_
 walk_at "d"
 (refine seq1 ?_; walk_at "d")
 refine zgC hp fun ps0 p1 hd h58 hp1=>?_
 walk_at "d"
 (refine seq1 ?_; walk_at "d")
 refine zk0 hp1 hd fun g p2 hg hp2=>?_
 walk_at "d"
 (refine seq1 ?_; walk_at "d")
 refine zis (g:=g) hp2 hd h58 hg.ts fun ps p3 hq hlq hp3=>?_
 have l8:=hq.l8
 have ht:Tms ps.length g.ts:=by rw [hlq]; exact hg.ts
 have eg:zdU g = .tuple [zjP g.ts,.int g.lo,.int g.hi]:=rfl
 have k0:∀ (S:Sto) (R':RX),R' (.d (zjP g.ts)) S->dIx (.d (zdU g)) (.d (.int 0)) S R':=fun S R' h=>by rw [eg]; walk_at "d"; exact h
 walk_at "d"
 refine seq1 ?_
 walk_at "d"
 refine k0 _ _ ?_
 walk_at "d"
 refine zgu (ts:=g.ts) (t:=zjP g.ts) rfl (ht.tm3 l8) ?_
 unfold spD
 walk_at "d"
 (refine seq1 ?_; walk_at "d")
 refine ztr (α:=List Int) (InBox ps) zct (fun τ=>∃ u,τ = [u,some (.l 0),some (.d (zcs ps))]) _ [] p3 _ ⟨_,rfl⟩ hp3 (by rw [zaa]; simp) ?_ ?_
 ·rintro d _ _ p acc R' ⟨u,rfl⟩ hp hk
  walk_at "d"
  refine zkJ hp hq fun ns p' hb hp'=>?_
  walk_at "d"
  exact hk _ _ _ ⟨_,rfl⟩ hp' hb
 ·intro sets p4 hp4 hF hl
  rw [zaa] at hl
  walk_at "d"
  by_cases hr:zaA ps g.ts - zV ps g.ts < 400
  ·rw [if_pos hr]
   have b0:=zlF (g:=g) (k:=0) (w:=0) hq.ord hq.bnd l8
   (refine seq1 ?_; walk_at "d")
   refine zhU hq.ord hq.bnd l8 ht hr ?_
   walk_at "d"
   (refine seq1 ?_; walk_at "d")
   refine zfb hq.ord hq.bnd hq.l1 l8 ht hr (by omega) hF ?_
   walk_at "d"
   refine .inl ⟨⟨by decide,by decide +kernel⟩,⟨by decide,by decide,by decide⟩,?_⟩
   refine zF hp4 (by decide) (by decide +kernel) fun r p5 r0 r1 hp5=>?_
   walk_at "d"
   generalize hds:[PyData.int 0,PyData.int 1,PyData.int (zdY ps g - 2),PyData.int (zdY ps g - 1),PyData.int (zdY ps g / 2),PyData.int r] = ds
   have hD:∀ d ∈ ds,∃ m:Int,d = .int m:=fun d md=>by
    subst hds
    simp only [List.mem_cons,List.not_mem_nil,or_false] at md
    rcases md with h | h | h | h | h | h <;> exact ⟨_,h⟩
   refine za4 (fun i δ S=>∃ (u:Option XV),S = [p5]/\δ = [some (.o (.ref a)),some (.d (.int n)),some (.l 0),some (.d (zcs ps)),some (.d (zdU g)),some (.d (.int (zV ps g.ts))),some (.d (.int (zaA ps g.ts))),some (.d (.list (sets.map zct))),some (.d (.int (zdY ps g))),u]) ⟨_,rfl,rfl⟩ ?_ ?_
   ·rintro i d _ _ N hi ⟨u,rfl,rfl⟩ hN
    obtain ⟨m,rfl⟩:=hD d (List.mem_of_getElem? hi)
    refine cut (fun δ S=>S = [p5]/\δ = [some (.o (.ref a)),some (.d (.int n)),some (.l 0),some (.d (zcs ps)),some (.d (zdU g)),some (.d (.int (zV ps g.ts))),some (.d (.int (zaA ps g.ts))),some (.d (.list (sets.map zct))),some (.d (.int (zdY ps g))),some (.d (.int m))]) ?_ ?_
    ·intro N' hN'
     walk_at "d"
     by_cases m0:0 <= m
     ·rw [if_pos m0]
      by_cases m1:m < zdY ps g
      ·rw [if_pos m1]
       refine zeb hq.ord hq.bnd l8 ht hr m0 m1 ?_
       walk_at "d"
       exact hN' _ _ ⟨rfl,rfl⟩
      ·rw [if_neg m1]
       exact hN' _ _ ⟨rfl,rfl⟩
     ·rw [if_neg m0]
      exact hN' _ _ ⟨rfl,rfl⟩
    ·rintro _ _ ⟨rfl,rfl⟩
     walk_at "d"
     by_cases m0:0 <= m
     ·rw [if_pos m0]
      by_cases m1:m < zdY ps g - 1
      ·rw [if_pos m1]
       refine zek hq.ord hq.bnd l8 ht hr m0 (by omega) (by omega) hF ?_
       walk_at "d"
       exact hN _ _ ⟨_,rfl,rfl⟩
      ·rw [if_neg m1]
       exact hN _ _ ⟨_,rfl,rfl⟩
     ·rw [if_neg m0]
      exact hN _ _ ⟨_,rfl,rfl⟩
   ·rintro _ _ ⟨u,rfl,rfl⟩
    walk_at "d"
  ·rw [if_neg hr]
   trivial
end
end My
namespace My
open PySem L2
def top (i : Nat) : Stmt := PySem.Challenge.pw_gaugewright_k34_whole_order_of_sets.main.body.getD i (.Pass ⟨0, 0, 0, 0⟩)
abbrev s_law_cell_at:Stmt:=top 31
theorem zgy:FnScope ["script","k"] ["script","k"] (zq s_law_cell_at):=fsc (by decide +kernel)
abbrev s_law_pen:Stmt:=top 33
theorem zg3:FnScope ["cell","left"] ["cell"] (zq s_law_pen):=fsc (by decide +kernel)
abbrev s_law_next:Stmt:=top 32
theorem zf6:FnScope ["seed"] ["seed"] (zq s_law_next):=fsc (by decide +kernel)
abbrev s_law_draw:Stmt:=top 34
theorem zga:FnScope ["pen","many","found"] ["pen","many"] (zq s_law_draw):=fsc (by decide +kernel)
abbrev s_law_names:Stmt:=top 36
theorem zaq:FnScope ["pen","letters","way","first","names","word","at"] ["pen"] (zq s_law_names):=fsc (by decide +kernel)
abbrev s_law_number:Stmt:=top 35
theorem zeN:FnScope ["pen","way"] ["pen"] (zq s_law_number):=fsc (by decide +kernel)
abbrev s_law_counted:Stmt:=top 37
theorem zaz:FnScope ["pen","names","wides","drawing","k","low"] ["pen"] (zq s_law_counted):=fsc (by decide +kernel)
abbrev s_law_terms:Stmt:=top 39
theorem zbN:FnScope ["pen","drawing","some","terms","part"] ["pen","drawing"] (zq s_law_terms):=fsc (by decide +kernel)
abbrev s_law_ends:Stmt:=top 38
theorem zaZ:FnScope ["drawing","terms","least","most","part","times","ends"] ["drawing","terms"] (zq s_law_ends):=fsc (by decide +kernel)
abbrev s_law_gap:Stmt:=top 40
theorem zbE:FnScope ["pen","drawing","terms","least","most","wide","low","high"] ["pen","drawing"] (zq s_law_gap):=fsc (by decide +kernel)
abbrev s_law_idled:Stmt:=top 41
theorem zaL:FnScope ["pen","drawing","gap","there","found","k","name","low","high"] ["pen","drawing","gap"] (zq s_law_idled):=fsc (by decide +kernel)
abbrev s_law_set:Stmt:=top 42
theorem zb8:FnScope ["pen","drawing","one","name","low","high","some"] ["pen","drawing"] (zq s_law_set):=fsc (by decide +kernel)
abbrev s_kept_behind:Stmt:=top 29
theorem zgx:FnScope ["tally","gap","worth"] ["tally","gap","worth"] (zq s_kept_behind):=fsc (by decide +kernel)
abbrev s_size_of:Stmt:=top 9
theorem zkG:FnScope ["one"] ["one"] (zq s_size_of):=fsc (by decide +kernel)
abbrev s_plus:Stmt:=top 7
theorem zpW:FnScope ["one","other"] ["one","other"] (zq s_plus):=fsc (by decide +kernel)
abbrev s_multiplied:Stmt:=top 8
theorem zeS:FnScope ["one","by","ends"] ["one","by"] (zq s_multiplied):=fsc (by decide +kernel)
abbrev s_span_of:Stmt:=top 11
theorem zkF:FnScope ["part"] ["part"] (zq s_span_of):=fsc (by decide +kernel)
abbrev s_reach_of_terms:Stmt:=top 18
theorem zaE:FnScope ["drawing","terms","ends","part","times"] ["drawing","terms"] (zq s_reach_of_terms):=fsc (by decide +kernel)
abbrev s_reach:Stmt:=top 17
theorem znR:FnScope ["drawing","gap"] ["drawing","gap"] (zq s_reach):=fsc (by decide +kernel)
abbrev s_with_part:Stmt:=top 28
theorem zbk:FnScope ["tally","span","times","longer","number","worth","many","total"] ["tally","span","times"] (zq s_with_part):=fsc (by decide +kernel)
abbrev s_tallies_of:Stmt:=top 27
theorem zby:FnScope ["drawing","gap","many","times","tallies","part"] ["drawing","gap"] (zq s_tallies_of):=fsc (by decide +kernel)
abbrev s_kept_count:Stmt:=top 21
theorem zhr:FnScope ["drawing","gap"] ["drawing","gap"] (zq s_kept_count):=fsc (by decide +kernel)
abbrev s_is_whole:Stmt:=top 5
theorem zjk:FnScope ["thing"] ["thing"] (zq s_is_whole):=fsc (by decide +kernel)
abbrev s_is_set:Stmt:=top 12
theorem zlN:FnScope ["drawing","thing"] ["drawing","thing"] (zq s_is_set):=fsc (by decide +kernel)
abbrev s_worth_of:Stmt:=top 14
theorem zju:FnScope ["gap","one"] ["gap","one"] (zq s_worth_of):=fsc (by decide +kernel)
abbrev s_keeps:Stmt:=top 15
theorem znU:FnScope ["gap","one"] ["gap","one"] (zq s_keeps):=fsc (by decide +kernel)
abbrev s_worth_of_beginning:Stmt:=top 26
theorem zdq:FnScope ["gap","beginning"] ["gap","beginning"] (zq s_worth_of_beginning):=fsc (by decide +kernel)
abbrev s_kept_ahead:Stmt:=top 25
theorem zbA:FnScope ["drawing","gap","beginning","tally","part","low","times","worth"] ["drawing","gap","beginning","tally"] (zq s_kept_ahead):=fsc (by decide +kernel)
abbrev s_number_of:Stmt:=top 24
theorem zfc:FnScope ["drawing","gap","thing","tallies"] ["drawing","gap","thing"] (zq s_number_of):=fsc (by decide +kernel)
abbrev s_number_at:Stmt:=top 23
theorem zaH:FnScope ["drawing","gap","beginning","tally","left","part","span","times","worth","number","many"] ["drawing","gap","beginning","tally","left"] (zq s_number_at):=fsc (by decide +kernel)
abbrev s_nth:Stmt:=top 22
theorem zfp:FnScope ["drawing","gap","number","tallies","one","left","part","found"] ["drawing","gap","number"] (zq s_nth):=fsc (by decide +kernel)
abbrev s_law_worth:Stmt:=top 43
theorem zbJ:FnScope ["gap","one","total","part","times"] ["gap","one"] (zq s_law_worth):=fsc (by decide +kernel)
abbrev s_law_keeps:Stmt:=top 44
theorem ziA:FnScope ["gap","one"] ["gap","one"] (zq s_law_keeps):=fsc (by decide +kernel)
abbrev s_law_sets_right:Stmt:=top 46
theorem za3:FnScope ["drawing","gap","sets","good","numbers","k"] ["drawing","gap","sets"] (zq s_law_sets_right):=fsc (by decide +kernel)
abbrev s_law_number_right:Stmt:=top 45
theorem zcp:FnScope ["drawing","gap","number","one"] ["drawing","gap","number"] (zq s_law_number_right):=fsc (by decide +kernel)
abbrev s_law_none_between:Stmt:=top 47
theorem zbe:FnScope ["drawing","gap","number","sets","one","other"] ["drawing","gap","number","sets"] (zq s_law_none_between):=fsc (by decide +kernel)
abbrev s_law:Stmt:=top 48
theorem zdC:FnScope ["script","cell","pen","drawing","gap","least","most","sets","every","number"] ["script"] (zq s_law):=fsc (by decide +kernel)
structure Txt (mg:Str->Option Value):Prop where
 n_range:mg "range" = none
 n_len:mg "len" = none
 n_max:mg "max" = none
 n_int:mg "int" = none
 n_tuple:mg "tuple" = none
 n_min:mg "min" = none
 n_sum:mg "sum" = none
 n_dict:mg "dict" = none
 n_isinstance:mg "isinstance" = none
 n_bool:mg "bool" = none
 n_all:mg "all" = none
 n_zip:mg "zip" = none
 n_sorted:mg "sorted" = none
 g_MOST_WORTHS:∃ t,mg "MOST_WORTHS" = some (.int 400 t)
structure Dds (K:W.Frag) (mg:Str->Option Value):Prop where
 d_law_cell_at:Dd K mg "_law_cell_at" s_law_cell_at ["script","k"]
 d_law_pen:Dd K mg "_law_pen" s_law_pen ["cell"]
 d_law_next:Dd K mg "_law_next" s_law_next ["seed"]
 d_law_draw:Dd K mg "_law_draw" s_law_draw ["pen","many"]
 d_law_names:Dd K mg "_law_names" s_law_names ["pen"]
 d_law_number:Dd K mg "_law_number" s_law_number ["pen"]
 d_law_counted:Dd K mg "_law_counted" s_law_counted ["pen"]
 d_law_terms:Dd K mg "_law_terms" s_law_terms ["pen","drawing"]
 d_law_ends:Dd K mg "_law_ends" s_law_ends ["drawing","terms"]
 d_law_gap:Dd K mg "_law_gap" s_law_gap ["pen","drawing"]
 d_law_idled:Dd K mg "_law_idled" s_law_idled ["pen","drawing","gap"]
 d_law_set:Dd K mg "_law_set" s_law_set ["pen","drawing"]
 d_kept_behind:Dd K mg "kept_behind" s_kept_behind ["tally","gap","worth"]
 d_size_of:Dd K mg "size_of" s_size_of ["one"]
 d_plus:Dd K mg "plus" s_plus ["one","other"]
 d_multiplied:Dd K mg "multiplied" s_multiplied ["one","by"]
 d_span_of:Dd K mg "span_of" s_span_of ["part"]
 d_reach_of_terms:Dd K mg "reach_of_terms" s_reach_of_terms ["drawing","terms"]
 d_reach:Dd K mg "reach" s_reach ["drawing","gap"]
 d_with_part:Dd K mg "with_part" s_with_part ["tally","span","times"]
 d_tallies_of:Dd K mg "tallies_of" s_tallies_of ["drawing","gap"]
 d_kept_count:Dd K mg "kept_count" s_kept_count ["drawing","gap"]
 d_is_whole:Dd K mg "is_whole" s_is_whole ["thing"]
 d_is_set:Dd K mg "is_set" s_is_set ["drawing","thing"]
 d_worth_of:Dd K mg "worth_of" s_worth_of ["gap","one"]
 d_keeps:Dd K mg "keeps" s_keeps ["gap","one"]
 d_worth_of_beginning:Dd K mg "worth_of_beginning" s_worth_of_beginning ["gap","beginning"]
 d_kept_ahead:Dd K mg "kept_ahead" s_kept_ahead ["drawing","gap","beginning","tally"]
 d_number_of:Dd K mg "number_of" s_number_of ["drawing","gap","thing"]
 d_number_at:Dd K mg "number_at" s_number_at ["drawing","gap","beginning","tally","left"]
 d_nth:Dd K mg "nth" s_nth ["drawing","gap","number"]
 d_law_worth:Dd K mg "_law_worth" s_law_worth ["gap","one"]
 d_law_keeps:Dd K mg "_law_keeps" s_law_keeps ["gap","one"]
 d_law_sets_right:Dd K mg "_law_sets_right" s_law_sets_right ["drawing","gap","sets"]
 d_law_number_right:Dd K mg "_law_number_right" s_law_number_right ["drawing","gap","number"]
 d_law_none_between:Dd K mg "_law_none_between" s_law_none_between ["drawing","gap","number","sets"]
section
variable {P:Program} {w:World} {K:W.Frag} {mg:Str->Option Value} {base:Heap}
abbrev zg4 (P:Program) (w:World) (K:W.Frag) (mg:Str->Option Value) (base:Heap):Prop:=Df P w K mg base "_law_pen" ["cell"] 1 (spN ["cell"] zge)
abbrev zee (P:Program) (w:World) (K:W.Frag) (mg:Str->Option Value) (base:Heap):Prop:=Df P w K mg base "_law_next" ["seed"] 1 (spN ["seed"] zcP)
abbrev zaN (P:Program) (w:World) (K:W.Frag) (mg:Str->Option Value) (base:Heap):Prop:=Df P w K mg base "_law_draw" ["pen","many"] 2 (spN ["pen","many"] zw)
abbrev zdi (P:Program) (w:World) (K:W.Frag) (mg:Str->Option Value) (base:Heap):Prop:=Df P w K mg base "_law_names" ["pen"] 3 (spN ["pen"] zeh)
abbrev zc2 (P:Program) (w:World) (K:W.Frag) (mg:Str->Option Value) (base:Heap):Prop:=Df P w K mg base "_law_number" ["pen"] 3 (spN ["pen"] zdG)
abbrev zd4 (P:Program) (w:World) (K:W.Frag) (mg:Str->Option Value) (base:Heap):Prop:=Df P w K mg base "_law_counted" ["pen"] 4 (spN ["pen"] zbZ)
abbrev zdg (P:Program) (w:World) (K:W.Frag) (mg:Str->Option Value) (base:Heap):Prop:=Df P w K mg base "_law_terms" ["pen","drawing"] 3 (spN ["pen","drawing"] zc7)
abbrev zel (P:Program) (w:World) (K:W.Frag) (mg:Str->Option Value) (base:Heap):Prop:=Df P w K mg base "_law_ends" ["drawing","terms"] 1 (spN ["drawing","terms"] zdK)
abbrev zgP (P:Program) (w:World) (K:W.Frag) (mg:Str->Option Value) (base:Heap):Prop:=Df P w K mg base "_law_gap" ["pen","drawing"] 4 (spN ["pen","drawing"] zex)
abbrev zfm (P:Program) (w:World) (K:W.Frag) (mg:Str->Option Value) (base:Heap):Prop:=Df P w K mg base "_law_idled" ["pen","drawing","gap"] 3 (spN ["pen","drawing","gap"] zc6)
abbrev zgH (P:Program) (w:World) (K:W.Frag) (mg:Str->Option Value) (base:Heap):Prop:=Df P w K mg base "_law_set" ["pen","drawing"] 3 (spN ["pen","drawing"] zew)
abbrev zaQ (P:Program) (w:World) (K:W.Frag) (mg:Str->Option Value) (base:Heap):Prop:=Df P w K mg base "kept_behind" ["tally","gap","worth"] 1 (spN ["tally","gap","worth"] zae)
abbrev zdS (P:Program) (w:World) (K:W.Frag) (mg:Str->Option Value) (base:Heap):Prop:=Df P w K mg base "size_of" ["one"] 1 (spN ["one"] zdh)
abbrev zjB (P:Program) (w:World) (K:W.Frag) (mg:Str->Option Value) (base:Heap):Prop:=Df P w K mg base "plus" ["one","other"] 1 (spN ["one","other"] zj7)
abbrev zcZ (P:Program) (w:World) (K:W.Frag) (mg:Str->Option Value) (base:Heap):Prop:=Df P w K mg base "multiplied" ["one","by"] 1 (spN ["one","by"] zcA)
abbrev zcG (P:Program) (w:World) (K:W.Frag) (mg:Str->Option Value) (base:Heap):Prop:=Df P w K mg base "span_of" ["part"] 1 (spN ["part"] zcQ)
abbrev zbG (P:Program) (w:World) (K:W.Frag) (mg:Str->Option Value) (base:Heap):Prop:=Df P w K mg base "reach_of_terms" ["drawing","terms"] 2 (spN ["drawing","terms"] zbc)
abbrev zhQ (P:Program) (w:World) (K:W.Frag) (mg:Str->Option Value) (base:Heap):Prop:=Df P w K mg base "reach" ["drawing","gap"] 3 (spN ["drawing","gap"] zhF)
abbrev zdm (P:Program) (w:World) (K:W.Frag) (mg:Str->Option Value) (base:Heap):Prop:=Df P w K mg base "with_part" ["tally","span","times"] 2 (spN ["tally","span","times"] zc8)
abbrev zbn (P:Program) (w:World) (K:W.Frag) (mg:Str->Option Value) (base:Heap):Prop:=Df P w K mg base "tallies_of" ["drawing","gap"] 4 (spN ["drawing","gap"] zbi)
abbrev zeH (P:Program) (w:World) (K:W.Frag) (mg:Str->Option Value) (base:Heap):Prop:=Df P w K mg base "kept_count" ["drawing","gap"] 5 (spN ["drawing","gap"] zcw)
abbrev zcY (P:Program) (w:World) (K:W.Frag) (mg:Str->Option Value) (base:Heap):Prop:=Df P w K mg base "is_whole" ["thing"] 1 (spN ["thing"] zcH)
abbrev zgk (P:Program) (w:World) (K:W.Frag) (mg:Str->Option Value) (base:Heap):Prop:=Df P w K mg base "is_set" ["drawing","thing"] 2 (spN ["drawing","thing"] zfF)
abbrev zeg (P:Program) (w:World) (K:W.Frag) (mg:Str->Option Value) (base:Heap):Prop:=Df P w K mg base "worth_of" ["gap","one"] 1 (spN ["gap","one"] zdN)
abbrev zhu (P:Program) (w:World) (K:W.Frag) (mg:Str->Option Value) (base:Heap):Prop:=Df P w K mg base "keeps" ["gap","one"] 2 (spN ["gap","one"] zhk)
abbrev zax (P:Program) (w:World) (K:W.Frag) (mg:Str->Option Value) (base:Heap):Prop:=Df P w K mg base "worth_of_beginning" ["gap","beginning"] 1 (spN ["gap","beginning"] zao)
abbrev zb0 (P:Program) (w:World) (K:W.Frag) (mg:Str->Option Value) (base:Heap):Prop:=Df P w K mg base "kept_ahead" ["drawing","gap","beginning","tally"] 2 (spN ["drawing","gap","beginning","tally"] za0)
abbrev zcx (P:Program) (w:World) (K:W.Frag) (mg:Str->Option Value) (base:Heap):Prop:=Df P w K mg base "number_of" ["drawing","gap","thing"] 5 (spN ["drawing","gap","thing"] zcd)
abbrev zdl (P:Program) (w:World) (K:W.Frag) (mg:Str->Option Value) (base:Heap):Prop:=Df P w K mg base "number_at" ["drawing","gap","beginning","tally","left"] 2 (spN ["drawing","gap","beginning","tally","left"] zco)
abbrev zie (P:Program) (w:World) (K:W.Frag) (mg:Str->Option Value) (base:Heap):Prop:=Df P w K mg base "nth" ["drawing","gap","number"] 5 (spN ["drawing","gap","number"] zjg)
abbrev zdz (P:Program) (w:World) (K:W.Frag) (mg:Str->Option Value) (base:Heap):Prop:=Df P w K mg base "_law_worth" ["gap","one"] 1 (spN ["gap","one"] zeq)
abbrev zbP (P:Program) (w:World) (K:W.Frag) (mg:Str->Option Value) (base:Heap):Prop:=Df P w K mg base "_law_keeps" ["gap","one"] 2 (spN ["gap","one"] zbF)
abbrev zcI (P:Program) (w:World) (K:W.Frag) (mg:Str->Option Value) (base:Heap):Prop:=Df P w K mg base "_law_sets_right" ["drawing","gap","sets"] 6 (spN ["drawing","gap","sets"] zbd)
abbrev zch (P:Program) (w:World) (K:W.Frag) (mg:Str->Option Value) (base:Heap):Prop:=Df P w K mg base "_law_number_right" ["drawing","gap","number"] 6 (spN ["drawing","gap","number"] zaU)
abbrev zcn (P:Program) (w:World) (K:W.Frag) (mg:Str->Option Value) (base:Heap):Prop:=Df P w K mg base "_law_none_between" ["drawing","gap","number","sets"] 6 (spN ["drawing","gap","number","sets"] zaW)
theorem zcU (T:Txt mg) (dd:Dds K mg):Df P w K mg base "_law_cell_at" ["script","k"] 1 (sp2 (zqW K)):=by
 refine Df.of2 dd.d_law_cell_at zgy (fun v u=>[some v,some u]) (fun _ _=>rfl) fun f cdv A outer s H v u Q E hr h=>?_
 obtain ⟨a,ns,i,rfl,rfl,hS,h0,q⟩:=h
 refine ⟨_,(zj (zbQ (zap zgB (pv 1) (zJ zl4 (by rfl) T.n_len zbY (zc (pv 0) zi)) (nomark _)) (zr (zO (zR zmL (pv 0) (pv 1) (fun _ _=>rfl)))) zai) (zr (zO zf))),?_⟩
 simp only [znI,zsR,zmi,tOp,zon,tCB,zk5,zq8,ztl,tC,zp6,zme,List.getElem?_cons_zero,List.getElem?_cons_succ]
 refine ⟨a,_,rfl,.inl hS,?_⟩
 simp only [zme,zta,decide_eq_true_eq]
 refine ite2 (fun hi=>?_) (fun _=>q 0)
 obtain ⟨n,e⟩:=zpV h0 hi
 exact ⟨a,_,i,_,rfl,rfl,hS,e,q n⟩
theorem zfG (T:Txt mg) (dd:Dds K mg):zg4 P w K mg base:=by
 exact Df.dN dd.d_law_pen zg3 1 rfl fun f cdv A outer s H E hr=>⟨_,_,(zj (zD (i:=1) zg3.nd rfl (Or.inl rfl) (zJ (ziS rfl) (by rfl) T.n_max zki (zc (pv 0) (zc (zA za7 zf (pv 0)) zi)))) (zr (zO (zaD (zc (pv 1) (zc (zbw zlO (by rfl) T.n_int zo3 (zc (zfH zs7 (pv 1) (zA zfJ zf zf) (nomark _)) zi)) (zc (zA zeG (pv 1) zf) zi))))))),(zt (zy (zaR zqy (za zd (za (zp zcm zg zd) zh))) zm) (zU (zdx (za zd (za (zaR zpX (za (zp zb2 zd (zp zhl zg zg)) zh)) (za (zp zhl zd zg) zh)))))),fun xs S R q=>q⟩
theorem zb6 (T:Txt mg) (dd:Dds K mg):zee P w K mg base:=by
 exact Df.dN dd.d_law_next zf6 0 rfl fun f cdv A outer s H E hr=>⟨_,_,(zj (zD (i:=0) zf6.nd rfl (Or.inl rfl) (zA zeG (zA zH (pv 0) zf) zf)) (zr (zO (zA zeG (zA zH (zA zH (zA zay (pv 0) (pv 0)) (zA zay zf (pv 0))) zf) zf)))),(zt (zy (zp zhl (zp zX zd zg) zg) zm) (zU (zp zhl (zp zX (zp zX (zp zbb zd zd) (zp zbb zg zd)) zg) zg))),fun xs S R q=>q⟩
theorem zu (T:Txt mg) (dd:Dds K mg) (zb6:zee P w K mg base):zaN P w K mg base:=by
 exact Df.dN dd.d_law_draw zga 1 rfl fun f cdv A outer s H E hr=>⟨_,_,(zj (zbQ (zap (zd2 hr.units) (zR zz (pv 0) zf (fun _ _=>rfl)) zf (nomark _)) (zj (zD (i:=2) zga.nd rfl (Or.inl rfl) (zA zeG (zR zz (pv 0) zf (fun _ _=>rfl)) (pv 1))) (zj (ziC (zA zfr (zR zz (pv 0) zf (fun _ _=>rfl)) (pv 1)) (zo8 (pv 0) zf zkk)) (zr (zO (pv 2))))) zai) (zj (ziC (zx zb6 hr (by decide) (zc (zA zH (zx zb6 hr (by decide) (zc (zR zz (pv 0) zf (fun _ _=>rfl)) zi)) zf) zi)) (zo8 (pv 0) zf zkk)) (zr (zO (zA zeG (zA zfr (zR zz (pv 0) zf (fun _ _=>rfl)) zf) (pv 1)))))),(zt (zbW (zfd (zp zd5 (zp zT zd zg) zg)) (zt (zy (zp zhl (zp zT zd zg) zd) zm) (zt (zy (zp ziP (zp zT zd zg) zd) (zpb zd zg)) (zU zd))) zal) (zt (zy (zG (za (zp zX (zG (za (zp zT zd zg) zh)) zg) zh)) (zpb zd zg)) (zU (zp zhl (zp ziP (zp zT zd zg) zg) zd)))),fun xs S R q=>q⟩
theorem zcq (T:Txt mg) (dd:Dds K mg) (zu:zaN P w K mg base):zdi P w K mg base:=by
 exact Df.dN dd.d_law_names zaq 6 rfl fun f cdv A outer s H E hr=>⟨_,_,(zj (zD (i:=1) zaq.nd rfl (Or.inr rfl) zd7) (zj (zD (i:=2) zaq.nd rfl (Or.inl rfl) (zx zu hr (by decide) (zc (pv 0) (zc zf zi)))) (zj (zD (i:=3) zaq.nd rfl (Or.inr rfl) (zx zu hr (by decide) (zc (pv 0) (zc zf zi)))) (zj (ze9 (i:=4) (fun _ _ h=>h) rfl (zan rfl rfl rfl rfl (N:=["k","letters","first"]) (caps:=[none,some 1,some 3]) (by show zbD ["pen","letters","way","first","names","word","at"] (zq s_law_names).names _ _ _ = true; decide +kernel)) zaq.nd rfl rfl (zaC rfl T.n_range (zc zf zi)) (fun _ _ _ _=>(zE (i:=0) (by show List.Nodup (["k","letters","first"]:List Str); decide) rfl (Or.inl rfl))) (fun _ _ _ _=>zbT) (fun _ _ _ _=>(zA zay (zR zz (pv 1) (zA zeG (zA zH (pv 2) (zA zay zf (pv 0))) zf) (fun _ _=>rfl)) (zA zH zf (zA zeG (zA zH (pv 2) (zA zay zf (pv 0))) zf))))) (zj (zbQ (zap (zd2 hr.units) (pv 2) zf (nomark _)) (zj (zD (i:=5) zaq.nd rfl (Or.inr rfl) (zlf PySem.F.plainAttrs_str PySem.F.slot_str_join PySem.F.type_str_join zqH zd7 (zc (zcF (fun _ _ h=>h) rfl (zan rfl rfl rfl rfl (N:=["k","letters","first"]) (caps:=[none,some 1,some 3]) (by show zbD ["pen","letters","way","first","names","word","at"] (zq s_law_names).names _ _ _ = true; decide +kernel)) (zaC rfl T.n_range (zc zf zi)) (fun _ _ _ _=>(zE (i:=0) (by show List.Nodup (["k","letters","first"]:List Str); decide) rfl (Or.inl rfl))) (fun _ _ _ _=>zbT) (fun _ _ _ _=>(zR zz (pv 1) (zA zeG (zA zH (pv 2) (zA zay zf (pv 0))) zf) (fun _ _=>rfl)))) zi))) (zr (ze9 (i:=4) (fun _ _ h=>h) rfl (zan rfl rfl rfl rfl (N:=["k","word"]) (caps:=[none,some 5]) (by show zbD ["pen","letters","way","first","names","word","at"] (zq s_law_names).names _ _ _ = true; decide +kernel)) zaq.nd rfl rfl (zaC rfl T.n_range (zc zf zi)) (fun _ _ _ _=>(zE (i:=0) (by show List.Nodup (["k","word"]:List Str); decide) rfl (Or.inl rfl))) (fun _ _ _ _=>zbT) (fun _ _ _ _=>(zdR zkA (pv 1) zgj (zea (zA zH (pv 0) zf))))))) zai) (zj (zbQ (zap (zd2 hr.units) (pv 2) zf (nomark _)) (zr (zD (i:=4) zaq.nd rfl (Or.inl rfl) (zaD (zc zd7 (zc zd7 (zc zd7 (zc zd7 (zc zd7 (zc zd7 (zc zd7 (zc zd7 zi))))))))))) zai) (zj (zD (i:=6) zaq.nd rfl (Or.inl rfl) (zx zu hr (by decide) (zc (pv 0) (zc zf zi)))) (zj (zD (i:=4) zaq.nd rfl (Or.inl rfl) (zA zlM (zdR zkA (pv 4) (zea (pv 6)) zgj) (zdR zkA (pv 4) zgj (zea (pv 6))))) (zj (zbQ (zap (zd2 hr.units) (zx zu hr (by decide) (zc (pv 0) (zc zf zi))) zf (nomark _)) (zr (zec (zpS PySem.F.plainAttrs_list PySem.F.slot_list_reverse PySem.F.type_list_reverse zgQ (pv 4)))) zai) (zr (zO (pv 4)))))))))))),(zt (zy zd1 zm) (zt (zy (zM (i:=0) (za zd (za zg zh))) zm) (zt (zy (zM (i:=0) (za zd (za zg zh))) zm) (zt (zy (zjU (zbp (za zg zh)) zm zbS (zp zbb (zp zT zd (zp zhl (zp zX zd (zp zbb zg zd)) zg)) (zp zX zg (zp zhl (zp zX zd (zp zbb zg zd)) zg)))) zm) (zt (zbW (zfd (zp zd5 zd zg)) (zt (zy (zrF zow zd1 (za (zbu (zbp (za zg zh)) zm zbS (zp zT zd (zp zhl (zp zX zd (zp zbb zg zd)) zg))) zh)) zm) (zy (zjU (zbp (za zg zh)) zm zbS (zmh zkl zd zfV (zgh (zp zX zd zg)))) zm)) zal) (zt (zbW (zfd (zp zd5 zd zg)) (zy (zdx (za zd1 (za zd1 (za zd1 (za zd1 (za zd1 (za zd1 (za zd1 (za zd1 zh))))))))) zm) zal) (zt (zy (zM (i:=0) (za zd (za zg zh))) zm) (zt (zy (zp zqs (zmh zkl zd (zgh zd) zfV) (zmh zkl zd zfV (zgh zd))) zm) (zt (zbW (zfd (zp zd5 (zM (i:=0) (za zd (za zg zh))) zg)) (zef (zpp zgM zd)) zal) (zU zd)))))))))),fun xs S R q=>q⟩
theorem zbO (T:Txt mg) (dd:Dds K mg) (zu:zaN P w K mg base):zc2 P w K mg base:=by
 exact Df.dN dd.d_law_number zeN 1 rfl fun f cdv A outer s H E hr=>⟨_,_,(zj (zD (i:=1) zeN.nd rfl (Or.inl rfl) (zx zu hr (by decide) (zc (pv 0) (zc zf zi)))) (zj (zbQ (zap zgB (pv 1) zf (nomark _)) (zr (zO (zA za7 (zx zu hr (by decide) (zc (pv 0) (zc zf zi))) zf))) zai) (zj (zbQ (zap zgB (pv 1) zf (nomark _)) (zr (zO (zA za7 (zx zu hr (by decide) (zc (pv 0) (zc zf zi))) zf))) zai) (zr (zO (zA zay (zA za7 (zx zu hr (by decide) (zc (pv 0) (zc (zA zay zf (zA zfJ zf zf)) zi))) (zA zfJ zf zf)) (zA zfJ zf zf))))))),(zt (zy (zM (i:=0) (za zd (za zg zh))) zm) (zt (zbW (zfd (zp zb2 zd zg)) (zU (zp zcm (zM (i:=0) (za zd (za zg zh))) zg)) zal) (zt (zbW (zfd (zp zb2 zd zg)) (zU (zp zcm (zM (i:=0) (za zd (za zg zh))) zg)) zal) (zU (zp zbb (zp zcm (zM (i:=0) (za zd (za (zp zbb zg (zp zhl zg zg)) zh))) (zp zhl zg zg)) (zp zhl zg zg)))))),fun xs S R q=>q⟩
theorem zcT (T:Txt mg) (dd:Dds K mg) (zcq:zdi P w K mg base) (zu:zaN P w K mg base) (zbO:zc2 P w K mg base):zd4 P w K mg base:=by
 exact Df.dN dd.d_law_counted zaz 5 rfl fun f cdv A outer s H E hr=>⟨_,_,(zj (zD (i:=1) zaz.nd rfl (Or.inl rfl) (zx zcq hr (by decide) (zc (pv 0) zi))) (zmJ (ze9 (i:=2) (fun _ _ h=>h) rfl (zan rfl rfl rfl rfl (N:=["k","pen"]) (caps:=[none,some 0]) (by show zbD ["pen","names","wides","drawing","k","low"] (zq s_law_counted).names _ _ _ = true; decide +kernel)) zaz.nd rfl rfl (zaC rfl T.n_range (zc (zA zH zf (zx zu hr (by decide) (zc (pv 0) (zc zf zi)))) zi)) (fun _ _ _ _=>(zE (i:=0) (by show List.Nodup (["k","pen"]:List Str); decide) rfl (Or.inl rfl))) (fun _ _ _ _=>zbT) (fun _ _ _ _=>(zA zH zf (zx zu hr (by decide) (zc (pv 1) (zc zf zi)))))) (zlS (zrR (zap (zd2 hr.units) (zx zu hr (by decide) (zc (pv 0) (zc zf zi))) zf (nomark _)) (zn9 (zoE (i:=2) zaz.nd rfl (Or.inl rfl) (zN (zaD (zc zf zi)) (zN (zaD (zc zf zi)) (zN (zaD (zc zf zi)) (zN (zaD (zc zf (zc zf (zc zf zi)))) (zN (zA zay (zaD (zc zf zi)) zf) (zN (zaD (zc zf (zc zf zi))) zg0)))))) (zx zu hr (by decide) (zc (pv 0) (zc zf zi))) (fun _ _=>rfl))) (QSs.mk zai)) (QSs.mk (zj (zD (i:=3) zaz.nd rfl (Or.inl rfl) (zaD zi)) (zj (zce PassesOwn.never rfl (zaC rfl T.n_range (zc (zJ zau (by rfl) T.n_len zbY (zc (pv 2) zi)) zi)) (zE (i:=4) zaz.nd rfl (Or.inl rfl)) (zj (zD (i:=5) zaz.nd rfl (Or.inl rfl) (zx zbO hr (by decide) (zc (pv 0) zi))) (zr (zec (zlf PySem.F.plainAttrs_list PySem.F.slot_list_append PySem.F.type_list_append zcJ (pv 3) (zc (zcy (zc (zR zz (pv 1) (pv 4) (fun _ _=>rfl)) (zc (pv 5) (zc (zA za7 (zA zH (pv 5) (zR zz (pv 2) (pv 4) (fun _ _=>rfl))) zf) zi)))) zi)))))) (zr (zO (zbw zb3 (by rfl) T.n_tuple zey (zc (pv 3) zi)))))))))),(zt (zy (zM (i:=0) (za zd zh)) zm) (zt (zy (zbu (zbp (za (zp zX zg (zM (i:=0) (za zd (za zg zh)))) zh)) zm zbS (zp zX zg (zM (i:=0) (za zd (za zg zh))))) zm) (zt (zbW (zfd (zp zd5 (zM (i:=0) (za zd (za zg zh))) zg)) (zy (zp zT (za6 (za (za6 (za zg zh)) (za (za6 (za zg zh)) (za (za6 (za zg zh)) (za (za6 (za zg (za zg (za zg zh)))) (za (zp zbb (za6 (za zg zh)) zg) (za (za6 (za zg (za zg zh))) zh))))))) (zM (i:=0) (za zd (za zg zh)))) zm) zal) (zt (zy (zdx zh) zm) (zt (zdd (zbp (za (zaR zbg (za zd zh)) zh)) zm (zt (zy (zM (i:=0) (za zd zh)) zm) (zef (znn zdE zd (za (zcB (za (zp zT zd zd) (za zd (za (zp zcm (zp zX zd (zp zT zd zd)) zg) zh)))) zh))))) (zU (zaR zfA (za zd zh)))))))),fun xs S R q=>q⟩
theorem zck (T:Txt mg) (dd:Dds K mg) (zu:zaN P w K mg base):zdg P w K mg base:=by
 exact Df.dN dd.d_law_terms zbN 3 rfl fun f cdv A outer s H E hr=>⟨_,_,(zj (zD (i:=2) zbN.nd rfl (Or.inl rfl) (zR zz (zf7 (zN (zf7 (zN zf (zN (zeM zcD zf) (zN zf (zN (zeM zcD zf) (zN zf (zN (zeM zcD zf) zg0))))))) (zN (zaD (zc zf (zc (zeM zcD zf) zi))) (zN (zaD (zc zf (zc (zeM zcD zf) zi))) (zN (zaD (zc zf (zc (zeM zcD zf) zi))) (zN (zaD (zc zf (zc zf (zc (zeM zcD zf) (zc (zeM zcD zf) zi))))) (zN (zaD (zc zf (zc zf (zc (zeM zcD zf) (zc (zeM zcD zf) zi))))) zg0))))))) (zx zu hr (by decide) (zc (pv 0) (zc zf zi))) (fun _ _=>rfl))) (zj (zD (i:=3) zbN.nd rfl (Or.inl rfl) (zaD zi)) (zj (zce PassesOwn.never rfl (zaC rfl T.n_range (zc (zJ zau (by rfl) T.n_len zbY (zc (pv 1) zi)) zi)) (zE (i:=4) zbN.nd rfl (Or.inl rfl)) (zr (zbQ (zap zqm (zx zu hr (by decide) (zc (pv 0) (zc zf zi))) zf (nomark _)) (zr (zec (zlf PySem.F.plainAttrs_list PySem.F.slot_list_append PySem.F.type_list_append zcJ (pv 3) (zc (zcy (zc (pv 4) (zc (zR zz (pv 2) (zx zu hr (by decide) (zc (pv 0) (zc (zJ zau (by rfl) T.n_len zbY (zc (pv 2) zi)) zi))) (fun _ _=>rfl)) zi))) zi)))) zai))) (zj (zbQ (zap (zd2 hr.units) (pv 3) (zaD zi) (nomark _)) (zr (zD (i:=3) zbN.nd rfl (Or.inl rfl) (zaD (zc (zcy (zc (zx zu hr (by decide) (zc (pv 0) (zc (zJ zau (by rfl) T.n_len zbY (zc (pv 1) zi)) zi))) (zc (zR zz (pv 2) (zx zu hr (by decide) (zc (pv 0) (zc (zJ zau (by rfl) T.n_len zbY (zc (pv 2) zi)) zi))) (fun _ _=>rfl)) zi))) zi)))) zai) (zr (zO (zbw zb3 (by rfl) T.n_tuple zey (zc (pv 3) zi)))))))),(zt (zy (zp zT (za6 (za (za6 (za zg (za (zeT zjC zg) (za zg (za (zeT zjC zg) (za zg (za (zeT zjC zg) zh))))))) (za (za6 (za zg (za (zeT zjC zg) zh))) (za (za6 (za zg (za (zeT zjC zg) zh))) (za (za6 (za zg (za (zeT zjC zg) zh))) (za (za6 (za zg (za zg (za (zeT zjC zg) (za (zeT zjC zg) zh))))) (za (za6 (za zg (za zg (za (zeT zjC zg) (za (zeT zjC zg) zh))))) zh))))))) (zM (i:=0) (za zd (za zg zh)))) zm) (zt (zy (zdx zh) zm) (zt (zdd (zbp (za (zaR zbg (za zd zh)) zh)) zm (zbW (zfd (zp zb2 (zM (i:=0) (za zd (za zg zh))) zg)) (zef (znn zdE zd (za (zcB (za zd (za (zp zT zd (zM (i:=0) (za zd (za (zaR zbg (za zd zh)) zh)))) zh))) zh))) zal)) (zt (zbW (zfd (zp zd5 zd (za6 zh))) (zy (zdx (za (zcB (za (zM (i:=0) (za zd (za (zaR zbg (za zd zh)) zh))) (za (zp zT zd (zM (i:=0) (za zd (za (zaR zbg (za zd zh)) zh)))) zh))) zh)) zm) zal) (zU (zaR zfA (za zd zh))))))),fun xs S R q=>q⟩
theorem zb9 (T:Txt mg) (dd:Dds K mg):zel P w K mg base:=by
 exact Df.dN dd.d_law_ends zaZ 5 rfl fun f cdv A outer s H E hr=>⟨_,_,(zj (zD (i:=2) zaZ.nd rfl (Or.inl rfl) zf) (zj (zD (i:=3) zaZ.nd rfl (Or.inl rfl) zf) (zj (zce PassesOwn.never rfl (zdD (pv 1)) (zcv (n:=2) rfl (zQ (zE (i:=4) zaZ.nd rfl (Or.inl rfl)) (zQ (zE (i:=5) zaZ.nd rfl (Or.inl rfl)) zbv))) (zj (zD (i:=6) zaZ.nd rfl (Or.inl rfl) (zaD (zc (zA zay (pv 5) (zR zz (zR zz (pv 0) (pv 4) (fun _ _=>rfl)) zf (fun _ _=>rfl))) (zc (zA zay (pv 5) (zR zz (zR zz (pv 0) (pv 4) (fun _ _=>rfl)) zf (fun _ _=>rfl))) zi)))) (zj (zD (i:=2) zaZ.nd rfl (Or.inl rfl) (zA zH (pv 2) (zJ (zig rfl hr.units) (by rfl) T.n_min zm0 (zc (pv 6) zi)))) (zr (zD (i:=3) zaZ.nd rfl (Or.inl rfl) (zA zH (pv 3) (zJ (zh6 rfl) (by rfl) T.n_max zki (zc (pv 6) zi)))))))) (zr (zO (zcy (zc (pv 2) (zc (pv 3) zi)))))))),(zt (zy zg zm) (zt (zy zg zm) (zt (zdd (zdn zd) (zcu (zP zm (zP zm zbo))) (zt (zy (za6 (za (zp zbb zd (zp zT (zp zT zd zd) zg)) (za (zp zbb zd (zp zT (zp zT zd zd) zg)) zh))) zm) (zt (zy (zp zX zd (zaR zmO (za zd zh))) zm) (zy (zp zX zd (zaR zoL (za zd zh))) zm)))) (zU (zcB (za zd (za zd zh))))))),fun xs S R q=>q⟩
theorem zgv (T:Txt mg) (dd:Dds K mg) (zck:zdg P w K mg base) (zb9:zel P w K mg base) (zu:zaN P w K mg base):zgP P w K mg base:=by
 exact Df.dN dd.d_law_gap zbE 6 rfl fun f cdv A outer s H E hr=>⟨_,_,(zj (zD (i:=2) zbE.nd rfl (Or.inl rfl) (zx zck hr (by decide) (zc (pv 0) (zc (pv 1) zi)))) (zj (ziC (zx zb9 hr (by decide) (zc (pv 1) (zc (pv 2) zi))) (zcv (n:=2) rfl (zQ (zE (i:=3) zbE.nd rfl (Or.inl rfl)) (zQ (zE (i:=4) zbE.nd rfl (Or.inl rfl)) zbv)))) (zj (zD (i:=5) zbE.nd rfl (Or.inl rfl) (zA za7 (pv 4) (pv 3))) (zj (zD (i:=6) zbE.nd rfl (Or.inl rfl) (zA zH (pv 3) (zR zz (zf7 (zN zf (zN zf (zN (zeM zcD zf) (zN (zA zfr (pv 5) zf) (zN (zA zfr (pv 5) zf) (zN (zA zH (pv 5) zf) (zN (pv 5) (zN (zA za7 (pv 5) zf) zg0))))))))) (zx zu hr (by decide) (zc (pv 0) (zc zf zi))) (fun _ _=>rfl)))) (zj (zD (i:=7) zbE.nd rfl (Or.inl rfl) (zA zH (pv 6) (zR zz (zf7 (zN zf (zN zf (zN zf (zN (zA zfr (pv 5) zf) (zN (pv 5) (zN (zA zH (pv 5) zf) zg0))))))) (zx zu hr (by decide) (zc (pv 0) (zc zf zi))) (fun _ _=>rfl)))) (zr (zO (zcy (zc (pv 2) (zc (pv 6) (zc (pv 7) zi))))))))))),(zt (zy (zM (i:=0) (za zd (za zd zh))) zm) (zt (zy (zG (za zd (za zd zh))) (zcu (zP zm (zP zm zbo)))) (zt (zy (zp zcm zd zd) zm) (zt (zy (zp zX zd (zp zT (za6 (za zg (za zg (za (zeT zjC zg) (za (zp ziP zd zg) (za (zp ziP zd zg) (za (zp zX zd zg) (za zd (za (zp zcm zd zg) zh))))))))) (zM (i:=0) (za zd (za zg zh))))) zm) (zt (zy (zp zX zd (zp zT (za6 (za zg (za zg (za zg (za (zp ziP zd zg) (za zd (za (zp zX zd zg) zh))))))) (zM (i:=0) (za zd (za zg zh))))) zm) (zU (zcB (za zd (za zd (za zd zh)))))))))),fun xs S R q=>q⟩
theorem zep (T:Txt mg) (dd:Dds K mg) (zu:zaN P w K mg base):zfm P w K mg base:=by
 exact Df.dN dd.d_law_idled zaL 6 rfl fun f cdv A outer s H E hr=>⟨_,_,(zj (ze9 (i:=3) (fun _ _ h=>h) rfl (zan (L:=0) rfl rfl rfl rfl (N:=["part","times"]) (caps:=[none,none]) (by show zbD ["pen","drawing","gap","there","found","k","name","low","high"] (zq s_law_idled).names _ _ _ = true; decide +kernel)) zaL.nd rfl rfl (zdD (zR zz (pv 2) zf (fun _ _=>rfl))) (fun _ _ _ _=>(zcv (n:=2) rfl (zQ (zE (i:=0) (by show List.Nodup (["part","times"]:List Str); decide) rfl (Or.inl rfl)) (zQ (zE (i:=1) (by show List.Nodup (["part","times"]:List Str); decide) rfl (Or.inl rfl)) zbv)))) (fun _ _ _ _=>zbT) (fun _ _ _ _=>(pv 0))) (zj (zD (i:=4) zaL.nd rfl (Or.inl rfl) (zaD zi)) (zj (zce PassesOwn.never rfl (zaC rfl T.n_range (zc (zJ zau (by rfl) T.n_len zbY (zc (pv 1) zi)) zi)) (zE (i:=5) zaL.nd rfl (Or.inl rfl)) (zj (ziC (zR zz (pv 1) (pv 5) (fun _ _=>rfl)) (zcv (n:=3) rfl (zQ (zE (i:=6) zaL.nd rfl (Or.inl rfl)) (zQ (zE (i:=7) zaL.nd rfl (Or.inl rfl)) (zQ (zE (i:=8) zaL.nd rfl (Or.inl rfl)) zbv))))) (zj (zbQ (PW.pt (ziK (zap (zl1 hr.units) (pv 5) (pv 3) (by rfl)) (zf8 (zap (zd2 hr.units) (zx zu hr (by decide) (zc (pv 0) (zc zf zi))) zf (nomark _))))) (zr (zD (i:=8) zaL.nd rfl (Or.inl rfl) (zA zH (pv 7) (zx zu hr (by decide) (zc (pv 0) (zc (zA zfJ zf zf) zi)))))) zai) (zr (zec (zlf PySem.F.plainAttrs_list PySem.F.slot_list_append PySem.F.type_list_append zcJ (pv 4) (zc (zcy (zc (pv 6) (zc (pv 7) (zc (pv 8) zi)))) zi))))))) (zr (zO (zbw zb3 (by rfl) T.n_tuple zey (zc (pv 4) zi))))))),(zt (zy (zbu (zdn (zp zT zd zg)) (zcu (zP zm (zP zm zbo))) zbS zd) zm) (zt (zy (zdx zh) zm) (zt (zdd (zbp (za (zaR zbg (za zd zh)) zh)) zm (zt (zy (zp zT zd zd) (zcu (zP zm (zP zm (zP zm zbo))))) (zt (zbW (zh2 (zfd (zp znN zd zd)) (zfd (zp zd5 (zM (i:=0) (za zd (za zg zh))) zg))) (zy (zp zX zd (zM (i:=0) (za zd (za (zp zhl zg zg) zh)))) zm) zal) (zef (znn zdE zd (za (zcB (za zd (za zd (za zd zh)))) zh)))))) (zU (zaR zfA (za zd zh)))))),fun xs S R q=>q⟩
theorem zgt (T:Txt mg) (dd:Dds K mg) (zu:zaN P w K mg base):zgH P w K mg base:=by
 exact Df.dN dd.d_law_set zb8 5 rfl fun f cdv A outer s H E hr=>⟨_,_,(zj (zD (i:=2) zb8.nd rfl (Or.inl rfl) (zaD zi)) (zj (zce PassesOwn.never rfl (zdD (pv 1)) (zcv (n:=3) rfl (zQ (zE (i:=3) zb8.nd rfl (Or.inl rfl)) (zQ (zE (i:=4) zb8.nd rfl (Or.inl rfl)) (zQ (zE (i:=5) zb8.nd rfl (Or.inl rfl)) zbv)))) (zj (zD (i:=6) zb8.nd rfl (Or.inl rfl) (zaD (zc (pv 4) (zc (pv 5) (zc (zA zH (pv 4) (zA zfr (zA za7 (pv 5) (pv 4)) zf)) (zc (zJ (zlD rfl) (by rfl) T.n_min zm0 (zc (pv 5) (zc (zA zH (pv 4) zf) zi))) (zc (zJ (ziS rfl) (by rfl) T.n_max zki (zc (pv 4) (zc (zA za7 (pv 5) zf) zi))) zi))))))) (zr (zec (zlf PySem.F.plainAttrs_list PySem.F.slot_list_append PySem.F.type_list_append zcJ (pv 2) (zc (zR zz (zA zH (pv 6) (zaD (zc (zA zH (pv 4) (zA zeG (zx zu hr (by decide) (zc (pv 0) (zc (zA zfJ zf zf) zi))) (zA zH (zA za7 (pv 5) (pv 4)) zf))) zi))) (zx zu hr (by decide) (zc (pv 0) (zc zf zi))) (fun _ _=>rfl)) zi)))))) (zr (zO (zbw zb3 (by rfl) T.n_tuple zey (zc (pv 2) zi)))))),(zt (zy (zdx zh) zm) (zt (zdd (zdn zd) (zcu (zP zm (zP zm (zP zm zbo)))) (zt (zy (za6 (za zd (za zd (za (zp zX zd (zp ziP (zp zcm zd zd) zg)) (za (zaR zqy (za zd (za (zp zX zd zg) zh))) (za (zaR zqy (za zd (za (zp zcm zd zg) zh))) zh)))))) zm) (zef (znn zdE zd (za (zp zT (zp zX zd (za6 (za (zp zX zd (zp zhl (zM (i:=0) (za zd (za (zp zhl zg zg) zh))) (zp zX (zp zcm zd zd) zg))) zh))) (zM (i:=0) (za zd (za zg zh)))) zh))))) (zU (zaR zfA (za zd zh))))),fun xs S R q=>q⟩
theorem zK (T:Txt mg) (dd:Dds K mg):zaQ P w K mg base:=by
 exact Df.dN dd.d_kept_behind zgx 0 rfl fun f cdv A outer s H E hr=>⟨_,_,(zr (zO (zJ (zdw rfl) (by rfl) T.n_sum ziJ (zc (zcF (fun _ _ h=>h) rfl (zan rfl rfl rfl rfl (N:=["more","many","gap","worth"]) (caps:=[none,none,some 1,some 2]) (by show zbD ["tally","gap","worth"] (zq s_kept_behind).names _ _ _ = true; decide +kernel)) (zhn (pv 0) rfl rfl) (fun _ _ _ _=>(zcv (n:=2) rfl (zQ (zE (i:=0) (by show List.Nodup (["more","many","gap","worth"]:List Str); decide) rfl (Or.inl rfl)) (zQ (zE (i:=1) (by show List.Nodup (["more","many","gap","worth"]:List Str); decide) rfl (Or.inl rfl)) zbv)))) (fun _ _ _ _=>(zhg (zeA zgi zgi (zR zz (pv 2) zf (fun _ _=>rfl)) (zA zH (pv 3) (pv 0)) (zR zz (pv 2) zf (fun _ _=>rfl))))) (fun _ _ _ _=>(pv 1))) zi)))),(zU (zaR zi0 (za (zbu (zhf zd) (zcu (zP zm (zP zm zbo))) (zfd (zcz zb2 zb2 (zp zT zd zg) (zp zX zd zd) (zp zT zd zg))) zd) zh))),fun xs S R q=>q⟩
theorem zbL (T:Txt mg) (dd:Dds K mg):zdS P w K mg base:=by
 exact Df.dN dd.d_size_of zkG 0 rfl fun f cdv A outer s H E hr=>⟨_,_,(zr (zO (zA zH (zA za7 (zR zz (pv 0) zf (fun _ _=>rfl)) (zR zz (pv 0) zf (fun _ _=>rfl))) zf))),(zU (zp zX (zp zcm (zp zT zd zg) (zp zT zd zg)) zg)),fun xs S R q=>q⟩
theorem ziz (T:Txt mg) (dd:Dds K mg):zjB P w K mg base:=by
 exact Df.dN dd.d_plus zpW 0 rfl fun f cdv A outer s H E hr=>⟨_,_,(zr (zO (zcy (zc (zA zH (zR zz (pv 0) zf (fun _ _=>rfl)) (zR zz (pv 1) zf (fun _ _=>rfl))) (zc (zA zH (zR zz (pv 0) zf (fun _ _=>rfl)) (zR zz (pv 1) zf (fun _ _=>rfl))) zi))))),(zU (zcB (za (zp zX (zp zT zd zg) (zp zT zd zg)) (za (zp zX (zp zT zd zg) (zp zT zd zg)) zh)))),fun xs S R q=>q⟩
theorem zbK (T:Txt mg) (dd:Dds K mg):zcZ P w K mg base:=by
 exact Df.dN dd.d_multiplied zeS 1 rfl fun f cdv A outer s H E hr=>⟨_,_,(zj (zD (i:=2) zeS.nd rfl (Or.inl rfl) (zcy (zc (zA zay (zR zz (pv 0) zf (fun _ _=>rfl)) (pv 1)) (zc (zA zay (zR zz (pv 0) zf (fun _ _=>rfl)) (pv 1)) zi)))) (zr (zO (zcy (zc (zJ (zig rfl hr.units) (by rfl) T.n_min zm0 (zc (pv 2) zi)) (zc (zJ (zh6 rfl) (by rfl) T.n_max zki (zc (pv 2) zi)) zi)))))),(zt (zy (zcB (za (zp zbb (zp zT zd zg) zd) (za (zp zbb (zp zT zd zg) zd) zh))) zm) (zU (zcB (za (zaR zmO (za zd zh)) (za (zaR zoL (za zd zh)) zh))))),fun xs S R q=>q⟩
theorem za2 (T:Txt mg) (dd:Dds K mg):zcG P w K mg base:=by
 exact Df.dN dd.d_span_of zkF 0 rfl fun f cdv A outer s H E hr=>⟨_,_,(zr (zO (zcy (zc (zR zz (pv 0) zf (fun _ _=>rfl)) (zc (zR zz (pv 0) zf (fun _ _=>rfl)) zi))))),(zU (zcB (za (zp zT zd zg) (za (zp zT zd zg) zh)))),fun xs S R q=>q⟩
theorem zaO (T:Txt mg) (dd:Dds K mg) (ziz:zjB P w K mg base) (zbK:zcZ P w K mg base) (za2:zcG P w K mg base):zbG P w K mg base:=by
 exact Df.dN dd.d_reach_of_terms zaE 3 rfl fun f cdv A outer s H E hr=>⟨_,_,(zj (zD (i:=2) zaE.nd rfl (Or.inl rfl) (zcy (zc zf (zc zf zi)))) (zj (zce PassesOwn.never rfl (zdD (pv 1)) (zcv (n:=2) rfl (zQ (zE (i:=3) zaE.nd rfl (Or.inl rfl)) (zQ (zE (i:=4) zaE.nd rfl (Or.inl rfl)) zbv))) (zr (zD (i:=2) zaE.nd rfl (Or.inl rfl) (zx ziz hr (by decide) (zc (pv 2) (zc (zx zbK hr (by decide) (zc (zx za2 hr (by decide) (zc (zR zz (pv 0) (pv 3) (fun _ _=>rfl)) zi)) (zc (pv 4) zi))) zi)))))) (zr (zO (pv 2))))),(zt (zy (zcB (za zg (za zg zh))) zm) (zt (zdd (zdn zd) (zcu (zP zm (zP zm zbo))) (zy (zG (za zd (za (zG (za (zG (za (zp zT zd zd) zh)) (za zd zh))) zh))) zm)) (zU zd))),fun xs S R q=>q⟩
theorem zgc (T:Txt mg) (dd:Dds K mg) (zaO:zbG P w K mg base):zhQ P w K mg base:=by
 exact Df.dN dd.d_reach znR 0 rfl fun f cdv A outer s H E hr=>⟨_,_,(zr (zO (zx zaO hr (by decide) (zc (pv 0) (zc (zR zz (pv 1) zf (fun _ _=>rfl)) zi))))),(zU (zG (za zd (za (zp zT zd zg) zh)))),fun xs S R q=>q⟩
theorem zci (T:Txt mg) (dd:Dds K mg) (zbL:zdS P w K mg base):zdm P w K mg base:=by
 exact Df.dN dd.d_with_part zbk 5 rfl fun f cdv A outer s H E hr=>⟨_,_,(zj (zbQ (zap (zd2 hr.units) (pv 2) zf (nomark _)) (zr (zO (zmj (zbw (zfu rfl) (by rfl) T.n_dict zhi (zc (zcF (fun _ _ h=>h) rfl (zan rfl rfl rfl rfl (N:=["worth","many","span"]) (caps:=[none,none,some 1]) (by show zbD ["tally","span","times","longer","number","worth","many","total"] (zq s_with_part).names _ _ _ = true; decide +kernel)) (zhn (pv 0) rfl rfl) (fun _ _ _ _=>(zcv (n:=2) rfl (zQ (zE (i:=0) (by show List.Nodup (["worth","many","span"]:List Str); decide) rfl (Or.inl rfl)) (zQ (zE (i:=1) (by show List.Nodup (["worth","many","span"]:List Str); decide) rfl (Or.inl rfl)) zbv)))) (fun _ _ _ _=>zbT) (fun _ _ _ _=>(zcy (zc (pv 0) (zc (zA zay (pv 1) (zx zbL hr (by decide) (zc (pv 2) zi))) zi))))) zi))))) zai) (zj (zD (i:=3) zbk.nd rfl (Or.inl rfl) zoA) (zj (ztp (i:=3) (zce PassesOwn.never rfl (ze4 rfl T.n_range (zc (zR zz (pv 1) zf (fun _ _=>rfl)) (zc (zA zH (zR zz (pv 1) zf (fun _ _=>rfl)) zf) zi))) (zE (i:=4) zbk.nd rfl (Or.inl rfl)) (zr (zce PassesOwn.never rfl (zhn (pv 0) rfl rfl) (zcv (n:=2) rfl (zQ (zE (i:=5) zbk.nd rfl (Or.inl rfl)) (zQ (zE (i:=6) zbk.nd rfl (Or.inl rfl)) zbv))) (zj (zD (i:=7) zbk.nd rfl (Or.inl rfl) (zA zH (pv 5) (zA zay (pv 2) (pv 4)))) (zr (zqf (zmo hr) (pv 3) (pv 7) (zA zH (zku (zmo hr) (pv 3) (pv 7) zf ⟨rfl,rfl,rfl,rfl⟩) (pv 6)) rfl))))))) (zr (zO (pv 3)))))),(zt (zbW (zfd (zp zd5 zd zg)) (zU (zmU (za (zbu (zhf zd) (zcu (zP zm (zP zm zbo))) zbS (zcB (za zd (za (zp zbb zd (zG (za zd zh))) zh)))) zh))) zal) (zqG (zqp (zqD (zpG (fun M=>zlY (zhR (za (zp zT zd zg) (za (zp zX (zp zT zd zg) zg) zh)))) zm (zpG (fun M=>zlY (zhf zd)) (zcu (zP zm (zP zm zbo))) (zsp (zqO (zy (zp zX zd (zp zbb zd zd)) zm)) (zrp (fun M=>(za9 zd)) (fun M=>(zti zX (zjT (za9 zd) (za9 zd) (za9 zg)) (za9 zd))))))))) (zU zd))),fun xs S R q=>q⟩
theorem zah (T:Txt mg) (dd:Dds K mg) (zbL:zdS P w K mg base) (zgc:zhQ P w K mg base) (zci:zdm P w K mg base) (za2:zcG P w K mg base):zbn P w K mg base:=by
 exact Df.dN dd.d_tallies_of zby 4 rfl fun f cdv A outer s H E hr=>⟨_,_,(zj (zD (i:=2) zby.nd rfl (Or.inl rfl) (zx zbL hr (by decide) (zc (zx zgc hr (by decide) (zc (pv 0) (zc (pv 1) zi))) zi))) (zj (zbQ (zap zqm (pv 2) (zol rfl T.g_MOST_WORTHS) (nomark _)) (zr zhy) zai) (zj (zD (i:=3) zby.nd rfl (Or.inl rfl) (zmj (zbw (zcl rfl) (by rfl) T.n_dict zhi (zc (zR zz (pv 1) zf (fun _ _=>rfl)) zi)))) (zj (zD (i:=4) zby.nd rfl (Or.inl rfl) (zaD (zc (zmj (zqT (zor zf zf zpY) rfl rfl (by simp) (by decide))) zi))) (zj (zce PassesOwn.never rfl (zlU rfl T.n_range (zc (zA za7 (zJ zau (by rfl) T.n_len zbY (zc (pv 0) zi)) zf) (zc (zeM zcD zf) (zc (zeM zcD zf) zi)))) (zE (i:=5) zby.nd rfl (Or.inl rfl)) (zr (zec (zlf PySem.F.plainAttrs_list PySem.F.slot_list_append PySem.F.type_list_append zcJ (pv 4) (zc (zx zci hr (by decide) (zc (zR zz (pv 4) (zeM zcD zf) (fun _ _=>rfl)) (zc (zx za2 hr (by decide) (zc (zR zz (pv 0) (pv 5) (fun _ _=>rfl)) zi)) (zc (zku (zmo hr) (pv 3) (pv 5) zf ⟨rfl,rfl,rfl,rfl⟩) zi)))) zi))))) (zj (zec (zpS PySem.F.plainAttrs_list PySem.F.slot_list_reverse PySem.F.type_list_reverse zgQ (pv 4))) (zr (zO (pv 4))))))))),(zt (zy (zG (za (zG (za zd (za zd zh))) zh)) zm) (zt (zbW (zfd (zp zb2 zd zg)) zht zal) (zt (zy (zho (za (zp zT zd zg) zh)) zm) (zt (zy (zdx (za znK zh)) zm) (zt (zdd (zqh (za (zp zcm (zaR zbg (za zd zh)) zg) (za (zeT zjC zg) (za (zeT zjC zg) zh)))) zm (zef (znn zdE zd (za (zG (za (zp zT zd (zeT zjC zg)) (za (zG (za (zp zT zd zd) zh)) (za (zqL (zjT (za9 zd) (za9 zd) (za9 zg))) zh)))) zh)))) (zt (zef (zpp zgM zd)) (zU zd))))))),fun xs S R q=>q⟩
theorem zdB (T:Txt mg) (dd:Dds K mg) (zK:zaQ P w K mg base) (zah:zbn P w K mg base):zeH P w K mg base:=by
 exact Df.dN dd.d_kept_count zhr 0 rfl fun f cdv A outer s H E hr=>⟨_,_,(zr (zO (zx zK hr (by decide) (zc (zR zz (zx zah hr (by decide) (zc (pv 0) (zc (pv 1) zi))) zf (fun _ _=>rfl)) (zc (pv 1) (zc zf zi)))))),(zU (zG (za (zp zT (zG (za zd (za zd zh))) zg) (za zd (za zg zh))))),fun xs S R q=>q⟩
theorem zbh (T:Txt mg) (dd:Dds K mg):zcY P w K mg base:=by
 exact Df.dN dd.d_is_whole zjk 0 rfl fun f cdv A outer s H E hr=>⟨_,_,(zr (zO (zmS (zJ zhm (by rfl) T.n_isinstance zc4 (zc (pv 0) (zc (zjo rfl T.n_int zo3 (v:=.ty "int") rfl) zi))) (znA (zsF (zJ zhm (by rfl) T.n_isinstance zc4 (zc (pv 0) (zc (zjo rfl T.n_bool zqS (v:=.ty "bool") rfl) zi)))))))),(zU (zmR (zaR zm4 (za zd (za ztn zh))) (zre (zaR zm4 (za zd (za ztn zh)))))),fun xs S R q=>q⟩
theorem zeO (T:Txt mg) (dd:Dds K mg) (zbh:zcY P w K mg base):zgk P w K mg base:=by
 exact Df.dN dd.d_is_set zlN 0 rfl fun f cdv A outer s H E hr=>⟨_,_,(zj (zbQ (PW.pt (zqN (zfl (zb1 (zJ zhm (by rfl) T.n_isinstance zc4 (zc (pv 1) (zc (zjo rfl T.n_tuple zey (v:=.ty "tuple") rfl) zi))) (fun _=>rfl))) (zlW (zap (zmC hr.units) (zJ zau (by rfl) T.n_len zbY (zc (pv 1) zi)) (zJ zau (by rfl) T.n_len zbY (zc (pv 0) zi)) (nomark _))))) (zr (zO zhB)) zai) (zr (zO (zJ (zmN rfl) (by rfl) T.n_all zrI (zc (zcF (fun _ _ h=>h) rfl (zan (L:=0) rfl rfl rfl rfl (N:=["number","part"]) (caps:=[none,none]) (by show zbD ["drawing","thing"] (zq s_is_set).names _ _ _ = true; decide +kernel)) (zqI rfl T.n_zip (zc (pv 1) (zc (pv 0) zi))) (fun _ _ _ _=>(zcv (n:=2) rfl (zQ (zE (i:=0) (by show List.Nodup (["number","part"]:List Str); decide) rfl (Or.inl rfl)) (zQ (zE (i:=1) (by show List.Nodup (["number","part"]:List Str); decide) rfl (Or.inl rfl)) zbv)))) (fun _ _ _ _=>zbT) (fun _ _ _ _=>(zmS (zx zbh hr (by decide) (zc (pv 0) zi)) (znA (zhj zgi zgi (zR zz (pv 1) zf (fun _ _=>rfl)) (pv 0) (zR zz (pv 1) zf (fun _ _=>rfl))))))) zi))))),(zt (zbW (zqE (zfj (zeD (zaR zm4 (za zd (za ztn zh))))) (zfd (zp znx (zaR zbg (za zd zh)) (zaR zbg (za zd zh))))) (zU zh9) zal) (zU (zaR zsI (za (zbu (zqP (za zd (za zd zh))) (zcu (zP zm (zP zm zbo))) zbS (zmR (zG (za zd zh)) (zcz zb2 zb2 (zp zT zd zg) zd (zp zT zd zg)))) zh)))),fun xs S R q=>q⟩
theorem zcM (T:Txt mg) (dd:Dds K mg):zeg P w K mg base:=by
 exact Df.dN dd.d_worth_of zju 0 rfl fun f cdv A outer s H E hr=>⟨_,_,(zr (zO (zJ (zdw rfl) (by rfl) T.n_sum ziJ (zc (zcF (fun _ _ h=>h) rfl (zan rfl rfl rfl rfl (N:=["part","times","one"]) (caps:=[none,none,some 1]) (by show zbD ["gap","one"] (zq s_worth_of).names _ _ _ = true; decide +kernel)) (zdD (zR zz (pv 0) zf (fun _ _=>rfl))) (fun _ _ _ _=>(zcv (n:=2) rfl (zQ (zE (i:=0) (by show List.Nodup (["part","times","one"]:List Str); decide) rfl (Or.inl rfl)) (zQ (zE (i:=1) (by show List.Nodup (["part","times","one"]:List Str); decide) rfl (Or.inl rfl)) zbv)))) (fun _ _ _ _=>zbT) (fun _ _ _ _=>(zA zay (pv 1) (zR zz (pv 2) (pv 0) (fun _ _=>rfl))))) zi)))),(zU (zaR zi0 (za (zbu (zdn (zp zT zd zg)) (zcu (zP zm (zP zm zbo))) zbS (zp zbb zd (zp zT zd zd))) zh))),fun xs S R q=>q⟩
theorem zfN (T:Txt mg) (dd:Dds K mg) (zcM:zeg P w K mg base):zhu P w K mg base:=by
 exact Df.dN dd.d_keeps znU 0 rfl fun f cdv A outer s H E hr=>⟨_,_,(zr (zO (zhj zgi zgi (zR zz (pv 0) zf (fun _ _=>rfl)) (zx zcM hr (by decide) (zc (pv 0) (zc (pv 1) zi))) (zR zz (pv 0) zf (fun _ _=>rfl))))),(zU (zcz zb2 zb2 (zp zT zd zg) (zG (za zd (za zd zh))) (zp zT zd zg))),fun xs S R q=>q⟩
theorem zS (T:Txt mg) (dd:Dds K mg):zax P w K mg base:=by
 exact Df.dN dd.d_worth_of_beginning zdq 0 rfl fun f cdv A outer s H E hr=>⟨_,_,(zr (zO (zJ (zdw rfl) (by rfl) T.n_sum ziJ (zc (zcF (fun _ _ h=>h) rfl (zan rfl rfl rfl rfl (N:=["part","times","beginning"]) (caps:=[none,none,some 1]) (by show zbD ["gap","beginning"] (zq s_worth_of_beginning).names _ _ _ = true; decide +kernel)) (zdD (zR zz (pv 0) zf (fun _ _=>rfl))) (fun _ _ _ _=>(zcv (n:=2) rfl (zQ (zE (i:=0) (by show List.Nodup (["part","times","beginning"]:List Str); decide) rfl (Or.inl rfl)) (zQ (zE (i:=1) (by show List.Nodup (["part","times","beginning"]:List Str); decide) rfl (Or.inl rfl)) zbv)))) (fun _ _ _ _=>(zhg (zap zgB (pv 0) (zJ zau (by rfl) T.n_len zbY (zc (pv 2) zi)) (nomark _)))) (fun _ _ _ _=>(zA zay (pv 1) (zR zz (pv 2) (pv 0) (fun _ _=>rfl))))) zi)))),(zU (zaR zi0 (za (zbu (zdn (zp zT zd zg)) (zcu (zP zm (zP zm zbo))) (zfd (zp zb2 zd (zaR zbg (za zd zh)))) (zp zbb zd (zp zT zd zd))) zh))),fun xs S R q=>q⟩
theorem zaK (T:Txt mg) (dd:Dds K mg) (zS:zax P w K mg base) (zK:zaQ P w K mg base):zb0 P w K mg base:=by
 exact Df.dN dd.d_kept_ahead zbA 4 rfl fun f cdv A outer s H E hr=>⟨_,_,(zj (zD (i:=4) zbA.nd rfl (Or.inr rfl) (zA za7 (zJ zau (by rfl) T.n_len zbY (zc (pv 2) zi)) zf)) (zj (zD (i:=5) zbA.nd rfl (Or.inl rfl) (zR zz (zR zz (pv 0) (pv 4) (fun _ _=>rfl)) zf (fun _ _=>rfl))) (zj (zD (i:=6) zbA.nd rfl (Or.inr rfl) (zmj (zbw (zcl rfl) (by rfl) T.n_dict zhi (zc (zR zz (pv 1) zf (fun _ _=>rfl)) zi)))) (zj (zD (i:=7) zbA.nd rfl (Or.inr rfl) (zx zS hr (by decide) (zc (pv 1) (zc (zdR zkA (pv 2) zgj (zea (pv 4))) zi)))) (zj (zbQ (zap (zik hr.units) (pv 4) (pv 6) (by rfl)) (zr (zO (zA zay (zA za7 (zR zz (pv 2) (pv 4) (fun _ _=>rfl)) (pv 5)) (zx zK hr (by decide) (zc (pv 3) (zc (pv 1) (zc (pv 7) zi))))))) zai) (zr (zO (zJ (zdw rfl) (by rfl) T.n_sum ziJ (zc (zcF (fun _ _ h=>h) rfl (zan rfl rfl rfl rfl (N:=["number","tally","gap","worth","times","part"]) (caps:=[none,some 3,some 1,some 7,some 6,some 4]) (by show zbD ["drawing","gap","beginning","tally","part","low","times","worth"] (zq s_kept_ahead).names _ _ _ = true; decide +kernel)) (ze4 rfl T.n_range (zc (pv 5) (zc (zR zz (pv 2) (pv 4) (fun _ _=>rfl)) zi))) (fun _ _ _ _=>(zE (i:=0) (by show List.Nodup (["number","tally","gap","worth","times","part"]:List Str); decide) rfl (Or.inl rfl))) (fun _ _ _ _=>zbT) (fun _ _ _ _=>(zx zK hr (by decide) (zc (pv 1) (zc (pv 2) (zc (zA zH (pv 3) (zA zay (zl6 (zmo hr) (pv 4) (pv 5) (fun _ _=>rfl)) (pv 0))) zi)))))) zi))))))))),(zt (zy (zp zcm (zaR zbg (za zd zh)) zg) zm) (zt (zy (zp zT (zp zT zd zd) zg) zm) (zt (zy (zho (za (zp zT zd zg) zh)) zm) (zt (zy (zG (za zd (za (zmh zkl zd zfV (zgh zd)) zh))) zm) (zt (zbW (zrx (ztA (zpo zpe (za9 zd) (za9 zd)))) (zU (zp zbb (zp zcm (zp zT zd zd) zd) (zG (za zd (za zd (za zd zh)))))) zal) (zU (zaR zi0 (za (zbu (zhR (za zd (za (zp zT zd zd) zh))) zm zbS (zG (za zd (za zd (za (zp zX zd (zp zbb (zqL (zlz (za9 zd) (za9 zd))) zd)) zh))))) zh)))))))),fun xs S R q=>q⟩
theorem zaY (T:Txt mg) (dd:Dds K mg) (zah:zbn P w K mg base) (zfN:zhu P w K mg base) (zeO:zgk P w K mg base) (zaK:zb0 P w K mg base):zcx P w K mg base:=by
 exact Df.dN dd.d_number_of zfc 1 rfl fun f cdv A outer s H E hr=>⟨_,_,(zj (zD (i:=3) zfc.nd rfl (Or.inr rfl) (zx zah hr (by decide) (zc (pv 0) (zc (pv 1) zi)))) (zj (zbQ (PW.pt (zqN (zfl (zb1 (zx zeO hr (by decide) (zc (pv 0) (zc (pv 2) zi))) (fun _=>rfl))) (zlW (zfl (zb1 (zx zfN hr (by decide) (zc (pv 1) (zc (pv 2) zi))) (fun _=>rfl)))))) (zr zhy) zai) (zr (zO (zJ (zdw rfl) (by rfl) T.n_sum ziJ (zc (zcF (fun _ _ h=>h) rfl (zan rfl rfl rfl rfl (N:=["part","drawing","gap","thing","tallies"]) (caps:=[none,some 0,some 1,some 2,some 3]) (by show zbD ["drawing","gap","thing","tallies"] (zq s_number_of).names _ _ _ = true; decide +kernel)) (zaC rfl T.n_range (zc (zJ zau (by rfl) T.n_len zbY (zc (pv 0) zi)) zi)) (fun _ _ _ _=>(zE (i:=0) (by show List.Nodup (["part","drawing","gap","thing","tallies"]:List Str); decide) rfl (Or.inl rfl))) (fun _ _ _ _=>zbT) (fun _ _ _ _=>(zx zaK hr (by decide) (zc (pv 1) (zc (pv 2) (zc (zdR zp9 (pv 3) zgj (zea (zA zH (pv 0) zf))) (zc (zR zz (pv 4) (zA zH (pv 0) zf) (fun _ _=>rfl)) zi))))))) zi)))))),(zt (zy (zG (za zd (za zd zh))) zm) (zt (zbW (zqE (zfj (zeD (zG (za zd (za zd zh))))) (zfj (zeD (zG (za zd (za zd zh)))))) zht zal) (zU (zaR zi0 (za (zbu (zbp (za (zaR zbg (za zd zh)) zh)) zm zbS (zG (za zd (za zd (za (zmh zqX zd zfV (zgh (zp zX zd zg))) (za (zp zT zd (zp zX zd zg)) zh)))))) zh))))),fun xs S R q=>q⟩
theorem zcj (T:Txt mg) (dd:Dds K mg) (za2:zcG P w K mg base) (zS:zax P w K mg base) (zK:zaQ P w K mg base):zdl P w K mg base:=by
 exact Df.dN dd.d_number_at zaH 6 rfl fun f cdv A outer s H E hr=>⟨_,_,(zj (zD (i:=5) zaH.nd rfl (Or.inl rfl) (zJ zau (by rfl) T.n_len zbY (zc (pv 2) zi))) (zj (zD (i:=6) zaH.nd rfl (Or.inl rfl) (zx za2 hr (by decide) (zc (zR zz (pv 0) (pv 5) (fun _ _=>rfl)) zi))) (zj (zD (i:=7) zaH.nd rfl (Or.inl rfl) (zmj (zbw (zcl rfl) (by rfl) T.n_dict zhi (zc (zR zz (pv 1) zf (fun _ _=>rfl)) zi)))) (zj (zD (i:=8) zaH.nd rfl (Or.inl rfl) (zx zS hr (by decide) (zc (pv 1) (zc (pv 2) zi)))) (zj (zbQ (zap (zik hr.units) (pv 5) (pv 7) (by rfl)) (zr (zO (zA zH (zR zz (pv 6) zf (fun _ _=>rfl)) (zA zfr (pv 4) (zx zK hr (by decide) (zc (pv 3) (zc (pv 1) (zc (pv 8) zi)))))))) zai) (zr (zce PassesOwn.never rfl (ze4 rfl T.n_range (zc (zR zz (pv 6) zf (fun _ _=>rfl)) (zc (zA zH (zR zz (pv 6) zf (fun _ _=>rfl)) zf) zi))) (zE (i:=9) zaH.nd rfl (Or.inl rfl)) (zj (zD (i:=10) zaH.nd rfl (Or.inl rfl) (zx zK hr (by decide) (zc (pv 3) (zc (pv 1) (zc (zA zH (pv 8) (zA zay (zl6 (zmo hr) (pv 7) (pv 5) (fun _ _=>rfl)) (pv 9))) zi))))) (zj (zbQ (zap zgB (pv 4) (pv 10) (nomark _)) (zr (zO (pv 9))) zai) (zr (zD (i:=4) zaH.nd rfl (Or.inl rfl) (zA za7 (pv 4) (pv 10))))))))))))),(zt (zy (zaR zbg (za zd zh)) zm) (zt (zy (zG (za (zp zT zd zd) zh)) zm) (zt (zy (zho (za (zp zT zd zg) zh)) zm) (zt (zy (zG (za zd (za zd zh))) zm) (zt (zbW (zrx (ztA (zpo zpe (za9 zd) (za9 zd)))) (zU (zp zX (zp zT zd zg) (zp ziP zd (zG (za zd (za zd (za zd zh))))))) zal) (zdd (zhR (za (zp zT zd zg) (za (zp zX (zp zT zd zg) zg) zh))) zm (zt (zy (zG (za zd (za zd (za (zp zX zd (zp zbb (zqL (zlz (za9 zd) (za9 zd))) zd)) zh)))) zm) (zt (zbW (zfd (zp zb2 zd zd)) (zU zd) zal) (zy (zp zcm zd zd) zm))))))))),fun xs S R q=>q⟩
theorem zfv (T:Txt mg) (dd:Dds K mg) (zah:zbn P w K mg base) (zK:zaQ P w K mg base) (zbh:zcY P w K mg base) (zcj:zdl P w K mg base) (zaK:zb0 P w K mg base):zie P w K mg base:=by
 exact Df.dN dd.d_nth zfp 5 rfl fun f cdv A outer s H E hr=>⟨_,_,(zj (zD (i:=3) zfp.nd rfl (Or.inl rfl) (zx zah hr (by decide) (zc (pv 0) (zc (pv 1) zi)))) (zj (zbQ (PW.pt (zqN (zfl (zb1 (zx zbh hr (by decide) (zc (pv 2) zi)) (fun _=>rfl))) (zlW (zfl (zeA zgi zgB zf (pv 2) (zx zK hr (by decide) (zc (zR zz (pv 3) zf (fun _ _=>rfl)) (zc (pv 1) (zc zf zi))))))))) (zr zhy) zai) (zj (zD (i:=4) zfp.nd rfl (Or.inl rfl) (zcy zi)) (zj (zD (i:=5) zfp.nd rfl (Or.inl rfl) (pv 2)) (zj (zce PassesOwn.never rfl (zaC rfl T.n_range (zc (zJ zau (by rfl) T.n_len zbY (zc (pv 0) zi)) zi)) (zE (i:=6) zfp.nd rfl (Or.inl rfl)) (zj (zD (i:=7) zfp.nd rfl (Or.inl rfl) (zx zcj hr (by decide) (zc (pv 0) (zc (pv 1) (zc (pv 4) (zc (zR zz (pv 3) (zA zH (pv 6) zf) (fun _ _=>rfl)) (zc (pv 5) zi))))))) (zj (zD (i:=4) zfp.nd rfl (Or.inl rfl) (zA zH (pv 4) (zcy (zc (pv 7) zi)))) (zr (zD (i:=5) zfp.nd rfl (Or.inl rfl) (zA za7 (pv 5) (zx zaK hr (by decide) (zc (pv 0) (zc (pv 1) (zc (pv 4) (zc (zR zz (pv 3) (zA zH (pv 6) zf) (fun _ _=>rfl)) zi))))))))))) (zr (zO (pv 4)))))))),(zt (zy (zG (za zd (za zd zh))) zm) (zt (zbW (zqE (zfj (zeD (zG (za zd zh)))) (zfj (zfd (zcz zb2 zb2 zg zd (zG (za (zp zT zd zg) (za zd (za zg zh)))))))) zht zal) (zt (zy (zcB zh) zm) (zt (zy zd zm) (zt (zdd (zbp (za (zaR zbg (za zd zh)) zh)) zm (zt (zy (zG (za zd (za zd (za zd (za (zp zT zd (zp zX zd zg)) (za zd zh)))))) zm) (zt (zy (zp zX zd (zcB (za zd zh))) zm) (zy (zp zcm zd (zG (za zd (za zd (za zd (za (zp zT zd (zp zX zd zg)) zh)))))) zm)))) (zU zd)))))),fun xs S R q=>q⟩
theorem zcf (T:Txt mg) (dd:Dds K mg):zdz P w K mg base:=by
 exact Df.dN dd.d_law_worth zbJ 3 rfl fun f cdv A outer s H E hr=>⟨_,_,(zj (zD (i:=2) zbJ.nd rfl (Or.inl rfl) zf) (zj (zce PassesOwn.never rfl (zdD (zR zz (pv 0) zf (fun _ _=>rfl))) (zcv (n:=2) rfl (zQ (zE (i:=3) zbJ.nd rfl (Or.inl rfl)) (zQ (zE (i:=4) zbJ.nd rfl (Or.inl rfl)) zbv))) (zr (zD (i:=2) zbJ.nd rfl (Or.inl rfl) (zA zH (pv 2) (zA zay (pv 4) (zR zz (pv 1) (pv 3) (fun _ _=>rfl))))))) (zr (zO (pv 2))))),(zt (zy zg zm) (zt (zdd (zdn (zp zT zd zg)) (zcu (zP zm (zP zm zbo))) (zy (zp zX zd (zp zbb zd (zp zT zd zd))) zm)) (zU zd))),fun xs S R q=>q⟩
theorem zat (T:Txt mg) (dd:Dds K mg) (zcf:zdz P w K mg base):zbP P w K mg base:=by
 exact Df.dN dd.d_law_keeps ziA 0 rfl fun f cdv A outer s H E hr=>⟨_,_,(zr (zO (zhj zgi zgi (zR zz (pv 0) zf (fun _ _=>rfl)) (zx zcf hr (by decide) (zc (pv 0) (zc (pv 1) zi))) (zR zz (pv 0) zf (fun _ _=>rfl))))),(zU (zcz zb2 zb2 (zp zT zd zg) (zG (za zd (za zd zh))) (zp zT zd zg))),fun xs S R q=>q⟩
theorem zbV (T:Txt mg) (dd:Dds K mg) (zat:zbP P w K mg base) (zaY:zcx P w K mg base) (zfv:zie P w K mg base):zcI P w K mg base:=by
 exact Df.dN dd.d_law_sets_right za3 3 rfl fun f cdv A outer s H E hr=>⟨_,_,(zj (zD (i:=3) za3.nd rfl (Or.inl rfl) (zJ zlh (by rfl) T.n_sorted znr (zc (zcF (fun _ _ h=>h) rfl (zan rfl rfl rfl rfl (N:=["one","gap"]) (caps:=[none,some 1]) (by show zbD ["drawing","gap","sets","good","numbers","k"] (zq s_law_sets_right).names _ _ _ = true; decide +kernel)) (zdD (pv 2)) (fun _ _ _ _=>(zE (i:=0) (by show List.Nodup (["one","gap"]:List Str); decide) rfl (Or.inl rfl))) (fun _ _ _ _=>(zhg (zb1 (zx zat hr (by decide) (zc (pv 1) (zc (pv 0) zi))) (fun _=>rfl)))) (fun _ _ _ _=>(pv 0))) zi))) (zj (ze9 (i:=4) (fun _ _ h=>h) rfl (zan rfl rfl rfl rfl (N:=["one","drawing","gap"]) (caps:=[none,some 0,some 1]) (by show zbD ["drawing","gap","sets","good","numbers","k"] (zq s_law_sets_right).names _ _ _ = true; decide +kernel)) za3.nd rfl rfl (zdD (pv 3)) (fun _ _ _ _=>(zE (i:=0) (by show List.Nodup (["one","drawing","gap"]:List Str); decide) rfl (Or.inl rfl))) (fun _ _ _ _=>zbT) (fun _ _ _ _=>(zx zaY hr (by decide) (zc (pv 1) (zc (pv 2) (zc (pv 0) zi)))))) (zj (zce PassesOwn.never rfl (zaC rfl T.n_range (zc (zJ zau (by rfl) T.n_len zbY (zc (pv 3) zi)) zi)) (zE (i:=5) za3.nd rfl (Or.inl rfl)) (zj (zbQ (zap (zmC hr.units) (zx zfv hr (by decide) (zc (pv 0) (zc (pv 1) (zc (zR zz (pv 4) (pv 5) (fun _ _=>rfl)) zi)))) (zR zz (pv 3) (pv 5) (fun _ _=>rfl)) (nomark _)) (zr (zO zhB)) zai) (zr (zbQ (PW.pt (ziK (zap zqm (pv 5) zf (nomark _)) (zf8 (zap (zmC hr.units) (zfH zgB (zR zz (pv 4) (zA za7 (pv 5) zf) (fun _ _=>rfl)) (zR zz (pv 4) (pv 5) (fun _ _=>rfl)) (nomark _)) (zfH (zlR hr.units0) (zR zz (pv 3) (zA za7 (pv 5) zf) (fun _ _=>rfl)) (zR zz (pv 3) (pv 5) (fun _ _=>rfl)) (nomark _)) (nomark _))))) (zr (zO zhB)) zai)))) (zr (zO zhB))))),(zt (zy (zaR zof (za (zbu (zdn zd) zm (zeD (zG (za zd (za zd zh)))) zd) zh)) zm) (zt (zy (zbu (zdn zd) zm zbS (zG (za zd (za zd (za zd zh))))) zm) (zt (zdd (zbp (za (zaR zbg (za zd zh)) zh)) zm (zt (zbW (zfd (zp znx (zG (za zd (za zd (za (zp zT zd zd) zh)))) (zp zT zd zd))) (zU zh9) zal) (zbW (zh2 (zfd (zp zb2 zd zg)) (zfd (zp znx (zp zb2 (zp zT zd (zp zcm zd zg)) (zp zT zd zd)) (zp zmI (zp zT zd (zp zcm zd zg)) (zp zT zd zd))))) (zU zh9) zal))) (zU zh9)))),fun xs S R q=>q⟩
theorem zbt (T:Txt mg) (dd:Dds K mg) (zfv:zie P w K mg base) (zaY:zcx P w K mg base) (zat:zbP P w K mg base):zch P w K mg base:=by
 exact Df.dN dd.d_law_number_right zcp 1 rfl fun f cdv A outer s H E hr=>⟨_,_,(zj (zD (i:=3) zcp.nd rfl (Or.inl rfl) (zx zfv hr (by decide) (zc (pv 0) (zc (pv 1) (zc (pv 2) zi))))) (zr (zO (zmS (zx zat hr (by decide) (zc (pv 1) (zc (pv 3) zi))) (znA (zfH (zd2 hr.units) (zx zaY hr (by decide) (zc (pv 0) (zc (pv 1) (zc (pv 3) zi)))) (pv 2) (nomark _))))))),(zt (zy (zG (za zd (za zd (za zd zh)))) zm) (zU (zmR (zG (za zd (za zd zh))) (zp zd5 (zG (za zd (za zd (za zd zh)))) zd)))),fun xs S R q=>q⟩
theorem zbz (T:Txt mg) (dd:Dds K mg) (zfv:zie P w K mg base) (zat:zbP P w K mg base):zcn P w K mg base:=by
 exact Df.dN dd.d_law_none_between zbe 2 rfl fun f cdv A outer s H E hr=>⟨_,_,(zj (zD (i:=4) zbe.nd rfl (Or.inr rfl) (zx zfv hr (by decide) (zc (pv 0) (zc (pv 1) (zc (pv 2) zi))))) (zj (zD (i:=5) zbe.nd rfl (Or.inr rfl) (zx zfv hr (by decide) (zc (pv 0) (zc (pv 1) (zc (zA zH (pv 2) zf) zi))))) (zj (zbQ (zap (zrz hr.units) (pv 4) (pv 5) (nomark _)) (zr (zO zhB)) zai) (zr (zO (zfH (zd2 hr.units) (zcF (fun _ _ h=>h) rfl (zan rfl rfl rfl rfl (N:=["here","one","other","gap"]) (caps:=[none,some 4,some 5,some 1]) (by show zbD ["drawing","gap","number","sets","one","other"] (zq s_law_none_between).names _ _ _ = true; decide +kernel)) (zdD (pv 3)) (fun _ _ _ _=>(zE (i:=0) (by show List.Nodup (["here","one","other","gap"]:List Str); decide) rfl (Or.inl rfl))) (fun _ _ _ _=>(zhg (PW.pt (ziK (zeA (zlR hr.units0) (zlR hr.units0) (pv 1) (pv 0) (pv 2)) (zf8 (zb1 (zx zat hr (by decide) (zc (pv 3) (zc (pv 0) zi))) (fun _=>rfl))))))) (fun _ _ _ _=>(pv 0))) (zaD zi) (nomark _))))))),(zt (zy (zG (za zd (za zd (za zd zh)))) zm) (zt (zy (zG (za zd (za zd (za (zp zX zd zg) zh)))) zm) (zt (zbW (zfd (zp zsd zd zd)) (zU zh9) zal) (zU (zp zd5 (zbu (zdn zd) zm (zh2 (zfd (zcz zmI zmI zd zd zd)) (zeD (zG (za zd (za zd zh))))) zd) (za6 zh)))))),fun xs S R q=>q⟩
theorem ok_law {f:Addr} {fd:FuncData} (F:Fun K "law" "law" s_law f fd) (T:Txt mg) (dd:Dds K mg):FnOk P w K mg base CX0 7 f fd ["script"] (sp1 (zs3 K)):=by
 have zcU:=zcU (P:=P) (w:=w) (base:=base) T dd
 have zfG:zg4 P w K mg base:=zfG T dd 
 have zb6:zee P w K mg base:=zb6 T dd 
 have zu:zaN P w K mg base:=zu T dd zb6
 have zcq:zdi P w K mg base:=zcq T dd zu
 have zbO:zc2 P w K mg base:=zbO T dd zu
 have zcT:zd4 P w K mg base:=zcT T dd zcq zu zbO
 have zck:zdg P w K mg base:=zck T dd zu
 have zb9:zel P w K mg base:=zb9 T dd 
 have zgv:zgP P w K mg base:=zgv T dd zck zb9 zu
 have zep:zfm P w K mg base:=zep T dd zu
 have zgt:zgH P w K mg base:=zgt T dd zu
 have zK:zaQ P w K mg base:=zK T dd 
 have zbL:zdS P w K mg base:=zbL T dd 
 have ziz:zjB P w K mg base:=ziz T dd 
 have zbK:zcZ P w K mg base:=zbK T dd 
 have za2:zcG P w K mg base:=za2 T dd 
 have zaO:zbG P w K mg base:=zaO T dd ziz zbK za2
 have zgc:zhQ P w K mg base:=zgc T dd zaO
 have zci:zdm P w K mg base:=zci T dd zbL
 have zah:zbn P w K mg base:=zah T dd zbL zgc zci za2
 have zdB:zeH P w K mg base:=zdB T dd zK zah
 have zbh:zcY P w K mg base:=zbh T dd 
 have zeO:zgk P w K mg base:=zeO T dd zbh
 have zcM:zeg P w K mg base:=zcM T dd 
 have zfN:zhu P w K mg base:=zfN T dd zcM
 have zS:zax P w K mg base:=zS T dd 
 have zaK:zb0 P w K mg base:=zaK T dd zS zK
 have zaY:zcx P w K mg base:=zaY T dd zah zfN zeO zaK
 have zcj:zdl P w K mg base:=zcj T dd za2 zS zK
 have zfv:zie P w K mg base:=zfv T dd zah zK zbh zcj zaK
 have zcf:zdz P w K mg base:=zcf T dd 
 have zat:zbP P w K mg base:=zat T dd zcf
 have zbV:zcI P w K mg base:=zbV T dd zat zaY zfv
 have zbt:zch P w K mg base:=zbt T dd zfv zaY zat
 have zbz:zcn P w K mg base:=zbz T dd zfv zat
 refine F.ok1 zdC (fun v=>[some v,none,none,none,none,none,none,none,none,none]) (fun _=>rfl) fun cdv A outer s H v Q E hr h=>?_
 obtain ⟨a,ns,rfl,hS,hlen,q⟩:=h
 refine ⟨_,(zj (zce PassesOwn.never rfl (zqM (zA zlM (zaD (zc (zsl zcU hr (by decide) (pv 0) zf) zi)) (zdR zmf (pv 0) (zea zf) (zea zf)))) (zE (i:=1) zdC.nd rfl (Or.inl rfl)) (zj (zD (i:=2) zdC.nd rfl (Or.inr rfl) (zx zfG hr (by decide) (zc (pv 1) zi))) (zj (zD (i:=3) zdC.nd rfl (Or.inr rfl) (zx zcT hr (by decide) (zc (pv 2) zi))) (zj (zD (i:=4) zdC.nd rfl (Or.inl rfl) (zx zgv hr (by decide) (zc (pv 2) (zc (pv 3) zi)))) (zj (zD (i:=3) zdC.nd rfl (Or.inr rfl) (zx zep hr (by decide) (zc (pv 2) (zc (pv 3) (zc (pv 4) zi))))) (zj (ziC (zx zb9 hr (by decide) (zc (pv 3) (zc (zR zz (pv 4) zf (fun _ _=>rfl)) zi))) (zcv (n:=2) rfl (zQ (zE (i:=5) zdC.nd rfl (Or.inl rfl)) (zQ (zE (i:=6) zdC.nd rfl (Or.inl rfl)) zbv)))) (zj (ze9 (i:=7) (fun _ _ h=>h) rfl (zan rfl rfl rfl rfl (N:=["turn","pen","drawing"]) (caps:=[none,some 2,some 3]) (by show zbD ["script","cell","pen","drawing","gap","least","most","sets","every","number"] (zq s_law).names _ _ _ = true; decide +kernel)) zdC.nd rfl rfl (zaC rfl T.n_range (zc zf zi)) (fun _ _ _ _=>(zE (i:=0) (by show List.Nodup (["turn","pen","drawing"]:List Str); decide) rfl (Or.inl rfl))) (fun _ _ _ _=>zbT) (fun _ _ _ _=>(zx zgt hr (by decide) (zc (pv 1) (zc (pv 2) zi))))) (zr (zbQ (zap zgB (zA za7 (pv 6) (pv 5)) zf (nomark _)) (zj (zD (i:=8) zdC.nd rfl (Or.inl rfl) (zx zdB hr (by decide) (zc (pv 3) (zc (pv 4) zi)))) (zj (zbQ (zfl (zb1 (zx zbV hr (by decide) (zc (pv 3) (zc (pv 4) (zc (pv 7) zi)))) (fun _=>rfl))) (zr (zO zhB)) zai) (zr (zce PassesOwn.never rfl (zdD (zf7 (zN zf (zN zf (zN (zA za7 (pv 8) zf) (zN (zA za7 (pv 8) zf) (zN (zA zfr (pv 8) zf) (zN (zx zu hr (by decide) (zc (pv 2) (zc (zA zfJ zf zf) zi))) zg0)))))))) (zE (i:=9) zdC.nd rfl (Or.inl rfl)) (zj (zbQ (PW.pt (ziK (zeA zgi zgB zf (pv 9) (pv 8)) (zf8 (zfl (zb1 (zx zbt hr (by decide) (zc (pv 3) (zc (pv 4) (zc (pv 9) zi)))) (fun _=>rfl)))))) (zr (zO zhB)) zai) (zr (zbQ (PW.pt (ziK (zeA zgi zgB zf (pv 9) (zA za7 (pv 8) zf)) (zf8 (zfl (zb1 (zx zbz hr (by decide) (zc (pv 3) (zc (pv 4) (zc (pv 9) (zc (pv 7) zi))))) (fun _=>rfl)))))) (zr (zO zhB)) zai))))))) zai))))))))) (zr (zO zhB))),?_⟩
 exact zqb (m:=9) (db:=zqU) (zt (zy (zG (za zd zh)) zm) (zt (zy (zM (i:=0) (za zd zh)) zm) (zt (zy (zM (i:=0) (za zd (za zd zh))) zm) (zt (zy (zM (i:=0) (za zd (za zd (za zd zh)))) zm) (zt (zy (zG (za zd (za (zp zT zd zg) zh))) (zcu (zP zm (zP zm zbo)))) (zt (zy (zbu (zbp (za zg zh)) zm zbS (zM (i:=0) (za zd (za zd zh)))) zm) (zbW (zfd (zp zb2 (zp zcm zd zd) zg)) (zt (zy (zG (za zd (za zd zh))) zm) (zt (zbW (zfj (zeD (zG (za zd (za zd (za zd zh)))))) (zU zh9) zal) (zdd (zdn (za6 (za zg (za zg (za (zp zcm zd zg) (za (zp zcm zd zg) (za (zp ziP zd zg) (za (zM (i:=0) (za zd (za (zp zhl zg zg) zh))) zh)))))))) zm (zt (zbW (zh2 (zfd (zcz zb2 zb2 zg zd zd)) (zfj (zeD (zG (za zd (za zd (za zd zh))))))) (zU zh9) zal) (zbW (zh2 (zfd (zcz zb2 zb2 zg zd (zp zcm zd zg))) (zfj (zeD (zG (za zd (za zd (za zd (za zd zh)))))))) (zU zh9) zal))))) zal))))))) rfl rfl hS hlen (fun n=>zjt a n) (by decide) fun _ H2 _=>q H2
end
end My
namespace PySem.W.Fast
def tw7376932698431977080:Unit:=()
def tw5792790071048337411:Unit:=()
def tw17885625985295432080:Unit:=()
def tw9236136386286216062:Unit:=()
def tw4711430811823245281:Unit:=()
def tw7299349530345518258:Unit:=()
def tw1782484029180779174:Unit:=()
def tw1040567006154437673:Unit:=()
def tw2102286899542982435:Unit:=()
def tw8113429369513123157:Unit:=()
def tw2144543478203580576:Unit:=()
def tw12080045774030352003:Unit:=()
def tw13658409531072321897:Unit:=()
def tw15652066491156406821:Unit:=()
def tw17246972268476572626:Unit:=()
def tw7030508895022607950:Unit:=()
def tw1445899386697469881:Unit:=()
def tw15991813800398061923:Unit:=()
def tw17353650347994051217:Unit:=()
def tw5057296019852672069:Unit:=()
def tw14219119707434123339:Unit:=()
def tw2378403173266329819:Unit:=()
def tw4970675579700864581:Unit:=()
def tw2821123509232169168:Unit:=()
def tw16998344419864062760:Unit:=()
def tw4843631099271203418:Unit:=()
def tw8602015154976412529:Unit:=()
def tw16225211166405660236:Unit:=()
def tw919229058963439374:Unit:=()
def tw486952352988029777:Unit:=()
def tw15618907312913113406:Unit:=()
def tw5395738391273697117:Unit:=()
def tw3690968645471081113:Unit:=()
def tw14684576443613085705:Unit:=()
def tw8524039836863660643:Unit:=()
def tw1717459804595274605:Unit:=()
def tw380501399119946072:Unit:=()
def tw15366055848248459482:Unit:=()
def tw10806999690259541338:Unit:=()
def tw5445015260213406341:Unit:=()
def tw12025898005542742487:Unit:=()
def tw15798396478922901652:Unit:=()
def tw2730429653249939883:Unit:=()
def tw16511424722376743770:Unit:=()
def tw3552142438721379052:Unit:=()
def tw13367731678955521842:Unit:=()
def tw10751596272311151158:Unit:=()
def tw11765852498928689010:Unit:=()
def tw2014199476578621731:Unit:=()
def tw10886838582105861431:Unit:=()
def tw18154245521725158112:Unit:=()
def tw5424106505669135968:Unit:=()
def tw7437437451780051337:Unit:=()
def tw2726276290782149495:Unit:=()
def tw4681686248617895017:Unit:=()
def tw14602408782682901054:Unit:=()
def tw3263918054324871148:Unit:=()
def tw17477502236726848622:Unit:=()
def tw16220948945369632800:Unit:=()
def tw6163375180628421434:Unit:=()
def tw2733763578843980512:Unit:=()
def tw13737193263659146555:Unit:=()
def tw5935663581182324198:Unit:=()
def tw12868453950375957139:Unit:=()
def tw16309285343874263812:Unit:=()
def tw3369515165952125407:Unit:=()
def tw17826862472974976462:Unit:=()
def tw16773177465871712487:Unit:=()
def tw9836062180800874358:Unit:=()
def tw7392641095976250710:Unit:=()
def tw17860865222033228903:Unit:=()
def tw18242608350666594473:Unit:=()
def tw10742347285274763374:Unit:=()
def tw7666012916821546727:Unit:=()
def tw20589616304313792:Unit:=()
def tw4946762738466846400:Unit:=()
def tw6761816826133410191:Unit:=()
def tw13557608727341239200:Unit:=()
def tw4278021749110882080:Unit:=()
def tw3023332009020070984:Unit:=()
def tw10952560074857420367:Unit:=()
def tw15031497790133372865:Unit:=()
def tw8128139746170083932:Unit:=()
def tw11129890441265548947:Unit:=()
def tw1816504283244570563:Unit:=()
def tw8685270550580309271:Unit:=()
def tw11590506693466717736:Unit:=()
def tw5258189901625335578:Unit:=()
def tw16418917893030495518:Unit:=()
def tw6171364432156170972:Unit:=()
def tw2780292481959399282:Unit:=()
def tw17267311636031083455:Unit:=()
def tw3271176334179228699:Unit:=()
def tw13287902147514974470:Unit:=()
def tw16154907043017464383:Unit:=()
def tw2286369802365343715:Unit:=()
def tw8860936197731723115:Unit:=()
def tw10595750011354305871:Unit:=()
def tw11588241090653732810:Unit:=()
def tw12798630691746333314:Unit:=()
def tw7679562382462889560:Unit:=()
def tw6308081570481894703:Unit:=()
def tw2549459942785012694:Unit:=()
def tw4620821256238464223:Unit:=()
def tw15270585777107459613:Unit:=()
def tw15507205693222053339:Unit:=()
def tw17511612572536539791:Unit:=()
def tw18220272088803793697:Unit:=()
def tw5045730070260008928:Unit:=()
def tw942159361894864306:Unit:=()
def tw13794023310044871472:Unit:=()
def tw4893761254860969162:Unit:=()
def tw2525935720900344036:Unit:=()
def tw5969583609082103571:Unit:=()
def tw13583025230452629555:Unit:=()
end PySem.W.Fast
open PySem PySem.W PyProof.Rows L2
set_option maxRecDepth 100000 in
set_option maxHeartbeats 0 in
theorem PySem.Challenge.cw_gaugewright_k34_whole_order_of_sets_holds : PySem.Challenge.rw_gaugewright_k34_whole_order_of_sets.Holds := by
 w_on; o_law; k_head; (case hw=>w_witness2)
 k_fill
 refine L2.walk_law (l := PySem.Challenge.rw_gaugewright_k34_whole_order_of_sets) (k := 7) rfl rfl ⟨rfl, by decide, by decide⟩ (fun w h Y => PySem.W.kIn_of Y) ?F
 case F =>
  intro w mg fa h KX G hmg
  have d_law_cell_at:Dd (L2.KOf KX) mg "_law_cell_at" My.s_law_cell_at ["script","k"]:=by
   dsimp only [L2.KOf]
   refine' Dd.mk' KX G ?a ?l ?c ?k ?b
   (case a=>k_is); (case l=>k_is); (case c=>k_is); (case k=>k_is); (case b=>intro _ _ _ _ _ _ us hl; obtain ⟨_,_,rfl⟩:=L2.len2 hl; rfl)
  have d_law_pen:Dd (L2.KOf KX) mg "_law_pen" My.s_law_pen ["cell"]:=by
   dsimp only [L2.KOf]
   refine' Dd.mk' KX G ?a ?l ?c ?k ?b
   (case a=>k_is); (case l=>k_is); (case c=>k_is); (case k=>k_is); (case b=>intro _ _ _ _ _ _ us hl; obtain ⟨_,rfl⟩:=L2.len1 hl; rfl)
  have d_law_next:Dd (L2.KOf KX) mg "_law_next" My.s_law_next ["seed"]:=by
   dsimp only [L2.KOf]
   refine' Dd.mk' KX G ?a ?l ?c ?k ?b
   (case a=>k_is); (case l=>k_is); (case c=>k_is); (case k=>k_is); (case b=>intro _ _ _ _ _ _ us hl; obtain ⟨_,rfl⟩:=L2.len1 hl; rfl)
  have d_law_draw:Dd (L2.KOf KX) mg "_law_draw" My.s_law_draw ["pen","many"]:=by
   dsimp only [L2.KOf]
   refine' Dd.mk' KX G ?a ?l ?c ?k ?b
   (case a=>k_is); (case l=>k_is); (case c=>k_is); (case k=>k_is); (case b=>intro _ _ _ _ _ _ us hl; obtain ⟨_,_,rfl⟩:=L2.len2 hl; rfl)
  have d_law_names:Dd (L2.KOf KX) mg "_law_names" My.s_law_names ["pen"]:=by
   dsimp only [L2.KOf]
   refine' Dd.mk' KX G ?a ?l ?c ?k ?b
   (case a=>k_is); (case l=>k_is); (case c=>k_is); (case k=>k_is); (case b=>intro _ _ _ _ _ _ us hl; obtain ⟨_,rfl⟩:=L2.len1 hl; rfl)
  have d_law_number:Dd (L2.KOf KX) mg "_law_number" My.s_law_number ["pen"]:=by
   dsimp only [L2.KOf]
   refine' Dd.mk' KX G ?a ?l ?c ?k ?b
   (case a=>k_is); (case l=>k_is); (case c=>k_is); (case k=>k_is); (case b=>intro _ _ _ _ _ _ us hl; obtain ⟨_,rfl⟩:=L2.len1 hl; rfl)
  have d_law_counted:Dd (L2.KOf KX) mg "_law_counted" My.s_law_counted ["pen"]:=by
   dsimp only [L2.KOf]
   refine' Dd.mk' KX G ?a ?l ?c ?k ?b
   (case a=>k_is); (case l=>k_is); (case c=>k_is); (case k=>k_is); (case b=>intro _ _ _ _ _ _ us hl; obtain ⟨_,rfl⟩:=L2.len1 hl; rfl)
  have d_law_terms:Dd (L2.KOf KX) mg "_law_terms" My.s_law_terms ["pen","drawing"]:=by
   dsimp only [L2.KOf]
   refine' Dd.mk' KX G ?a ?l ?c ?k ?b
   (case a=>k_is); (case l=>k_is); (case c=>k_is); (case k=>k_is); (case b=>intro _ _ _ _ _ _ us hl; obtain ⟨_,_,rfl⟩:=L2.len2 hl; rfl)
  have d_law_ends:Dd (L2.KOf KX) mg "_law_ends" My.s_law_ends ["drawing","terms"]:=by
   dsimp only [L2.KOf]
   refine' Dd.mk' KX G ?a ?l ?c ?k ?b
   (case a=>k_is); (case l=>k_is); (case c=>k_is); (case k=>k_is); (case b=>intro _ _ _ _ _ _ us hl; obtain ⟨_,_,rfl⟩:=L2.len2 hl; rfl)
  have d_law_gap:Dd (L2.KOf KX) mg "_law_gap" My.s_law_gap ["pen","drawing"]:=by
   dsimp only [L2.KOf]
   refine' Dd.mk' KX G ?a ?l ?c ?k ?b
   (case a=>k_is); (case l=>k_is); (case c=>k_is); (case k=>k_is); (case b=>intro _ _ _ _ _ _ us hl; obtain ⟨_,_,rfl⟩:=L2.len2 hl; rfl)
  have d_law_idled:Dd (L2.KOf KX) mg "_law_idled" My.s_law_idled ["pen","drawing","gap"]:=by
   dsimp only [L2.KOf]
   refine' Dd.mk' KX G ?a ?l ?c ?k ?b
   (case a=>k_is); (case l=>k_is); (case c=>k_is); (case k=>k_is); (case b=>intro _ _ _ _ _ _ us hl; obtain ⟨_,_,_,rfl⟩:=L2.len3 hl; rfl)
  have d_law_set:Dd (L2.KOf KX) mg "_law_set" My.s_law_set ["pen","drawing"]:=by
   dsimp only [L2.KOf]
   refine' Dd.mk' KX G ?a ?l ?c ?k ?b
   (case a=>k_is); (case l=>k_is); (case c=>k_is); (case k=>k_is); (case b=>intro _ _ _ _ _ _ us hl; obtain ⟨_,_,rfl⟩:=L2.len2 hl; rfl)
  have d_kept_behind:Dd (L2.KOf KX) mg "kept_behind" My.s_kept_behind ["tally","gap","worth"]:=by
   dsimp only [L2.KOf]
   refine' Dd.mk' KX G ?a ?l ?c ?k ?b
   (case a=>k_is); (case l=>k_is); (case c=>k_is); (case k=>k_is); (case b=>intro _ _ _ _ _ _ us hl; obtain ⟨_,_,_,rfl⟩:=L2.len3 hl; rfl)
  have d_size_of:Dd (L2.KOf KX) mg "size_of" My.s_size_of ["one"]:=by
   dsimp only [L2.KOf]
   refine' Dd.mk' KX G ?a ?l ?c ?k ?b
   (case a=>k_is); (case l=>k_is); (case c=>k_is); (case k=>k_is); (case b=>intro _ _ _ _ _ _ us hl; obtain ⟨_,rfl⟩:=L2.len1 hl; rfl)
  have d_plus:Dd (L2.KOf KX) mg "plus" My.s_plus ["one","other"]:=by
   dsimp only [L2.KOf]
   refine' Dd.mk' KX G ?a ?l ?c ?k ?b
   (case a=>k_is); (case l=>k_is); (case c=>k_is); (case k=>k_is); (case b=>intro _ _ _ _ _ _ us hl; obtain ⟨_,_,rfl⟩:=L2.len2 hl; rfl)
  have d_multiplied:Dd (L2.KOf KX) mg "multiplied" My.s_multiplied ["one","by"]:=by
   dsimp only [L2.KOf]
   refine' Dd.mk' KX G ?a ?l ?c ?k ?b
   (case a=>k_is); (case l=>k_is); (case c=>k_is); (case k=>k_is); (case b=>intro _ _ _ _ _ _ us hl; obtain ⟨_,_,rfl⟩:=L2.len2 hl; rfl)
  have d_span_of:Dd (L2.KOf KX) mg "span_of" My.s_span_of ["part"]:=by
   dsimp only [L2.KOf]
   refine' Dd.mk' KX G ?a ?l ?c ?k ?b
   (case a=>k_is); (case l=>k_is); (case c=>k_is); (case k=>k_is); (case b=>intro _ _ _ _ _ _ us hl; obtain ⟨_,rfl⟩:=L2.len1 hl; rfl)
  have d_reach_of_terms:Dd (L2.KOf KX) mg "reach_of_terms" My.s_reach_of_terms ["drawing","terms"]:=by
   dsimp only [L2.KOf]
   refine' Dd.mk' KX G ?a ?l ?c ?k ?b
   (case a=>k_is); (case l=>k_is); (case c=>k_is); (case k=>k_is); (case b=>intro _ _ _ _ _ _ us hl; obtain ⟨_,_,rfl⟩:=L2.len2 hl; rfl)
  have d_reach:Dd (L2.KOf KX) mg "reach" My.s_reach ["drawing","gap"]:=by
   dsimp only [L2.KOf]
   refine' Dd.mk' KX G ?a ?l ?c ?k ?b
   (case a=>k_is); (case l=>k_is); (case c=>k_is); (case k=>k_is); (case b=>intro _ _ _ _ _ _ us hl; obtain ⟨_,_,rfl⟩:=L2.len2 hl; rfl)
  have d_with_part:Dd (L2.KOf KX) mg "with_part" My.s_with_part ["tally","span","times"]:=by
   dsimp only [L2.KOf]
   refine' Dd.mk' KX G ?a ?l ?c ?k ?b
   (case a=>k_is); (case l=>k_is); (case c=>k_is); (case k=>k_is); (case b=>intro _ _ _ _ _ _ us hl; obtain ⟨_,_,_,rfl⟩:=L2.len3 hl; rfl)
  have d_tallies_of:Dd (L2.KOf KX) mg "tallies_of" My.s_tallies_of ["drawing","gap"]:=by
   dsimp only [L2.KOf]
   refine' Dd.mk' KX G ?a ?l ?c ?k ?b
   (case a=>k_is); (case l=>k_is); (case c=>k_is); (case k=>k_is); (case b=>intro _ _ _ _ _ _ us hl; obtain ⟨_,_,rfl⟩:=L2.len2 hl; rfl)
  have d_kept_count:Dd (L2.KOf KX) mg "kept_count" My.s_kept_count ["drawing","gap"]:=by
   dsimp only [L2.KOf]
   refine' Dd.mk' KX G ?a ?l ?c ?k ?b
   (case a=>k_is); (case l=>k_is); (case c=>k_is); (case k=>k_is); (case b=>intro _ _ _ _ _ _ us hl; obtain ⟨_,_,rfl⟩:=L2.len2 hl; rfl)
  have d_is_whole:Dd (L2.KOf KX) mg "is_whole" My.s_is_whole ["thing"]:=by
   dsimp only [L2.KOf]
   refine' Dd.mk' KX G ?a ?l ?c ?k ?b
   (case a=>k_is); (case l=>k_is); (case c=>k_is); (case k=>k_is); (case b=>intro _ _ _ _ _ _ us hl; obtain ⟨_,rfl⟩:=L2.len1 hl; rfl)
  have d_is_set:Dd (L2.KOf KX) mg "is_set" My.s_is_set ["drawing","thing"]:=by
   dsimp only [L2.KOf]
   refine' Dd.mk' KX G ?a ?l ?c ?k ?b
   (case a=>k_is); (case l=>k_is); (case c=>k_is); (case k=>k_is); (case b=>intro _ _ _ _ _ _ us hl; obtain ⟨_,_,rfl⟩:=L2.len2 hl; rfl)
  have d_worth_of:Dd (L2.KOf KX) mg "worth_of" My.s_worth_of ["gap","one"]:=by
   dsimp only [L2.KOf]
   refine' Dd.mk' KX G ?a ?l ?c ?k ?b
   (case a=>k_is); (case l=>k_is); (case c=>k_is); (case k=>k_is); (case b=>intro _ _ _ _ _ _ us hl; obtain ⟨_,_,rfl⟩:=L2.len2 hl; rfl)
  have d_keeps:Dd (L2.KOf KX) mg "keeps" My.s_keeps ["gap","one"]:=by
   dsimp only [L2.KOf]
   refine' Dd.mk' KX G ?a ?l ?c ?k ?b
   (case a=>k_is); (case l=>k_is); (case c=>k_is); (case k=>k_is); (case b=>intro _ _ _ _ _ _ us hl; obtain ⟨_,_,rfl⟩:=L2.len2 hl; rfl)
  have d_worth_of_beginning:Dd (L2.KOf KX) mg "worth_of_beginning" My.s_worth_of_beginning ["gap","beginning"]:=by
   dsimp only [L2.KOf]
   refine' Dd.mk' KX G ?a ?l ?c ?k ?b
   (case a=>k_is); (case l=>k_is); (case c=>k_is); (case k=>k_is); (case b=>intro _ _ _ _ _ _ us hl; obtain ⟨_,_,rfl⟩:=L2.len2 hl; rfl)
  have d_kept_ahead:Dd (L2.KOf KX) mg "kept_ahead" My.s_kept_ahead ["drawing","gap","beginning","tally"]:=by
   dsimp only [L2.KOf]
   refine' Dd.mk' KX G ?a ?l ?c ?k ?b
   (case a=>k_is); (case l=>k_is); (case c=>k_is); (case k=>k_is); (case b=>intro _ _ _ _ _ _ us hl; obtain ⟨_,_,_,_,rfl⟩:=L2.len4 hl; rfl)
  have d_number_of:Dd (L2.KOf KX) mg "number_of" My.s_number_of ["drawing","gap","thing"]:=by
   dsimp only [L2.KOf]
   refine' Dd.mk' KX G ?a ?l ?c ?k ?b
   (case a=>k_is); (case l=>k_is); (case c=>k_is); (case k=>k_is); (case b=>intro _ _ _ _ _ _ us hl; obtain ⟨_,_,_,rfl⟩:=L2.len3 hl; rfl)
  have d_number_at:Dd (L2.KOf KX) mg "number_at" My.s_number_at ["drawing","gap","beginning","tally","left"]:=by
   dsimp only [L2.KOf]
   refine' Dd.mk' KX G ?a ?l ?c ?k ?b
   (case a=>k_is); (case l=>k_is); (case c=>k_is); (case k=>k_is); (case b=>intro _ _ _ _ _ _ us hl; obtain ⟨_,_,_,_,_,rfl⟩:=L2.len5 hl; rfl)
  have d_nth:Dd (L2.KOf KX) mg "nth" My.s_nth ["drawing","gap","number"]:=by
   dsimp only [L2.KOf]
   refine' Dd.mk' KX G ?a ?l ?c ?k ?b
   (case a=>k_is); (case l=>k_is); (case c=>k_is); (case k=>k_is); (case b=>intro _ _ _ _ _ _ us hl; obtain ⟨_,_,_,rfl⟩:=L2.len3 hl; rfl)
  have d_law_worth:Dd (L2.KOf KX) mg "_law_worth" My.s_law_worth ["gap","one"]:=by
   dsimp only [L2.KOf]
   refine' Dd.mk' KX G ?a ?l ?c ?k ?b
   (case a=>k_is); (case l=>k_is); (case c=>k_is); (case k=>k_is); (case b=>intro _ _ _ _ _ _ us hl; obtain ⟨_,_,rfl⟩:=L2.len2 hl; rfl)
  have d_law_keeps:Dd (L2.KOf KX) mg "_law_keeps" My.s_law_keeps ["gap","one"]:=by
   dsimp only [L2.KOf]
   refine' Dd.mk' KX G ?a ?l ?c ?k ?b
   (case a=>k_is); (case l=>k_is); (case c=>k_is); (case k=>k_is); (case b=>intro _ _ _ _ _ _ us hl; obtain ⟨_,_,rfl⟩:=L2.len2 hl; rfl)
  have d_law_sets_right:Dd (L2.KOf KX) mg "_law_sets_right" My.s_law_sets_right ["drawing","gap","sets"]:=by
   dsimp only [L2.KOf]
   refine' Dd.mk' KX G ?a ?l ?c ?k ?b
   (case a=>k_is); (case l=>k_is); (case c=>k_is); (case k=>k_is); (case b=>intro _ _ _ _ _ _ us hl; obtain ⟨_,_,_,rfl⟩:=L2.len3 hl; rfl)
  have d_law_number_right:Dd (L2.KOf KX) mg "_law_number_right" My.s_law_number_right ["drawing","gap","number"]:=by
   dsimp only [L2.KOf]
   refine' Dd.mk' KX G ?a ?l ?c ?k ?b
   (case a=>k_is); (case l=>k_is); (case c=>k_is); (case k=>k_is); (case b=>intro _ _ _ _ _ _ us hl; obtain ⟨_,_,_,rfl⟩:=L2.len3 hl; rfl)
  have d_law_none_between:Dd (L2.KOf KX) mg "_law_none_between" My.s_law_none_between ["drawing","gap","number","sets"]:=by
   dsimp only [L2.KOf]
   refine' Dd.mk' KX G ?a ?l ?c ?k ?b
   (case a=>k_is); (case l=>k_is); (case c=>k_is); (case k=>k_is); (case b=>intro _ _ _ _ _ _ us hl; obtain ⟨_,_,_,_,rfl⟩:=L2.len4 hl; rfl)
  have d_law:Dd (L2.KOf KX) mg "law" My.s_law ["script"]:=by
   dsimp only [L2.KOf]
   refine' Dd.mk' KX G ?a ?l ?c ?k ?b
   (case a=>k_is); (case l=>k_is); (case c=>k_is); (case k=>k_is); (case b=>intro _ _ _ _ _ _ us hl; obtain ⟨_,rfl⟩:=L2.len1 hl; rfl)
  have g13:∃ t,mg "MOST_WORTHS" = some (.int 400 t):=by
   apply Exists.intro
   apply PySem.W.mg_of KX G
   k_is
  have T:My.Txt mg:=by
   refine' ⟨PySem.W.mg_none_of KX G ?z0,PySem.W.mg_none_of KX G ?z1,PySem.W.mg_none_of KX G ?z2,PySem.W.mg_none_of KX G ?z3,PySem.W.mg_none_of KX G ?z4,PySem.W.mg_none_of KX G ?z5,PySem.W.mg_none_of KX G ?z6,PySem.W.mg_none_of KX G ?z7,PySem.W.mg_none_of KX G ?z8,PySem.W.mg_none_of KX G ?z9,PySem.W.mg_none_of KX G ?z10,PySem.W.mg_none_of KX G ?z11,PySem.W.mg_none_of KX G ?z12,g13⟩
   (case z0=>k_is); (case z1=>k_is); (case z2=>k_is); (case z3=>k_is); (case z4=>k_is); (case z5=>k_is); (case z6=>k_is); (case z7=>k_is); (case z8=>k_is); (case z9=>k_is); (case z10=>k_is); (case z11=>k_is); (case z12=>k_is)
  have dd:My.Dds (L2.KOf KX) mg:=⟨d_law_cell_at,d_law_pen,d_law_next,d_law_draw,d_law_names,d_law_number,d_law_counted,d_law_terms,d_law_ends,d_law_gap,d_law_idled,d_law_set,d_kept_behind,d_size_of,d_plus,d_multiplied,d_span_of,d_reach_of_terms,d_reach,d_with_part,d_tallies_of,d_kept_count,d_is_whole,d_is_set,d_worth_of,d_keeps,d_worth_of_beginning,d_kept_ahead,d_number_of,d_number_at,d_nth,d_law_worth,d_law_keeps,d_law_sets_right,d_law_number_right,d_law_none_between⟩
  obtain ⟨f,fd,F,hm,_⟩:=d_law.ex
  have e0:=hmg.symm.trans hm
  cases e0
  exact ⟨fd,F.bind1 fun _ _ _ _ _ _ _=>rfl,fun base _ _=>My.ok_law F T dd⟩
#print axioms PySem.Challenge.cw_gaugewright_k34_whole_order_of_sets_holds
end